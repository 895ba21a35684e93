import PyProof.Rows.All
import Wide.All
import OpenK.AllK
import Wide.FinOn
import Lean
import PyProof.EqAt
import PyProof.EqKinds
import PyProof.TupleCall
import PyProof.Draws
import PyProof.ZipIter
import PySem.Challenge.RW_roomalgebra_k64_lots_and_groups
set_option Elab.async false
set_option linter.all false
set_option maxRecDepth 100000
namespace L2
open PySem PySem.Spec PyProof.Rows
abbrev Key:=Sum Int Str
def keyIs:Key->Value->Bool
 | .inl k,v=>Value.isInt k v
 | .inr x,v=>Value.isStrOf x v
def keyH (w:World):Key->Int
 | .inl k=>hashInt k
 | .inr x=>hashStr w x
theorem keyIs_shape:∀{k:Key} {v:Value},keyIs k v=true->(∃i t,k=Sum.inl i/\v=Value.int i t)\/(∃x t,k=Sum.inr x/\v=Value.str x t)
 | .inl i,v,h=>by
  obtain ⟨t,e⟩:=Value.isInt_shape (k:=i) (v:=v) h
  exact .inl ⟨i,t,rfl,e⟩
 | .inr x,v,h=>by
  obtain ⟨t,e⟩:=Value.isStrOf_shape (x:=x) (v:=v) h
  exact .inr ⟨x,t,rfl,e⟩
theorem key_ll (a b:Int):decide ((Sum.inl a:Key)=Sum.inl b)=(a==b):=by
 by_cases e:a=b
 ·subst e;simp
 ·have h:¬ (Sum.inl a:Key)=Sum.inl b:=fun q=>e (Sum.inl.inj q)
  rw [decide_eq_false h]
  exact (beq_eq_false_iff_ne.mpr e).symm
theorem key_rr (a b:Str):decide ((Sum.inr a:Key)=Sum.inr b)=decide (a=b):=by
 by_cases e:a=b
 ·subst e;simp
 ·have h:¬ (Sum.inr a:Key)=Sum.inr b:=fun q=>e (Sum.inr.inj q)
  rw [decide_eq_false h,decide_eq_false e]
theorem key_lr (a:Int) (b:Str):decide ((Sum.inl a:Key)=Sum.inr b)=false:=decide_eq_false (fun q=>nomatch q)
theorem key_rl (a:Str) (b:Int):decide ((Sum.inr a:Key)=Sum.inl b)=false:=decide_eq_false (fun q=>nomatch q)
def mixKind (prog:Program) (w:World):PySem.KeyKind prog w Key where
 is:=keyIs
 hash:=keyH w
 inj:=fun v a b ha hb=>by
  rcases keyIs_shape ha with ⟨i,t,rfl,rfl⟩ | ⟨x,t,rfl,rfl⟩
  ·rcases keyIs_shape hb with ⟨j,u,rfl,e⟩ | ⟨y,u,rfl,e⟩
   ·injection e with e1 _;rw [e1]
   ·exact nomatch e
  ·rcases keyIs_shape hb with ⟨j,u,rfl,e⟩ | ⟨y,u,rfl,e⟩
   ·exact nomatch e
   ·injection e with e1 _;rw [e1]
 byValue:=fun k v h=>by
  rcases keyIs_shape h with ⟨i,t,rfl,rfl⟩ | ⟨x,t,rfl,rfl⟩ <;> rfl
 pyHash:=fun hv h=>by
  rcases keyIs_shape hv with ⟨i,t,rfl,rfl⟩ | ⟨x,t,rfl,rfl⟩
  ·exact wpAny_pyHash_int h
  ·exact wpAny_pyHash_str h
 eqBool:=fun hu hv h=>by
  rcases keyIs_shape hu with ⟨i,t,rfl,rfl⟩ | ⟨x,t,rfl,rfl⟩
  ·rcases keyIs_shape hv with ⟨j,u,rfl,rfl⟩ | ⟨y,u,rfl,rfl⟩
   ·rw [key_ll] at h;exact wpAny_eqBool_int h
   ·rw [key_lr] at h;exact SeqAt.EqAt.int_str i t y u _ _ _ _ h
  ·rcases keyIs_shape hv with ⟨j,u,rfl,rfl⟩ | ⟨y,u,rfl,rfl⟩
   ·rw [key_rl] at h;exact SeqAt.EqAt.str_int x t j u _ _ _ _ h
   ·rw [key_rr] at h;exact wpAny_eqBool_str h
 «strs»:=fun k x t v h=>by
  rcases keyIs_shape h with ⟨i,u,rfl,e⟩ | ⟨y,u,rfl,e⟩
  ·exact nomatch e
  ·injection e with e1 _
   subst e1
   cases v <;> rfl
inductive V where
 | non | bl (b:Bool) | int (i:Int) | str (x:Str) | byt (b:Array UInt8) | flt (b:UInt64) | ref (a:Addr) | ty (n:String)
 deriving DecidableEq
def RelV:V->Value->Prop
 | .non,u=>u=Value.none
 | .bl b,u=>u=Value.bool b
 | .int i,u=>∃t,u=Value.int i t
 | .str x,u=>∃t,u=Value.str x t
 | .byt b,u=>∃t,u=Value.bytes b t
 | .flt b,u=>∃t,u=Value.float b t
 | .ref a,u=>u=Value.ref a
 | .ty n,u=>u=Value.type n
abbrev Vals:List V->List Value->Prop:=Paired RelV
theorem Vals.length (r:Vals xs us):xs.length=us.length:=Paired.length r
theorem Vals.get:∀{xs:List V} {us:List Value} {i:Nat} {x:V},Vals xs us->xs[i]?=some x->∃u,us[i]?=some u/\RelV x u
 | _,_,_,_,.nil,e=>by simp at e
 | _,_,0,_,.cons r _,e=>by simp at e;subst e;exact ⟨_,rfl,r⟩
 | _,_,i+1,x,.cons _ t,e=>by
  obtain ⟨u,h1,h2⟩:=Vals.get (i:=i) (x:=x) t (by simpa using e)
  exact ⟨u,by simpa using h1,h2⟩
theorem Vals.append:∀{xs ys:List V} {us ws:List Value},Vals xs us->Vals ys ws->Vals (xs++ys) (us++ws)
 | _,_,_,_,.nil,s=>s
 | _,_,_,_,.cons r t,s=>.cons r (Vals.append t s)
theorem Vals.take:∀{xs:List V} {us:List Value} (n:Nat),Vals xs us->Vals (xs.take n) (us.take n)
 | _,_,0,_=>.nil
 | _,_,_+1,.nil=>.nil
 | _,_,n+1,.cons r t=>.cons r (Vals.take n t)
theorem Vals.drop:∀{xs:List V} {us:List Value} (n:Nat),Vals xs us->Vals (xs.drop n) (us.drop n)
 | _,_,0,r=>r
 | _,_,_+1,.nil=>.nil
 | _,_,n+1,.cons _ t=>Vals.drop n t
def RelO:Option V->Option Value->Prop
 | some v,some u=>RelV v u
 | none,none=>True
 | _,_=>False
def KV {κ:Type}:List (κ×V)->List (κ×Value)->Prop:=Paired fun (p:κ×V) (q:κ×Value)=>p.1=q.1/\RelV p.2 q.2
def kV:Key->V
 | .inl i=>.int i
 | .inr x=>.str x
inductive HO where
  | lst (xs:List V)
  | tup (xs:List V)
  | dK (kvs:List (Key×V)) | dT (kvs:List (List Key×V))
  | set (S:Int->Bool) (n:Nat)
  | ins (C dx:Addr) (fs:List (Str×V))
  | own (x:Addr)
  | xd (fs:List (Str×V))
  | met (f x:Addr)
  | rng (lo hi:Int)
  | frz (o:Obj) (u:HO)
  | tbl (ps:Array Value)
  | ext (φ:Heap->Prop)
abbrev Hp:=Addr->Option HO
def upd (H:Hp) (a:Addr) (o:HO):Hp:=fun b=>if b=a then some o else H b
theorem upd_same:upd H a o a=some o:=by unfold upd;rw [if_pos rfl]
theorem upd_ne (h:b≠a):upd H a o b=H b:=by unfold upd;rw [if_neg h]
theorem d_i:upd (upd H a o) a u=upd H a u:=by
 funext b;unfold upd;split <;> rfl
theorem ne_of {H:Hp} (h:H a=some o) (h':H b=some u) (d:o≠u):a≠b:=by
 intro e;subst e;rw [h] at h';exact d (Option.some.inj h')
theorem ne_of_none {H:Hp} (h:H a=some o) (h':H b=none):a≠b:=by
 intro e;subst e;rw [h] at h';cases h'
section
variable (P:Program) (w:World)
def a_V (H:Hp) (h:Heap) (a:Addr):HO->Prop
 | .lst xs=>xs.length≤sizeLine/\∃(its:List Value) (n:Nat),Vals xs its/\h.get? a=some { cls:=.type "list",data:=.seq its.toArray n }
 | .tup xs=>xs.length≤sizeLine/\∃its:List Value,Vals xs its/\IsTup h a its.toArray
 | .dK kvs=>kvs.length≤sizeLine/\(a==sysModules)=false/\∃vs,KV kvs vs/\h.DictOf (mixKind P w) a vs
 | .dT kvs=>kvs.length≤sizeLine/\(a==sysModules)=false/\∃xs:List (List Key×Addr×Value),
   Paired (fun (p:List Key×V) (q:List Key×Addr×Value)=>p.1=q.1/\H q.2.1=some (.tup (p.1.map kV))/\RelV p.2 q.2.2) kvs xs/\
   ∃o es ep,h.get? a=some o/\o.ExactDict/\o.data=.dict es ep/\es.toList=xs.map (entryOfKey (tupleKind (mixKind P w)))/\(xs.map (·.1)).Nodup
 | .set S n=>h.SetOf (intKind P w) a S n
 | .ins C dx fs=>H dx=some (.own a)/\fs.length≤1000/\dx≠a/\h.get? a=some (PySem.W.instObj C dx)/\
   ∃mA,h.Ns1 dx mA/\(∀f,RelO (fs.lookup f) (mA f))/\PySem.Within mA (fs.map (·.1))
 | .own _=>∃o,h.get? a=some o
 | .xd fs=>∃mA,h.Ns1 a mA/\∀f,RelO (fs.lookup f) (mA f)
 | .rng lo hi=>∃t u v,h.get? a=some { cls:=.type "range",data:=.fields #[.int lo t,.int hi u,.int 1 v] }
 | .frz o u=>h.get? a=some o/\a_V H h a u
 | .tbl ps=>h.get? a=some { cls:=.none,data:=.fields ps }
 | .met f x=>h.get? a=some (PySem.W.methodObj (.ref f) (.ref x))
 | .ext φ=>φ h/\(∃o,h.get? a=some o)/\∀h1 h2:Heap,φ h1->(∀o,h1.get? a=some o->h2.get? a=some o)->φ h2
def HOk (H:Hp) (h:Heap):Prop:=∀a o,H a=some o->a_V P w H h a o
end
section
variable {P:Program} {w:World} {H H':Hp} {h h':Heap} {a:Addr} {o:HO}
theorem a_V.lt (x:a_V P w H h a o):a<h.objs.size:=by
 cases o with
 | lst xs=>obtain ⟨_,_,_,_,e⟩:=x;exact Heap.lt_size e
 | tup xs=>obtain ⟨_,_,_,p⟩:=x;exact p.lt
 | dK kvs=>obtain ⟨_,_,_,_,o,_,_,e,_⟩:=x;exact Heap.lt_size e
 | dT kvs=>obtain ⟨_,_,_,_,o,_,_,e,_⟩:=x;exact Heap.lt_size e
 | set S n=>obtain ⟨o,_,_,_,e,_⟩:=x;exact Heap.lt_size e
 | ins C dx fs=>obtain ⟨_,_,_,e,_⟩:=x;exact Heap.lt_size e
 | own y=>obtain ⟨_,e⟩:=x;exact Heap.lt_size e
 | xd fs=>obtain ⟨_,⟨_,_,_,e,_⟩,_⟩:=x;exact Heap.lt_size e
 | rng lo hi=>obtain ⟨_,_,_,e⟩:=x;exact Heap.lt_size e
 | frz ob u=>obtain ⟨e,_⟩:=x;exact Heap.lt_size e
 | tbl ps=>exact Heap.lt_size (show h.get? a=some _ from x)
 | met f y=>exact Heap.lt_size (show h.get? a=some _ from x)
 | ext φ=>obtain ⟨_,⟨_,e⟩,_⟩:=x;exact Heap.lt_size e
theorem Paired.mapP {α β:Type} {F G:α->β->Prop}:∀{l₁:List α} {l₂:List β},Paired F l₁ l₂->(∀a b,F a b->G a b)->Paired G l₁ l₂
 | _,_,.nil,_=>.nil
 | _,_,.cons r t,f=>.cons (f _ _ r) (Paired.mapP t f)
theorem a_V.stay (x:a_V P w H h a o) (k:∀b u,(b=a\/H b=some (.own a))->h.get? b=some u->h'.get? b=some u)
  (ho:∀b,H b=some (.own a)->H' b=some (.own a)) (ht:∀b xs,H b=some (.tup xs)->H' b=some (.tup xs)):a_V P w H' h' a o:=by
 induction o with
 | lst xs=>obtain ⟨z,its,n,r,e⟩:=x;exact ⟨z,its,n,r,k _ _ (.inl rfl) e⟩
 | tup xs=>obtain ⟨z,its,r,ob,e,c⟩:=x;exact ⟨z,its,r,ob,k _ _ (.inl rfl) e,c⟩
 | dK kvs=>obtain ⟨z,y,vs,r,ob,es,ep,e,c⟩:=x;exact ⟨z,y,vs,r,ob,es,ep,k _ _ (.inl rfl) e,c⟩
 | dT kvs=>
  obtain ⟨z,y,xs,r,ob,es,ep,e,c⟩:=x
  exact ⟨z,y,xs,Paired.mapP r fun p q z=>⟨z.1,ht _ _ z.2.1,z.2.2⟩,ob,es,ep,k _ _ (.inl rfl) e,c⟩
 | set S n=>obtain ⟨ob,es,ep,t,e,c⟩:=x;exact ⟨ob,es,ep,t,k _ _ (.inl rfl) e,c⟩
 | ins C dx fs=>
  obtain ⟨d,z,ne,e,mA,⟨od,es,ep,e2,c⟩,r⟩:=x
  exact ⟨ho _ d,z,ne,k _ _ (.inl rfl) e,mA,⟨od,es,ep,k _ _ (.inr d) e2,c⟩,r⟩
 | own y=>obtain ⟨ob,e⟩:=x;exact ⟨ob,k _ _ (.inl rfl) e⟩
 | xd fs=>obtain ⟨mA,⟨od,es,ep,e,c⟩,r⟩:=x;exact ⟨mA,⟨od,es,ep,k _ _ (.inl rfl) e,c⟩,r⟩
 | rng lo hi=>obtain ⟨t,u,v,e⟩:=x;exact ⟨t,u,v,k _ _ (.inl rfl) e⟩
 | frz ob u ih=>obtain ⟨e,q⟩:=x;exact ⟨k _ _ (.inl rfl) e,ih q⟩
 | tbl ps=>
  have e:h.get? a=some { cls:=.none,data:=.fields ps }:=x
  show h'.get? a=some { cls:=.none,data:=.fields ps }
  exact k a _ (.inl rfl) e
 | met f y=>
  have e:h.get? a=some (PySem.W.methodObj (.ref f) (.ref y)):=x
  show h'.get? a=some (PySem.W.methodObj (.ref f) (.ref y))
  exact k a _ (.inl rfl) e
 | ext φ=>obtain ⟨p,⟨o,e⟩,st⟩:=x;exact ⟨st _ _ p fun o q=>k _ _ (.inl rfl) q,⟨o,k _ _ (.inl rfl) e⟩,st⟩
theorem HOk.lt (x:HOk P w H h) (e:H a=some o):a<h.objs.size:=(x a o e).lt
theorem HOk.fresh (x:HOk P w H h) (e:h.objs.size≤a):H a=none:=by
 cases q:H a with
 | none=>rfl
 | some u=>exact absurd (Nat.lt_of_lt_of_le (x.lt q) e) (Nat.lt_irrefl _)
theorem HOk.kept (x:HOk P w H h) (k:∀b u,h.get? b=some u->h'.get? b=some u):HOk P w H h':=fun a o e=>
 (x a o e).stay (fun b u _ q=>k b u q) (fun _ q=>q) fun _ _ q=>q
theorem HOk.laid (x:HOk P w H h) (k:∀b u,h.get? b=some u->h'.get? b=some u) (hp:h.objs.size≤a) (new:a_V P w (upd H a o) h' a o):HOk P w (upd H a o) h':=fun b u e=>by
 have hn:=x.fresh hp
 by_cases hb:b=a
 ·subst hb;rw [upd_same] at e;cases e;exact new
 ·rw [upd_ne hb] at e
  exact (x b u e).stay (fun c v _ q=>k c v q) (fun c q=>by rw [upd_ne (ne_of_none q hn)];exact q) fun c xs q=>by rw [upd_ne (ne_of_none q hn)];exact q
end
def Rd (H:Hp) (a:Addr) (u:HO):Prop:=H a=some u\/∃o,H a=some (.frz o u)
theorem Rd.ok (r:Rd H a u) (x:HOk P w H h):a_V P w H h a u:=by
 rcases r with r | ⟨o,r⟩
 ·exact x a u r
 ·obtain ⟨_,q⟩:=x a _ r
  exact q
def Mut:Option HO->Prop
 | some (.lst _)=>True
 | some (.dK _)=>True
 | some (.dT _)=>True
 | some (.set _ _)=>True
 | some (.ins _ _ _)=>True
 | some (.ext _)=>True
 | _=>False
section
variable {P:Program} {w:World} {H:Hp} {h h':Heap} {x e:Addr} {o':HO}
theorem HOk.write (ok:HOk P w H h) (mu:Mut (H x)) (he:e=x\/H e=some (.own x)) (k:∀b u,b≠e->h.get? b=some u->h'.get? b=some u) (heo:∃u,h'.get? e=some u)
  (new:a_V P w (upd H x o') h' x o'):HOk P w (upd H x o') h':=fun b u q=>by
 have nown:∀c y,H c=some (.own y)->c≠x:=fun c y r z=>by subst z;rw [r] at mu;exact mu
 have ntup:∀c xs,H c=some (.tup xs)->c≠x:=fun c xs r z=>by subst z;rw [r] at mu;exact mu
 by_cases hb:b=x
 ·subst hb;rw [upd_same] at q;cases q;exact new
 ·rw [upd_ne hb] at q
  by_cases hbe:b=e
  ·have q':H b=some (.own x):=by
    rcases he with z | z
    ·exact absurd (hbe.trans z) hb
    ·rw [hbe];exact z
   rw [q] at q';cases q'
   obtain ⟨v,hv⟩:=heo
   exact ⟨v,by rw [hbe];exact hv⟩
  ·refine (ok b u q).stay (fun c v hc r=>k c v ?_ r) (fun c r=>by rw [upd_ne (nown c b r)];exact r) fun c xs r=>by rw [upd_ne (ntup c xs r)];exact r
   rcases hc with rfl | hc
   ·exact hbe
   ·rintro rfl
    rcases he with z | z
    ·exact nown c b hc z
    ·rw [hc] at z;cases z;exact hb rfl
end
structure Un (fs ex:List Addr) (H H':Hp) (h h':Heap):Prop where
 keep:∀b o,h.get? b=some o->H b=none->b∉fs->b∉ex->h'.get? b=some o
 slot:∀b o,h.get? b=some o->H b=none->b∈fs->b∉ex->∃sl,h'.get? b=some { o with slots:=sl }
 free:∀b o,h.get? b=some o->H b=none->b∉ex->H' b=none
 there:∀b o,h.get? b=some o->b∉ex->∃o',h'.get? b=some o'
 tups:∀b xs,H b=some (.tup xs)->H' b=some (.tup xs)
 frzs:∀b o u,H b=some (.frz o u)->H' b=some (.frz o u)
 tbls:∀b ps,H b=some (.tbl ps)->∃more,H' b=some (.tbl (ps++more))
section
variable {fs fs' ex ex':List Addr} {H H1 H2:Hp} {h h1 h2 h':Heap} {a x e:Addr} {o:HO}
theorem Un.any (u:Un fs ex H H1 h h1) (q:h.get? b=some ob) (n:H b=none) (hx:b∉ex):∃sl,h1.get? b=some { ob with slots:=sl }:=by
 by_cases hb:b∈fs
 ·exact u.slot b ob q n hb hx
 ·exact ⟨ob.slots,u.keep b ob q n hb hx⟩
theorem Un.kept (k:∀b u,h.get? b=some u->h'.get? b=some u):Un fs ex H H h h':=
 ⟨fun b ob q _ _ _=>k b ob q,fun b ob q _ _ _=>⟨ob.slots,k b ob q⟩,fun _ _ _ n _=>n,fun b ob q _=>⟨ob,k b ob q⟩,fun _ _ q=>q,fun _ _ _ q=>q,fun _ ps q=>⟨#[],by rw [q];simp⟩⟩
theorem Un.refl:Un fs ex H H h h:=Un.kept fun _ _ q=>q
theorem Un.laid (k:∀b u,h.get? b=some u->h'.get? b=some u) (hp:h.objs.size≤a) (hn:H a=none):Un fs ex H (upd H a o) h h' where
 keep:=fun b u q _ _ _=>k b u q
 slot:=fun b u q _ _ _=>⟨u.slots,k b u q⟩
 free:=fun b u q n _=>by rw [upd_ne (Nat.ne_of_lt (Nat.lt_of_lt_of_le (Heap.lt_size q) hp))];exact n
 there:=fun b u q _=>⟨u,k b u q⟩
 tups:=fun b xs q=>by rw [upd_ne (ne_of_none q hn)];exact q
 frzs:=fun b u xs q=>by rw [upd_ne (ne_of_none q hn)];exact q
 tbls:=fun b ps q=>⟨#[],by rw [upd_ne (ne_of_none q hn),q];simp⟩
theorem Un.write (mu:Mut (H x)) (he:e=x\/H e=some (.own x)) (k:∀b u,b≠e->h.get? b=some u->h'.get? b=some u) (heo:∃u,h'.get? e=some u):Un fs ex H (upd H x o) h h':=by
 have hx:∀b,H b=none->b≠x:=fun b n z=>by subst z;rw [n] at mu;exact mu
 have hb:∀b,H b=none->b≠e:=fun b n z=>by
  subst z
  rcases he with r | r
  ·exact hx b n r
  ·rw [n] at r;cases r
 have hm:∀b u,H b=some u->¬ Mut (some u)->b≠x:=fun b u q nm z=>by subst z;rw [q] at mu;exact nm mu
 refine ⟨fun b u q n _ _=>k b u (hb b n) q,fun b u q n _ _=>⟨u.slots,k b u (hb b n) q⟩,fun b u q n _=>by rw [upd_ne (hx b n)];exact n,fun b u q _=>?_,
  fun b xs q=>by rw [upd_ne (hm b _ q fun z=>z)];exact q,fun b u xs q=>by rw [upd_ne (hm b _ q fun z=>z)];exact q,fun b ps q=>⟨#[],by rw [upd_ne (hm b _ q fun z=>z),q];simp⟩⟩
 by_cases hbe:b=e
 ·subst hbe;exact heo
 ·exact ⟨u,k b u hbe q⟩
end
def trk (h:Heap) (H:Hp):List Addr:=(List.range h.objs.size).filter fun a=>(H a).isSome
def hidT (h:Heap) (H:Hp):Heap:=PySem.W.hideAll h (trk h H)
theorem hidT_size (h:Heap) (H:Hp):(hidT h H).objs.size=h.objs.size:=PySem.W.hideAll_size _ _
theorem hidT_get (e:h.get? b=some o) (n:H b=none):(hidT h H).get? b=some o:=
 PySem.W.hideAll_get _ e fun hm=>by
  have q:(H b).isSome=true:=(List.mem_filter.mp hm).2
  rw [n] at q;simp at q
theorem of_hidT (e:(hidT h H).get? b=some o):h.get? b=some o/\H b=none:=by
 have e':h.get? b=some o:=PySem.W.of_hideAll (trk h H) e
 refine ⟨e',?_⟩
 cases q:H b with
 | none=>rfl
 | some x=>
  have hm:b∈trk h H:=List.mem_filter.mpr ⟨List.mem_range.mpr (Heap.lt_size e'),by simp [q]⟩
  have z:(hidT h H).get? b=none:=PySem.W.hideAll_none (trk h H) hm
  rw [z] at e;cases e
structure Mod (K:PySem.W.Frag) (mg:Str->Option Value) (base:Heap):Prop where
 kin:K.In base
 glob:base.Ns mainGlobals mg
 blt:∃mb,base.Ns builtinsNs mb/\∀x:Str,x≠"__name__"->mb x=bootBuiltins x
 nolimit:base.NoLimit
structure Cx where
 prog:Program
 w:World
 K:PySem.W.Frag
 mg:Str->Option Value
 base:Heap
 A:Around
 N:List Str
 s₀:Shared
 H₀:Hp
 env:Env
 outer:List Env
 stack:List Env
 ex:List Addr
 fn:Str->Bool
 calm:Bool
 pn:List (Addr×Obj)
 xe:Value->Shared->Prop
def frs (l:List Env):List Addr:=l.filterMap (·.frame)
abbrev Cx.fs (X:Cx):List Addr:=frs X.outer
def Vis (sc:Scope) (x:Str):Prop:=sc.names.lookup x=some .local\/sc.names.lookup x=some .cell\/sc.names.lookup x=some .free
def Loc (sc:Scope) (x:Str):Prop:=sc.names.lookup x=some .local\/sc.names.lookup x=some .cell
def Look (env:Env) (h:Heap) (m:Str->Option Value) (x:Str) (u:Value):Prop:=
 (env.kindOf x=some .local/\m x=some u)\/((env.kindOf x=some .cell\/env.kindOf x=some .free)/\∃c,env.cells.lookup x=some c/\h.IsCell c (some u))
structure Cx.Ok (X:Cx):Prop where
 mod:Mod X.K X.mg X.base
 kind:X.env.scope.kind=.function
 glob:X.env.globals=mainGlobals
 blt:X.env.builtins=builtinsNs
 above:X.s₀.heap.objs.size≤X.env.locals
 inj:∀x y c,X.env.cells.lookup x=some c->X.env.cells.lookup y=some c->x=y
 has:∀x,(X.env.kindOf x=some .cell\/X.env.kindOf x=some .free)->∃c,X.env.cells.lookup x=some c
 cab:∀x c,X.fn x=true->X.env.cells.lookup x=some c->X.s₀.heap.objs.size≤c
 hd:X.calm=true->X.A.handled=none
 frames:X.A.frames=some X.stack
 stk:X.stack=X.outer\/(X.stack=X.env::X.outer/\X.env.frame=some X.env.locals)
 exf:∀b∈X.ex,b≠X.env.locals/\∀x c,X.env.cells.lookup x=some c->c≠b
 bs:∀b o,X.base.get? b=some o->X.s₀.heap.get? b=some o/\X.H₀ b=none
 bsz:X.base.objs.size≤X.s₀.heap.objs.size
 noex:∀b o,X.base.get? b=some o->b∉X.ex
 exfs:∀b∈X.ex,b∉X.fs
 funs:X.s₀.heap.FunFrames X.base X.outer
 frf:∀b∈X.fs,X.H₀ b=none
structure Inv (X:Cx) (pins:List (Addr×Obj)) (σ:List (Option V)) (H:Hp) (s:Shared):Prop where
 ok:X.Ok
 os:s.os=X.s₀.os
 bare:AllBare s.gens
 base:Un X.fs X.ex X.H₀ H X.s₀.heap s.heap
 loc:∃m,s.heap.Ns X.env.locals m/\∀(i:Nat) (x:Str) (v:V),X.N[i]?=some x->σ[i]?=some (some v)->Vis X.env.scope x->∃u,RelV v u/\Look X.env s.heap m x u
 cell:∀x c,X.env.cells.lookup x=some c->∃v,s.heap.IsCell c v
 free:H X.env.locals=none
 freeC:∀x c,X.env.cells.lookup x=some c->H c=none
 pin:∀p∈X.pn++pins,s.heap.get? p.1=some p.2/\H p.1=none/\p.1≠X.env.locals/\p.1∉X.fs/\∀v,p.2.data≠.cell v
 hok:HOk X.prog X.w H s.heap
 len:σ.length=X.N.length
section
variable {X:Cx} {pins:List (Addr×Obj)} {σ:List (Option V)} {H H':Hp} {s:Shared} {h':Heap}
theorem Cx.Ok.nofr (ok:X.Ok) (e:X.base.get? b=some o):b∉X.fs:=fun hb=>by
 have:=(ok.funs.mem hb).1
 rw [e] at this;cases this
theorem Inv.bs (I:Inv X pins σ H s):∀b o,X.base.get? b=some o->s.heap.get? b=some o/\H b=none:=fun b o e=>
 ⟨I.base.keep b o (I.ok.bs b o e).1 (I.ok.bs b o e).2 (I.ok.nofr e) (I.ok.noex b o e),I.base.free b o (I.ok.bs b o e).1 (I.ok.bs b o e).2 (I.ok.noex b o e)⟩
theorem Inv.bk (I:Inv X pins σ H s):∀b o,X.base.get? b=some o->s.heap.get? b=some o:=fun b o e=>(I.bs b o e).1
theorem Inv.mod (I:Inv X pins σ H s):Mod X.K X.mg X.base:=I.ok.mod
theorem Inv.kIn (I:Inv X pins σ H s):X.K.In s.heap:=I.ok.mod.kin.keeps I.bk
theorem Inv.lt (I:Inv X pins σ H s):X.env.locals<s.heap.objs.size:=let ⟨_,hn,_⟩:=I.loc;hn.lt
theorem Inv.sz (I:Inv X pins σ H s):X.s₀.heap.objs.size≤s.heap.objs.size:=Nat.le_trans I.ok.above (Nat.le_of_lt I.lt)
theorem Inv.nofs (I:Inv X pins σ H s) {a:Addr} (h:s.heap.objs.size≤a):a∉X.fs:=fun hb=>by
 obtain ⟨_,o,ho,_⟩:=I.ok.funs.mem hb
 exact absurd (Nat.lt_of_lt_of_le (Heap.lt_size ho) (Nat.le_trans I.sz h)) (Nat.lt_irrefl _)
theorem Inv.cne (I:Inv X pins σ H s):∀x c,X.env.cells.lookup x=some c->c≠X.env.locals:=fun x c e z=>by
 obtain ⟨v,o,ho,hd⟩:=I.cell x c e
 obtain ⟨m,⟨o',es,ep,ho',hd',_⟩,_⟩:=I.loc
 rw [z,ho'] at ho;cases ho;rw [hd'] at hd;cases hd
theorem Inv.funs (I:Inv X pins σ H s):s.heap.FunFrames X.base X.outer:=by
 have all:∀(l:List Env),(∀b∈frs l,b∈X.fs)->X.s₀.heap.FunFrames X.base l->s.heap.FunFrames X.base l:=by
  intro l
  induction l with
  | nil=>intro _ _;trivial
  | cons env r ih=>
   intro hs hl
   obtain ⟨hk,⟨L,o,hf,hn,ho,hd⟩,hr⟩:=hl
   have hL:L∈X.fs:=hs L (by unfold frs;rw [List.filterMap_cons,hf];exact List.mem_cons_self)
   obtain ⟨sl,e⟩:=I.base.slot L o ho (I.ok.frf L hL) hL fun z=>I.ok.exfs L z hL
   exact ⟨hk,⟨L,_,hf,hn,e,hd⟩,ih (fun b hb=>hs b (by unfold frs;rw [List.filterMap_cons,hf];exact List.mem_cons_of_mem _ hb)) hr⟩
 exact all X.outer (fun _ hb=>hb) I.ok.funs
theorem Inv.stack (I:Inv X pins σ H s):s.heap.FunFrames X.base X.stack:=by
 rcases I.ok.stk with e | ⟨e,hf⟩
 ·rw [e];exact I.funs
 ·rw [e]
  obtain ⟨m,hn,_⟩:=I.loc
  refine .cons (by rw [I.ok.kind];decide) hf hn ?_ I.funs
  exact Heap.get?_none_of_le (Nat.le_trans I.ok.bsz I.ok.above)
theorem Inv.stkSub (I:Inv X pins σ H s):∀b∈frs X.stack,b∈X.env.locals::X.fs:=fun b hb=>by
 rcases I.ok.stk with e | ⟨e,hf⟩
 ·rw [e] at hb;exact List.mem_cons_of_mem _ hb
 ·rw [e] at hb
  unfold frs at hb
  rw [List.filterMap_cons,hf] at hb
  exact hb
theorem Inv.stkFree (I:Inv X pins σ H s):∀b∈frs X.stack,H b=none:=fun b hb=>by
 rcases List.mem_cons.mp (I.stkSub b hb) with e | hb
 ·rw [e];exact I.free
 ·obtain ⟨_,o,ho,_⟩:=I.ok.funs.mem hb
  exact I.base.free b o ho (I.ok.frf b hb) fun z=>I.ok.exfs b z hb
theorem Inv.step {ch:List Addr} (I:Inv X pins σ H s)
  (hch:∀b∈ch,(b∈X.ex\/X.s₀.heap.objs.size≤b)/\b≠X.env.locals/\(∀x c,X.env.cells.lookup x=some c->c≠b)/\∀p∈X.pn++pins,p.1≠b)
  (keep:∀b o,b≠X.env.locals->b∉X.fs->b∉ch->s.heap.get? b=some o->H b=none->h'.get? b=some o)
  (slot:∀b o,b≠X.env.locals->b∈X.fs->b∉ch->s.heap.get? b=some o->H b=none->∃sl,h'.get? b=some { o with slots:=sl }) (free:∀b o,b∉ch->s.heap.get? b=some o->H b=none->H' b=none)
  (there:∀b o,b∉ch->s.heap.get? b=some o->∃o',h'.get? b=some o')
  (tups:∀b xs,H b=some (.tup xs)->H' b=some (.tup xs)) (frzs:∀b o u,H b=some (.frz o u)->H' b=some (.frz o u)) (tbls:∀b ps,H b=some (.tbl ps)->∃more,H' b=some (.tbl (ps++more)))
  (ns:∀m,s.heap.Ns X.env.locals m->h'.Ns X.env.locals m) (hok:HOk X.prog X.w H' h') (hg:AllBare g'):
  Inv X pins σ H' { s with heap:=h',gens:=g',drawn:=d',toks:=t' }:=by
 have neL:∀b o,X.s₀.heap.get? b=some o->b≠X.env.locals:=fun b o e=>Nat.ne_of_lt (Nat.lt_of_lt_of_le (Heap.lt_size e) I.ok.above)
 have neC:∀b o,X.s₀.heap.get? b=some o->b∉X.ex->b∉ch:=fun b o e hx hb=>by
  rcases (hch b hb).1 with z | z
  ·exact hx z
  ·exact absurd (Nat.lt_of_lt_of_le (Heap.lt_size e) z) (Nat.lt_irrefl _)
 have cellK:∀x c,X.env.cells.lookup x=some c->∀v,s.heap.IsCell c v->h'.IsCell c v:=fun x c e v ⟨o,ho,hd⟩=>by
  have nch:c∉ch:=fun z=>(hch c z).2.2.1 x c e rfl
  by_cases hc:c∈X.fs
  ·obtain ⟨sl,q⟩:=slot c o (I.cne x c e) hc nch ho (I.freeC x c e)
   exact ⟨_,q,hd⟩
  ·exact ⟨o,keep c o (I.cne x c e) hc nch ho (I.freeC x c e),hd⟩
 refine ⟨I.ok,I.os,hg,⟨fun b o e n hb hx=>?_,fun b o e n hb hx=>?_,fun b o e n hx=>?_,fun b o e hx=>?_,fun b xs e=>tups b xs (I.base.tups b xs e),fun b o xs e=>frzs b o xs (I.base.frzs b o xs e),fun b ps e=>?_⟩,?_,fun x c e=>?_,?_,fun x c e=>?_,fun p hp=>?_,hok,I.len⟩
 ·exact keep b o (neL b o e) hb (neC b o e hx) (I.base.keep b o e n hb hx) (I.base.free b o e n hx)
 ·obtain ⟨sl,e1⟩:=I.base.slot b o e n hb hx
  obtain ⟨sl',e2⟩:=slot b _ (neL b o e) hb (neC b o e hx) e1 (I.base.free b o e n hx)
  exact ⟨sl',e2⟩
 ·obtain ⟨o',e1⟩:=I.base.there b o e hx
  exact free b o' (neC b o e hx) e1 (I.base.free b o e n hx)
 ·obtain ⟨o',e1⟩:=I.base.there b o e hx
  exact there b o' (neC b o e hx) e1
 ·obtain ⟨m1,e1⟩:=I.base.tbls b ps e
  obtain ⟨m2,e2⟩:=tbls b _ e1
  exact ⟨m1++m2,by rw [e2,Array.append_assoc]⟩
 ·obtain ⟨m,hn,hl⟩:=I.loc
  refine ⟨m,ns m hn,fun i x v e1 e2 e3=>?_⟩
  obtain ⟨u,r,l⟩:=hl i x v e1 e2 e3
  refine ⟨u,r,?_⟩
  rcases l with l | ⟨k,c,e,z⟩
  ·exact .inl l
  ·exact .inr ⟨k,c,e,cellK x c e _ z⟩
 ·obtain ⟨v,z⟩:=I.cell x c e
  exact ⟨v,cellK x c e v z⟩
 ·obtain ⟨m,⟨o,_,_,ho,_⟩,_⟩:=I.loc
  exact free _ o (fun z=>(hch _ z).2.1 rfl) ho I.free
 ·obtain ⟨v,o,ho,hd⟩:=I.cell x c e
  exact free c o (fun z=>(hch c z).2.2.1 x c e rfl) ho (I.freeC x c e)
 ·obtain ⟨e,n,ne,nf,d⟩:=I.pin p hp
  have nch:p.1∉ch:=fun z=>(hch p.1 z).2.2.2 p hp rfl
  exact ⟨keep p.1 p.2 ne nf nch e n,free p.1 p.2 nch e n,ne,nf,d⟩
theorem Inv.un (I:Inv X pins σ H s) (u:Un X.fs [] H H' s.heap h') (hok:HOk X.prog X.w H' h'):Inv X pins σ H' { s with heap:=h',toks:=t' }:=by
 obtain ⟨m,⟨o,es,ep,ho,r⟩,_⟩:=id I.loc
 obtain ⟨sl,hL⟩:=u.any ho I.free (by simp)
 exact I.step (g':=s.gens) (d':=s.drawn) (ch:=[]) (fun _ z=>nomatch z) (fun b o _ hb _ e n=>u.keep b o e n hb (by simp)) (fun b o _ hb _ e n=>u.slot b o e n hb (by simp)) (fun b o _ e n=>u.free b o e n (by simp)) (fun b o _ e=>u.there b o e (by simp)) u.tups u.frzs u.tbls (fun m' hm=>by
  obtain ⟨o',es',ep',ho',r'⟩:=hm
  rw [ho] at ho';cases ho'
  exact ⟨_,es',ep',hL,r'⟩) hok I.bare
theorem Inv.call (I:Inv X pins σ H s) (u:Un (frs X.stack) ch H H' s.heap h') (hok:HOk X.prog X.w H' h') (hg:AllBare g')
  (hch:∀b∈ch,(b∈X.ex\/X.s₀.heap.objs.size≤b)/\b≠X.env.locals/\(∀x c,X.env.cells.lookup x=some c->c≠b)/\∀p∈X.pn++pins,p.1≠b):
  Inv X pins σ H' { s with heap:=h',gens:=g',drawn:=d',toks:=t' }:=by
 obtain ⟨m,⟨o,es,ep,ho,r⟩,_⟩:=id I.loc
 obtain ⟨sl,hL⟩:=u.any ho I.free fun z=>(hch _ z).2.1 rfl
 exact I.step (ch:=ch) hch (fun b o hL hb hc e n=>u.keep b o e n (fun z=>(List.mem_cons.mp (I.stkSub b z)).elim hL hb) hc) (fun b o _ _ hc e n=>u.any e n hc) (fun b o hc e n=>u.free b o e n hc) (fun b o hc e=>u.there b o e hc) u.tups u.frzs u.tbls (fun m' hm=>by
  obtain ⟨o',es',ep',ho',r'⟩:=hm
  rw [ho] at ho';cases ho'
  exact ⟨_,es',ep',hL,r'⟩) hok hg
theorem Inv.turned (I:Inv X pins σ H s) (k:∀b o,b≠it->s.heap.get? b=some o->h'.get? b=some o) (hn:H it=none) (hL:it≠X.env.locals)
  (h1:it∈X.ex\/X.s₀.heap.objs.size≤it) (h2:∀x c,X.env.cells.lookup x=some c->c≠it) (h3:∀p∈X.pn++pins,p.1≠it):Inv X pins σ H { s with heap:=h',toks:=t' }:=by
 have nit:∀b u,H b=some u->b≠it:=fun b u e z=>by rw [z,hn] at e;cases e
 refine I.step (g':=s.gens) (d':=s.drawn) (ch:=[it]) (fun b hb=>?_) (fun b o _ _ hc e _=>k b o (fun z=>hc (by simp [z])) e) (fun b o _ _ hc e _=>⟨o.slots,k b o (fun z=>hc (by simp [z])) e⟩) (fun _ _ _ _ n=>n)
  (fun b o hc e=>⟨o,k b o (fun z=>hc (by simp [z])) e⟩) (fun _ _ e=>e) (fun _ _ _ e=>e) (fun b ps e=>⟨#[],by rw [e];simp⟩) (fun m hm=>?_) (fun b u e=>?_) I.bare
 ·have e:b=it:=by simpa using hb
  subst e
  exact ⟨h1,hL,h2,h3⟩
 ·obtain ⟨o,es,ep,ho,r⟩:=hm
  exact ⟨o,es,ep,k _ o (Ne.symm hL) ho,r⟩
 ·refine (I.hok b u e).stay (fun c v hc q=>k c v ?_ q) (fun _ q=>q) fun _ _ q=>q
  rcases hc with z | z
  ·rw [z];exact nit b u e
  ·exact nit c _ z
theorem Inv.tok (I:Inv X pins σ H s) (t:Nat):Inv X pins σ H { s with toks:=t }:=I.un (h':=s.heap) (t':=t) Un.refl I.hok
theorem Inv.kept (I:Inv X pins σ H s) (k:∀b u,s.heap.get? b=some u->h'.get? b=some u):Inv X pins σ H { s with heap:=h',toks:=t' }:=I.un (Un.kept k) (I.hok.kept k)
theorem Inv.laid {a:Addr} (I:Inv X pins σ H s) (k:∀b u,s.heap.get? b=some u->h'.get? b=some u) (hp:s.heap.objs.size≤a) (new:a_V X.prog X.w (upd H a o) h' a o):
  Inv X pins σ (upd H a o) { s with heap:=h',toks:=t' }:=I.un (Un.laid k hp (I.hok.fresh hp)) (I.hok.laid k hp new)
theorem Inv.write (I:Inv X pins σ H s) (mu:Mut (H x)) (he:e=x\/H e=some (.own x)) (k:∀b u,b≠e->s.heap.get? b=some u->h'.get? b=some u) (heo:∃u,h'.get? e=some u)
  (new:a_V X.prog X.w (upd H x o) h' x o):Inv X pins σ (upd H x o) { s with heap:=h',toks:=t' }:=I.un (Un.write mu he k heo) (I.hok.write mu he k heo new)
theorem Inv.pins_of (I:Inv X pins σ H s) (h:∀p∈pins',s.heap.get? p.1=some p.2/\H p.1=none/\p.1≠X.env.locals/\p.1∉X.fs/\∀v,p.2.data≠.cell v):Inv X pins' σ H s:=
 ⟨I.ok,I.os,I.bare,I.base,I.loc,I.cell,I.free,I.freeC,fun p hp=>(List.mem_append.mp hp).elim (fun z=>I.pin p (List.mem_append_left _ z)) (h p),I.hok,I.len⟩
theorem nodup_ix {N:List Str} (hN:N.Nodup) {i j:Nat} (a:N[i]?=some x) (b:N[j]?=some x):i=j:=by
 obtain ⟨h1,e1⟩:=List.getElem?_eq_some_iff.mp a
 obtain ⟨h2,e2⟩:=List.getElem?_eq_some_iff.mp b
 exact (List.getElem_inj hN).mp (e1.trans e2.symm)
theorem d_N (I:Inv X pins σ H s) (hN:X.N.Nodup) (hi:X.N[i]?=some x) (hx:Loc X.env.scope x) (r:RelV v u)
  (h:∀s',Inv X pins (σ.set i (some v)) H s'->(∃a,Heap.SameBut a s.heap s'.heap/\(a=X.env.locals\/X.env.cells.lookup x=some a))->Q () s') (hf:X.fn x=true\/X.env.scope.names.lookup x=some .local:=by first | exact .inl rfl | exact .inr rfl | assumption):wpAny M A (storeName X.env x u) Q E s:=by
 obtain ⟨m,hn,hl⟩:=id I.loc
 have hcls:(X.env.scope.kind==.class || (X.env.scope.kind==.module&&X.env.locals != X.env.globals))=false:=by rw [I.ok.kind];rfl
 have hiσ:i<σ.length:=by rw [I.len];exact (List.getElem?_eq_some_iff.mp hi).1
 have cne:=I.cne
 have tracked:∀{a:Addr} {h':Heap},(∃o,s.heap.get? a=some o/\H a=none)->Heap.SameBut a s.heap h'->HOk X.prog X.w H h':=fun {a h'} ha hs b ob e=>by
  obtain ⟨_,_,hfree⟩:=ha
  refine (I.hok b ob e).stay (fun c w' hc q=>(hs.2 c ?_).trans q) (fun _ q=>q) fun _ _ q=>q
  rintro rfl
  rcases hc with rfl | hc
  ·rw [hfree] at e;cases e
  ·rw [hfree] at hc;cases hc
 rcases hx with hk | hk
 ·refine wpAny_storeName_local hk hn (fun h' hn' hs=>?_) hcls
  obtain ⟨oL,_,_,hoL,_⟩:=id hn
  refine h _ ⟨I.ok,I.os,I.bare,⟨fun b o e n hb hx=>?_,fun b o e n hb hx=>?_,I.base.free,fun b o e hx=>?_,I.base.tups,I.base.frzs,I.base.tbls⟩,⟨_,hn',fun j y v' e1 e2 e3=>?_⟩,fun y c e=>?_,I.free,I.freeC,fun p hp=>?_,tracked ⟨oL,hoL,I.free⟩ hs,by simpa using I.len⟩ ⟨_,hs,.inl rfl⟩
  ·exact (hs.2 b (Nat.ne_of_lt (Nat.lt_of_lt_of_le (Heap.lt_size e) I.ok.above))).trans (I.base.keep b o e n hb hx)
  ·obtain ⟨sl,e1⟩:=I.base.slot b o e n hb hx
   exact ⟨sl,(hs.2 b (Nat.ne_of_lt (Nat.lt_of_lt_of_le (Heap.lt_size e) I.ok.above))).trans e1⟩
  ·obtain ⟨o',e1⟩:=I.base.there b o e hx
   exact ⟨o',(hs.2 b (Nat.ne_of_lt (Nat.lt_of_lt_of_le (Heap.lt_size e) I.ok.above))).trans e1⟩
  ·by_cases hj:j=i
   ·subst hj
    rw [hi] at e1;cases e1
    rw [List.getElem?_set_self hiσ] at e2
    cases e2
    exact ⟨u,r,.inl ⟨hk,by simp⟩⟩
   ·rw [List.getElem?_set_ne (Ne.symm hj)] at e2
    obtain ⟨u',r',q⟩:=hl j y v' e1 e2 e3
    refine ⟨u',r',?_⟩
    rcases q with ⟨k,e⟩ | ⟨k,c,e,z⟩
    ·refine .inl ⟨k,?_⟩
     have:y≠x:=fun e=>hj (nodup_ix hN e1 (e▸hi))
     simp [this,e]
    ·exact .inr ⟨k,c,e,z.sameBut hs (cne y c e)⟩
  ·obtain ⟨w',z⟩:=I.cell y c e
   exact ⟨w',z.sameBut hs (cne y c e)⟩
  ·obtain ⟨e,n,ne,nf,d⟩:=I.pin p hp
   exact ⟨(hs.2 p.1 ne).trans e,n,ne,nf,d⟩
 ·have hfn:X.fn x=true:=by
   rcases hf with z | z
   ·exact z
   ·rw [z] at hk;cases hk
  obtain ⟨c,hc⟩:=I.ok.has x (.inl hk)
  obtain ⟨w',z⟩:=I.cell x c hc
  refine wpAny_storeName_cell I.ok.kind hk hc z (fun h' hc' hs=>?_)
  obtain ⟨oc,hoc,hocd⟩:=id z
  refine h { s with heap:=h' } ⟨I.ok,I.os,I.bare,⟨fun b o e n hb hx=>?_,fun b o e n hb hx=>?_,I.base.free,fun b o e hx=>?_,I.base.tups,I.base.frzs,I.base.tbls⟩,⟨m,hn.sameBut hs (Ne.symm (cne x c hc)),fun j y v' e1 e2 e3=>?_⟩,fun y c' e=>?_,I.free,I.freeC,fun p hp=>?_,tracked ⟨oc,hoc,I.freeC x c hc⟩ hs,by simpa using I.len⟩ ⟨c,hs,.inr hc⟩
  ·exact (hs.2 b (Nat.ne_of_lt (Nat.lt_of_lt_of_le (Heap.lt_size e) (I.ok.cab x c hfn hc)))).trans (I.base.keep b o e n hb hx)
  ·obtain ⟨sl,e1⟩:=I.base.slot b o e n hb hx
   exact ⟨sl,(hs.2 b (Nat.ne_of_lt (Nat.lt_of_lt_of_le (Heap.lt_size e) (I.ok.cab x c hfn hc)))).trans e1⟩
  ·obtain ⟨o',e1⟩:=I.base.there b o e hx
   exact ⟨o',(hs.2 b (Nat.ne_of_lt (Nat.lt_of_lt_of_le (Heap.lt_size e) (I.ok.cab x c hfn hc)))).trans e1⟩
  ·by_cases hj:j=i
   ·subst hj
    rw [hi] at e1;cases e1
    rw [List.getElem?_set_self hiσ] at e2
    cases e2
    exact ⟨u,r,.inr ⟨.inl hk,c,hc,hc'⟩⟩
   ·rw [List.getElem?_set_ne (Ne.symm hj)] at e2
    obtain ⟨u',r',q⟩:=hl j y v' e1 e2 e3
    refine ⟨u',r',?_⟩
    rcases q with q | ⟨k,c',e,z'⟩
    ·exact .inl q
    ·refine .inr ⟨k,c',e,z'.sameBut hs ?_⟩
     rintro rfl
     exact hj (nodup_ix hN e1 (I.ok.inj _ _ _ e hc▸hi))
  ·by_cases hcc:c'=c
   ·subst hcc;exact ⟨_,hc'⟩
   ·obtain ⟨w2,z2⟩:=I.cell y c' e
    exact ⟨w2,z2.sameBut hs hcc⟩
  ·obtain ⟨e,n,ne,nf,d⟩:=I.pin p hp
   refine ⟨(hs.2 p.1 ?_).trans e,n,ne,nf,d⟩
   intro q
   rw [q,hoc] at e
   have q':oc=p.2:=Option.some.inj e
   exact d w' (by rw [<- q'];exact hocd)
theorem store_ok (I:Inv X pins σ H s) (hN:X.N.Nodup) (hi:X.N[i]?=some x) (hx:Loc X.env.scope x) (r:RelV v u)
  (h:∀s',Inv X pins (σ.set i (some v)) H s'->Q () s') (hf:X.fn x=true\/X.env.scope.names.lookup x=some .local:=by first | exact .inl rfl | exact .inr rfl | assumption):wpAny M A (storeName X.env x u) Q E s:=
 d_N I hN hi hx r (fun s' I' _=>h s' I') hf
theorem Inv.call' (I:Inv X pins σ H s) (ho:s'.os=s.os) (u:Un (frs X.stack) ch H H' s.heap s'.heap) (hok:HOk X.prog X.w H' s'.heap) (hg:AllBare s'.gens)
  (hch:∀b∈ch,(b∈X.ex\/X.s₀.heap.objs.size≤b)/\b≠X.env.locals/\(∀x c,X.env.cells.lookup x=some c->c≠b)/\∀p∈X.pn++pins,p.1≠b):Inv X pins σ H' s':=by
 obtain ⟨h',g',d',t',o'⟩:=s'
 have e:o'=s.os:=ho
 subst e
 exact I.call (g':=g') (t':=t') (d':=d') u hok hg hch
end
abbrev XK:=Value->Option Addr->Hp->Prop
abbrev St:=List (Option V)
abbrev VK:=V->Hp->Prop
abbrev TE:=St->Hp->VK->Prop
abbrev TT:=St->Hp->(Bool->Hp->Prop)->Prop
abbrev TA:=St->Hp->(List V->Hp->Prop)->Prop
structure Ends where
 nx:St->Hp->Prop
 rt:VK
 bk:St->Hp->Prop:=fun _ _=>False
 ct:St->Hp->Prop:=fun _ _=>False
abbrev TS:=Ends->St->Hp->Prop
def EP (X:Cx) (pins:List (Addr×Obj)) (σ:St) (Q:VK) (u:Value) (s':Shared):Prop:=∃v H',Inv X pins σ H' s'/\RelV v u/\Q v H'
def TP (X:Cx) (pins:List (Addr×Obj)) (σ:St) (Q:Bool->Hp->Prop) (b:Bool) (s':Shared):Prop:=∃H',Inv X pins σ H' s'/\Q b H'
def AP (X:Cx) (pins:List (Addr×Obj)) (σ:St) (Q:List V->Hp->Prop) (us:List Value) (s':Shared):Prop:=∃vs H',Inv X pins σ H' s'/\Vals vs us/\Q vs H'
def SP (X:Cx) (pins:List (Addr×Obj)) (D:Ends) (f:Flow) (s':Shared):Prop:=
 match f with
 | .next=>∃ σ' H',Inv X pins σ' H' s'/\D.nx σ' H'
 | .brk=>∃ σ' H',Inv X pins σ' H' s'/\D.bk σ' H'
 | .cont=>∃ σ' H',Inv X pins σ' H' s'/\D.ct σ' H'
 | .ret u=>∃v σ' H',Inv X pins σ' H' s'/\RelV v u/\D.rt v H'
def PE (X:Cx) (e:Expr) (t:TE):Prop:=
 ∀(pins:List (Addr×Obj)) (s:Shared) (σ:St) (H:Hp) (Q:VK),Inv X pins σ H s->t σ H Q->wpAny (model X.prog X.w) X.A (eval e X.env) (EP X pins σ Q) X.xe s
def PT (X:Cx) (e:Expr) (t:TT):Prop:=
 ∀(pins:List (Addr×Obj)) (s:Shared) (σ:St) (H:Hp) (Q:Bool->Hp->Prop),Inv X pins σ H s->t σ H Q->wpAny (model X.prog X.w) X.A (isTrue e X.env (eval e X.env)) (TP X pins σ Q) X.xe s
def PW (X:Cx) (e:Expr) (t:TT):Prop:=
 ∀(whole:Sem Value) (pins:List (Addr×Obj)) (s:Shared) (σ:St) (H:Hp) (Q:Bool->Hp->Prop),Inv X pins σ H s->t σ H Q->wpAny (model X.prog X.w) X.A (isTrue e X.env whole) (TP X pins σ Q) X.xe s
theorem PW.pt (h:PW X e t):PT X e t:=h _
def PA (X:Cx) (es:List Expr) (t:TA):Prop:=
 ∀(pos:Pos) (pins:List (Addr×Obj)) (s:Shared) (σ:St) (H:Hp) (Q:List V->Hp->Prop),Inv X pins σ H s->t σ H Q->wpAny (model X.prog X.w) X.A (spliced (backTo pos (starEach es X.env))) (AP X pins σ Q) X.xe s
def PS (X:Cx) (st:Stmt) (t:TS):Prop:=
 ∀(pins:List (Addr×Obj)) (s:Shared) (σ:St) (H:Hp) (D:Ends),Inv X pins σ H s->t D σ H->wpAny (model X.prog X.w) X.A (exec st X.env) (SP X pins D) X.xe s
def PSs (X:Cx) (st:List Stmt) (t:TS):Prop:=
 ∀(pins:List (Addr×Obj)) (s:Shared) (σ:St) (H:Hp) (D:Ends),Inv X pins σ H s->t D σ H->wpAny (model X.prog X.w) X.A (execs st X.env) (SP X pins D) X.xe s
theorem thn {t:Sem α} {Q Q':α->Shared->Prop} (h:wpAny M A t Q E s) (hQ:∀a s,Q a s->Q' a s):wpAny M A t Q' E s:=wpAny_mono h hQ fun _ _ x=>x
section
variable {X:Cx}
def tVar (i:Nat):TE:=fun σ H Q=>∃v,σ[i]?=some (some v)/\Q v H
def tC (v:V):TE:=fun _ H Q=>Q v H
theorem pe_var {pos:Pos} (hN:X.N[i]?=some x) (hv:Vis X.env.scope x) (hd:(x==("__debug__":Str))=false:=by decide) (hcd:(x==("__classdict__":Str))=false:=by decide):PE X (.Name x pos) (tVar i):=by
 intro pins s σ H Q I h
 obtain ⟨v,e,h⟩:=h
 obtain ⟨m,hn,hl⟩:=I.loc
 obtain ⟨u,r,l⟩:=hl i x v hN e hv
 have fin:EP X pins σ Q u s:=⟨v,H,I,r,h⟩
 rcases l with ⟨hk,hm⟩ | ⟨hk,c,hc,hcell⟩
 ·exact wpAny_Name (wpAny_loadName_local I.ok.kind hk hn hm fin) hd
 ·rcases hk with hk | hk
  ·exact wpAny_Name (wpAny_loadName_cell I.ok.kind hk hc hcell fin) hd
  ·exact wpAny_Name (wpAny_loadName_free I.ok.kind hk hc hcell fin hcd) hd
theorem pe_int {i j pos}:PE X (.Constant (.int i) j pos) (tC (.int i)):=fun _ _ _ H _ I h=>wpAny_Constant_int ⟨.int i,H,I.tok _,⟨_,rfl⟩,h⟩
theorem pe_bl {b j pos}:PE X (.Constant (.bool b) j pos) (tC (.bl b)):=fun _ _ _ H _ I h=>Constant_bool ⟨.bl b,H,I,rfl,h⟩
theorem pe_non {j pos}:PE X (.Constant .none j pos) (tC .non):=fun _ _ _ H _ I h=>Constant_none ⟨.non,H,I,rfl,h⟩
theorem pe_str {x j pos}:PE X (.Constant (.str x) j pos) (tC (.str x)):=fun _ _ _ H _ I h=>Calls.Constant_str ⟨.str x,H,I.tok _,⟨_,rfl⟩,h⟩
def Gl (X:Cx) (x:Str):Prop:=X.env.kindOf x=some .globalImplicit
theorem ld_glob {σ:St} (I:Inv X pins σ H s) (hg:Gl X x) (hm:X.mg x=some u) (h:Q u s)
  (hd:(x==("__debug__":Str))=false:=by decide):wpAny (model X.prog X.w) X.A (eval (.Name x pos) X.env) Q E s:=
 Calls.Name_function_global I.ok.kind hg (Calls.loadGlobal_global (by rw [I.ok.glob];exact I.mod.glob.keeps I.bk) hm h) hd
theorem ld_blt {E:Value->Shared->Prop} {σ:St} {pos:Pos} (I:Inv X pins σ H s) (hg:Gl X x) (hm:X.mg x=none) (hv:bootBuiltins x=some u) (h:Q u s)
  (hn:x≠"__name__":=by decide) (hd:(x==("__debug__":Str))=false:=by decide):wpAny (model X.prog X.w) X.A (eval (.Name x pos) X.env) Q E s:=by
 obtain ⟨mb,h1,h2⟩:=I.mod.blt
 exact Calls.Name_function_global I.ok.kind hg (Calls.loadGlobal_builtin (by rw [I.ok.glob];exact I.mod.glob.keeps I.bk) hm (by rw [I.ok.blt];exact h1.keeps I.bk) ((h2 x hn).trans hv) h) hd
theorem pe_glob (hg:Gl X x) (hm:X.mg x=some u) (r:RelV v u) (hd:(x==("__debug__":Str))=false:=by decide):PE X (.Name x pos) (tC v):=
 fun _ _ _ H _ I h=>ld_glob I hg hm ⟨v,H,I,r,h⟩ hd
theorem pe_bltn {pos:Pos} (hg:Gl X x) (hm:X.mg x=none) (hv:bootBuiltins x=some u) (r:RelV v u) (hn:x≠"__name__":=by decide) (hd:(x==("__debug__":Str))=false:=by decide):PE X (.Name x pos) (tC v):=
 fun _ _ _ H _ I h=>ld_blt I hg hm hv ⟨v,H,I,r,h⟩ hn hd
variable {a b:Expr} {ta tb:TE} {pos:Pos}
def tB (t:TE):TT:=fun σ H Q=>t σ H fun x H1=>∃c,x=.bl c/\Q c H1
theorem pt_val (h:PE X e t) (he:∀whole,isTrue e X.env whole=(do let v <- whole;standAt e.pos;holding [v] (truthy v)):=by intro _;rfl):PT X e (tB t):=by
 intro pins s σ H Q I hw
 refine isTrue_plain (thn (h pins s σ H _ I hw) fun v s1 ⟨x,H1,I1,r1,q1⟩=>?_) (he _)
 obtain ⟨d,rfl,q⟩:=q1
 cases r1
 exact wpAny_truthy_bool ⟨H1,I1,q⟩
variable {tA tB':TT} {rest:List Expr}
def tAnd (t u:TT):TT:=fun σ H Q=>t σ H fun c H1=>if c=true then u σ H1 Q else Q false H1
def tOr (t u:TT):TT:=fun σ H Q=>t σ H fun c H1=>if c=true then Q true H1 else u σ H1 Q
def tNot (t:TT):TT:=fun σ H Q=>t σ H fun c H1=>Q (!c) H1
theorem pw_and1 (ha:PT X a tA):PW X (.BoolOp .And [a] pos) tA:=by
 intro wh pins s σ H Q I h
 refine isTrue_and (thn (ha pins s σ H Q I h) fun c s1 e=>?_)
 cases c with
 | true=>exact isTrue_and_nil e
 | false=>exact e
theorem pw_or1 (ha:PT X a tA):PW X (.BoolOp .Or [a] pos) tA:=by
 intro wh pins s σ H Q I h
 refine isTrue_or (thn (ha pins s σ H Q I h) fun c s1 e=>?_)
 cases c with
 | false=>exact isTrue_or_nil e
 | true=>exact e
theorem pw_and (ha:PT X a tA) (hb:PW X (.BoolOp .And (b::rest) pos) tB'):PW X (.BoolOp .And (a::b::rest) pos) (tAnd tA tB'):=by
 intro wh pins s σ H Q I h
 refine isTrue_and (thn (ha pins s σ H _ I h) fun c s1 ⟨H1,I1,q1⟩=>?_)
 cases c with
 | true=>exact hb wh pins s1 σ H1 Q I1 q1
 | false=>exact ⟨H1,I1,q1⟩
theorem pw_or (ha:PT X a tA) (hb:PW X (.BoolOp .Or (b::rest) pos) tB'):PW X (.BoolOp .Or (a::b::rest) pos) (tOr tA tB'):=by
 intro wh pins s σ H Q I h
 refine isTrue_or (thn (ha pins s σ H _ I h) fun c s1 ⟨H1,I1,q1⟩=>?_)
 cases c with
 | true=>exact ⟨H1,I1,q1⟩
 | false=>exact hb wh pins s1 σ H1 Q I1 q1
theorem pt_not (ha:PT X a tA):PT X (.UnaryOp .Not a pos) (tNot tA):=by
 intro pins s σ H Q I h
 exact isTrue_not (ha pins s σ H (fun c H1=>Q (!c) H1) I h)
def tAndV (ta tb:TE):TE:=fun σ H Q=>ta σ H fun x H1=>∃c,x=.bl c/\if c=true then tb σ H1 Q else Q (.bl false) H1
def tOrV (ta tb:TE):TE:=fun σ H Q=>ta σ H fun x H1=>∃c,x=.bl c/\if c=true then Q (.bl true) H1 else tb σ H1 Q
def tNotV (ta:TE):TE:=fun σ H Q=>ta σ H fun x H1=>∃c,x=.bl c/\Q (.bl (!c)) H1
theorem pe_one {op} (h:PE X a t):PE X (.BoolOp op [a] pos) t:=fun pins s σ H Q I hw=>BoolOp_one (h pins s σ H Q I hw)
theorem pe_and (ha:PE X a ta) (hb:PE X (.BoolOp .And (b::rest) pos) tb):PE X (.BoolOp .And (a::b::rest) pos) (tAndV ta tb):=by
 intro pins s σ H Q I h
 refine BoolOp_and (thn (ha pins s σ H _ I h) fun v s1 ⟨x,H1,I1,r1,q1⟩=>?_)
 obtain ⟨c,rfl,q1⟩:=q1
 cases r1
 refine wpAny_truthy_bool ?_
 cases c with
 | true=>exact hb pins s1 σ H1 Q I1 q1
 | false=>exact ⟨.bl false,H1,I1,rfl,q1⟩
theorem pe_or (ha:PE X a ta) (hb:PE X (.BoolOp .Or (b::rest) pos) tb):PE X (.BoolOp .Or (a::b::rest) pos) (tOrV ta tb):=by
 intro pins s σ H Q I h
 refine BoolOp_or (thn (ha pins s σ H _ I h) fun v s1 ⟨x,H1,I1,r1,q1⟩=>?_)
 obtain ⟨c,rfl,q1⟩:=q1
 cases r1
 refine wpAny_truthy_bool ?_
 cases c with
 | false=>exact hb pins s1 σ H1 Q I1 q1
 | true=>exact ⟨.bl true,H1,I1,rfl,q1⟩
theorem pe_not (ha:PE X a ta):PE X (.UnaryOp .Not a pos) (tNotV ta):=by
 intro pins s σ H Q I h
 refine UnaryOp_ (thn (ha pins s σ H _ I h) fun v s1 ⟨x,H1,I1,r1,q1⟩=>?_)
 obtain ⟨c,rfl,q1⟩:=q1
 cases r1
 exact not_of (wpAny_truthy_bool ⟨.bl (!c),H1,I1,rfl,q1⟩)
end
def SqL (K:PySem.W.Frag) (H:Hp) (a:Addr) (xs:List V):Prop:=
 Rd H a (.lst xs) \/
  ∃(o:Obj) (its:Array Value) (n:Nat),K.lookup a=some o/\o.cls=.type "list"/\o.dict=none/\o.data=.seq its n/\its.size≤sizeLine/\Vals xs its.toList
def SqT (K:PySem.W.Frag) (H:Hp) (a:Addr) (xs:List V):Prop:=
 Rd H a (.tup xs) \/
  ∃(o:Obj) (its:Array Value) (n:Nat),K.lookup a=some o/\o.cls=.type "tuple"/\o.data=.seq its n/\its.size≤sizeLine/\Vals xs its.toList
def absV:Value->Option V
 | .none=>some .non
 | .bool b=>some (.bl b)
 | .int i _=>some (.int i)
 | .str x _=>some (.str x)
 | .bytes b _=>some (.byt b)
 | .float b _=>some (.flt b)
 | .ref a=>some (.ref a)
 | .type n=>some (.ty n)
 | _=>none
theorem RelV.abs (r:RelV x u):absV u=some x:=by
 cases x with
 | non=>cases r;rfl
 | bl _=>cases r;rfl
 | int _=>obtain ⟨t,rfl⟩:=r;rfl
 | str _=>obtain ⟨t,rfl⟩:=r;rfl
 | byt _=>obtain ⟨t,rfl⟩:=r;rfl
 | flt _=>obtain ⟨t,rfl⟩:=r;rfl
 | ref _=>cases r;rfl
 | ty _=>cases r;rfl
theorem RelV.inj (r:RelV x u) (q:RelV y u):x=y:=Option.some.inj (r.abs.symm.trans q.abs)
theorem Vals.inj:∀{xs ys:List V} {us:List Value},Vals xs us->Vals ys us->xs=ys
 | _,_,_,.nil,.nil=>rfl
 | _,_,_,.cons r t,.cons r' t'=>by rw [r.inj r',Vals.inj t t']
section
variable {X:Cx} {pins:List (Addr×Obj)} {σ:St} {H:Hp} {s:Shared} {a:Addr} {xs ys:List V}
theorem SqL.of {K:PySem.W.Frag} (h:H a=some (.lst xs)):SqL K H a xs:=.inl (.inl h)
theorem SqT.of {K:PySem.W.Frag} (h:H a=some (.tup xs)):SqT K H a xs:=.inl (.inl h)
theorem Inv.list (I:Inv X pins σ H s) (h:SqL X.K H a xs):∃its:List Value,Vals xs its/\PlainL s.heap a its.toArray/\xs.length≤sizeLine:=by
 rcases h with h | ⟨o,its,n,hk,hc,hd,hs,hz,r⟩
 ·obtain ⟨z,its,n,r,e⟩:=h.ok I.hok
  exact ⟨its,r,⟨_,n,e,rfl,rfl,rfl⟩,z⟩
 ·refine ⟨its.toList,r,⟨o,n,I.kIn a o hk,hc,hd,by simpa using hs⟩,?_⟩
  have e:=r.length
  simp only [Array.length_toList] at e
  omega
theorem Inv.tuple (I:Inv X pins σ H s) (h:SqT X.K H a xs):∃its:List Value,Vals xs its/\IsTup s.heap a its.toArray/\xs.length≤sizeLine:=by
 rcases h with h | ⟨o,its,n,hk,hc,hs,hz,r⟩
 ·obtain ⟨z,its,r,p⟩:=h.ok I.hok
  exact ⟨its,r,p,z⟩
 ·refine ⟨its.toList,r,⟨o,I.kIn a o hk,hc,n,by simpa using hs⟩,?_⟩
  have e:=r.length
  simp only [Array.length_toList] at e
  omega
theorem Inv.list_inj (I:Inv X pins σ H s) (h:SqL X.K H a xs) (h':SqL X.K H a ys):xs=ys:=by
 obtain ⟨its,r,⟨o,n,e,_,_,d⟩,_⟩:=I.list h
 obtain ⟨its',r',⟨o',n',e',_,_,d'⟩,_⟩:=I.list h'
 rw [e] at e';cases e'
 rw [d] at d'
 injection d' with d1 _
 have:its=its':=by simpa using congrArg Array.toList d1
 subst this
 exact r.inj r'
theorem Inv.tuple_inj (I:Inv X pins σ H s) (h:SqT X.K H a xs) (h':SqT X.K H a ys):xs=ys:=by
 obtain ⟨its,r,⟨o,e,_,n,d⟩,_⟩:=I.tuple h
 obtain ⟨its',r',⟨o',e',_,n',d'⟩,_⟩:=I.tuple h'
 rw [e] at e';cases e'
 rw [d] at d'
 injection d' with d1 _
 have:its=its':=by simpa using congrArg Array.toList d1
 subst this
 exact r.inj r'
end
abbrev Cx.wish (X:Cx) (E:Value->Shared->Prop):Cx:={ X with xe:=E }
abbrev Cx.nox (X:Cx):Cx:=X.wish fun _ _=>False
theorem Cx.Ok.wish {X:Cx} (ok:X.Ok) (E:Value->Shared->Prop):(X.wish E).Ok:=
 ⟨ok.mod,ok.kind,ok.glob,ok.blt,ok.above,ok.inj,ok.has,ok.cab,ok.hd,ok.frames,ok.stk,ok.exf,ok.bs,ok.bsz,ok.noex,ok.exfs,ok.funs,ok.frf⟩
theorem Cx.Ok.unwish {X:Cx} (ok:(X.wish E).Ok):X.Ok:=
 ⟨ok.mod,ok.kind,ok.glob,ok.blt,ok.above,ok.inj,ok.has,ok.cab,ok.hd,ok.frames,ok.stk,ok.exf,ok.bs,ok.bsz,ok.noex,ok.exfs,ok.funs,ok.frf⟩
section
variable {X:Cx} {pins:List (Addr×Obj)} {σ:St} {H:Hp} {s:Shared} {E:Value->Shared->Prop}
theorem Inv.wish (I:Inv X pins σ H s) (E:Value->Shared->Prop):Inv (X.wish E) pins σ H s:=⟨I.ok.wish E,I.os,I.bare,I.base,I.loc,I.cell,I.free,I.freeC,I.pin,I.hok,I.len⟩
theorem Inv.unwish (I:Inv (X.wish E) pins σ H s):Inv X pins σ H s:=⟨I.ok.unwish,I.os,I.bare,I.base,I.loc,I.cell,I.free,I.freeC,I.pin,I.hok,I.len⟩
theorem SP.unwish (h:SP (X.wish E) pins D f s'):SP X pins D f s':=by
 cases f with
 | next=>obtain ⟨σ',H',I,q⟩:=h;exact ⟨σ',H',I.unwish,q⟩
 | brk=>obtain ⟨σ',H',I,q⟩:=h;exact ⟨σ',H',I.unwish,q⟩
 | cont=>obtain ⟨σ',H',I,q⟩:=h;exact ⟨σ',H',I.unwish,q⟩
 | ret u=>obtain ⟨v,σ',H',I,r,q⟩:=h;exact ⟨v,σ',H',I.unwish,r,q⟩
theorem PSs.nox {st:List Stmt} (h:PSs X.nox st t):PSs X st t:=fun pins s σ H D I hw=>
 wpAny_mono (h pins s σ H D (I.wish _) hw) (fun _ _ q=>q.unwish) fun _ _ z=>False.elim z
end
section
variable {X:Cx} {st:Stmt} {rest:List Stmt} {t u:TS} {e:Expr} {te:TE} {pos:Pos}
def tNext:TS:=fun D σ H=>D.nx σ H
def tSeq (t u:TS):TS:=fun D σ H=>t { D with nx:=u D } σ H
theorem a_K:PSs X [] tNext:=fun _ _ σ H _ I h=>wpAny_execs_nil ⟨σ,H,I,h⟩
theorem a_b (h1:PS X st t) (h2:PSs X rest u):PSs X (st::rest) (tSeq t u):=by
 intro pins s σ H D I h
 refine wpAny_execs_cons (thn (h1 pins s σ H { D with nx:=u D } I h) fun f s1 q=>?_)
 cases f with
 | next=>
  obtain ⟨σ',H',I',q⟩:=q
  exact h2 pins s1 σ' H' D I' q
 | ret v=>exact q
 | brk=>exact q
 | cont=>exact q
theorem a_e (h1:PS X st t):PSs X [st] t:=by
 intro pins s σ H D I h
 refine wpAny_execs_cons (thn (h1 pins s σ H D I h) fun f s1 q=>?_)
 cases f with
 | next=>exact wpAny_execs_nil q
 | ret v=>exact q
 | brk=>exact q
 | cont=>exact q
def tBreak:TS:=fun D σ H=>D.bk σ H
theorem ps_break:PS X (.Break pos) tBreak:=fun _ _ σ H _ I h=>wpAny_Break ⟨σ,H,I,h⟩
theorem Inv.quiet {σ:St} (I:Inv X pins σ H s):interactive X.env=false:=by simp [interactive,I.ok.kind]
def tDrop (te:TE):TS:=fun D σ H=>te σ H fun _ H1=>D.nx σ H1
theorem a_Q (he:PE X e te) (hs:swapsWith e none pos.line X.env=pure false:=by rfl):PS X (.Expr e pos) (tDrop te):=by
 intro pins s σ H D I h
 exact wpAny_Expr_any (thn (he pins s σ H _ I h) fun v s1 ⟨x,H1,I1,r1,q1⟩=>⟨σ,H1,I1,q1⟩) I.quiet hs
def tRet (te:TE):TS:=fun D σ H=>te σ H D.rt
theorem a_q (he:PE X e te):PS X (.Return (some e) pos) (tRet te):=by
 intro pins s σ H D I h
 exact wpAny_Return_some (thn (he pins s σ H _ I h) fun v s1 ⟨x,H1,I1,r1,q1⟩=>⟨x,σ,H1,I1,r1,q1⟩)
def tIfS (c:TT) (t u:TS):TS:=fun D σ H=>c σ H fun b H1=>if b=true then t D σ H1 else u D σ H1
theorem c_j (hc:PT X c tc) (ha:PSs X a t) (hb:PSs X b u):PS X (.If c a b pos) (tIfS tc t u):=by
 intro pins s σ H D I h
 refine wpAny_If (thn (hc pins s σ H _ I h) fun d s1 ⟨H1,I1,q1⟩=>?_)
 cases d with
 | true=>exact ha pins s1 σ H1 D I1 q1
 | false=>exact hb pins s1 σ H1 D I1 q1
def tNever:TS:=fun _ _ _=>False
theorem ps_never:PS X st tNever:=fun _ _ _ _ _ _ h=>h.elim
end
abbrev TG:=V->St->Hp->(St->Hp->Prop)->Prop
abbrev TGs:=List V->St->Hp->(St->Hp->Prop)->Prop
def PG (X:Cx) (target:Expr) (t:TG):Prop:=
 ∀(pins:List (Addr×Obj)) (s:Shared) (σ:St) (H:Hp) (v:V) (u:Value) (Q:St->Hp->Prop),Inv X pins σ H s->RelV v u->t v σ H Q->
  wpAny (model X.prog X.w) X.A (assign target X.env u) (fun _ s'=>∃ σ' H',Inv X pins σ' H' s'/\Q σ' H') X.xe s
def PGs (X:Cx) (ts:List Expr) (t:TGs):Prop:=
 ∀(pins:List (Addr×Obj)) (s:Shared) (σ:St) (H:Hp) (vs:List V) (us:List Value) (Q:St->Hp->Prop),Inv X pins σ H s->Vals vs us->t vs σ H Q->
  wpAny (model X.prog X.w) X.A (assignInOrder ((assignEach ts X.env).map (·.2)) us) (fun _ s'=>∃ σ' H',Inv X pins σ' H' s'/\Q σ' H') X.xe s
abbrev TSet:=V->V->V->Hp->(Hp->Prop)->Prop
def PSet (X:Cx) (t:TSet):Prop:=
 ∀(pins:List (Addr×Obj)) (s:Shared) (σ:St) (H:Hp) (o i v:V) (ov iv u:Value) (Q:Hp->Prop),Inv X pins σ H s->RelV o ov->RelV i iv->RelV v u->t o i v H Q->
  wpAny (model X.prog X.w) X.A (setItem ov iv u) (fun _ s'=>∃H',Inv X pins σ H' s'/\Q H') X.xe s
section
variable {X:Cx} {pos:Pos}
def c_n (i:Nat):TG:=fun v σ H Q=>Q (σ.set i (some v)) H
theorem a_r (hN:X.N.Nodup) (hi:X.N[i]?=some x) (hx:Loc X.env.scope x) (hf:X.fn x=true\/X.env.scope.names.lookup x=some .local:=by first | exact .inl rfl | exact .inr rfl | assumption):PG X (.Name x pos) (c_n i):=by
 intro pins s σ H v u Q I r h
 exact wpAny_assign_Name (store_ok I hN hi hx r (fun s' I'=>⟨_,H,I',h⟩) hf)
def gNil:TGs:=fun vs σ H Q=>vs=[]/\Q σ H
def gCons (t:TG) (u:TGs):TGs:=fun vs σ H Q=>∃v r,vs=v::r/\t v σ H fun σ' H'=>u r σ' H' Q
theorem d_r:PGs X [] gNil:=by
 intro pins s σ H vs us Q I r h
 obtain ⟨e,h⟩:=h
 subst e
 cases r
 exact assignInOrder_nil ⟨σ,H,I,h⟩
theorem b_b (h1:PG X e t) (h2:PGs X es u)
  (hs:(assignEach (e::es) X.env).map (·.2)=assign e X.env::(assignEach es X.env).map (·.2):=by rfl):PGs X (e::es) (gCons t u):=by
 intro pins s σ H vs us Q I r h
 obtain ⟨v,vr,e1,h⟩:=h
 subst e1
 cases r with
 | cons r rr=>
  rw [hs]
  refine assignInOrder_cons (thn (h1 pins s σ H _ _ _ I r h) fun _ s1 ⟨σ1,H1,I1,q1⟩=>?_)
  exact h2 pins s1 σ1 H1 _ _ Q I1 rr q1
def gTup (K:PySem.W.Frag) (n:Nat) (t:TGs):TG:=fun v σ H Q=>∃a xs,v=.ref a/\SqT K H a xs/\xs.length=n/\t xs σ H Q
theorem e_C {k:Nat} (hc:X.calm=true) (h:PGs X es t)
  (hn:(assignEach es X.env).length=n:=by rfl) (hst:(assignEach es X.env).findIdx? (·.1)=none:=by rfl):PG X (.Tuple es k pos) (gTup X.K n t):=by
 intro pins s σ H v u Q I r hw
 obtain ⟨a,xs,e1,hq,hl,hw⟩:=hw
 subst e1
 cases r
 obtain ⟨its,rv,ht,hz⟩:=I.tuple hq
 refine assign_Tuple_tuple (I.ok.hd hc) ht (by simp [hn,<- hl,rv.length]) hst fun h' hx=>?_
 have I1:Inv X pins σ H { s with heap:=h' }:=I.kept (t':=s.toks) fun b o e=>hx b o (Nat.ne_of_lt (Heap.lt_size e)) e
 exact h pins _ σ H xs _ Q I1 (by simpa using rv) hw
def gSub (to ti:TE) (t:TSet):TG:=fun v σ H Q=>to σ H fun o H1=>ti σ H1 fun i H2=>t o i v H2 fun H3=>Q σ H3
theorem pg_sub (ho:PE X o to) (hi:PE X i ti) (hs:PSet X t)
  (ha:∀v,assign (.Subscript o i pos) X.env v=(do
   let ov <- holding [v] (eval o X.env)
   let iv <- holding [v,ov] (eval i X.env)
   standAt pos
   holding [v,ov,iv] (setItem ov iv v)
   release [v,ov,iv] []):=by intro _;rfl):PG X (.Subscript o i pos) (gSub to ti t):=by
 intro pins s σ H v u Q I r h
 rw [ha]
 refine wpAny_bind (wpAny_holding (thn (ho pins s σ H _ I h) fun ov s1 ⟨x,H1,I1,r1,q1⟩=>?_))
 refine wpAny_bind (wpAny_holding (thn (hi pins s1 σ H1 _ I1 q1) fun iv s2 ⟨y,H2,I2,r2,q2⟩=>?_))
 refine wpAny_bind (wpAny_standAt (wpAny_bind (wpAny_holding (thn (hs pins s2 σ H2 x y v ov iv u _ I2 r1 r2 r q2) fun _ s3 ⟨H3,I3,q3⟩=>?_))))
 exact wpAny_release ⟨σ,H3,I3,q3⟩
def tAsg (te:TE) (g:TG):TS:=fun D σ H=>te σ H fun x H1=>g x σ H1 D.nx
theorem ps_asg (he:PE X e te) (hg:PG X tg g) (hs:swapsWithSole [tg] e pos.line X.env=pure false:=by rfl) (hw:swappedStores [tg] e X.env=pure none:=by rfl)
  (h1:(assignEach [tg] X.env).map (·.2)=[assign tg X.env]:=by rfl):PS X (.Assign [tg] e pos) (tAsg te g):=by
 intro pins s σ H D I h
 refine wpAny_Assign_stores (thn (he pins s σ H _ I h) fun v s1 ⟨x,H1,I1,r1,q1⟩=>?_) hs hw
 rw [h1]
 exact thn (hg pins s1 σ H1 x v _ I1 r1 q1) fun _ s2 q=>q
theorem a_j (hN:X.N.Nodup) (hi:X.N[i]?=some x) (hx:Loc X.env.scope x) (he:PE X e te) (hs:swapsWith e (some (.Name x pos')) pos.line X.env=pure false:=by rfl) (hf:X.fn x=true\/X.env.scope.names.lookup x=some .local:=by first | exact .inl rfl | exact .inr rfl | assumption):
  PS X (.Assign [.Name x pos'] e pos) (tAsg te (c_n i)):=by
 intro pins s σ H D I h
 refine wpAny_Assign_Name (thn (he pins s σ H _ I h) fun v s1 ⟨y,H1,I1,r1,q1⟩=>?_) hs
 exact store_ok I1 hN hi hx r1 (fun s2 I2=>⟨_,H1,I2,q1⟩) hf
end
section
variable {X:Cx} {pos:Pos}
def tWhile (c:TT) (tb:TS):TS:=fun D σ H=>∃W:Nat->St->Hp->Prop,(∃m,W m σ H)/\∀m σ H,W m σ H->
 c σ H fun b H1=>if b=true then ∃N:St->Hp->Prop,(∀ σ' H',N σ' H'->∃m',m'<m/\W m' σ' H')/\tb { D with nx:=N,ct:=N,bk:=D.nx } σ H1 else D.nx σ H1
theorem ps_while (hp:PassesOwn (model X.prog X.w) X.A X.env X.xe) (hc:PT X c tc) (hb:PSs X body tb):PS X (.While c body [] pos) (tWhile tc tb):=by
 intro pins s σ H D I h
 obtain ⟨W,⟨m0,w0⟩,turn⟩:=h
 refine wpAny_While (codeAny_whileLoop (fun n s'=>∃ σ' H',Inv X pins σ' H' s'/\W n σ' H') ?_ m0 ⟨σ,H,I,w0⟩)
 rintro n s1 ⟨σ1,H1,I1,w1⟩
 refine wpAny_passesOwn hp (thn (hc pins s1 σ1 H1 _ I1 (turn n σ1 H1 w1)) fun b s2 ⟨H2,I2,q2⟩=>?_)
 cases b with
 | true=>
  obtain ⟨N,hN,q2⟩:=q2
  rw [if_pos rfl]
  refine wpAny_passesOwn hp (thn (hb pins s2 σ1 H2 _ I2 q2) fun f s3 q3=>?_)
  cases f with
  | next=>
   obtain ⟨σ3,H3,I3,n3⟩:=q3
   obtain ⟨m',hm,w3⟩:=hN σ3 H3 n3
   exact ⟨m',hm,σ3,H3,I3,w3⟩
  | cont=>
   obtain ⟨σ3,H3,I3,n3⟩:=q3
   obtain ⟨m',hm,w3⟩:=hN σ3 H3 n3
   exact ⟨m',hm,σ3,H3,I3,w3⟩
  | brk=>exact q3
  | ret v=>exact q3
 | false=>
  rw [if_neg Bool.false_ne_true]
  exact wpAny_execs_nil ⟨σ1,H2,I2,q2⟩
end
structure It where
 go:Nat->Hp->Prop
 yld:Nat->Hp->V->Hp->Prop
 stop:Nat->Hp->Prop
def FpOk (X:Cx) (pins:List (Addr×Obj)) (H:Hp) (b:Addr):Prop:=
 H b=none/\b≠X.env.locals/\b∉X.fs/\(b∈X.ex\/X.s₀.heap.objs.size≤b)/\(∀x c,X.env.cells.lookup x=some c->c≠b)/\∀p∈X.pn++pins,p.1≠b
theorem Inv.fpOk {σ:St} {b:Addr} (I:Inv X pins σ H s) (hb:s.heap.objs.size≤b) (hn:H' b=none):FpOk X pins H' b:=by
 refine ⟨hn,Nat.ne_of_gt (Nat.lt_of_lt_of_le I.lt hb),I.nofs hb,.inr (Nat.le_trans I.sz hb),fun x c e z=>?_,fun p hp z=>?_⟩
 ·obtain ⟨v,q⟩:=I.cell x c e
  exact absurd (Nat.lt_of_lt_of_le q.lt (by rw [z];exact hb)) (Nat.lt_irrefl _)
 ·exact absurd (Nat.lt_of_lt_of_le (Heap.lt_size (I.pin p hp).1) (by rw [z];exact hb)) (Nat.lt_irrefl _)
structure Turn (P:Program) (w:World) (K:PySem.W.Frag) (tg:Expr) (J:It) (fp:List Addr) (it:Addr) (tn:Nat->Heap->Prop):Prop where
 mem:it∈fp
 obj:∀i h,tn i h->∀b∈fp,∃o,h.get? b=some o/\∀v,o.data≠.cell v
 keep:∀i h h',tn i h->(∀b∈fp,∀o,h.get? b=some o->h'.get? b=some o)->tn i h'
 item:∀(X:Cx),X.prog=P->X.w=w->X.K=K->X.calm=true->∀(i:Nat) (pins:List (Addr×Obj)) (s:Shared) (σ:St) (H:Hp) (E:Value->Shared->Prop),Inv X pins σ H s->(∀b∈fp,FpOk X pins H b)->tn i s.heap->J.go i H->
  wpAny (model P w) X.A (pyNext (.ref it)) (fun r s1=>∃u,r=some u/\
   wpAny (model P w) X.A (letOwnedTupleGo tg (.ref it) u) (fun _ s2=>∃x H',Inv X pins σ H' s2/\RelV x u/\J.yld i H x H'/\tn (i+1) s2.heap/\∀b∈fp,H' b=none) E s1) E s
 done:∀(X:Cx),X.prog=P->X.w=w->X.K=K->X.calm=true->∀(i:Nat) (pins:List (Addr×Obj)) (s:Shared) (σ:St) (H:Hp) (E:Value->Shared->Prop),Inv X pins σ H s->(∀b∈fp,FpOk X pins H b)->tn i s.heap->J.stop i H->
  wpAny (model P w) X.A (pyNext (.ref it)) (fun r s1=>r=none/\Inv X pins σ H s1) E s
 self:∀(A:Around) (i:Nat) (s:Shared) (Q:Value->Shared->Prop) (E:Value->Shared->Prop),tn i s.heap->Q (.ref it) s->wpAny (model P w) A (pyIter (.ref it)) Q E s
abbrev TI:=St->Hp->(It->Hp->Prop)->Prop
def PIE (X:Cx) (pins:List (Addr×Obj)) (σ:St) (tg:Expr) (R:It->Hp->Prop) (itv:Value) (s2:Shared):Prop:=
 ∃(it:Addr) (fp:List Addr) (tn:Nat->Heap->Prop) (J:It) (H':Hp),itv=.ref it/\Inv X pins σ H' s2/\Turn X.prog X.w X.K tg J fp it tn/\tn 0 s2.heap/\(∀b∈fp,FpOk X pins H' b)/\R J H'
def PI (X:Cx) (tg iter:Expr) (wi:TI):Prop:=
 ∀(pins:List (Addr×Obj)) (s:Shared) (σ:St) (H:Hp) (R:It->Hp->Prop),Inv X pins σ H s->wi σ H R->
  wpAny (model X.prog X.w) X.A (eval iter X.env) (fun v s1=>wpAny (model X.prog X.w) X.A (pyIter v) (PIE X pins σ tg R) X.xe s1) X.xe s
theorem go_of {M:Model} {A:Around} (ho:s.heap.get? it=some o) (hc:o.cls=.type n) (hd:o.data=.fields vs)
  (hn:["enumerate","zip","dict_itemiterator","dict_reverseitemiterator","odict_iterator","itertools.zip_longest","itertools.pairwise"].contains n=false) (hQ:Q () s):wpAny M A (letOwnedTupleGo tg (.ref it) u) Q E s:=by
 unfold letOwnedTupleGo
 cases tg <;> first
  | exact wpAny_pure hQ
  | (cases u <;> first
    | exact wpAny_pure hQ
    | (refine wpAny_bind (wpAny_load ho ?_)
       rw [hc,hd]
       show wpAny M A (if (["enumerate","zip","dict_itemiterator","dict_reverseitemiterator","odict_iterator","itertools.zip_longest","itertools.pairwise"].contains n&&vs[0]?==some (rawInt _))=true then _ else _) Q E s
       rw [if_neg (by intro h;rw [hn,Bool.false_and] at h;cases h)]
       exact wpAny_pure hQ))
def Itl (K:PySem.W.Frag) (a:Addr):It:=
 ⟨fun i H=>∃xs x,SqL K H a xs/\xs[i]?=some x,fun i H x H'=>H'=H/\∀xs,SqL K H a xs->xs[i]?=some x,fun i H=>∃xs,SqL K H a xs/\xs.length≤i⟩
def Itt (K:PySem.W.Frag) (a:Addr):It:=
 ⟨fun i H=>∃xs x,SqT K H a xs/\xs[i]?=some x,fun i H x H'=>H'=H/\∀xs,SqT K H a xs->xs[i]?=some x,fun i H=>∃xs,SqT K H a xs/\xs.length≤i⟩
def Itr (lo:Int) (n:Nat):It:=⟨fun i _=>i<n,fun i H x H'=>H'=H/\x=.int (lo+i),fun i _=>n≤i⟩
theorem turn_list {K:PySem.W.Frag} (a it:Addr):Turn P w K tg (Itl K a) [it] it (fun i h=>h.IsListIter it a i)  where
 mem:=by simp
 obj:=fun i h st b hb=>by
  have e:b=it:=by simpa using hb
  subst e
  obtain ⟨o,e,c,d⟩:=st
  exact ⟨o,e,fun v z=>by rw [d] at z;cases z⟩
 keep:=fun i h h' st k=>st.at fun o e=>k it (by simp) o e
 item:=by
  intro X hP hw hK hc i pins s σ H E I hf st hg
  subst hP hw hK
  obtain ⟨xs,x,hq,hx⟩:=hg
  obtain ⟨its,rv,p,hz⟩:=I.list hq
  obtain ⟨u,hu,ru⟩:=rv.get hx
  obtain ⟨f0,f1,f2,f3,f4,f5⟩:=hf it (by simp)
  refine wpAny_pyNext_list_item st p.isList (x:=u) (by simpa using hu) fun h' st' sb=>?_
  have I1:Inv X pins σ H { s with heap:=h' }:=I.turned (t':=s.toks) (fun b o hb e=>(sb.2 b hb).trans e) f0 f1 f3 f4 f5
  obtain ⟨o,e,c,d⟩:=id st'
  exact ⟨u,rfl,go_of (s:={ s with heap:=h' }) e c d (by decide) ⟨x,H,I1,ru,⟨rfl,fun ys hy=>by rw [I.list_inj hy hq];exact hx⟩,st',fun b hb=>(hf b hb).1⟩⟩
 done:=by
  intro X hP hw hK hc i pins s σ H E I hf st hg
  subst hP hw hK
  obtain ⟨xs,hq,hx⟩:=hg
  obtain ⟨its,rv,p,hz⟩:=I.list hq
  obtain ⟨f0,f1,f2,f3,f4,f5⟩:=hf it (by simp)
  have hl:=rv.length
  exact wpAny_pyNext_list_end (I.ok.hd hc) st p.isList (by simp;omega) fun h' eb=>⟨rfl,I.turned (t':=s.toks) (fun b o hb e=>eb b o hb e) f0 f1 f3 f4 f5⟩
 self:=fun _ _ _ _ _ st h=>wpAny_pyIter_listiter st h
theorem e_w {K:PySem.W.Frag} (a it:Addr):Turn P w K tg (Itt K a) [it] it (fun i h=>h.IsTupleIter it a i)  where
 mem:=by simp
 obj:=fun i h st b hb=>by
  have e:b=it:=by simpa using hb
  subst e
  obtain ⟨o,e,c,d⟩:=st
  exact ⟨o,e,fun v z=>by rw [d] at z;cases z⟩
 keep:=fun i h h' st k=>st.at fun o e=>k it (by simp) o e
 item:=by
  intro X hP hw hK hc i pins s σ H E I hf st hg
  subst hP hw hK
  obtain ⟨xs,x,hq,hx⟩:=hg
  obtain ⟨its,rv,p,hz⟩:=I.tuple hq
  obtain ⟨u,hu,ru⟩:=rv.get hx
  obtain ⟨f0,f1,f2,f3,f4,f5⟩:=hf it (by simp)
  refine wpAny_pyNext_tuple_item st (show s.heap.IsTuple a its.toArray from p) (x:=u) (by simpa using hu) fun h' st' sb=>?_
  have I1:Inv X pins σ H { s with heap:=h' }:=I.turned (t':=s.toks) (fun b o hb e=>(sb.2 b hb).trans e) f0 f1 f3 f4 f5
  obtain ⟨o,e,c,d⟩:=id st'
  exact ⟨u,rfl,go_of (s:={ s with heap:=h' }) e c d (by decide) ⟨x,H,I1,ru,⟨rfl,fun ys hy=>by rw [I.tuple_inj hy hq];exact hx⟩,st',fun b hb=>(hf b hb).1⟩⟩
 done:=by
  intro X hP hw hK hc i pins s σ H E I hf st hg
  subst hP hw hK
  obtain ⟨xs,hq,hx⟩:=hg
  obtain ⟨its,rv,p,hz⟩:=I.tuple hq
  obtain ⟨f0,f1,f2,f3,f4,f5⟩:=hf it (by simp)
  have hl:=rv.length
  exact wpAny_pyNext_tuple_end (I.ok.hd hc) st (show s.heap.IsTuple a its.toArray from p) (by simp;omega) fun h' eb=>⟨rfl,I.turned (t':=s.toks) (fun b o hb e=>eb b o hb e) f0 f1 f3 f4 f5⟩
 self:=fun _ _ _ _ _ st h=>wpAny_pyIter_tupleiter st h
theorem turn_range {K:PySem.W.Frag} (it:Addr) (lo:Int) (n:Nat):Turn P w K tg (Itr lo n) [it] it (fun i h=>IsRangeIter h it (lo+(i:Nat) * 1) ((n:Int) - (i:Nat)) 1)  where
 mem:=by simp
 obj:=fun i h st b hb=>by
  have e:b=it:=by simpa using hb
  subst e
  exact ⟨_,st,fun v z=>by
   have z':Data.fields _=Data.cell v:=z
   cases z'⟩
 keep:=fun i h h' st k=>k it (by simp) _ st
 item:=by
  intro X hP hw hK hc i pins s σ H E I hf st hg
  subst hP hw hK
  obtain ⟨f0,f1,f2,f3,f4,f5⟩:=hf it (by simp)
  have W:=Walks.range (prog:=X.prog) (w:=X.w) (I.ok.hd hc) it lo 1 n
  refine W.item i s _ _ hg st fun v h' tk hv st' kk=>?_
  obtain ⟨t,rfl⟩:=hv
  have I1:Inv X pins σ H { s with heap:=h',toks:=tk }:=I.turned (fun b o hb e=>kk b o (by simpa using hb) e) f0 f1 f3 f4 f5
  refine ⟨_,rfl,go_of (s:={ s with heap:=h',toks:=tk }) (n:="range_iterator") st' rfl rfl (by decide) ⟨.int (lo+i),H,I1,⟨t,?_⟩,⟨rfl,rfl⟩,st',fun b hb=>(hf b hb).1⟩⟩
  rw [Int.mul_one]
 done:=by
  intro X hP hw hK hc i pins s σ H E I hf st hg
  subst hP hw hK
  obtain ⟨f0,f1,f2,f3,f4,f5⟩:=hf it (by simp)
  exact wpAny_pyNext_range_end (I.ok.hd hc) st (by have:n≤i:=hg;omega) fun h' eb=>⟨rfl,I.turned (t':=s.toks) (fun b o hb e=>eb b o hb e) f0 f1 f3 f4 f5⟩
 self:=fun _ _ _ _ _ st h=>wpAny_pyIter_rangeiter st h
section
variable {X:Cx} {tg:Expr}
def iList (K:PySem.W.Frag) (tl:TE):TI:=fun σ H R=>tl σ H fun x H1=>∃a,x=.ref a/\(∃xs,SqL K H1 a xs)/\R (Itl K a) H1
def iTup (K:PySem.W.Frag) (tl:TE):TI:=fun σ H R=>tl σ H fun x H1=>∃a,x=.ref a/\(∃xs,SqT K H1 a xs)/\R (Itt K a) H1
theorem c_O (hl:PE X l tl):PI X tg l (iList X.K tl):=by
 intro pins s σ H R I h
 refine thn (hl pins s σ H _ I h) fun v s1 ⟨x,H1,I1,r1,q1⟩=>?_
 obtain ⟨a,e,⟨xs,hq⟩,q⟩:=q1
 subst e
 cases r1
 obtain ⟨its,rv,p,hz⟩:=I1.list hq
 refine wpAny_pyIter_list p.isList ?_
 refine ⟨s1.heap.objs.size,[s1.heap.objs.size],_,_,H1,rfl,I1.kept (t':=s1.toks) fun b o e=>Heap.get?_push_of_some _ e,turn_list a _,⟨_,Heap.get?_push_size _ rfl,rfl,rfl⟩,fun b hb=>?_,q⟩
 have e:b=s1.heap.objs.size:=by simpa using hb
 subst e
 exact I1.fpOk (Nat.le_refl _) (I1.hok.fresh (Nat.le_refl _))
theorem pi_tup (hl:PE X l tl):PI X tg l (iTup X.K tl):=by
 intro pins s σ H R I h
 refine thn (hl pins s σ H _ I h) fun v s1 ⟨x,H1,I1,r1,q1⟩=>?_
 obtain ⟨a,e,⟨xs,hq⟩,q⟩:=q1
 subst e
 cases r1
 obtain ⟨its,rv,p,hz⟩:=I1.tuple hq
 refine wpAny_pyIter_tuple (show s1.heap.IsTuple a its.toArray from p) ?_
 refine ⟨s1.heap.objs.size,[s1.heap.objs.size],_,_,H1,rfl,I1.kept (t':=s1.toks) fun b o e=>Heap.get?_push_of_some _ e,e_w a _,⟨_,Heap.get?_push_size _ rfl,rfl,rfl⟩,fun b hb=>?_,q⟩
 have e:b=s1.heap.objs.size:=by simpa using hb
 subst e
 exact I1.fpOk (Nat.le_refl _) (I1.hok.fresh (Nat.le_refl _))
theorem range_it {σ:St} {lo hi:Int} (I:Inv X pins σ H s) (h1:-(2 ^ 62)≤lo) (h2:lo<2 ^ 62) (h3:-(2 ^ 62)≤hi) (h4:hi<2 ^ 62)
  (q:R (Itr lo (hi - lo).toNat) H):wpAny (model X.prog X.w) X.A (pyIter (.ref s.heap.objs.size)) (PIE X pins σ tg R) E { s with heap:=s.heap.push { cls:=.type "range",data:=.fields #[.int lo t,.int hi u,.int 1 v] },toks:=tk }:=by
 refine wpAny_pyIter_range (IsRange.new ..) (small_one h1 h2 h3 h4) ?_
 have I1:Inv X pins σ H { s with heap:=s.heap.push { cls:=.type "range",data:=.fields #[.int lo t,.int hi u,.int 1 v] },toks:=tk }:=I.kept fun b o e=>Heap.get?_push_of_some _ e
 refine ⟨(s.heap.push { cls:=.type "range",data:=.fields #[.int lo t,.int hi u,.int 1 v] }).objs.size,[(s.heap.push { cls:=.type "range",data:=.fields #[.int lo t,.int hi u,.int 1 v] }).objs.size],_,_,H,rfl,
  I1.kept (t':=tk) fun b o e=>Heap.get?_push_of_some _ e,turn_range _ lo (hi - lo).toNat,?_,fun b hb=>?_,q⟩
 ·have e1:lo+((0:Nat):Int) * 1=lo:=by simp
  have e2:(((hi - lo).toNat:Nat):Int) - ((0:Nat):Int)=Builtin.Range.rangeSize lo hi 1:=by rw [rangeSize_one];split <;> omega
  show IsRangeIter _ _ (lo+((0:Nat):Int) * 1) ((((hi - lo).toNat:Nat):Int) - ((0:Nat):Int)) 1
  rw [e1,e2]
  exact Heap.get?_push_size _ rfl
 ·have e:b=(s.heap.push { cls:=.type "range",data:=.fields #[.int lo t,.int hi u,.int 1 v] }).objs.size:=by simpa using hb
  subst e
  exact I1.fpOk (Nat.le_refl _) (I1.hok.fresh (Nat.le_refl _))
def iRng1 (ta:TA):TI:=fun σ H R=>ta σ H fun vs H1=>∃j:Int,vs=[.int j]/\-(2 ^ 62)≤j/\j<2 ^ 62/\R (Itr 0 j.toNat) H1
theorem a_L (hg:Gl X "range") (hm:X.mg "range"=none) (ha:PA X [a] ta) (hs:starEach [a] X.env=[(false,eval a X.env)]:=by rfl):PI X tg (.Call (.Name "range" p) [a] [] pos) (iRng1 ta):=by
 intro pins s σ H R I h
 refine Call_ (ld_blt I hg hm boot_range (PyProof.Rows.callWith_type1 (thn (ha pos pins s σ H _ I h) fun us s1 ⟨vs,H1,I1,r1,q1⟩=>?_) hs rfl))
 obtain ⟨j,e,q1,q2,q⟩:=q1
 subst e
 cases r1 with
 | cons r rr=>
  cases rr
  obtain ⟨t,rfl⟩:=r
  exact call_range_1 (range_it I1 (by omega) (by omega) q1 q2 (by simpa using q))
def tFor (wi:TI) (g:TG) (tb:TS):TS:=fun D σ H=>wi σ H fun J H1=>∃W:Nat->Nat->St->Hp->Prop,(∃m,W 0 m σ H1)/\∀i m σ H,W i m σ H->
 (J.stop i H/\D.nx σ H)\/(J.go i H/\∃N:St->Hp->Prop,(∀ σ' H',N σ' H'->∃m',m'<m/\W (i+1) m' σ' H')/\∀x H',J.yld i H x H'->g x σ H' fun σ2 H2=>tb { D with nx:=N,ct:=N,bk:=D.nx } σ2 H2)
def d_W (fp:List Addr) (h:Heap):List (Addr×Obj):=fp.filterMap fun b=>(h.get? b).map fun o=>(b,o)
theorem a_v (hb:b∈fp) (e:h.get? b=some o):(b,o)∈d_W fp h:=List.mem_filterMap.mpr ⟨b,hb,by rw [e];rfl⟩
theorem of_pinsAt (hp:p∈d_W fp h):p.1∈fp/\h.get? p.1=some p.2:=by
 obtain ⟨b,hb,e⟩:=List.mem_filterMap.mp hp
 cases q:h.get? b with
 | none=>rw [q] at e;cases e
 | some o=>
  rw [q] at e
  have e':(b,o)=p:=Option.some.inj e
  subst e'
  exact ⟨hb,q⟩
theorem Inv.pinned {σ:St} (I:Inv X pins σ H s) (hf:∀b∈fp,FpOk X pins H b) (ho:∀b∈fp,∃o,s.heap.get? b=some o/\∀v,o.data≠.cell v):Inv X (pins++d_W fp s.heap) σ H s:=
 I.pins_of fun p hp=>(List.mem_append.mp hp).elim (fun z=>I.pin p (List.mem_append_right _ z)) fun z=>by
  obtain ⟨hb,e⟩:=of_pinsAt z
  obtain ⟨f0,f1,f2,_⟩:=hf p.1 hb
  obtain ⟨o,e',d⟩:=ho p.1 hb
  rw [e] at e';cases e'
  exact ⟨e,f0,f1,f2,d⟩
theorem Inv.unpinned {σ:St} (I:Inv X (pins++pl) σ H s):Inv X pins σ H s:=I.pins_of fun p hp=>I.pin p (List.mem_append_right _ (List.mem_append_left _ hp))
theorem b_C (hp:PassesOwn (model X.prog X.w) X.A X.env X.xe) (hc:X.calm=true) (hi:PI X tg iter wi) (hg:PG X tg g) (hb:PSs X body tb)
  (hs:∀x,foldedSetIterable iter X.env x=pure x:=by intro _;rfl):PS X (.For tg iter body [] pos) (tFor wi g tb):=by
 intro pins s σ H D I h
 refine wpAny_For (thn (hi pins s σ H _ I h) fun v s1 h1=>thn h1 fun itv s2 h2=>?_) hs
 obtain ⟨it,fp,tn,J,H2,e,I2,T,st2,f2,W,⟨m0,w0⟩,turn⟩:=h2
 subst e
 have stat:∀{H':Hp},(∀b∈fp,H' b=none)->∀b∈fp,FpOk X pins H' b:=fun hn b hb=>⟨hn b hb,(f2 b hb).2⟩
 refine codeAny_forLoop_any (fun n s'=>∃i σ' H',Inv X pins σ' H' s'/\tn i s'.heap/\(∀b∈fp,H' b=none)/\W i n σ' H') ?_ m0 ⟨0,σ,H2,I2,st2,fun b hb=>(f2 b hb).1,w0⟩
 rintro n s3 ⟨i,σ3,H3,I3,st3,fr3,w3⟩
 rcases turn i n σ3 H3 w3 with ⟨stop,qn⟩ | ⟨go,N,hN,step⟩
 ·refine wpAny_passesOwn hp (thn (T.done X rfl rfl rfl hc i pins s3 σ3 H3 X.xe I3 (stat fr3) st3 stop) fun r s4 ⟨hr,I4⟩=>?_)
  subst hr
  exact wpAny_execs_nil ⟨σ3,H3,I4,qn⟩
 ·refine wpAny_passesOwn hp (thn (T.item X rfl rfl rfl hc i pins s3 σ3 H3 X.xe I3 (stat fr3) st3 go) fun r s4 ⟨u,hr,h4⟩=>?_)
  subst hr
  refine wpAny_passesOwn hp (thn h4 fun _ s5 ⟨x,H5,I5,r5,y5,st5,fr5⟩=>?_)
  have I5':=I5.pinned (stat fr5) (T.obj _ _ st5)
  refine wpAny_passesOwn hp (thn (hg _ s5 σ3 H5 x u _ I5' r5 (step x H5 y5)) fun _ s6 ⟨σ6,H6,I6,q6⟩=>?_)
  refine wpAny_passesOwn hp (thn (hb _ s6 σ6 H6 _ I6 q6) fun f s7 q7=>?_)
  have again:∀{σ7:St} {H7:Hp},Inv X (pins++d_W fp s5.heap) σ7 H7 s7->N σ7 H7->∃m,m<n/\∃i σ' H',Inv X pins σ' H' s7/\tn i s7.heap/\(∀b∈fp,H' b=none)/\W i m σ' H':=fun {σ7 H7} I7 n7=>by
   obtain ⟨m',hm,w7⟩:=hN σ7 H7 n7
   refine ⟨m',hm,i+1,σ7,H7,I7.unpinned,T.keep _ _ _ st5 fun b hb o e=>(I7.pin (b,o) (List.mem_append_right _ (List.mem_append_right _ (a_v hb e)))).1,fun b hb=>?_,w7⟩
   obtain ⟨o,e,d⟩:=T.obj _ _ st5 b hb
   exact (I7.pin (b,o) (List.mem_append_right _ (List.mem_append_right _ (a_v hb e)))).2.1
  cases f with
  | next=>obtain ⟨σ7,H7,I7,n7⟩:=q7;exact again I7 n7
  | cont=>obtain ⟨σ7,H7,I7,n7⟩:=q7;exact again I7 n7
  | brk=>obtain ⟨σ7,H7,I7,q7⟩:=q7;exact ⟨σ7,H7,I7.unpinned,q7⟩
  | ret v=>obtain ⟨x7,σ7,H7,I7,r7,q7⟩:=q7;exact ⟨x7,σ7,H7,I7.unpinned,r7,q7⟩
end
theorem c_p {K:PySem.W.Frag} {g:TG} {tb:TS} {D:Ends} (Pv:Nat->St->Hp->Prop) (h0:Pv 0 σ H) (hl:∀i σ H,i≤xs.length->Pv i σ H->SqL K H a xs)
  (hs:∀i x σ H,xs[i]?=some x->Pv i σ H->g x σ H fun σ2 H2=>tb { D with nx:=Pv (i+1),ct:=Pv (i+1),bk:=D.nx } σ2 H2) (hd:∀ σ H,Pv xs.length σ H->D.nx σ H):
  ∃W:Nat->Nat->St->Hp->Prop,(∃m,W 0 m σ H)/\∀i m σ H,W i m σ H->
   ((Itl K a).stop i H/\D.nx σ H)\/((Itl K a).go i H/\∃N:St->Hp->Prop,(∀ σ' H',N σ' H'->∃m',m'<m/\W (i+1) m' σ' H')/\∀x H',(Itl K a).yld i H x H'->g x σ H' fun σ2 H2=>tb { D with nx:=N,ct:=N,bk:=D.nx } σ2 H2):=by
 refine ⟨fun i m σ H=>m=xs.length - i/\i≤xs.length/\Pv i σ H,⟨xs.length,by simp,Nat.zero_le _,h0⟩,?_⟩
 rintro i m σ H ⟨rfl,hi,p⟩
 have q:=hl i σ H hi p
 by_cases hlt:i<xs.length
 ·refine .inr ⟨⟨xs,xs[i],q,by simp [hlt]⟩,Pv (i+1),fun σ' H' p'=>⟨xs.length - (i+1),by omega,rfl,hlt,p'⟩,fun x H' y=>?_⟩
  obtain ⟨e,y⟩:=y
  subst e
  exact hs i x σ _ (y xs q) p
 ·have e:i=xs.length:=by omega
  subst e
  exact .inl ⟨⟨xs,q,Nat.le_refl _⟩,hd σ H p⟩
theorem for_tup {K:PySem.W.Frag} {g:TG} {tb:TS} {D:Ends} (Pv:Nat->St->Hp->Prop) (h0:Pv 0 σ H) (hl:∀i σ H,i≤xs.length->Pv i σ H->SqT K H a xs)
  (hs:∀i x σ H,xs[i]?=some x->Pv i σ H->g x σ H fun σ2 H2=>tb { D with nx:=Pv (i+1),ct:=Pv (i+1),bk:=D.nx } σ2 H2) (hd:∀ σ H,Pv xs.length σ H->D.nx σ H):
  ∃W:Nat->Nat->St->Hp->Prop,(∃m,W 0 m σ H)/\∀i m σ H,W i m σ H->
   ((Itt K a).stop i H/\D.nx σ H)\/((Itt K a).go i H/\∃N:St->Hp->Prop,(∀ σ' H',N σ' H'->∃m',m'<m/\W (i+1) m' σ' H')/\∀x H',(Itt K a).yld i H x H'->g x σ H' fun σ2 H2=>tb { D with nx:=N,ct:=N,bk:=D.nx } σ2 H2):=by
 refine ⟨fun i m σ H=>m=xs.length - i/\i≤xs.length/\Pv i σ H,⟨xs.length,by simp,Nat.zero_le _,h0⟩,?_⟩
 rintro i m σ H ⟨rfl,hi,p⟩
 have q:=hl i σ H hi p
 by_cases hlt:i<xs.length
 ·refine .inr ⟨⟨xs,xs[i],q,by simp [hlt]⟩,Pv (i+1),fun σ' H' p'=>⟨xs.length - (i+1),by omega,rfl,hlt,p'⟩,fun x H' y=>?_⟩
  obtain ⟨e,y⟩:=y
  subst e
  exact hs i x σ _ (y xs q) p
 ·have e:i=xs.length:=by omega
  subst e
  exact .inl ⟨⟨xs,q,Nat.le_refl _⟩,hd σ H p⟩
theorem c_d {lo:Int} {g:TG} {tb:TS} {D:Ends} (Pv:Nat->St->Hp->Prop) (h0:Pv 0 σ H)
  (hs:∀i σ H,i<n->Pv i σ H->g (.int (lo+i)) σ H fun σ2 H2=>tb { D with nx:=Pv (i+1),ct:=Pv (i+1),bk:=D.nx } σ2 H2) (hd:∀ σ H,Pv n σ H->D.nx σ H):
  ∃W:Nat->Nat->St->Hp->Prop,(∃m,W 0 m σ H)/\∀i m σ H,W i m σ H->
   ((Itr lo n).stop i H/\D.nx σ H)\/((Itr lo n).go i H/\∃N:St->Hp->Prop,(∀ σ' H',N σ' H'->∃m',m'<m/\W (i+1) m' σ' H')/\∀x H',(Itr lo n).yld i H x H'->g x σ H' fun σ2 H2=>tb { D with nx:=N,ct:=N,bk:=D.nx } σ2 H2):=by
 refine ⟨fun i m σ H=>m=n - i/\i≤n/\Pv i σ H,⟨n,by simp,Nat.zero_le _,h0⟩,?_⟩
 rintro i m σ H ⟨rfl,hi,p⟩
 by_cases hlt:i<n
 ·refine .inr ⟨hlt,Pv (i+1),fun σ' H' p'=>⟨n - (i+1),by omega,rfl,hlt,p'⟩,fun x H' y=>?_⟩
  obtain ⟨e,y⟩:=y
  subst e y
  exact hs i σ _ hlt p
 ·have e:i=n:=by omega
  subst e
  exact .inl ⟨Nat.le_refl _,hd σ H p⟩
abbrev R2:=V->V->Hp->VK->Prop
def OpR (X:Cx) (f:Value->Value->Sem Value) (r:R2):Prop:=
 ∀(pins:List (Addr×Obj)) (s:Shared) (σ:St) (H:Hp) (x y:V) (v u:Value) (Q:VK),Inv X pins σ H s->RelV x v->RelV y u->r x y H Q->
  wpAny (model X.prog X.w) X.A (f v u) (EP X pins σ Q) X.xe s
def c_s (X:Cx) (f:Value) (r:List V->Hp->VK->Prop):Prop:=
 ∀(pins:List (Addr×Obj)) (s:Shared) (σ:St) (H:Hp) (xs:List V) (us:List Value) (Q:VK),Inv X pins σ H s->Vals xs us->r xs H Q->
  wpAny (model X.prog X.w) X.A (call f us) (EP X pins σ Q) X.xe s
def tOp (r:R2) (ta tb:TE):TE:=fun σ H Q=>ta σ H fun x H1=>tb σ H1 fun y H2=>r x y H2 Q
def rI (C:Int->Int->Prop) (g:Int->Int->V):R2:=fun x y H Q=>∃i j,x=.int i/\y=.int j/\C i j/\Q (g i j) H
def rI0 (g:Int->Int->V):R2:=fun x y H Q=>∃i j,x=.int i/\y=.int j/\Q (g i j) H
section
variable {X:Cx} {a b c:Expr} {ta tb tc:TE} {pos:Pos}
theorem binT (ha:PE X a ta) (hb:PE X b tb) {σ:St} {R:V->V->Hp->Prop} (I:Inv X pins σ H s)
  (h:ta σ H fun x H1=>tb σ H1 fun y H2=>R x y H2) {f:Value->Value->Sem Value}
  (hf:∀v u s2 x y H2,Inv X pins σ H2 s2->RelV x v->RelV y u->R x y H2->wpAny (model X.prog X.w) X.A (f v u) Q X.xe s2):
  wpAny (model X.prog X.w) X.A (eval a X.env) (fun v s₁=>wpAny (model X.prog X.w) X.A (eval b X.env) (fun u s₂=>wpAny (model X.prog X.w) X.A (f v u) Q X.xe s₂) X.xe s₁) X.xe s:=by
 refine thn (ha pins s σ H _ I h) fun v s1 ⟨x,H1,I1,r1,q1⟩=>?_
 refine thn (hb pins s1 σ H1 _ I1 q1) fun u s2 ⟨y,H2,I2,r2,q2⟩=>?_
 exact hf v u s2 x y H2 I2 r1 r2 q2
theorem a_w (ho:OpR X (binaryOp op) r) (ha:PE X a ta) (hb:PE X b tb):PE X (.BinOp a op b pos) (tOp r ta tb):=by
 intro pins s σ H Q I h
 exact wpAny_BinOp (binT ha hb I h fun v u s2 x y H2 I2 rx ry q=>ho pins s2 σ H2 x y v u Q I2 rx ry q)
theorem opI {g:Int->Int->Int}
  (rule:∀(i j:Int) (t u:Tok) (s:Shared) (Q:Value->Shared->Prop) (E:Value->Shared->Prop),C i j->Q (.int (g i j) s.toks) { s with toks:=s.toks+1 }->wpAny (model X.prog X.w) X.A (f (.int i t) (.int j u)) Q E s):
  OpR X f (rI C fun i j=>.int (g i j)):=by
 intro pins s σ H x y v u Q I rx ry h
 obtain ⟨i,j,rfl,rfl,hc,q⟩:=h
 obtain ⟨t,rfl⟩:=rx
 obtain ⟨t',rfl⟩:=ry
 exact rule i j t t' s _ _ hc ⟨.int (g i j),H,I.tok _,⟨_,rfl⟩,q⟩
theorem opI0 {g:Int->Int->Int}
  (rule:∀(i j:Int) (t u:Tok) (s:Shared) (Q:Value->Shared->Prop) (E:Value->Shared->Prop),Q (.int (g i j) s.toks) { s with toks:=s.toks+1 }->wpAny (model X.prog X.w) X.A (f (.int i t) (.int j u)) Q E s):
  OpR X f (rI0 fun i j=>.int (g i j)):=by
 intro pins s σ H x y v u Q I rx ry h
 obtain ⟨i,j,rfl,rfl,q⟩:=h
 obtain ⟨t,rfl⟩:=rx
 obtain ⟨t',rfl⟩:=ry
 exact rule i j t t' s _ _ ⟨.int (g i j),H,I.tok _,⟨_,rfl⟩,q⟩
theorem opB0 {g:Int->Int->Bool}
  (rule:∀(i j:Int) (t u:Tok) (s:Shared) (Q:Value->Shared->Prop) (E:Value->Shared->Prop),Q (.bool (g i j)) s->wpAny (model X.prog X.w) X.A (f (.int i t) (.int j u)) Q E s):
  OpR X f (rI0 fun i j=>.bl (g i j)):=by
 intro pins s σ H x y v u Q I rx ry h
 obtain ⟨i,j,rfl,rfl,q⟩:=h
 obtain ⟨t,rfl⟩:=rx
 obtain ⟨t',rfl⟩:=ry
 exact rule i j t t' s _ _ ⟨.bl (g i j),H,I,rfl,q⟩
def CDiv (i j:Int):Prop:=0<j/\j<1073741824
def CPow (i j:Int):Prop:=0≤j/\j≤1000000/\i.natAbs<2 ^ 64
def CMul (i j:Int):Prop:=(-(2 ^ 64)<i/\i<2 ^ 64)\/(-(2 ^ 64)<j/\j<2 ^ 64)
theorem CMul.ok (h:CMul i j):IntMulOk i j:=by
 rcases h with ⟨h1,h2⟩ | ⟨h1,h2⟩
 ·exact .of_left (intBits_le_64 h1 h2)
 ·exact .of_right (intBits_le_64 h1 h2)
theorem op_add:OpR X (binaryOp .Add) (rI0 fun i j=>.int (i+j)):=opI0 fun _ _ _ _ _ _ _ q=>add_int q
theorem op_sub:OpR X (binaryOp .Sub) (rI0 fun i j=>.int (i - j)):=opI0 fun _ _ _ _ _ _ _ q=>sub_int q
theorem op_mul:OpR X (binaryOp .Mult) (rI CMul fun i j=>.int (i * j)):=opI fun _ _ _ _ _ _ _ hc q=>mul_int q hc.ok
theorem op_fdiv:OpR X (binaryOp .FloorDiv) (rI CDiv fun i j=>.int (i / j)):=opI fun i j _ _ _ _ _ hc q=>by
 have h1:(0:Int)<j:=hc.1
 have h2:j<1073741824:=hc.2
 exact floordiv_int (by omega) (by rw [Int.fdiv_eq_ediv_of_nonneg i (by omega)];exact q) (.inl (PyProof.noPylong_small (by omega)))
theorem op_mod:OpR X (binaryOp .Mod) (rI (fun _ j=>0<j) fun i j=>.int (i % j)):=opI fun i j _ _ _ _ _ hc q=>by
 have h1:(0:Int)<j:=hc
 exact mod_int' (by omega) (by rw [Int.fmod_eq_emod_of_nonneg i (by omega)];exact q)
theorem op_pow:OpR X (binaryOp .Pow) (rI CPow fun i j=>.int (i ^ j.toNat)):=opI fun _ _ _ _ _ _ _ hc q=>pow_int_small hc.1 hc.2.1 hc.2.2 q
end
def scal:V->V->Bool
 | .non,.non=>true | .non,.int _=>true | .int _,.non=>true | .non,.bl _=>true | .bl _,.non=>true | .non,.str _=>true | .str _,.non=>true
 | .int _,.int _=>true | .bl _,.bl _=>true | .str _,.str _=>true | .byt _,.byt _=>true
 | .int _,.str _=>true | .str _,.int _=>true | .bl _,.str _=>true | .str _,.bl _=>true
 | _,_=>false
def rEq:R2:=fun x y H Q=>scal x y=true/\Q (.bl (decide (x=y))) H
def rNe:R2:=fun x y H Q=>scal x y=true/\Q (.bl (!decide (x=y))) H
theorem dec_int:decide (V.int i=V.int j)=(i==j):=by
 rw [Bool.eq_iff_iff]
 simp
theorem dec_bl:decide (V.bl i=V.bl j)=(i==j):=by
 rw [Bool.eq_iff_iff]
 simp
theorem dec_str:decide (V.str i=V.str j)=(i==j):=by
 rw [Bool.eq_iff_iff]
 simp
theorem dec_byt:decide (V.byt i=V.byt j)=(i.toList==j.toList):=by
 rw [Bool.eq_iff_iff]
 cases i
 cases j
 simp
section
variable {X:Cx} {a b c:Expr} {ta tb tc:TE} {pos:Pos}
theorem a_D {σ:St} (I:Inv X pins σ H s) (q:Q (.bl k) H) (e:k=k'):EP X pins σ Q (.bool k') s:=by
 subst e
 exact ⟨.bl k,H,I,rfl,q⟩
theorem c_b:OpR X (compareOp .Eq) rEq:=by
 intro pins s σ H x y v u Q I rx ry h
 obtain ⟨hs,q⟩:=h
 cases x with
 | non=>
  cases rx
  cases y with
  | non=>cases ry;exact PySem.EqNone.eq_none_none (a_D I q (by simp))
  | bl j=>cases ry;exact PySem.EqNone.eq_none_bool (a_D I q (by simp))
  | int j=>obtain ⟨t',rfl⟩:=ry;exact PySem.EqNone.eq_none_int (a_D I q (by simp))
  | str j=>obtain ⟨t',rfl⟩:=ry;exact PySem.EqNone.eq_none_str (a_D I q (by simp))
  | _=>exact absurd (show false=true from hs) Bool.false_ne_true
 | bl i=>
  cases rx
  cases y with
  | non=>cases ry;exact PySem.EqNone.eq_bool_none (a_D I q (by simp))
  | bl j=>cases ry;exact eq_bool (a_D I q dec_bl)
  | str j=>obtain ⟨t',rfl⟩:=ry;exact PySem.EqMixed.eq_bool_str (a_D I q (by simp))
  | _=>exact absurd (show false=true from hs) Bool.false_ne_true
 | int i=>
  obtain ⟨t,rfl⟩:=rx
  cases y with
  | non=>cases ry;exact PySem.EqNone.eq_int_none (a_D I q (by simp))
  | int j=>obtain ⟨t',rfl⟩:=ry;exact eq_int (a_D I q dec_int)
  | str j=>obtain ⟨t',rfl⟩:=ry;exact PySem.EqMixed.eq_int_str (a_D I q (by simp))
  | _=>exact absurd (show false=true from hs) Bool.false_ne_true
 | str i=>
  obtain ⟨t,rfl⟩:=rx
  cases y with
  | non=>cases ry;exact PySem.EqNone.eq_str_none (a_D I q (by simp))
  | bl j=>cases ry;exact PySem.EqMixed.eq_str_bool (a_D I q (by simp))
  | int j=>obtain ⟨t',rfl⟩:=ry;exact PySem.EqMixed.eq_str_int (a_D I q (by simp))
  | str j=>obtain ⟨t',rfl⟩:=ry;exact eq_str (a_D I q dec_str)
  | _=>exact absurd (show false=true from hs) Bool.false_ne_true
 | byt i=>
  obtain ⟨t,rfl⟩:=rx
  cases y with
  | byt j=>obtain ⟨t',rfl⟩:=ry;exact PySem.W.eq_bytes (a_D I q dec_byt)
  | _=>exact absurd (show false=true from hs) Bool.false_ne_true
 | _=>cases y <;> exact absurd (show false=true from hs) Bool.false_ne_true
theorem op_ne:OpR X (compareOp .NotEq) rNe:=by
 intro pins s σ H x y v u Q I rx ry h
 obtain ⟨hs,q⟩:=h
 cases x with
 | non=>
  cases rx
  cases y with
  | non=>cases ry;exact PySem.EqNone.ne_none_none (a_D I q (by simp))
  | bl j=>cases ry;exact PySem.EqNone.ne_none_bool (a_D I q (by simp))
  | int j=>obtain ⟨t',rfl⟩:=ry;exact PySem.EqNone.ne_none_int (a_D I q (by simp))
  | str j=>obtain ⟨t',rfl⟩:=ry;exact PySem.EqNone.ne_none_str (a_D I q (by simp))
  | _=>exact absurd (show false=true from hs) Bool.false_ne_true
 | bl i=>
  cases rx
  cases y with
  | non=>cases ry;exact PySem.EqNone.ne_bool_none (a_D I q (by simp))
  | bl j=>cases ry;exact ne_bool (a_D I q (congrArg not dec_bl))
  | str j=>obtain ⟨t',rfl⟩:=ry;exact PySem.EqMixed.ne_bool_str (a_D I q (by simp))
  | _=>exact absurd (show false=true from hs) Bool.false_ne_true
 | int i=>
  obtain ⟨t,rfl⟩:=rx
  cases y with
  | non=>cases ry;exact PySem.EqNone.ne_int_none (a_D I q (by simp))
  | int j=>obtain ⟨t',rfl⟩:=ry;exact ne_int (a_D I q (congrArg not dec_int))
  | str j=>obtain ⟨t',rfl⟩:=ry;exact PySem.EqMixed.ne_int_str (a_D I q (by simp))
  | _=>exact absurd (show false=true from hs) Bool.false_ne_true
 | str i=>
  obtain ⟨t,rfl⟩:=rx
  cases y with
  | non=>cases ry;exact PySem.EqNone.ne_str_none (a_D I q (by simp))
  | bl j=>cases ry;exact PySem.EqMixed.ne_str_bool (a_D I q (by simp))
  | int j=>obtain ⟨t',rfl⟩:=ry;exact PySem.EqMixed.ne_str_int (a_D I q (by simp))
  | str j=>obtain ⟨t',rfl⟩:=ry;exact ne_str (a_D I q (congrArg not dec_str))
  | _=>exact absurd (show false=true from hs) Bool.false_ne_true
 | byt i=>
  obtain ⟨t,rfl⟩:=rx
  cases y with
  | byt j=>obtain ⟨t',rfl⟩:=ry;exact PySem.W.ne_bytes (a_D I q (congrArg not dec_byt))
  | _=>exact absurd (show false=true from hs) Bool.false_ne_true
 | _=>cases y <;> exact absurd (show false=true from hs) Bool.false_ne_true
theorem op_lt:OpR X (compareOp .Lt) (rI0 fun i j=>.bl (decide (i<j))):=opB0 fun _ _ _ _ _ _ _ q=>lt_int q
theorem op_le:OpR X (compareOp .LtE) (rI0 fun i j=>.bl (decide (i≤j))):=opB0 fun _ _ _ _ _ _ _ q=>le_int q
theorem op_gt:OpR X (compareOp .Gt) (rI0 fun i j=>.bl (decide (j<i))):=opB0 fun _ _ _ _ _ _ _ q=>gt_int q
theorem op_isN:OpR X (compareOp .Is) (fun x y H Q=>y=.non/\Q (.bl (decide (x=.non))) H):=by
 intro pins s σ H x y v u Q I rx ry h
 obtain ⟨rfl,q⟩:=h
 cases ry
 refine is_none_gen (a_D I q ?_)
 cases x <;> first
  | (cases rx;rfl)
  | (obtain ⟨t,rfl⟩:=rx;rfl)
theorem op_notN:OpR X (compareOp .IsNot) (fun x y H Q=>y=.non/\Q (.bl (!decide (x=.non))) H):=by
 intro pins s σ H x y v u Q I rx ry h
 obtain ⟨rfl,q⟩:=h
 cases ry
 refine isnot_none_gen (a_D I q ?_)
 cases x <;> first
  | (cases rx;rfl)
  | (obtain ⟨t,rfl⟩:=rx;rfl)
theorem op_notin_str:OpR X (compareOp .NotIn) (fun x y H Q=>∃i j,x=.str i/\y=.str j/\Q (.bl (!(!(Builtin.Str.occurrences j i 0 j.length 1).isEmpty))) H):=by
 intro pins s σ H x y v u Q I rx ry h
 obtain ⟨i,j,rfl,rfl,q⟩:=h
 obtain ⟨t,rfl⟩:=rx
 obtain ⟨t',rfl⟩:=ry
 exact notIn_str (a_D I q rfl)
theorem a_E (b:Expr) (h:op≠.In:=by decide) (h2:op≠.NotIn:=by decide):behindInMarks op b=false:=by
 have e1:(op==CmpOp.In)=false:=by cases op <;> first | rfl | exact absurd rfl h
 have e2:(op==CmpOp.NotIn)=false:=by cases op <;> first | rfl | exact absurd rfl h2
 cases b <;> simp [behindInMarks,e1,e2]
theorem c_P (ho:OpR X (compareOp op) r) (ha:PE X a ta) (hb:PE X b tb) (hm:behindInMarks op b=false):PE X (.Compare a [op] [b] pos) (tOp r ta tb):=by
 intro pins s σ H Q I h
 exact wpAny_Compare1 (binT ha hb I h fun v u s2 x y H2 I2 rx ry q=>ho pins s2 σ H2 x y v u Q I2 rx ry q) hm
def tTest (t:TE):TT:=fun σ H Q=>t σ H fun x H'=>∃k,x=.bl k/\Q k H'
theorem a_y (ho:OpR X (compareOp op) r) (ha:PE X a ta) (hb:PE X b tb) (hm:behindInMarks op b=false):PT X (.Compare a [op] [b] pos) (tTest (tOp r ta tb)):=by
 intro pins s σ H Q I h
 refine wpAny_isTrue_Compare1 (thn (ha pins s σ H _ I h) fun v s1 ⟨x,H1,I1,r1,q1⟩=>thn (hb pins s1 σ H1 _ I1 q1) fun u s2 ⟨y,H2,I2,r2,q2⟩=>
  thn (ho pins s2 σ H2 x y v u _ I2 r1 r2 q2) fun c s3 ⟨z,H3,I3,r3,k,e,q3⟩=>?_) hm
 subst e
 cases r3
 exact wpAny_truthy_bool ⟨H3,I3,q3⟩
def tChain (r r':R2) (ta tb tc:TE):TE:=fun σ H Q=>ta σ H fun x H1=>tb σ H1 fun y H2=>r x y H2 fun z H3=>∃k,z=.bl k/\
 (if k=true then tc σ H3 fun w' H4=>r' y w' H4 Q else Q (.bl false) H3)
theorem pe_chain (ho:OpR X (compareOp op) r) (ho':OpR X (compareOp op') r') (ha:PE X a ta) (hb:PE X b tb) (hc:PE X c tc)
  (hm:lastMarks [op,op'] [b,c]=false:=by with_unfolding_all rfl):PE X (.Compare a [op,op'] [b,c] pos) (tChain r r' ta tb tc):=by
 intro pins s σ H Q I h
 refine Compare_chain (thn (ha pins s σ H _ I h) fun v s1 ⟨x,H1,I1,r1,q1⟩=>chain_link (thn (hb pins s1 σ H1 _ I1 q1) fun u s2 ⟨y,H2,I2,r2,q2⟩=>
  thn (ho pins s2 σ H2 x y v u _ I2 r1 r2 q2) fun d s3 ⟨z,H3,I3,r3,k,e,q3⟩=>?_)) hm
 subst e
 cases r3
 refine wpAny_truthy_bool ?_
 cases k with
 | false=>exact ite_ff ⟨.bl false,H3,I3,rfl,q3⟩
 | true=>exact ite_tt (chain_last (thn (hc pins s3 σ H3 _ I3 q3) fun w' s4 ⟨z',H4,I4,r4,q4⟩=>ho' pins s4 σ H4 y z' u w' Q I4 r2 r4 q4))
theorem line63:(sizeLine:Nat)<2 ^ 63:=by rw [sizeLine_eq];decide
theorem d_t:OpR X (binaryOp .Add) (fun x y H Q=>∃i j,x=.str i/\y=.str j/\i.length+j.length≤sizeLine/\Q (.str (i++j)) H):=by
 intro pins s σ H x y v u Q I rx ry h
 obtain ⟨i,j,rfl,rfl,hz,q⟩:=h
 obtain ⟨t,rfl⟩:=rx
 obtain ⟨t',rfl⟩:=ry
 exact add_str (fun t' tk=>⟨.str (i++j),H,I.tok _,⟨_,rfl⟩,q⟩) hz
theorem c_K (r:Vals [x] us):∃u,us=[u]/\RelV x u:=by
 cases r with
 | cons r1 r2=>cases r2;exact ⟨_,rfl,r1⟩
theorem vals2 (r:Vals [x,y] us):∃u w',us=[u,w']/\RelV x u/\RelV y w':=by
 cases r with
 | cons r1 r2=>
  cases r2 with
  | cons r3 r4=>cases r4;exact ⟨_,_,rfl,r1,r3⟩
theorem call_int1:c_s X (.type "int") (fun xs H Q=>(∃i,xs=[.int i]/\Q (.int i) H)\/∃k,xs=[.bl k]/\Q (.int (if k then 1 else 0)) H):=by
 intro pins s σ H xs us Q I r h
 rcases h with ⟨i,rfl,q⟩ | ⟨k,rfl,q⟩
 ·obtain ⟨u,rfl,t,rfl⟩:=c_K r
  exact call_int_int ⟨.int i,H,I,⟨_,rfl⟩,q⟩
 ·obtain ⟨u,rfl,r1⟩:=c_K r
  cases r1
  exact call_int_bool ⟨.int (if k then 1 else 0),H,I.tok _,⟨_,rfl⟩,q⟩
end
structure ObjM (h:Heap) (x dx C:Addr) (mA:Str->Option Value):Prop where
 obj:h.get? x=some (PySem.W.instObj C dx)
 ns:h.Ns1 dx mA
 ne:dx≠x
theorem lookIn_ns {h:Heap} (n:h.Ns1 dx mA):∃od,h.get? dx=some od/\∀name,PySem.W.lookIn name od=some (mA name):=by
 obtain ⟨o,es,ep,ho,hd,hk,_,hm⟩:=n
 refine ⟨o,ho,fun name=>?_⟩
 have e:=hm name
 unfold nsFind findBy at e
 rw [<- Array.find?_toList] at e
 unfold PySem.W.lookIn
 rw [hd]
 dsimp only
 split
 ·rename_i y q
  rw [q] at e
  exact congrArg some e
 ·rename_i q
  rw [q] at e
  have a:es.toList.any (·.refKey)=false:=by
   rw [List.any_eq_false]
   intro y hy
   obtain ⟨z,t,hkey⟩:=hk y (Array.mem_toList_iff.mp hy)
   simp [DictEntry.refKey,hkey]
  have a':¬ es.toList.any (·.refKey)=true:=by rw [a];exact Bool.false_ne_true
  rw [if_neg a']
  exact congrArg some e
theorem ObjM.look (I:ObjM h x dx C mA):∃od,PySem.W.InstAt h x (PySem.W.instObj C dx) C (some od)/\∀name,PySem.W.lookIn name od=some (mA name):=
 let ⟨od,ho,hl⟩:=lookIn_ns I.ns
 ⟨od,⟨I.obj,rfl,rfl,ho⟩,hl⟩
section
variable {prog:Program} {w:World} {A:Around} {E:Value->Shared->Prop} {s:Shared} {K:PySem.W.Frag} {x dx C f:Addr} {mA:Str->Option Value} {name:Str} {v:Value}
theorem get_map (X:K.In s.heap) (I:ObjM s.heap x dx C mA) (hg:PySem.W.plainGet K C name=true) (hh:PySem.W.hasDictIn K C=true)
  (ha:PySem.W.findIn K (.ref C) name=some none) (hv:mA name=some v) (hv':PySem.W.handedIn v=true) (h:Q v { s with toks:=s.toks+1 }):
  wpAny (model prog w) A (getAttr (.ref x) name expr) Q E s:=by
 obtain ⟨od,J,hl⟩:=I.look
 exact PySem.W.get_value X J (PySem.W.plainGet_of hg).1 (PySem.W.findObj_own hh ha rfl (by rw [hl,hv])) hv' h
theorem set_map (X:K.In s.heap) (I:ObjM s.heap x dx C mA)
  (hs:PySem.W.findIn K (.ref C) "__setattr__"=some (some (.builtin "object.__setattr__"))) (hp:PySem.W.plainOver K C=true) (ht:PySem.W.takerIn K C name=some none) (hh:PySem.W.hasDictIn K C=true)
  (hw:PySem.Within mA ns) (hsz:ns.length≤sizeLine)
  (h:∀h',ObjM h' x dx C (fun y=>if y=name then some v else mA y)->Heap.SameBut dx s.heap h'->Q () { s with heap:=h',toks:=s.toks+2 }):
  wpAny (model prog w) A (setAttr (.ref x) name v) Q E s:=by
 obtain ⟨od,J,hl⟩:=I.look
 refine PySem.W.set_plain X J hs (PySem.W.osa_open (s:={ s with toks:=s.toks+1 }) (r:=none) X J hp ht fun b=>?_)
 obtain ⟨cd,hc,hd'⟩:=PySem.W.any_some hh
 have hx:s.heap.get? x=some ⟨.ref C,some dx,.plain,#[]⟩:=I.obj
 refine wpAny_bind (wpAny_pure (wpAny_bind (wpAny_bind (wpAny_loadPart hx (wpAny_bind (PySem.W.Looks.here (s:={ s with toks:=s.toks+1 }) (PySem.W.looks_clsIn X hc) ?_))))))
 rw [hd']
 refine wpAny_pure (a:=some dx) (wpAny_bind (wpAny_pure (wpAny_bind ?_)))
 refine wpAny_nsSet1 (s:={ s with toks:=s.toks+1 }) I.ns fun h' hn2 hs2=>?_
 obtain ⟨oD,esD,epD,hoD,hdD,hcD⟩:=hn2.count (PySem.Within.cons name v hw)
 refine wpAny_bind (wpAny_lookBehind hoD (by rw [hdD];exact pastItsLine_dict (Nat.le_trans hcD (by rw [List.length_cons];omega))) ?_)
 exact wpAny_pure (h _ ⟨(hs2.2 _ (Ne.symm I.ne)).trans I.obj,hn2,I.ne⟩ hs2)
theorem make_map (X:K.In s.heap) (hm:PySem.W.makesIn K C=true)
  (hi:PySem.W.findIn K (.ref C) "__init__"=some (some (.ref f))) (hf:PySem.W.typeIn K (.ref f)=some (.type "function"))
  (h:codeAny (model prog w) (A.under (.builtin "type.__call__" ⟨.ref C::vs,kw⟩)) (.call (.ref f) ⟨.ref (s.heap.objs.size+1)::vs,kw⟩) (PySem.W.InitBack (s.heap.objs.size+1) R)
   { s with heap:=(s.heap.push PySem.W.emptyDict).push (PySem.W.instObj C s.heap.objs.size) }):
  codeAny (model prog w) A (.call (.ref C) ⟨vs,kw⟩) R s:=by
 obtain ⟨hh,g,d,t,os⟩:=s
 exact PySem.W.make_core (PySem.W.makes_of X hm) (PySem.W.looks_findIn X hi) (fun self=>PySem.W.bind_fn X self hf) (.inl rfl) h
end
def putF (f:Str) (v:V):List (Str×V)->List (Str×V)
 | []=>[(f,v)]
 | (g,x)::r=>if g=f then (g,v)::r else (g,x)::putF f v r
theorem c_R (f g:Str) (v:V):∀fs:List (Str×V),(putF f v fs).lookup g=if g=f then some v else fs.lookup g
 | []=>by
  show List.lookup g [(f,v)]=_
  by_cases h:g=f
  ·have hb:(g==f)=true:=beq_iff_eq.mpr h
   simp only [List.lookup,hb,if_pos h]
  ·have hb:(g==f)=false:=beq_eq_false_iff_ne.mpr h
   simp only [List.lookup,hb,if_neg h]
 | (k,x)::r=>by
  have ih:=c_R f g v r
  rw [show putF f v ((k,x)::r)=(if k=f then (k,v)::r else (k,x)::putF f v r) from rfl]
  by_cases hk:k=f
  ·rw [if_pos hk]
   by_cases h:g=k
   ·have hb:(g==k)=true:=beq_iff_eq.mpr h
    simp only [List.lookup,hb,if_pos (h.trans hk)]
   ·have hb:(g==k)=false:=beq_eq_false_iff_ne.mpr h
    simp only [List.lookup,hb,if_neg (fun e:g=f=>h (e.trans hk.symm))]
  ·rw [if_neg hk]
   by_cases h:g=k
   ·have hb:(g==k)=true:=beq_iff_eq.mpr h
    simp only [List.lookup,hb,if_neg (fun e:g=f=>hk (h.symm.trans e))]
   ·have hb:(g==k)=false:=beq_eq_false_iff_ne.mpr h
    simp only [List.lookup,hb]
    exact ih
theorem c_y (f:Str) (v:V):∀fs:List (Str×V),f∈(putF f v fs).map (·.1)/\∀g,g∈fs.map (·.1)->g∈(putF f v fs).map (·.1)
 | []=>⟨by simp [putF],fun g h=>by simp at h⟩
 | (k,x)::r=>by
  obtain ⟨i1,i2⟩:=c_y f v r
  rw [show putF f v ((k,x)::r)=(if k=f then (k,v)::r else (k,x)::putF f v r) from rfl]
  by_cases hk:k=f
  ·rw [if_pos hk]
   subst hk
   exact ⟨by simp,fun g h=>by simpa using h⟩
  ·rw [if_neg hk]
   refine ⟨?_,fun g h=>?_⟩
   ·rw [List.map_cons]
    exact List.mem_cons_of_mem _ i1
   ·rw [List.map_cons] at h ⊢
    rcases List.mem_cons.mp h with e | e
    ·exact List.mem_cons.mpr (.inl e)
    ·exact List.mem_cons_of_mem _ (i2 g e)
theorem length_putF (f:Str) (v:V):∀fs:List (Str×V),(putF f v fs).length≤fs.length+1
 | []=>by simp [putF]
 | (k,x)::r=>by
  have ih:=length_putF f v r
  rw [show putF f v ((k,x)::r)=(if k=f then (k,v)::r else (k,x)::putF f v r) from rfl]
  by_cases hk:k=f
  ·rw [if_pos hk,List.length_cons,List.length_cons];omega
  ·rw [if_neg hk,List.length_cons,List.length_cons];omega
theorem RelO.some_of (r:RelO (some v) o):∃u,o=some u/\RelV v u:=by
 cases o with
 | none=>exact (show False from r).elim
 | some u=>exact ⟨u,rfl,r⟩
theorem RelO.none_of (r:RelO none o):o=none:=by
 cases o with
 | none=>rfl
 | some u=>exact (show False from r).elim
theorem handed_of (r:RelV v u):PySem.W.handedIn u=true:=by
 cases v with
 | non=>cases (show u=Value.none from r);rfl
 | bl b=>cases (show u=Value.bool b from r);rfl
 | int i=>obtain ⟨t,e⟩:=(show ∃t,u=Value.int i t from r);cases e;rfl
 | str x=>obtain ⟨t,e⟩:=(show ∃t,u=Value.str x t from r);cases e;rfl
 | byt b=>obtain ⟨t,e⟩:=(show ∃t,u=Value.bytes b t from r);cases e;rfl
 | flt b=>obtain ⟨t,e⟩:=(show ∃t,u=Value.float b t from r);cases e;rfl
 | ref a=>cases (show u=Value.ref a from r);rfl
 | ty n=>cases (show u=Value.type n from r);rfl
section
variable {P:Program} {w:World} {H H':Hp} {h h':Heap} {a C dx:Addr} {fs fs':List (Str×V)}
theorem ins_get (hok:HOk P w H h) (e:H a=some (.ins C dx fs)):∃mA,ObjM h a dx C mA/\(∀f,RelO (fs.lookup f) (mA f))/\PySem.Within mA (fs.map (·.1))/\fs.length≤1000/\H dx=some (.own a):=by
 obtain ⟨d,z,ne,ob,mA,n,r,q⟩:=(show a_V P w H h a (.ins C dx fs) from hok a _ e)
 exact ⟨mA,⟨ob,n,ne⟩,r,q,z,d⟩
end
structure Cls (K:PySem.W.Frag) (C:Addr):Prop where
 pg:PySem.W.plainGet K C Str.empty=true
 hd:PySem.W.hasDictIn K C=true
 po:PySem.W.plainOver K C=true
 sa:PySem.W.findIn K (.ref C) "__setattr__"=some (some (.builtin "object.__setattr__"))
theorem Cls.get {K:PySem.W.Frag} (c:Cls K C) (f:Str):PySem.W.plainGet K C f=true:=c.pg
def a_I (K:PySem.W.Frag) (C:Addr) (f:Str):Prop:=PySem.W.findIn K (.ref C) f=some none
theorem a_I.taker {K:PySem.W.Frag} (n:a_I K C f):PySem.W.takerIn K C f=some none:=by
 unfold PySem.W.takerIn
 rw [show PySem.W.findIn K (.ref C) f=some none from n]
 rfl
section
variable {X:Cx} {pins:List (Addr×Obj)} {σ:St} {H:Hp} {s:Shared} {a C dx:Addr} {fs:List (Str×V)} {f:Str} {v:V} {A:Around} {E:Value->Shared->Prop}
theorem getattr_ok (I:Inv X pins σ H s) (e:H a=some (.ins C dx fs)) (c:Cls X.K C) (n:a_I X.K C f) (l:fs.lookup f=some v)
  (h:∀u s',Inv X pins σ H s'->RelV v u->Q u s'):wpAny (model X.prog X.w) A (getAttr (.ref a) f b) Q E s:=by
 obtain ⟨mA,O,r,_,_,_⟩:=ins_get I.hok e
 obtain ⟨u,hu,ru⟩:=RelO.some_of (v:=v) (o:=mA f) (by rw [<- l];exact r f)
 exact get_map I.kIn O (c.get f) c.hd n hu (handed_of ru) (h u _ (I.tok _) ru)
theorem setattr_ok (I:Inv X pins σ H s) (e:H a=some (.ins C dx fs)) (c:Cls X.K C) (n:a_I X.K C f) (hl:fs.length<1000) (ry:RelV y u)
  (h:∀s',Inv X pins σ (upd H a (.ins C dx (putF f y fs))) s'->Q () s'):wpAny (model X.prog X.w) A (setAttr (.ref a) f u) Q E s:=by
 obtain ⟨mA,O,r,wi,_,ho⟩:=ins_get I.hok e
 have hz:(fs.map (·.1)).length≤sizeLine:=by rw [List.length_map,sizeLine_eq];omega
 refine set_map I.kIn O c.sa c.po n.taker c.hd wi hz fun h' O' sb=>h _ ?_
 have hd:∃o,h'.get? dx=some o:=let ⟨o,_,_,e',_⟩:=O'.ns;⟨o,e'⟩
 refine I.write (x:=a) (e:=dx) (by rw [e];exact True.intro) (.inr ho) (fun b q hb z=>(sb.2 b hb).trans z) hd ?_
 refine ⟨by rw [upd_ne O.ne];exact ho,?_,O.ne,O'.obj,_,O'.ns,fun g=>?_,fun g hg=>?_⟩
 ·have:=length_putF f y fs;omega
 ·show RelO ((putF f y fs).lookup g) (if g=f then some u else mA g)
  rw [c_R]
  by_cases q:g=f
  ·rw [if_pos q,if_pos q];exact ry
  ·rw [if_neg q,if_neg q];exact r g
 ·by_cases q:g=f
  ·rw [q];exact (c_y f y fs).1
  ·refine (c_y f y fs).2 g (wi g fun z=>hg ?_)
   show (if g=f then some u else mA g)=none
   rw [if_neg q];exact z
theorem Inv.made (I:Inv X pins σ H s):Inv X pins σ (upd (upd H s.heap.objs.size (.own (s.heap.objs.size+1))) (s.heap.objs.size+1) (.ins C s.heap.objs.size []))
  { s with heap:=(s.heap.push PySem.W.emptyDict).push (PySem.W.instObj C s.heap.objs.size) }:=by
 have e1:(s.heap.push PySem.W.emptyDict).get? s.heap.objs.size=some PySem.W.emptyDict:=Heap.get?_push_size s.heap rfl
 have e2:((s.heap.push PySem.W.emptyDict).push (PySem.W.instObj C s.heap.objs.size)).get? (s.heap.objs.size+1)=some (PySem.W.instObj C s.heap.objs.size):=by
  have:=Heap.get?_push_size (s.heap.push PySem.W.emptyDict) (o:=PySem.W.instObj C s.heap.objs.size) rfl
  rwa [Heap.size_push] at this
 have e3:(s.heap.push PySem.W.emptyDict).Ns s.heap.objs.size (fun _=>none):=⟨PySem.W.emptyDict,#[],_,e1,rfl,(fun e he=>absurd he (by simp)),fun _=>rfl⟩
 have I1:=I.laid (a:=s.heap.objs.size) (o:=.own (s.heap.objs.size+1)) (h':=s.heap.push PySem.W.emptyDict) (t':=s.toks) (fun b u q=>Heap.get?_push_of_some _ q) (Nat.le_refl _) ⟨_,e1⟩
 refine I1.laid (a:=s.heap.objs.size+1) (o:=.ins C s.heap.objs.size []) (t':=s.toks) (fun b u q=>Heap.get?_push_of_some _ q) (Nat.le_of_eq (Heap.size_push _ _)) ?_
 have ne:s.heap.objs.size≠s.heap.objs.size+1:=Nat.ne_of_lt (Nat.lt_succ_self _)
 refine ⟨by rw [upd_ne ne,upd_same],Nat.zero_le _,ne,e2,fun _=>none,(Heap.Ns1.of_empty e3).at fun o q=>Heap.get?_push_of_some _ q,fun _=>True.intro,fun y hy=>absurd rfl hy⟩
theorem attr_of (hb:attributeBase e f env (eval e env)=eval e env)
  (h:wpAny (model prog w) A (eval e env) (fun o s₁=>wpAny (model prog w) A (getAttr o f true) Q E s₁) E s):wpAny (model prog w) A (eval (.Attribute e f pos) env) Q E s:=
 Attribute_any_ h (by rw [arm_eval_Attribute,hb])
end
def tFld (K:PySem.W.Frag) (ta:TE) (f:Str):TE:=fun σ H Q=>ta σ H fun x H1=>∃a C dx fs v,x=.ref a/\H1 a=some (.ins C dx fs)/\Cls K C/\a_I K C f/\fs.lookup f=some v/\Q v H1
def sFld (K:PySem.W.Frag) (ta tv:TE) (f:Str):TS:=fun D σ H=>tv σ H fun y H1=>ta σ H1 fun x H2=>∃a C dx fs,x=.ref a/\H2 a=some (.ins C dx fs)/\Cls K C/\a_I K C f/\fs.length<1000/\
 D.nx σ (upd H2 a (.ins C dx (putF f y fs)))
section
variable {X:Cx} {o e value:Expr} {f:Str} {pos pos' tpos:Pos} {ta tv:TE}
theorem b_z (he:PE X e ta) (hb:attributeBase e f X.env (eval e X.env)=eval e X.env):PE X (.Attribute e f pos) (tFld X.K ta f):=by
 intro pins s σ H Q I h
 refine attr_of hb (thn (he pins s σ H _ I h) fun u s1 ⟨x,H1,I1,rx,a,C,dx,fs,v,ex,ea,c,n,l,q⟩=>?_)
 subst ex
 obtain rfl:u=Value.ref a:=rx
 exact getattr_ok I1 ea c n l fun u' s2 I2 ru=>⟨v,H1,I2,ru,q⟩
theorem ps_fld (ha:PE X o ta) (hv:PE X value tv) (hs:swapsWith value (some (.Attribute o f pos')) pos.line X.env=pure false):PS X (.Assign [.Attribute o f pos'] value pos) (sFld X.K ta tv f):=by
 intro pins s σ H D I h
 refine plainObj_wpAny_Assign_Attribute (thn (hv pins s σ H _ I h) fun u s1 ⟨y,H1,I1,ry,q⟩=>thn (ha pins s1 σ H1 _ I1 q) fun ov s2 ⟨x,H2,I2,rx,a,C,dx,fs,ex,ea,c,n,l,q2⟩=>?_) hs
 subst ex
 obtain rfl:ov=Value.ref a:=rx
 exact setattr_ok I2 ea c n l ry fun s3 I3=>⟨σ,_,I3,q2⟩
end
section
variable {X:Cx} {pins:List (Addr×Obj)} {σ:St} {H:Hp} {s:Shared} {A:Around} {E:Value->Shared->Prop} {Q:Value->Shared->Prop} {c:Value} {b:Bool}
inductive TyOf (K:PySem.W.Frag) (H:Hp):V->Value->Prop where
 | non:TyOf K H .non (.type "NoneType")
 | bl (x:Bool):TyOf K H (.bl x) (.type "bool")
 | int (i:Int):TyOf K H (.int i) (.type "int")
 | str (x:Str):TyOf K H (.str x) (.type "str")
 | flt (x:UInt64):TyOf K H (.flt x) (.type "float")
 | lst {a:Addr} {xs:List V} (e:H a=some (.lst xs)):TyOf K H (.ref a) (.type "list")
 | frz {a:Addr} {o:Obj} {xs:List V} (e:H a=some (.frz o (.lst xs))):TyOf K H (.ref a) (.type "list")
 | tup {a:Addr} {xs:List V} (e:H a=some (.tup xs)):TyOf K H (.ref a) (.type "tuple")
 | dK {a:Addr} {kvs:List (Key×V)} (e:H a=some (.dK kvs)):TyOf K H (.ref a) (.type "dict")
 | dT {a:Addr} {kvs:List (List Key×V)} (e:H a=some (.dT kvs)):TyOf K H (.ref a) (.type "dict")
 | ins {a C dx:Addr} {fs:List (Str×V)} (e:H a=some (.ins C dx fs)) (cl:Cls K C) (ha:PySem.W.findIn K (.ref C) "__class__"=some (some (.builtin "object.__class__")))
   (hn:PySem.W.specialIn K (.builtin "object.__class__") "__get__"=some (some (.builtin "getset_descriptor.__get__"))) (htk:PySem.W.takesIn K (.builtin "object.__class__")=some true)
   (hm:PySem.W.mroIn K C (.type "object")=some true):TyOf K H (.ref a) (.ref C)
theorem isinst_ok (I:Inv X pins σ H s) (rx:RelV x u) (ty:TyOf X.K H x t) (e:PySem.W.kitOne X.K t c=some b) (h:∀tk,Q (.bool b) { s with toks:=tk }):
  wpAny (model X.prog X.w) A (call (.builtin "isinstance") [u,c]) Q E s:=by
 cases ty with
 | non=>cases (show u=Value.none from rx);exact PySem.W.kia_one PySem.W.kitx_none I.kIn True.intro e (fun z=>nomatch z) h
 | bl y=>cases (show u=Value.bool y from rx);exact PySem.W.kia_one PySem.W.kitx_bool I.kIn True.intro e (fun z=>nomatch z) h
 | int i=>obtain ⟨t,q⟩:=(show ∃t,u=Value.int i t from rx);cases q;exact PySem.W.kia_one PySem.W.kitx_int I.kIn True.intro e (fun z=>nomatch z) h
 | str y=>obtain ⟨t,q⟩:=(show ∃t,u=Value.str y t from rx);cases q;exact PySem.W.kia_one PySem.W.kitx_str I.kIn True.intro e (fun z=>nomatch z) h
 | flt y=>obtain ⟨t,q⟩:=(show ∃t,u=Value.float y t from rx);cases q;exact PySem.W.kia_one PySem.W.kitx_float I.kIn True.intro e (fun z=>nomatch z) h
 | @lst a xs ea=>
  cases (show u=Value.ref a from rx)
  obtain ⟨_,_,n,_,h1⟩:=(show a_V X.prog X.w H s.heap a (.lst xs) from I.hok a _ ea)
  exact PySem.W.kia_one PySem.W.kitx_list I.kIn ⟨_,h1,rfl⟩ e (fun z=>nomatch z) h
 | @frz a ob xs ea=>
  cases (show u=Value.ref a from rx)
  obtain ⟨_,_,_,n,_,h1⟩:=(show a_V X.prog X.w H s.heap a (.frz ob (.lst xs)) from I.hok a _ ea)
  exact PySem.W.kia_one PySem.W.kitx_list I.kIn ⟨_,h1,rfl⟩ e (fun z=>nomatch z) h
 | @tup a xs ea=>
  cases (show u=Value.ref a from rx)
  obtain ⟨_,_,_,p⟩:=(show a_V X.prog X.w H s.heap a (.tup xs) from I.hok a _ ea)
  obtain ⟨o,h1,h2,_⟩:=p
  exact PySem.W.kia_one PySem.W.kitx_tuple I.kIn ⟨o,h1,h2⟩ e (fun z=>nomatch z) h
 | @dK a kvs ea=>
  cases (show u=Value.ref a from rx)
  obtain ⟨_,_,vs,_,p⟩:=(show a_V X.prog X.w H s.heap a (.dK kvs) from I.hok a _ ea)
  obtain ⟨o,es,ep,h1,h2,_⟩:=p
  exact PySem.W.kia_one PySem.W.kitx_dict I.kIn ⟨o,h1,h2.1⟩ e (fun z=>nomatch z) h
 | @dT a kvs ea=>
  cases (show u=Value.ref a from rx)
  obtain ⟨_,_,xs,_,o,es,ep,h1,h2,_⟩:=(show a_V X.prog X.w H s.heap a (.dT kvs) from I.hok a _ ea)
  exact PySem.W.kia_one PySem.W.kitx_dict I.kIn ⟨o,h1,h2.1⟩ e (fun z=>nomatch z) h
 | @ins a C dx fs ea cl ha hn htk hm=>
  cases (show u=Value.ref a from rx)
  obtain ⟨mA,O,_⟩:=ins_get I.hok ea
  obtain ⟨od,J,_⟩:=O.look
  exact PySem.W.kia_one (PySem.W.kitx_own (cl.get _) cl.hd ha hn htk hm) I.kIn J e (fun z=>nomatch z) h
end
structure Room (k:Nat) (A:Around):Prop where
 hd:A.handled=none
 dp:A.depth+3 * k+5<recursionLimit
 un:A.units+16 * k+200<cLine
theorem Room.mono (r:Room k A) (h:j≤k):Room j A:=⟨r.hd,by have:=r.dp;omega,by have:=r.un;omega⟩
theorem Room.deeper (r:Room (k+1) A) (env:Env):Room k (A.deeper env):=
 ⟨r.hd,by have:=r.dp;show A.depth+1+3 * k+5<_;omega,by have:=r.un;show A.units+3+16 * k+200<_;omega⟩
theorem make_depth {A:Around}:(A.under (.builtin "type.__call__" ⟨.ref C::us,kw⟩)).depth=A.depth+1:=by
 first | rfl | simp [Around.under,Code.weight,Code.isCreation,Code.isGuard,Code.isCaller,Code.frames,Code.isFrame,guardIds]
theorem make_units {A:Around}:(A.under (.builtin "type.__call__" ⟨.ref C::us,kw⟩)).units=A.units+1:=by
 first | rfl | simp [Around.under,Code.cUnits,Code.frames,Code.isFrame]
theorem Room.make (r:Room (k+1) A) (C:Addr) (us:List Value) (kw:List (Str×Value)):Room k (A.under (.builtin "type.__call__" ⟨.ref C::us,kw⟩)):=
 ⟨r.hd,by have:=r.dp;rw [make_depth];omega,by have:=r.un;rw [make_units];omega⟩
theorem Room.depth (r:Room k A):A.depth<recursionLimit:=by have:=r.dp;omega
theorem Room.units (r:Room k A):A.units+64<cLine:=by have:=r.un;omega
theorem Room.units0 (r:Room k A):A.units<cLine:=by have:=r.un;omega
def tNil:TA:=fun _ H Q=>Q [] H
def c_H (ta:TE) (tr:TA):TA:=fun σ H Q=>ta σ H fun x H1=>tr σ H1 fun xs H2=>Q (x::xs) H2
section
variable {X:Cx} {e:Expr} {es:List Expr} {te:TE} {t:TA} {pos:Pos}
theorem a_d:PA X [] tNil:=fun _ _ _ _ H Q I h=>Calls.spliced_nil ⟨[],H,I,.nil,h⟩
theorem a_a (ha:PE X e te) (hr:PA X es t) (hs:starEach (e::es) X.env=(false,eval e X.env)::starEach es X.env:=by rfl):PA X (e::es) (c_H te t):=by
 intro pos pins s σ H Q I h
 rw [hs]
 show wpAny _ _ (spliced ((false,eval e X.env)::backTo pos (starEach es X.env))) _ _ s
 refine Calls.spliced_cons (thn (ha pins s σ H _ I h) fun u s1 ⟨x,H1,I1,r1,q1⟩=>?_)
 exact thn (hr pos pins s1 σ H1 _ I1 q1) fun us s2 ⟨xs,H2,I2,r2,q2⟩=>⟨x::xs,H2,I2,.cons r1 r2,q2⟩
def tTup (t:TA):TE:=fun σ H Q=>t σ H fun xs H1=>xs.length≤sizeLine/\∀p,H1 p=none->Q (.ref p) (upd H1 p (.tup xs))
def tLst (t:TA):TE:=fun σ H Q=>t σ H fun xs H1=>xs.length≤sizeLine/\∀p,H1 p=none->Q (.ref p) (upd H1 p (.lst xs))
theorem d_y {x1} (h:PA X es t):PE X (.Tuple es x1 pos) (tTup t):=by
 intro pins s σ H Q I hq
 refine wpAny_Tuple_spliced (thn (h pos pins s σ H _ I hq) fun us s1 ⟨xs,H1,I1,r,z,q⟩=>⟨by rw [<- r.length];exact z,?_⟩)
 have hf:H1 s1.heap.objs.size=none:=I1.hok.fresh (Nat.le_refl _)
 refine ⟨.ref s1.heap.objs.size,upd H1 s1.heap.objs.size (.tup xs),I1.laid (t':=s1.toks) (fun b u e=>Heap.get?_push_of_some _ e) (Nat.le_refl _) ?_,rfl,q _ hf⟩
 exact ⟨z,us,r,⟨_,Heap.get?_push_size _ rfl,rfl,_,rfl⟩⟩
theorem b_y (h:PA X es t):PE X (.List es pos) (tLst t):=by
 intro pins s σ H Q I hq
 refine wpAny_List_spliced (thn (h pos pins s σ H _ I hq) fun us s1 ⟨xs,H1,I1,r,z,q⟩=>⟨by rw [<- r.length];exact z,?_⟩)
 have hf:H1 s1.heap.objs.size=none:=I1.hok.fresh (Nat.le_refl _)
 refine ⟨.ref s1.heap.objs.size,upd H1 s1.heap.objs.size (.lst xs),I1.laid (t':=s1.toks) (fun b u e=>Heap.get?_push_of_some _ e) (Nat.le_refl _) ?_,rfl,q _ hf⟩
 exact ⟨z,us,0,r,Heap.get?_push_size _ rfl⟩
end
abbrev Sp:=List V->Hp->VK->XK->Prop
abbrev CXT:=List Env->Hp->Shared->XK->Value->Shared->Prop
structure Env0 (P:Program) (w:World) (K:PySem.W.Frag) (mg:Str->Option Value) (base:Heap) (A:Around) (outer:List Env) (s:Shared) (H:Hp):Prop where
 frames:A.frames=some outer
 mod:Mod K mg base
 bs:∀b o,base.get? b=some o->s.heap.get? b=some o/\H b=none
 bsz:base.objs.size≤s.heap.objs.size
 funs:s.heap.FunFrames base outer
 frf:∀b∈frs outer,H b=none
 hok:HOk P w H s.heap
 bare:AllBare s.gens
def CE (outer:List Env) (P:Program) (w:World) (H:Hp) (s:Shared) (Q:VK) (u:Value) (s':Shared):Prop:=
 ∃v H',s'.os=s.os/\AllBare s'.gens/\Un (frs outer) [] H H' s.heap s'.heap/\HOk P w H' s'.heap/\RelV v u/\Q v H'
def CR (CX:CXT) (outer:List Env) (P:Program) (w:World) (H:Hp) (s:Shared) (Q:VK) (E:XK) (r:Result) (s':Shared):Prop:=
 match r with
 | .ok (.ret u)=>CE outer P w H s Q u s'
 | .ok _=>False
 | .error e=>CX outer H s E e s'
structure FnOk (P:Program) (w:World) (K:PySem.W.Frag) (mg:Str->Option Value) (base:Heap) (CX:CXT) (k:Nat) (f:Addr) (fd:FuncData) (ps:List Str) (sp:Sp):Prop where
 len:∀vs H Q E,sp vs H Q E->vs.length=ps.length
 run:∀(A:Around) (outer:List Env) (s:Shared) (H:Hp) (args:Args) (us:List Value) (vs:List V) (Q:VK) (E:XK),Room k A->Env0 P w K mg base A outer s H->BindsTo s fd args (ps.zip us)->Vals vs us->sp vs H Q E->
  codeAny (model P w) A (.call (.ref f) args) (CR CX outer P w H s Q E) s
theorem FnOk.mono {P:Program} {w:World} {K:PySem.W.Frag} (F:FnOk P w K mg base CX j f fd ps sp) (h:j≤k):
  FnOk P w K mg base CX k f fd ps sp:=⟨F.len,fun A outer s H args us vs Q E hr=>F.run A outer s H args us vs Q E (hr.mono h)⟩
theorem Env0.make {K:PySem.W.Frag} (e:Env0 P w K mg base A outer s H) (C:Addr) (us:List Value) (kw:List (Str×Value)):
  Env0 P w K mg base (A.under (.builtin "type.__call__" ⟨.ref C::us,kw⟩)) outer s H:=⟨by first | exact e.frames | (simpa [Around.under,Code.envs,Code.isFrame,pushEnvs] using e.frames),e.mod,e.bs,e.bsz,e.funs,e.frf,e.hok,e.bare⟩
section
variable {X:Cx} {pins:List (Addr×Obj)} {σ:St} {H:Hp} {s s':Shared}
theorem Inv.env0 (I:Inv X pins σ H s):Env0 X.prog X.w X.K X.mg X.base X.A X.stack s H:=
 ⟨I.ok.frames,I.ok.mod,I.bs,Nat.le_trans I.ok.bsz I.sz,I.stack,I.stkFree,I.hok,I.bare⟩
theorem Inv.after (I:Inv X pins σ H s) (h:CE X.stack X.prog X.w H s Q u s'):EP X pins σ Q u s':=by
 obtain ⟨v,H',os,bare,un,hok,r,q⟩:=h
 obtain ⟨hh,g,d,t,os'⟩:=s'
 obtain rfl:os'=s.os:=os
 exact ⟨v,H',I.call (h':=hh) (g':=g) (d':=d) (t':=t) (ch:=[]) un hok bare (fun b z=>absurd z (by simp)),r,q⟩
end
def c_t (sp:Sp) (dvs:List V) (E:XK) (t:TA):TE:=fun σ H Q=>t σ H fun vs H1=>sp (vs++dvs) H1 Q E
def tMake (C:Addr) (sp:Sp) (dvs:List V) (E:XK) (t:TA):TE:=fun σ H Q=>t σ H fun vs H1=>∀x dx,H1 x=none->H1 dx=none->dx≠x->
 sp (.ref x::(vs++dvs)) (upd (upd H1 dx (.own x)) x (.ins C dx [])) (fun v H2=>v=.non/\Q (.ref x) H2) E
def c_D (K:PySem.W.Frag) (fd:FuncData) (ps:List Str) (ds:List Value):Prop:=
 ∀(s:Shared) (us:List Value),K.In s.heap->(us++ds).length=ps.length->BindsTo s fd ⟨us,[]⟩ (ps.zip (us++ds))
theorem c_D.all {K:PySem.W.Frag} (h:∀us:List Value,us.length=ps.length->bindArgs fd ⟨us,[]⟩=pure (ps.zip us)):c_D K fd ps []:=fun s us _ hl=>by
 rw [List.append_nil] at hl ⊢
 exact .of_eq (h us hl)
def d_h (CX:CXT) (X:Cx) (E:XK):Prop:=∀(pins:List (Addr×Obj)) (σ:St) (H:Hp) (s:Shared) (e:Value) (s':Shared),Inv X pins σ H s->CX X.stack H s E e s'->X.xe e s'
section
variable {X:Cx} {CX:CXT} {k:Nat} {f C:Addr} {fd:FuncData} {ps:List Str} {sp:Sp} {dvs:List V} {ds:List Value} {E:XK} {x m:Str} {p pos apos:Pos} {e o:Expr} {es:List Expr} {ta:TE} {t:TA}
theorem run_fn {σ:St} (F:FnOk X.prog X.w X.K X.mg X.base CX k f fd ps sp) (hr:Room k X.A) (hb:c_D X.K fd ps ds) (hd:Vals dvs ds) (hx:d_h CX X E)
  (I:Inv X pins σ H s) (r:Vals vs us) (h:sp (vs++dvs) H Q E):wpAny (model X.prog X.w) X.A (call (.ref f) us) (EP X pins σ Q) X.xe s:=by
 have r2:Vals (vs++dvs) (us++ds):=r.append hd
 have hl:(us++ds).length=ps.length:=by rw [<- r2.length];exact F.len _ _ _ _ h
 refine wpAny_call (codeAny_mono (F.run X.A X.stack s H ⟨us,[]⟩ (us++ds) (vs++dvs) Q E hr I.env0 (hb s us I.kIn hl) r2 h) fun r s' hq=>?_)
 cases r with
 | error e=>exact hx pins σ H s e s' I hq
 | ok fl=>
  cases fl with
  | ret u=>exact I.after hq
  | next=>exact False.elim hq
  | brk=>exact False.elim hq
  | cont=>exact False.elim hq
theorem pe_call (F:FnOk X.prog X.w X.K X.mg X.base CX k f fd ps sp) (hr:Room k X.A) (hg:Gl X x) (hm:X.mg x=some (.ref f)) (hk:PySem.W.keepIn X.K (.ref f)=true) (hb:c_D X.K fd ps ds) (hd:Vals dvs ds) (hx:d_h CX X E)
  (ha:PA X (e::es) t) (hdb:(x==("__debug__":Str))=false:=by decide) (he:starEach (e::es) X.env=(false,eval e X.env)::starEach es X.env:=by rfl) (hpl:(backTo pos (starEach es X.env)).any (·.1)=false:=by rfl):
  PE X (.Call (.Name x p) (e::es) [] pos) (c_t sp dvs E t):=by
 intro pins s σ H Q I h
 refine wpAny_Call_Name_kw (ld_glob I hg hm ?_ hdb)
 refine PySem.W.callWith_K (h₀:=X.base) I.ok.mod.kin hk (thn (ha pos pins s σ H _ I h) fun us s1 ⟨vs,H1,I1,r,q⟩=>⟨I1.kIn,?_⟩) he hpl
 exact run_fn F hr hb hd hx I1 r q
structure Mk (K:PySem.W.Frag) (C f:Addr):Prop where
 makes:PySem.W.makesIn K C=true
 init:PySem.W.findIn K (.ref C) "__init__"=some (some (.ref f))
 fn:PySem.W.isFn K (.ref f)=true
 kp:PySem.W.keepIn K (.ref C)=true
theorem run_make {σ:St} (M:Mk X.K C f) (F:FnOk X.prog X.w X.K X.mg X.base CX k f fd ps sp) (hr:Room (k+1) X.A) (hb:c_D X.K fd ps ds) (hd:Vals dvs ds)
  (hx:d_h CX X E) (I:Inv X pins σ H s) (r:Vals vs us)
  (h:∀x dx,H x=none->H dx=none->dx≠x->sp (.ref x::(vs++dvs)) (upd (upd H dx (.own x)) x (.ins C dx [])) (fun v H2=>v=.non/\Q (.ref x) H2) E):
  wpAny (model X.prog X.w) X.A (call (.ref C) us) (EP X pins σ Q) X.xe s:=by
 have hq:=h (s.heap.objs.size+1) s.heap.objs.size (I.hok.fresh (Nat.le_succ _)) (I.hok.fresh (Nat.le_refl _)) (Nat.ne_of_lt (Nat.lt_succ_self _))
 have I2:=Inv.made (C:=C) I
 have r2:Vals (V.ref (s.heap.objs.size+1)::(vs++dvs)) (Value.ref (s.heap.objs.size+1)::(us++ds)):=.cons rfl (r.append hd)
 have hl:(Value.ref (s.heap.objs.size+1)::us++ds).length=ps.length:=by
  have e:=r2.length
  rw [F.len _ _ _ _ hq] at e
  exact e.symm
 refine wpAny_call (make_map (f:=f) I.kIn M.makes M.init (beq_iff_eq.mp M.fn) (codeAny_mono (F.run _ X.stack _ _ ⟨Value.ref (s.heap.objs.size+1)::us,[]⟩ (Value.ref (s.heap.objs.size+1)::(us++ds)) _ _ E (hr.make C us [])
  (I2.env0.make C us []) (hb _ (Value.ref (s.heap.objs.size+1)::us) I2.kIn hl) r2 hq) fun r s' hq'=>?_))
 cases r with
 | error e=>exact hx pins σ _ _ e s' I2 hq'
 | ok fl=>
  cases fl with
  | ret u=>
   obtain ⟨v,H',I3,rv,ev,q3⟩:=I2.after hq'
   subst ev
   exact ⟨rv,⟨V.ref (s.heap.objs.size+1),H',I3,rfl,q3⟩⟩
  | next=>exact False.elim hq'
  | brk=>exact False.elim hq'
  | cont=>exact False.elim hq'
theorem pe_make (M:Mk X.K C f) (F:FnOk X.prog X.w X.K X.mg X.base CX k f fd ps sp) (hr:Room (k+1) X.A) (hg:Gl X x) (hm:X.mg x=some (.ref C)) (hb:c_D X.K fd ps ds) (hd:Vals dvs ds) (hx:d_h CX X E)
  (ha:PA X (e::es) t) (hdb:(x==("__debug__":Str))=false:=by decide) (he:starEach (e::es) X.env=(false,eval e X.env)::starEach es X.env:=by rfl) (hpl:(backTo pos (starEach es X.env)).any (·.1)=false:=by rfl):
  PE X (.Call (.Name x p) (e::es) [] pos) (tMake C sp dvs E t):=by
 intro pins s σ H Q I h
 refine wpAny_Call_Name_kw (ld_glob I hg hm ?_ hdb)
 refine PySem.W.callWith_K (h₀:=X.base) I.ok.mod.kin M.kp (thn (ha pos pins s σ H _ I h) fun us s1 ⟨vs,H1,I1,r,q⟩=>⟨I1.kIn,?_⟩) he hpl
 exact run_make M F hr hb hd hx I1 r q
end
section
variable {X:Cx} {CX:CXT} {k:Nat} {f C:Addr} {fd:FuncData} {ps ks:List Str} {sp:Sp} {E:XK} {x m:Str} {p pos apos kpos:Pos} {e o:Expr} {es:List Expr} {kws:List Keyword} {te ta:TE} {t tk:TA} {nm:Option Str}
variable {g:List Value->List Value->List Value} {gV:List V->List V->List V}
end
structure a_l (N P:List Str) (sc:Scope):Prop where
 kind:sc.kind=.function
 co:sc.isCoroutine=false
 gen:sc.isGenerator=false
 nd:N.Nodup
 pre:N.take P.length=P
 par:∀x∈P,sc.names.lookup x=some .local\/sc.names.lookup x=some .cell
 nofree:∀y∈sc.names,y.2≠.free
theorem bindL_out {kindOf:Str->Option NameKind} {x:Str}:∀{binds:List (Str×Value)} {m:Str->Option Value},(∀v,(x,v)∉binds)->bindL kindOf binds m x=m x
 | [],_,_=>rfl
 | (n,v)::r,m,h=>by
  unfold bindL
  rw [bindL_out fun w hw=>h w (List.mem_cons_of_mem _ hw)]
  split
  ·have:x≠n:=by rintro rfl;exact h v List.mem_cons_self
   simp [this]
  ·rfl
theorem bindC_out {kindOf:Str->Option NameKind} {x:Str}:∀{binds:List (Str×Value)} {m:Str->Option Value},(∀v,(x,v)∉binds)->bindC kindOf binds m x=m x
 | [],_,_=>rfl
 | (n,v)::r,m,h=>by
  unfold bindC
  rw [bindC_out fun w hw=>h w (List.mem_cons_of_mem _ hw)]
  split
  ·rfl
  ·have:x≠n:=by rintro rfl;exact h v List.mem_cons_self
   simp [this]
theorem bindL_get {kindOf:Str->Option NameKind} {x:Str} {v:Value}:∀{P:List Str} {vs:List Value} {i:Nat} {m:Str->Option Value},P.Nodup->P[i]?=some x->vs[i]?=some v->kindOf x=some .local->
  bindL kindOf (P.zip vs) m x=some v
 | [],_,_,_,_,h,_,_=>by simp at h
 | _::_,[],_,_,_,_,h,_=>by simp at h
 | p::P,w::vs,0,m,nd,h1,h2,hk=>by
  simp at h1 h2;subst h1;subst h2
  show bindL kindOf ((p,w)::P.zip vs) m p=_
  unfold bindL
  rw [bindL_out fun v hv=>(List.nodup_cons.mp nd).1 (List.of_mem_zip hv).1,if_pos hk]
  simp
 | p::P,w::vs,i+1,m,nd,h1,h2,hk=>by
  show bindL kindOf ((p,w)::P.zip vs) m x=_
  unfold bindL
  exact bindL_get (i:=i) (List.nodup_cons.mp nd).2 (by simpa using h1) (by simpa using h2) hk
theorem bindC_get {kindOf:Str->Option NameKind} {x:Str} {v:Value}:∀{P:List Str} {vs:List Value} {i:Nat} {m:Str->Option Value},P.Nodup->P[i]?=some x->vs[i]?=some v->kindOf x≠some .local->
  bindC kindOf (P.zip vs) m x=some v
 | [],_,_,_,_,h,_,_=>by simp at h
 | _::_,[],_,_,_,_,h,_=>by simp at h
 | p::P,w::vs,0,m,nd,h1,h2,hk=>by
  simp at h1 h2;subst h1;subst h2
  show bindC kindOf ((p,w)::P.zip vs) m p=_
  unfold bindC
  rw [bindC_out fun v hv=>(List.nodup_cons.mp nd).1 (List.of_mem_zip hv).1,if_neg hk]
  simp
 | p::P,w::vs,i+1,m,nd,h1,h2,hk=>by
  show bindC kindOf ((p,w)::P.zip vs) m x=_
  unfold bindC
  exact bindC_get (i:=i) (List.nodup_cons.mp nd).2 (by simpa using h1) (by simpa using h2) hk
def start (N:List Str) (vs:List V):St:=vs.map some++List.replicate (N.length - vs.length) none
def cxOf (CX:CXT) (P:Program) (w:World) (K:PySem.W.Frag) (mg:Str->Option Value) (base:Heap) (N:List Str) (qual:Str) (scope:Scope) (f:Addr) (cd:Value) (A:Around) (outer:List Env) (s:Shared) (H:Hp) (E:XK):Cx where
 prog:=P
 w:=w
 K:=K
 mg:=mg
 base:=base
 A:=A.deeper (envOfC qual scope s.heap.objs.size f cd)
 N:=N
 s₀:=s
 H₀:=H
 env:=envOfC qual scope s.heap.objs.size f cd
 outer:=outer
 stack:=envOfC qual scope s.heap.objs.size f cd::outer
 ex:=[]
 calm:=true
 fn:=fun _=>true
 pn:=[]
 xe:=fun e s'=>wpAny (model P w) (A.deeper (envOfC qual scope s.heap.objs.size f cd)) (leaving (envOfC qual scope s.heap.objs.size f cd) e) (fun _ s''=>CX outer H s E e s'') (fun e' s''=>CX outer H s E e' s'') s'
theorem cell_has {sc:Scope} (h:sc.names.lookup x=some .cell):∃c,(cellsFrom n sc.names []).lookup x=some c:=by
 have q:=PySem.W.cellsFrom_some sc.names n [] (.inl h)
 exact Option.isSome_iff_exists.mp q
theorem inv_start {CX:CXT} {P:Program} {w:World} {K:PySem.W.Frag} {mg:Str->Option Value} {base:Heap} {N ps:List Str} {qual:Str} {scope:Scope} {f:Addr} {cd:Value} {A:Around} {outer:List Env} {s s1:Shared} {H:Hp} {E:XK} {us:List Value} {vs:List V}
  (S:a_l N ps scope) (hd:A.handled=none) (e0:Env0 P w K mg base A outer s H) (hl:vs.length=ps.length) (r:Vals vs us)
  (x:InCallC s s.heap.objs.size (bindL (envOfC qual scope s.heap.objs.size f cd).kindOf (ps.zip us) fun _=>none) (cellsFrom (s.heap.objs.size+1) scope.names []) (bindC (envOfC qual scope s.heap.objs.size f cd).kindOf (ps.zip us) fun _=>none) s1):
  Inv (cxOf CX P w K mg base N qual scope f cd A outer s H E) [] (start N vs) H s1:=by
 have hpl:ps.length≤N.length:=by have:=congrArg List.length S.pre;rw [List.length_take] at this;omega
 obtain ⟨h1,tk,rfl,hk⟩:=x.done
 have noA:∀b:Addr,b∉(cxOf CX P w K mg base N qual scope f cd A outer s H E).ex:=fun b z=>absurd (show b∈([]:List Addr) from z) (by simp)
 refine ⟨⟨e0.mod,S.kind,rfl,rfl,Nat.le_refl _,fun y z c h1 h2=>?_,fun y hy=>?_,fun y c _ h=>?_,fun _=>hd,Around.frames_deeper e0.frames,.inr ⟨rfl,rfl⟩,fun b z=>absurd z (noA b),e0.bs,e0.bsz,fun b _ _=>noA b,fun b z=>absurd z (noA b),e0.funs,e0.frf⟩,
  rfl,e0.bare,Un.kept hk,⟨_,x.toInCall.ns,fun i y v h1 h2 h3=>?_⟩,fun y c h=>⟨_,x.cell y c h⟩,e0.hok.fresh (Nat.le_refl _),fun y c h=>?_,fun p hp=>absurd (show p∈([]:List (Addr×Obj)) from hp) (by simp),e0.hok.kept hk,?_⟩
 ·exact name_of_addr x.apart (PySem.mem_of_lookup h1) (PySem.mem_of_lookup h2)
 ·have hy:scope.names.lookup y=some .cell\/scope.names.lookup y=some .free:=hy
  rcases hy with hy | hy
  ·exact cell_has hy
  ·exact absurd rfl (S.nofree _ (PySem.mem_of_lookup hy))
 ·exact Nat.le_of_lt (x.above y c (PySem.mem_of_lookup h))
 ·have hi:i<vs.length:=by
   unfold start at h2
   by_cases hi:i<vs.length
   ·exact hi
   ·rw [List.getElem?_append_right (by simpa using hi)] at h2
    rw [List.getElem?_replicate] at h2
    split at h2 <;> cases h2
  have ha:vs[i]?=some v:=by
   unfold start at h2
   rw [List.getElem?_append_left (by simpa using hi),List.getElem?_map] at h2
   cases e:vs[i]? with
   | none=>rw [e] at h2;cases h2
   | some a=>rw [e] at h2;cases h2;rfl
  obtain ⟨u,hu,rv⟩:=r.get ha
  have hp:ps[i]?=some y:=by
   rw [<- S.pre,List.getElem?_take_of_lt (by omega)];exact h1
  have ndP:ps.Nodup:=by rw [<- S.pre];exact S.nd.sublist (List.take_sublist _ _)
  refine ⟨u,rv,?_⟩
  rcases S.par y (List.mem_of_getElem? hp) with k | k
  ·exact .inl ⟨k,bindL_get ndP hp hu k⟩
  ·obtain ⟨c,e⟩:=cell_has (n:=s.heap.objs.size+1) k
   refine .inr ⟨.inl k,c,e,?_⟩
   have q:=x.cell y c e
   rw [bindC_get ndP hp hu (by show scope.names.lookup y≠_;rw [k];decide)] at q
   exact q
 ·exact e0.hok.fresh (Nat.le_of_lt (x.above y c (PySem.mem_of_lookup h)))
 ·unfold start
  show _=N.length
  rw [List.length_append,List.length_map,List.length_replicate]
  omega
theorem fn_of {CX:CXT} {P:Program} {w:World} {K:PySem.W.Frag} {mg:Str->Option Value} {base:Heap} {k:Nat} {f:Addr} {name qual:Str} {params:Arguments} {body:List Stmt} {scope:Scope} {dV kV doc pm cdv ct oc:Value} {an od:Option Addr}
  {osl:Array (Option Value)} {N ps:List Str} {sp:Sp} (lk:K.lookup f=some ⟨oc,od,.func (PySem.W.fnOf name qual params body scope dV kV doc pm an cdv ct),osl⟩) (hcd:PySem.W.codeIn K cdv qual=true) (S:a_l N ps scope)
  (len:∀vs H Q E,sp vs H Q E->vs.length=ps.length)
  (hbody:∀(A:Around) (outer:List Env) (s:Shared) (H:Hp) (vs:List V) (Q:VK) (E:XK),Room k (A.deeper (envOfC qual scope s.heap.objs.size f cdv))->sp vs H Q E->
   ∃t,PSs (cxOf CX P w K mg base N qual scope f cdv A outer s H E) body t/\t { nx:=fun _ H'=>Q .non H',rt:=Q } (start N vs) H):
  FnOk P w K mg base CX (k+1) f (PySem.W.fnOf name qual params body scope dV kV doc pm an cdv ct) ps sp:=by
 refine ⟨len,fun A outer s H args us vs Q E hr e0 hb r hsp=>?_⟩
 have hl:=len _ _ _ _ hsp
 have KX:K.In s.heap:=e0.mod.kin.keeps fun b o e=>(e0.bs b o e).1
 have lim:s.heap.NoLimit:=e0.mod.nolimit.keeps fun b o e=>(e0.bs b o e).1
 have hkind:∀y∈ps.zip us,scope.names.lookup y.1=some .local\/(scope.names.lookup y.1=some .cell/\((cellsFrom (s.heap.objs.size+1) scope.names []).lookup y.1).isSome=true):=fun ⟨n,v⟩ hy=>by
  rcases S.par n (List.of_mem_zip hy).1 with q | q
  ·exact .inl q
  ·exact .inr ⟨q,PySem.W.cellsFrom_some _ _ _ (.inl q)⟩
 refine codeAny_call_function hr.depth (KX _ _ lk) rfl S.co S.gen rfl (PySem.W.codeRec_of KX hcd) (hb _ _ _ _ ?_)
 refine wpAny_newFunctionEnv_cells S.kind hkind fun env he s1 x=>?_
 subst he
 refine ⟨lim.keeps x.toInCall.keep,codeAny_func ?_⟩
 obtain ⟨t,ht,hq⟩:=hbody A outer s H vs Q E (hr.deeper _) hsp
 have I:Inv (cxOf CX P w K mg base N qual scope f cdv A outer s H E) [] (start N vs) H s1:=inv_start S hr.hd e0 hl r x
 refine wpAny_mono (ht [] s1 (start N vs) H _ I hq) (fun fl s' hs=>?_) fun e s' hs=>hs
 have fin:∀{σ':St} {H':Hp} {v:V} {u:Value},Inv (cxOf CX P w K mg base N qual scope f cdv A outer s H E) [] σ' H' s'->RelV v u->Q v H'->CE outer P w H s Q u s':=
  fun {σ' H' v u} J rv q=>⟨v,H',J.os,J.bare,J.base,J.hok,rv,q⟩
 cases fl with
 | ret u=>
  obtain ⟨v,σ',H',J,rv,q⟩:=hs
  exact fin J rv q
 | next=>
  obtain ⟨σ',H',J,q⟩:=hs
  exact fin (v:=V.non) (u:=Value.none) J rfl q
 | brk=>
  obtain ⟨_,_,_,q⟩:=hs
  exact False.elim q
 | cont=>
  obtain ⟨_,_,_,q⟩:=hs
  exact False.elim q
section
variable {X:Cx} {x:Str} {p pos:Pos} {e:Expr} {es:List Expr} {t:TA} {id T:String} {r:List V->Hp->VK->Prop}
def tCB (r:List V->Hp->VK->Prop) (t:TA):TE:=fun σ H Q=>t σ H fun vs H1=>r vs H1 Q
theorem a_p (hc:c_s X (.builtin id) r) (hg:Gl X x) (hm:X.mg x=none) (hv:bootBuiltins x=some (.builtin id)) (ha:PA X (e::es) t) (hn:x≠"__name__":=by decide) (hdb:(x==("__debug__":Str))=false:=by decide)
  (he:starEach (e::es) X.env=(false,eval e X.env)::starEach es X.env:=by rfl) (hpl:(backTo pos (starEach es X.env)).any (·.1)=false:=by rfl):PE X (.Call (.Name x p) (e::es) [] pos) (tCB r t):=by
 intro pins s σ H Q I h
 refine wpAny_Call_Name_kw (ld_blt I hg hm hv ?_ hn hdb)
 exact PyProof.Rows.callWith_builtin1 (thn (ha pos pins s σ H _ I h) fun us s1 ⟨vs,H1,I1,r1,q1⟩=>hc pins s1 σ H1 vs us Q I1 r1 q1) he hpl
theorem a_C (hc:c_s X (.type T) r) (hg:Gl X x) (hm:X.mg x=none) (hv:bootBuiltins x=some (.type T)) (ha:PA X (e::es) t) (hn:x≠"__name__":=by decide) (hdb:(x==("__debug__":Str))=false:=by decide)
  (he:starEach (e::es) X.env=(false,eval e X.env)::starEach es X.env:=by rfl) (hpl:(backTo pos (starEach es X.env)).any (·.1)=false:=by rfl):PE X (.Call (.Name x p) (e::es) [] pos) (tCB r t):=by
 intro pins s σ H Q I h
 refine wpAny_Call_Name_kw (ld_blt I hg hm hv ?_ hn hdb)
 exact PyProof.Rows.callWith_type1 (thn (ha pos pins s σ H _ I h) fun us s1 ⟨vs,H1,I1,r1,q1⟩=>hc pins s1 σ H1 vs us Q I1 r1 q1) he hpl
end
end L2
namespace HT
open PySem PyProof.Rows
section
open PySem.SeqAt
open PySem.AutoSeq1 (wpAny_loadPart')
open PySem.MeetsSeq PySem.MeetsSeq2 PySem.MeetsSeq3
end
section
variable {prog:Program} {w:World} {A:Around} {E:Value->Shared->Prop} {s:Shared}
def sIx (n d:Nat):Option Int->Nat
 | none=>d
 | some v=>if v<0 then (v+(n:Int)).toNat else min v.toNat n
theorem sIx_none (n d:Nat):sIx n d none=d:=rfl
theorem sIx_nat (n d k:Nat):sIx n d (some (k:Int))=min k n:=by
 show (if (k:Int)<0 then ((k:Int)+(n:Int)).toNat else min (k:Int).toNat n)=min k n
 rw [if_neg (by omega),Int.toNat_natCast]
theorem sIx_le (n d:Nat) (hd:d≤n) (o:Option Int):sIx n d o≤n:=by
 cases o with
 | none=>exact hd
 | some v=>
  show (if v<0 then (v+(n:Int)).toNat else min v.toNat n)≤n
  by_cases hv:v<0
  ·rw [if_pos hv];omega
  ·rw [if_neg hv];exact Nat.min_le_right _ _
theorem clip_eq (v:Int) (n d:Nat):(if v<0 then max (v+(n:Int)) 0 else min v (n:Int))=((sIx n d (some v):Nat):Int):=by
 show (if v<0 then max (v+(n:Int)) 0 else min v (n:Int))=(((if v<0 then (v+(n:Int)).toNat else min v.toNat n):Nat):Int)
 by_cases hv:v<0
 ·simp only [if_pos hv];omega
 ·simp only [if_neg hv];omega
theorem adjust_gen (lo hi:Option Int) (n:Nat):Builtin.Slice.sliceAdjust lo hi 1 (n:Int)=(((sIx n 0 lo:Nat):Int),((sIx n n hi:Nat):Int)):=by
 have h1:¬ ((1:Int)<0):=by omega
 unfold Builtin.Slice.sliceAdjust
 simp only [h1,if_false]
 refine Prod.ext ?_ ?_
 ·cases lo with
  | none=>rfl
  | some v=>exact clip_eq v n 0
 ·cases hi with
  | none=>rfl
  | some v=>exact clip_eq v n n
theorem places_gen (i j:Nat):Builtin.Slice.slicePlaces (i:Int) (j:Int) 1=j - i:=by
 unfold Builtin.Slice.slicePlaces
 have h1:(1:Int) > 0:=by omega
 simp only [h1,if_true,Int.ediv_one]
 split <;> omega
theorem e_A (p:IsPart v o) (h:Q o s):wpAny (model prog w) A (Builtin.Slice.slicePartIndex v) Q E s:=by
 cases p with
 | none=>exact slicePart_none h
 | int i t=>exact slicePart_int h
theorem d_D {lo hi:Option Int} {n:Nat} (hs:s.heap.IsSliceOf sl vl vu .none) (pl:IsPart vl lo) (pu:IsPart vu hi)
  (h:Q (((sIx n 0 lo:Nat):Int),1,sIx n n hi - sIx n 0 lo) s):wpAny (model prog w) A (Builtin.Slice.sliceApplied (.ref sl) (pure (n:Int))) Q E s:=by
 obtain ⟨os,hos,hcs,hds⟩:=id hs
 unfold Builtin.Slice.sliceApplied Builtin.Slice.sliceFields
 refine wpAny_bind (wpAny_bind (wpAny_field hos hds (x:=vl) rfl (wpAny_bind (wpAny_field hos hds (x:=vu) rfl (wpAny_bind (wpAny_field hos hds (x:=.none) rfl (wpAny_pure ?_)))))))
 refine wpAny_bind (slicePart_none ?_)
 show wpAny _ _ (if ((1:Int)==0)=true then _ else _) _ _ s
 rw [if_neg (by decide)]
 refine wpAny_bind (e_A pl (wpAny_bind (e_A pu (wpAny_bind (wpAny_pure ?_)))))
 show wpAny _ _ (match Builtin.Slice.sliceAdjust lo hi 1 (n:Int) with | (lo,hi)=>pure (lo,(1:Int),Builtin.Slice.slicePlaces lo hi 1)) _ _ s
 rw [adjust_gen lo hi n]
 show wpAny _ _ (pure (((sIx n 0 lo:Nat):Int),(1:Int),Builtin.Slice.slicePlaces ((sIx n 0 lo:Nat):Int) ((sIx n n hi:Nat):Int) 1)) _ _ s
 rw [places_gen]
 exact wpAny_pure h
theorem pick_gen (xs:Array Value) (i k:Nat):((List.range k).filterMap fun (m:Nat)=>xs[((i:Int)+(m:Int) * 1).toNat]?).toArray=((xs.toList.drop i).take k).toArray:=by
 have e:(fun (m:Nat)=>xs[((i:Int)+(m:Int) * 1).toNat]?)=fun m=>xs[i+m]?:=by
  funext m
  have:((i:Int)+(m:Int) * 1).toNat=i+m:=by omega
  rw [this]
 rw [e]
 have:=pick_run xs i k
 rw [List.filterMap_map] at this
 have e2:((fun x=>xs[x]?) ∘ fun x=>i+x)=fun m=>xs[i+m]?:=rfl
 rw [e2] at this
 rw [this]
theorem getItem_tuple_cut {lo hi:Option Int} (ht:IsTup s.heap t items) (hs:s.heap.IsSliceOf sl vl vu .none) (pl:IsPart vl lo) (pu:IsPart vu hi)
  (hw:¬ (sIx items.size 0 lo=0/\sIx items.size items.size hi=items.size))
  (h:Q (.ref s.heap.objs.size) { s with heap:=s.heap.push { cls:=.type "tuple",data:=.seq ((items.toList.drop (sIx items.size 0 lo)).take (sIx items.size items.size hi - sIx items.size 0 lo)).toArray } })
  (hsz:items.size≤sizeLine):wpAny (model prog w) A (getItem (.ref t) (.ref sl)) Q E s:=by
 have htake:sizeOk (.seq ((items.toList.drop (sIx items.size 0 lo)).take (sIx items.size items.size hi - sIx items.size 0 lo)).toArray):=by
  show ((items.toList.drop (sIx items.size 0 lo)).take (sIx items.size items.size hi - sIx items.size 0 lo)).toArray.size≤sizeLine
  rw [List.size_toArray,List.length_take,List.length_drop,Array.length_toList]
  omega
 have hj:sIx items.size items.size hi≤items.size:=sIx_le _ _ (Nat.le_refl _) hi
 obtain ⟨os,hos,hcs,hds⟩:=id hs
 have hTs:s.TypeIs (.ref sl) "slice":=⟨os,hos,hcs⟩
 unfold getItem
 try with_reducible refine wpAny_holding ?_
 first | refine wpAny_bind (wpAny_pure ?_) | skip
 refine wpAny_bind (wpAny_sequenceKey ht.typeIs (by decide) ?_)
 refine wpAny_bind (wpAny_callSpecial?_slot (name:=Str.ofString "__getitem__") ht.typeIs PyProof.Rows.slot_tuple_getitem
  (wpAny_call_entry PyProof.Rows.slot_tuple_getitem ht.typeIs entry_tuple_getitem ?_ (args_tuple_getitem _ _)))
 show wpAny _ _ (Builtin.Tuple.tupleItemsOf (.ref t) >>= _) _ _ s
 refine wpAny_bind (tupleItemsOf_ ht ?_)
 refine wpAny_bind (wpAny_typeOf hTs ?_)
 rw [if_pos (by decide)]
 refine wpAny_bind (d_D hs pl pu ?_)
 have hno:¬ ((((sIx items.size 0 lo:Nat):Int)==0&&(1:Int)==1&&(sIx items.size items.size hi - sIx items.size 0 lo)==items.size)=true):=by
  intro q
  rw [Bool.and_eq_true,Bool.and_eq_true] at q
  have q1:((sIx items.size 0 lo:Nat):Int)=0:=eq_of_beq q.1.1
  have q2:sIx items.size items.size hi - sIx items.size 0 lo=items.size:=eq_of_beq q.2
  exact hw ⟨by omega,by omega⟩
 show wpAny _ _ (if (((sIx items.size 0 lo:Nat):Int)==0&&(1:Int)==1&&(sIx items.size items.size hi - sIx items.size 0 lo)==items.size)=true then _ else _) _ _ s
 rw [if_neg hno,pick_gen]
 first
  | exact wpAny_bind (m:=Builtin.Tuple.tupleExact _) (wpAny_newObj_type (wpAny_pure ⟨_,rfl,wpAny_pure h⟩) htake)
  | exact wpAny_bind (m:=Builtin.Tuple.tupleExact _) (wpAny_newObj_type (wpAny_bind (wpAny_pure (wpAny_pure ⟨_,rfl,wpAny_pure h⟩))) htake)
  | exact wpAny_bind (wpAny_bind (m:=Builtin.Tuple.tupleExact _) (wpAny_newObj_type (wpAny_pure (wpAny_pure ⟨_,rfl,wpAny_pure h⟩)) htake))
  | exact wpAny_bind (wpAny_bind (m:=Builtin.Tuple.tupleExact _) (wpAny_newObj_type (wpAny_pure ⟨_,rfl,wpAny_pure h⟩) htake))
end
end HT
namespace L2
open PySem PySem.Spec PyProof.Rows
abbrev TO:=St->Hp->(Option Int->Hp->Prop)->Prop
def PO (X:Cx) (e:Option Expr) (t:TO):Prop:=
 ∀(pins:List (Addr×Obj)) (s:Shared) (σ:St) (H:Hp) (Q:Option Int->Hp->Prop),Inv X pins σ H s->t σ H Q->
  wpAny (model X.prog X.w) X.A (evalPart e X.env) (fun u s'=>∃o H',Inv X pins σ H' s'/\IsPart u o/\Q o H') X.xe s
def tNoPart:TO:=fun _ H Q=>Q none H
def tPart (t:TE):TO:=fun σ H Q=>t σ H fun x H1=>∃i,x=.int i/\Q (some i) H1
section
variable {X:Cx} {e:Expr} {te:TE} {lo hi:Option Expr} {tl th:TO} {pos p2:Pos}
theorem d_q:PO X none tNoPart:=by
 intro pins s σ H Q I h
 rw [evalPart_none]
 exact wpAny_pure ⟨none,H,I,.none,h⟩
theorem d_p (h:PE X e te):PO X (some e) (tPart te):=by
 intro pins s σ H Q I hw
 rw [evalPart_some]
 refine thn (h pins s σ H _ I hw) fun u s1 ⟨x,H1,I1,r1,q1⟩=>?_
 obtain ⟨i,rfl,q⟩:=q1
 obtain ⟨t,rfl⟩:=r1
 exact ⟨some i,H1,I1,.int i t,q⟩
def SlR (X:Cx) (r:V->Option Int->Option Int->Hp->VK->Prop):Prop:=
 ∀(pins:List (Addr×Obj)) (s:Shared) (σ:St) (H:Hp) (x:V) (v vl vu:Value) (lo hi:Option Int) (sl:Addr) (Q:VK),Inv X pins σ H s->RelV x v->s.heap.IsSliceOf sl vl vu .none->IsPart vl lo->IsPart vu hi->r x lo hi H Q->
  ∃T id,typeLookup (.type T) "__getitem__"=pure (some (.builtin id))/\s.TypeIs v T/\wpAny (model X.prog X.w) X.A (getItem v (.ref sl)) (EP X pins σ Q) X.xe s
def tSl (r:V->Option Int->Option Int->Hp->VK->Prop) (te:TE) (tl th:TO):TE:=fun σ H Q=>te σ H fun x H1=>tl σ H1 fun l H2=>th σ H2 fun u H3=>r x l u H3 Q
theorem c_F (hr:SlR X r) (he:PE X e te) (hl:PO X lo tl) (hu:PO X hi th):PE X (.Subscript e (.Slice lo hi none p2) pos) (tSl r te tl th):=by
 intro pins s σ H Q I h
 refine Subscript_ (thn (he pins s σ H _ I h) fun v s1 ⟨x,H1,I1,r1,q1⟩=>?_)
 refine wpAny_Slice (thn (hl pins s1 σ H1 _ I1 q1) fun vl s2 ⟨l,H2,I2,pl,q2⟩=>thn (hu pins s2 σ H2 _ I2 q2) fun vu s3 ⟨u,H3,I3,pu,q3⟩=>?_)
 rw [evalPart_none]
 refine wpAny_pure ?_
 have I4:Inv X pins σ H3 { s3 with heap:=s3.heap.push { cls:=.type "slice",data:=.fields #[vl,vu,.none] } }:=I3.kept (t':=s3.toks) fun b ob q=>Heap.get?_push_of_some _ q
 obtain ⟨T,id,hT,ht,hg⟩:=hr pins { s3 with heap:=s3.heap.push { cls:=.type "slice",data:=.fields #[vl,vu,.none] } } σ H3 x v vl vu l u s3.heap.objs.size Q I4 r1 (Heap.IsSliceOf.new ..) pl pu q3
 show wpAny (model X.prog X.w) X.A (subscriptTail e (.Slice lo hi none p2) v (.ref s3.heap.objs.size)) (EP X pins σ Q) X.xe { s3 with heap:=s3.heap.push { cls:=.type "slice",data:=.fields #[vl,vu,.none] } }
 exact tail_any (ops:=[.ref s3.heap.objs.size,v]) ht hT hg (by with_unfolding_all rfl)
def cutV (xs:List V) (lo hi:Option Int):List V:=(xs.drop (HT.sIx xs.length 0 lo)).take (HT.sIx xs.length xs.length hi - HT.sIx xs.length 0 lo)
theorem e_k (xs:List V) (lo hi:Option Int):(cutV xs lo hi).length≤xs.length:=by
 unfold cutV
 rw [List.length_take,List.length_drop]
 omega
def rSlT (K:PySem.W.Frag):V->Option Int->Option Int->Hp->VK->Prop:=fun x lo hi H Q=>∃a xs,x=.ref a/\SqT K H a xs/\
 ¬ (HT.sIx xs.length 0 lo=0/\HT.sIx xs.length xs.length hi=xs.length)/\∀p,H p=none->Q (.ref p) (upd H p (.tup (cutV xs lo hi)))
theorem sl_tup:SlR X (rSlT X.K):=by
 intro pins s σ H x v vl vu lo hi sl Q I rx hs pl pu h
 obtain ⟨a,xs,rfl,hx,hw,q⟩:=h
 cases rx
 obtain ⟨its,r,ht,hz⟩:=I.tuple hx
 have hlen:its.toArray.size=xs.length:=by rw [List.size_toArray];exact r.length.symm
 refine ⟨"tuple",_,PyProof.Rows.slot_tuple_getitem.lookup,ht.typeIs,?_⟩
 refine HT.getItem_tuple_cut ht hs pl pu (by rw [hlen];exact hw) ?_ (by rw [hlen];exact hz)
 rw [hlen]
 refine ⟨.ref s.heap.objs.size,_,I.laid (t':=s.toks) (o:=.tup (cutV xs lo hi)) (fun b ob q=>Heap.get?_push_of_some _ q) (Nat.le_refl _) ?_,rfl,q _ (I.hok.fresh (Nat.le_refl _))⟩
 exact ⟨Nat.le_trans (e_k xs lo hi) hz,_,(r.drop (HT.sIx xs.length 0 lo)).take (HT.sIx xs.length xs.length hi - HT.sIx xs.length 0 lo),IsTup.new _ _⟩
end
def ixN (n:Nat) (i:Int):Option Nat:=if 0≤i then (if i<n then some i.toNat else none) else if -(n:Int)≤i then some (i+n).toNat else none
def atI {α:Type} (xs:List α) (i:Int):Option α:=(ixN xs.length i).bind fun j=>xs[j]?
theorem ixN_seq (h:ixN n i=some j):seqIndex? i n=some j/\j<n/\-(n:Int)≤i/\i<n:=by
 unfold ixN at h
 by_cases h0:0≤i
 ·rw [if_pos h0] at h
  by_cases h1:i<n
  ·rw [if_pos h1] at h
   have e:i.toNat=j:=Option.some.inj h
   exact ⟨by rw [seqIndex_of h0 h1,e],by omega,by omega,h1⟩
  ·rw [if_neg h1] at h;cases h
 ·rw [if_neg h0] at h
  by_cases h1:-(n:Int)≤i
  ·rw [if_pos h1] at h
   have e:(i+n).toNat=j:=Option.some.inj h
   exact ⟨by rw [seqIndex_neg (by omega) h1,e],by omega,h1,by omega⟩
  ·rw [if_neg h1] at h;cases h
theorem atI_get {xs:List α} {v:α} (h:atI xs i=some v):∃j,seqIndex? i xs.length=some j/\xs[j]?=some v/\j<xs.length/\-(xs.length:Int)≤i/\i<xs.length:=by
 unfold atI at h
 cases e:ixN xs.length i with
 | none=>rw [e] at h;cases h
 | some j=>
  rw [e] at h
  obtain ⟨h1,h2,h3,h4⟩:=ixN_seq e
  exact ⟨j,h1,h,h2,h3,h4⟩
theorem a_u {xs:List α} {j:Nat} {v:α} (h:xs[j]?=some v):atI xs (j:Int)=some v:=by
 have hj:j<xs.length:=(List.getElem?_eq_some_iff.mp h).1
 have e:ixN xs.length (j:Int)=some j:=by
  unfold ixN
  rw [if_pos (by omega),if_pos (by omega)];simp
 unfold atI;rw [e];exact h
def PlainIx (b:Expr):Prop:=∀o i,subscripted b false o i=operate [o,i] (getItem o i)
def IxR (X:Cx) (r:R2):Prop:=
 ∀(value slice:Expr) (pins:List (Addr×Obj)) (s:Shared) (σ:St) (H:Hp) (x y:V) (v u:Value) (Q:VK),Inv X pins σ H s->RelV x v->RelV y u->r x y H Q->
  subscripted slice false v u=operate [v,u] (getItem v u)->wpAny (model X.prog X.w) X.A (subscriptTail value slice v u) (EP X pins σ Q) X.xe s
def MtR (X:Cx) (id:String) (r:V->List V->Hp->VK->Prop):Prop:=
 ∀(pins:List (Addr×Obj)) (s:Shared) (σ:St) (H:Hp) (x:V) (xs:List V) (v:Value) (us:List Value) (Q:VK),Inv X pins σ H s->RelV x v->Vals xs us->r x xs H Q->
  wpAny (model X.prog X.w) X.A (call (.builtin id) (v::us)) (EP X pins σ Q) X.xe s
section
variable {X:Cx} {a b:Expr} {ta tb:TE} {pos:Pos}
theorem a_B (hr:IxR X r) (ha:PE X a ta) (hb:PE X b tb) (hs:PlainIx b):PE X (.Subscript a b pos) (tOp r ta tb):=by
 intro pins s σ H Q I h
 exact Subscript_ (binT ha hb I h fun v u s2 x y H2 I2 rx ry q=>hr a b pins s2 σ H2 x y v u Q I2 rx ry q (hs _ _))
def rIxL (K:PySem.W.Frag):R2:=fun x y H Q=>∃p xs i v,x=.ref p/\y=.int i/\SqL K H p xs/\atI xs i=some v/\Q v H
def rIxT (K:PySem.W.Frag):R2:=fun x y H Q=>∃p xs i v,x=.ref p/\y=.int i/\SqT K H p xs/\atI xs i=some v/\Q v H
def rIxS:R2:=fun x y H Q=>∃z i c,x=.str z/\y=.int i/\z.length≤sizeLine/\atI z.cps.toList i=some c/\Q (.str ⟨#[c]⟩) H
theorem b_I:IxR X (rIxL X.K):=by
 intro value slice pins s σ H x y v u Q I rx ry h hs
 obtain ⟨p,xs,i,z,rfl,rfl,hq,he,q⟩:=h
 cases rx
 obtain ⟨t,rfl⟩:=ry
 obtain ⟨its,r,pl,hz⟩:=I.list hq
 obtain ⟨j,h1,h2,h3,h4,h5⟩:=atI_get he
 obtain ⟨w,ew,rw'⟩:=r.get h2
 have hl:=r.length
 have hn:=line63
 have fin:EP X pins σ Q w s:=⟨z,H,I,rw',q⟩
 by_cases h0:0≤i
 ·have hj:i.toNat=j:=by
   rw [seqIndex_of h0 h5] at h1
   exact Option.some.inj h1
  exact item_listR pl.isList h0 (by omega) (by rw [hj];simpa using ew) fin hs
 ·have hj:(i+(its.toArray.size:Int)).toNat=j:=by
   rw [seqIndex_neg (by omega) h4] at h1
   rw [List.size_toArray,<- hl]
   exact Option.some.inj h1
  exact subscriptTail_builtinR (x:=w) pl.isList.typeIs slot_list_getitem.lookup
   (wpAny_getItem_list_neg (Q:=fun r s'=>r=w/\EP X pins σ Q r s') pl.isList (by omega) (by rw [List.size_toArray] <;> omega) (by omega) (by rw [hj];simpa using ew) ⟨rfl,fin⟩) hs
theorem b_d:IxR X (rIxT X.K):=by
 intro value slice pins s σ H x y v u Q I rx ry h hs
 obtain ⟨p,xs,i,z,rfl,rfl,hq,he,q⟩:=h
 cases rx
 obtain ⟨t,rfl⟩:=ry
 obtain ⟨its,r,pl,hz⟩:=I.tuple hq
 obtain ⟨j,h1,h2,h3,h4,h5⟩:=atI_get he
 obtain ⟨w,ew,rw'⟩:=r.get h2
 have hl:=r.length
 have hn:=line63
 have fin:EP X pins σ Q w s:=⟨z,H,I,rw',q⟩
 exact subscriptTail_builtinR (x:=w) pl.typeIs slot_tuple_getitem.lookup
  (getItem_tuple (j:=j) (Q:=fun r s'=>r=w/\EP X pins σ Q r s') pl (by omega) (by omega) (by rw [List.size_toArray,<- hl];exact h1) (by simpa using ew) ⟨rfl,fin⟩) hs
theorem ix_str:IxR X rIxS:=by
 intro value slice pins s σ H x y v u Q I rx ry h hs
 obtain ⟨z,i,c,rfl,rfl,hz,he,q⟩:=h
 obtain ⟨t,rfl⟩:=rx
 obtain ⟨t',rfl⟩:=ry
 obtain ⟨j,h1,h2,h3,h4,h5⟩:=atI_get he
 have hl:z.cps.toList.length=z.length:=by simp [Str.length]
 rw [hl] at h1 h4 h5
 have hn:=line63
 exact tail_any (typeIs_str s z t) slot_str_getitem.lookup (getItem_str (c:=c) (by
  have e1:decide (i < -(2 ^ 63:Int))=false:=decide_eq_false (by omega)
  have e2:decide (i ≥ 2 ^ 63)=false:=decide_eq_false (by omega)
  rw [e1,e2,Bool.or_false]) (by rw [h1];simpa using h2) ⟨.str ⟨#[c]⟩,H,I.tok _,⟨_,rfl⟩,q⟩) hs
theorem Inv.lst {σ:St} (I:Inv X pins σ H s) (h:H p=some (.lst xs)):
  ∃(its:List Value) (n:Nat),Vals xs its/\s.heap.get? p=some { cls:=.type "list",data:=.seq its.toArray n }/\xs.length≤sizeLine:=by
 obtain ⟨z,its,n,r,e⟩:=I.hok p _ h
 exact ⟨its,n,r,e,z⟩
theorem slice_bounds (lo hi:Option Int) (n:Nat):(sliceBounds lo hi none n).1=((HT.sIx n 0 lo:Nat):Int)/\(sliceBounds lo hi none n).2.1=((HT.sIx n n hi:Nat):Int)/\(sliceBounds lo hi none n).2.2=1:=by
 refine ⟨?_,?_,rfl⟩
 ·cases lo with
  | none=>simp [sliceBounds,HT.sIx]
  | some i=>
   simp only [sliceBounds,HT.sIx,Option.getD_none,show (1:Int) > 0 by decide,if_true]
   by_cases h:i<0
   ·simp only [h,if_true] <;> omega
   ·simp only [h,if_false] <;> omega
 ·cases hi with
  | none=>simp [sliceBounds,HT.sIx]
  | some i=>
   simp only [sliceBounds,HT.sIx,Option.getD_none,show (1:Int) > 0 by decide,if_true]
   by_cases h:i<0
   ·simp only [h,if_true] <;> omega
   ·simp only [h,if_false] <;> omega
theorem e_Q (its:List Value) (lo hi:Option Int):slicePick its.toArray lo hi none=((its.drop (HT.sIx its.length 0 lo)).take (HT.sIx its.length its.length hi - HT.sIx its.length 0 lo)).toArray:=by
 obtain ⟨h1,h2,h3⟩:=slice_bounds lo hi its.toArray.size
 unfold slicePick
 rw [h1,h2,h3]
 simp only [sliceRange_one,pick_run,List.size_toArray] <;> rfl
def rSlL (K:PySem.W.Frag):V->Option Int->Option Int->Hp->VK->Prop:=fun x lo hi H Q=>∃a xs,x=.ref a/\SqL K H a xs/\∀p,H p=none->Q (.ref p) (upd H p (.lst (cutV xs lo hi)))
theorem sl_list:SlR X (rSlL X.K):=by
 intro pins s σ H x v vl vu lo hi sl Q I rx hs pl pu h
 obtain ⟨a,xs,rfl,hx,q⟩:=h
 cases rx
 obtain ⟨its,r,ht,hz⟩:=I.list hx
 have hlen:=r.length
 refine ⟨"list",_,slot_list_getitem.lookup,ht.isList.typeIs,?_⟩
 refine wpAny_getItem_list_slice ht.isList hs pl pu .none (by simp) ?_ (by rw [List.size_toArray] <;> omega)
 rw [e_Q,<- hlen]
 refine ⟨.ref s.heap.objs.size,_,I.laid (t':=s.toks) (o:=.lst (cutV xs lo hi)) (fun b ob q=>Heap.get?_push_of_some _ q) (Nat.le_refl _) ?_,rfl,q _ (I.hok.fresh (Nat.le_refl _))⟩
 exact ⟨Nat.le_trans (e_k xs lo hi) hz,_,0,(r.drop (HT.sIx xs.length 0 lo)).take (HT.sIx xs.length xs.length hi - HT.sIx xs.length 0 lo),Heap.get?_push_size _ rfl⟩
def flatV:V->Bool
 | .non=>true
 | .bl _=>true
 | .int _=>true
 | .str _=>true
 | _=>false
def eqV:V->V->Bool
 | .non,.non=>true
 | .bl a,.bl b=>a==b
 | .bl a,.int b=>(if a then 1 else 0)==b
 | .int a,.bl b=>a==(if b then 1 else 0)
 | .int a,.int b=>a==b
 | .str a,.str b=>a==b
 | _,_=>false
theorem eqAt_V (ry:RelV y u) (rx:RelV x v) (fy:flatV y=true) (fx:flatV x=true):SeqAt.EqAt A s u v (eqV y x):=by
 cases y with
 | non=>
  cases ry
  cases x with
  | non=>cases rx;exact SeqAt.EqAt.same _
  | bl b=>cases rx;exact SeqAt.EqAt.none_bool b
  | int b=>obtain ⟨t,rfl⟩:=rx;exact SeqAt.EqAt.none_int b t
  | str b=>obtain ⟨t,rfl⟩:=rx;exact SeqAt.EqAt.none_str b t
  | _=>exact absurd (show false=true from fx) Bool.false_ne_true
 | bl a=>
  cases ry
  cases x with
  | non=>cases rx;exact SeqAt.EqAt.bool_none a
  | bl b=>cases rx;exact SeqAt.EqAt.bool_bool a b
  | int b=>obtain ⟨t,rfl⟩:=rx;exact SeqAt.EqAt.bool_int a b t
  | str b=>obtain ⟨t,rfl⟩:=rx;exact SeqAt.EqAt.bool_str a b t
  | _=>exact absurd (show false=true from fx) Bool.false_ne_true
 | int a=>
  obtain ⟨t',rfl⟩:=ry
  cases x with
  | non=>cases rx;exact SeqAt.EqAt.int_none a t'
  | bl b=>cases rx;exact SeqAt.EqAt.int_bool a t' b
  | int b=>obtain ⟨t,rfl⟩:=rx;exact SeqAt.EqAt.int_int a t' b t
  | str b=>obtain ⟨t,rfl⟩:=rx;exact SeqAt.EqAt.int_str a t' b t
  | _=>exact absurd (show false=true from fx) Bool.false_ne_true
 | str a=>
  obtain ⟨t',rfl⟩:=ry
  cases x with
  | non=>cases rx;exact SeqAt.EqAt.str_none a t'
  | bl b=>cases rx;exact SeqAt.EqAt.str_bool a t' b
  | int b=>obtain ⟨t,rfl⟩:=rx;exact SeqAt.EqAt.str_int a t' b t
  | str b=>obtain ⟨t,rfl⟩:=rx;exact SeqAt.EqAt.str_str a t' b t
  | _=>exact absurd (show false=true from fx) Bool.false_ne_true
 | _=>exact absurd (show false=true from fy) Bool.false_ne_true
theorem a_n:c_s X (.builtin "len") (fun xs H Q=>∃p ys,xs=[.ref p]/\(SqL X.K H p ys\/SqT X.K H p ys)/\Q (.int ys.length) H):=by
 intro pins s σ H xs us Q I r h
 obtain ⟨p,ys,rfl,hq,q⟩:=h
 obtain ⟨u,rfl,rx⟩:=c_K r
 cases rx
 have hn:=line63
 rcases hq with hq | hq
 ·obtain ⟨its,r',pl,hz⟩:=I.list hq
  have hlen:=r'.length
  exact Calls.call_len_list pl.isList (by simp only [List.size_toArray] <;> omega) ⟨.int ys.length,H,I.tok _,⟨s.toks+1,by rw [List.size_toArray,hlen]⟩,q⟩
 ·obtain ⟨its,r',pl,hz⟩:=I.tuple hq
  have hlen:=r'.length
  exact len_tuple pl (by simp only [List.size_toArray] <;> omega) ⟨.int ys.length,H,I.tok _,⟨s.toks+1,by rw [List.size_toArray,hlen]⟩,q⟩
theorem b_t:c_s X (.builtin "len") (fun xs H Q=>∃z,xs=[.str z]/\z.length≤sizeLine/\Q (.int z.length) H):=by
 intro pins s σ H xs us Q I r h
 obtain ⟨z,rfl,hz,q⟩:=h
 obtain ⟨u,rfl,t,rfl⟩:=c_K r
 have hn:=line63
 exact len_str (by omega) ⟨.int z.length,H,I.tok _,⟨_,rfl⟩,q⟩
theorem call_list_of:c_s X (.type "list") (fun xs H Q=>∃p ys,xs=[.ref p]/\(SqL X.K H p ys\/SqT X.K H p ys)/\∀l,H l=none->Q (.ref l) (upd H l (.lst ys))):=by
 intro pins s σ H xs us Q I r h
 obtain ⟨p,ys,rfl,hq,q⟩:=h
 obtain ⟨u,rfl,rx⟩:=c_K r
 cases rx
 have fin:∀(its:List Value),Vals ys its->ys.length≤sizeLine->∀(h':Heap) (c':Nat),(∀b o',s.heap.get? b=some o'->h'.get? b=some o')->
   h'.get? s.heap.objs.size=some { cls:=.type "list",dict:=none,data:=.seq its.toArray c',slots:=#[] }->EP X pins σ Q (.ref s.heap.objs.size) { s with heap:=h' }:=fun its r' hz h' c' kp e=>
  ⟨.ref s.heap.objs.size,_,I.laid (t':=s.toks) kp (Nat.le_refl _) (show a_V X.prog X.w _ h' _ (.lst ys) from ⟨hz,its,c',r',e⟩),rfl,q _ (I.hok.fresh (Nat.le_refl _))⟩
 rcases hq with hq | hq
 ·obtain ⟨its,r',pl,hz⟩:=I.list hq
  have hlen:=r'.length
  obtain ⟨o,ho,hc,n,hd⟩:=pl.isList
  exact call_list_seq p (.inl rfl) ho hc hd (fun h' c' kp e=>fin its r' hz h' c' kp e) (by simp only [List.size_toArray] <;> omega)
 ·obtain ⟨its,r',pl,hz⟩:=I.tuple hq
  have hlen:=r'.length
  obtain ⟨o,ho,hc,n,hd⟩:=pl
  exact call_list_seq p (.inr rfl) ho hc hd (fun h' c' kp e=>fin its r' hz h' c' kp e) (by simp only [List.size_toArray] <;> omega)
theorem a_t:c_s X (.type "tuple") (fun xs H Q=>∃p ys,xs=[.ref p]/\((SqL X.K H p ys/\∀l,H l=none->Q (.ref l) (upd H l (.tup ys)))\/(SqT X.K H p ys/\Q (.ref p) H))):=by
 intro pins s σ H xs us Q I r h
 obtain ⟨p,ys,rfl,h⟩:=h
 obtain ⟨u,rfl,rx⟩:=c_K r
 cases rx
 rcases h with ⟨hq,q⟩ | ⟨hq,q⟩
 ·obtain ⟨its,r',pl,hz⟩:=I.list hq
  have hlen:=r'.length
  refine call_tuple_list pl.isList (fun h' kp=>?_) (by simp only [List.size_toArray] <;> omega)
  have I1:Inv X pins σ H { s with heap:=h' }:=I.kept (t':=s.toks) kp
  have I2:Inv X pins σ (upd H h'.objs.size (.tup ys)) { s with heap:=h'.push { cls:=.type "tuple",data:=.seq its.toArray } }:=
   I1.laid (t':=s.toks) (fun b o e=>Heap.get?_push_of_some _ e) (Nat.le_refl _) (show a_V X.prog X.w _ _ _ (.tup ys) from ⟨hz,its,r',IsTup.new _ _⟩)
  exact ⟨.ref h'.objs.size,_,I2,rfl,q _ (I1.hok.fresh (Nat.le_refl _))⟩
 ·obtain ⟨its,r',pl,hz⟩:=I.tuple hq
  exact call_tuple_same pl ⟨.ref p,H,I,rfl,q⟩
def tyV (K:PySem.W.Frag) (T:String) (x:V) (H:Hp):Prop:=match x with
 | .str _=>T="str"
 | .int _=>T="int"
 | .ref p=>(T="list"/\∃xs,SqL K H p xs)\/(T="tuple"/\∃o,K.lookup p=some o/\o.cls=.type "tuple"/\o.dict=none) \/
   (T="dict"/\((∃kvs,H p=some (.dK kvs))\/∃kvs,H p=some (.dT kvs)))\/(T="set"/\∃S n,H p=some (.set S n))
 | _=>False
theorem tyV_is {σ:St} (I:Inv X pins σ H s) (r:RelV x v) (ty:tyV X.K T x H):
  s.TypeIs v T/\∀a,v=.ref a->∃ob,s.heap.get? a=some ob/\ob.dict=none:=by
 cases x with
 | str z=>
  obtain ⟨t,rfl⟩:=r
  cases (show T="str" from ty)
  exact ⟨typeIs_str s z t,fun _ e=>nomatch e⟩
 | int i=>
  obtain ⟨t,rfl⟩:=r
  cases (show T="int" from ty)
  exact ⟨typeIs_int s i t,fun _ e=>nomatch e⟩
 | ref p=>
  cases r
  rcases ty with ⟨rfl,xs,hq⟩ | ⟨rfl,o,hk,hc,hd⟩ | ⟨rfl,hk⟩ | ⟨rfl,S,n,hk⟩
  ·obtain ⟨its,_,pl,_⟩:=I.list hq
   refine ⟨pl.isList.typeIs,fun a e=>?_⟩
   cases e
   obtain ⟨o,n,e,c,hd,_⟩:=pl
   exact ⟨o,e,hd⟩
  ·refine ⟨⟨o,I.kIn p o hk,hc⟩,fun a e=>?_⟩
   cases e
   exact ⟨o,I.kIn _ o hk,hd⟩
  ·have z:∃o,s.heap.get? p=some o/\o.ExactDict:=by
    rcases hk with ⟨kvs,hk⟩ | ⟨kvs,hk⟩
    ·obtain ⟨_,_,_,_,o,_,_,e,ex,_⟩:=I.hok p _ hk
     exact ⟨o,e,ex⟩
    ·obtain ⟨_,_,_,_,o,_,_,e,ex,_⟩:=I.hok p _ hk
     exact ⟨o,e,ex⟩
   obtain ⟨o,e,ex⟩:=z
   refine ⟨⟨o,e,ex.1⟩,fun a e2=>?_⟩
   cases e2
   exact ⟨o,e,ex.2.1⟩
  ·obtain ⟨o,_,_,_,e,ex,_⟩:=I.hok p _ hk
   refine ⟨⟨o,e,ex.1⟩,fun a e2=>?_⟩
   cases e2
   exact ⟨o,e,ex.2.1⟩
 | _=>exact False.elim ty
def tBM (K:PySem.W.Frag) (T:String) (r:V->List V->Hp->VK->Prop) (to:TE) (t:TA):TE:=fun σ H Q=>to σ H fun x H1=>tyV K T x H1/\t σ H1 fun xs H2=>r x xs H2 Q
variable {o e:Expr} {es:List Expr} {to:TE} {t:TA} {name:Str} {apos cpos:Pos} {T id:String} {r:V->List V->Hp->VK->Prop}
theorem c_x (pa:PlainAttrs T) (slot:Slot T name id) (hty:typeOf (.builtin id)=pure (.type "method_descriptor")) (hm:MtR X id r) (ho:PE X o to) (ha:PA X (e::es) t)
  (hbase:attributeBase o name X.env (eval o X.env)=eval o X.env:=by rfl)
  (hfew:((backTo cpos (starEach (e::es) X.env)).all (fun x=>!x.1)&&(backToKw cpos (keywordEach [] X.env)).all (fun x=>x.1.isSome)
   && decide ((e::es).length+([]:List Keyword).length+(if ([]:List Keyword).isEmpty then 0 else 1)<30))=true:=by rfl)
  (hline:(apos.endLine==cpos.line)=true:=by rfl) (hs:starEach (e::es) X.env=(false,eval e X.env)::starEach es X.env:=by rfl) (hplain:(backTo cpos (starEach es X.env)).any (·.1)=false:=by rfl):
  PE X (.Call (.Attribute o name apos) (e::es) [] cpos) (tBM X.K T r to t):=by
 intro pins s σ H Q I h
 refine wpAny_Call_method_late hbase hfew hline rfl (thn (ho pins s σ H _ I h) fun v s1 ⟨x,H1,I1,r1,ty,q1⟩=>?_)
 obtain ⟨h1,h2⟩:=tyV_is I1 r1 ty
 refine ⟨T,id,pa,slot,hty,h1,h2,?_⟩
 have hA:=ha cpos pins s1 σ H1 _ I1 q1
 rw [hs] at hA ⊢
 refine Calls.callWith_builtin (by show (false || (backTo cpos (starEach es X.env)).any (·.1))=false;rw [hplain] <;> rfl) (Calls.evalArgs_plain ?_)
 exact thn hA fun us s2 ⟨vs,H2,I2,r2,q2⟩=>hm pins s2 σ H2 x vs v us Q I2 r1 r2 q2
end
def MtM (X:Cx) (id:String) (r:V->List V->Hp->VK->Prop):Prop:=
 ∀(pins:List (Addr×Obj)) (s:Shared) (σ:St) (H:Hp) (x:V) (xs:List V) (v:Value) (us:List Value) (Q:VK),Inv X pins σ H s->RelV x v->Vals xs us->r x xs H Q->
  wpAny (model X.prog X.w) X.A (call (.builtin id) (v::us)) (EP X pins σ Q) X.xe s
theorem Vals.one:∀{x:V} {us:List Value},Vals [x] us->∃u,us=[u]/\RelV x u
 | _,_,.cons r .nil=>⟨_,rfl,r⟩
theorem Vals.two:∀{x y:V} {us:List Value},Vals [x,y] us->∃u v,us=[u,v]/\RelV x u/\RelV y v
 | _,_,_,.cons r (.cons q .nil)=>⟨_,_,rfl,r,q⟩
section
variable {X:Cx} {pins:List (Addr×Obj)} {σ:St} {H:Hp} {s:Shared} {l b:Addr} {xs ys zs:List V}
theorem Inv.lset {its its':List Value} (I:Inv X pins σ H s) (hH:H l=some (.lst xs))
  (e:s.heap.get? l=some { cls:=.type "list",data:=.seq its.toArray n }) (hf:f its.toArray=its'.toArray) (hv:Vals ys its') (hz:ys.length≤sizeLine):
  Inv X pins σ (upd H l (.lst ys)) { s with heap:=s.heap.update l (Obj.mapSeq f),toks:=t' }:=by
 have q:=PySem.IsL.update e f
 rw [hf] at q
 refine I.write (x:=l) (e:=l) (by rw [hH];exact trivial) (.inl rfl) (fun b' u hb hu=>(Heap.get?_update_other s.heap (Obj.mapSeq f) (Ne.symm hb)).trans hu) ⟨_,q⟩ ?_
 exact ⟨hz,its',_,hv,q⟩
theorem Inv.lstM (I:Inv X pins σ H s) (hH:H l=some (.lst xs)):xs.length≤sizeLine/\∃(its:List Value) (n:Nat),Vals xs its/\xs.length=its.length/\s.heap.get? l=some { cls:=.type "list",data:=.seq its.toArray n }:=by
 obtain ⟨z,its,n,r,e⟩:=I.hok l _ hH
 exact ⟨z,its,n,r,r.length,e⟩
theorem notLongL (h:n≤sizeLine):Builtin.List.listTooLong n=false:=by
 unfold Builtin.List.listTooLong
 exact decide_eq_false (by omega)
end
section
variable {X:Cx}
def rAppend:V->List V->Hp->VK->Prop:=fun x vs H Q=>∃l xs y,x=.ref l/\vs=[y]/\H l=some (.lst xs)/\xs.length<sizeLine/\Q .non (upd H l (.lst (xs++[y])))
theorem a_x:MtM X "list.append" rAppend:=by
 intro pins s σ H x vs v us Q I rx rv h
 obtain ⟨l,xs,y,rfl,rfl,hH,hz,q⟩:=h
 cases rx
 obtain ⟨u,rfl,ru⟩:=rv.one
 obtain ⟨z,its,n,r,hl,e⟩:=I.lstM hH
 refine call_meets F.slot_list_append ⟨_,e,rfl⟩ F.entry_list_append (F.args_list_append_2 _ _) (PySem.list_append l its.toArray n u (by rw [List.size_toArray];omega)) ⟨e,?_⟩
 refine ⟨.non,_,I.lset (its':=its++[u]) hH e (by simp) (r.append (.cons ru .nil)) ?_,rfl,q⟩
 rw [List.length_append,List.length_singleton]
 omega
end
section
variable {prog:Program} {w:World} {A:Around} {E:Value->Shared->Prop} {s:Shared}
end
section
variable {X:Cx}
end
end L2
namespace Att
open PySem PySem.W PySem.Calls PyProof.Rows
theorem e_e:∀(ns:List Int) (vs:List Value),WellAll P h vs (ns.map WData.int)->IntsAre vs ns:=by
 intro ns
 induction ns with
 | nil=>
  intro vs w
  rw [List.map_nil] at w
  cases w
  exact .nil
 | cons n ns ih=>
  intro vs w
  rw [List.map_cons] at w
  cases w with
  | cons a b=>
   cases a
   exact .cons _ _ (ih _ b)
theorem script_of {l:OpenLaw} (hn:l.most=some n)
  (hpre:l.row.toRowW.claim.pre args=true) (hwl:WellAll P h vals args):
  ∃a vs ns,vals=[Value.ref a]/\args=[WData.list (ns.map WData.int)]/\h.get? a=some { cls:=.type "list",data:=.seq vs.toArray }/\IntsAre vs ns/\ns.length≤n:=by
 have hsh:WShape.hasAll [] args [.list .int]=true:=(pre_splitW hpre).1
 have hc:l.pre.holds [] { args:=args }=true:=(pre_splitW hpre).2
 obtain ⟨d,r,rfl,h1,h2⟩:=hasAllW_cons hsh
 obtain rfl:=hasAllW_nil h2
 obtain ⟨xs,rfl,h3⟩:=hasW_list h1
 obtain ⟨ns,rfl⟩:=items_int h3
 have hlen:ns.length≤n:=by
  unfold OpenLaw.pre at hc
  have h4:(WTm.not (.lt (.lit (.int (n:Int))) (.len (.arg 0)))).holds [] { args:=[.list (ns.map .int)] }=true:=by
   have h4:=(holds_andW hc).1
   rw [hn] at h4
   exact h4
  have h5:=condW_of h4 (w_not (w_lt w_lit (w_len_list (w_arg rfl))))
  rw [List.length_map] at h5
  refine Nat.le_of_not_lt fun q=>?_
  have q':(n:Int)<((ns.length:Nat):Int):=by omega
  first
   | (rw [decide_eq_true q'] at h5;exact absurd h5 (by decide))
   | (simp at h5;omega)
 cases hwl with
 | cons w1 w2=>
  cases w2
  cases w1 with
  | list ho hall=>exact ⟨_,_,ns,rfl,rfl,ho,e_e ns _ hall,hlen⟩
theorem post_true (l:OpenLaw) (args:List WData):l.row.toRowW.claim.post args (.bool true) args=true:=
 postW_of (r:=l.row.toRowW) (X:=(true==true))
  (show WShape.has [] (.bool true) .bool=true by first | rfl | decide | simp [WShape.has,WShape.arms,WShape.armsAll])
  (show (WTm.eq .res (.lit (.bool true))).value [] { args:=args,res:=some (.bool true),after:=args }=some (.bool (true==true)) from w_eq_bool (w_res rfl) w_lit) rfl
theorem attach_call {l:OpenLaw}
  (hn:l.most=some n) (hdf:d.params.defaults=[])
  (call:∀(w:World) (s₀ s₁:Shared) (mg mb:Str->Option Value) (fa:Addr) (o:Obj) (pm cd doc:Value) (a:Addr) (vs:List Value) (ns:List Int),
   Ground q loose [] XP w s₀ mg mb s₁.heap->YP w s₁.heap->
   s₁.heap.get? fa=some o->o.data=.func (docDef d.name d.params d.body d.scope pm cd doc)->s₁.heap.CodeRec cd d.name->mg d.name=some (.ref fa)->
   s₁.heap.get? a=some { cls:=.type "list",data:=.seq vs.toArray }->IntsAre vs ns->ns.length≤n->s₁.gens=#[]->
   codeAny (model l.prog w) callerA (.call (.ref fa) ⟨[.ref a],[]⟩) (fun r s'=>r=.ok (.ret (.bool true))/\OldK s₁.heap s'.heap/\s'.os=s₁.os/\AllBare s'.gens) s₁):
  WalkO q loose XP YP l.row.toRowW d [] (fun f vs=>PySem.call f vs):=by
 intro w s₀ s₁ mg mb G Y fa o pm cd doc dV kV ho hd hcd hD hmg hg args vals as hpre hlay hrd hwl hlo
 obtain rfl:dV=.none:=Dflts.none hD hdf
 obtain rfl:kV=.none:=Dflts.noKw hD
 obtain ⟨a,vs,ns,rfl,rfl,hobj,hints,hlen⟩:=script_of hn hpre hwl
 refine enter_call (codeAny_mono (call w s₀ s₁ mg mb fa o pm cd doc a vs ns G Y ho (fd_plain hd) hcd hmg hobj hints hlen hg) fun r s' hq=>?_)
 obtain ⟨rfl,h2,h3,h4⟩:=hq
 exact ⟨.inl ⟨.bool true,.bool true,[],rfl,fun _=>rfl,.bool true,post_true l _,fun _=>⟨List.Pairwise.nil,fun _ hm=>(nomatch hm)⟩⟩,h2,h3,h4⟩
section
variable {prog:Program} {w:World} {A:Around} {E:Value->Shared->Prop} {s:Shared} {K:Frag}
end
end Att
namespace L2
open PySem PySem.Spec PyProof.Rows
theorem b_Y:∀{vs:List Value} {ns:List Int},IntsAre vs ns->Vals (ns.map V.int) vs
 | _,_,.nil=>.nil
 | _,_,.cons n t h=>.cons ⟨t,rfl⟩ (b_Y h)
def Only (H:Hp):Prop:=∀b,H b=none\/∃o xs,H b=some (.frz o (.lst xs))
theorem law_call {P:Program} {w:World} {K:PySem.W.Frag} {mg mb:Str->Option Value}
  (KX:K.In s₁.heap) (hns:s₁.heap.Ns mainGlobals mg) (hb:s₁.heap.Ns builtinsNs mb) (hbb:∀x:Str,x≠"__name__"->mb x=bootBuiltins x) (hlim:s₁.heap.NoLimit) (hg:s₁.gens=#[])
  (ha:s₁.heap.get? a=some { cls:=.type "list",data:=.seq vs.toArray }) (hi:IntsAre vs ns) (hl:ns.length≤sizeLine) (hr:Room k callerA)
  (F:∀base:Heap,K.In base->base.Ns mainGlobals mg->FnOk P w K mg base CX k fa fd [x] sp) (hbind:∀(s:Shared) (u:Value),BindsTo s fd ⟨[u],[]⟩ [(x,u)])
  (hsp:∀H:Hp,Only H->SqL K H a (ns.map V.int)->sp [.ref a] H (fun v _=>v=.bl true) fun _ _ _=>False)
  (hCX:∀H e s',CX [] H s₁ (fun _ _ _=>False) e s'->False):
  codeAny (model P w) callerA (.call (.ref fa) ⟨[.ref a],[]⟩) (fun r s'=>r=.ok (.ret (.bool true))/\OldK s₁.heap s'.heap/\s'.os=s₁.os/\AllBare s'.gens) s₁:=by
 have rv:=b_Y hi
 have lenV:=hi.length
 have core:∀H:Hp,Only H->SqL K H a (ns.map V.int)->HOk P w H s₁.heap->(∀b,H b≠none->b=a)->(H a≠none->K.lookup a=none)->
   codeAny (model P w) callerA (.call (.ref fa) ⟨[.ref a],[]⟩) (fun r s'=>r=.ok (.ret (.bool true))/\OldK s₁.heap s'.heap/\s'.os=s₁.os/\AllBare s'.gens) s₁:=by
  intro H hO hS hok hA hK
  have base_of:∀{b:Addr} {o:Obj},s₁.heap.get? b=some o->H b=none->(hidT s₁.heap H).get? b=some o:=fun e n=>hidT_get e n
  have noA:∀{b:Addr} {o:Obj} {es:Array DictEntry} {ep:Nat},s₁.heap.get? b=some o->o.data=.dict es ep->H b=none:=fun {b o es ep} e d=>by
   cases q:H b with
   | none=>rfl
   | some u=>
    have e':b=a:=hA b (by rw [q];simp)
    subst e'
    rw [ha] at e;cases e
    have d':Data.seq vs.toArray _=Data.dict es ep:=d
    cases d'
  have nsK:∀{b:Addr} {m:Str->Option Value},s₁.heap.Ns b m->(hidT s₁.heap H).Ns b m:=fun {b m} ⟨o,es,ep,e,d,r⟩=>⟨o,es,ep,base_of e (noA e d),d,r⟩
  have hKb:K.In (hidT s₁.heap H):=fun b o e=>base_of (KX b o e) (by
   cases q:H b with
   | none=>rfl
   | some u=>
    have e':b=a:=hA b (by rw [q];simp)
    subst e'
    rw [hK (by rw [q];simp)] at e;cases e)
  have hM:Mod K mg (hidT s₁.heap H):=⟨hKb,nsK hns,⟨mb,nsK hb,hbb⟩,let ⟨mc,h1,h2⟩:=hlim;⟨mc,nsK h1,h2⟩⟩
  have e0:Env0 P w K mg (hidT s₁.heap H) callerA [] s₁ H:=⟨rfl,hM,fun b o e=>of_hidT e,Nat.le_of_eq (hidT_size _ _),trivial,fun b hb=>absurd (show b∈([]:List Addr) from hb) (by simp),hok,.of_eq hg⟩
  refine codeAny_mono ((F _ hKb (nsK hns)).run callerA [] s₁ H ⟨[.ref a],[]⟩ [.ref a] [.ref a] _ _ hr e0 (hbind s₁ (.ref a)) (.cons rfl .nil) (hsp H hO hS)) fun r s' h=>?_
  cases r with
  | error e=>exact (hCX H e s' h).elim
  | ok fl=>
   cases fl with
   | next=>exact False.elim h
   | brk=>exact False.elim h
   | cont=>exact False.elim h
   | ret u=>
    obtain ⟨v,H',os,bare,un,hok',r',q⟩:=h
    have q':v=.bl true:=q
    subst q'
    obtain rfl:u=Value.bool true:=r'
    refine ⟨rfl,OldK.of_keep fun b o e=>?_,os,bare⟩
    cases q:H b with
    | none=>exact un.keep b o e q (by intro z;exact absurd (show b∈([]:List Addr) from z) (by simp)) (by simp)
    | some u=>
     rcases hO b with z | ⟨ob,xs,z⟩
     ·rw [q] at z;cases z
     ·have z2:=un.frzs b ob _ z
      obtain ⟨e1,_⟩:=hok b _ z
      obtain ⟨e2,_⟩:=hok' b _ z2
      rw [e] at e1;cases e1
      exact e2
 cases hk:K.lookup a with
 | some o=>
  have e:=KX a o hk
  rw [ha] at e
  cases e
  refine core (fun _=>none) (fun _=>.inl rfl) (.inr ⟨_,vs.toArray,_,hk,rfl,rfl,rfl,by rw [List.size_toArray,lenV];exact hl,by simpa using rv⟩) (fun b u z=>by have z':(none:Option HO)=some u:=z;cases z') (fun b z=>absurd rfl z) fun z=>absurd rfl z
 | none=>
  refine core (fun b=>if b=a then some (.frz { cls:=.type "list",data:=.seq vs.toArray } (.lst (ns.map V.int))) else none) (fun b=>?_) (.inl (.inr ⟨{ cls:=.type "list",data:=.seq vs.toArray },if_pos rfl⟩)) (fun b u z=>?_) (fun b z=>?_) fun _=>hk
  ·by_cases hb:b=a
   ·exact .inr ⟨_,_,if_pos hb⟩
   ·exact .inl (if_neg hb)
  ·by_cases hb:b=a
   ·have z':=(if_pos hb).symm.trans z
    cases z'
    subst hb
    exact ⟨ha,by rw [List.length_map];exact hl,vs,_,rv,ha⟩
   ·have z':=(if_neg hb).symm.trans z
    cases z'
  ·by_cases hb:b=a
   ·exact hb
   ·exact absurd (if_neg hb) z
theorem walk_of {l:PySem.W.OpenLaw} {n k:Nat} {K:Params->PySem.W.Frag} {CX:World->CXT} {sp:World->Sp}
  (hn:l.most=some n) (hn2:n≤sizeLine) (hdf:d.params.defaults=[]) (hr:Room k callerA)
  (hY:∀(w:World) (h:Heap),YP w h->(K w.params).In h)
  (F:∀(w:World) (mg:Str->Option Value) (fa:Addr) (h:Heap),(K w.params).In h->h.Ns mainGlobals mg->mg d.name=some (.ref fa)->
   ∃fd:FuncData,(∀(s:Shared) (u:Value),BindsTo s fd ⟨[u],[]⟩ [(x,u)])/\
    ∀base:Heap,(K w.params).In base->base.Ns mainGlobals mg->FnOk l.prog w (K w.params) mg base (CX w) k fa fd [x] (sp w))
  (hsp:∀(w:World) (H:Hp) (a:Addr) (ns:List Int),ns.length≤n->Only H->SqL (K w.params) H a (ns.map V.int)->sp w [.ref a] H (fun v _=>v=.bl true) fun _ _ _=>False)
  (hCX:∀(w:World) (H:Hp) (s:Shared) (e:Value) (s':Shared),CX w [] H s (fun _ _ _=>False) e s'->False):
  PySem.W.WalkO q loose XP YP l.row.toRowW d [] (fun f vs=>PySem.call f vs):=by
 refine Att.attach_call hn hdf fun w s₀ s₁ mg mb fa o pm cd doc a vs ns G Y ho hd hcd hmg hobj hints hlen hg=>?_
 have KX:=hY w _ Y
 obtain ⟨fd,hb,hF⟩:=F w mg fa _ KX G.T.g hmg
 exact law_call KX G.T.g G.T.b G.T.builtins G.T.nolimit hg hobj hints (Nat.le_trans hlen hn2) hr hF hb (fun H hO hS=>hsp w H a ns hlen hO hS) fun H e s'=>hCX w H s₁ e s'
def inClass (s:Stmt) (j:Nat):Stmt:=match s with
 | .ClassDef _ _ _ body _ _ _ _ _ _ _=>body.getD j (.Pass ⟨0,0,0,0⟩)
 | _=>.Pass ⟨0,0,0,0⟩
def a_h (s:Stmt):Arguments:=match s with
 | .FunctionDef _ a _ _ _ _ _ _ _ _=>a
 | _=>{ posonlyargs:=[],args:=[],vararg:=none,kwonlyargs:=[],kw_defaults:=[],kwarg:=none,defaults:=[] }
def a_g (s:Stmt):List Stmt:=match s with
 | .FunctionDef _ _ b _ _ _ _ _ _ _=>b
 | _=>[]
def a_c (s:Stmt):Scope:=match s with
 | .FunctionDef _ _ _ _ _ _ sc _ _ _=>sc
 | _=>{ kind:=.function,names:=[],isGenerator:=false,isCoroutine:=false }
abbrev CX0:CXT:=fun _ _ _ _ _ _=>False
abbrev E0:XK:=fun _ _ _=>False
theorem pass0:d_h CX0 X E0:=fun _ _ _ _ _ _ _ h=>h.elim
structure Fun (K:PySem.W.Frag) (x qual:Str) (st:Stmt) (f:Addr) (fd:FuncData):Prop where
 ex:∃(oc:Value) (od:Option Addr) (kV doc pm:Value) (an:Option Addr) (cdv ct:Value) (osl:Array (Option Value)),
  fd=PySem.W.fnOf x qual (a_h st) (a_g st) (a_c st) .none kV doc pm an cdv ct/\K.lookup f=some ⟨oc,od,.func fd,osl⟩/\PySem.W.codeIn K cdv qual=true
 kp:PySem.W.keepIn K (.ref f)=true
section
variable {P:Program} {w:World} {K:PySem.W.Frag} {mg:Str->Option Value} {base:Heap}
theorem Fun.ok {st:Stmt} (F:Fun K x qual st f fd) (S:a_l N ps (a_c st)) (len:∀vs H Q E,sp vs H Q E->vs.length=ps.length)
  (hbody:∀(cdv:Value) (A:Around) (outer:List Env) (s:Shared) (H:Hp) (vs:List V) (Q:VK) (E:XK),Room k (A.deeper (envOfC qual (a_c st) s.heap.objs.size f cdv))->sp vs H Q E->
   ∃t,PSs (cxOf CX0 P w K mg base N qual (a_c st) f cdv A outer s H E).nox (a_g st) t/\t { nx:=fun _ H'=>Q .non H',rt:=Q } (start N vs) H):FnOk P w K mg base CX0 (k+1) f fd ps sp:=by
 obtain ⟨oc,od,kV,doc,pm,an,cdv,ct,osl,rfl,lk,hcd⟩:=F.ex
 refine fn_of lk hcd S len fun A outer s H vs Q E hr hsp=>?_
 obtain ⟨t,h,q⟩:=hbody cdv A outer s H vs Q E hr hsp
 exact ⟨t,h.nox,q⟩
theorem Fun.binds {st:Stmt} (F:Fun K x qual st f fd)
  (h:∀(kV doc pm:Value) (an:Option Addr) (cdv ct:Value) (us:List Value),us.length=ps.length->bindArgs (PySem.W.fnOf x qual (a_h st) (a_g st) (a_c st) .none kV doc pm an cdv ct) ⟨us,[]⟩=pure (ps.zip us)):c_D K fd ps []:=by
 obtain ⟨oc,od,kV,doc,pm,an,cdv,ct,osl,rfl,lk,hcd⟩:=F.ex
 exact .all (h kV doc pm an cdv ct)
theorem a_F {st:Stmt} {kV doc pm cdv ct:Value} (l:K.lookup f=some ⟨oc,od,.func (PySem.W.fnOf x qual (a_h st) (a_g st) (a_c st) .none kV doc pm an cdv ct),osl⟩)
  (c:PySem.W.codeIn K cdv qual=true) (k:PySem.W.keepIn K (.ref f)=true):Fun K x qual st f (PySem.W.fnOf x qual (a_h st) (a_g st) (a_c st) .none kV doc pm an cdv ct):=⟨⟨oc,od,kV,doc,pm,an,cdv,ct,osl,rfl,l,c⟩,k⟩
end
theorem a_T (h:n≤1000):n<sizeLine:=Nat.lt_of_le_of_lt h (by decide)
section
variable {X:Cx}
theorem pv (i:Nat) {pos:Pos} (hN:X.N[i]?=some x:=by rfl) (hv:Vis X.env.scope x:=by first | exact Or.inl rfl | exact Or.inr (Or.inl rfl) | exact Or.inr (Or.inr rfl)) (hd:(x==("__debug__":Str))=false:=by decide)
  (hcd:(x==("__classdict__":Str))=false:=by decide):PE X (.Name x pos) (tVar i):=pe_var hN hv hd hcd
end
theorem iteF {A B:Prop} (h:B):if false=true then A else B:=by
 rw [if_neg Bool.false_ne_true]
 exact h
theorem iteT {A B:Prop} (h:A):if true=true then A else B:=by
 rw [if_pos rfl]
 exact h
theorem iteNS {c A B:Prop} [Decidable c] (hc:c) (h:B):if (!decide c)=true then A else B:=by
 rw [decide_eq_true hc]
 exact iteF h
def Same (H H':Hp):Prop:=∀b o,H b=some o->H' b=some o
theorem Same.refl (H:Hp):Same H H:=fun _ _ h=>h
theorem Same.trans (a:Same H H1) (b:Same H1 H2):Same H H2:=fun c o h=>b c o (a c o h)
theorem Same.seq {K:PySem.W.Frag} (e:Same H H') (h:SqL K H a xs):SqL K H' a xs:=by
 rcases h with (h | ⟨o,h⟩) | h
 ·exact .inl (.inl (e _ _ h))
 ·exact .inl (.inr ⟨o,e _ _ h⟩)
 ·exact .inr h
end L2
set_option Elab.async false
set_option maxRecDepth 100000
set_option maxHeartbeats 4000000
namespace L2
open PySem PySem.Spec PyProof.Rows
def Its (x:Str):It:=⟨fun i _=>i<x.length,fun i H v H'=>H'=H/\∃c,x.cps[i]?=some c/\v=.str ⟨#[c]⟩,fun i _=>x.length≤i⟩
theorem turn_strA {K:PySem.W.Frag} (x:Str) (t:Tok) (it:Addr):Turn P w K tg (Its x) [it] it (fun i h=>h.IsStrIter it "str_ascii_iterator" x t i)  where
 mem:=by simp
 obj:=fun i h st b hb=>by
  have e:b=it:=by simpa using hb
  subst e
  obtain ⟨o,e,c,d⟩:=st
  exact ⟨o,e,fun v z=>by rw [d] at z;cases z⟩
 keep:=fun i h h' st k=>by
  obtain ⟨o,e,r⟩:=st
  exact ⟨o,k it (by simp) o e,r⟩
 item:=by
  intro X hP hw hK hc i pins s σ H E I hf st hg
  subst hP hw hK
  have hg:i<x.cps.size:=hg
  obtain ⟨f0,f1,f2,f3,f4,f5⟩:=hf it (by simp)
  refine wpAny_pyNext_ascii_item st (c:=x.cps[i]) (by simp [hg]) fun h' st' sb=>?_
  have I1:Inv X pins σ H { s with heap:=h',toks:=s.toks+1 }:=I.turned (t':=s.toks+1) (fun b o hb e=>(sb.2 b hb).trans e) f0 f1 f3 f4 f5
  obtain ⟨o,e,c,d⟩:=id st'
  exact ⟨_,rfl,go_of (s:={ s with heap:=h',toks:=s.toks+1 }) e c d (by decide) ⟨.str ⟨#[x.cps[i]]⟩,H,I1,⟨_,rfl⟩,⟨rfl,_,by simp [hg],rfl⟩,st',fun b hb=>(hf b hb).1⟩⟩
 done:=by
  intro X hP hw hK hc i pins s σ H E I hf st hg
  subst hP hw hK
  have hg:x.cps.size≤i:=hg
  obtain ⟨f0,f1,f2,f3,f4,f5⟩:=hf it (by simp)
  exact wpAny_pyNext_ascii_end (I.ok.hd hc) st (by simp [hg]) fun h' eb=>⟨rfl,I.turned (t':=s.toks) (fun b o hb e=>eb b o hb e) f0 f1 f3 f4 f5⟩
 self:=fun _ _ _ _ _ st h=>wpAny_pyIter_striter_ascii st h
theorem turn_strW {K:PySem.W.Frag} (x:Str) (t:Tok) (it:Addr):Turn P w K tg (Its x) [it] it (fun i h=>h.IsStrIter it "str_iterator" x t i)  where
 mem:=by simp
 obj:=fun i h st b hb=>by
  have e:b=it:=by simpa using hb
  subst e
  obtain ⟨o,e,c,d⟩:=st
  exact ⟨o,e,fun v z=>by rw [d] at z;cases z⟩
 keep:=fun i h h' st k=>by
  obtain ⟨o,e,r⟩:=st
  exact ⟨o,k it (by simp) o e,r⟩
 item:=by
  intro X hP hw hK hc i pins s σ H E I hf st hg
  subst hP hw hK
  have hg:i<x.cps.size:=hg
  obtain ⟨f0,f1,f2,f3,f4,f5⟩:=hf it (by simp)
  refine wpAny_pyNext_wide_item st (c:=x.cps[i]) (by simp [hg]) fun h' st' sb=>?_
  have I1:Inv X pins σ H { s with heap:=h',toks:=s.toks+1 }:=I.turned (t':=s.toks+1) (fun b o hb e=>(sb.2 b hb).trans e) f0 f1 f3 f4 f5
  obtain ⟨o,e,c,d⟩:=id st'
  exact ⟨_,rfl,go_of (s:={ s with heap:=h',toks:=s.toks+1 }) e c d (by decide) ⟨.str ⟨#[x.cps[i]]⟩,H,I1,⟨_,rfl⟩,⟨rfl,_,by simp [hg],rfl⟩,st',fun b hb=>(hf b hb).1⟩⟩
 done:=by
  intro X hP hw hK hc i pins s σ H E I hf st hg
  subst hP hw hK
  have hg:x.cps.size≤i:=hg
  obtain ⟨f0,f1,f2,f3,f4,f5⟩:=hf it (by simp)
  exact wpAny_pyNext_wide_end (I.ok.hd hc) st (by simp [hg]) fun h' eb=>⟨rfl,I.turned (t':=s.toks) (fun b o hb e=>eb b o hb e) f0 f1 f3 f4 f5⟩
 self:=fun _ _ _ _ _ st h=>wpAny_pyIter_striter_wide st h
def iStr (tl:TE):TI:=fun σ H R=>tl σ H fun v H1=>∃x,v=.str x/\R (Its x) H1
theorem pi_str (hl:PE X l tl):PI X tg l (iStr tl):=by
 intro pins s σ H R I h
 refine thn (hl pins s σ H _ I h) fun v s1 ⟨y,H1,I1,r1,q1⟩=>?_
 obtain ⟨x,rfl,q⟩:=q1
 obtain ⟨t,rfl⟩:=r1
 cases ha:x.cps.all (· < 128)
 ·refine wpAny_pyIter_wide ha ?_
  refine ⟨s1.heap.objs.size,[s1.heap.objs.size],_,_,H1,rfl,I1.kept (t':=s1.toks) fun b o e=>Heap.get?_push_of_some _ e,turn_strW x t _,⟨_,Heap.get?_push_size _ rfl,rfl,rfl⟩,fun b hb=>?_,q⟩
  have e:b=s1.heap.objs.size:=by simpa using hb
  subst e
  exact I1.fpOk (Nat.le_refl _) (I1.hok.fresh (Nat.le_refl _))
 ·refine wpAny_pyIter_ascii ha ?_
  refine ⟨s1.heap.objs.size,[s1.heap.objs.size],_,_,H1,rfl,I1.kept (t':=s1.toks) fun b o e=>Heap.get?_push_of_some _ e,turn_strA x t _,⟨_,Heap.get?_push_size _ rfl,rfl,rfl⟩,fun b hb=>?_,q⟩
  have e:b=s1.heap.objs.size:=by simpa using hb
  subst e
  exact I1.fpOk (Nat.le_refl _) (I1.hok.fresh (Nat.le_refl _))
theorem for_str {g:TG} {tb:TS} {D:Ends} (Pv:Nat->St->Hp->Prop) (h0:Pv 0 σ H)
  (hs:∀i c σ H,x.cps[i]?=some c->Pv i σ H->g (.str ⟨#[c]⟩) σ H fun σ2 H2=>tb { D with nx:=Pv (i+1),ct:=Pv (i+1),bk:=D.nx } σ2 H2) (hd:∀ σ H,Pv x.length σ H->D.nx σ H):
  ∃W:Nat->Nat->St->Hp->Prop,(∃m,W 0 m σ H)/\∀i m σ H,W i m σ H->
   ((Its x).stop i H/\D.nx σ H)\/((Its x).go i H/\∃N:St->Hp->Prop,(∀ σ' H',N σ' H'->∃m',m'<m/\W (i+1) m' σ' H')/\∀y H',(Its x).yld i H y H'->g y σ H' fun σ2 H2=>tb { D with nx:=N,ct:=N,bk:=D.nx } σ2 H2):=by
 refine ⟨fun i m σ H=>m=x.length - i/\i≤x.length/\Pv i σ H,⟨x.length,by simp,Nat.zero_le _,h0⟩,?_⟩
 rintro i m σ H ⟨rfl,hi,p⟩
 by_cases hlt:i<x.length
 ·refine .inr ⟨hlt,Pv (i+1),fun σ' H' p'=>⟨x.length - (i+1),by omega,rfl,hlt,p'⟩,fun y H' q=>?_⟩
  obtain ⟨e,c,hc,e2⟩:=q
  subst e e2
  exact hs i c σ _ hc p
 ·have e:i=x.length:=by omega
  subst e
  exact .inl ⟨Nat.le_refl _,hd σ H p⟩
section
variable {X:Cx}
def rSlS:V->Option Int->Option Int->Hp->VK->Prop:=fun x lo hi H Q=>∃z,x=.str z/\z.length≤sizeLine/\Q (.str (Txt.slice z lo hi)) H
theorem sl_str:SlR X rSlS:=by
 intro pins s σ H x v vl vu lo hi sl Q I rx hs pl pu h
 obtain ⟨z,rfl,hz,q⟩:=h
 obtain ⟨t,rfl⟩:=rx
 refine ⟨"str",_,PySem.F.slot_str_getitem.lookup,typeIs_str _ _ _,?_⟩
 have fin:∀t' k,EP X pins σ Q (.str (Txt.slice z lo hi) t') { s with toks:=k }:=fun t' k=>⟨.str _,H,I.tok k,⟨t',rfl⟩,q⟩
 obtain ⟨o,ho,hc,hd⟩:=hs
 cases pl with
 | none=>
  cases pu with
  | none=>exact wpAny_getItem_str_slice (l:=none) (u:=none) (st:=none) ⟨o,ho,hc,hd⟩ rfl (post_val_or_str ⟨Nat.le_trans (Txt.slice_le z _ _) hz,fun t' k=>fin t' k⟩)
  | int j uj=>exact wpAny_getItem_str_slice (l:=none) (u:=some (j,uj)) (st:=none) ⟨o,ho,hc,hd⟩ rfl (post_val_or_str ⟨Nat.le_trans (Txt.slice_le z _ _) hz,fun t' k=>fin t' k⟩)
 | int i ui=>
  cases pu with
  | none=>exact wpAny_getItem_str_slice (l:=some (i,ui)) (u:=none) (st:=none) ⟨o,ho,hc,hd⟩ rfl (post_val_or_str ⟨Nat.le_trans (Txt.slice_le z _ _) hz,fun t' k=>fin t' k⟩)
  | int j uj=>exact wpAny_getItem_str_slice (l:=some (i,ui)) (u:=some (j,uj)) (st:=none) ⟨o,ho,hc,hd⟩ rfl (post_val_or_str ⟨Nat.le_trans (Txt.slice_le z _ _) hz,fun t' k=>fin t' k⟩)
def rIndex:V->List V->Hp->VK->Prop:=fun x xs H Q=>∃z y,x=.str z/\xs=[.str y]/\Txt.contains z y=true/\Q (.int (Txt.find z y)) H
theorem mt_index:MtR X "str.index" rIndex:=by
 intro pins s σ H x xs v us Q I rx rs h
 obtain ⟨z,y,rfl,rfl,hc,q⟩:=h
 obtain ⟨t,rfl⟩:=rx
 obtain ⟨u,rfl,t',rfl⟩:=c_K rs
 unfold Txt.contains at hc
 unfold Txt.find at q
 cases ho:Builtin.Str.occurrences z y 0 z.length 1 with
 | nil=>rw [ho] at hc;exact absurd hc (by decide)
 | cons i rest=>
  rw [ho] at q
  exact SC.index ho ⟨.int _,H,I.tok _,⟨_,rfl⟩,q⟩
theorem e_n:c_s X (.builtin "isinstance") (fun xs H Q=>∃x t,xs=[x,.ty T]/\TyOf X.K H x t/\PySem.W.kitOne X.K t (.type T)=some b/\Q (.bl b) H):=by
 intro pins s σ H xs us Q I r h
 obtain ⟨x,t,rfl,ty,e,q⟩:=h
 obtain ⟨u,w',rfl,rx,ry⟩:=vals2 r
 cases ry
 exact isinst_ok I rx ty e fun tk=>⟨.bl b,H,I.tok tk,rfl,q⟩
end
def cxComp (X:Cx) (x:Str) (sc:Scope) (cl:List (Str×Addr)) (C:Addr) (fp:List Addr) (s:Shared) (H:Hp):Cx where
 prog:=X.prog
 w:=X.w
 K:=X.K
 mg:=X.mg
 base:=X.base
 A:=X.A
 N:=x::X.N
 s₀:=s
 H₀:=H
 env:=compEnvC sc cl C X.env
 outer:=X.stack
 stack:=X.stack
 ex:=fp
 fn:=fun _=>false
 calm:=X.calm
 pn:=[]
 xe:=fun _ _=>False
def PTs (X:Cx) (ifs:List Expr) (t:TT):Prop:=
 ∀(pins:List (Addr×Obj)) (s:Shared) (σ:St) (H:Hp) (Q:Bool->Hp->Prop),Inv X pins σ H s->t σ H Q->
  wpAny (model X.prog X.w) X.A (forIn ifs true fun c r=>if r=true then do let ok <- isTrue c X.env (eval c X.env);pure (ForInStep.yield ok) else pure (ForInStep.yield r)) (TP X pins σ Q) X.xe s
def tAlways:TT:=fun _ H Q=>Q true H
theorem a_A {A B:Hp->Prop} (h:A H):tAlways σ H (fun b H4=>if b=true then A H4 else B H4):=iteT (A:=A H) (B:=B H) h
theorem b_x:PTs X [] tAlways:=fun _ _ _ H _ I h=>wpAny_tests_nil ⟨H,I,h⟩
theorem e_V (h:PT X c t):PTs X [c] t:=fun pins s σ H Q I hw=>wpAny_tests_one (h pins s σ H Q I hw)
def tComp (wi:TI) (tt:TT) (te:TE):TE:=fun σ H Q=>wi σ H fun J H1=>∀D,H1 D=none->∃W:Nat->Nat->List V->Hp->Prop,
 (∃m,W 0 m [] (upd H1 D (.lst [])))/\∀i m ys H2,W i m ys H2->H2 D=some (.lst ys)/\((J.stop i H2/\Q (.ref D) H2)\/(J.go i H2/\ys.length<sizeLine/\∀x H3,J.yld i H2 x H3->
  tt (some x::σ) H3 fun b H4=>if b=true then te (some x::σ) H4 fun y H5=>H5 D=some (.lst ys)/\∃m',m'<m/\W (i+1) m' (ys++[y]) (upd H5 D (.lst (ys++[y])))
   else ∃m',m'<m/\W (i+1) m' ys H4))
theorem neA {a b:Nat} (h:a≠b):(show Addr from a)≠(show Addr from b):=h
theorem b_R (hf:∀y∈sc.names,y.2=.free->∃c,env.cells.lookup y.1=some c):
  ∃cl,closureFor sc env=pure cl/\(∀y c,cl.lookup y=some c->env.cells.lookup y=some c)/\∀y∈sc.names,y.2=.free->∃c,cl.lookup y.1=some c:=by
 have go:∀(l:List (Str×NameKind)) (acc:List (Str×Addr)),(∀y∈l,y.2=.free->∃c,env.cells.lookup y.1=some c)->(∀y c,acc.lookup y=some c->env.cells.lookup y=some c)->
   ∃cl,(forIn l acc fun (p:Str×NameKind) r=>if (p.2==.free)=true then do let a <- cellOf env p.1;pure (ForInStep.yield ((p.1,a)::r)) else pure (ForInStep.yield r):Sem (List (Str×Addr)))=pure cl/\
    (∀y c,cl.lookup y=some c->env.cells.lookup y=some c)/\(∀y c,acc.lookup y=some c->∃c',cl.lookup y=some c')/\∀y∈l,y.2=.free->∃c,cl.lookup y.1=some c:=by
  intro l
  induction l with
  | nil=>intro acc _ ha;exact ⟨acc,rfl,ha,fun y c e=>⟨c,e⟩,fun y hy=>by simp at hy⟩
  | cons p r ih=>
   intro acc hl ha
   obtain ⟨n,k⟩:=p
   by_cases hk:k=.free
   ·subst hk
    obtain ⟨c,hc⟩:=hl (n,.free) List.mem_cons_self rfl
    have e1:cellOf env n=pure c:=by unfold cellOf;rw [hc]
    have ha':∀y c',((n,c)::acc).lookup y=some c'->env.cells.lookup y=some c':=fun y c' e=>by
     by_cases hy:(y==n)=true
     ·rw [List.lookup_cons,hy] at e
      cases e
      rw [eq_of_beq hy]
      exact hc
     ·rw [List.lookup_cons,Bool.eq_false_iff.mpr hy] at e
      exact ha y c' e
    obtain ⟨cl,h1,h2,h3,h4⟩:=ih ((n,c)::acc) (fun y hy=>hl y (List.mem_cons_of_mem _ hy)) ha'
    have kept:∀y c',acc.lookup y=some c'->∃c'',((n,c)::acc).lookup y=some c'':=fun y c' e=>by
     by_cases hy:(y==n)=true
     ·exact ⟨c,by rw [List.lookup_cons,hy]⟩
     ·exact ⟨c',by rw [List.lookup_cons,Bool.eq_false_iff.mpr hy];exact e⟩
    refine ⟨cl,?_,h2,fun y c' e=>?_,fun y hy hyf=>?_⟩
    ·rw [List.forIn_cons]
     simp only [beq_self_eq_true,if_true,e1,pure_bind]
     exact h1
    ·obtain ⟨c'',e'⟩:=kept y c' e
     exact h3 y c'' e'
    ·rcases List.mem_cons.mp hy with rfl | hy
     ·exact h3 n c (by rw [List.lookup_cons,beq_self_eq_true])
     ·exact h4 y hy hyf
   ·have hb:(k==NameKind.free)=false:=by simpa using hk
    obtain ⟨cl,h1,h2,h3,h4⟩:=ih acc (fun y hy=>hl y (List.mem_cons_of_mem _ hy)) ha
    refine ⟨cl,?_,h2,h3,fun y hy hyf=>?_⟩
    ·rw [List.forIn_cons]
     simp only [hb,Bool.false_eq_true,if_false,pure_bind]
     exact h1
    ·rcases List.mem_cons.mp hy with rfl | hy
     ·exact absurd hyf hk
     ·exact h4 y hy hyf
 obtain ⟨cl,h1,h2,_,h4⟩:=go sc.names [] hf (fun y c e=>by simp at e)
 refine ⟨cl,?_,h2,h4⟩
 show ((forIn sc.names [] fun (p:Str×NameKind) r=>if (p.2==.free)=true then do let a <- cellOf env p.1;pure (ForInStep.yield ((p.1,a)::r)) else pure (ForInStep.yield r):Sem (List (Str×Addr))) >>= fun s=>pure s)=pure cl
 rw [bind_pure,h1]
theorem relabel_lookup (h:(relabel sc env).names.lookup y=some k):sc.names.lookup y=some k\/(k=.cell/\sc.names.lookup y=some .free/\env.kindOf y=some .cell):=by
 have go:∀(l:List (Str×NameKind)),(l.map fun (n,k)=>if (k==.free&&env.scope.kind==.function&&env.kindOf n==some .cell) then (n,NameKind.cell) else (n,k)).lookup y=some k->
   l.lookup y=some k\/(k=.cell/\l.lookup y=some .free/\env.kindOf y=some .cell):=by
  intro l
  induction l with
  | nil=>intro h;simp at h
  | cons p r ih=>
   obtain ⟨n,kk⟩:=p
   intro h
   simp only [List.map_cons] at h
   by_cases hc:(kk==NameKind.free&&env.scope.kind==.function&&env.kindOf n==some .cell)=true
   ·rw [if_pos hc] at h
    rw [List.lookup_cons] at h ⊢
    cases hy:y==n with
    | true=>
     rw [hy] at h
     have e:k=.cell:=(Option.some.inj h).symm
     have e1:kk=.free:=by
      have:=(Bool.and_eq_true_iff.mp (Bool.and_eq_true_iff.mp hc).1).1
      simpa using this
     have e2:env.kindOf n=some .cell:=by
      have:=(Bool.and_eq_true_iff.mp hc).2
      simpa using this
     rw [eq_of_beq hy]
     exact .inr ⟨e,by rw [e1],e2⟩
    | false=>
     rw [hy] at h
     exact ih h
   ·rw [if_neg hc] at h
    rw [List.lookup_cons] at h ⊢
    cases hy:y==n with
    | true=>rw [hy] at h;exact .inl h
    | false=>rw [hy] at h;exact ih h
 exact go sc.names h
section
variable {X:Cx} {elt iter:Expr} {x:Str} {px pos:Pos} {ifs:List Expr} {sc:Scope} {wi:TI} {tt:TT} {te:TE}
end
def Df (P:Program) (w:World) (K:PySem.W.Frag) (mg:Str->Option Value) (base:Heap) (x:Str) (k:Nat) (ps:List Str) (sp:Sp):Prop:=
 ∃(f:Addr) (fd:FuncData),mg x=some (.ref f)/\PySem.W.keepIn K (.ref f)=true/\c_D K fd ps []/\FnOk P w K mg base CX0 k f fd ps sp
theorem a_H {p pos:Pos} (D:Df X.prog X.w X.K X.mg X.base x k ps sp) (hr:Room k X.A) (ha:PA X (e::es) t)
  (hg:Gl X x:=by rfl) (hdb:(x==("__debug__":Str))=false:=by decide) (he:starEach (e::es) X.env=(false,eval e X.env)::starEach es X.env:=by rfl) (hpl:(backTo pos (starEach es X.env)).any (·.1)=false:=by rfl):
  PE X (.Call (.Name x p) (e::es) [] pos) (c_t sp [] E0 t):=by
 obtain ⟨f,fd,h1,h2,h3,F⟩:=D
 exact pe_call F hr hg h1 h2 h3 .nil pass0 ha hdb he hpl
theorem iteD {c A B:Prop} [Decidable c] (hc:c) (h:A):if decide c=true then A else B:=by
 rw [decide_eq_true hc]
 exact iteT h
theorem iteN {c A B:Prop} [Decidable c] (hc:¬ c) (h:B):if decide c=true then A else B:=by
 rw [decide_eq_false hc]
 exact iteF h
theorem ite3 {c A B:Prop} [Decidable c] (h1:c->A) (h2:¬ c->B):if decide c=true then A else B:=by
 by_cases h:c
 ·exact iteD h (h1 h)
 ·exact iteN h (h2 h)
theorem Same.upd (n:H D=none):Same H (upd H D o):=fun b u e=>by rw [upd_ne (ne_of_none e n)];exact e
theorem a_i (h:n≤16777216):n≤sizeLine:=by rw [sizeLine_eq];exact h
theorem atI_in {xs:List α} {i:Int} (h0:0≤i) (h1:i<xs.length):∃v,atI xs i=some v/\xs[i.toNat]?=some v:=by
 obtain ⟨j,rfl⟩:=Int.eq_ofNat_of_zero_le h0
 have hj:j<xs.length:=by omega
 exact ⟨xs[j],a_u (by simp [hj]),by simp [hj]⟩
def tCut (t u:TS):TS:=fun D σ H=>∃M:St->Hp->Prop,t { D with nx:=M } σ H/\∀ σ' H',M σ' H'->u D σ' H'
theorem e_W {st:Stmt} (h1:PS X st t) (h2:PSs X rest u):PSs X (st::rest) (tCut t u):=by
 intro pins s σ H D I h
 obtain ⟨M,h,hM⟩:=h
 refine wpAny_execs_cons (thn (h1 pins s σ H { D with nx:=M } I h) fun f s1 q=>?_)
 cases f with
 | next=>
  obtain ⟨σ',H',I',q⟩:=q
  exact h2 pins s1 σ' H' D I' (hM σ' H' q)
 | ret v=>exact q
 | brk=>exact q
 | cont=>exact q
def spLaw (K:PySem.W.Frag):Sp:=fun vs H Q _=>∃(a:Addr) (ns:List Int),vs=[.ref a]/\SqL K H a (ns.map V.int)/\ns.length≤63/\∀H',Q (.bl true) H'
section
variable {X:Cx}
theorem op_m:OpR X (binaryOp .Mod) (fun x y H Q=>∃i j,x=.int i/\y=.int j/\0<j/\Q (.int (i % j)) H):=op_mod
theorem op_a:OpR X (binaryOp .Add) (fun x y H Q=>∃i j,x=.int i/\y=.int j/\Q (.int (i+j)) H):=op_add
theorem op_s:OpR X (binaryOp .Sub) (fun x y H Q=>∃i j,x=.int i/\y=.int j/\Q (.int (i - j)) H):=op_sub
theorem op_p:OpR X (binaryOp .Mult) (fun x y H Q=>∃i j,x=.int i/\y=.int j/\((-(2 ^ 64)<i/\i<2 ^ 64)\/(-(2 ^ 64)<j/\j<2 ^ 64))/\Q (.int (i * j)) H):=op_mul
end
end L2
namespace RA
open PySem PySem.StrLaws Builtin Builtin.Str
def tx (l:List Nat):Str:=⟨l.toArray⟩
theorem c_U (l:List Nat):(tx l).cps.toList=l:=by simp [tx]
theorem a_R (l:List Nat):(tx l).length=l.length:=by simp [tx,Str.length]
theorem tx_app (a b:List Nat):tx a++tx b=tx (a++b):=by
 apply Str.ext'
 show a.toArray++b.toArray=(a++b).toArray
 simp
theorem tx_get (l:List Nat) (i:Nat):(tx l).cps[i]?=l[i]?:=by simp [tx]
theorem at_one (l:List Nat) (c i:Nat):At (tx l) ⟨#[c]⟩ (tx l).length i↔l[i]?=some c:=by
 have h:=subAt_one (tx l) c i
 rw [c_U] at h
 exact h
theorem d_A (l:List Nat) (c:Nat):Txt.contains (tx l) ⟨#[c]⟩=decide (c∈l):=by
 have h:=found_one (tx l) c
 rw [c_U] at h
 exact h
theorem f_l:∀{l:List Nat} {c i:Nat},l[i]?=some c->l.idxOf c≤i
 | [],_,_,h=>by simp at h
 | a::l,c,0,h=>by
  have e:a=c:=by simpa using h
  subst e
  simp
 | a::l,c,i+1,h=>by
  rw [List.idxOf_cons]
  cases e:a==c with
  | true=>simp
  | false=>
   have:=f_l (l:=l) (c:=c) (i:=i) (by simpa using h)
   simp
   omega
theorem find_one (h:c∈l):Txt.find (tx l) ⟨#[c]⟩=(l.idxOf c:Nat):=by
 unfold Txt.find
 rcases occ_head (tx l) ⟨#[c]⟩ 1 (Nat.le_refl _) with ⟨_,hn⟩ | ⟨i,r,e,ha,hn⟩
 ·obtain ⟨i,hi⟩:=List.mem_iff_getElem?.mp h
  exact absurd ((at_one l c i).mpr hi) (hn i)
 ·rw [e]
  have hi:=(at_one l c i).mp ha
  have hlt:l.idxOf c<l.length:=List.idxOf_lt_length_of_mem h
  have e1:l[l.idxOf c]?=some c:=by
   rw [List.getElem?_eq_getElem hlt,List.getElem_idxOf hlt]
  have h1:¬ l.idxOf c<i:=fun z=>hn _ z ((at_one l c _).mpr e1)
  have h2:l.idxOf c≤i:=by
   exact f_l hi
  have:i=l.idxOf c:=by omega
  rw [this]
theorem slice_to (x:Str) (h:0≤j):Txt.slice x none (some j)=tx (x.cps.toList.take j.toNat):=by
 have go:∀j:Int,0≤j->j≤x.cps.toList.length->Txt.slice x none (some j)=tx (x.cps.toList.take j.toNat):=fun j h0 h1=>by
  have e:Txt.slice x none (some j)=sliceText x none (some j):=rfl
  rw [e,sliceText_to ⟨h0,h1⟩]
  simp [tx]
 by_cases hj:j≤x.cps.toList.length
 ·exact go j h hj
 ·have e:Txt.slice x none (some j)=Txt.slice x none (some (x.length:Int)):=by
   have hl:x.length=x.cps.toList.length:=by simp [Str.length]
   have e1:strSliceIndices none (some j) 1 x.length=strSliceIndices none (some (x.length:Int)) 1 x.length:=by
    have a:¬ (j<0):=by omega
    have b:¬ ((x.length:Int)<0):=by omega
    have m:min j (x.length:Int)=(x.length:Int):=by omega
    simp [strSliceIndices,a,b,m]
   unfold Txt.slice
   rw [e1]
  rw [e,go _ (by omega) (by simp [Str.length])]
  have hl:x.length=x.cps.toList.length:=by simp [Str.length]
  rw [List.take_of_length_le (i:=j.toNat) (by omega),List.take_of_length_le (by omega)]
theorem slice_from (x:Str) {i:Int} (h:0≤i) (h1:i≤x.cps.toList.length):Txt.slice x (some i) none=tx (x.cps.toList.drop i.toNat):=by
 have e:Txt.slice x (some i) none=sliceText x (some i) none:=rfl
 rw [e,sliceText_from ⟨h,h1⟩]
 have e2:((x.cps.toList.length:Int) - i).toNat=(x.cps.toList.drop i.toNat).length:=by rw [List.length_drop];omega
 rw [e2,List.take_length]
 rfl
structure Let (L:List Nat):Prop where
 lo:1≤L.length
 hi:L.length≤3
 nd:L.Nodup
 az:∀c∈L,97≤c/\c≤122
theorem idx_get {L:List Nat} (nd:L.Nodup) (h:i<L.length):L.idxOf L[i]=i:=by
 have h1:=f_l (l:=L) (c:=L[i]) (i:=i) (by simp [h])
 have hlt:L.idxOf L[i]<L.length:=by omega
 have e:=List.getElem_idxOf hlt
 by_cases hh:L.idxOf L[i]<i
 ·exact absurd e (List.pairwise_iff_getElem.mp nd _ _ hlt h hh)
 ·omega
theorem draw_one {f l:List Nat} (hi:i<l.length) (nd:(f++l).Nodup):((f++[l[i]])++(l.take i++l.drop (i+1))).Nodup/\∀c,c∈(f++[l[i]])++(l.take i++l.drop (i+1))->c∈f++l:=by
 have e:l=l.take i++l[i]::l.drop (i+1):=by
  conv=>lhs;rw [<- List.take_append_drop i l,List.drop_eq_getElem_cons hi]
 have p:(f++l).Perm ((f++[l[i]])++(l.take i++l.drop (i+1))):=by
  conv=>lhs;rw [e]
  rw [List.append_assoc]
  refine List.Perm.append_left f ?_
  show (l.take i++l[i]::l.drop (i+1)).Perm (l[i]::(l.take i++l.drop (i+1)))
  exact List.perm_middle
 exact ⟨p.nodup_iff.mp nd,fun c hc=>p.mem_iff.mpr hc⟩
end RA
namespace RA
open PySem L2
theorem abc_eq:(Str.ofString "abcdefghijklmnopqrstuvwxyz")=tx (List.range' 97 26):=by decide +kernel
theorem empty_eq:(Str.ofString "")=tx []:=by decide +kernel
end RA
namespace RA
open PySem L2 Builtin Builtin.Str
end RA
namespace L2
open PySem PySem.Spec PyProof.Rows
section
variable {X:Cx}
theorem c_Q:OpR X (binaryOp .Mod) (fun x y H Q=>∃i j,x=.int i/\y=.int j/\0<j/\∀r,0≤r->r<j->Q (.int r) H):=by
 intro pins s σ H x y v u Q I rx ry h
 obtain ⟨i,j,e1,e2,hj,q⟩:=h
 exact op_mod pins s σ H x y v u Q I rx ry ⟨i,j,e1,e2,hj,q _ (Int.emod_nonneg _ (by omega)) (Int.emod_lt_of_pos _ hj)⟩
theorem op_fdivG:OpR X (binaryOp .FloorDiv) (fun x y H Q=>∃i j,x=.int i/\y=.int j/\CDiv i j/\0≤i/\∀r,0≤r->Q (.int r) H):=by
 intro pins s σ H x y v u Q I rx ry h
 obtain ⟨i,j,e1,e2,hj,hi,q⟩:=h
 exact op_fdiv pins s σ H x y v u Q I rx ry ⟨i,j,e1,e2,hj,q _ (Int.ediv_nonneg hi (by have:=hj.1;omega))⟩
end
theorem a_f (h:H a=some o) (n:H b=none):upd H b u a=some o:=by
 rw [upd_ne (ne_of_none h n)]
 exact h
theorem upd_keep2 (h:H a=some o) (n:H b=some v) (d:o≠v):upd H b u a=some o:=by
 rw [upd_ne (ne_of h n d)]
 exact h
theorem kit_ib (K:PySem.W.Frag):PySem.W.kitOne K (.type "int") (.type "bool")=some false:=by kernel_rfl
theorem kit_ii (K:PySem.W.Frag):PySem.W.kitOne K (.type "int") (.type "int")=some true:=by with_unfolding_all rfl
end L2
namespace RA
open PySem L2
structure Mach (L:List Nat) (W:List (List Nat)) (B:List Bool):Prop where
 lt:Let L
 n1:1≤W.length
 n60:W.length≤60
 bl:B.length=W.length
 row:∀ws∈W,ws.length=L.length/\∀x∈ws,x<W.length
def nxt (L:List Nat) (W:List (List Nat)) (r c:Nat):Nat:=(W.getD r []).getD (L.idxOf c) 0
def run (L:List Nat) (W:List (List Nat)) (r:Nat) (w:List Nat):Nat:=w.foldl (nxt L W) r
theorem Mach.at (h:Mach L W B) (hr:r<W.length) (hc:c∈L):
  ∃ws x,W[r]?=some ws/\ws[L.idxOf c]?=some x/\nxt L W r c=x/\x<W.length:=by
 have hw:W[r]?=some W[r]:=by simp [hr]
 obtain ⟨h1,h2⟩:=h.row W[r] (List.getElem_mem hr)
 have hi:L.idxOf c<W[r].length:=by rw [h1];exact List.idxOf_lt_length_of_mem hc
 have hx:W[r][L.idxOf c]?=some W[r][L.idxOf c]:=by simp [hi]
 refine ⟨W[r],W[r][L.idxOf c],hw,hx,?_,h2 _ (List.getElem_mem hi)⟩
 unfold nxt
 have e1:W.getD r []=W[r]:=by
  rw [List.getD_eq_getElem?_getD,hw]
  rfl
 rw [e1,List.getD_eq_getElem?_getD,hx]
 rfl
theorem d_H (L:List Nat) (W:List (List Nat)) (r:Nat) (w:List Nat) (c:Nat):run L W r (w++[c])=nxt L W (run L W r w) c:=by
 unfold run
 rw [List.foldl_append]
 rfl
theorem run_lt {L:List Nat} {W:List (List Nat)} {B:List Bool} (h:Mach L W B):∀{w:List Nat} {r:Nat},r<W.length->(∀c∈w,c∈L)->run L W r w<W.length
 | [],_,hr,_=>hr
 | c::w,r,hr,hw=>by
  obtain ⟨ws,x,_,_,e,hx⟩:=h.at hr (hw c (by simp))
  exact run_lt h (w:=w) (r:=nxt L W r c) (by rw [e];exact hx) fun d hd=>hw d (by simp [hd])
def intsV (ws:List Nat):List V:=ws.map fun (n:Nat)=>V.int (n:Int)
def c_C (H:Hp) (rows:List Addr) (W:List (List Nat)):Prop:=∀(i:Nat) (r:Addr),rows[i]?=some r->∃ws,W[i]?=some ws/\H r=some (.tup (intsV ws))
def b_e (H:Hp) (m:Addr) (L:List Nat) (W:List (List Nat)) (B:List Bool):Prop:=
 ∃(wy mk:Addr) (rows:List Addr),H m=some (.tup [.str (tx L),.ref wy,.ref mk])/\H wy=some (.tup (rows.map V.ref))/\H mk=some (.tup (B.map V.bl))/\rows.length=W.length/\c_C H rows W
theorem c_C.same (h:c_C H rows W) (s:Same H H'):c_C H' rows W:=fun i r e=>by
 obtain ⟨ws,h1,h2⟩:=h i r e
 exact ⟨ws,h1,s _ _ h2⟩
theorem b_e.same (h:b_e H m L W B) (s:Same H H'):b_e H' m L W B:=by
 obtain ⟨wy,mk,rows,h1,h2,h3,h4,h5⟩:=h
 exact ⟨wy,mk,rows,s _ _ h1,s _ _ h2,s _ _ h3,h4,h5.same s⟩
theorem c_r {α β:Type} {xs:List α} (f:α->β) {x:α} (h:xs[i]?=some x):atI (xs.map f) ((i:Nat):Int)=some (f x):=a_u (by rw [List.getElem?_map,h];rfl)
end RA
namespace RA
end RA
namespace L2
open PySem
namespace RV
section
variable {prog:Program} {w:World} {A:Around} {E:Value->Shared->Prop} {s:Shared}
end
end RV
end L2
namespace L2
open PySem PySem.Spec PyProof.Rows
section
variable {X:Cx}
end
end L2
namespace L2
open PySem
namespace ZP
def Keep (S:List Addr) (h h':Heap):Prop:=h'.objs.size=h.objs.size/\∀c o,c∉S->h.get? c=some o->h'.get? c=some o
theorem Keep.one (x:Heap.SameBut a h h') (m:a∈S):Keep S h h':=⟨x.1,fun c o hc e=>(x.2 c fun q=>hc (q▸m)).trans e⟩
theorem Keep.trans (x:Keep S h h1) (y:Keep S h1 h2):Keep S h h2:=⟨y.1.trans x.1,fun c o hc e=>y.2 c o hc (x.2 c o hc e)⟩
section
variable {prog:Program} {w:World} {A:Around} {E:Value->Shared->Prop} {s:Shared} {z TI TO i1 i2:Addr} {f1 f2:List Addr} {n1 n2 k:Nat} {P1 P2:Nat->Value->Prop} {S1 S2:Nat->Heap->Prop} {a b:Value}
theorem toldL {Q:Value->Shared->Prop} (D1:Draws prog w A i1 f1 n1 P1 S1) (D2:Draws prog w A i2 f2 n2 P2 S2) (m1:∀c∈f1,c=i1\/c∉[z,TO,i1,i2]) (m2:∀c∈f2,c=i2\/c∉[z,TO,i1,i2]) (ap:ZipApart z TI TO i1 i2 TI TI) (hz:IsZip s.heap z TI TO .none) (hTI:IsPair s.heap TI (.ref i1) (.ref i2)) (hTO:IsPair s.heap TO a b)
  (h1:S1 k s.heap) (h2:S2 k s.heap) (l1:k<n1) (l2:k<n2)
  (hQ:∀x y h' tk,P1 k x->P2 k y->IsZip h' z TI TO (rawInt s.heap.objs.size)->IsPair h' TI (.ref i1) (.ref i2)->IsPair h' TO x y->S1 (k+1) h'->S2 (k+1) h'->IsPair h' s.heap.objs.size x y->
   (∀c o,c∉[z,TO,i1,i2]->s.heap.get? c=some o->h'.get? c=some o)->Q (.ref s.heap.objs.size) { s with heap:=h',toks:=tk }):
  wpAny (model prog w) A (Builtin.«zip.__next__» ⟨[.ref z],[]⟩) (fun fin s'=>∃v,fin=.done (.ret v)/\Q v s') E s:=by
 unfold Builtin.«zip.__next__»
 refine wpAny_bind (wpAny_of_eq (a:=(Value.ref z,[])) rfl (wpAny_bind (wpAny_field hz rfl (x:=.bool false) rfl (wpAny_bind (wpAny_field hz rfl (x:=.ref TI) rfl (wpAny_bind (wpAny_seqItems hTI rfl ?_)))))))
 refine wpAny_ite_false (by simp) (wpAny_bind ?_)
 unfold Builtin.SmallTypes.ownedTupleIsFree
 refine wpAny_bind (wpAny_field hz rfl (x:=.none) rfl (wpAny_pure (wpAny_ite_true (by decide) (wpAny_bind (wpAny_rule (wpAny_bind (wpAny_field hz rfl (x:=.ref TO) rfl (wpAny_bind (wpAny_setField_rec hz (by simp) fun g1 z1 c1=>?_)))))))))
 have k1:Keep [z,TO,i1,i2] s.heap g1:=.one c1 (by simp)
 have S1f:∀{j:Nat} {g g':Heap},(∀c o,c∉[z,TO,i1,i2]->g.get? c=some o->g'.get? c=some o)->S1 j g->(∀o,g.get? i1=some o->g'.get? i1=some o)->S1 j g':=fun k st e=>D1.frame _ _ _ st fun c hc=>by
  rcases m1 c hc with rfl | hn
  ·exact e
  ·exact fun o q=>k c o hn q
 have S2f:∀{j:Nat} {g g':Heap},(∀c o,c∉[z,TO,i1,i2]->g.get? c=some o->g'.get? c=some o)->S2 j g->(∀o,g.get? i2=some o->g'.get? i2=some o)->S2 j g':=fun k st e=>D2.frame _ _ _ st fun c hc=>by
  rcases m2 c hc with rfl | hn
  ·exact e
  ·exact fun o q=>k c o hn q
 simp only [List.zipIdx_cons,List.zipIdx_nil,List.forIn_cons,List.forIn_nil]
 refine wpAny_bind (wpAny_bind (wpAny_bind (wpAny_onRaise (wpAny_bind (m:=Builtin.SmallTypes.nextOf (.ref i1)) (D1.item k _ _ _ l1 (S1f k1.2 h1 fun o e=>(c1.2 i1 ap.i1z).trans e) fun x g2 t2 p1 d1 c2=>wpAny_pure ?_)))))
 have o2:IsPair g2 TO a b:=(c2.2 TO ap.TOi1).trans ((c1.2 TO ap.TOz).trans hTO)
 refine wpAny_bind (wpAny_seqItems o2 rfl (wpAny_bind (wpAny_updateSeq_pair o2 fun g3 o3 c3=>wpAny_bind (wpAny_letGo (wpAny_pure (wpAny_bind (wpAny_bind (wpAny_onRaise (wpAny_bind (m:=Builtin.SmallTypes.nextOf (.ref i2)) (D2.item k _ _ _ l2 (S2f ((k1.trans (.one c2 (by simp))).trans (.one c3 (by simp))).2 h2 fun o e=>?_) fun y g4 t4 p2 d2 c4=>wpAny_pure ?_))))))))))
 ·exact (c3.2 i2 ap.TOi2.symm).trans ((c2.2 i2 ap.i12.symm).trans ((c1.2 i2 ap.i2z).trans e))
 have o4:IsPair g4 TO x b:=(c4.2 TO ap.TOi2).trans o3
 refine wpAny_bind (wpAny_seqItems o4 rfl (wpAny_bind (wpAny_updateSeq_pair o4 fun g5 o5 c5=>wpAny_bind (wpAny_letGo (wpAny_pure (wpAny_pure ?_))))))
 replace o5:IsPair g5 TO x y:=o5
 have k5:Keep [z,TO,i1,i2] s.heap g5:=(((k1.trans (.one c2 (by simp))).trans (.one c3 (by simp))).trans (.one c4 (by simp))).trans (.one c5 (by simp))
 have z5:IsZip g5 z TI TO .ellipsis:=(c5.2 z ap.TOz.symm).trans ((c4.2 z ap.i2z.symm).trans ((c3.2 z ap.TOz.symm).trans ((c2.2 z ap.i1z.symm).trans z1)))
 have st1:S1 (k+1) g5:=S1f (((Keep.one (S:=[z,TO,i1,i2]) c3 (by simp)).trans (.one c4 (by simp))).trans (.one c5 (by simp))).2 d1 fun o e=>(c5.2 i1 ap.TOi1.symm).trans ((c4.2 i1 ap.i12).trans ((c3.2 i1 ap.TOi1.symm).trans e))
 have st2:S2 (k+1) g5:=S2f (Keep.one (S:=[z,TO,i1,i2]) c5 (by simp)).2 d2 fun o e=>(c5.2 i2 ap.TOi2.symm).trans e
 refine wpAny_bind (wpAny_seqItems o5 rfl (wpAny_bind (wpAny_newTuple ?_)))
 unfold Builtin.SmallTypes.ownedTupleHandOut
 have z6:IsZip (g5.push { cls:=.type "tuple",data:=.seq #[x,y] }) z TI TO .ellipsis:=Heap.get?_push_of_some _ z5
 refine wpAny_bind (wpAny_bind (wpAny_setField_rec z6 (by simp) fun g7 z7 c7=>?_))
 replace z7:IsZip g7 z TI TO (rawInt g5.objs.size):=z7
 refine wpAny_setField_rec z7 (by simp) fun g8 z8 c8=>wpAny_pure ⟨_,rfl,?_⟩
 replace z8:IsZip g8 z TI TO (rawInt g5.objs.size):=z8
 have up:∀c o,c≠z->g5.get? c=some o->g8.get? c=some o:=fun c o hc e=>(c8.2 c hc).trans ((c7.2 c hc).trans (Heap.get?_push_of_some _ e))
 have zlt:g5.objs.size≠z:=Nat.ne_of_gt (Heap.lt_size z5)
 have new:IsPair g8 g5.objs.size x y:=(c8.2 _ zlt).trans ((c7.2 _ zlt).trans (Heap.get?_push_size _ rfl))
 have sz:g5.objs.size=s.heap.objs.size:=k5.1
 have ti5:IsPair g5 TI (.ref i1) (.ref i2):=k5.2 TI _ (by simp [ap.TIz,ap.TITO,ap.TIi1,ap.TIi2]) hTI
 show Q (.ref g5.objs.size) _
 rw [sz] at z8 new ⊢
 exact hQ x y g8 t4 p1 p2 z8 (up _ _ ap.TIz ti5) (up _ _ ap.TOz o5) (S1f (fun c o hc e=>up c o (fun q=>hc (by simp [q])) e) st1 fun o e=>up _ o ap.i1z e) (S2f (fun c o hc e=>up c o (fun q=>hc (by simp [q])) e) st2 fun o e=>up _ o ap.i2z e) new fun c o hc e=>up c o (fun q=>hc (by simp [q])) (k5.2 c o hc e)
theorem endedL (D1:Draws prog w A i1 f1 n1 P1 S1) (D2:Draws prog w A i2 f2 n2 P2 S2) (m1:∀c∈f1,c=i1\/c∉[z,TO,i1,i2]) (m2:∀c∈f2,c=i2\/c∉[z,TO,i1,i2]) (ap:ZipApart z TI TO i1 i2 TI TI) (hz:IsZip s.heap z TI TO .none) (hTI:IsPair s.heap TI (.ref i1) (.ref i2)) (hTO:IsPair s.heap TO a b)
  (h1:S1 k s.heap) (h2:S2 k s.heap) (hend:k=n1\/(k<n1/\k=n2))
  (hE:∀h' e tk,(∀c o,c∉[z,TO,i1,i2]->s.heap.get? c=some o->h'.get? c=some o)->(∃o,h'.get? e=some o/\o.cls=.type "StopIteration")->E (.ref e) { s with heap:=h',toks:=tk }):
  wpAny (model prog w) A (Builtin.«zip.__next__» ⟨[.ref z],[]⟩) Q E s:=by
 unfold Builtin.«zip.__next__»
 refine wpAny_bind (wpAny_of_eq (a:=(Value.ref z,[])) rfl (wpAny_bind (wpAny_field hz rfl (x:=.bool false) rfl (wpAny_bind (wpAny_field hz rfl (x:=.ref TI) rfl (wpAny_bind (wpAny_seqItems hTI rfl (wpAny_ite_false (by simp) (wpAny_bind ?_)))))))))
 unfold Builtin.SmallTypes.ownedTupleIsFree
 refine wpAny_bind (wpAny_field hz rfl (x:=.none) rfl (wpAny_pure (wpAny_ite_true (by decide) (wpAny_bind (wpAny_rule (wpAny_bind (wpAny_field hz rfl (x:=.ref TO) rfl (wpAny_bind (wpAny_setField_rec hz (by simp) fun g1 z1 c1=>?_)))))))))
 have k1:Keep [z,TO,i1,i2] s.heap g1:=.one c1 (by simp)
 have S1f:∀{j:Nat} {g g':Heap},(∀c o,c∉[z,TO,i1,i2]->g.get? c=some o->g'.get? c=some o)->S1 j g->(∀o,g.get? i1=some o->g'.get? i1=some o)->S1 j g':=fun k st e=>D1.frame _ _ _ st fun c hc=>by
  rcases m1 c hc with rfl | hn
  ·exact e
  ·exact fun o q=>k c o hn q
 have S2f:∀{j:Nat} {g g':Heap},(∀c o,c∉[z,TO,i1,i2]->g.get? c=some o->g'.get? c=some o)->S2 j g->(∀o,g.get? i2=some o->g'.get? i2=some o)->S2 j g':=fun k st e=>D2.frame _ _ _ st fun c hc=>by
  rcases m2 c hc with rfl | hn
  ·exact e
  ·exact fun o q=>k c o hn q
 have s1:S1 k g1:=S1f k1.2 h1 fun o e=>(c1.2 i1 ap.i1z).trans e
 have out:∀(it:Addr) (g g':Heap) (e:Addr) (tk:Nat),it=i1\/it=i2->Keep [z,TO,i1,i2] s.heap g->IsZip g z TI TO .ellipsis->Heap.ExtBut it g g'->(∃o,g'.get? e=some o/\o.cls=.type "StopIteration")->
   wpAny (model prog w) A (setField (.ref z) 0 .none) (fun _ s'=>E (.ref e) s') E { s with heap:=g',toks:=tk }:=fun it g g' e tk hit hk hg hx he=>by
  obtain ⟨oe,he,ce⟩:=he
  have zit:z≠it:=by rcases hit with q | q <;> rw [q];exact ap.i1z.symm;exact ap.i2z.symm
  have zg:IsZip g' z TI TO .ellipsis:=hx z _ zit hg
  have ez:e≠z:=fun q=>by
   rw [q] at he
   have:=congrArg (Option.map Obj.cls) (he.symm.trans zg)
   rw [Option.map_some,Option.map_some,ce] at this
   exact absurd (show Value.type "StopIteration"=Value.type "zip" from Option.some.inj this) (by decide)
  refine wpAny_setField_rec (s:={ s with heap:=g',toks:=tk }) zg (by simp) fun g2 _ c2=>hE g2 e tk (fun c o hc q=>?_) ⟨oe,(c2.2 e ez).trans he,ce⟩
  refine (c2.2 c fun r=>hc (by simp [r])).trans (hx c o (fun r=>hc ?_) (hk.2 c o hc q))
  rcases hit with q | q <;> rw [r,q] <;> simp
 simp only [List.zipIdx_cons,List.zipIdx_nil,List.forIn_cons,List.forIn_nil]
 rcases hend with rfl | ⟨hlt,rfl⟩
 ·refine wpAny_bind (wpAny_bind (wpAny_bind (wpAny_onRaise (wpAny_bind (m:=Builtin.SmallTypes.nextOf (.ref i1)) (D1.done _ _ _ s1 fun g2 e x2 he=>?_)))))
  exact out i1 g1 g2 e s.toks (.inl rfl) k1 z1 x2 he
 ·refine wpAny_bind (wpAny_bind (wpAny_bind (wpAny_onRaise (wpAny_bind (m:=Builtin.SmallTypes.nextOf (.ref i1)) (D1.item k _ _ _ hlt s1 fun x g2 t2 p1 d1 c2=>wpAny_pure ?_)))))
  have o2:IsPair g2 TO a b:=(c2.2 TO ap.TOi1).trans ((c1.2 TO ap.TOz).trans hTO)
  refine wpAny_bind (wpAny_seqItems o2 rfl (wpAny_bind (wpAny_updateSeq_pair o2 fun g3 o3 c3=>wpAny_bind (wpAny_letGo (wpAny_pure (wpAny_bind (wpAny_bind (wpAny_onRaise (wpAny_bind (m:=Builtin.SmallTypes.nextOf (.ref i2)) (D2.done _ _ _ (S2f ((k1.trans (.one c2 (by simp))).trans (.one c3 (by simp))).2 h2 fun o e=>?_) fun g4 e x4 he=>?_))))))))))
  ·exact (c3.2 i2 ap.TOi2.symm).trans ((c2.2 i2 ap.i12.symm).trans ((c1.2 i2 ap.i2z).trans e))
  ·exact out i2 g3 g4 e t2 (.inr rfl) ((k1.trans (.one c2 (by simp))).trans (.one c3 (by simp))) ((c3.2 z ap.TOz.symm).trans ((c2.2 z ap.i1z.symm).trans z1)) x4 he
end
section
variable {prog:Program} {w:World} {A:Around} {E:Value->Shared->Prop} {s:Shared} {z TI TO i1 i2:Addr} {n1 n2 k:Nat} {P1 P2:Nat->Value->Prop} {S1 S2:Nat->Heap->Prop} {a b:Value}
def strIt (x:Str) (t:Tok):Obj:={ cls:=.type (if x.cps.all (· < 128) then "str_ascii_iterator" else "str_iterator"),data:=.fields #[.str x t,.int 0 0] }
theorem iter_text (h:Q (.ref s.heap.objs.size) { s with heap:=s.heap.push (strIt x t) }):wpAny (model prog w) A (pyIter (.str x t)) Q E s:=by
 unfold strIt at h
 cases e:x.cps.all (· < 128) <;> rw [e] at h
 ·exact wpAny_pyIter_wide e h
 ·exact wpAny_pyIter_ascii e h
def strAt (x:Str) (t:Tok) (it:Addr) (i:Nat) (h:Heap):Prop:=h.IsStrIter it (if x.cps.all (· < 128) then "str_ascii_iterator" else "str_iterator") x t i
theorem draws (hh:A.handled=none) (it:Addr) (x:Str) (t:Tok):Draws prog w A it [it] x.cps.size (fun i v=>∃c u,x.cps[i]?=some c/\v=.str ⟨#[c]⟩ u) (strAt x t it):=by
 unfold strAt
 cases x.cps.all (· < 128)
 ·exact Draws.strWide hh it x t
 ·exact Draws.strAscii hh it x t
end
end ZP
end L2
namespace L2
open PySem PySem.Spec PyProof.Rows
section
variable {X:Cx} {pins:List (Addr×Obj)} {σ:St} {H:Hp} {s:Shared} {h':Heap}
theorem tracked_off {S:List Addr} (f:∀b∈S,H b=none) (e:H b=some u):b∉S:=fun hb=>by rw [f b hb] at e;cases e
theorem Inv.turnedL {S:List Addr} (I:Inv X pins σ H s) (k:∀b o,b∉S->s.heap.get? b=some o->h'.get? b=some o) (f:∀b∈S,FpOk X pins H b):Inv X pins σ H { s with heap:=h',toks:=t' }:=by
 refine I.call (g':=s.gens) (d':=s.drawn) (ch:=S) ⟨fun b o e _ _ hc=>k b o hc e,fun b o e _ _ hc=>⟨o.slots,k b o hc e⟩,fun _ _ _ n _=>n,fun b o e hc=>⟨o,k b o hc e⟩,fun _ _ e=>e,fun _ _ _ e=>e,fun _ ps e=>⟨#[],by rw [e];simp⟩⟩
  (fun b u e=>(I.hok b u e).stay (fun c v hc q=>k c v ?_ q) (fun _ q=>q) fun _ _ q=>q) I.bare fun b hb=>⟨(f b hb).2.2.2.1,(f b hb).2.1,(f b hb).2.2.2.2.1,(f b hb).2.2.2.2.2⟩
 rcases hc with z | z
 ·rw [z];exact tracked_off (fun b hb=>(f b hb).1) e
 ·exact tracked_off (fun b hb=>(f b hb).1) z
theorem Inv.turnedNew {S:List Addr} {t':Nat} {o:HO} (I:Inv X pins σ H s) (k:∀b o,b∉S->s.heap.get? b=some o->h'.get? b=some o) (f:∀b∈S,FpOk X pins H b)
  (new:a_V X.prog X.w (upd H s.heap.objs.size o) h' s.heap.objs.size o):Inv X pins σ (upd H s.heap.objs.size o) { s with heap:=h',toks:=t' }:=by
 have fr:H s.heap.objs.size=none:=I.hok.fresh (Nat.le_refl _)
 have ne:∀b u,H b=some u->b≠s.heap.objs.size:=fun b u e=>ne_of_none e fr
 refine I.call (g':=s.gens) (d':=s.drawn) (ch:=S) ⟨fun b o e _ _ hc=>k b o hc e,fun b o e _ _ hc=>⟨o.slots,k b o hc e⟩,fun b o e n _=>?_,fun b o e hc=>⟨o,k b o hc e⟩,fun b xs e=>by rw [upd_ne (ne b _ e)];exact e,fun b o u e=>by rw [upd_ne (ne b _ e)];exact e,fun b ps e=>⟨#[],by rw [upd_ne (ne b _ e),e];simp⟩⟩
  (fun b u e=>?_) I.bare fun b hb=>⟨(f b hb).2.2.2.1,(f b hb).2.1,(f b hb).2.2.2.2.1,(f b hb).2.2.2.2.2⟩
 ·rw [upd_ne (Nat.ne_of_lt (Heap.lt_size e))]
  exact n
 ·by_cases hb:b=s.heap.objs.size
  ·subst hb
   rw [upd_same] at e
   cases e
   exact new
  ·rw [upd_ne hb] at e
   refine (I.hok b u e).stay (fun c v hc q=>k c v ?_ q) (fun c q=>by rw [upd_ne (ne c _ q)];exact q) fun c xs q=>by rw [upd_ne (ne c _ q)];exact q
   rcases hc with z | z
   ·rw [z];exact tracked_off (fun b hb=>(f b hb).1) e
   ·exact tracked_off (fun b hb=>(f b hb).1) z
end
def Gent {α:Type}:Sem α->Prop
 | .pure _=>True
 | .raise _=>True
 | .unsupported _=>True
 | .load _ _ k=>∀o,Gent (k o)
 | .update _ _ f k=>(∀o,(f o).dict=o.dict)/\Gent (k ())
 | .alloc _ k=>∀a,Gent (k a)
 | .stack k=>∀a,Gent (k a)
 | .ask k=>∀a,Gent (k a)
 | .handled _ k=>∀a,Gent (k a)
 | _=>False
def DK (h h':Heap):Prop:=∀(b:Addr) (o:Obj),h.objs[b]?=some o->∃o',h'.objs[b]?=some o'/\o'.dict=o.dict
theorem DK.refl:DK h h:=fun _ o e=>⟨o,e,rfl⟩
theorem DK.trans (a:DK h h1) (b:DK h1 h2):DK h h2:=fun x o e=>let ⟨_,e1,d1⟩:=a x o e;let ⟨o2,e2,d2⟩:=b x _ e1;⟨o2,e2,d2.trans d1⟩
theorem gent_bind {f:α->Sem β} (hf:∀a,Gent (f a)):∀{t:Sem α},Gent t->Gent (t >>= f):=by
 intro t
 show Gent t->Gent (Sem.bind t f)
 induction t with
 | pure a=>exact fun _=>hf a
 | raise=>exact id
 | unsupported=>exact id
 | load a p k ih=>exact fun h o=>ih o (h o)
 | update a p g k ih=>exact fun h=>⟨h.1,ih () h.2⟩
 | alloc o k ih=>exact fun h a=>ih a (h a)
 | stack k ih=>exact fun h a=>ih a (h a)
 | ask k ih=>exact fun h a=>ih a (h a)
 | handled o k ih=>exact fun h a=>ih a (h a)
 | _=>exact fun h=>h.elim
theorem gent_wp {Q:α->Pos->Shared->Prop}:∀(t:Sem α) (p:Pos) (s:Shared),Gent t->DK h0 s.heap->Sem.wp M Γ t (fun a p s'=>DK h0 s'.heap->Q a p s') E p s->Sem.wp M Γ t Q E p s:=by
 intro t
 induction t with
 | pure a=>exact fun p s _ d h=>h d
 | raise=>exact fun p s _ d h=>h
 | unsupported=>exact fun p s _ d h=>h
 | load a q k ih=>exact fun p s g d ⟨o,e,h⟩=>⟨o,e,ih o p s (g o) d h⟩
 | update a q f k ih=>
  refine fun p s g d ⟨e,h⟩=>⟨e,ih () p _ g.2 (d.trans fun b o z=>?_) h⟩
  show ∃o',(s.heap.objs.modify a f)[b]?=some o'/\_
  rw [Array.getElem?_modify]
  split
  ·rw [z];exact ⟨f o,rfl,g.1 o⟩
  ·exact ⟨o,z,rfl⟩
 | alloc o k ih=>
  refine fun p s g d h=>ih _ p _ (g _) (d.trans fun b u z=>⟨u,?_,rfl⟩) h
  show (s.heap.objs.push o)[b]?=some u
  rw [Array.getElem?_push,if_neg (Nat.ne_of_lt (Array.getElem?_eq_some_iff.mp z).1)]
  exact z
 | stack k ih=>exact fun p s g d h=>ih _ p s (g _) d h
 | ask k ih=>exact fun p s g d h=>ih _ p s (g _) d h
 | handled o k ih=>exact fun p s g d h=>ih _ p s (g _) d h
 | _=>exact fun p s g=>g.elim
theorem gent_use {t:Sem α} {Q:α->Shared->Prop} (g:Gent t) (h:wpAny M A t (fun a s'=>DK s.heap s'.heap->Q a s') E s):wpAny M A t Q E s:=
 fun Γ p hA=>gent_wp t p s g .refl (h Γ p hA)
theorem gent_update (h:∀o,(f o).dict=o.dict):Gent (update a f):=⟨h,True.intro⟩
theorem e_h (a:Addr):Gent (load a):=fun _=>True.intro
theorem gent_stack:Gent stack:=fun _=>True.intro
theorem gent_field (v:Value) (i:Nat):Gent (field v i):=by
 unfold field fieldsOf
 refine gent_bind (fun a=>by split <;> exact True.intro) ?_
 split
 ·refine gent_bind (fun o=>by split <;> exact True.intro) (e_h _)
 ·exact True.intro
theorem gent_set (v:Value) (i:Nat) (x:Value):Gent (setField v i x):=by
 unfold setField updateField
 split
 ·refine gent_bind (fun o=>?_) (e_h _)
  split
  ·split
   ·exact ⟨fun o=>by unfold Obj.mapFields;split <;> rfl,True.intro⟩
   ·exact True.intro
  ·exact True.intro
 ·exact True.intro
theorem gent_flight (e:Value) (f:Option Addr):Gent (setFlight e f):=by
 unfold setFlight
 exact gent_bind (fun a=>by split;exact gent_set _ _ _;exact True.intro) (gent_field _ _)
theorem e_K:∀l:List Env,Gent (readyFrames l)
 | []=>True.intro
 | env::r=>by
  unfold readyFrames
  split
  ·refine gent_bind (fun o=>?_) (e_h _)
   split
   ·exact True.intro
   ·refine gent_bind (fun b=>gent_bind (fun v=>gent_bind (fun _=>e_K r) ?_) ?_) ?_
    ·exact gent_update fun _=>rfl
    ·unfold keptBack
     split
     ·split
      ·exact True.intro
      ·refine gent_bind (fun _=>?_) ?_
       ·exact True.intro
       unfold underTheClaimsCaller
       exact gent_bind (fun _=>by first | exact True.intro | (split <;> exact True.intro)) gent_stack
     ·exact True.intro
    ·unfold behindIsImport
     split
     ·exact True.intro
     ·split
      ·exact True.intro
      ·refine gent_bind (fun _=>?_) (gent_field _ _)
       exact True.intro
  ·exact True.intro
theorem gent_new (T:String) (vs:List Value):Gent (newFields T vs):=by
 unfold newFields newObj newObjAsIs
 dsimp only
 split
 ·exact True.intro
 ·refine gent_bind (fun a=>?_) ?_
  ·exact True.intro
  ·exact fun _=>True.intro
theorem gent_note (e:Value) (env:Env):Gent (noteFrame e env):=by
 unfold noteFrame
 split
 ·refine gent_bind (fun h=>?_) (gent_field _ _)
  have rest:∀b:Bool,Gent (do setField e 1 (<- EntryCells.newEntry h (<- PySem.frameOf env) .none (rawInt ‹Addr›) .none (<- entryPlaceOf ‹Addr› b))):=fun b=>by
   refine gent_bind (fun fr=>gent_bind (fun pl=>gent_bind (fun x=>gent_set _ _ _) ?_) ?_) ?_
   ·exact gent_new _ _
   ·unfold entryPlaceOf
    refine gent_bind (fun a=>by split <;> exact True.intro) gent_stack
   ·unfold PySem.frameOf frameEnvs
    refine gent_bind (fun fe=>gent_bind (fun o=>by split <;> exact True.intro) ?_) (gent_bind (fun _=>?_) gent_stack)
    rotate_left
    ·exact True.intro
    unfold frameObject
    split
    ·exact True.intro
    ·refine gent_bind (fun _=>?_) (e_K _)
     exact True.intro
  split
  ·refine gent_bind (fun x=>?_) (gent_field _ _)
   split
   ·exact True.intro
   ·exact gent_bind (fun _=>rest _) (gent_set _ _ _)
  ·exact rest _
 ·exact True.intro
theorem gent_leaving (env:Env) (e:Value):Gent (leaving env e):=gent_bind (fun _=>gent_flight _ _) (gent_note _ _)
def Fly (h:Heap) (e T:Addr) (cls a0:Value) (d:Option Addr):Prop:=
 ∃oe vs oT ts,h.get? e=some oe/\(oe.cls=cls/\vs[0]?=some a0)/\oe.data=.fields vs/\vs[1]?=some (.ref T)/\T≠e/\h.get? T=some oT/\oT.data=.fields ts/\ts[3]?=some .none/\∀x,d=some x->oe.dict=some x
theorem Fly.traced (x:Fly h e T cls a0 d) (n:base.get? T=none):h.TracedW base e cls a0:=by
 obtain ⟨oe,vs,oT,ts,h1,h2,h3,h4,h5,h6,h7,h8,_⟩:=x
 exact ⟨oe,vs,T,oT,ts,h1,h2,h3,h4,n,h5,h6,h7,h8⟩
theorem fly_of (x:h.TracedW base e cls a0):∃T,base.get? T=none/\Fly h e T cls a0 none:=by
 obtain ⟨oe,vs,T,oT,ts,h1,h2,h3,h4,n,h5,h6,h7,h8⟩:=x
 exact ⟨T,n,oe,vs,oT,ts,h1,h2,h3,h4,h5,h6,h7,h8,fun _ z=>nomatch z⟩
theorem objs_of {h:Heap} (e:h.get? a=some o):h.objs[a]?=some o:=by
 unfold Heap.get? at e
 split at e
 ·cases e
 ·exact e
theorem Fly.up (f:Fly h' e T cls a0 none) (k:DK h h') (g:h.get? e=some o) (gd:∀x,d=some x->o.dict=some x):Fly h' e T cls a0 d:=by
 obtain ⟨oe,vs,oT,ts,h1,h2,h3,h4,h5,h6,h7,h8,_⟩:=f
 obtain ⟨o',e1,e2⟩:=k e o (objs_of g)
 rw [objs_of h1] at e1
 cases e1
 exact ⟨oe,vs,oT,ts,h1,h2,h3,h4,h5,h6,h7,h8,fun x z=>e2.trans (gd x z)⟩
def CXE (P:Program) (w:World):CXT:=fun outer H s E ev s'=>∃(e T:Addr) (C a0:Value) (dd:Option Addr) (H':Hp),ev=.ref e/\s'.os=s.os/\AllBare s'.gens/\Un (frs outer) [] H H' s.heap s'.heap/\HOk P w H' s'.heap/\
 s.heap.get? e=none/\s.heap.get? T=none/\H' e=none/\H' T=none/\Fly s'.heap e T C a0 dd/\E C dd H'
theorem c_c {h base:Heap} {hid:List Addr}:∀{l:List Env},h.FunFrames base l->(∀b∈frs l,b∈hid)->h.FunFrames (PySem.W.hideAll h hid) l
 | [],_,_=>trivial
 | env::r,hl,hs=>by
  obtain ⟨hk,⟨L,o,hf,hn,ho,hd⟩,hr⟩:=hl
  have e:frs (env::r)=L::frs r:=by unfold frs;rw [List.filterMap_cons,hf]
  exact ⟨hk,⟨L,o,hf,PySem.W.hideAll_none _ (hs L (by rw [e];exact List.mem_cons_self)),ho,hd⟩,c_c hr fun b hb=>hs b (by rw [e];exact List.mem_cons_of_mem _ hb)⟩
theorem c_o {h base:Heap}:∀{l:List Env},h.FunFrames base l->∀b∈frs l,∃o,h.get? b=some o/\∀vs,o.data≠.fields vs
 | env::r,hl,b,hb=>by
  obtain ⟨hk,⟨L,o,hf,hn,ho,hd⟩,hr⟩:=hl
  have e:frs (env::r)=L::frs r:=by unfold frs;rw [List.filterMap_cons,hf]
  rw [e] at hb
  rcases List.mem_cons.mp hb with rfl | hb
  ·exact ⟨o,ho,hd⟩
  ·exact c_o hr b hb
section
variable {X:Cx} {pins:List (Addr×Obj)} {σ:St} {H H':Hp} {s:Shared} {h1 h2:Heap}
theorem Inv.flown {S:List Addr} (I:Inv X pins σ H s) (un:Un (frs X.stack) [] H H' s.heap h1) (hok:HOk X.prog X.w H' h1) (dead:∀b∈S,s.heap.get? b=none) (off:∀b∈S,H' b=none)
  (keep:∀b o,h1.get? b=some o->b∉S->b∉frs X.stack->h2.get? b=some o) (up:h1.UpToSlots h2) (hg:AllBare g'):
  Inv X pins σ H' { s with heap:=h2,gens:=g',drawn:=d',toks:=t' }/\Un (frs X.stack) [] H H' s.heap h2/\HOk X.prog X.w H' h2:=by
 have live:∀b o,s.heap.get? b=some o->b∉S:=fun b o e hb=>by rw [dead b hb] at e;cases e
 have fr:∀b∈frs X.stack,∃o,s.heap.get? b=some o/\∀vs,o.data≠.fields vs:=c_o I.stack
 have frH:∀b∈frs X.stack,H' b=none:=fun b hb=>by
  obtain ⟨o,ho,_⟩:=fr b hb
  exact un.free b o ho (I.stkFree b hb) (by simp)
 have un2:Un (frs X.stack) [] H H' s.heap h2:=by
  refine ⟨fun b o e n hb hx=>keep b o (un.keep b o e n hb hx) (live b o e) hb,fun b o e n hb hx=>?_,un.free,fun b o e hx=>?_,un.tups,un.frzs,un.tbls⟩
  ·obtain ⟨sl,e1⟩:=un.slot b o e n hb hx
   obtain ⟨o',ho',hd⟩:=fr b hb
   rw [e] at ho'
   cases ho'
   obtain ⟨sl',e2⟩:=up b _ e1 hd
   exact ⟨sl',e2⟩
  ·obtain ⟨o1,e1⟩:=un.there b o e hx
   by_cases hb:b∈frs X.stack
   ·obtain ⟨o',ho',hd⟩:=fr b hb
    rw [e] at ho'
    cases ho'
    obtain ⟨sl,e2⟩:=un.slot b o e (I.stkFree b hb) hb hx
    obtain ⟨sl',e3⟩:=up b _ e2 hd
    exact ⟨_,e3⟩
   ·exact ⟨o1,keep b o1 e1 (live b o e) hb⟩
 have hok2:HOk X.prog X.w H' h2:=fun b u e=>(hok b u e).stay (fun c v hc q=>keep c v q (fun hm=>?_) fun hm=>?_) (fun _ q=>q) fun _ _ q=>q
 ·exact ⟨I.call (g':=g') (d':=d') (t':=t') (ch:=[]) un2 hok2 hg (fun _ z=>nomatch z),un2,hok2⟩
 ·rcases hc with rfl | hc
  ·rw [off c hm] at e;cases e
  ·rw [off c hm] at hc;cases hc
 ·rcases hc with rfl | hc
  ·rw [frH c hm] at e;cases e
  ·rw [frH c hm] at hc;cases hc
theorem dead0 (I:Inv X pins σ H s) (hx:X.ex=[]) (d:s.heap.get? b=none):X.s₀.heap.get? b=none:=by
 cases e:X.s₀.heap.get? b with
 | none=>rfl
 | some o=>
  obtain ⟨o',q⟩:=I.base.there b o e (by rw [hx];simp)
  rw [d] at q
  cases q
theorem off_dead (hok:HOk P w H h) (d:h.get? b=none):H b=none:=by
 cases e:H b with
 | none=>rfl
 | some u=>
  obtain ⟨o,q⟩:∃o,h.get? b=some o:=by
   have z:=hok b u e
   cases u with
   | lst=>obtain ⟨_,its,n,_,q⟩:=z;exact ⟨_,q⟩
   | tup=>obtain ⟨_,its,_,o,q,_⟩:=z;exact ⟨_,q⟩
   | dK=>obtain ⟨_,_,vs,_,o,es,ep,q,_⟩:=z;exact ⟨_,q⟩
   | dT=>obtain ⟨_,_,xs,_,o,es,ep,q,_⟩:=z;exact ⟨_,q⟩
   | set=>obtain ⟨o,es,ep,t,q,_⟩:=z;exact ⟨o,q⟩
   | ins=>obtain ⟨_,_,_,q,_⟩:=z;exact ⟨_,q⟩
   | own=>exact z
   | xd=>obtain ⟨mA,⟨o,es,ep,q,_⟩,_⟩:=z;exact ⟨o,q⟩
   | rng=>obtain ⟨t,u,v,q⟩:=z;exact ⟨_,q⟩
   | frz=>exact ⟨_,z.1⟩
   | tbl=>exact ⟨_,z⟩
   | met=>exact ⟨_,z⟩
   | ext=>exact z.2.1
  rw [d] at q
  cases q
theorem e_i (fl:Fly h e T cls a0 d) (hl:h.FunFrames base l):T∉frs l:=fun hm=>by
 obtain ⟨oe,vs,oT,ts,_,_,_,_,_,hT,hdT,_⟩:=fl
 obtain ⟨o,ho,hd⟩:=c_o hl T hm
 rw [hT] at ho
 cases ho
 exact hd ts hdT
end
section
variable {X:Cx} {E:XK}
theorem leave_on (hx:X.ex=[]) (hst:X.stack=X.env::X.outer) (hfr:X.env.frame=some X.env.locals) (hE:∀C d H,E' C d H->E C d H) {σ:St} (I:Inv X pins σ H s)
  (cx:CXE X.prog X.w X.stack H s E' ev s'):
  wpAny (model X.prog X.w) X.A (leaving X.env ev) (fun _ s''=>CXE X.prog X.w X.outer X.H₀ X.s₀ E ev s'') (fun e' s''=>CXE X.prog X.w X.outer X.H₀ X.s₀ E e' s'') s':=by
 obtain ⟨e,T,C,a0,dd,H',rfl,os,bare,un,hok,de,dT,he,hT,fT,q⟩:=cx
 obtain ⟨hh,g,d,tk,os'⟩:=s'
 obtain rfl:os'=s.os:=os
 have I1:Inv X pins σ H' { s with heap:=hh,gens:=g,drawn:=d,toks:=tk }:=I.call (g':=g) (d':=d) (t':=tk) (ch:=[]) un hok bare (fun _ z=>nomatch z)
 have stk:hh.FunFrames X.base (X.env::X.outer):=hst▸I1.stack
 have fl:Heap.FlyingW (PySem.W.hideAll hh (e::T::frs X.stack)) (X.env::X.outer) e C a0 hh:=
  ⟨fun b o z=>PySem.W.of_hideAll _ z,PySem.W.hideAll_none _ (by simp),c_c stk (by rw [<- hst];exact fun b z=>List.mem_cons_of_mem _ (List.mem_cons_of_mem _ z)),fT.traced (PySem.W.hideAll_none _ (by simp))⟩
 refine gent_use (s:=⟨hh,g,d,tk,s.os⟩) (gent_leaving _ _) (wpAny_leaves_onW (s:=⟨hh,g,d,tk,s.os⟩) (by rw [<- hst];exact I.ok.frames) hfr fl fun h' fl' up dk=>?_)
 have kept:∀b o,hh.get? b=some o->b∉[e,T]->b∉frs X.stack->h'.get? b=some o:=fun b o z hS hb=>fl'.1 b o (PySem.W.hideAll_get _ z fun hm=>by
  rcases List.mem_cons.mp hm with y | hm
  ·exact hS (by rw [y];simp)
  ·rcases List.mem_cons.mp hm with y | hm
   ·exact hS (by rw [y];simp)
   ·exact hb hm)
 obtain ⟨I2,un2,hok2⟩:=I.flown (H':=H') (h1:=hh) (h2:=h') (g':=g) (d':=d) (t':=tk) (S:=[e,T]) un hok (fun b hb=>by rcases List.mem_cons.mp hb with z | z;rw [z];exact de;rw [List.mem_singleton.mp z];exact dT)
  (fun b hb=>by rcases List.mem_cons.mp hb with z | z;rw [z];exact he;rw [List.mem_singleton.mp z];exact hT) kept up bare
 obtain ⟨T',nT,fT'⟩:=fly_of fl'.2.2.2
 have dT':s.heap.get? T'=none/\H' T'=none:=by
  cases z:hh.get? T' with
  | none=>
   refine ⟨?_,off_dead hok z⟩
   cases y:s.heap.get? T' with
   | none=>rfl
   | some o=>
    obtain ⟨o',r⟩:=un.there T' o y (by simp)
    rw [z] at r
    cases r
  | some o=>
   by_cases hTT:T'=T
   ·rw [hTT];exact ⟨dT,hT⟩
   ·have hTe:T'≠e:=by obtain ⟨_,_,_,_,_,_,_,_,z,_⟩:=fT';exact z
    have hTf:=e_i fT' I2.stack
    rw [PySem.W.hideAll_get _ z (by simp [hTT,hTe,hTf])] at nT
    cases nT
 have ub:=I2.base
 rw [hx] at ub
 obtain ⟨oe,_,_,_,g1,_,_,_,_,_,_,_,g2⟩:=fT
 exact ⟨e,T',C,a0,dd,H',rfl,I2.os,bare,ub,hok2,dead0 I hx de,dead0 I hx dT'.1,he,dT'.2,fT'.up dk g1 g2,hE _ _ _ q⟩
end
section
variable {X:Cx}
end
def OwnX (K:PySem.W.Frag) (C:Addr):Prop:=PySem.W.excIn K C [.type "ValueError",.type "Exception",.type "BaseException",.type "object"] "ValueError.__new__"=true
section
variable {P:Program} {w:World} {K:PySem.W.Frag} {mg:Str->Option Value} {base:Heap} {N:List Str} {qual:Str} {scope:Scope} {f:Addr} {cd:Value} {A:Around} {outer:List Env} {s:Shared} {H:Hp} {E:XK}
theorem d_s (hE:∀C d H,E' C d H->E C d H):d_h (CXE P w) (cxOf (CXE P w) P w K mg base N qual scope f cd A outer s H E) E':=fun pins σ H1 s1 ev s' I cx=>leave_on (X:=cxOf (CXE P w) P w K mg base N qual scope f cd A outer s H E) rfl rfl rfl hE I cx
end
theorem Fun.okX {P:Program} {w:World} {K:PySem.W.Frag} {st:Stmt} (F:Fun K x qual st f fd) (S:a_l N ps (a_c st)) (len:∀vs H Q E,sp vs H Q E->vs.length=ps.length)
  (hbody:∀(cdv:Value) (A:Around) (outer:List Env) (s:Shared) (H:Hp) (vs:List V) (Q:VK) (E:XK),Room k (A.deeper (envOfC qual (a_c st) s.heap.objs.size f cdv))->sp vs H Q E->
   ∃t,PSs (cxOf (CXE P w) P w K mg base N qual (a_c st) f cdv A outer s H E) (a_g st) t/\t { nx:=fun _ H'=>Q .non H',rt:=Q } (start N vs) H):FnOk P w K mg base (CXE P w) (k+1) f fd ps sp:=by
 obtain ⟨oc,od,kV,doc,pm,an,cdv,ct,osl,rfl,lk,hcd⟩:=F.ex
 exact fn_of lk hcd S len fun A outer s H vs Q E hr hsp=>hbody cdv A outer s H vs Q E hr hsp
def DfX (P:Program) (w:World) (K:PySem.W.Frag) (mg:Str->Option Value) (base:Heap) (x:Str) (k:Nat) (ps:List Str) (sp:Sp):Prop:=
 ∃(f:Addr) (fd:FuncData),mg x=some (.ref f)/\PySem.W.keepIn K (.ref f)=true/\c_D K fd ps []/\FnOk P w K mg base (CXE P w) k f fd ps sp
theorem pe_dfX {X:Cx} {p pos:Pos} (D:DfX X.prog X.w X.K X.mg X.base x k ps sp) (hr:Room k X.A) (hp:d_h (CXE X.prog X.w) X E) (ha:PA X (e::es) t)
  (hg:Gl X x:=by rfl) (hdb:(x==("__debug__":Str))=false:=by decide) (he:starEach (e::es) X.env=(false,eval e X.env)::starEach es X.env:=by rfl) (hpl:(backTo pos (starEach es X.env)).any (·.1)=false:=by rfl):
  PE X (.Call (.Name x p) (e::es) [] pos) (c_t sp [] E t):=by
 obtain ⟨f,fd,h1,h2,h3,F⟩:=D
 exact pe_call F hr hg h1 h2 h3 .nil hp ha hdb he hpl
abbrev Cx.held (X:Cx) (v:Value):Cx:={ X with A:=X.A.mark (some v),calm:=false,xe:=fun _ _=>False }
section
variable {X:Cx} {pins:List (Addr×Obj)} {σ:St} {H:Hp} {s:Shared}
theorem Inv.held (I:Inv X pins σ H s) (v:Value):Inv (X.held v) pins σ H s:=
 ⟨⟨I.ok.mod,I.ok.kind,I.ok.glob,I.ok.blt,I.ok.above,I.ok.inj,I.ok.has,I.ok.cab,fun z=>Bool.noConfusion z,I.ok.frames,I.ok.stk,I.ok.exf,I.ok.bs,I.ok.bsz,I.ok.noex,I.ok.exfs,I.ok.funs,I.ok.frf⟩,I.os,I.bare,I.base,I.loc,I.cell,I.free,I.freeC,I.pin,I.hok,I.len⟩
theorem Inv.unheld (I:Inv (X.held v) pins σ H s) (ok:X.Ok):Inv X pins σ H s:=⟨ok,I.os,I.bare,I.base,I.loc,I.cell,I.free,I.freeC,I.pin,I.hok,I.len⟩
theorem Inv.track (I:Inv X pins σ H s) (hn:H e=none) (d0:X.s₀.heap.get? e=none) (nL:X.env.locals≠e) (nC:∀x c,X.env.cells.lookup x=some c->c≠e) (nP:∀p∈X.pn++pins,p.1≠e) (hx:φ s.heap)
  (there:∃o,s.heap.get? e=some o) (st:∀h1 h2:Heap,φ h1->(∀o,h1.get? e=some o->h2.get? e=some o)->φ h2):Inv X pins σ (upd H e (.ext φ)) s:=by
 have ne:∀b u,H b=some u->b≠e:=fun b u q=>ne_of_none q hn
 have old:∀b o,X.s₀.heap.get? b=some o->b≠e:=fun b o q z=>by rw [z,d0] at q;cases q
 refine ⟨I.ok,I.os,I.bare,⟨I.base.keep,I.base.slot,fun b o q n hb=>?_,I.base.there,fun b xs q=>?_,fun b o u q=>?_,fun b ps q=>?_⟩,I.loc,I.cell,?_,fun x c q=>?_,fun p hp=>?_,fun b u q=>?_,I.len⟩
 ·rw [upd_ne (old b o q)];exact I.base.free b o q n hb
 ·have z:=I.base.tups b xs q
  rw [upd_ne (ne b _ z)];exact z
 ·have z:=I.base.frzs b o u q
  rw [upd_ne (ne b _ z)];exact z
 ·obtain ⟨more,z⟩:=I.base.tbls b ps q
  exact ⟨more,by rw [upd_ne (ne b _ z)];exact z⟩
 ·rw [upd_ne nL];exact I.free
 ·rw [upd_ne (nC x c q)];exact I.freeC x c q
 ·obtain ⟨a1,a2,a3⟩:=I.pin p hp
  exact ⟨a1,by rw [upd_ne (nP p hp)];exact a2,a3⟩
 ·by_cases hb:b=e
  ·subst hb
   rw [upd_same] at q
   cases q
   exact ⟨hx,there,st⟩
  ·rw [upd_ne hb] at q
   exact (I.hok b u q).stay (fun _ _ _ r=>r) (fun c r=>by rw [upd_ne (ne c _ r)];exact r) fun c xs r=>by rw [upd_ne (ne c _ r)];exact r
end
section
variable {X:Cx} {pins:List (Addr×Obj)} {σ:St} {H:Hp} {s:Shared} {x n y fx:Str} {R:Addr} {i j k:Nat} {np hpos pos p cp yp ap:Pos} {b0:Stmt} {suite:List Stmt} {ts:TS} {D:Ends} {ps:List Str} {sp:Sp} {e:Expr} {es:List Expr} {t:TA}
end
end L2
namespace L2
open PySem PySem.Spec PySem.W PyProof.Rows Builtin Builtin.ObjectAttr Builtin.Getset_descriptor
structure ExcCls (K:Frag) (C:Addr):Prop where
 ga:findIn K (.ref C) "__getattribute__"=some (some (.builtin "BaseException.__getattribute__"))
 noHook:findIn K (.ref C) "__getattr__"=some none
 cls:findIn K (.ref C) "__class__"=some (some (.builtin "object.__class__"))
 get:specialIn K (.builtin "object.__class__") "__get__"=some (some (.builtin "getset_descriptor.__get__"))
 tk:takesIn K (.builtin "object.__class__")=some true
 obj:mroIn K C (.type "object")=some true
 exc:mroIn K C (.type "BaseException")=some true
 isC:isClsIn K C=true
section
variable {prog:Program} {w:World} {A:Around} {E:Value->Shared->Prop} {s:Shared} {K:Frag} {e C:Addr}
end
end L2
namespace RA
end RA
namespace RA
open PySem L2
theorem sub_len:∀{a b:List Nat},a.Nodup->(∀c∈a,c∈b)->a.length≤b.length
 | [],_,_,_=>Nat.zero_le _
 | c::a,b,nd,h=>by
  obtain ⟨b1,b2,e⟩:=List.append_of_mem (h c (by simp))
  obtain ⟨n1,n2⟩:=List.nodup_cons.mp nd
  have:=sub_len (a:=a) (b:=b1++b2) n2 fun d hd=>by
   have hd2:=h d (by simp [hd])
   rw [e] at hd2
   have hdc:d≠c:=fun z=>n1 (z▸hd)
   simp [hdc] at hd2
   simpa using hd2
  rw [e]
  simp at this ⊢
  omega
end RA
namespace RA
def lexd (L:List Nat):List Nat->List Nat->Bool
 | c::a,d::b=>if c=d then lexd L a b else decide (L.idxOf c<L.idxOf d)
 | _,_=>false
def ear (L a b:List Nat):Bool:=if a.length≠b.length then decide (a.length<b.length) else lexd L a b
end RA
namespace L2
open PySem PySem.Spec PyProof.Rows
theorem eqV_same:∀{x:V},flatV x=true->eqV x x=true:=by
 intro x h
 cases x with
 | non=>rfl
 | bl a=>simp [eqV]
 | int a=>simp [eqV]
 | str a=>simp [eqV]
 | _=>exact absurd (show false=true from h) Bool.false_ne_true
theorem Same.set (s:Same H H') (n:H a=none):Same H (L2.upd H' a o):=fun b u e=>by
 rw [upd_ne (ne_of_none e n)]
 exact s b u e
end L2
namespace RA
open PySem L2
end RA
namespace L2
end L2
namespace L2
open PySem PySem.Spec PyProof.Rows
def rInsert:V->List V->Hp->VK->Prop:=fun x vs H Q=>∃l xs i y,x=.ref l/\vs=[.int i,y]/\H l=some (.lst xs)/\0≤i/\i≤1000/\i≤xs.length/\xs.length<sizeLine/\Q .non (upd H l (.lst (xs.take i.toNat++y::xs.drop i.toNat)))
theorem mt_insert:MtM X "list.insert" rInsert:=by
 intro pins s σ H x vs v us Q I rx rv h
 obtain ⟨l,xs,i,y,rfl,rfl,hH,h0,h1,h2,hz,q⟩:=h
 cases rx
 obtain ⟨u,w',rfl,ru,rw'⟩:=vals2 rv
 obtain ⟨t,rfl⟩:=ru
 obtain ⟨z,its,n,r,hl,e⟩:=I.lstM hH
 have hf:Builtin.List.listFitsIndex i=true:=fitsIndex_both (by omega) (by omega)
 refine call_meets F.slot_list_insert ⟨_,e,rfl⟩ F.entry_list_insert (F.args_list_insert_3 _ _ _) (PySem.AutoSeq1.list_insert_list_int_val_1 l its.toArray n i t w' (by simp [hf]) (by rw [List.size_toArray];omega)) ⟨e,?_⟩
 refine ⟨.non,_,I.lset (its':=its.take i.toNat++w'::its.drop i.toNat) hH e ?_ ((r.take i.toNat).append (.cons rw' (r.drop i.toNat))) ?_,rfl,q⟩
 ·have hk:(if i<0 then (i+((its.toArray.size:Nat):Int)).toNat else min i.toNat its.toArray.size)=i.toNat:=by
   rw [if_neg (by omega),List.size_toArray]
   omega
  show (its.toArray.extract 0 (if i<0 then (i+((its.toArray.size:Nat):Int)).toNat else min i.toNat its.toArray.size)).push w'++its.toArray.extract (if i<0 then (i+((its.toArray.size:Nat):Int)).toNat else min i.toNat its.toArray.size)=_
  rw [hk]
  simp
  exact List.take_of_length_le (by rw [List.length_drop];omega)
 ·rw [List.length_append,List.length_cons,List.length_take,List.length_drop]
  omega
section
variable {K:PySem.W.Frag} {tl:TE} {a:Addr} {xs:List V} {tt:TT} {te:TE} {σ:St} {H:Hp} {Q:VK}
end
section
variable {X:Cx} {elt iter:Expr} {x:Str} {px pos:Pos} {ifs:List Expr} {sc:Scope} {wi:TI} {tt:TT} {te:TE}
theorem comp_used (hsw:swapsWith (.ListComp elt [⟨.Name x px,iter,ifs,0⟩] sc pos) (some (.Name y py)) spos.line env=pure true)
  (h:∀p,wpAny M A (comprehension (.ListComp elt [⟨.Name x px,iter,ifs,0⟩] sc pos) sc env p (newList []) false (eval iter env) (some (assign (.Name y py) env))) (fun _ s'=>Q .next s') E s):
  wpAny M A (exec (.Assign [.Name y py] (.ListComp elt [⟨.Name x px,iter,ifs,0⟩] sc pos) spos) env) Q E s:=by
 have used:wpAny M A (evalThenUse (.ListComp elt [⟨.Name x px,iter,ifs,0⟩] sc pos) env (assign (.Name y py) env)) (fun _ s'=>Q .next s') E s:=
  wpAny_bind (wpAny_mono (h iter.pos) (fun _ _ q=>wpAny_pure q) fun _ _ e=>e)
 have one:=exec_Assign_Name_used (env:=env) y py (.ListComp elt [⟨.Name x px,iter,ifs,0⟩] sc pos) spos hsw
 exact one▸wpAny_bind (wpAny_standAt (wpAny_bind (wpAny_mono used (fun _ _ q=>wpAny_pure q) fun _ _ e=>e)))
end
theorem e_m (K:PySem.W.Frag) (hK:X.K=K:=by rfl):c_s X (.type "tuple") (fun xs H Q=>∃p ys,xs=[.ref p]/\((SqL K H p ys/\∀l,H l=none->Q (.ref l) (upd H l (.tup ys)))\/(SqT K H p ys/\Q (.ref p) H))):=by
 subst hK
 exact a_t
section
variable {X:Cx} {elt iter:Expr} {x:Str} {px pos:Pos} {ifs:List Expr} {sc:Scope} {wi:TI} {tt:TT} {te:TE}
theorem b_A (N2:List Str) (hc:X.calm=true) (hN2:(x::N2).Nodup) (hi:PI X (.Name x px) iter wi)
  (hb:∀(cl:List (Str×Addr)) (C:Addr) (fp:List Addr) (s:Shared) (H:Hp),PTs { cxComp X x sc cl C fp s H with N:=x::N2 } ifs tt/\PE { cxComp X x sc cl C fp s H with N:=x::N2 } elt te)
  (hx:sc.names.lookup x=some .local:=by rfl) (hkind:sc.kind=.function:=by rfl)
  (hnames:∀y∈sc.names,y.2=.local->sc.names.lookup y.1=some .local:=by decide +kernel) (hcell:∀y∈sc.names,y.2≠.cell:=by decide +kernel)
  (hfree:(sc.names.all fun y=>y.2 != .free || X.env.scope.names.lookup y.1==some .cell)=true:=by rfl)
  (hlo:(N2.all fun y=>sc.names.lookup y != some .local)=true:=by rfl) (hl2:N2.length=X.N.length:=by rfl) (hz2:((N2.zip X.N).all fun y=>y.1==y.2 || sc.names.lookup y.1==none)=true:=by rfl)
  (hs:∀x,foldedSetIterable iter X.env x=pure x:=by intro _;rfl):
  PE X (.ListComp elt [⟨.Name x px,iter,ifs,0⟩] sc pos) (tComp wi tt te):=by
 intro pins s σ H Q I h
 have hfr:∀y∈sc.names,y.2=.free->X.env.kindOf y.1=some .cell:=fun y hy e=>by
  have q:=List.all_eq_true.mp hfree y hy
  rw [e] at q
  simpa [Env.kindOf] using q
 have hlo':∀y∈N2,sc.names.lookup y≠some .local:=fun y hy e=>by
  have q:=List.all_eq_true.mp hlo y hy
  rw [e] at q
  simp at q
 obtain ⟨cl,hclos,hsub,hhas⟩:=b_R (env:=X.env) (sc:=sc) fun y hy e=>I.ok.has y.1 (.inl (hfr y hy e))
 rw [eval_ListComp]
 refine wpAny_comprehension_free (use:=none) rfl hs hclos hkind hnames (thn (hi pins s σ H _ I h) fun v s1 h1=>thn h1 fun itv s2 h2=>?_)
 obtain ⟨it,fp,tn,J,H2,e,I2,T,st2,f2,hW⟩:=h2
 subst e
 have nobinds:∀y∈([]:List (Str×Value)),sc.names.lookup y.1=some .local:=fun y hy=>absurd hy (by simp)
 refine wpAny_newObj_type ?_
 refine wpAny_newFunctionEnv hcell nobinds (fun h₁ hns₁ hsb₁=>?_) hkind
 dsimp only at hns₁ hsb₁ ⊢
 generalize hHa:s2.heap.push { cls:=.type "list",dict:=none,data:=.seq ([]:List Value).toArray }=Ha at hns₁ hsb₁ ⊢
 have hC:Ha.objs.size=s2.heap.objs.size+1:=by rw [<- hHa,Heap.size_push]
 have hDC:s2.heap.objs.size≠Ha.objs.size:=by rw [hC];exact Nat.ne_of_lt (Nat.lt_succ_self _)
 have hCle:s2.heap.objs.size≤Ha.objs.size:=by rw [hC];exact Nat.le_succ _
 have neC:∀b o,s2.heap.get? b=some o->b≠Ha.objs.size:=fun b o e=>Nat.ne_of_lt (Nat.lt_of_lt_of_le (Heap.lt_size e) hCle)
 have old:∀b o,s2.heap.get? b=some o->h₁.get? b=some o:=fun b o e=>hsb₁.extBut b o (neC b o e) (Heap.get?_push_of_some _ (hHa▸Heap.get?_push_of_some _ e))
 have hacc:h₁.get? s2.heap.objs.size=some { cls:=.type "list",dict:=none,data:=.seq ([]:List Value).toArray }:=hsb₁.extBut _ _ hDC (Heap.get?_push_of_some _ (hHa▸Heap.get?_push_size _ rfl))
 generalize hDe:s2.heap.objs.size=D at *
 generalize hCe:Ha.objs.size=C at *
 have hHD:H2 D=none:=I2.hok.fresh (Nat.le_of_eq hDe)
 have hHC:H2 C=none:=I2.hok.fresh (by omega)
 obtain ⟨W,⟨m0,w0⟩,turn⟩:=hW D hHD
 have fplt:∀b∈fp,b<D:=fun b hb=>by
  obtain ⟨o,e,_⟩:=T.obj _ _ st2 b hb
  rw [<- hDe]
  exact Heap.lt_size e
 let X':Cx:={ cxComp X x sc cl C fp s2 H2 with N:=x::N2 }
 have nofs:∀b∈fp,b∉frs X.stack:=fun b hb z=>by
  rcases List.mem_cons.mp (I2.stkSub b z) with e | e
  ·exact (f2 b hb).2.1 e
  ·exact (f2 b hb).2.2.1 e
 have ok':X'.Ok:=by
  refine ⟨I2.ok.mod,hkind,I2.ok.glob,I2.ok.blt,?_,fun y z c e1 e2=>I2.ok.inj y z c (hsub y c e1) (hsub z c e2),fun y hy=>?_,fun y c e=>absurd (show false=true from e) Bool.false_ne_true,I2.ok.hd,I2.ok.frames,.inl rfl,fun b hb=>⟨?_,fun y c e=>?_⟩,I2.bs,
   Nat.le_trans I2.ok.bsz I2.sz,fun b o e hb=>?_,nofs,I2.stack,I2.stkFree⟩
  ·show s2.heap.objs.size≤C
   omega
  ·rcases hy with hy | hy
   ·rcases relabel_lookup (show (relabel sc X.env).names.lookup y=some .cell from hy) with e | ⟨_,e,_⟩
    ·exact absurd rfl (hcell _ (PySem.mem_of_lookup e))
    ·exact hhas _ (PySem.mem_of_lookup e) rfl
   ·rcases relabel_lookup (show (relabel sc X.env).names.lookup y=some .free from hy) with e | ⟨e,_⟩
    ·exact hhas _ (PySem.mem_of_lookup e) rfl
    ·cases e
  ·exact Nat.ne_of_lt (Nat.lt_of_lt_of_le (fplt b hb) (by omega:D≤C))
  ·exact (f2 b hb).2.2.2.2.1 y c (hsub y c e)
  ·rcases (f2 b hb).2.2.2.1 with z | z
   ·exact I2.ok.noex b o e z
   ·exact absurd (Nat.lt_of_lt_of_le (Nat.lt_of_lt_of_le (Heap.lt_size e) I2.ok.bsz) z) (Nat.lt_irrefl _)
 have I4:∀tk,Inv X' [] (none::σ) (upd H2 D (.lst [])) { s2 with heap:=h₁,toks:=tk }:=fun tk=>by
  refine ⟨ok',rfl,I2.bare,Un.laid old (Nat.le_of_eq hDe) hHD,⟨_,hns₁,fun i y v e1 e2 e3=>?_⟩,fun y c e=>?_,?_,fun y c e=>?_,fun p hp=>?_,I2.hok.laid old (Nat.le_of_eq hDe) ?_,?_⟩
  ·cases i with
   | zero=>simp at e2
   | succ i=>
    have e0:N2[i]?=some y:=by simpa [X',cxComp] using e1
    have e2:σ[i]?=some (some v):=by simpa using e2
    have e3:Vis (relabel sc X.env) y:=e3
    have hyN:y∈N2:=List.mem_of_getElem? e0
    have free:sc.names.lookup y=some .free/\(relabel sc X.env).names.lookup y≠some .local:=by
     rcases e3 with e | e | e
     ·rcases relabel_lookup e with q | ⟨q,_⟩
      ·exact absurd q (hlo' y hyN)
      ·cases q
     ·rcases relabel_lookup e with q | ⟨_,q,_⟩
      ·exact absurd rfl (hcell _ (PySem.mem_of_lookup q))
      ·exact ⟨q,by rw [e];decide⟩
     ·rcases relabel_lookup e with q | ⟨q,_⟩
      ·exact ⟨q,by rw [e];decide⟩
      ·cases q
    have e1:X.N[i]?=some y:=by
     have hi:i<N2.length:=(List.getElem?_eq_some_iff.mp e0).1
     have hi2:i<X.N.length:=by omega
     have hm:(y,X.N[i])∈N2.zip X.N:=by
      have hz:(N2.zip X.N)[i]?=some (y,X.N[i]):=by
       rw [List.getElem?_zip_eq_some]
       exact ⟨e0,List.getElem?_eq_getElem hi2⟩
      exact List.mem_of_getElem? hz
     have q:=List.all_eq_true.mp hz2 _ hm
     rcases Bool.or_eq_true_iff.mp q with q | q
     ·have:y=X.N[i]:=eq_of_beq q
      rw [List.getElem?_eq_getElem hi2,<- this]
     ·have q2:sc.names.lookup y=none:=by simpa using q
      rw [free.1] at q2
      cases q2
    have kc:X.env.kindOf y=some .cell:=hfr _ (PySem.mem_of_lookup free.1) rfl
    obtain ⟨m,hn,hl⟩:=I2.loc
    obtain ⟨u,ru,lk⟩:=hl i y v e1 e2 (.inr (.inl kc))
    rcases lk with ⟨q,_⟩ | ⟨_,c,hcc,⟨o,ho,hd⟩⟩
    ·rw [kc] at q;cases q
    ·obtain ⟨c',hc'⟩:=hhas _ (PySem.mem_of_lookup free.1) rfl
     have e4:=hsub _ _ hc'
     rw [hcc] at e4
     cases e4
     refine ⟨u,ru,.inr ⟨?_,c,hc',⟨o,old c o ho,hd⟩⟩⟩
     rcases e3 with e | e | e
     ·exact absurd e free.2
     ·exact .inl e
     ·exact .inr e
  ·obtain ⟨v,o,ho,hd⟩:=I2.cell y c (hsub y c e)
   exact ⟨v,o,old c o ho,hd⟩
  ·show upd H2 D (.lst []) C=none
   rw [upd_ne (neA (by omega))]
   exact hHC
  ·obtain ⟨v,o,ho,hd⟩:=I2.cell y c (hsub y c e)
   have hlt:=Heap.lt_size ho
   rw [hDe] at hlt
   show upd H2 D (.lst []) c=none
   rw [upd_ne (Nat.ne_of_lt hlt)]
   exact I2.freeC y c (hsub y c e)
  ·exact absurd (show p∈([]:List (Addr×Obj)) from hp) (by simp)
  ·exact ⟨Nat.zero_le _,[],0,.nil,hacc⟩
  ·show (none::σ).length=(x::N2).length
   rw [List.length_cons,List.length_cons,I2.len,hl2]
 have hN':X'.N.Nodup:=hN2
 have hx':X'.env.scope.names.lookup x=some .local:=lookup_relabel_local hx
 obtain ⟨PT',PE'⟩:=hb cl C fp s2 H2
 have fpX:∀{pins':List (Addr×Obj)} {H':Hp},(∀b∈fp,H' b=none)->(∀p∈pins',p.1∉fp)->∀b∈fp,FpOk X' pins' H' b:=fun hn hp b hb=>by
  refine ⟨hn b hb,?_,nofs b hb,.inl hb,fun y c e=>(f2 b hb).2.2.2.2.1 y c (hsub y c e),fun p q z=>?_⟩
  ·exact Nat.ne_of_lt (Nat.lt_of_lt_of_le (fplt b hb) (by omega:D≤C))
  ·rcases List.mem_append.mp q with q | q
   ·exact absurd (show p∈([]:List (Addr×Obj)) from q) (by simp)
   ·exact hp p q (by rw [z];exact hb)
 have loop:∀tk,codeAny (model X.prog X.w) X.A (.compLoop (.ListComp elt [⟨.Name x px,iter,ifs,0⟩] sc pos) 0 (.ref it) (.ref D) (compEnvC sc cl C X.env)) (compPost (model X.prog X.w) X.A X.xe none (EP X pins σ Q) (.ref D) C) { s2 with heap:=h₁,toks:=tk }:=fun tk=>by
  refine codeAny_compLoop_tests (fun n s'=>∃i ys o H',Inv X' [] (o::σ) H' s'/\tn i s'.heap/\(∀b∈fp,H' b=none)/\W i n ys H') ?_ m0 ⟨0,[],none,_,I4 tk,T.keep _ _ _ st2 fun b hb o e=>old b o e,fun b hb=>?_,w0⟩
  ·rintro n s3 ⟨i,ys,o3,H3,I3,st3,fr3,w3⟩
   obtain ⟨hD3,alt⟩:=turn i n ys H3 w3
   rcases alt with ⟨stop,qn⟩ | ⟨go,hlen,step⟩
   ·refine wpAny_mono (T.done X' rfl rfl rfl hc i [] s3 _ H3 (fun _ _=>False) I3 (fpX fr3 (by simp)) st3 stop) (fun r s4 hpq=>?_) fun _ _ f=>f.elim
    obtain ⟨hr,I4'⟩:=hpq
    subst hr
    obtain ⟨mC,hnC,_⟩:=I4'.loc
    refine ⟨mC,hnC,fun h' hs'=>?_⟩
    have nC:∀b u,H3 b=some u->b≠C:=fun b u e z=>by rw [z] at e;rw [show H3 C=none from I4'.free] at e;cases e
    have hok':HOk X.prog X.w H3 h':=fun b u e=>(I4'.hok b u e).stay (fun c v hcc q=>hs'.extBut c v (by
     rcases hcc with z | z
     ·rw [z];exact nC b u e
     ·exact nC c _ z) q) (fun _ q=>q) fun _ _ q=>q
    have un:Un (frs X.stack) fp H2 H3 s2.heap h':=
     ⟨fun b o e n1 n2 n3=>hs'.extBut b o (neC b o e) (I4'.base.keep b o e n1 n2 n3),fun b o e n1 n2 n3=>by
       obtain ⟨sl,q⟩:=I4'.base.slot b o e n1 n2 n3
       exact ⟨sl,hs'.extBut b _ (neC b o e) q⟩,I4'.base.free,fun b o e n1=>by
       obtain ⟨o',q⟩:=I4'.base.there b o e n1
       exact ⟨o',hs'.extBut b _ (neC b o e) q⟩,I4'.base.tups,I4'.base.frzs,I4'.base.tbls⟩
    exact ⟨.ref D,H3,I2.call' (s':={ s4 with heap:=h' }) I4'.os un hok' I4'.bare fun b hb=>⟨(f2 b hb).2.2.2.1,(f2 b hb).2.1,(f2 b hb).2.2.2.2.1,(f2 b hb).2.2.2.2.2⟩,rfl,qn⟩
   ·refine wpAny_mono (T.item X' rfl rfl rfl hc i [] s3 _ H3 (fun _ _=>False) I3 (fpX fr3 (by simp)) st3 go) (fun r s4 hpq=>?_) fun _ _ f=>f.elim
    obtain ⟨u,hr,h4⟩:=hpq
    subst hr
    have eg:(letOwnedTupleGo (.Name x px) (.ref it) u >>= fun _=>assign (.Name x px) (compEnvC sc cl C X.env) u)=assign (.Name x px) (compEnvC sc cl C X.env) u:=pure_bind () _
    show wpAny _ _ (assign (.Name x px) (compEnvC sc cl C X.env) u) _ _ s4
    rw [<- eg]
    refine wpAny_bind (wpAny_mono h4 (fun _ s5 hpq=>?_) fun _ _ f=>f.elim)
    obtain ⟨y,H5,I5,r5,y5,st5,fr5⟩:=hpq
    have I5':=I5.pinned (fpX fr5 (by simp)) (T.obj _ _ st5)
    refine wpAny_mono (a_r (X:=X') (i:=0) (pos:=px) hN' rfl (.inl hx') (.inr hx') _ s5 _ H5 y u (fun σ' H'=>σ'=some y::σ/\H'=H5) I5' r5 ⟨rfl,rfl⟩) (fun _ s6 hpq=>?_) fun _ _ f=>f.elim
    obtain ⟨σ6,H6,I6,e1,e2⟩:=hpq
    subst e1 e2
    refine wpAny_mono (PT' _ s6 _ _ _ I6 (step y _ y5)) (fun ok s7 hpq=>?_) fun _ _ f=>f.elim
    obtain ⟨H7,I7,q7⟩:=hpq
    have again:∀{s8:Shared} {H8:Hp} {ys':List V},Inv X' ([]++d_W fp s5.heap) (some y::σ) H8 s8->(∃m',m'<n/\W (i+1) m' ys' H8)->∃m,m<n/\∃i ys o H',Inv X' [] (o::σ) H' s8/\tn i s8.heap/\(∀b∈fp,H' b=none)/\W i m ys H':=fun {s8 H8 ys'} I8 ⟨m',hm,w8⟩=>by
     refine ⟨m',hm,i+1,ys',some y,H8,I8.unpinned,T.keep _ _ _ st5 fun b hb o e=>(I8.pin (b,o) (List.mem_append_right _ (List.mem_append_right _ (a_v hb e)))).1,fun b hb=>?_,w8⟩
     obtain ⟨o,e,d⟩:=T.obj _ _ st5 b hb
     exact (I8.pin (b,o) (List.mem_append_right _ (List.mem_append_right _ (a_v hb e)))).2.1
    cases ok with
    | false=>exact again I7 q7
    | true=>
     have q7:te (some y::σ) H7 _:=q7
     refine wpAny_mono (PE' _ s7 _ _ _ I7 q7) (fun z s8 hpq=>?_) fun _ _ f=>f.elim
     obtain ⟨yv,H8,I8,r8,hD8,q8⟩:=hpq
     refine wpAny_mono (a_x (X:=X') _ s8 _ H8 (.ref D) [yv] (.ref D) [z] (fun _ H9=>H9=upd H8 D (.lst (ys++[yv]))) I8 rfl (.cons r8 .nil) ⟨D,ys,yv,rfl,rfl,hD8,hlen,rfl⟩) (fun _ s9 hpq=>?_) fun _ _ f=>f.elim
     obtain ⟨_,H9,I9,_,e9⟩:=hpq
     subst e9
     exact again I9 q8
  ·show upd H2 D (.lst []) b=none
   rw [upd_ne (Nat.ne_of_lt (fplt b hb))]
   exact (f2 b hb).1
 exact codeAny_compStart_list (loop _) (T.self _ _ _ _ _ (T.keep _ _ _ st2 fun b hb o e=>old b o e) (loop _))
end
end L2
namespace RA
open PySem L2
end RA
namespace L2
end L2
namespace RA
open PySem L2
end RA
namespace L2
open PySem PySem.Spec PyProof.Rows
section
variable {κ:Type} [DecidableEq κ]
def valV (kvs:List (κ×V)) (k:κ):Option V:=(kvs.find? fun kv=>decide (kv.1=k)).map (·.2)
theorem valV_pos {p:κ×V} {r:List (κ×V)} {k:κ} (e:p.1=k):valV (p::r) k=some p.2:=by simp [valV,List.find?_cons,e]
theorem valV_neg {p:κ×V} {r:List (κ×V)} {k:κ} (e:¬ p.1=k):valV (p::r) k=valV r k:=by simp [valV,List.find?_cons,e]
theorem RelO.getD (r:RelO o u) (rd:RelV d d'):RelV (o.getD d) (u.getD d'):=by
 cases o with
 | none=>cases u with
  | none=>exact rd
  | some _=>exact (show False from r).elim
 | some _=>cases u with
  | none=>exact (show False from r).elim
  | some _=>exact r
theorem KV.val {kvs:List (κ×V)} {vs:List (κ×Value)} (r:KV kvs vs) (k:κ):RelO (valV kvs k) (valueAt vs k):=by
 unfold KV at r
 induction r with
 | nil=>exact True.intro
 | @cons p q ps qs h t ih=>
  obtain ⟨h1,h2⟩:=h
  by_cases e:p.1=k
  ·have e':q.1=k:=h1.symm.trans e
   have b:valueAt (q::qs) k=some q.2:=by simp [valueAt,List.find?_cons,e']
   rw [valV_pos e,b];exact h2
  ·have e':¬ q.1=k:=fun z=>e (h1.trans z)
   have b:valueAt (q::qs) k=valueAt qs k:=by simp [valueAt,List.find?_cons,e']
   rw [valV_neg e,b];exact ih
end
section
variable {X:Cx} {d:Addr} {kvs:List (Key×V)}
end
end L2
namespace RA
section
variable {κ:Type} [DecidableEq κ]
def disA (acc:List κ):List κ->List κ
 | []=>acc
 | k::ks=>disA (if k∈acc then acc else acc++[k]) ks
def dis (ks:List κ):List κ:=disA [] ks
def numF (ks:List κ):List Nat:=ks.map fun k=>(dis ks).idxOf k
theorem disA_snoc (k:κ):∀(ks acc:List κ),disA acc (ks++[k])=if k∈disA acc ks then disA acc ks else disA acc ks++[k]
 | [],_=>rfl
 | _::ks,_=>disA_snoc k ks _
theorem disA_sub:∀(ks acc:List κ) (k:κ),k∈acc\/k∈ks↔k∈disA acc ks
 | [],acc,k=>by simp [disA]
 | a::ks,acc,k=>by
  show _↔k∈disA (if a∈acc then acc else acc++[a]) ks
  rw [<- disA_sub ks]
  by_cases h:a∈acc
  ·rw [if_pos h,List.mem_cons]
   constructor
   ·rintro (x | rfl | x)
    ·exact .inl x
    ·exact .inl h
    ·exact .inr x
   ·rintro (x | x)
    ·exact .inl x
    ·exact .inr (.inr x)
  ·rw [if_neg h,List.mem_cons,List.mem_append,List.mem_singleton]
   constructor
   ·rintro (x | x | x)
    ·exact .inl (.inl x)
    ·exact .inl (.inr x)
    ·exact .inr x
   ·rintro ((x | x) | x)
    ·exact .inl x
    ·exact .inr (.inl x)
    ·exact .inr (.inr x)
theorem mem_dis {ks:List κ} {k:κ}:k∈dis ks↔k∈ks:=by
 rw [dis,<- disA_sub]
 simp
theorem dis_snoc (ks:List κ) (k:κ):dis (ks++[k])=if k∈dis ks then dis ks else dis ks++[k]:=disA_snoc k ks []
theorem disA_len:∀(ks acc:List κ),(disA acc ks).length≤acc.length+ks.length
 | [],_=>by simp [disA]
 | a::ks,acc=>by
  have h:=disA_len ks (if a∈acc then acc else acc++[a])
  have h2:(if a∈acc then acc else acc++[a]).length≤acc.length+1:=by
   split
   ·omega
   ·simp
  show (disA (if a∈acc then acc else acc++[a]) ks).length≤_
  rw [List.length_cons]
  omega
theorem dis_len (ks:List κ):(dis ks).length≤ks.length:=by
 have:=disA_len ks []
 simpa [dis] using this
theorem idx_inj {l:List κ} {a b:κ} (ha:a∈l) (h:l.idxOf a=l.idxOf b):a=b:=by
 have h1:l.idxOf a<l.length:=List.idxOf_lt_length_of_mem ha
 have h2:l.idxOf b<l.length:=by omega
 have e1:=List.getElem_idxOf h1
 have e2:=List.getElem_idxOf h2
 rw [<- e1,<- e2]
 congr 1
theorem idxOf_leG {l:List κ} {c:κ}:∀{i:Nat},l[i]?=some c->l.idxOf c≤i:=by
 induction l with
 | nil=>intro i e;simp at e
 | cons a l ih=>
  intro i e
  by_cases hac:a=c
  ·subst hac
   rw [List.idxOf_cons_self]
   exact Nat.zero_le _
  ·cases i with
   | zero=>simp at e;exact absurd e hac
   | succ i=>
    have h1:=ih (i:=i) (by simpa using e)
    have h2:(a::l).idxOf c=l.idxOf c+1:=by
     rw [List.idxOf_cons,beq_eq_false_iff_ne.mpr hac]
     rfl
    omega
theorem b_K (ks:List κ):(numF ks).length=ks.length:=by simp [numF]
theorem numF_get {ks:List κ} {i:Nat} {k:κ} (h:ks[i]?=some k):(numF ks).getD i 0=(dis ks).idxOf k:=by
 rw [List.getD_eq_getElem?_getD,numF,List.getElem?_map,h]
 rfl
theorem numF_eq {ks:List κ} {i j:Nat} {a b:κ} (ha:ks[i]?=some a) (hb:ks[j]?=some b):(numF ks).getD i 0=(numF ks).getD j 0↔a=b:=by
 rw [numF_get ha,numF_get hb]
 constructor
 ·exact idx_inj (mem_dis.mpr (List.mem_of_getElem? ha))
 ·rintro rfl
  rfl
end
theorem row_of (h:Mach L W B) (hr:r<W.length):(W.getD r []).length=L.length/\∀x∈W.getD r [],x<W.length:=by
 have e:W.getD r []=W[r]:=by rw [List.getD_eq_getElem?_getD,List.getElem?_eq_getElem hr];rfl
 rw [e]
 exact h.row _ (List.getElem_mem hr)
theorem countP_lt {α:Type} {p q:α->Bool}:∀{l:List α},(∀x∈l,p x=true->q x=true)->(∃x∈l,q x=true/\p x=false)->l.countP p<l.countP q
 | [],_,⟨x,hx,_⟩=>by simp at hx
 | a::l,hi,⟨x,hx,hq,hp⟩=>by
  have le:l.countP p≤l.countP q:=List.countP_mono_left fun y hy=>hi y (by simp [hy])
  rw [List.countP_cons,List.countP_cons]
  rcases List.mem_cons.mp hx with rfl | hx
  ·rw [hq,hp]
   simp
   omega
  ·have:=countP_lt (l:=l) (fun y hy=>hi y (by simp [hy])) ⟨x,hx,hq,hp⟩
   have h1:=hi a (by simp)
   cases hpa:p a with
   | false=>simp;omega
   | true=>rw [h1 hpa];simp;omega
end RA
namespace L2
open PySem PySem.Spec PyProof.Rows
def zs (ks:List Nat):List Int:=ks.map fun (n:Nat)=>(n:Int)
theorem zs_inj (h:zs a=zs b):a=b:=by
 induction a generalizing b with
 | nil=>cases b with
  | nil=>rfl
  | cons y b=>cases h
 | cons x a ih=>cases b with
  | nil=>cases h
  | cons y b=>
   have h:((x:Int)::zs a)=((y:Int)::zs b):=h
   injection h with h1 h2
   rw [ih h2,Int.ofNat.inj h1]
section
variable (P:Program) (w:World)
end
section
variable {P:Program} {w:World}
end
structure HKd (P:Program) (w:World) (κ:Type) [DecidableEq κ] where
 knd:HeapKind P w κ
 kin:Hp->κ->Addr->Prop
 ok:∀{H:Hp} {h:Heap} {k:κ} {a:Addr},kin H k a->HOk P w H h->knd.is h k a
 room:∀{A:Around},A.units+64<cLine->knd.room A.in1/\knd.room A
 stay:∀{H H':Hp} {k:κ} {a:Addr},(∀b xs,H b=some (.tup xs)->H' b=some (.tup xs))->kin H k a->kin H' k a
def TIn (H:Hp) (k:List Int) (a:Addr):Prop:=H a=some (.tup (k.map V.int))
theorem items_int {P:Program} {w:World}:∀{ks:List Int} {us:List Value},Vals (ks.map V.int) us->ItemsAre (intKind P w) ks us
 | [],_,r=>by rw [List.map_nil] at r;cases r;exact .nil
 | k::ks,_,r=>by
  rw [List.map_cons] at r
  cases r with
  | cons h t=>
   obtain ⟨u,rfl⟩:=(show ∃t,_=Value.int k t from h)
   exact .cons (by show Value.isInt k (.int k u)=true;simp [Value.isInt]) (items_int t)
theorem tin_ok (e:TIn H k a) (ok:HOk P w H h):IsTupleKey (intKind P w) h k a:=by
 obtain ⟨_,its,r,o,h1,h2,n,h3⟩:=(show a_V P w H h a (.tup (k.map V.int)) from ok a _ e)
 exact ⟨o,its.toArray,n,h1,h2,h3,by simpa using items_int r⟩
def b_c (P:Program) (w:World):HKd P w (List Int) where
 knd:=tupleKind (intKind P w)
 kin:=TIn
 ok:=fun e ok=>tin_ok e ok
 room:=fun {A} hu=>⟨by show A.in1.units<cLine;rw [Around.in1_units];omega,by show A.units<cLine;omega⟩
 stay:=fun s e=>s _ _ e
def kdO {P:Program} {w:World} {κ:Type} [DecidableEq κ] (knd:PySem.KeyKind P w κ) (d:Addr) (kvs:List (κ×V)):HO:=.ext fun h=>(d==sysModules)=false/\kvs.length≤sizeLine/\∃vs,KV kvs vs/\h.DictOf knd d vs
abbrev KHr (κ:Type):(κ×Addr×V)->(κ×Addr×Value)->Prop:=fun p q=>p.1=q.1/\p.2.1=q.2.1/\RelV p.2.2 q.2.2
def hdO {P:Program} {w:World} {κ:Type} [DecidableEq κ] (D:HKd P w κ) (d:Addr) (kvs:List (κ×Addr×V)):HO:=.ext fun h=>(d==sysModules)=false/\kvs.length≤sizeLine/\∃xs,Paired (KHr κ) kvs xs/\
 ∃o es ep,h.get? d=some o/\o.ExactDict/\o.data=.dict es ep/\es.toList=xs.map (entryOfKey D.knd)/\(xs.map (·.1)).Nodup
section
variable {P:Program} {w:World} {κ:Type} [DecidableEq κ]
theorem kd_ok {knd:PySem.KeyKind P w κ} {H:Hp} {h:Heap} {d:Addr} {kvs:List (κ×V)} {vs:List (κ×Value)} (ns:(d==sysModules)=false) (hl:kvs.length≤sizeLine) (r:KV kvs vs) (dd:h.DictOf knd d vs):a_V P w H h d (kdO knd d kvs):=by
 refine ⟨⟨ns,hl,vs,r,dd⟩,let ⟨o,_,_,e,_⟩:=dd;⟨o,e⟩,fun h1 h2 a b=>?_⟩
 obtain ⟨a1,a2,vs,r,o,es,ep,e,q⟩:=a
 exact ⟨a1,a2,vs,r,o,es,ep,b o e,q⟩
theorem hd_ok {D:HKd P w κ} {H:Hp} {h:Heap} {d:Addr} {kvs:List (κ×Addr×V)} {xs:List (κ×Addr×Value)} (ns:(d==sysModules)=false) (hl:kvs.length≤sizeLine) (r:Paired (KHr κ) kvs xs) (dd:h.DictOfH D.knd d xs):a_V P w H h d (hdO D d kvs):=by
 obtain ⟨o,es,ep,e,q1,q2,q3,_,q5⟩:=dd
 refine ⟨⟨ns,hl,xs,r,o,es,ep,e,q1,q2,q3,q5⟩,⟨o,e⟩,fun h1 h2 a b=>?_⟩
 obtain ⟨a1,a2,vs,r,o,es,ep,e,q⟩:=a
 exact ⟨a1,a2,vs,r,o,es,ep,b o e,q⟩
theorem kd_of {knd:PySem.KeyKind P w κ} {H:Hp} {h:Heap} {d:Addr} {kvs:List (κ×V)} (ok:HOk P w H h) (e:H d=some (kdO knd d kvs)):(d==sysModules)=false/\kvs.length≤sizeLine/\∃vs,KV kvs vs/\h.DictOf knd d vs:=(ok d _ e).1
theorem hd_of {D:HKd P w κ} {H:Hp} {h:Heap} {d:Addr} {kvs:List (κ×Addr×V)} (ok:HOk P w H h) (e:H d=some (hdO D d kvs)) (hk:∀x∈kvs,D.kin H x.1 x.2.1):(d==sysModules)=false/\kvs.length≤sizeLine/\∃xs,Paired (KHr κ) kvs xs/\h.DictOfH D.knd d xs:=by
 obtain ⟨a1,a2,xs,r,o,es,ep,e1,q1,q2,q3,q5⟩:=(ok d _ e).1
 refine ⟨a1,a2,xs,r,o,es,ep,e1,q1,q2,q3,?_,q5⟩
 clear q3 q5 e a2
 induction r with
 | nil=>intro x hx;simp at hx
 | @cons p q ps qs h t ih=>
  intro x hx
  rcases List.mem_cons.mp hx with rfl | hx
  ·have:=D.ok (hk p (by simp)) ok
   rw [<- h.1,<- h.2.1]
   exact this
  ·exact ih (fun y hy=>hk y (by simp [hy])) x hx
def valH (kvs:List (κ×Addr×V)) (k:κ):Option V:=(kvs.find? fun x=>decide (x.1=k)).map (·.2.2)
theorem kh_val {kvs:List (κ×Addr×V)} {xs:List (κ×Addr×Value)} (r:Paired (KHr κ) kvs xs) (k:κ):RelO (valH kvs k) ((atKey xs k).map (·.2)):=by
 induction r with
 | nil=>exact True.intro
 | @cons p q ps qs h t ih=>
  by_cases e:p.1=k
  ·have e':q.1=k:=h.1.symm.trans e
   have a1:valH (p::ps) k=some p.2.2:=by simp [valH,List.find?_cons,e]
   have b:atKey (q::qs) k=some q.2:=by simp [atKey,List.find?_cons,e']
   rw [a1,b]
   exact h.2.2
  ·have e':¬ q.1=k:=fun z=>e (h.1.trans z)
   have a1:valH (p::ps) k=valH ps k:=by simp [valH,List.find?_cons,e]
   have b:atKey (q::qs) k=atKey qs k:=by simp [atKey,List.find?_cons,e']
   rw [a1,b]
   exact ih
theorem e_Z {α β:Type} {F:α->β->Prop} {a:α} {b:β} (h:F a b):∀{l:List α} {m:List β},Paired F l m->Paired F (l++[a]) (m++[b])
 | _,_,.nil=>.cons h .nil
 | _,_,.cons r t=>.cons r (e_Z h t)
theorem c_N (r:RelO o u):o.isSome=u.isSome:=by
 cases o <;> cases u <;> first | rfl | exact (show False from r).elim
end
section
variable {X:Cx} {pins:List (Addr×Obj)} {σ:St} {H:Hp} {s:Shared} {d:Addr}
theorem Inv.bigS (I:Inv X pins σ H s):sysModules<s.heap.objs.size:=by
 have h:mainGlobals<s.heap.objs.size:=(I.mod.glob.keeps I.bk).lt
 exact Nat.lt_trans (by decide) h
theorem h_get {κ:Type} [DecidableEq κ] {D:HKd X.prog X.w κ} {kvs:List (κ×Addr×V)} {k:κ} {b:Addr} {v:V} {A:Around} {E:Value->Shared->Prop} {Q:Value->Shared->Prop} (hu:A.units+64<cLine) (I:Inv X pins σ H s) (e:H d=some (hdO D d kvs)) (hk:∀x∈kvs,D.kin H x.1 x.2.1) (kb:D.kin H k b)
  (l:some v=valH kvs k) (h:∀w' s',Inv X pins σ H s'->RelV v w'->Q w' s'):wpAny (model X.prog X.w) A (getItem (.ref d) (.ref b)) Q E s:=by
 obtain ⟨_,_,xs,rel,dd⟩:=hd_of I.hok e hk
 obtain ⟨w',hw,rw'⟩:=RelO.some_of (v:=v) (o:=(atKey xs k).map (·.2)) (by rw [l];exact kh_val rel k)
 obtain ⟨p,hp,hp2⟩:=Option.map_eq_some_iff.mp hw
 refine wpAny_getItem_heap (D.room hu).1 (D.ok kb I.hok) dd hp ?_
 rw [hp2]
 exact h w' _ (I.tok _) rw'
theorem h_notIn {κ:Type} [DecidableEq κ] {D:HKd X.prog X.w κ} {kvs:List (κ×Addr×V)} {k:κ} {b:Addr} {A:Around} {E:Value->Shared->Prop} {Q:Value->Shared->Prop} (hu:A.units+64<cLine) (I:Inv X pins σ H s) (e:H d=some (hdO D d kvs)) (hk:∀x∈kvs,D.kin H x.1 x.2.1) (kb:D.kin H k b)
  (h:∀s',Inv X pins σ H s'->Q (.bool (!(valH kvs k).isSome)) s'):wpAny (model X.prog X.w) A (compareOp .NotIn (.ref b) (.ref d)) Q E s:=by
 obtain ⟨ns,_,xs,rel,dd⟩:=hd_of I.hok e hk
 refine wpAny_notIn_heap (D.room hu).1 (D.ok kb I.hok) ns dd ?_
 have q:=c_N (kh_val rel k)
 rw [Option.isSome_map] at q
 rw [<- q]
 exact h _ (I.tok _)
theorem c_e (I:Inv X pins σ H s) (mu:Mut (H d)) (hs:Heap.SameBut d s.heap h') (he:∃q,h'.get? d=some q) (new:a_V X.prog X.w (upd H d ob) h' d ob):Inv X pins σ (upd H d ob) { s with heap:=h',toks:=t' }:=
 I.write (x:=d) (e:=d) mu (.inl rfl) (fun b q hb z=>(hs.2 b hb).trans z) he new
theorem h_new {κ:Type} [DecidableEq κ] {D:HKd X.prog X.w κ} {kvs:List (κ×Addr×V)} {xs:List (κ×Addr×Value)} {k:κ} {b:Addr} {v:V} {r:Value} {h':Heap} {t':Nat} (I:Inv X pins σ H s) (e:H d=some (hdO D d kvs)) (ns:(d==sysModules)=false) (hl:kvs.length<sizeLine) (rel:Paired (KHr κ) kvs xs)
  (hn:valH kvs k=none) (rv:RelV v r) (dd:h'.DictOfH D.knd d (storedH xs k b r)) (hs:Heap.SameBut d s.heap h'):Inv X pins σ (upd H d (hdO D d (kvs++[(k,b,v)]))) { s with heap:=h',toks:=t' }:=by
 have q:=RelO.none_of (show RelO none ((atKey xs k).map (·.2)) by rw [<- hn];exact kh_val rel k)
 rw [storedH_new (Option.map_eq_none_iff.mp q)] at dd
 exact c_e I (by rw [e];exact True.intro) hs (let ⟨o,_,_,q,_⟩:=dd;⟨o,q⟩) (hd_ok ns (by rw [List.length_append];exact hl) (e_Z (F:=KHr κ) ⟨rfl,rfl,rv⟩ rel) dd)
theorem h_set {κ:Type} [DecidableEq κ] {D:HKd X.prog X.w κ} {kvs:List (κ×Addr×V)} {k:κ} {b:Addr} {v:V} {r:Value} {A:Around} {E:Value->Shared->Prop} {Q:Unit->Shared->Prop} (hu:A.units+64<cLine) (I:Inv X pins σ H s) (e:H d=some (hdO D d kvs)) (hk:∀x∈kvs,D.kin H x.1 x.2.1) (kb:D.kin H k b)
  (hn:valH kvs k=none) (hl:kvs.length<sizeLine) (rv:RelV v r) (h:∀s',Inv X pins σ (upd H d (hdO D d (kvs++[(k,b,v)]))) s'->Q () s'):wpAny (model X.prog X.w) A (setItem (.ref d) (.ref b) r) Q E s:=by
 obtain ⟨ns,hz,xs,rel,dd⟩:=hd_of I.hok e hk
 exact wpAny_setItem_heap (hsz:=by rw [<- Paired.length rel];exact hz) (D.room hu).1 (D.ok kb I.hok) dd fun h' dd' hs=>h _ (h_new I e ns hl rel hn rv dd' hs)
theorem kv_snoc {kvs:List (κ×V)} {vs:List (κ×Value)} {k:κ} (rel:KV kvs vs) (rv:RelV v r):KV (kvs++[(k,v)]) (vs++[(k,r)]):=e_Z (F:=fun (p:κ×V) (q:κ×Value)=>p.1=q.1/\RelV p.2 q.2) ⟨rfl,rv⟩ rel
theorem d_j {κ:Type} [DecidableEq κ] {vs:List (κ×Value)} {k:κ} {r:Value} (h:valueAt vs k=none):stored vs k r=vs++[(k,r)]:=by
 unfold stored
 rw [if_neg]
 intro q
 rw [List.any_eq_true] at q
 obtain ⟨x,hx,e⟩:=q
 unfold valueAt at h
 rw [Option.map_eq_none_iff,List.find?_eq_none] at h
 exact h x hx e
theorem len_raw (ns:(d==sysModules)=false) (ho:s.heap.get? d=some o) (hc:o.ExactDict) (hd:o.data=.dict es ep) (hz:es.size≤sizeLine)
  (h:∀t t',Q (.int (es.size:Nat) t) { s with toks:=t' }):wpAny (model X.prog X.w) A (call (.builtin "len") [.ref d]) Q E s:=by
 have hT:s.TypeIs (.ref d) "dict":=⟨o,ho,hc.1⟩
 have hb:(es.size:Int)<2 ^ 63:=by rw [sizeLine_eq] at hz;omega
 refine Calls.call_function_entry kind_len plain_len entry_len (args_len1 _) ?_
 unfold Builtin.«len»
 refine wpAny_bind (m:=oneArg "len" _) (wpAny_pure (wpAny_bind (m:=callSpecial? (.ref d) (Str.ofString "__len__")) (wpAny_callSpecial?_slot (name:=Str.ofString "__len__") hT F.slot_dict_len (wpAny_call_entry F.slot_dict_len hT F.entry_dict_len ?_ (F.args_dict_len_1 _)))))
 refine wpAny_bind (m:=dictSize d) ?_
 unfold dictSize
 refine wpAny_bind (wpAny_dictEntries ho hd (wpAny_pure (wpAny_bind (m:=Builtin.Dict.pendingCount d) (wpAny_pendingCount_other ns (wpAny_bind (wpAny_mkInt (wpAny_pure ⟨_,rfl,wpAny_bind (wpAny_holding (wpAny_pure (wpAny_bind (wpAny_letGo ?_))))⟩)))))))
 refine wpAny_ite_false (by simp) (wpAny_ite_false (by simp;omega) (wpAny_bind (wpAny_mkInt (wpAny_pure ⟨_,rfl,?_⟩))))
 simpa using h _ _
end
section
variable {X:Cx}
end
section
variable {X:Cx} {elt iter:Expr} {x y:Str} {px py pt pos:Pos} {kt:Nat} {sc:Scope} {wi:TI} {te:TE}
end
section
variable {prog:Program} {w:World} {A:Around} {E:Value->Shared->Prop} {s:Shared} {it t:Addr} {i:Nat} {items:Array Value}
theorem nextT_item (hit:s.heap.IsTupleIter it t i) (ht:s.heap.IsTuple t items) (hx:items[i]?=some x) (hQ:∀h',h'.IsTupleIter it t (i+1)->Heap.SameBut it s.heap h'->Q x { s with heap:=h' }):
  wpAny (model prog w) A (Builtin.SmallTypes.nextOf (.ref it)) Q E s:=by
 obtain ⟨o,ho,hc,hd⟩:=id hit
 obtain ⟨ol,hol,_,nl,hdl⟩:=ht
 unfold Builtin.SmallTypes.nextOf
 refine wpAny_bind (wpAny_callSpecial?_slot (name:=Str.ofString "__next__") hit.typeIs F.slot_tuple_iterator_next (wpAny_call_entry F.slot_tuple_iterator_next hit.typeIs F.entry_tuple_iterator_next ?_ (F.args_tuple_iterator_next_1 _)))
 refine wpAny_bind (m:=field (.ref it) 0) (wpAny_field ho hd (x:=.ref t) rfl (wpAny_ite_false rfl (wpAny_bind (m:=field (.ref it) 1) (wpAny_field ho hd (x:=.int i 0) rfl (wpAny_bind (m:=seqItems? (.ref t)) (wpAny_seqItems hol hdl ?_))))))
 simp only [Int.toNat_natCast,hx]
 refine wpAny_bind (wpAny_setField ho hd (by simp) (wpAny_pure ⟨x,rfl,wpAny_pure (hQ _ ⟨_,Heap.get?_update_self _ ho (Obj.isFreed_of_fields (Obj.data_mapFields hd _)),(Obj.cls_mapFields ..).trans hc,?_⟩ (Heap.SameBut.update ..))⟩))
 rw [Obj.data_mapFields hd]
 simp [rawInt]
theorem nextT_end (hh:A.handled=none) (hit:s.heap.IsTupleIter it t i) (ht:s.heap.IsTuple t items) (hx:items[i]?=none)
  (hE:∀h' e,Heap.ExtBut it s.heap h'->(∃o,h'.get? e=some o/\o.cls=.type "StopIteration")->E (.ref e) { s with heap:=h' }):wpAny (model prog w) A (Builtin.SmallTypes.nextOf (.ref it)) Q E s:=by
 obtain ⟨o,ho,hc,hd⟩:=id hit
 obtain ⟨ol,hol,_,nl,hdl⟩:=ht
 unfold Builtin.SmallTypes.nextOf
 refine wpAny_bind (wpAny_callSpecial?_slot (name:=Str.ofString "__next__") hit.typeIs F.slot_tuple_iterator_next (wpAny_call_entry F.slot_tuple_iterator_next hit.typeIs F.entry_tuple_iterator_next ?_ (F.args_tuple_iterator_next_1 _)))
 refine wpAny_bind (m:=field (.ref it) 0) (wpAny_field ho hd (x:=.ref t) rfl (wpAny_ite_false rfl (wpAny_bind (m:=field (.ref it) 1) (wpAny_field ho hd (x:=.int i 0) rfl (wpAny_bind (m:=seqItems? (.ref t)) (wpAny_seqItems hol hdl ?_))))))
 simp only [Int.toNat_natCast,hx]
 refine wpAny_bind (wpAny_rule (wpAny_bind (wpAny_setField ho hd (by simp) (wpAny_bind (m:=newExc (.type "StopIteration") []) ?_))))
 simp only [newExc,newTuple]
 refine wpAny_bind (wpAny_newObj_type (wpAny_bind (m:=firstArgMember _ _) (wpAny_of_eq (a:=Value.none) (by first | rfl | (simp only [firstArgMember];rfl)) (wpAny_newObj_type ?_ (by size_fits)))) (by size_fits))
 simp only [raiseNew]
 refine wpAny_bind (wpAny_handled ?_)
 first | rw [show A.in1.handled=none from hh] | rw [hh]
 exact wpAny_bind (wpAny_pure (wpAny_throw (hE _ _ (((Heap.SameBut.update ..).extBut.push _).push _) ⟨_,Heap.get?_push_size _ rfl,rfl⟩)))
end
theorem IsTup.keeps {h h':Heap} (x:h.IsTuple t items) (k:∀o,h.get? t=some o->h'.get? t=some o):h'.IsTuple t items:=let ⟨o,e,r⟩:=x;⟨o,k o e,r⟩
theorem drawsT (hh:A.handled=none) (it t:Addr) (hne:t≠it) (items:Array Value):
  Draws prog w A it [it,t] items.size (fun i v=>items[i]?=some v) (fun i h=>h.IsTupleIter it t i/\h.IsTuple t items)  where
 live:=fun _ _ st=>let ⟨o,ho,_⟩:=st.1;⟨o,ho⟩
 frame:=fun _ _ _ st hk=>⟨st.1.at fun o e=>hk it (by simp) o e,IsTup.keeps st.2 fun o e=>hk t (by simp) o e⟩
 item:=fun i s Q E hi st hQ=>nextT_item st.1 st.2 (x:=items[i]) (by simp [hi]) fun h' hit' hs'=>hQ _ h' s.toks (by simp [hi]) ⟨hit',IsTup.keeps st.2 fun o e=>(hs'.2 t hne).trans e⟩ hs'
 done:=fun s Q E st hE=>nextT_end hh st.1 st.2 (by simp) hE
theorem sub_enum':isSubtype (.type "enumerate") (.type "enumerate")=pure true:=by rw [isSubtype_type];kernel_rfl
set_option maxHeartbeats 1000000 in
theorem meets_enumT (l:Addr) (items:Array Value) (n:Nat) (dct:Option Addr) (sl:Array (Option Value)):
  Meets (Builtin.«enumerate.__new__» ⟨[.type "enumerate",.ref l],[]⟩) (fun _ R s=>s.heap.get? l=some { cls:=.type "tuple",dict:=dct,data:=.seq items n,slots:=sl }/\
   R (.ok (.ret (.ref (s.heap.push { cls:=.type "tuple_iterator",data:=.fields #[.ref l,.int 0 0] }).objs.size)))
    { s with heap:=(s.heap.push { cls:=.type "tuple_iterator",data:=.fields #[.ref l,.int 0 0] }).push { cls:=.type "enumerate",data:=.fields #[.none,.bool false,.ref s.heap.objs.size,rawInt 0,.none,.none] } }):=
 .of_wp fun prog w A R s h=>by
  obtain ⟨hp,g,d,tk,os⟩:=s
  obtain ⟨hl,h⟩:=h
  have hsub:=sub_enum'
  have hT:hp.IsTuple l items:=⟨_,hl,rfl,n,rfl⟩
  wp_walk using wpAny_pyIter_tuple hT
  refine wpAny_stack_any fun st=>wpAny_pure ?_
  split
  ·rename_i c _ _ _ _ _
   cases (c==Value.type "enumerate") <;> (wp_walk using wpAny_pyIter_tuple hT;exact ⟨_,rfl,h⟩)
  ·wp_walk using wpAny_pyIter_tuple hT
   exact ⟨_,rfl,h⟩
theorem call_enumT (hL:s.heap.IsTuple l items)
  (h:∀h',IsEnum h' (s.heap.objs.size+1) s.heap.objs.size 0 .none->h'.IsTupleIter s.heap.objs.size l 0->(∀b o,s.heap.get? b=some o->h'.get? b=some o)->Q (.ref (s.heap.objs.size+1)) { s with heap:=h' }):
  wpAny (model prog w) A (call (.type "enumerate") [.ref l]) Q E s:=by
 obtain ⟨⟨c,dct,dt,sl⟩,hl,hc,n,hd⟩:=hL
 simp only at hc hd
 subst hc hd
 refine callType_new F.called_enumerate (by decide) (F.typeCall_enumerate_1 _) (F.newCall_enumerate_1 _) (fun obj=>F.args_object_init_2 obj _) F.entry_enumerate_new (meets_enumT l items n dct sl) ⟨hl,?_⟩
 generalize hG:s.heap.push { cls:=.type "tuple_iterator",data:=.fields #[.ref l,.int 0 0] }=G
 have hz:G.objs.size=s.heap.objs.size+1:=by rw [<- hG];exact Heap.size_push ..
 have he:IsEnum (G.push { cls:=.type "enumerate",data:=.fields #[.none,.bool false,.ref s.heap.objs.size,rawInt 0,.none,.none] }) (s.heap.objs.size+1) s.heap.objs.size 0 .none:=by
  have q:=Heap.get?_push_size G (o:={ cls:=.type "enumerate",data:=.fields #[.none,.bool false,.ref s.heap.objs.size,rawInt 0,.none,.none] }) rfl
  rw [hz] at q
  exact q
 show _/\_
 rw [hz]
 exact ⟨⟨_,he,rfl⟩,h _ he ⟨_,Heap.get?_push_of_some _ (by rw [<- hG];exact Heap.get?_push_size _ rfl),rfl,rfl⟩ fun b o x=>Heap.get?_push_of_some _ (by rw [<- hG];exact Heap.get?_push_of_some _ x)⟩
def IteT (a:Addr):It:=⟨fun i H=>∃xs x,H a=some (.tup xs)/\xs[i]?=some x,fun i H v H'=>∃p x xs,H a=some (.tup xs)/\xs[i]?=some x/\v=.ref p/\H p=none/\H'=upd H p (.tup [.int (i:Int),x]),fun i H=>∃xs,H a=some (.tup xs)/\i=xs.length⟩
theorem turn_enumT {K:PySem.W.Frag} (a e it:Addr) (hne:e≠it):Turn P w K (.Tuple es kt pt) (IteT a) [e,it] e (fun i h=>(∃old,IsEnum h e it i old)/\h.IsTupleIter it a i)  where
 mem:=by simp
 obj:=fun i h ⟨⟨old,he⟩,⟨o1,e1,_,d1⟩⟩ c hc=>by
  simp only [List.mem_cons,List.not_mem_nil,or_false] at hc
  rcases hc with rfl | rfl
  ·exact ⟨_,he,fun v q=>by cases q⟩
  ·exact ⟨o1,e1,fun v q=>by rw [d1] at q;cases q⟩
 keep:=fun i h h' ⟨⟨old,he⟩,⟨o1,e1,r1⟩⟩ k=>⟨⟨old,k e (by simp) _ he⟩,⟨o1,k it (by simp) _ e1,r1⟩⟩
 item:=by
  rintro X hP hw hK hc i pins s σ H E I hf ⟨⟨old,he⟩,s1⟩ hg
  subst hP hw hK
  obtain ⟨xs,x,hq,hx⟩:=hg
  obtain ⟨its,rv,p,hz⟩:=I.tuple (SqT.of hq)
  obtain ⟨u,hu,ru⟩:=rv.get hx
  have p':s.heap.IsTuple a its.toArray:=p
  have hlt:i<its.toArray.size:=by
   have:=(List.getElem?_eq_some_iff.mp hu).1
   simpa using this
  have hat:a≠it:=by
   obtain ⟨o,e1,c1,_⟩:=p'
   obtain ⟨o2,e2,c2,_⟩:=s1
   rintro rfl
   rw [e1] at e2
   cases e2
   rw [c1] at c2
   exact absurd c2 (by decide)
  have hae:e≠a:=by
   obtain ⟨o,e1,c1,_⟩:=p'
   rintro rfl
   have he':s.heap.get? e=some _:=he
   rw [e1] at he'
   cases he'
   exact absurd (show Value.type "enumerate"=Value.type "tuple" from c1) (by decide)
  refine wpAny_pyNext_enum_itemD (drawsT (A:=X.A.in1) (I.ok.hd hc) it a hat its.toArray) he ⟨s1,p'⟩ hlt hne (by simp [hne,hae]) fun v g tk pv ho st new hsz gk=>⟨_,rfl,?_⟩
  have ev:v=u:=by
   have:its.toArray[i]?=some v:=pv
   rw [List.getElem?_toArray,hu] at this
   exact (Option.some.inj this).symm
  subst ev
  refine wpAny_letOwnedTupleGo_enum (s:={ s with heap:=g,toks:=tk+1 }) ho fun g' ge gs=>?_
  have up:∀b o,b≠e->g.get? b=some o->g'.get? b=some o:=fun b o hb q=>(gs.2 b hb).trans q
  have ne:s.heap.objs.size≠e:=Nat.ne_of_gt (Heap.lt_size he)
  have tup:a_V X.prog X.w (upd H s.heap.objs.size (.tup [.int (i:Int),x])) g' s.heap.objs.size (.tup [.int (i:Int),x]):=
   ⟨a_i (by show 2≤16777216;decide),[.int i tk,v],.cons ⟨_,rfl⟩ (.cons ru .nil),⟨_,up _ _ ne new,rfl,0,rfl⟩⟩
  refine ⟨.ref s.heap.objs.size,_,I.turnedNew (S:=[e,it]) (h':=g') (t':=tk+1) (fun b o hb q=>up b o (fun z=>hb (by simp [z])) (gk b o (fun z=>hb (by simp [z])) (fun z=>hb (by simp [z])) q)) hf tup,rfl,
   ⟨_,x,xs,hq,hx,rfl,I.hok.fresh (Nat.le_refl _),rfl⟩,⟨⟨_,by rw [Int.natCast_succ];exact ge⟩,st.1.at fun o q=>up _ o (fun z=>hne z.symm) q⟩,fun b hb=>?_⟩
  have lt:b<s.heap.objs.size:=by
   obtain ⟨o1,e1,_⟩:=s1
   simp only [List.mem_cons,List.not_mem_nil,or_false] at hb
   rcases hb with rfl | rfl
   ·exact Heap.lt_size he
   ·exact Heap.lt_size e1
  rw [upd_ne (Nat.ne_of_lt lt)]
  exact (hf b hb).1
 done:=by
  rintro X hP hw hK hc i pins s σ H E I hf ⟨⟨old,he⟩,s1⟩ hstop
  subst hP hw hK
  obtain ⟨xs,hq,rfl⟩:=hstop
  obtain ⟨its,rv,p,hz⟩:=I.tuple (SqT.of hq)
  have p':s.heap.IsTuple a its.toArray:=p
  have hat:a≠it:=by
   obtain ⟨o,e1,c1,_⟩:=p'
   obtain ⟨o2,e2,c2,_⟩:=s1
   rintro rfl
   rw [e1] at e2
   cases e2
   rw [c1] at c2
   exact absurd c2 (by decide)
  have hsz:xs.length=its.toArray.size:=by rw [rv.length];simp
  refine wpAny_pyNext_enum_endD (drawsT (A:=X.A.in1) (I.ok.hd hc) it a hat its.toArray) he ⟨by rw [<- hsz];exact s1,p'⟩ fun g gs=>⟨rfl,?_⟩
  exact I.turnedL (S:=[e,it]) (fun b o hb q=>gs b o (fun z=>hb (by simp [z])) q) hf
 self:=fun _ _ _ _ _ st h=>by
  obtain ⟨⟨old,he⟩,_⟩:=st
  exact wpAny_pyIter_enum he h
namespace ZP
section
variable {prog:Program} {w:World} {A:Around} {E:Value->Shared->Prop} {s:Shared} {z TI TO i1 i2:Addr} {f1 f2:List Addr} {n1 n2 k:Nat} {P1 P2:Nat->Value->Prop} {S1 S2:Nat->Heap->Prop} {a b:Value}
def tupIt (a:Addr):Obj:={ cls:=.type "tuple_iterator",data:=.fields #[.ref a,.int 0 0] }
theorem iter_tup {a:Addr} (ht:s.heap.IsTuple a items) (h:Q (.ref s.heap.objs.size) { s with heap:=s.heap.push (tupIt a) }):wpAny (model prog w) A (pyIter (.ref a)) Q E s:=wpAny_pyIter_tuple ht h
end
end ZP
end L2
namespace L2
open PySem PySem.Spec PyProof.Rows
section
variable {X:Cx}
end
def Over (J:It) (a:Addr) (o:HO) (xs:List V):Prop:=∀H2:Hp,H2 a=some o->(∀i,i<xs.length->J.go i H2)/\(∀i x H3,i<xs.length->J.yld i H2 x H3->H3=H2/\xs[i]?=some x)/\J.stop xs.length H2
theorem over_l {K:PySem.W.Frag}:Over (Itl K a) a (.lst xs) xs:=fun H2 e=>
 ⟨fun i h=>⟨xs,xs[i],SqL.of e,List.getElem?_eq_getElem h⟩,fun i x H3 _ ⟨e1,h⟩=>⟨e1,h xs (SqL.of e)⟩,⟨xs,SqL.of e,Nat.le_refl _⟩⟩
theorem over_t {K:PySem.W.Frag}:Over (Itt K a) a (.tup xs) xs:=fun H2 e=>
 ⟨fun i h=>⟨xs,xs[i],SqT.of e,List.getElem?_eq_getElem h⟩,fun i x H3 _ ⟨e1,h⟩=>⟨e1,h xs (SqT.of e)⟩,⟨xs,SqT.of e,Nat.le_refl _⟩⟩
def iSq (tl:TE):TI:=fun σ H R=>tl σ H fun x H1=>∃a o xs,x=.ref a/\(o=.lst xs\/o=.tup xs)/\H1 a=some o/\∀J,Over J a o xs->R J H1
theorem e_q (hl:PE X l tl):PI X tg l (iSq tl):=by
 intro pins s σ H R I h
 refine thn (hl pins s σ H _ I h) fun v s1 ⟨x,H1,I1,r1,q1⟩=>?_
 obtain ⟨a,o,xs,e,ho,hq,q⟩:=q1
 subst e
 cases r1
 have tail:∀b∈[s1.heap.objs.size],FpOk X pins H1 b:=fun b hb=>by
  have e:b=s1.heap.objs.size:=by simpa using hb
  subst e
  exact I1.fpOk (Nat.le_refl _) (I1.hok.fresh (Nat.le_refl _))
 rcases ho with rfl | rfl
 ·obtain ⟨its,rv,p,hz⟩:=I1.list (SqL.of hq)
  refine wpAny_pyIter_list p.isList ?_
  exact ⟨s1.heap.objs.size,[s1.heap.objs.size],_,_,H1,rfl,I1.kept (t':=s1.toks) fun b o e=>Heap.get?_push_of_some _ e,turn_list a _,⟨_,Heap.get?_push_size _ rfl,rfl,rfl⟩,tail,q _ over_l⟩
 ·obtain ⟨its,rv,p,hz⟩:=I1.tuple (SqT.of hq)
  refine wpAny_pyIter_tuple (show s1.heap.IsTuple a its.toArray from p) ?_
  exact ⟨s1.heap.objs.size,[s1.heap.objs.size],_,_,H1,rfl,I1.kept (t':=s1.toks) fun b o e=>Heap.get?_push_of_some _ e,e_w a _,⟨_,Heap.get?_push_size _ rfl,rfl,rfl⟩,tail,q _ over_t⟩
theorem comp_over {tt:TT} {te:TE} {σ:St} {Q:VK} (ov:Over J a o xs) (hH:H a=some o) (Pv:Addr->Nat->List V->Hp->Prop) (hz:xs.length≤sizeLine)
  (h0:∀D,H D=none->Pv D 0 [] (upd H D (.lst [])))
  (hs:∀(D:Addr) (i:Nat) (x:V) (ys:List V) (H':Hp) (R1:VK) (R2:Hp->Prop),H D=none->xs[i]?=some x->Same H H'->H' D=some (.lst ys)->Pv D i ys H'->
   (∀y H5,H5 D=some (.lst ys)->Same H (upd H5 D (.lst (ys++[y])))->Pv D (i+1) (ys++[y]) (upd H5 D (.lst (ys++[y])))->R1 y H5)->(∀H4,Same H H4->H4 D=some (.lst ys)->Pv D (i+1) ys H4->R2 H4)->
   tt (some x::σ) H' fun b H4=>if b=true then te (some x::σ) H4 R1 else R2 H4)
  (hq:∀D ys H',H D=none->Same H H'->H' D=some (.lst ys)->Pv D xs.length ys H'->Q (.ref D) H'):∀D,H D=none->∃W:Nat->Nat->List V->Hp->Prop,
 (∃m,W 0 m [] (upd H D (.lst [])))/\∀i m ys H2,W i m ys H2->H2 D=some (.lst ys)/\((J.stop i H2/\Q (.ref D) H2)\/(J.go i H2/\ys.length<sizeLine/\∀x H3,J.yld i H2 x H3->
  tt (some x::σ) H3 fun b H4=>if b=true then te (some x::σ) H4 fun y H5=>H5 D=some (.lst ys)/\∃m',m'<m/\W (i+1) m' (ys++[y]) (upd H5 D (.lst (ys++[y])))
   else ∃m',m'<m/\W (i+1) m' ys H4)):=by
 intro D hD
 refine ⟨fun i m ys H2=>m=xs.length - i/\i≤xs.length/\ys.length≤i/\Same H H2/\H2 D=some (.lst ys)/\Pv D i ys H2,⟨xs.length,by simp,Nat.zero_le _,by simp,Same.upd hD,upd_same,h0 D hD⟩,?_⟩
 rintro i m ys H2 ⟨rfl,hi,hy,hsm,hDl,hp⟩
 refine ⟨hDl,?_⟩
 obtain ⟨q1,q2,q3⟩:=ov H2 (hsm _ _ hH)
 by_cases hlt:i<xs.length
 ·refine .inr ⟨q1 i hlt,Nat.lt_of_le_of_lt hy (Nat.lt_of_lt_of_le hlt hz),fun x H3 hyl=>?_⟩
  obtain ⟨e,hx⟩:=q2 i x H3 hlt hyl
  subst e
  exact hs D i x ys H3 _ _ hD hx hsm hDl hp (fun y H5 a b c=>⟨a,xs.length - (i+1),Nat.sub_succ_lt_self _ _ hlt,rfl,hlt,by rw [List.length_append];exact Nat.succ_le_succ hy,b,upd_same,c⟩) (fun H4 a b c=>⟨xs.length - (i+1),Nat.sub_succ_lt_self _ _ hlt,rfl,hlt,Nat.le_succ_of_le hy,a,b,c⟩)
 ·have e:i=xs.length:=Nat.le_antisymm hi (Nat.le_of_not_lt hlt)
  subst e
  exact .inl ⟨q3,hq D ys H2 hD hsm hDl hp⟩
end L2
namespace RA
open PySem L2
end RA
namespace L2
open PySem PySem.Spec PyProof.Rows
section
variable {X:Cx} {elt iter:Expr} {x:Str} {px pos:Pos} {ifs:List Expr} {sc:Scope} {wi:TI} {tt:TT} {te:TE}
theorem ps_setCompS (N2:List Str) {py spos:Pos} (hc:X.calm=true) (hN:X.N.Nodup) (hN2:(x::N2).Nodup) (hj:X.N[j]?=some y) (hyl:Loc X.env.scope y) (hi:PI X (.Name x px) iter wi)
  (hb:∀(cl:List (Str×Addr)) (C:Addr) (fp:List Addr) (s:Shared) (H:Hp),PTs { cxComp X x sc cl C fp s H with N:=x::N2 } ifs tt/\PE { cxComp X x sc cl C fp s H with N:=x::N2 } elt te)
  (hx:sc.names.lookup x=some .local:=by rfl) (hkind:sc.kind=.function:=by rfl)
  (hnames:∀y∈sc.names,y.2=.local->sc.names.lookup y.1=some .local:=by decide +kernel) (hcell:∀y∈sc.names,y.2≠.cell:=by decide +kernel)
  (hfree:(sc.names.all fun y=>y.2 != .free || X.env.scope.names.lookup y.1==some .cell)=true:=by rfl)
  (hlo:(N2.all fun y=>sc.names.lookup y != some .local)=true:=by rfl) (hl2:N2.length=X.N.length:=by rfl) (hz2:((N2.zip X.N).all fun y=>y.1==y.2 || sc.names.lookup y.1==none)=true:=by rfl)
  (hs:∀x,foldedSetIterable iter X.env x=pure x:=by intro _;rfl) (hsw:swapsWith (.ListComp elt [⟨.Name x px,iter,ifs,0⟩] sc pos) (some (.Name y py)) spos.line X.env=pure true:=by rfl)
  (hfy:X.fn y=true\/X.env.scope.names.lookup y=some .local:=by first | exact .inl rfl | exact .inr rfl):
  PS X (.Assign [.Name y py] (.ListComp elt [⟨.Name x px,iter,ifs,0⟩] sc pos) spos) (tAsg (tComp wi tt te) (c_n j)):=by
 intro pins s σ H DD I h
 have hfr:∀y∈sc.names,y.2=.free->X.env.kindOf y.1=some .cell:=fun y hy e=>by
  have q:=List.all_eq_true.mp hfree y hy
  rw [e] at q
  simpa [Env.kindOf] using q
 have hlo':∀y∈N2,sc.names.lookup y≠some .local:=fun y hy e=>by
  have q:=List.all_eq_true.mp hlo y hy
  rw [e] at q
  simp at q
 obtain ⟨cl,hclos,hsub,hhas⟩:=b_R (env:=X.env) (sc:=sc) fun y hy e=>I.ok.has y.1 (.inl (hfr y hy e))
 refine comp_used hsw fun _=>wpAny_comprehension_free (Q:=fun _ s'=>SP X pins DD .next s') rfl hs hclos hkind hnames (thn (hi pins s σ H _ I h) fun v s1 h1=>thn h1 fun itv s2 h2=>?_)
 obtain ⟨it,fp,tn,J,H2,e,I2,T,st2,f2,hW⟩:=h2
 subst e
 have nobinds:∀y∈([]:List (Str×Value)),sc.names.lookup y.1=some .local:=fun y hy=>absurd hy (by simp)
 refine wpAny_newObj_type ?_
 refine wpAny_newFunctionEnv hcell nobinds (fun h₁ hns₁ hsb₁=>?_) hkind
 dsimp only at hns₁ hsb₁ ⊢
 generalize hHa:s2.heap.push { cls:=.type "list",dict:=none,data:=.seq ([]:List Value).toArray }=Ha at hns₁ hsb₁ ⊢
 have hC:Ha.objs.size=s2.heap.objs.size+1:=by rw [<- hHa,Heap.size_push]
 have hDC:s2.heap.objs.size≠Ha.objs.size:=by rw [hC];exact Nat.ne_of_lt (Nat.lt_succ_self _)
 have hCle:s2.heap.objs.size≤Ha.objs.size:=by rw [hC];exact Nat.le_succ _
 have neC:∀b o,s2.heap.get? b=some o->b≠Ha.objs.size:=fun b o e=>Nat.ne_of_lt (Nat.lt_of_lt_of_le (Heap.lt_size e) hCle)
 have old:∀b o,s2.heap.get? b=some o->h₁.get? b=some o:=fun b o e=>hsb₁.extBut b o (neC b o e) (Heap.get?_push_of_some _ (hHa▸Heap.get?_push_of_some _ e))
 have hacc:h₁.get? s2.heap.objs.size=some { cls:=.type "list",dict:=none,data:=.seq ([]:List Value).toArray }:=hsb₁.extBut _ _ hDC (Heap.get?_push_of_some _ (hHa▸Heap.get?_push_size _ rfl))
 generalize hDe:s2.heap.objs.size=D at *
 generalize hCe:Ha.objs.size=C at *
 have hHD:H2 D=none:=I2.hok.fresh (Nat.le_of_eq hDe)
 have hHC:H2 C=none:=I2.hok.fresh (by omega)
 obtain ⟨W,⟨m0,w0⟩,turn⟩:=hW D hHD
 have fplt:∀b∈fp,b<D:=fun b hb=>by
  obtain ⟨o,e,_⟩:=T.obj _ _ st2 b hb
  rw [<- hDe]
  exact Heap.lt_size e
 let X':Cx:={ cxComp X x sc cl C fp s2 H2 with N:=x::N2 }
 have nofs:∀b∈fp,b∉frs X.stack:=fun b hb z=>by
  rcases List.mem_cons.mp (I2.stkSub b z) with e | e
  ·exact (f2 b hb).2.1 e
  ·exact (f2 b hb).2.2.1 e
 have ok':X'.Ok:=by
  refine ⟨I2.ok.mod,hkind,I2.ok.glob,I2.ok.blt,?_,fun y z c e1 e2=>I2.ok.inj y z c (hsub y c e1) (hsub z c e2),fun y hy=>?_,fun y c e=>absurd (show false=true from e) Bool.false_ne_true,I2.ok.hd,I2.ok.frames,.inl rfl,fun b hb=>⟨?_,fun y c e=>?_⟩,I2.bs,
   Nat.le_trans I2.ok.bsz I2.sz,fun b o e hb=>?_,nofs,I2.stack,I2.stkFree⟩
  ·show s2.heap.objs.size≤C
   omega
  ·rcases hy with hy | hy
   ·rcases relabel_lookup (show (relabel sc X.env).names.lookup y=some .cell from hy) with e | ⟨_,e,_⟩
    ·exact absurd rfl (hcell _ (PySem.mem_of_lookup e))
    ·exact hhas _ (PySem.mem_of_lookup e) rfl
   ·rcases relabel_lookup (show (relabel sc X.env).names.lookup y=some .free from hy) with e | ⟨e,_⟩
    ·exact hhas _ (PySem.mem_of_lookup e) rfl
    ·cases e
  ·exact Nat.ne_of_lt (Nat.lt_of_lt_of_le (fplt b hb) (by omega:D≤C))
  ·exact (f2 b hb).2.2.2.2.1 y c (hsub y c e)
  ·rcases (f2 b hb).2.2.2.1 with z | z
   ·exact I2.ok.noex b o e z
   ·exact absurd (Nat.lt_of_lt_of_le (Nat.lt_of_lt_of_le (Heap.lt_size e) I2.ok.bsz) z) (Nat.lt_irrefl _)
 have I4:∀tk,Inv X' [] (none::σ) (upd H2 D (.lst [])) { s2 with heap:=h₁,toks:=tk }:=fun tk=>by
  refine ⟨ok',rfl,I2.bare,Un.laid old (Nat.le_of_eq hDe) hHD,⟨_,hns₁,fun i y v e1 e2 e3=>?_⟩,fun y c e=>?_,?_,fun y c e=>?_,fun p hp=>?_,I2.hok.laid old (Nat.le_of_eq hDe) ?_,?_⟩
  ·cases i with
   | zero=>simp at e2
   | succ i=>
    have e0:N2[i]?=some y:=by simpa [X',cxComp] using e1
    have e2:σ[i]?=some (some v):=by simpa using e2
    have e3:Vis (relabel sc X.env) y:=e3
    have hyN:y∈N2:=List.mem_of_getElem? e0
    have free:sc.names.lookup y=some .free/\(relabel sc X.env).names.lookup y≠some .local:=by
     rcases e3 with e | e | e
     ·rcases relabel_lookup e with q | ⟨q,_⟩
      ·exact absurd q (hlo' y hyN)
      ·cases q
     ·rcases relabel_lookup e with q | ⟨_,q,_⟩
      ·exact absurd rfl (hcell _ (PySem.mem_of_lookup q))
      ·exact ⟨q,by rw [e];decide⟩
     ·rcases relabel_lookup e with q | ⟨q,_⟩
      ·exact ⟨q,by rw [e];decide⟩
      ·cases q
    have e1:X.N[i]?=some y:=by
     have hi:i<N2.length:=(List.getElem?_eq_some_iff.mp e0).1
     have hi2:i<X.N.length:=by omega
     have hm:(y,X.N[i])∈N2.zip X.N:=by
      have hz:(N2.zip X.N)[i]?=some (y,X.N[i]):=by
       rw [List.getElem?_zip_eq_some]
       exact ⟨e0,List.getElem?_eq_getElem hi2⟩
      exact List.mem_of_getElem? hz
     have q:=List.all_eq_true.mp hz2 _ hm
     rcases Bool.or_eq_true_iff.mp q with q | q
     ·have:y=X.N[i]:=eq_of_beq q
      rw [List.getElem?_eq_getElem hi2,<- this]
     ·have q2:sc.names.lookup y=none:=by simpa using q
      rw [free.1] at q2
      cases q2
    have kc:X.env.kindOf y=some .cell:=hfr _ (PySem.mem_of_lookup free.1) rfl
    obtain ⟨m,hn,hl⟩:=I2.loc
    obtain ⟨u,ru,lk⟩:=hl i y v e1 e2 (.inr (.inl kc))
    rcases lk with ⟨q,_⟩ | ⟨_,c,hcc,⟨o,ho,hd⟩⟩
    ·rw [kc] at q;cases q
    ·obtain ⟨c',hc'⟩:=hhas _ (PySem.mem_of_lookup free.1) rfl
     have e4:=hsub _ _ hc'
     rw [hcc] at e4
     cases e4
     refine ⟨u,ru,.inr ⟨?_,c,hc',⟨o,old c o ho,hd⟩⟩⟩
     rcases e3 with e | e | e
     ·exact absurd e free.2
     ·exact .inl e
     ·exact .inr e
  ·obtain ⟨v,o,ho,hd⟩:=I2.cell y c (hsub y c e)
   exact ⟨v,o,old c o ho,hd⟩
  ·show upd H2 D (.lst []) C=none
   rw [upd_ne (neA (by omega))]
   exact hHC
  ·obtain ⟨v,o,ho,hd⟩:=I2.cell y c (hsub y c e)
   have hlt:=Heap.lt_size ho
   rw [hDe] at hlt
   show upd H2 D (.lst []) c=none
   rw [upd_ne (Nat.ne_of_lt hlt)]
   exact I2.freeC y c (hsub y c e)
  ·exact absurd (show p∈([]:List (Addr×Obj)) from hp) (by simp)
  ·exact ⟨Nat.zero_le _,[],0,.nil,hacc⟩
  ·show (none::σ).length=(x::N2).length
   rw [List.length_cons,List.length_cons,I2.len,hl2]
 have hN':X'.N.Nodup:=hN2
 have hx':X'.env.scope.names.lookup x=some .local:=lookup_relabel_local hx
 obtain ⟨PT',PE'⟩:=hb cl C fp s2 H2
 have fpX:∀{pins':List (Addr×Obj)} {H':Hp},(∀b∈fp,H' b=none)->(∀p∈pins',p.1∉fp)->∀b∈fp,FpOk X' pins' H' b:=fun hn hp b hb=>by
  refine ⟨hn b hb,?_,nofs b hb,.inl hb,fun y c e=>(f2 b hb).2.2.2.2.1 y c (hsub y c e),fun p q z=>?_⟩
  ·exact Nat.ne_of_lt (Nat.lt_of_lt_of_le (fplt b hb) (by omega:D≤C))
  ·rcases List.mem_append.mp q with q | q
   ·exact absurd (show p∈([]:List (Addr×Obj)) from q) (by simp)
   ·exact hp p q (by rw [z];exact hb)
 have loop:∀tk,codeAny (model X.prog X.w) X.A (.compLoop (.ListComp elt [⟨.Name x px,iter,ifs,0⟩] sc pos) 0 (.ref it) (.ref D) (compEnvC sc cl C X.env)) (compPost (model X.prog X.w) X.A X.xe (some (assign (.Name y py) X.env)) (fun _ s'=>SP X pins DD .next s') (.ref D) C) { s2 with heap:=h₁,toks:=tk }:=fun tk=>by
  refine codeAny_compLoop_tests (fun n s'=>∃i ys o H',Inv X' [] (o::σ) H' s'/\tn i s'.heap/\(∀b∈fp,H' b=none)/\W i n ys H') ?_ m0 ⟨0,[],none,_,I4 tk,T.keep _ _ _ st2 fun b hb o e=>old b o e,fun b hb=>?_,w0⟩
  ·rintro n s3 ⟨i,ys,o3,H3,I3,st3,fr3,w3⟩
   obtain ⟨hD3,alt⟩:=turn i n ys H3 w3
   rcases alt with ⟨stop,qn⟩ | ⟨go,hlen,step⟩
   ·refine wpAny_mono (T.done X' rfl rfl rfl hc i [] s3 _ H3 (fun _ _=>False) I3 (fpX fr3 (by simp)) st3 stop) (fun r s4 hpq=>?_) fun _ _ f=>f.elim
    obtain ⟨hr,I4'⟩:=hpq
    subst hr
    obtain ⟨mC,hnC,_⟩:=I4'.loc
    have nC:∀b u,H3 b=some u->b≠C:=fun b u e z=>by rw [z] at e;rw [show H3 C=none from I4'.free] at e;cases e
    have un:Un (frs X.stack) fp H2 H3 s2.heap s4.heap:=
     ⟨fun b o e n1 n2 n3=>I4'.base.keep b o e n1 n2 n3,fun b o e n1 n2 n3=>I4'.base.slot b o e n1 n2 n3,I4'.base.free,fun b o e n1=>I4'.base.there b o e n1,I4'.base.tups,I4'.base.frzs,I4'.base.tbls⟩
    have I5:Inv X pins σ H3 s4:=I2.call' (s':=s4) I4'.os un I4'.hok I4'.bare fun b hb=>⟨(f2 b hb).2.2.2.1,(f2 b hb).2.1,(f2 b hb).2.2.2.2.1,(f2 b hb).2.2.2.2.2⟩
    obtain ⟨oC,epC,esC,hoC,_⟩:=id hnC
    have liveL:∃o,s2.heap.get? X.env.locals=some o:=by obtain ⟨m,⟨o,es,ep,z,_⟩,_⟩:=I2.loc;exact ⟨o,z⟩
    have neL:X.env.locals≠C:=by obtain ⟨o,z⟩:=liveL;exact neC _ o z
    have neCell:∀y c,X.env.cells.lookup y=some c->c≠C:=fun y c e=>by obtain ⟨v,o,r,_⟩:=I2.cell y c e;exact neC c o r
    dsimp only [compPost]
    refine wpAny_assign_Name (d_N I5 hN hj hyl (v:=.ref D) rfl (fun s6 I6 hpq=>?_) hfy)
    obtain ⟨a,sb,ha⟩:=hpq
    have haC:C≠a:=by
     rcases ha with z | z
     ·rw [z];exact Ne.symm neL
     ·exact Ne.symm (neCell _ _ z)
    have hoC6:s6.heap.get? C=some oC:=(sb.2 C haC).trans hoC
    refine ⟨mC,hnC.sameBut sb haC,fun h'' hs''=>?_⟩
    have hlt:C<h''.objs.size:=by rw [hs''.1];exact Heap.lt_size hoC6
    have hok'':HOk X.prog X.w H3 h'':=fun b u e=>(I6.hok b u e).stay (fun c v hcc q=>hs''.extBut c v (by
     rcases hcc with z | z
     ·rw [z];exact nC b u e
     ·exact nC c _ z) q) (fun _ q=>q) fun _ _ q=>q
    have un2:Un (frs X.stack) [C] H3 H3 s6.heap h'':=
     ⟨fun b o e n1 n2 n3=>hs''.extBut b o (fun z=>n3 (by simp [z])) e,fun b o e n1 n2 n3=>⟨o.slots,hs''.extBut b o (fun z=>n3 (by simp [z])) e⟩,fun b o e n1 _=>n1,fun b o e n1=>⟨o,hs''.extBut b o (fun z=>n1 (by simp [z])) e⟩,fun _ _ q=>q,fun _ _ _ q=>q,fun b ps q=>⟨#[],by rw [Array.append_empty];exact q⟩⟩
    refine ⟨_,H3,I6.call' (s':={ s6 with heap:=h'' }) rfl un2 hok'' I6.bare (fun b hb=>?_),qn⟩
    have eb:b=C:=by simpa using hb
    subst eb
    refine ⟨.inr (Nat.le_trans I2.sz (by omega)),Ne.symm neL,neCell,fun p hp z=>?_⟩
    obtain ⟨z1,_⟩:=I2.pin p hp
    exact neC p.1 p.2 z1 z
   ·refine wpAny_mono (T.item X' rfl rfl rfl hc i [] s3 _ H3 (fun _ _=>False) I3 (fpX fr3 (by simp)) st3 go) (fun r s4 hpq=>?_) fun _ _ f=>f.elim
    obtain ⟨u,hr,h4⟩:=hpq
    subst hr
    have eg:(letOwnedTupleGo (.Name x px) (.ref it) u >>= fun _=>assign (.Name x px) (compEnvC sc cl C X.env) u)=assign (.Name x px) (compEnvC sc cl C X.env) u:=pure_bind () _
    show wpAny _ _ (assign (.Name x px) (compEnvC sc cl C X.env) u) _ _ s4
    rw [<- eg]
    refine wpAny_bind (wpAny_mono h4 (fun _ s5 hpq=>?_) fun _ _ f=>f.elim)
    obtain ⟨y,H5,I5,r5,y5,st5,fr5⟩:=hpq
    have I5':=I5.pinned (fpX fr5 (by simp)) (T.obj _ _ st5)
    refine wpAny_mono (a_r (X:=X') (i:=0) (pos:=px) hN' rfl (.inl hx') (.inr hx') _ s5 _ H5 y u (fun σ' H'=>σ'=some y::σ/\H'=H5) I5' r5 ⟨rfl,rfl⟩) (fun _ s6 hpq=>?_) fun _ _ f=>f.elim
    obtain ⟨σ6,H6,I6,e1,e2⟩:=hpq
    subst e1 e2
    refine wpAny_mono (PT' _ s6 _ _ _ I6 (step y _ y5)) (fun ok s7 hpq=>?_) fun _ _ f=>f.elim
    obtain ⟨H7,I7,q7⟩:=hpq
    have again:∀{s8:Shared} {H8:Hp} {ys':List V},Inv X' ([]++d_W fp s5.heap) (some y::σ) H8 s8->(∃m',m'<n/\W (i+1) m' ys' H8)->∃m,m<n/\∃i ys o H',Inv X' [] (o::σ) H' s8/\tn i s8.heap/\(∀b∈fp,H' b=none)/\W i m ys H':=fun {s8 H8 ys'} I8 ⟨m',hm,w8⟩=>by
     refine ⟨m',hm,i+1,ys',some y,H8,I8.unpinned,T.keep _ _ _ st5 fun b hb o e=>(I8.pin (b,o) (List.mem_append_right _ (List.mem_append_right _ (a_v hb e)))).1,fun b hb=>?_,w8⟩
     obtain ⟨o,e,d⟩:=T.obj _ _ st5 b hb
     exact (I8.pin (b,o) (List.mem_append_right _ (List.mem_append_right _ (a_v hb e)))).2.1
    cases ok with
    | false=>exact again I7 q7
    | true=>
     have q7:te (some y::σ) H7 _:=q7
     refine wpAny_mono (PE' _ s7 _ _ _ I7 q7) (fun z s8 hpq=>?_) fun _ _ f=>f.elim
     obtain ⟨yv,H8,I8,r8,hD8,q8⟩:=hpq
     refine wpAny_mono (a_x (X:=X') _ s8 _ H8 (.ref D) [yv] (.ref D) [z] (fun _ H9=>H9=upd H8 D (.lst (ys++[yv]))) I8 rfl (.cons r8 .nil) ⟨D,ys,yv,rfl,rfl,hD8,hlen,rfl⟩) (fun _ s9 hpq=>?_) fun _ _ f=>f.elim
     obtain ⟨_,H9,I9,_,e9⟩:=hpq
     subst e9
     exact again I9 q8
  ·show upd H2 D (.lst []) b=none
   rw [upd_ne (Nat.ne_of_lt (fplt b hb))]
   exact (f2 b hb).1
 exact codeAny_compStart_list (loop _) (T.self _ _ _ _ _ (T.keep _ _ _ st2 fun b hb o e=>old b o e) (loop _))
end
theorem d_c (K:PySem.W.Frag) (hK:X.K=K:=by rfl):IxR X (rIxL K):=by
 subst hK
 exact b_I
theorem c_m (K:PySem.W.Frag) (hK:X.K=K:=by rfl):IxR X (rIxT K):=by
 subst hK
 exact b_d
theorem cutV_take {xs:List V} (h:t≤xs.length):cutV xs none (some (t:Int))=xs.take t:=by
 unfold cutV
 rw [HT.sIx_none,HT.sIx_nat,List.drop_zero,Nat.sub_zero,Nat.min_eq_left h]
end L2
namespace RA
open PySem L2
theorem ar_64 (h0:0≤n) (h1:n<2147483647):-(2 ^ 64)<n/\n<2 ^ 64:=by omega
theorem ar_pos1 {n:Nat} (h:1≤n):(0:Int)<(n:Int):=Int.ofNat_lt.mpr h
theorem ar_room (z:Int) (b m:Nat) (hm:0<m):∃n:Nat,(n:Int)=(b:Int)+z % (m:Int)/\b≤n/\n<b+m:=by
 have h0:=Int.emod_nonneg z (show (m:Int)≠0 by omega)
 have h1:=Int.emod_lt_of_pos z (show (0:Int)<(m:Int) by omega)
 exact ⟨b+(z % (m:Int)).toNat,by omega,by omega,by omega⟩
theorem intsV_zs (ws:List Nat):intsV ws=(zs ws).map V.int:=by
 unfold intsV zs
 rw [List.map_map]
 rfl
theorem intsV_len (ws:List Nat):(intsV ws).length=ws.length:=by simp [intsV]
theorem a_U (h:i<ws.length):(intsV ws)[i]?=some (.int ((ws.getD i 0:Nat):Int)):=by
 unfold intsV
 rw [List.getElem?_map,List.getD_eq_getElem?_getD,List.getElem?_eq_getElem h]
 rfl
theorem b_N {ns:List Nat} (h:r<ns.length):atI (intsV ns) (r:Int)=some (.int ((ns.getD r 0:Nat):Int)):=a_u (a_U h)
theorem b_Z {α:Type} {l:List α} {x:α} (h:l[i]?=some x):l.take (i+1)=l.take i++[x]:=by
 rw [List.take_add_one,h]
 rfl
theorem b_e.row (hl:rows.length=W.length) (h:c_C H rows W) (hr:r<W.length):∃ra,rows[r]?=some ra/\H ra=some (.tup (intsV (W.getD r []))):=by
 have e:rows[r]?=some (rows[r]'(by omega)):=List.getElem?_eq_getElem _
 obtain ⟨ws,h1,h2⟩:=h r _ e
 refine ⟨_,e,?_⟩
 rw [h2,List.getD_eq_getElem?_getD,h1]
 rfl
theorem b_w (s:Same H H') (h:H' p=none):H p=none:=by
 cases e:H p with
 | none=>rfl
 | some o=>rw [s _ _ e] at h;cases h
theorem comp_range {tt:TT} {te:TE} {σ:St} {Q:VK} (Pv:Addr->Nat->List V->Hp->Prop) (hz:n≤sizeLine)
  (h0:∀D,H D=none->Pv D 0 [] (L2.upd H D (.lst [])))
  (hs:∀(D:Addr) (i:Nat) (ys:List V) (H':Hp) (R1:VK) (R2:Hp->Prop),H D=none->i<n->Same H H'->H' D=some (.lst ys)->Pv D i ys H'->
   (∀y H5,H5 D=some (.lst ys)->Same H (L2.upd H5 D (.lst (ys++[y])))->Pv D (i+1) (ys++[y]) (L2.upd H5 D (.lst (ys++[y])))->R1 y H5)->(∀H4,Same H H4->H4 D=some (.lst ys)->Pv D (i+1) ys H4->R2 H4)->
   tt (some (.int (lo+(i:Int)))::σ) H' fun b H4=>if b=true then te (some (.int (lo+(i:Int)))::σ) H4 R1 else R2 H4)
  (hq:∀D ys H',H D=none->Same H H'->H' D=some (.lst ys)->Pv D n ys H'->Q (.ref D) H'):∀D,H D=none->∃W:Nat->Nat->List V->Hp->Prop,
 (∃m,W 0 m [] (L2.upd H D (.lst [])))/\∀i m ys H2,W i m ys H2->H2 D=some (.lst ys)/\(((Itr lo n).stop i H2/\Q (.ref D) H2)\/((Itr lo n).go i H2/\ys.length<sizeLine/\∀x H3,(Itr lo n).yld i H2 x H3->
  tt (some x::σ) H3 fun b H4=>if b=true then te (some x::σ) H4 fun y H5=>H5 D=some (.lst ys)/\∃m',m'<m/\W (i+1) m' (ys++[y]) (L2.upd H5 D (.lst (ys++[y])))
   else ∃m',m'<m/\W (i+1) m' ys H4)):=by
 intro D hD
 refine ⟨fun i m ys H2=>m=n - i/\i≤n/\ys.length≤i/\Same H H2/\H2 D=some (.lst ys)/\Pv D i ys H2,⟨n,by simp,Nat.zero_le _,by simp,Same.upd hD,upd_same,h0 D hD⟩,?_⟩
 rintro i m ys H2 ⟨rfl,hi,hy,hsm,hDl,hp⟩
 refine ⟨hDl,?_⟩
 by_cases hlt:i<n
 ·refine .inr ⟨hlt,Nat.lt_of_le_of_lt hy (Nat.lt_of_lt_of_le hlt hz),fun x H3 hyl=>?_⟩
  obtain ⟨e,hx⟩:=hyl
  subst e hx
  exact hs D i ys H3 _ _ hD hlt hsm hDl hp (fun y H5 a b c=>⟨a,n - (i+1),Nat.sub_succ_lt_self _ _ hlt,rfl,hlt,by rw [List.length_append];exact Nat.succ_le_succ hy,b,upd_same,c⟩) (fun H4 a b c=>⟨n - (i+1),Nat.sub_succ_lt_self _ _ hlt,rfl,hlt,Nat.le_succ_of_le hy,a,b,c⟩)
 ·have e:i=n:=Nat.le_antisymm hi (Nat.le_of_not_lt hlt)
  subst e
  exact .inl ⟨Nat.le_refl _,hq D ys H2 hD hsm hDl hp⟩
theorem map_getD {ws:List Nat} (h:j<ws.length):(ws.map f).getD j 0=f (ws.getD j 0):=by
 rw [List.getD_eq_getElem?_getD,List.getD_eq_getElem?_getD,List.getElem?_map,List.getElem?_eq_getElem h]
 rfl
theorem c_z {ws:List Nat} (h:j<ws.length):ws.getD j 0∈ws:=by
 rw [List.getD_eq_getElem?_getD,List.getElem?_eq_getElem h]
 exact List.getElem_mem h
section
variable {K:PySem.W.Frag} {te:TE} {tt:TT} {σ:St} {H:Hp} {Q:VK} {a c d:Addr} {o:HO} {xs zs:List V}
theorem c_q (htl:∀R:VK,R (.ref a) H->tl σ H R) (ho:o=.lst xs\/o=.tup xs) (hH:H a=some o) (Pv:Addr->Nat->List V->Hp->Prop) (hz:xs.length≤sizeLine)
  (h0:∀D,H D=none->Pv D 0 [] (L2.upd H D (.lst [])))
  (hs:∀(D:Addr) (i:Nat) (x:V) (ys:List V) (H':Hp) (R1:VK) (R2:Hp->Prop),H D=none->xs[i]?=some x->Same H H'->H' D=some (.lst ys)->Pv D i ys H'->
   (∀y H5,H5 D=some (.lst ys)->Same H (L2.upd H5 D (.lst (ys++[y])))->Pv D (i+1) (ys++[y]) (L2.upd H5 D (.lst (ys++[y])))->R1 y H5)->(∀H4,Same H H4->H4 D=some (.lst ys)->Pv D (i+1) ys H4->R2 H4)->
   tt (some x::σ) H' fun b H4=>if b=true then te (some x::σ) H4 R1 else R2 H4)
  (hq:∀D ys H',H D=none->Same H H'->H' D=some (.lst ys)->Pv D xs.length ys H'->Q (.ref D) H'):tComp (iSq tl) tt te σ H Q:=
 htl _ ⟨a,o,xs,rfl,ho,hH,fun J ov=>comp_over ov hH Pv hz h0 hs hq⟩
theorem c_f {n:Nat} (ht:∀R:List V->Hp->Prop,R [.int (n:Int)] H->t σ H R) (hn:n≤1000) (Pv:Addr->Nat->List V->Hp->Prop)
  (h0:∀D,H D=none->Pv D 0 [] (L2.upd H D (.lst [])))
  (hs:∀(D:Addr) (i:Nat) (ys:List V) (H':Hp) (R1:VK) (R2:Hp->Prop),H D=none->i<n->Same H H'->H' D=some (.lst ys)->Pv D i ys H'->
   (∀y H5,H5 D=some (.lst ys)->Same H (L2.upd H5 D (.lst (ys++[y])))->Pv D (i+1) (ys++[y]) (L2.upd H5 D (.lst (ys++[y])))->R1 y H5)->(∀H4,Same H H4->H4 D=some (.lst ys)->Pv D (i+1) ys H4->R2 H4)->
   tt (some (.int (0+(i:Int)))::σ) H' fun b H4=>if b=true then te (some (.int (0+(i:Int)))::σ) H4 R1 else R2 H4)
  (hq:∀D ys H',H D=none->Same H H'->H' D=some (.lst ys)->Pv D n ys H'->Q (.ref D) H'):tComp (iRng1 t) tt te σ H Q:=
 ht _ ⟨(n:Int),rfl,by omega,by omega,comp_range (n:=n) Pv (a_i (by omega)) h0 hs hq⟩
end
section
variable {P:Program} {w:World} {H:Hp} {d q:Addr} {ps:List (Nat×Nat)}
end
theorem len1 {α:Type} {l:List α} (h:l.length=1):∃a,l=[a]:=match l,h with | [a],_=>⟨a,rfl⟩
theorem len2 {α:Type} {l:List α} (h:l.length=2):∃a b,l=[a,b]:=match l,h with | [a,b],_=>⟨a,b,rfl⟩
theorem len3 {α:Type} {l:List α} (h:l.length=3):∃a b c,l=[a,b,c]:=match l,h with | [a,b,c],_=>⟨a,b,c,rfl⟩
theorem len4 {α:Type} {l:List α} (h:l.length=4):∃a b c d,l=[a,b,c,d]:=match l,h with | [a,b,c,d],_=>⟨a,b,c,d,rfl⟩
end RA
namespace RA
theorem lexd_snoc (L:List Nat) (c d:Nat):∀{a b:List Nat},lexd L a b=true->lexd L (a++[c]) (b++[d])=true
 | [],_,h=>by simp [lexd] at h
 | _::_,[],h=>by simp [lexd] at h
 | x::a,y::b,h=>by
  rw [List.cons_append,List.cons_append,lexd]
  rw [lexd] at h
  by_cases e:x=y
  ·rw [if_pos e] at h ⊢
   exact lexd_snoc L c d h
  ·rw [if_neg e] at h ⊢
   exact h
theorem e_c (L:List Nat) (c:Nat):∀{a b:List Nat},a.length=b.length->lexd L (a++[c]) (b++[c])=true->lexd L a b=true
 | [],[],_,h=>by simp [lexd] at h
 | [],_::_,e,_=>by simp at e
 | _::_,[],e,_=>by simp at e
 | x::a,y::b,e,h=>by
  rw [List.cons_append,List.cons_append,lexd] at h
  rw [lexd]
  by_cases q:x=y
  ·rw [if_pos q] at h ⊢
   exact e_c L c (by simpa using e) h
  ·rw [if_neg q] at h ⊢
   exact h
theorem lexd_same (L:List Nat) {c d:Nat} (hcd:L.idxOf c<L.idxOf d):∀a:List Nat,lexd L (a++[c]) (a++[d])=true
 | []=>by
  rw [List.nil_append,List.nil_append,lexd,if_neg (fun e=>by rw [e] at hcd;omega)]
  exact decide_eq_true hcd
 | x::a=>by
  rw [List.cons_append,List.cons_append,lexd,if_pos rfl]
  exact lexd_same L hcd a
theorem e_I (L:List Nat):∀{a b:List Nat},lexd L a b=true->lexd L b a=false
 | [],_,h=>by simp [lexd] at h
 | _::_,[],h=>by simp [lexd] at h
 | x::a,y::b,h=>by
  rw [lexd] at h ⊢
  by_cases e:x=y
  ·rw [if_pos e] at h
   rw [if_pos e.symm]
   exact e_I L h
  ·rw [if_neg e] at h
   rw [if_neg (Ne.symm e)]
   have:=of_decide_eq_true h
   exact decide_eq_false (by omega)
theorem e_G (L:List Nat):∀{a b c:List Nat},lexd L a b=true->lexd L b c=true->lexd L a c=true
 | [],_,_,h,_=>by simp [lexd] at h
 | _::_,[],_,h,_=>by simp [lexd] at h
 | _::_,_::_,[],_,h=>by simp [lexd] at h
 | x::a,y::b,z::c,h,k=>by
  rw [lexd] at h k ⊢
  by_cases e:x=y
  ·subst e
   rw [if_pos rfl] at h
   by_cases f:x=z
   ·rw [if_pos f] at k ⊢
    exact e_G L h k
   ·rw [if_neg f] at k ⊢
    exact k
  ·rw [if_neg e] at h
   have h1:=of_decide_eq_true h
   by_cases f:y=z
   ·subst f
    rw [if_neg e]
    exact h
   ·rw [if_neg f] at k
    have k1:=of_decide_eq_true k
    rw [if_neg (fun g=>by rw [g] at h1;omega)]
    exact decide_eq_true (by omega)
theorem e_H {L:List Nat}:∀{a b:List Nat},a.length=b.length->(∀c∈a,c∈L)->(∀c∈b,c∈L)->lexd L a b=true\/a=b\/lexd L b a=true
 | [],[],_,_,_=>.inr (.inl rfl)
 | [],_::_,e,_,_=>by simp at e
 | _::_,[],e,_,_=>by simp at e
 | x::a,y::b,e,ha,hb=>by
  rw [lexd,lexd]
  by_cases q:x=y
  ·subst q
   rw [if_pos rfl,if_pos rfl]
   rcases e_H (a:=a) (b:=b) (by simpa using e) (fun c hc=>ha c (by simp [hc])) (fun c hc=>hb c (by simp [hc])) with h | h | h
   ·exact .inl h
   ·exact .inr (.inl (by rw [h]))
   ·exact .inr (.inr h)
  ·rw [if_neg q,if_neg (Ne.symm q)]
   rcases Nat.lt_trichotomy (L.idxOf x) (L.idxOf y) with h | h | h
   ·exact .inl (decide_eq_true h)
   ·exact absurd (idx_inj (ha x (by simp)) h) q
   ·exact .inr (.inr (decide_eq_true h))
section
variable {L a b c:List Nat}
theorem d_v (h:a.length<b.length):ear L a b=true:=by
 unfold ear
 rw [if_pos (by omega)]
 exact decide_eq_true h
theorem c_A (h:a.length=b.length):ear L a b=lexd L a b:=by
 unfold ear
 rw [if_neg (by simpa using h)]
theorem e_L (h:ear L a b=true):a.length≤b.length:=by
 by_cases e:a.length=b.length
 ·omega
 ·unfold ear at h
  rw [if_pos e] at h
  have:=of_decide_eq_true h
  omega
theorem ear_snoc (x y:Nat) (h:ear L a b=true):ear L (a++[x]) (b++[y])=true:=by
 have hl:=e_L h
 by_cases e:a.length=b.length
 ·rw [c_A (by simp [e])]
  rw [c_A e] at h
  exact lexd_snoc L x y h
 ·exact d_v (by simp;omega)
theorem ear_same (h:L.idxOf x<L.idxOf y):ear L (a++[x]) (a++[y])=true:=by
 rw [c_A (by simp)]
 exact lexd_same L h a
theorem d_f (h:ear L a b=true):ear L b a=false:=by
 have hl:=e_L h
 by_cases e:a.length=b.length
 ·rw [c_A e] at h
  rw [c_A e.symm]
  exact e_I L h
 ·unfold ear
  rw [if_pos (Ne.symm e)]
  exact decide_eq_false (by omega)
theorem ear_trans (h:ear L a b=true) (k:ear L b c=true):ear L a c=true:=by
 have h1:=e_L h
 have h2:=e_L k
 by_cases e:a.length=c.length
 ·rw [c_A (by omega)] at h k
  rw [c_A e]
  exact e_G L h k
 ·exact d_v (by omega)
theorem ear_nil:ear L a []=false:=by
 unfold ear
 by_cases e:a.length=([]:List Nat).length
 ·rw [if_neg (by simpa using e)]
  cases a <;> simp [lexd]
 ·rw [if_pos e]
  simp
theorem ear_total (ha:∀x∈a,x∈L) (hb:∀x∈b,x∈L):ear L a b=true\/a=b\/ear L b a=true:=by
 by_cases e:a.length=b.length
 ·rw [c_A e,c_A e.symm]
  exact e_H e ha hb
 ·by_cases h:a.length<b.length
  ·exact .inl (d_v h)
  ·exact .inr (.inr (d_v (by omega)))
theorem ear_le_trans (ha:∀x∈a,x∈L) (hb:∀x∈b,x∈L) (h:ear L b a=false) (k:ear L c b=false):ear L c a=false:=by
 cases q:ear L c a with
 | false=>rfl
 | true=>
  rcases ear_total ha hb with t | t | t
  ·rw [ear_trans q t] at k
   cases k
  ·rw [<- t,q] at k
   cases k
  ·rw [t] at h
   cases h
theorem ear_le_snoc (x:Nat) (h:ear L b a=false):ear L (b++[x]) (a++[x])=false:=by
 cases q:ear L (b++[x]) (a++[x]) with
 | false=>rfl
 | true=>
  have hl:=e_L q
  by_cases e:b.length=a.length
  ·rw [c_A (by simp [e])] at q
   rw [c_A e,e_c L x e q] at h
   cases h
  ·rw [d_v (by simp at hl;omega)] at h
   cases h
end
section
variable {κ:Type} [DecidableEq κ]
def runG (g:κ->Nat->κ) (L:List Nat) (s:κ) (w:List Nat):κ:=w.foldl (fun t c=>g t (L.idxOf c)) s
theorem c_w (g:κ->Nat->κ) (L:List Nat) (s:κ) (w:List Nat) (c:Nat):runG g L s (w++[c])=g (runG g L s w) (L.idxOf c):=by
 unfold runG
 rw [List.foldl_append]
 rfl
structure Bf (g:κ->Nat->κ) (L:List Nat) (s:κ) (ts:List κ) (ws:List (List Nat)) (n k:Nat):Prop where
 len:ts.length=ws.length
 nd:ts.Nodup
 t0:ts[0]?=some s
 w0:ws[0]?=some []
 srt:∀(i j:Nat) (a b:List Nat),i<j->ws[i]?=some a->ws[j]?=some b->ear L a b=true
 lead:∀(i:Nat) (t:κ) (a:List Nat),ts[i]?=some t->ws[i]?=some a->(∀c∈a,c∈L)/\runG g L s a=t
 par:∀(j:Nat) (b:List Nat),ws[j]?=some b->b=[]\/∃(p q:Nat) (a:List Nat),ws[p]?=some a/\q<L.length/\b=a++[L.getD q 0]/\(p<n\/(p=n/\q<k))
 fin:∀(r q:Nat) (t:κ) (a:List Nat),(r<n\/(r=n/\q<k))->q<L.length->ts[r]?=some t->ws[r]?=some a->∃(j:Nat) (b:List Nat),ts[j]?=some (g t q)/\ws[j]?=some b/\ear L (a++[L.getD q 0]) b=false
variable {g:κ->Nat->κ} {L:List Nat} {s:κ} {ts:List κ} {ws:List (List Nat)} {n k:Nat}
theorem Bf.start (g:κ->Nat->κ) (L:List Nat) (s:κ):Bf g L s [s] [[]] 0 0 where
 len:=rfl
 nd:=by simp
 t0:=rfl
 w0:=rfl
 srt:=fun i j a b hij ha hb=>by
  have:=(List.getElem?_eq_some_iff.mp hb).1
  simp at this
  omega
 lead:=fun i t a ht ha=>by
  match i,ht,ha with
  | 0,ht,ha=>cases ht;cases ha;exact ⟨fun c hc=>by simp at hc,rfl⟩
  | i+1,ht,_=>simp at ht
 par:=fun j b hb=>by
  match j,hb with
  | 0,hb=>cases hb;exact .inl rfl
  | j+1,hb=>simp at hb
 fin:=fun r q t a h=>by omega
theorem Bf.behind (h:Bf g L s ts ws n k) (nd:L.Nodup) {a:List Nat} (ha:ws[n]?=some a) (hk:k<L.length) {j:Nat} {b:List Nat} (hb:ws[j]?=some b):ear L b (a++[L.getD k 0])=true:=by
 rcases h.par j b hb with rfl | ⟨p,q,a',hp,hq,rfl,lt⟩
 ·exact d_v (by simp)
 ·rcases lt with lt | ⟨rfl,lt⟩
  ·exact ear_snoc _ _ (h.srt p n a' a lt hp ha)
  ·rw [ha] at hp
   cases hp
   refine ear_same ?_
   have e1:L.idxOf (L.getD q 0)=q:=by rw [List.getD_eq_getElem?_getD,List.getElem?_eq_getElem hq];exact idx_get nd hq
   have e2:L.idxOf (L.getD k 0)=k:=by rw [List.getD_eq_getElem?_getD,List.getElem?_eq_getElem hk];exact idx_get nd hk
   rw [e1,e2]
   exact lt
theorem lt_step (h:r<n\/(r=n/\q<k+1)):(r<n\/(r=n/\q<k))\/(r=n/\q=k):=by omega
theorem Bf.old (h:Bf g L s ts ws n k) (nd:L.Nodup) {t:κ} {a:List Nat} (ht:ts[n]?=some t) (ha:ws[n]?=some a) (hk:k<L.length) (hm:g t k∈ts):Bf g L s ts ws n (k+1):=
 { h with
  par:=fun j b hb=>by
   rcases h.par j b hb with e | ⟨p,q,a',h1,h2,h3,h4⟩
   ·exact .inl e
   ·exact .inr ⟨p,q,a',h1,h2,h3,by omega⟩
  fin:=fun r q t' a' hr hq ht' ha'=>by
   rcases lt_step hr with hr | ⟨rfl,rfl⟩
   ·exact h.fin r q t' a' hr hq ht' ha'
   ·rw [ht] at ht'
    rw [ha] at ha'
    cases ht'
    cases ha'
    obtain ⟨j,hj⟩:=List.mem_iff_getElem?.mp hm
    have hl:j<ws.length:=by rw [<- h.len];exact (List.getElem?_eq_some_iff.mp hj).1
    exact ⟨j,ws[j],hj,List.getElem?_eq_getElem hl,d_f (h.behind nd ha hk (List.getElem?_eq_getElem hl))⟩ }
theorem Bf.new (h:Bf g L s ts ws n k) (nd:L.Nodup) {t:κ} {a:List Nat} (ht:ts[n]?=some t) (ha:ws[n]?=some a) (hk:k<L.length) (hm:g t k∉ts):Bf g L s (ts++[g t k]) (ws++[a++[L.getD k 0]]) n (k+1):=by
 have gk:L.getD k 0=L[k]:=by rw [List.getD_eq_getElem?_getD,List.getElem?_eq_getElem hk];rfl
 have up:∀{α:Type} {l:List α} {x y:α} {i:Nat},l[i]?=some y->(l++[x])[i]?=some y:=fun {α l x y i} e=>by
  rw [List.getElem?_append_left (List.getElem?_eq_some_iff.mp e).1]
  exact e
 have split:∀{α:Type} {l:List α} {x y:α} {i:Nat},(l++[x])[i]?=some y->l[i]?=some y\/(i=l.length/\y=x):=fun {α l x y i} e=>by
  by_cases hi:i<l.length
  ·rw [List.getElem?_append_left hi] at e
   exact .inl e
  ·rw [List.getElem?_append_right (by omega)] at e
   have:i - l.length=0:=by
    have:=(List.getElem?_eq_some_iff.mp e).1
    simp at this
    omega
   rw [this] at e
   exact .inr ⟨by omega,(Option.some.inj e).symm⟩
 have last:(ts++[g t k])[ts.length]?=some (g t k):=by rw [List.getElem?_append_right (Nat.le_refl _),Nat.sub_self];rfl
 have lastw:(ws++[a++[L.getD k 0]])[ws.length]?=some (a++[L.getD k 0]):=by rw [List.getElem?_append_right (Nat.le_refl _),Nat.sub_self];rfl
 obtain ⟨hin,hrun⟩:=h.lead n t a ht ha
 refine ⟨by simp [h.len],?_,up h.t0,up h.w0,fun i j x y hij hx hy=>?_,fun i t' x ht' hx=>?_,fun j b hb=>?_,fun r q t' x hr hq ht' hx=>?_⟩
 ·rw [List.nodup_append]
  exact ⟨h.nd,by simp,fun x hx y hy e=>hm (by rw [List.mem_singleton.mp hy] at e;rw [<- e];exact hx)⟩
 ·rcases split hy with hy | ⟨rfl,rfl⟩
  ·rcases split hx with hx | ⟨rfl,rfl⟩
   ·exact h.srt i j x y hij hx hy
   ·have:=(List.getElem?_eq_some_iff.mp hy).1
    omega
  ·rcases split hx with hx | ⟨rfl,rfl⟩
   ·exact h.behind nd ha hk hx
   ·omega
 ·rcases split ht' with ht' | ⟨rfl,rfl⟩
  ·rcases split hx with hx | ⟨rfl,rfl⟩
   ·exact h.lead i t' x ht' hx
   ·have:=(List.getElem?_eq_some_iff.mp ht').1
    rw [h.len] at this
    omega
  ·rcases split hx with hx | ⟨_,rfl⟩
   ·have:=(List.getElem?_eq_some_iff.mp hx).1
    rw [h.len] at this
    omega
   ·refine ⟨fun c hc=>?_,?_⟩
    ·rcases List.mem_append.mp hc with hc | hc
     ·exact hin c hc
     ·rw [List.mem_singleton.mp hc,gk]
      exact List.getElem_mem hk
    ·rw [c_w,hrun,gk,idx_get nd hk]
 ·rcases split hb with hb | ⟨rfl,rfl⟩
  ·rcases h.par j b hb with e | ⟨p,q,a',h1,h2,h3,h4⟩
   ·exact .inl e
   ·exact .inr ⟨p,q,a',up h1,h2,h3,by omega⟩
  ·exact .inr ⟨n,k,a,up ha,hk,rfl,.inr ⟨rfl,Nat.lt_succ_self k⟩⟩
 ·have hrn:r≤n:=by omega
  have hn:=(List.getElem?_eq_some_iff.mp ht).1
  have ht'':ts[r]?=some t':=by rw [List.getElem?_append_left (by omega)] at ht';exact ht'
  have hx':ws[r]?=some x:=by rw [List.getElem?_append_left (by rw [<- h.len];omega)] at hx;exact hx
  rcases lt_step hr with hr | ⟨rfl,rfl⟩
  ·obtain ⟨j,b,e1,e2,e3⟩:=h.fin r q t' x hr hq ht'' hx'
   exact ⟨j,b,up e1,up e2,e3⟩
  ·rw [ht] at ht''
   rw [ha] at hx'
   cases ht''
   cases hx'
   refine ⟨ts.length,_,last,by rw [h.len];exact lastw,?_⟩
   cases q':ear L (a++[L.getD q 0]) (a++[L.getD q 0]) with
   | false=>rfl
   | true=>exact q'.symm.trans (d_f q')
theorem Bf.next (h:Bf g L s ts ws n L.length):Bf g L s ts ws (n+1) 0:=
 { h with
  par:=fun j b hb=>by
   rcases h.par j b hb with e | ⟨p,q,a',h1,h2,h3,h4⟩
   ·exact .inl e
   ·exact .inr ⟨p,q,a',h1,h2,h3,by omega⟩
  fin:=fun r q t a hr hq ht ha=>h.fin r q t a (by omega) hq ht ha }
theorem Bf.told (h:Bf g L s ts ws ts.length 0) (nd:L.Nodup):∀(w:List Nat) (m:Nat),w.length=m->(∀c∈w,c∈L)->∃(j:Nat) (b:List Nat),ts[j]?=some (runG g L s w)/\ws[j]?=some b/\ear L w b=false:=by
 intro w m
 induction m generalizing w with
 | zero=>
  intro hm _
  rw [List.length_eq_zero_iff.mp hm]
  exact ⟨0,[],h.t0,h.w0,ear_nil⟩
 | succ m ih=>
  intro hm hw
  obtain ⟨c,v,rfl⟩:∃c v,w=v++[c]:=⟨w.getLast (by intro z;rw [z] at hm;cases hm),w.dropLast,(List.dropLast_concat_getLast _).symm⟩
  have hv:∀x∈v,x∈L:=fun x hx=>hw x (by simp [hx])
  have hc:c∈L:=hw c (by simp)
  obtain ⟨r,a,e1,e2,e3⟩:=ih v (by simpa using hm) hv
  have hr:=(List.getElem?_eq_some_iff.mp e1).1
  have hi:L.idxOf c<L.length:=List.idxOf_lt_length_of_mem hc
  obtain ⟨j,b,f1,f2,f3⟩:=h.fin r (L.idxOf c) _ a (.inl hr) hi e1 e2
  have gc:L.getD (L.idxOf c) 0=c:=by rw [List.getD_eq_getElem?_getD,List.getElem?_eq_getElem hi];exact List.getElem_idxOf hi
  rw [gc] at f3
  obtain ⟨ha,_⟩:=h.lead r _ a e1 e2
  refine ⟨j,b,by rw [c_w];exact f1,f2,?_⟩
  obtain ⟨hb,_⟩:=h.lead j _ b f1 f2
  refine ear_le_trans (b:=a++[c]) hb (fun x hx=>?_) f3 (ear_le_snoc c e3)
  rcases List.mem_append.mp hx with hx | hx
  ·exact ha x hx
  ·rw [List.mem_singleton.mp hx]
   exact hc
def leftOf (U ts:List κ):Nat:=U.countP fun x=>!decide (x∈ts)
theorem e_d {U ts:List κ} {x:κ} (hU:x∈U) (hx:x∉ts):leftOf U (ts++[x])<leftOf U ts:=by
 refine countP_lt (fun z hz h=>?_) ⟨x,hU,?_,?_⟩
 ·simp only [Bool.not_eq_true',decide_eq_false_iff_not] at h ⊢
  exact fun q=>h (List.mem_append_left _ q)
 ·simp only [Bool.not_eq_true',decide_eq_false_iff_not]
  exact hx
 ·simp only [Bool.not_eq_false',decide_eq_true_eq]
  exact List.mem_append_right _ (List.mem_singleton.mpr rfl)
end
end RA
namespace L2
open PySem PySem.Spec PyProof.Rows
structure d_M (N ps fr:List Str) (sc:Scope):Prop where
 kind:sc.kind=.function
 co:sc.isCoroutine=false
 gen:sc.isGenerator=false
 nd:N.Nodup
 pre:N.take ps.length=ps
 suf:N.drop (N.length - fr.length)=fr
 fit:ps.length+fr.length≤N.length
 par:∀x∈ps,sc.names.lookup x=some .local
 nocell:∀y∈sc.names,y.2≠.cell
structure ClosAt (h:Heap) (clos:List (Str×Addr)) (sc:Scope) (fr:List Str) (fvs:List V):Prop where
 inj:∀y z c,clos.lookup y=some c->clos.lookup z=some c->y=z
 has:∀y∈sc.names,y.2=.free->∃c,clos.lookup y.1=some c
 cell:∀y c,clos.lookup y=some c->∃v,h.IsCell c v
 len:fvs.length=fr.length
 val:∀(i:Nat) (y:Str) (v:V),fr[i]?=some y->fvs[i]?=some v->(sc.names.lookup y=some .free)/\∃c u,clos.lookup y=some c/\h.IsCell c (some u)/\RelV v u
def cxOfC (CX:CXT) (P:Program) (w:World) (K:PySem.W.Frag) (mg:Str->Option Value) (base:Heap) (N:List Str) (qual:Str) (scope:Scope) (f:Addr) (cd:Value) (clos:List (Str×Addr)) (A:Around) (outer:List Env) (s:Shared) (H:Hp) (E:XK):Cx where
 prog:=P
 w:=w
 K:=K
 mg:=mg
 base:=base
 A:=A.deeper (PySem.W.envX qual scope s.heap.objs.size f cd clos)
 N:=N
 s₀:=s
 H₀:=H
 env:=PySem.W.envX qual scope s.heap.objs.size f cd clos
 outer:=outer
 stack:=PySem.W.envX qual scope s.heap.objs.size f cd clos::outer
 ex:=[]
 calm:=true
 fn:=fun _=>false
 pn:=[]
 xe:=fun e s'=>wpAny (model P w) (A.deeper (PySem.W.envX qual scope s.heap.objs.size f cd clos)) (leaving (PySem.W.envX qual scope s.heap.objs.size f cd clos) e) (fun _ s''=>CX outer H s E e s'') (fun e' s''=>CX outer H s E e' s'') s'
def e_x (N:List Str) (vs fvs:List V):St:=vs.map some++(List.replicate (N.length - vs.length - fvs.length) none++fvs.map some)
theorem rev_zip:∀{ps:List Str} {us:List Value} {i:Nat},ps.Nodup->ps[i]?=some x->us[i]?=some v->(ps.zip us).reverse.lookup x=some v:=by
 intro ps us i nd h1 h2
 have hm:(x,v)∈(ps.zip us).reverse:=by
  rw [List.mem_reverse]
  have hz:(ps.zip us)[i]?=some (x,v):=by rw [List.getElem?_zip_eq_some];exact ⟨h1,h2⟩
  exact List.mem_of_getElem? hz
 have uniq:∀v',(x,v')∈(ps.zip us).reverse->v'=v:=fun v' hm'=>by
  rw [List.mem_reverse] at hm'
  obtain ⟨j,hj⟩:=List.mem_iff_getElem?.mp hm'
  rw [List.getElem?_zip_eq_some] at hj
  have e:j=i:=nodup_ix nd hj.1 h1
  subst e
  have:=hj.2
  rw [h2] at this
  exact (Option.some.inj this).symm
 cases e:(ps.zip us).reverse.lookup x with
 | none=>
  have:=List.lookup_eq_none_iff.mp e _ hm
  simp at this
 | some v'=>rw [uniq v' (PySem.mem_of_lookup e)]
section
variable {CX:CXT} {P:Program} {w:World} {K:PySem.W.Frag} {mg:Str->Option Value} {base:Heap} {N ps fr:List Str} {qual:Str} {scope:Scope} {f:Addr} {cd:Value} {clos:List (Str×Addr)} {A:Around} {outer:List Env} {s:Shared} {H:Hp} {E:XK} {us:List Value} {vs fvs:List V}
theorem inv_startC (S:d_M N ps fr scope) (C:ClosAt base clos scope fr fvs) (hd:A.handled=none) (e0:Env0 P w K mg base A outer s H) (hl:vs.length=ps.length) (r:Vals vs us)
  (hns:h'.Ns s.heap.objs.size (fun x=>(ps.zip us).reverse.lookup x)) (hsb:Heap.SameBut s.heap.objs.size (s.heap.push { cls:=.type "frame",data:=.dict #[] }) h'):
  Inv (cxOfC CX P w K mg base N qual scope f cd clos A outer s H E) [] (e_x N vs fvs) H { s with heap:=h',toks:=tk }:=by
 have hk:∀b o,s.heap.get? b=some o->h'.get? b=some o:=fun b o e=>hsb.extBut b o (Nat.ne_of_lt (Heap.lt_size e)) (Heap.get?_push_of_some _ e)
 have noA:∀b:Addr,b∉(cxOfC CX P w K mg base N qual scope f cd clos A outer s H E).ex:=fun b z=>absurd (show b∈([]:List Addr) from z) (by simp)
 have cellK:∀c v,base.IsCell c v->h'.IsCell c v:=fun c v ⟨o,ho,hd⟩=>⟨o,hk c o (e0.bs c o ho).1,hd⟩
 have hus:us.length=ps.length:=by rw [<- r.length];exact hl
 have hfit:=S.fit
 have hfl:=C.len
 refine ⟨⟨e0.mod,S.kind,rfl,rfl,Nat.le_refl _,fun y z c h1 h2=>C.inj y z c h1 h2,fun y hy=>?_,fun y c h=>absurd (show false=true from h) Bool.false_ne_true,fun _=>hd,Around.frames_deeper e0.frames,.inr ⟨rfl,rfl⟩,fun b z=>absurd z (noA b),e0.bs,e0.bsz,fun b _ _=>noA b,fun b z=>absurd z (noA b),e0.funs,e0.frf⟩,
  rfl,e0.bare,Un.kept hk,⟨_,hns,fun i y v h1 h2 h3=>?_⟩,fun y c h=>?_,e0.hok.fresh (Nat.le_refl _),fun y c h=>?_,fun p hp=>absurd (show p∈([]:List (Addr×Obj)) from hp) (by simp),e0.hok.kept hk,?_⟩
 ·have hy:scope.names.lookup y=some .cell\/scope.names.lookup y=some .free:=hy
  rcases hy with hy | hy
  ·exact absurd rfl (S.nocell _ (PySem.mem_of_lookup hy))
  ·exact C.has _ (PySem.mem_of_lookup hy) rfl
 ·have h1:N[i]?=some y:=h1
  have hi:i<N.length:=(List.getElem?_eq_some_iff.mp h1).1
  unfold e_x at h2
  by_cases hiv:i<vs.length
  ·have ha:vs[i]?=some v:=by
    rw [List.getElem?_append_left (by simpa using hiv),List.getElem?_map] at h2
    cases e:vs[i]? with
    | none=>rw [e] at h2;cases h2
    | some a=>rw [e] at h2;cases h2;rfl
   obtain ⟨u,hu,rv⟩:=r.get ha
   have hp:ps[i]?=some y:=by
    rw [<- S.pre,List.getElem?_take_of_lt (by omega)];exact h1
   have ndP:ps.Nodup:=by rw [<- S.pre];exact S.nd.sublist (List.take_sublist _ _)
   exact ⟨u,rv,.inl ⟨S.par y (List.mem_of_getElem? hp),rev_zip ndP hp hu⟩⟩
  ·rw [List.getElem?_append_right (by simpa using hiv)] at h2
   rw [List.length_map] at h2
   by_cases hir:i - vs.length<N.length - vs.length - fvs.length
   ·rw [List.getElem?_append_left (by simpa using hir),List.getElem?_replicate,if_pos hir] at h2
    cases h2
   ·rw [List.getElem?_append_right (by simpa using hir),List.length_replicate,List.getElem?_map] at h2
    have ej:i - vs.length - (N.length - vs.length - fvs.length)=i - (N.length - fr.length):=by omega
    rw [ej] at h2
    cases e:fvs[i - (N.length - fr.length)]? with
    | none=>rw [e] at h2;cases h2
    | some a=>
     rw [e] at h2
     cases h2
     have hf:fr[i - (N.length - fr.length)]?=some y:=by
      have q:(N.drop (N.length - fr.length))[i - (N.length - fr.length)]?=some y:=by
       rw [List.getElem?_drop,show N.length - fr.length+(i - (N.length - fr.length))=i by omega]
       exact h1
      rw [S.suf] at q
      exact q
     obtain ⟨k1,c,u,k2,k3,k4⟩:=C.val _ _ _ hf e
     exact ⟨u,k4,.inr ⟨.inr k1,c,k2,cellK c _ k3⟩⟩
 ·obtain ⟨v,z⟩:=C.cell y c h
  exact ⟨v,cellK c v z⟩
 ·obtain ⟨v,o,ho,_⟩:=C.cell y c h
  exact (e0.bs c o ho).2
 ·unfold e_x
  show _=N.length
  simp only [List.length_append,List.length_map,List.length_replicate]
  omega
theorem fn_ofC (ho:base.get? f=some o) (hd:o.data=.func (PySem.W.fnX name qual params body scope clos .none .none doc pm none (.ref c') ctv))
  (hcd:base.CodeRec (.ref c') qual) (S:d_M N ps fr scope) (C:ClosAt base clos scope fr fvs) (len:∀vs H Q E,sp vs H Q E->vs.length=ps.length)
  (hbody:∀(A:Around) (outer:List Env) (s:Shared) (H:Hp) (vs:List V) (Q:VK) (E:XK),Room k (A.deeper (PySem.W.envX qual scope s.heap.objs.size f (.ref c') clos))->sp vs H Q E->
   ∃t,PSs (cxOfC CX0 P w K mg base N qual scope f (.ref c') clos A outer s H E).nox body t/\t { nx:=fun _ H'=>Q .non H',rt:=Q } (e_x N vs fvs) H):
  FnOk P w K mg base CX0 (k+1) f (PySem.W.fnX name qual params body scope clos .none .none doc pm none (.ref c') ctv) ps sp:=by
 refine ⟨len,fun A outer s H args us vs Q E hr e0 hb r hsp=>?_⟩
 have hl:=len _ _ _ _ hsp
 have lim:s.heap.NoLimit:=e0.mod.nolimit.keeps fun b o e=>(e0.bs b o e).1
 have hus:us.length=ps.length:=by rw [<- r.length];exact hl
 have hkind:∀y∈ps.zip us,scope.names.lookup y.1=some .local:=fun ⟨n,v⟩ hy=>S.par n (List.of_mem_zip hy).1
 have hcd':s.heap.CodeRec (.ref c') qual:=by
  obtain ⟨c,oc,ws,t,e1,e2,e3,e4⟩:=hcd
  exact ⟨c,oc,ws,t,e1,(e0.bs c oc e2).1,e3,e4⟩
 refine codeAny_call_function hr.depth (e0.bs f o ho).1 hd S.co S.gen rfl hcd' (hb _ _ _ _ ?_)
 refine wpAny_newFunctionEnv (closure:=clos) (around:=none) S.nocell hkind (fun h' hns hsb=>?_) S.kind
 have hkp:∀b o,s.heap.get? b=some o->h'.get? b=some o:=fun b o e=>hsb.extBut b o (Nat.ne_of_lt (Heap.lt_size e)) (Heap.get?_push_of_some _ e)
 refine ⟨lim.keeps hkp,codeAny_func ?_⟩
 obtain ⟨t,ht,hq⟩:=hbody A outer s H vs Q E (hr.deeper _) hsp
 have I:Inv (cxOfC CX0 P w K mg base N qual scope f (.ref c') clos A outer s H E) [] (e_x N vs fvs) H { s with heap:=h',toks:=s.toks+(ps.zip us).length }:=inv_startC S C hr.hd e0 hl r hns hsb
 refine wpAny_mono (ht.nox [] _ (e_x N vs fvs) H _ I hq) (fun fl s' hs=>?_) fun e s' hs=>hs
 have fin:∀{σ':St} {H':Hp} {v:V} {u:Value},Inv (cxOfC CX0 P w K mg base N qual scope f (.ref c') clos A outer s H E) [] σ' H' s'->RelV v u->Q v H'->CE outer P w H s Q u s':=
  fun {σ' H' v u} J rv q=>⟨v,H',J.os,J.bare,J.base,J.hok,rv,q⟩
 cases fl with
 | ret u=>
  obtain ⟨v,σ',H',J,rv,q⟩:=hs
  exact fin J rv q
 | next=>
  obtain ⟨σ',H',J,q⟩:=hs
  exact fin (v:=V.non) (u:=Value.none) J rfl q
 | brk=>
  obtain ⟨_,_,_,q⟩:=hs
  exact False.elim q
 | cont=>
  obtain ⟨_,_,_,q⟩:=hs
  exact False.elim q
end
def tCallL (i:Nat) (f:Addr) (sp:Sp) (t:TA):TE:=fun σ H Q=>σ[i]?=some (some (.ref f))/\t σ H fun vs H1=>sp vs H1 Q E0
theorem pe_callL {X:Cx} {k i:Nat} {f:Addr} {fd fd':FuncData} {oc:Value} {p pos:Pos} (F:FnOk X.prog X.w X.K X.mg X.base CX0 k f fd ps sp) (hr:Room k X.A) (ho:X.base.get? f=some ⟨oc,od,.func fd',sl⟩)
  (hb:c_D X.K fd ps []) (hv:PE X (.Name x p) (tVar i)) (ha:PA X (e::es) t) (he:starEach (e::es) X.env=(false,eval e X.env)::starEach es X.env:=by rfl) (hpl:(backTo pos (starEach es X.env)).any (·.1)=false:=by rfl):
  PE X (.Call (.Name x p) (e::es) [] pos) (tCallL i f sp t):=by
 intro pins s σ H Q I h
 refine wpAny_Call_Name_kw (thn (hv pins s σ H (fun v H1=>v=.ref f/\H1=H) I ⟨_,h.1,rfl,rfl⟩) fun fv s1 hq=>?_)
 obtain ⟨v,H1,I1,rv,rfl,rfl⟩:=hq
 obtain rfl:fv=.ref f:=rv
 refine PySem.W.callWith_F ⟨oc,od,fd',sl,(I1.bs f _ ho).1⟩ (thn (ha pos pins s1 σ H1 _ I1 h.2) fun us s2 ⟨vs,H2,I2,r,q⟩=>⟨⟨oc,od,fd',sl,(I2.bs f _ ho).1⟩,?_⟩) he hpl
 exact run_fn F hr hb .nil pass0 I2 r (by rw [List.append_nil];exact q)
theorem among_app (q:Pos) (r:List Value) (l:List Value) (h:TriplesOk l):codeAmong q (l++r)=(codeAmong q l).or (codeAmong q r):=by
 induction l using TriplesOk.induct with
 | case1=>simp [codeAmong]
 | case2 a t b u c rest ih=>
  have h:TriplesOk rest:=h
  simp only [List.cons_append,codeAmong]
  split
  ·rfl
  ·exact ih h
 | case3 l h1 h2=>
  exfalso
  unfold TriplesOk at h
  split at h
  ·exact h1 rfl
  ·exact h2 _ _ _ _ _ _ rfl
  ·exact h
theorem triples_app (x y:Int) (t u:Tok) (c:Value) (l:List Value) (h:TriplesOk l):TriplesOk (l++[.int x t,.int y u,c]):=by
 induction l using TriplesOk.induct with
 | case1=>exact True.intro
 | case2 a t b u c rest ih=>exact ih h
 | case3 l h1 h2=>
  exfalso
  unfold TriplesOk at h
  split at h
  ·exact h1 rfl
  ·exact h2 _ _ _ _ _ _ rfl
  ·exact h
def codeHO (c:Addr) (q:Str):HO:=.ext fun h=>h.CodeRec (.ref c) q
def fnHO (f:Addr) (name qual:Str) (params:Arguments) (body:List Stmt) (scope:Scope) (clos:List (Str×Addr)) (c:Addr):HO:=.ext fun h=>∃doc pm ctv,h.get? f=some (PySem.W.fnMade name qual params body scope clos doc pm c ctv)
def b_W (H:Hp) (P0:Addr) (sites:List (Pos×Str)):Prop:=
 ∃ps,H P0=some (.tbl ps)/\TriplesOk ps.toList/\∀q∈sites,codeAmong q.1 ps.toList=none\/∃c,codeAmong q.1 ps.toList=some (.ref c)/\H c=some (codeHO c q.2)
def c_g (P0:Addr) (H H':Hp):Prop:=∀b o,b≠P0->H b=some o->H' b=some o
structure BltAt (h:Heap) (mg:Str->Option Value):Prop where
 ex:∃bm o,mg "__builtins__"=some (.ref bm)/\bm≠builtinsNs/\bm≠mainGlobals/\h.get? bm=some o/\o.cls=.type "module"/\o.dict=some builtinsNs/\o.data=.plain
def tNest (X:Cx) (P0:Addr) (sites:List (Pos×Str)) (i:Nat) (name qual:Str) (params:Arguments) (body:List Stmt) (sc:Scope):TS:=fun D σ H=>b_W H P0 sites/\
 ∀(clos:List (Str×Addr)) (f c:Addr) (H1:Hp),(∀y a,clos.lookup y=some a->X.env.cells.lookup y=some a)->(∀y∈sc.names,y.2=.free->∃a,clos.lookup y.1=some a)->H f=none->f≠c->c_g P0 H H1->b_W H1 P0 sites->
  H1 c=some (codeHO c qual)->H1 f=some (fnHO f name qual params body sc clos c)->D.nx (σ.set i (some (.ref f))) H1
theorem codeHO_ok (x:h.CodeRec (.ref c) q):a_V P w H h c (codeHO c q):=by
 obtain ⟨c2,oc,vs,t,e,e1,e2,e3⟩:=id x
 cases e
 refine ⟨x,⟨oc,e1⟩,fun h1 h2 y k=>?_⟩
 obtain ⟨c2,oc,vs,t,e,e1,e2,e3⟩:=y
 cases e
 exact ⟨_,oc,vs,t,rfl,k _ e1,e2,e3⟩
theorem fnHO_ok {P:Program} {w:World}
  (x:h.get? f=some (PySem.W.fnMade name qual params body scope clos doc pm c ctv)):a_V P w H h f (fnHO f name qual params body scope clos c):=
 ⟨⟨doc,pm,ctv,x⟩,⟨_,x⟩,fun _ _ ⟨d,p,v,e⟩ k=>⟨d,p,v,k _ e⟩⟩
theorem ps_nest {X:Cx} {params:Arguments} {body:List Stmt} {sc:Scope} (hN:X.N.Nodup) (hi:X.N[i]?=some name) (hx:Loc X.env.scope name) (hcode:X.env.code=.ref c) (hC:PySem.W.CodeHd X.base c P0) (hB:BltAt X.base X.mg)
  (hsite:(pos,qual)∈sites) (hsites:∀q∈sites,q.1.line=pos.line->q.1.col=pos.col->q.2=qual) (hq:qualnameIn X.env name name=qual:=by rfl) (hd0:params.defaults=[]:=by rfl) (hk0:params.kw_defaults=[]:=by rfl) (ha:annTrees params none X.env=[]:=by rfl)
  (hfree:(sc.names.all fun y=>y.2 != .free || X.env.scope.names.lookup y.1==some .cell)=true:=by rfl) (hf:X.fn name=true\/X.env.scope.names.lookup name=some .local:=by first | exact .inl rfl | exact .inr rfl):
  PS X (.FunctionDef name params body [] none [] sc none name pos) (tNest X P0 sites i name qual params body sc):=by
 intro pins s σ H D I h
 obtain ⟨⟨ps,hP,ht,hall⟩,h⟩:=h
 have hfr:∀y∈sc.names,y.2=.free->X.env.kindOf y.1=some .cell:=fun y hy e=>by
  have q:=List.all_eq_true.mp hfree y hy
  rw [e] at q
  simpa [Env.kindOf] using q
 obtain ⟨cl,hclos,hsub,hhas⟩:=b_R (env:=X.env) (sc:=sc) fun y hy e=>I.ok.has y.1 (.inl (hfr y hy e))
 have hPh:s.heap.get? P0=some (PySem.W.tabObj ps):=I.hok P0 _ hP
 have hPlt:P0<s.heap.objs.size:=I.hok.lt hP
 have hbP:s.heap.BuiltinsAt X.mg P0:=by
  obtain ⟨bm,o,e1,e2,e3,e4,e5,e6,e7⟩:=hB.ex
  refine ⟨bm,o,e1,e2,e3,fun z=>?_,(I.bs bm o e4).1,e5,e6,e7⟩
  have n:=(I.bs bm o e4).2
  rw [z,hP] at n
  cases n
 have hgs:s.heap.Ns mainGlobals X.mg:=I.mod.glob.keeps I.bk
 have hgP:mainGlobals≠P0:=fun z=>by
  obtain ⟨o,es,ep,e,hd,_⟩:=hgs
  rw [z,hPh] at e
  cases e
  cases hd
 have hC':=hC.keeps I.bk
 refine PySem.W.nestDef_K hd0 hk0 ha ?_
 rw [hq]
 have fin:∀{f:Addr} {s1:Shared} {H1:Hp},Inv X pins σ H1 s1->D.nx (σ.set i (some (.ref f))) H1->wpAny (model X.prog X.w) X.A (storeName X.env name (.ref f)) (fun _ s''=>SP X pins D .next s'') X.xe s1:=fun {f s1 H1} I1 q=>
  store_ok I1 hN hi hx (v:=.ref f) rfl (fun s' I'=>⟨_,H1,I',q⟩) hf
 have old:∀{b:Addr} {u:HO},H b=some u->b<s.heap.objs.size:=fun e=>I.hok.lt e
 rcases hall _ hsite with hnf | ⟨c0,hhit,hc0⟩
 ·refine PySem.W.makeFunction_K (mg:=X.mg) hclos I.ok.glob hgs hcode hC' hPh ht hnf hgP hbP fun c' ctv doc h' tk hxx hge hlt hrec htb=>?_
  have hPc:P0≠c':=Nat.ne_of_lt (Nat.lt_of_lt_of_le hPlt hge)
  have hszh:s.heap.objs.size<h'.objs.size:=Nat.lt_of_le_of_lt hge hlt
  have hPf:P0≠h'.objs.size:=Nat.ne_of_lt (Nat.lt_trans hPlt hszh)
  have hcf:c'≠h'.objs.size:=Nat.ne_of_lt hlt
  generalize hfe:h'.objs.size=f at hPf hcf hszh ⊢
  have kp:∀b o,b≠P0->s.heap.get? b=some o->(h'.push (PySem.W.fnMade name qual params body sc cl doc ((X.mg "__name__").getD .none) c' ctv)).get? b=some o:=fun b o hb e=>Heap.get?_push_of_some _ (hxx b o hb e)
  have hof:(h'.push (PySem.W.fnMade name qual params body sc cl doc ((X.mg "__name__").getD .none) c' ctv)).get? f=some (PySem.W.fnMade name qual params body sc cl doc ((X.mg "__name__").getD .none) c' ctv):=by rw [<- hfe];exact Heap.get?_push_size _ rfl
  have hoc:(h'.push (PySem.W.fnMade name qual params body sc cl doc ((X.mg "__name__").getD .none) c' ctv)).CodeRec (.ref c') qual:=by
   obtain ⟨c2,oc,vs,t,e,e1,e2,e3⟩:=hrec
   exact ⟨c2,oc,vs,t,e,Heap.get?_push_of_some _ e1,e2,e3⟩
  have hoP:(h'.push (PySem.W.fnMade name qual params body sc cl doc ((X.mg "__name__").getD .none) c' ctv)).get? P0=some (PySem.W.tabObj (ps++#[rawInt pos.line,rawInt pos.col,.ref c'])):=Heap.get?_push_of_some _ htb
  generalize h'.push (PySem.W.fnMade name qual params body sc cl doc ((X.mg "__name__").getD .none) c' ctv)=hh at kp hof hoc hoP ⊢
  generalize hps:ps++#[rawInt pos.line,rawInt pos.col,.ref c']=ps' at hoP
  have nlt:∀{b:Addr},b<s.heap.objs.size->b≠c'/\b≠f:=fun hb=>⟨Nat.ne_of_lt (Nat.lt_of_lt_of_le hb hge),Nat.ne_of_lt (Nat.lt_trans hb hszh)⟩
  have get1:∀{b:Addr},b<s.heap.objs.size->b≠P0->upd (upd (upd H P0 (.tbl ps')) c' (codeHO c' qual)) f (fnHO f name qual params body sc cl c') b=H b:=fun hb hbP=>by
   rw [upd_ne (nlt hb).2,upd_ne (nlt hb).1,upd_ne hbP]
  have getO:∀{b:Addr},b≠P0->b≠c'->b≠f->upd (upd (upd H P0 (.tbl ps')) c' (codeHO c' qual)) f (fnHO f name qual params body sc cl c') b=H b:=fun h1 h2 h3=>by
   rw [upd_ne h3,upd_ne h2,upd_ne h1]
  have getP:upd (upd (upd H P0 (.tbl ps')) c' (codeHO c' qual)) f (fnHO f name qual params body sc cl c') P0=some (.tbl ps'):=by rw [upd_ne hPf,upd_ne hPc,upd_same]
  have getc:upd (upd (upd H P0 (.tbl ps')) c' (codeHO c' qual)) f (fnHO f name qual params body sc cl c') c'=some (codeHO c' qual):=by rw [upd_ne hcf,upd_same]
  have getf:upd (upd (upd H P0 (.tbl ps')) c' (codeHO c' qual)) f (fnHO f name qual params body sc cl c') f=some (fnHO f name qual params body sc cl c'):=upd_same
  generalize upd (upd (upd H P0 (.tbl ps')) c' (codeHO c' qual)) f (fnHO f name qual params body sc cl c')=H1 at get1 getO getP getc getf
  have nP:∀{b:Addr},H b=none->b≠P0:=fun n z=>by rw [z,hP] at n;cases n
  have keepH:∀{b:Addr} {u:HO},H b=some u->b≠P0->H1 b=some u:=fun e hb=>by rw [get1 (old e) hb];exact e
  have notT:∀{b:Addr} {u:HO},H b=some u->(∀ps,u≠.tbl ps)->H1 b=some u:=fun e hu=>keepH e fun z=>by
   rw [z,hP] at e
   cases e
   exact hu _ rfl
  have un:Un X.fs [] H H1 s.heap hh:=by
   refine ⟨fun b o e n _ _=>kp b o (nP n) e,fun b o e n _ _=>⟨o.slots,kp b o (nP n) e⟩,fun b o e n _=>by rw [get1 (Heap.lt_size e) (nP n)];exact n,fun b o e _=>?_,fun b xs e=>notT e (fun _ z=>nomatch z),fun b o u e=>notT e (fun _ z=>nomatch z),fun b qs e=>?_⟩
   ·by_cases hb:b=P0
    ·rw [hb];exact ⟨_,hoP⟩
    ·exact ⟨o,kp b o hb e⟩
   ·by_cases hb:b=P0
    ·rw [hb,hP] at e
     cases e
     rw [hb]
     exact ⟨_,by rw [getP,hps]⟩
    ·exact ⟨#[],by rw [keepH e hb];simp⟩
  have hok1:HOk X.prog X.w H1 hh:=fun a o e=>by
   by_cases haf:a=f
   ·rw [haf] at e ⊢
    rw [getf] at e
    cases e
    exact fnHO_ok hof
   by_cases hac:a=c'
   ·rw [hac] at e ⊢
    rw [getc] at e
    cases e
    exact codeHO_ok hoc
   by_cases haP:a=P0
   ·rw [haP] at e ⊢
    rw [getP] at e
    cases e
    exact hoP
   rw [getO haP hac haf] at e
   refine (I.hok a o e).stay (fun b u hb q=>kp b u (fun z=>?_) q) (fun b q=>notT q (fun _ z=>nomatch z)) fun b xs q=>notT q (fun _ z=>nomatch z)
   rcases hb with hb | hb
   ·exact haP (hb▸z)
   ·rw [z,hP] at hb;cases hb
  have I1:Inv X pins σ H1 { s with heap:=hh,toks:=tk }:=I.un un hok1
  refine fin I1 (h cl f c' H1 hsub hhas (I.hok.fresh (Nat.le_of_lt hszh)) (Ne.symm hcf) (fun b o hb e=>keepH e hb) ⟨ps',getP,?_,fun q hqs=>?_⟩ getc getf)
  ·rw [<- hps,Array.toList_append]
   exact triples_app _ _ _ _ _ _ ht
  ·rw [<- hps,Array.toList_append,among_app _ _ _ ht]
   rcases hall q hqs with hn | ⟨c1,h1,h2⟩
   ·rw [hn,Option.none_or]
    by_cases hsame:q.1.line=pos.line/\q.1.col=pos.col
    ·refine .inr ⟨c',?_,?_⟩
     ·show codeAmong q.1 [rawInt pos.line,rawInt pos.col,.ref c']=_
      simp [codeAmong,rawInt,hsame.1,hsame.2]
     ·rw [hsites q hqs hsame.1 hsame.2]
      exact getc
    ·refine .inl ?_
     show codeAmong q.1 [rawInt pos.line,rawInt pos.col,.ref c']=_
     simp only [codeAmong,rawInt]
     rw [if_neg]
     intro z
     simp at z
     exact hsame ⟨by omega,by omega⟩
   ·rw [h1,Option.some_or]
    exact .inr ⟨c1,rfl,notT h2 (fun _ z=>nomatch z)⟩
 ·refine PySem.W.makeFunction_hit (mg:=X.mg) hclos I.ok.glob hgs hcode hC' hPh ht hhit hbP fun ctv doc h' tk hk hsz=>?_
  have I1:Inv X pins σ (upd H h'.objs.size (fnHO h'.objs.size name qual params body sc cl c0)) { s with heap:=h'.push (PySem.W.fnMade name qual params body sc cl doc ((X.mg "__name__").getD .none) c0 ctv),toks:=tk }:=
   I.laid (fun b u e=>Heap.get?_push_of_some _ (hk b u e)) hsz (fnHO_ok (Heap.get?_push_size _ rfl))
  have hfn:H h'.objs.size=none:=I.hok.fresh hsz
  have kH:∀{b:Addr} {u:HO},H b=some u->upd H h'.objs.size (fnHO h'.objs.size name qual params body sc cl c0) b=some u:=fun e=>by rw [upd_ne (ne_of_none e hfn)];exact e
  refine fin I1 (h cl _ c0 _ hsub hhas hfn (Ne.symm (ne_of_none hc0 hfn)) (fun b o _ e=>kH e) ⟨ps,kH hP,ht,fun q hqs=>?_⟩ (kH hc0) upd_same)
  rcases hall q hqs with hn | ⟨c1,h1,h2⟩
  ·exact .inl hn
  ·exact .inr ⟨c1,h1,kH h2⟩
def untr (U:List Addr) (H:Hp):Hp:=fun b=>if b∈U then none else H b
def retr (U:List Addr) (H H':Hp):Hp:=fun b=>if b∈U then H b else H' b
theorem e_O (h:b∈U):untr U H b=none:=if_pos h
theorem a_W (h:b∉U):untr U H b=H b:=if_neg h
theorem retr_in (h:b∈U):retr U H H' b=H b:=if_pos h
theorem c_i (h:b∉U):retr U H H' b=H' b:=if_neg h
theorem Mod.keeps {K:PySem.W.Frag} (M:Mod K mg h) (k:∀b o,h.get? b=some o->h'.get? b=some o):Mod K mg h':=
 ⟨M.kin.keeps k,M.glob.keeps k,let ⟨mb,a,b⟩:=M.blt;⟨mb,a.keeps k,b⟩,M.nolimit.keeps k⟩
section
variable {P:Program} {w:World} {K:PySem.W.Frag} {mg:Str->Option Value} {base:Heap} {A:Around} {outer:List Env} {s:Shared} {H:Hp} {U:List Addr}
theorem wide_env (e0:Env0 P w K mg base A outer s H) (hU:∀u∈U,∃ φ,H u=some (.ext φ)):
  ∃base',Env0 P w K mg base' A outer s (untr U H)/\(∀b o,base.get? b=some o->base'.get? b=some o)/\∀b o,s.heap.get? b=some o->b∉frs outer->untr U H b=none->base'.get? b=some o:=by
 have hget:∀b o,s.heap.get? b=some o->b∉frs outer->untr U H b=none->(PySem.W.hideAll s.heap (trk s.heap (untr U H)++frs outer)).get? b=some o:=fun b o e hf hn=>PySem.W.hideAll_get _ e fun hm=>by
  rcases List.mem_append.mp hm with z | z
  ·have q:((untr U H) b).isSome=true:=(List.mem_filter.mp z).2
   rw [hn] at q
   cases q
  ·exact hf z
 have notU:∀b,H b=none->b∉U:=fun b n z=>by
  obtain ⟨φ,e⟩:=hU b z
  rw [n] at e
  cases e
 have sub:∀b o,base.get? b=some o->(PySem.W.hideAll s.heap (trk s.heap (untr U H)++frs outer)).get? b=some o:=fun b o e=>by
  obtain ⟨e1,n⟩:=e0.bs b o e
  refine hget b o e1 (fun z=>?_) (by rw [a_W (notU b n)];exact n)
  have:=(e0.funs.mem z).1
  rw [e] at this
  cases this
 have keepO:∀{b:Addr} {u:HO},H b=some u->(∀ φ,u≠.ext φ)->untr U H b=some u:=fun {b u} e hu=>by
  rw [a_W fun z=>?_]
  ·exact e
  ·obtain ⟨φ,e'⟩:=hU b z
   rw [e] at e'
   exact hu φ (Option.some.inj e')
 refine ⟨PySem.W.hideAll s.heap (trk s.heap (untr U H)++frs outer),⟨e0.frames,e0.mod.keeps sub,fun b o e=>?_,Nat.le_of_eq (PySem.W.hideAll_size _ _),c_c e0.funs fun b hb=>List.mem_append_right _ hb,fun b hb=>?_,fun a o e=>?_,e0.bare⟩,sub,hget⟩
 ·have e1:=PySem.W.of_hideAll _ e
  refine ⟨e1,?_⟩
  cases q:untr U H b with
  | none=>rfl
  | some u=>
   have hm:b∈trk s.heap (untr U H)++frs outer:=List.mem_append_left _ (List.mem_filter.mpr ⟨List.mem_range.mpr (Heap.lt_size e1),by simp [q]⟩)
   rw [PySem.W.hideAll_none _ hm] at e
   cases e
 ·rw [a_W (notU b (e0.frf b hb))]
  exact e0.frf b hb
 ·have ha:a∉U:=fun z=>by rw [e_O z] at e;cases e
  rw [a_W ha] at e
  exact (e0.hok a o e).stay (fun _ _ _ q=>q) (fun b q=>keepO q (fun _ z=>nomatch z)) fun b xs q=>keepO q (fun _ z=>nomatch z)
theorem wide_back (e0:Env0 P w K mg base A outer s H) (hU:∀u∈U,∃ φ,H u=some (.ext φ)) (h:CE outer P w (untr U H) s (fun v H2=>(∀u∈U,H2 u=none)->Q v (retr U H H2)) u s'):CE outer P w H s Q u s':=by
 obtain ⟨v,H',os,bare,un,hok,r,q⟩:=h
 have notU:∀b,H b=none->b∉U:=fun b n z=>by
  obtain ⟨φ,e⟩:=hU b z
  rw [n] at e
  cases e
 have notF:∀b∈U,b∉frs outer:=fun b hb z=>notU b (e0.frf b z) hb
 have stays:∀b∈U,∃o,s.heap.get? b=some o/\s'.heap.get? b=some o/\H' b=none:=fun b hb=>by
  obtain ⟨φ,e⟩:=hU b hb
  obtain ⟨_,⟨o,ho⟩,_⟩:=e0.hok b _ e
  exact ⟨o,ho,un.keep b o ho (e_O hb) (notF b hb) (by simp),un.free b o ho (e_O hb) (by simp)⟩
 have keepT:∀{b:Addr} {x:HO},H b=some x->(∀ φ,x≠.ext φ)->b∉U:=fun {b x} e hx z=>by
  obtain ⟨φ,e'⟩:=hU b z
  rw [e] at e'
  exact hx φ (Option.some.inj e')
 have keepH:∀{b:Addr} {x:HO},H' b=some x->retr U H H' b=some x:=fun {b x} e=>by
  rw [c_i fun z=>?_]
  ·exact e
  ·obtain ⟨_,_,_,n⟩:=stays b z
   rw [e] at n
   cases n
 refine ⟨v,retr U H H',os,bare,⟨fun b o e n hb hx=>?_,fun b o e n hb hx=>?_,fun b o e n hx=>?_,un.there,fun b xs e=>?_,fun b o x e=>?_,fun b ps e=>?_⟩,fun a o e=>?_,r,q fun b hb=>(stays b hb).choose_spec.2.2⟩
 ·exact un.keep b o e (by rw [a_W (notU b n)];exact n) hb hx
 ·exact un.slot b o e (by rw [a_W (notU b n)];exact n) hb hx
 ·rw [c_i (notU b n)]
  exact un.free b o e (by rw [a_W (notU b n)];exact n) hx
 ·have hb:=keepT e (fun _ z=>nomatch z)
  rw [c_i hb]
  exact un.tups b xs (by rw [a_W hb];exact e)
 ·have hb:=keepT e (fun _ z=>nomatch z)
  rw [c_i hb]
  exact un.frzs b o x (by rw [a_W hb];exact e)
 ·have hb:=keepT e (fun _ z=>nomatch z)
  rw [c_i hb]
  exact un.tbls b ps (by rw [a_W hb];exact e)
 ·by_cases ha:a∈U
  ·rw [retr_in ha] at e
   obtain ⟨φ,e'⟩:=hU a ha
   rw [e'] at e
   cases e
   obtain ⟨o,ho,ho',_⟩:=stays a ha
   obtain ⟨p1,_,p3⟩:=e0.hok a _ e'
   exact ⟨p3 _ _ p1 (fun o2 z=>by rw [ho] at z;cases z;exact ho'),⟨o,ho'⟩,p3⟩
  ·rw [c_i ha] at e
   exact (hok a o e).stay (fun _ _ _ z=>z) (fun b z=>keepH z) fun b xs z=>keepH z
end
structure WideAt (X:Cx) (U:List Addr) (σ:St) (H:Hp) (base':Heap):Prop where
 sub:∀b o,X.base.get? b=some o->base'.get? b=some o
 mod:Mod X.K X.mg base'
 ext:∀u φ,u∈U->H u=some (.ext φ)->φ base'
 inj:∀y z c,X.env.cells.lookup y=some c->X.env.cells.lookup z=some c->y=z
 cell:∀y c,X.env.cells.lookup y=some c->∃v,base'.IsCell c v
 val:∀(i:Nat) (y:Str) (v:V),X.N[i]?=some y->σ[i]?=some (some v)->X.env.scope.names.lookup y=some .cell->∃c u,X.env.cells.lookup y=some c/\base'.IsCell c (some u)/\RelV v u
def tWide (X:Cx) (f:Addr) (fd:FuncData) (ps:List Str) (dvs:List V) (t:TA):TE:=fun σ H Q=>t σ H fun vs H1=>∃U:List Addr,(∀u∈U,∃ φ,H1 u=some (.ext φ))/\∀base':Heap,WideAt X U σ H1 base'->
 ∃(k:Nat) (sp:Sp),Room k X.A/\FnOk X.prog X.w X.K X.mg base' CX0 k f fd ps sp/\sp (vs++dvs) (untr U H1) (fun v H2=>(∀u∈U,H2 u=none)->Q v (retr U H1 H2)) E0
theorem pe_wide {X:Cx} {f:Addr} {p pos:Pos} (hg:Gl X x) (hm:X.mg x=some (.ref f)) (hk:PySem.W.keepIn X.K (.ref f)=true) (hb:c_D X.K fd ps ds) (hd:Vals dvs ds) (ha:PA X (e::es) t)
  (hfn:∀y,X.fn y=true) (hdb:(x==("__debug__":Str))=false:=by decide) (he:starEach (e::es) X.env=(false,eval e X.env)::starEach es X.env:=by rfl) (hpl:(backTo pos (starEach es X.env)).any (·.1)=false:=by rfl):
  PE X (.Call (.Name x p) (e::es) [] pos) (tWide X f fd ps dvs t):=by
 intro pins s σ H Q I h
 refine wpAny_Call_Name_kw (ld_glob I hg hm ?_ hdb)
 refine PySem.W.callWith_K (h₀:=X.base) I.ok.mod.kin hk (thn (ha pos pins s σ H _ I h) fun us s1 ⟨vs,H1,I1,r,q⟩=>⟨I1.kIn,?_⟩) he hpl
 obtain ⟨U,hU,q⟩:=q
 obtain ⟨base',e0,hsub,hget⟩:=wide_env I1.env0 hU
 have cellB:∀y c v,X.env.cells.lookup y=some c->s1.heap.IsCell c v->base'.IsCell c v:=fun y c v hc ⟨o,ho,hdd⟩=>by
  have hn:=I1.freeC y c hc
  refine ⟨o,hget c o ho (fun z=>?_) ?_,hdd⟩
  ·rcases List.mem_cons.mp (I1.stkSub c z) with z | z
   ·exact I1.cne y c hc z
   ·obtain ⟨_,o',ho',_⟩:=I1.ok.funs.mem z
    exact absurd (Heap.lt_size ho') (Nat.not_lt.mpr (I1.ok.cab y c (hfn y) hc))
  ·unfold untr
   split
   ·rfl
   ·exact hn
 have W:WideAt X U σ H1 base':=by
  refine ⟨hsub,e0.mod,fun u φ hu e=>?_,I1.ok.inj,fun y c hc=>?_,fun i y v e1 e2 e3=>?_⟩
  ·obtain ⟨p1,⟨o,ho⟩,p3⟩:=I1.hok u _ e
   refine p3 _ _ p1 fun o2 z=>hget u o2 z (fun y=>?_) (e_O hu)
   rw [I1.stkFree u y] at e
   cases e
  ·obtain ⟨v,z⟩:=I1.cell y c hc
   exact ⟨v,cellB y c v hc z⟩
  ·obtain ⟨m,hn,hl⟩:=I1.loc
   obtain ⟨u,ru,lk⟩:=hl i y v e1 e2 (.inr (.inl e3))
   rcases lk with ⟨k1,_⟩ | ⟨_,c,hc,z⟩
   ·have:X.env.scope.names.lookup y=some .local:=k1
    rw [e3] at this
    cases this
   ·exact ⟨c,u,hc,cellB y c _ hc z,ru⟩
 obtain ⟨k,sp,hr,F,hsp⟩:=q base' W
 have r2:Vals (vs++dvs) (us++ds):=r.append hd
 have hl:(us++ds).length=ps.length:=by rw [<- r2.length];exact F.len _ _ _ _ hsp
 refine wpAny_call (codeAny_mono (F.run X.A X.stack s1 (untr U H1) ⟨us,[]⟩ (us++ds) (vs++dvs) _ E0 hr e0 (hb s1 us I1.kIn hl) r2 hsp) fun r s' hq=>?_)
 cases r with
 | error e=>exact False.elim hq
 | ok fl=>
  cases fl with
  | ret u=>exact I1.after (wide_back I1.env0 hU hq)
  | next=>exact False.elim hq
  | brk=>exact False.elim hq
  | cont=>exact False.elim hq
def a_G (ts:List Addr) (K:PySem.W.Frag):PySem.W.Frag:=K.filter fun q=>!ts.contains q.1
theorem c_l {ts:List Addr} {a:Addr} (hn:ts.contains a=false):∀{K:PySem.W.Frag},(a_G ts K).lookup a=K.lookup a
 | []=>rfl
 | (b,x)::r=>by
  unfold a_G
  rw [List.filter_cons]
  by_cases hb:a=b
  ·subst hb
   rw [if_pos (by simpa using hn),List.lookup_cons,List.lookup_cons]
   simp
  ·have hb':(a==b)=false:=beq_eq_false_iff_ne.mpr hb
   split
   ·rw [List.lookup_cons,List.lookup_cons,hb']
    exact c_l (K:=r) hn
   ·rw [List.lookup_cons,hb']
    exact c_l (K:=r) hn
theorem f_j {ts:List Addr} {a:Addr} {o:Obj}:∀{K:PySem.W.Frag},(a_G ts K).lookup a=some o->ts.contains a=false
 | [],e=>by cases e
 | (b,x)::r,e=>by
  unfold a_G at e
  rw [List.filter_cons] at e
  split at e
  ·rename_i hc
   rw [List.lookup_cons] at e
   by_cases hb:a=b
   ·subst hb
    simpa using hc
   ·rw [beq_eq_false_iff_ne.mpr hb] at e
    exact f_j (K:=r) e
  ·exact f_j (K:=r) e
theorem lkD {K:PySem.W.Frag} (e:K.lookup a=some o) (hn:ts.contains a=false):(a_G ts K).lookup a=some o:=(c_l hn).trans e
theorem nsD {K:PySem.W.Frag} (e:PySem.W.nsIn K a x=r) (hn:ts.contains a=false):PySem.W.nsIn (a_G ts K) a x=r:=by
 unfold PySem.W.nsIn at e ⊢
 rw [c_l hn]
 exact e
theorem cdD {K:PySem.W.Frag} (e:PySem.W.codeIn K (.ref c) x=true) (hn:ts.contains c=false):PySem.W.codeIn (a_G ts K) (.ref c) x=true:=by
 unfold PySem.W.codeIn at e ⊢
 dsimp only at e ⊢
 rw [c_l hn]
 exact e
def codeTab (K:PySem.W.Frag) (c P:Addr):Bool:=match K.lookup c with
 | some ⟨.type n,_,.fields vs,_⟩=>n=="code"&&c != P&&(match (vs[11]?:Option Value),(vs[18]?:Option Value),(vs[7]?:Option Value),(vs[9]?:Option Value),(vs[10]?:Option Value) with
   | some (.ref Q),some (.str _ _),some (.int _ _),some (.bool _),some (.int _ _)=>Q==P
   | _,_,_,_,_=>false)
 | _=>false
theorem codeTab_of {K:PySem.W.Frag} (X:K.In h) (e:codeTab K c P=true):PySem.W.CodeHd h c P:=by
 unfold codeTab at e
 split at e
 ·rename_i n dd vs sl hl
  have ho:=X _ _ hl
  rw [Bool.and_eq_true,Bool.and_eq_true] at e
  obtain ⟨⟨e1,e2⟩,e3⟩:=e
  split at e3
  ·rename_i Q s t i u b j v h1 h2 h3 h4 h5
   have hQ:Q=P:=eq_of_beq e3
   subst hQ
   have gd:∀{k:Nat} {x:Value},vs[k]?=some x->vs.getD k .none=x:=fun {k x} z=>by
    rw [Array.getD_eq_getD_getElem?,z]
    rfl
   exact ⟨_,vs,s,t,i,u,b,j,v,ho,by rw [eq_of_beq e1],rfl,h1,gd h1,gd h2,gd h3,gd h4,gd h5,by simpa using e2⟩
  ·cases e3
 ·cases e
structure TabIn (K:PySem.W.Frag) (q:Addr×Addr):Prop where
 code:codeTab K q.1 q.2=true
 tab:K.lookup q.2=some (PySem.W.tabObj #[])
def spLawT (K:PySem.W.Frag) (tabs:List (Addr×Addr)):Sp:=fun vs H Q _=>∃(a:Addr) (ns:List Int),vs=[.ref a]/\SqL K H a (ns.map V.int)/\ns.length≤63/\(∀q∈tabs,H q.2=some (.tbl #[]))/\∀H',Q (.bl true) H'
theorem codeHd_same (x:PySem.W.CodeHd h c P) (k:∀o,o.cls=.type "code"->h.get? c=some o->h'.get? c=some o):PySem.W.CodeHd h' c P:=by
 obtain ⟨o,vs,file,tf,flags,tg,inF,text,tt,e,r1,r⟩:=x
 exact ⟨o,vs,file,tf,flags,tg,inF,text,tt,k o r1 e,r1,r⟩
theorem law_callT {P:Program} {w:World} {K:PySem.W.Frag}
  (KX:K.In s₁.heap) (hT:∀q∈tabs,TabIn K q) (hns:s₁.heap.Ns mainGlobals mg) (hB:BltAt s₁.heap mg) (hb:s₁.heap.Ns builtinsNs mb) (hbb:∀x:Str,x≠"__name__"->mb x=bootBuiltins x) (hlim:s₁.heap.NoLimit) (hg:s₁.gens=#[])
  (ha:s₁.heap.get? a=some { cls:=.type "list",data:=.seq vs.toArray }) (hi:IntsAre vs ns) (hl:ns.length≤63) (hr:Room k callerA)
  (F:∀base:Heap,(a_G (tabs.map (·.2)) K).In base->base.Ns mainGlobals mg->BltAt base mg->(∀q∈tabs,PySem.W.CodeHd base q.1 q.2)->FnOk P w (a_G (tabs.map (·.2)) K) mg base CX0 k fa fd [x] (spLawT (a_G (tabs.map (·.2)) K) tabs)) (hbind:∀(s:Shared) (u:Value),BindsTo s fd ⟨[u],[]⟩ [(x,u)]):
  codeAny (model P w) callerA (.call (.ref fa) ⟨[.ref a],[]⟩) (fun r s'=>r=.ok (.ret (.bool true))/\OldK s₁.heap s'.heap/\s'.os=s₁.os/\AllBare s'.gens) s₁:=by
 have rv:=b_Y hi
 have lenV:=hi.length
 have hls:ns.length≤sizeLine:=Nat.le_trans hl (by rw [sizeLine_eq];decide)
 have tabH:∀q∈tabs,s₁.heap.get? q.2=some (PySem.W.tabObj #[]):=fun q hq=>KX _ _ (hT q hq).tab
 have hd:∀q∈tabs,PySem.W.CodeHd s₁.heap q.1 q.2:=fun q hq=>codeTab_of KX (hT q hq).code
 have inT:∀{b:Addr},(tabs.map (·.2)).contains b=true->∃q∈tabs,q.2=b:=fun {b} hb=>by
  rw [List.contains_iff_mem] at hb
  obtain ⟨q,hq,e⟩:=List.mem_map.mp hb
  exact ⟨q,hq,e⟩
 have memT:∀{q:Addr×Addr},q∈tabs->(tabs.map (·.2)).contains q.2=true:=fun {q} hq=>by
  rw [List.contains_iff_mem]
  exact List.mem_map_of_mem hq
 have aT:(tabs.map (·.2)).contains a=false:=by
  cases z:(tabs.map (·.2)).contains a with
  | false=>rfl
  | true=>
   obtain ⟨q,hq,e⟩:=inT z
   have e1:=tabH q hq
   rw [e,ha] at e1
   cases e1
 have core:∀H:Hp,SqL (a_G (tabs.map (·.2)) K) H a (ns.map V.int)->HOk P w H s₁.heap->(∀b,H b=none\/(b=a/\K.lookup a=none/\H b=some (.frz { cls:=.type "list",data:=.seq vs.toArray } (.lst (ns.map V.int))))\/((tabs.map (·.2)).contains b=true/\H b=some (.tbl #[])))->
   (∀q∈tabs,H q.2=some (.tbl #[]))->
   codeAny (model P w) callerA (.call (.ref fa) ⟨[.ref a],[]⟩) (fun r s'=>r=.ok (.ret (.bool true))/\OldK s₁.heap s'.heap/\s'.os=s₁.os/\AllBare s'.gens) s₁:=by
  intro H hS hok hO hTH
  have base_of:∀{b:Addr} {o:Obj},s₁.heap.get? b=some o->H b=none->(hidT s₁.heap H).get? b=some o:=fun e n=>hidT_get e n
  have freeOf:∀{b:Addr} {o:Obj},s₁.heap.get? b=some o->b≠a->o≠PySem.W.tabObj #[]->H b=none:=fun {b o} e hne hno=>by
   rcases hO b with z | ⟨z,_⟩ | ⟨z,_⟩
   ·exact z
   ·exact absurd z hne
   ·obtain ⟨q,hq,e2⟩:=inT z
    have e1:=tabH q hq
    rw [e2,e] at e1
    exact absurd (Option.some.inj e1) hno
  have nsK:∀{b:Addr} {m:Str->Option Value},s₁.heap.Ns b m->(hidT s₁.heap H).Ns b m:=fun {b m} ⟨o,es,ep,e,d,r⟩=>⟨o,es,ep,base_of e (freeOf e (fun z=>by rw [z,ha] at e;cases e;cases d) (fun z=>by rw [z] at d;cases d)),d,r⟩
  have hKb:(a_G (tabs.map (·.2)) K).In (hidT s₁.heap H):=fun b o e=>by
   have hn:=f_j e
   have e1:=KX b o ((c_l hn).symm.trans e)
   refine base_of e1 ?_
   rcases hO b with z | ⟨z,z2,_⟩ | ⟨z,_⟩
   ·exact z
   ·rw [c_l hn,z,z2] at e
    cases e
   ·rw [hn] at z
    cases z
  have hBb:BltAt (hidT s₁.heap H) mg:=by
   obtain ⟨bm,o,e1,e2,e3,e4,e5,e6,e7⟩:=hB.ex
   exact ⟨bm,o,e1,e2,e3,base_of e4 (freeOf e4 (fun z=>by rw [z,ha] at e4;cases e4;cases e7) (fun z=>by rw [z] at e7;cases e7)),e5,e6,e7⟩
  have hCb:∀q∈tabs,PySem.W.CodeHd (hidT s₁.heap H) q.1 q.2:=fun q hq=>codeHd_same (hd q hq) fun o hc e=>base_of e (freeOf e (fun z=>by rw [z,ha] at e;cases e;injection hc with hc;exact absurd hc (by decide)) (fun z=>by rw [z] at hc;cases hc))
  have hM:Mod (a_G (tabs.map (·.2)) K) mg (hidT s₁.heap H):=⟨hKb,nsK hns,⟨mb,nsK hb,hbb⟩,let ⟨mc,h1,h2⟩:=hlim;⟨mc,nsK h1,h2⟩⟩
  have e0:Env0 P w (a_G (tabs.map (·.2)) K) mg (hidT s₁.heap H) callerA [] s₁ H:=⟨rfl,hM,fun b o e=>of_hidT e,Nat.le_of_eq (hidT_size _ _),trivial,fun b hb=>absurd (show b∈([]:List Addr) from hb) (by simp),hok,.of_eq hg⟩
  refine codeAny_mono ((F _ hKb (nsK hns) hBb hCb).run callerA [] s₁ H ⟨[.ref a],[]⟩ [.ref a] [.ref a] (fun v _=>v=.bl true) (fun _ _ _=>False) hr e0 (hbind s₁ (.ref a)) (.cons rfl .nil) ⟨a,ns,rfl,hS,hl,hTH,fun _=>rfl⟩) fun r s' h=>?_
  cases r with
  | error e=>exact False.elim h
  | ok fl=>
   cases fl with
   | next=>exact False.elim h
   | brk=>exact False.elim h
   | cont=>exact False.elim h
   | ret u=>
    obtain ⟨v,H',os,bare,un,hok',r',q⟩:=h
    have q':v=.bl true:=q
    subst q'
    obtain rfl:u=Value.bool true:=r'
    refine ⟨rfl,⟨fun b o e=>?_,fun b o e=>un.there b o e (by simp)⟩,os,bare⟩
    rcases hO b with z | ⟨z1,_,z⟩ | ⟨z1,z⟩
    ·exact .inl (un.keep b o e z (by intro y;exact absurd (show b∈([]:List Addr) from y) (by simp)) (by simp))
    ·obtain ⟨e1,_⟩:=hok b _ z
     obtain ⟨e2,_⟩:=hok' b _ (un.frzs b _ _ z)
     rw [e] at e1
     cases e1
     exact .inl e2
    ·obtain ⟨q,hq,e2⟩:=inT z1
     obtain ⟨more,z3⟩:=un.tbls b _ z
     have e3:s'.heap.get? b=some { cls:=.none,data:=.fields (#[]++more) }:=hok' b _ z3
     have e4:=tabH q hq
     rw [e2,e] at e4
     cases e4
     refine .inr (.inl ⟨?_,rfl,#[],more,rfl,e3⟩)
     have:=((hd q hq).tab (tabH q hq)).isCodeTable
     rw [e2] at this
     exact this
 have aOk:∀{H:Hp} {b:Addr},(tabs.map (·.2)).contains b=true->a_V P w H s₁.heap b (.tbl #[]):=fun {H b} z=>by
  obtain ⟨q,hq,e⟩:=inT z
  have e1:=tabH q hq
  rw [e] at e1
  exact e1
 cases hk:K.lookup a with
 | some o=>
  have e:=KX a o hk
  rw [ha] at e
  cases e
  refine core (fun b=>if (tabs.map (·.2)).contains b=true then some (.tbl #[]) else none) (.inr ⟨_,vs.toArray,_,(c_l aT).trans hk,rfl,rfl,rfl,by rw [List.size_toArray,lenV];exact hls,by simpa using rv⟩) (fun b u z=>?_) (fun b=>?_) (fun q hq=>if_pos (memT hq))
  ·by_cases hb:(tabs.map (·.2)).contains b=true
   ·have z':=(if_pos hb).symm.trans z
    cases z'
    exact aOk hb
   ·have z':=(if_neg hb).symm.trans z
    cases z'
  ·by_cases hb:(tabs.map (·.2)).contains b=true
   ·exact .inr (.inr ⟨hb,if_pos hb⟩)
   ·exact .inl (if_neg hb)
 | none=>
  refine core (fun b=>if b=a then some (.frz { cls:=.type "list",data:=.seq vs.toArray } (.lst (ns.map V.int))) else if (tabs.map (·.2)).contains b=true then some (.tbl #[]) else none) (.inl (.inr ⟨{ cls:=.type "list",data:=.seq vs.toArray },if_pos rfl⟩)) (fun b u z=>?_) (fun b=>?_) (fun q hq=>?_)
  ·by_cases hb:b=a
   ·have z':=(if_pos hb).symm.trans z
    cases z'
    subst hb
    exact ⟨ha,by rw [List.length_map];exact hls,vs,_,rv,ha⟩
   ·have z':=(if_neg hb).symm.trans z
    by_cases hb2:(tabs.map (·.2)).contains b=true
    ·have z2:=(if_pos hb2).symm.trans z'
     cases z2
     exact aOk hb2
    ·have z2:=(if_neg hb2).symm.trans z'
     cases z2
  ·by_cases hb:b=a
   ·exact .inr (.inl ⟨hb,hk,if_pos hb⟩)
   ·by_cases hb2:(tabs.map (·.2)).contains b=true
    ·exact .inr (.inr ⟨hb2,(if_neg hb).trans (if_pos hb2)⟩)
    ·exact .inl ((if_neg hb).trans (if_neg hb2))
  ·have hne:q.2≠a:=fun z=>by
    have:=memT hq
    rw [z,aT] at this
    cases this
   exact (if_neg hne).trans (if_pos (memT hq))
theorem walk63t {l:PySem.W.OpenLaw} {K:Params->PySem.W.Frag} (hn:l.most=some 63) (hdf:d.params.defaults=[]) (hr:Room k callerA) (hT:∀p,∀q∈tabs,TabIn (K p) q)
  (F:∀(w:World) (mg:Str->Option Value) (fa:Addr) (h:Heap),(a_G (tabs.map (·.2)) (K w.params)).In h->h.Ns mainGlobals mg->mg d.name=some (.ref fa)->
   ∃fd:FuncData,(∀(s:Shared) (u:Value),BindsTo s fd ⟨[u],[]⟩ [(x,u)])/\∀base:Heap,(a_G (tabs.map (·.2)) (K w.params)).In base->base.Ns mainGlobals mg->BltAt base mg->(∀q∈tabs,PySem.W.CodeHd base q.1 q.2)->
    FnOk l.prog w (a_G (tabs.map (·.2)) (K w.params)) mg base CX0 k fa fd [x] (spLawT (a_G (tabs.map (·.2)) (K w.params)) tabs)):
  PySem.W.WalkO q loose XP (fun w h=>(K w.params).In h) l.row.toRowW d [] (fun f vs=>PySem.call f vs):=by
 refine Att.attach_call hn hdf fun w s₀ s₁ mg mb fa o pm cd doc a vs ns G Y ho hd hcd hmg hobj hints hlen hg=>?_
 have KX:(K w.params).In s₁.heap:=Y
 have KD:(a_G (tabs.map (·.2)) (K w.params)).In s₁.heap:=fun b o e=>KX b o ((c_l (f_j e)).symm.trans e)
 obtain ⟨fd,hb,hF⟩:=F w mg fa _ KD G.T.g hmg
 obtain ⟨bm,ob,b1,b2,b3,b4,b5,b6⟩:=G.T.bmain
 have hbG:bm≠mainGlobals:=fun z=>by
  obtain ⟨o,es,ep,e,hd,_⟩:=G.T.g
  rw [z,e] at b3;cases b3;rw [hd] at b6;cases b6
 exact law_callT KX (hT w.params) G.T.g ⟨bm,ob,b1,b2,hbG,b3,b4,b5,b6⟩ G.T.b G.T.builtins G.T.nolimit hg hobj hints hlen hr hF hb
inductive Sd where
 | tx (x:Str) (k:Tok) | tp (a:Addr) | ls (a:Addr)
namespace Sd
def vu:Sd->Value
 | .tx x t=>.str x t
 | .tp a=>.ref a
 | .ls a=>.ref a
def pl:Sd->Addr->Nat->Heap->Prop
 | .tx x t,it,i,h=>ZP.strAt x t it i h
 | .tp a,it,i,h=>h.IsTupleIter it a i
 | .ls a,it,i,h=>h.IsListIter it a i
def it0:Sd->Obj
 | .tx x t=>ZP.strIt x t
 | .tp a=>ZP.tupIt a
 | .ls a=>{ cls:=.type "list_iterator",data:=.fields #[.ref a,.int 0 0] }
def hp:Sd->Array Value->Heap->Prop
 | .tx _ _,_,_=>True
 | .tp a,its,h=>h.IsTuple a its
 | .ls a,its,h=>h.IsList a its
def has:Sd->Hp->List V->Prop
 | .tx x _,_,xs=>xs=x.cps.toList.map fun c=>V.str ⟨#[c]⟩
 | .tp a,H,xs=>H a=some (.tup xs)
 | .ls a,H,xs=>H a=some (.lst xs)
end Sd
theorem it0_at {d:Sd} (e:h.get? it=some d.it0):d.pl it 0 h:=by
 cases d with
 | tx x t=>exact ⟨_,e,rfl,rfl⟩
 | tp a=>exact ⟨_,e,rfl,rfl⟩
 | ls a=>exact ⟨_,e,rfl,rfl⟩
theorem d_d (d:Sd):d.it0.isFreed=false:=by cases d <;> rfl
namespace ZP
def madeG (h:Heap) (o1 o2:Obj):Heap:=
 ((((h.push o1).push o2).push { cls:=.type "tuple",data:=.seq #[.ref h.objs.size,.ref (h.objs.size+1)] }).push { cls:=.type "tuple",data:=.seq #[.none,.none] }).push
  { cls:=.type "zip",data:=.fields #[.none,.bool false,.bool false,.ref (h.objs.size+2),.ref (h.objs.size+3)] }
section
variable {prog:Program} {w:World} {A:Around} {E:Value->Shared->Prop} {s:Shared}
theorem c_G (ht:s.heap.IsList a items) (h:Q (.ref s.heap.objs.size) { s with heap:=s.heap.push (Sd.ls a).it0 }):wpAny (model prog w) A (pyIter (.ref a)) Q E s:=wpAny_pyIter_list ht h
theorem iter_st (h:Q (.ref s.heap.objs.size) { s with heap:=s.heap.push (Sd.tx x t).it0 }):wpAny (model prog w) A (pyIter (.str x t)) Q E s:=iter_text h
theorem iter_tp (ht:s.heap.IsTuple a items) (h:Q (.ref s.heap.objs.size) { s with heap:=s.heap.push (Sd.tp a).it0 }):wpAny (model prog w) A (pyIter (.ref a)) Q E s:=iter_tup ht h
end
abbrev MeetG (d1 d2:Sd):Prop:=∀xs ys:Array Value,Meets (Builtin.«zip.__new__» ⟨[.type "zip",d1.vu,d2.vu],[]⟩) (fun _ R s=>d1.hp xs s.heap/\d2.hp ys s.heap/\R (.ok (.ret (.ref (s.heap.objs.size+4)))) { s with heap:=madeG s.heap d1.it0 d2.it0 })
theorem meet_st (x:Str) (t:Tok) (b:Addr):MeetG (.tx x t) (.tp b):=fun xs ys=>.of_wp fun prog w A R s h=>by
 obtain ⟨hp,g,d,tk,os⟩:=s
 obtain ⟨hx,hy,h⟩:=h
 have hsub:=sub_zip
 have hy:(hp.push (Sd.tx x t).it0).IsTuple b ys:=IsTup.keeps hy fun o e=>Heap.get?_push_of_some _ e
 show wpAny _ _ (Builtin.«zip.__new__» ⟨[.type "zip",.str x t,.ref b],[]⟩) _ _ _
 wp_walk using iter_st,iter_tp hy
 refine ⟨_,rfl,?_⟩
 simp only [madeG] at h
 simpa [Heap.size_push,Builtin.SmallTypes.ownedTupleFields,Nat.add_assoc] using h
theorem meet_sl (x:Str) (t:Tok) (b:Addr):MeetG (.tx x t) (.ls b):=fun xs ys=>.of_wp fun prog w A R s h=>by
 obtain ⟨hp,g,d,tk,os⟩:=s
 obtain ⟨hx,hy,h⟩:=h
 have hsub:=sub_zip
 have hy:(hp.push (Sd.tx x t).it0).IsList b ys:=Heap.IsList.push hy _
 show wpAny _ _ (Builtin.«zip.__new__» ⟨[.type "zip",.str x t,.ref b],[]⟩) _ _ _
 wp_walk using iter_st,c_G hy
 refine ⟨_,rfl,?_⟩
 simp only [madeG] at h
 simpa [Heap.size_push,Builtin.SmallTypes.ownedTupleFields,Nat.add_assoc] using h
theorem meet_ll (a b:Addr):MeetG (.ls a) (.ls b):=fun xs ys=>.of_wp fun prog w A R s h=>by
 obtain ⟨hp,g,d,tk,os⟩:=s
 obtain ⟨hx,hy,h⟩:=h
 have hsub:=sub_zip
 have hx:hp.IsList a xs:=hx
 have hy:(hp.push (Sd.ls a).it0).IsList b ys:=Heap.IsList.push hy _
 show wpAny _ _ (Builtin.«zip.__new__» ⟨[.type "zip",.ref a,.ref b],[]⟩) _ _ _
 wp_walk using c_G hx,c_G hy
 refine ⟨_,rfl,?_⟩
 simp only [madeG] at h
 simpa [Heap.size_push,Builtin.SmallTypes.ownedTupleFields,Nat.add_assoc] using h
section
variable {prog:Program} {w:World} {A:Around} {E:Value->Shared->Prop} {s:Shared}
theorem call_sd (M:MeetG d1 d2) (hx:d1.hp xs s.heap) (hy:d2.hp ys s.heap)
  (h:∀h',IsZip h' (s.heap.objs.size+4) (s.heap.objs.size+2) (s.heap.objs.size+3) .none->IsPair h' (s.heap.objs.size+2) (.ref s.heap.objs.size) (.ref (s.heap.objs.size+1))->IsPair h' (s.heap.objs.size+3) .none .none->
   d1.pl s.heap.objs.size 0 h'->d2.pl (s.heap.objs.size+1) 0 h'->(∀c o,s.heap.get? c=some o->h'.get? c=some o)->Q (.ref (s.heap.objs.size+4)) { s with heap:=h' }):
  wpAny (model prog w) A (call (.type "zip") [d1.vu,d2.vu]) Q E s:=by
 refine callType_new F.called_zip (by decide) (F.typeCall_zip_2 _ _) (F.newCall_zip_2 _ _) (fun obj=>F.args_object_init_3 obj _ _) F.entry_zip_new (M xs ys) ⟨hx,hy,?_⟩
 have at1:∀(g:Heap) (o:Obj) (n:Nat),g.objs.size=n->o.isFreed=false->(g.push o).get? n=some o:=fun g o n e f=>by rw [<- e];exact Heap.get?_push_size g f
 have z5:IsZip (madeG s.heap d1.it0 d2.it0) (s.heap.objs.size+4) (s.heap.objs.size+2) (s.heap.objs.size+3) .none:=at1 _ _ _ (by simp [Heap.size_push]) rfl
 exact ⟨⟨_,z5,rfl⟩,h _ z5 (Heap.get?_push_of_some _ (Heap.get?_push_of_some _ (at1 _ _ _ (by simp [Heap.size_push]) rfl))) (Heap.get?_push_of_some _ (at1 _ _ _ (by simp [Heap.size_push]) rfl))
  (it0_at (Heap.get?_push_of_some _ (Heap.get?_push_of_some _ (Heap.get?_push_of_some _ (Heap.get?_push_of_some _ (at1 _ _ _ rfl (d_d _))))))) (it0_at (Heap.get?_push_of_some _ (Heap.get?_push_of_some _ (Heap.get?_push_of_some _ (at1 _ _ _ (by simp [Heap.size_push]) (d_d _))))))
  fun c o e=>Heap.get?_push_of_some _ (Heap.get?_push_of_some _ (Heap.get?_push_of_some _ (Heap.get?_push_of_some _ (Heap.get?_push_of_some _ e))))⟩
end
end ZP
def Itg (d1 d2:Sd):It:=⟨fun i H=>∃xs ys a b,d1.has H xs/\d2.has H ys/\xs[i]?=some a/\ys[i]?=some b,fun i H v H'=>∃p xs ys a b,d1.has H xs/\d2.has H ys/\xs[i]?=some a/\ys[i]?=some b/\v=.ref p/\H p=none/\H'=upd H p (.tup [a,b]),
 fun i H=>∃xs ys,d1.has H xs/\d2.has H ys/\xs.length=ys.length/\i=xs.length⟩
theorem pl_obj {d:Sd} (x:d.pl it i h):∃o,h.get? it=some o/\∀v,o.data≠.cell v:=by
 cases d with
 | tx y t=>obtain ⟨o,e,_,dd⟩:=x;exact ⟨o,e,fun v q=>by rw [dd] at q;cases q⟩
 | tp a=>obtain ⟨o,e,_,dd⟩:=x;exact ⟨o,e,fun v q=>by rw [dd] at q;cases q⟩
 | ls a=>obtain ⟨o,e,_,dd⟩:=x;exact ⟨o,e,fun v q=>by rw [dd] at q;cases q⟩
theorem e_X {d:Sd} (x:d.pl it i h) (k:∀o,h.get? it=some o->h'.get? it=some o):d.pl it i h':=by
 cases d with
 | tx y t=>obtain ⟨o,e,r⟩:=x;exact ⟨o,k o e,r⟩
 | tp a=>obtain ⟨o,e,r⟩:=x;exact ⟨o,k o e,r⟩
 | ls a=>obtain ⟨o,e,r⟩:=x;exact ⟨o,k o e,r⟩
theorem sd_hp {σ:St} {d:Sd} (I:Inv X pins σ H s) (h:d.has H xs):∃its,d.hp its s.heap:=by
 cases d with
 | tx y t=>exact ⟨#[],True.intro⟩
 | tp a=>
  obtain ⟨its,_,p,_⟩:=I.tuple (SqT.of (show H a=_ from h))
  exact ⟨_,p⟩
 | ls a=>
  obtain ⟨its,_,⟨o,n,e,c,_,dd⟩,_⟩:=I.list (SqL.of (show H a=_ from h))
  exact ⟨its.toArray,o,e,c,n,dd⟩
theorem d_G {X:Cx} {σ:St} {d:Sd} (I:Inv X pins σ H s) (hh:A.handled=none) (h:d.has H xs) (hit:H it=none) (hp:d.pl it i s.heap):
  ∃f P S,Draws X.prog X.w A it f xs.length P S/\(∀c∈f,c=it\/∃u,H c=some u)/\S i s.heap/\(∀j g,S j g->d.pl it j g)/\∀j v x,P j v->xs[j]?=some x->RelV x v:=by
 cases d with
 | tx y t=>
  have h:xs=y.cps.toList.map fun c=>V.str ⟨#[c]⟩:=h
  refine ⟨[it],fun i v=>∃c u,y.cps[i]?=some c/\v=.str ⟨#[c]⟩ u,ZP.strAt y t it,?_,fun c hc=>.inl (List.mem_singleton.mp hc),hp,fun j g z=>z,fun j v x hP hx=>?_⟩
  ·have e:xs.length=y.cps.size:=by rw [h];simp
   rw [e]
   exact ZP.draws hh it y t
  ·obtain ⟨c,u,e1,rfl⟩:=hP
   rw [h,List.getElem?_map,Array.getElem?_toList,e1] at hx
   cases hx
   exact ⟨u,rfl⟩
 | tp a=>
  obtain ⟨its,r,p,_⟩:=I.tuple (SqT.of (show H a=_ from h))
  have p':s.heap.IsTuple a its.toArray:=p
  have hne:a≠it:=fun z=>by rw [<- z,show H a=_ from h] at hit;cases hit
  have e:xs.length=its.toArray.size:=by rw [r.length];simp
  refine ⟨[it,a],fun i v=>its.toArray[i]?=some v,fun i h=>h.IsTupleIter it a i/\h.IsTuple a its.toArray,by rw [e];exact drawsT hh it a hne its.toArray,fun c hc=>?_,⟨hp,p'⟩,fun j g z=>z.1,fun j v x hP hx=>?_⟩
  ·rcases List.mem_cons.mp hc with z | z
   ·exact .inl z
   ·rw [List.mem_singleton.mp z]
    exact .inr ⟨_,h⟩
  ·obtain ⟨u,hu,ru⟩:=r.get hx
   have hP:its.toArray[j]?=some v:=hP
   rw [List.getElem?_toArray,hu] at hP
   cases hP
   exact ru
 | ls a=>
  obtain ⟨its,r,⟨o,n,eo,co,_,dd⟩,_⟩:=I.list (SqL.of (show H a=_ from h))
  have p':s.heap.IsList a its.toArray:=⟨o,eo,co,n,dd⟩
  have hne:a≠it:=fun z=>by rw [<- z,show H a=_ from h] at hit;cases hit
  have e:xs.length=its.toArray.size:=by rw [r.length];simp
  refine ⟨[it,a],fun i v=>its.toArray[i]?=some v,fun i h=>h.IsListIter it a i/\h.IsList a its.toArray,by rw [e];exact Draws.list hh it a hne its.toArray,fun c hc=>?_,⟨hp,p'⟩,fun j g z=>z.1,fun j v x hP hx=>?_⟩
  ·rcases List.mem_cons.mp hc with z | z
   ·exact .inl z
   ·rw [List.mem_singleton.mp z]
    exact .inr ⟨_,h⟩
  ·obtain ⟨u,hu,ru⟩:=r.get hx
   have hP:its.toArray[j]?=some v:=hP
   rw [List.getElem?_toArray,hu] at hP
   cases hP
   exact ru
theorem turn_zipG {K:PySem.W.Frag} (d1 d2:Sd) (z TI TO i1 i2:Addr) (ap:ZipApart z TI TO i1 i2 TI TI):
  Turn P w K (.Tuple es kt pt) (Itg d1 d2) [z,TI,TO,i1,i2] z (fun i h=>IsZip h z TI TO .none/\IsPair h TI (.ref i1) (.ref i2)/\(∃a b,IsPair h TO a b)/\d1.pl i1 i h/\d2.pl i2 i h)  where
 mem:=by simp
 obj:=fun i h ⟨hz,hTI,⟨a,b,hTO⟩,s1,s2⟩ c hc=>by
  simp only [List.mem_cons,List.not_mem_nil,or_false] at hc
  rcases hc with rfl | rfl | rfl | rfl | rfl
  ·exact ⟨_,hz,fun v q=>by cases q⟩
  ·exact ⟨_,hTI,fun v q=>by cases q⟩
  ·exact ⟨_,hTO,fun v q=>by cases q⟩
  ·exact pl_obj s1
  ·exact pl_obj s2
 keep:=fun i h h' ⟨hz,hTI,⟨a,b,hTO⟩,s1,s2⟩ k=>
  ⟨k z (by simp) _ hz,k TI (by simp) _ hTI,⟨a,b,k TO (by simp) _ hTO⟩,e_X s1 (k i1 (by simp)),e_X s2 (k i2 (by simp))⟩
 item:=by
  rintro X hP hw hK hc i pins s σ H E I hf ⟨hz,hTI,⟨a,b,hTO⟩,s1,s2⟩ ⟨xs,ys,va,vb,hqx,hqy,hxa,hyb⟩
  subst hP hw hK
  have l1:i<xs.length:=(List.getElem?_eq_some_iff.mp hxa).1
  have l2:i<ys.length:=(List.getElem?_eq_some_iff.mp hyb).1
  obtain ⟨f1,P1,S1,D1,m1,st1,b1,r1⟩:=d_G (A:=X.A.in1) I (I.ok.hd hc) hqx (hf i1 (by simp)).1 s1
  obtain ⟨f2,P2,S2,D2,m2,st2,b2,r2⟩:=d_G (A:=X.A.in1) I (I.ok.hd hc) hqy (hf i2 (by simp)).1 s2
  have off:∀{c:Addr} {u:HO},H c=some u->c∉[z,TO,i1,i2]:=fun {c u} e hm=>by
   have:c∈[z,TI,TO,i1,i2]:=by simp at hm ⊢;rcases hm with q | q | q | q <;> simp [q]
   rw [(hf c this).1] at e
   cases e
  have hT:s.TypeIs (.ref z) "zip":=⟨_,hz,rfl⟩
  unfold pyNext
  refine wpAny_bind (wpAny_attempt (wpAny_callSpecial?_slot (name:=Str.ofString "__next__") hT F.slot_zip_next (wpAny_call_entry F.slot_zip_next hT F.entry_zip_next (ZP.toldL D1 D2
   (fun c hc=>(m1 c hc).imp id fun ⟨u,e⟩=>off e) (fun c hc=>(m2 c hc).imp id fun ⟨u,e⟩=>off e)
   ap hz hTI hTO st1 st2 l1 l2 fun v1 v2 g tk p1 p2 gz gTI gTO g1 g2 new gk=>wpAny_pure ⟨_,rfl,?_⟩) (F.args_zip_next_1 _))))
  have ra:=r1 i v1 va p1 hxa
  have rb:=r2 i v2 vb p2 hyb
  refine wpAny_letOwnedTupleGo_zip (s:={ s with heap:=g,toks:=tk }) gz fun g' gz' gs=>?_
  have up:∀b o,b≠z->g.get? b=some o->g'.get? b=some o:=fun b o hb e=>(gs.2 b hb).trans e
  have nz:s.heap.objs.size≠z:=Nat.ne_of_gt (Heap.lt_size hz)
  have tup:a_V X.prog X.w (upd H s.heap.objs.size (.tup [va,vb])) g' s.heap.objs.size (.tup [va,vb]):=
   ⟨a_i (by show 2≤16777216;decide),[v1,v2],.cons ra (.cons rb .nil),⟨_,up _ _ nz new,rfl,0,rfl⟩⟩
  refine ⟨.ref s.heap.objs.size,_,I.turnedNew (S:=[z,TO,i1,i2]) (h':=g') (t':=tk) (fun b o hb e=>up b o (fun q=>hb (by simp [q])) (gk b o hb e)) (fun b hb=>hf b (by simp at hb ⊢;rcases hb with q | q | q | q <;> simp [q])) tup,rfl,
   ⟨_,xs,ys,va,vb,hqx,hqy,hxa,hyb,rfl,I.hok.fresh (Nat.le_refl _),rfl⟩,⟨gz',up _ _ ap.TIz gTI,⟨_,_,up _ _ ap.TOz gTO⟩,e_X (b1 _ _ g1) fun o e=>up _ o ap.i1z e,e_X (b2 _ _ g2) fun o e=>up _ o ap.i2z e⟩,fun b hb=>?_⟩
  have lt:b<s.heap.objs.size:=by
   obtain ⟨o1,e1,_⟩:=pl_obj s1
   obtain ⟨o2,e2,_⟩:=pl_obj s2
   simp only [List.mem_cons,List.not_mem_nil,or_false] at hb
   rcases hb with rfl | rfl | rfl | rfl | rfl
   ·exact Heap.lt_size hz
   ·exact Heap.lt_size hTI
   ·exact Heap.lt_size hTO
   ·exact Heap.lt_size e1
   ·exact Heap.lt_size e2
  rw [upd_ne (Nat.ne_of_lt lt)]
  exact (hf b hb).1
 done:=by
  rintro X hP hw hK hc i pins s σ H E I hf ⟨hz,hTI,⟨a,b,hTO⟩,s1,s2⟩ ⟨xs,ys,hqx,hqy,hl,hi⟩
  subst hP hw hK
  obtain ⟨f1,P1,S1,D1,m1,st1,b1,r1⟩:=d_G (A:=X.A.in1) I (I.ok.hd hc) hqx (hf i1 (by simp)).1 s1
  obtain ⟨f2,P2,S2,D2,m2,st2,b2,r2⟩:=d_G (A:=X.A.in1) I (I.ok.hd hc) hqy (hf i2 (by simp)).1 s2
  have off:∀{c:Addr} {u:HO},H c=some u->c∉[z,TO,i1,i2]:=fun {c u} e hm=>by
   have:c∈[z,TI,TO,i1,i2]:=by simp at hm ⊢;rcases hm with q | q | q | q <;> simp [q]
   rw [(hf c this).1] at e
   cases e
  have hT:s.TypeIs (.ref z) "zip":=⟨_,hz,rfl⟩
  unfold pyNext
  refine wpAny_bind (wpAny_attempt (wpAny_callSpecial?_slot (name:=Str.ofString "__next__") hT F.slot_zip_next (wpAny_call_entry F.slot_zip_next hT F.entry_zip_next (ZP.endedL D1 D2
   (fun c hc=>(m1 c hc).imp id fun ⟨u,e⟩=>off e) (fun c hc=>(m2 c hc).imp id fun ⟨u,e⟩=>off e)
   ap hz hTI hTO st1 st2 (.inl hi) fun g e tk gk he=>?_) (F.args_zip_next_1 _))))
  obtain ⟨o,ho,hcl⟩:=he
  refine wpAny_bind (wpAny_isInstance (s:={ s with heap:=g,toks:=tk }) (T:="StopIteration") (b:=true) ⟨o,ho,hcl⟩ isSubtype_stop (wpAny_pure ⟨rfl,?_⟩))
  exact I.turnedL (S:=[z,TO,i1,i2]) (fun b o hb e=>gk b o hb e) fun b hb=>hf b (by simp at hb ⊢;rcases hb with q | q | q | q <;> simp [q])
 self:=fun _ _ _ _ _ st h=>wpAny_pyIter_zip st.1 h
def Zips (H:Hp) (v1 v2:V) (R:(Tok->Sd)->Sd->Prop):Prop:=
 (∃x b xs,v1=.str x/\v2=.ref b/\H b=some (.tup xs)/\R (.tx x) (.tp b))\/(∃x b xs,v1=.str x/\v2=.ref b/\H b=some (.lst xs)/\R (.tx x) (.ls b))\/∃a b xs ys,v1=.ref a/\v2=.ref b/\H a=some (.lst xs)/\H b=some (.lst ys)/\R (fun _=>.ls a) (.ls b)
def iZipG (t:TA):TI:=fun σ H R=>t σ H fun vs H1=>∃v1 v2,vs=[v1,v2]/\Zips H1 v1 v2 fun d1 d2=>∀k,R (Itg (d1 k) d2) H1
theorem pi_zipG {es:List Expr} {kt:Nat} {pt:Pos} {p pos:Pos} (hg:Gl X "zip") (hm:X.mg "zip"=none) (ha:PA X [a,b] ta) (hs:starEach [a,b] X.env=(false,eval a X.env)::starEach [b] X.env:=by rfl)
  (hpl:(backTo pos (starEach [b] X.env)).any (·.1)=false:=by rfl):PI X (.Tuple es kt pt) (.Call (.Name "zip" p) [a,b] [] pos) (iZipG ta):=by
 intro pins s σ H R I h
 refine wpAny_Call_Name_kw (ld_blt I hg hm PyProof.Rows.boot_zip (PyProof.Rows.callWith_type1 (thn (ha pos pins s σ H _ I h) fun us s1 ⟨vs,H1,I1,r1,v1,v2,ev,hz⟩=>?_) hs hpl))
 subst ev
 obtain ⟨u1,u2,rfl,e1,e2⟩:=vals2 r1
 have go:∀(d1 d2:Sd) (xs ys:List V),ZP.MeetG d1 d2->u1=d1.vu->u2=d2.vu->d1.has H1 xs->d2.has H1 ys->R (Itg d1 d2) H1->wpAny (model X.prog X.w) X.A (call (.type "zip") [u1,u2]) (fun v s2=>wpAny (model X.prog X.w) X.A (pyIter v) (PIE X pins σ (.Tuple es kt pt) R) X.xe s2) X.xe s1:=by
  rintro d1 d2 xs ys M rfl rfl hx hy q
  obtain ⟨itx,px⟩:=sd_hp I1 hx
  obtain ⟨ity,py⟩:=sd_hp I1 hy
  refine ZP.call_sd M px py fun g gz gTI gTO g1 g2 gk=>wpAny_pyIter_zip (s:={ s1 with heap:=g }) gz ?_
  have ap:ZipApart (s1.heap.objs.size+4) (s1.heap.objs.size+2) (s1.heap.objs.size+3) s1.heap.objs.size (s1.heap.objs.size+1) (s1.heap.objs.size+2) (s1.heap.objs.size+2):=by
   constructor <;> exact neA (by omega)
  refine ⟨_,[s1.heap.objs.size+4,s1.heap.objs.size+2,s1.heap.objs.size+3,s1.heap.objs.size,s1.heap.objs.size+1],_,Itg d1 d2,H1,rfl,I1.kept (t':=s1.toks) gk,turn_zipG d1 d2 _ _ _ _ _ ap,
   ⟨gz,gTI,⟨_,_,gTO⟩,g1,g2⟩,fun c hc=>?_,q⟩
  have hge:s1.heap.objs.size≤c:=by
   simp only [List.mem_cons,List.not_mem_nil,or_false] at hc
   rcases hc with rfl | rfl | rfl | rfl | rfl
   ·exact Nat.le_add_right _ _
   ·exact Nat.le_add_right _ _
   ·exact Nat.le_add_right _ _
   ·exact Nat.le_refl _
   ·exact Nat.le_add_right _ _
  exact I1.fpOk hge (I1.hok.fresh hge)
 rcases hz with ⟨x,b,xs,rfl,rfl,hb,q⟩ | ⟨x,b,xs,rfl,rfl,hb,q⟩ | ⟨a,b,xs,ys,rfl,rfl,ha',hb,q⟩
 ·obtain ⟨t,rfl⟩:=(show ∃t,u1=Value.str x t from e1)
  cases e2
  exact go (.tx x t) (.tp b) _ _ (ZP.meet_st x t b) rfl rfl rfl hb (q t)
 ·obtain ⟨t,rfl⟩:=(show ∃t,u1=Value.str x t from e1)
  cases e2
  exact go (.tx x t) (.ls b) _ _ (ZP.meet_sl x t b) rfl rfl rfl hb (q t)
 ·cases e1
  cases e2
  exact go (.ls a) (.ls b) _ _ (ZP.meet_ll a b) rfl rfl ha' hb (q 0)
end L2
namespace L2
open PySem PySem.Spec PyProof.Rows
theorem b_Q (k:Int) (t:Tok):Value.isInt k (.int k t)=true:=by simp [Value.isInt]
def DGetW (P:Program) (w:World) (H:Hp) (d:Addr) (y:V) (r:Option V):Prop:=
 (∃kvs k,H d=some (kdO (intKind P w) d kvs)/\y=.int k/\r=valV kvs k) \/
 ∃kvs k b,H d=some (hdO (b_c P w) d kvs)/\(∀x∈kvs,TIn H x.1 x.2.1)/\y=.ref b/\TIn H k b/\r=valH kvs k
def DPutW (P:Program) (w:World) (H:Hp) (d:Addr) (y v:V) (H':Hp):Prop:=
 (∃kvs k,H d=some (kdO (intKind P w) d kvs)/\y=.int k/\valV kvs k=none/\kvs.length<sizeLine/\H'=upd H d (kdO (intKind P w) d (kvs++[(k,v)]))) \/
 ∃kvs k b,H d=some (hdO (b_c P w) d kvs)/\(∀x∈kvs,TIn H x.1 x.2.1)/\y=.ref b/\TIn H k b/\valH kvs k=none/\kvs.length<sizeLine/\H'=upd H d (hdO (b_c P w) d (kvs++[(k,b,v)]))
section
variable {X:Cx}
def rNotInW (P:Program) (w:World):R2:=fun x y H Q=>∃d o,y=.ref d/\DGetW P w H d x o/\Q (.bl (!o.isSome)) H
theorem op_notinW (hu:X.A.units+64<cLine):OpR X (compareOp .NotIn) (rNotInW X.prog X.w):=by
 intro pins s σ H x y v u Q I rx ry h
 obtain ⟨d,o,rfl,g,q⟩:=h
 cases ry
 rcases g with ⟨kvs,k,e,rfl,rfl⟩ | ⟨kvs,k,b,e,hk,rfl,kb,rfl⟩
 ·obtain ⟨t,rfl⟩:=(show ∃t,v=Value.int k t from rx)
  obtain ⟨ns,_,vs,rel,dd⟩:=kd_of I.hok e
  refine wpAny_notIn_of (knd:=intKind X.prog X.w) (k:=k) (b_Q k t) ns dd.mapOf ?_
  rw [<- c_N (rel.val k)]
  exact ⟨.bl _,H,I.tok _,rfl,q⟩
 ·cases rx
  exact h_notIn (D:=b_c X.prog X.w) hu I e hk kb fun s' I'=>⟨.bl _,H,I',rfl,q⟩
theorem dg_typeW {σ:St} (I:Inv X pins σ H s) (g:DGetW X.prog X.w H d y o):s.TypeIs (.ref d) "dict":=by
 rcases g with ⟨kvs,k,e,_⟩ | ⟨kvs,k,b,e,hk,_⟩
 ·obtain ⟨_,_,vs,_,dd⟩:=kd_of I.hok e
  exact dd.typeIs
 ·obtain ⟨_,_,vs,_,dd⟩:=hd_of (D:=b_c X.prog X.w) I.hok e hk
  exact dd.typeIs
def rIxW (P:Program) (w:World):R2:=fun x y H Q=>∃d v,x=.ref d/\DGetW P w H d y (some v)/\Q v H
theorem ix_dictW (hu:X.A.units+64<cLine):IxR X (rIxW X.prog X.w):=by
 intro value slice pins s σ H x y v u Q I rx ry h hs
 obtain ⟨d,z,rfl,g,q⟩:=h
 cases rx
 refine tail_any (ops:=[.ref d,u]) (dg_typeW I g) PySem.F.slot_dict_getitem.lookup ?_ hs
 rcases g with ⟨kvs,k,e,rfl,l⟩ | ⟨kvs,k,b,e,hk,rfl,kb,l⟩
 ·obtain ⟨t,rfl⟩:=(show ∃t,u=Value.int k t from ry)
  obtain ⟨ns,_,vs,rel,dd⟩:=kd_of I.hok e
  obtain ⟨w',hw,rw'⟩:=RelO.some_of (v:=z) (o:=valueAt vs k) (by rw [l];exact rel.val k)
  exact wpAny_getItem_of (knd:=intKind X.prog X.w) (k:=k) (b_Q k t) dd.mapOf hw ⟨z,H,I.tok _,rw',q⟩
 ·cases ry
  exact h_get (D:=b_c X.prog X.w) hu I e hk kb l fun w' s' I' rw'=>⟨z,H,I',rw',q⟩
def rSetW (P:Program) (w:World):TSet:=fun o i v H Q=>∃d H',o=.ref d/\DPutW P w H d i v H'/\Q H'
theorem set_dictW (hu:X.A.units+64<cLine):PSet X (rSetW X.prog X.w):=by
 intro pins s σ H o i v ov iv u Q I ro ri rv h
 obtain ⟨d,H',rfl,g,q⟩:=h
 cases ro
 rcases g with ⟨kvs,k,e,rfl,hn,hl,rfl⟩ | ⟨kvs,k,b,e,hk,rfl,kb,hn,hl,rfl⟩
 ·obtain ⟨t,rfl⟩:=(show ∃t,iv=Value.int k t from ri)
  obtain ⟨ns,hz,vs,rel,dd⟩:=kd_of I.hok e
  refine wpAny_setItem_pairs (knd:=intKind X.prog X.w) (k:=k) (hsz:=by rw [<- rel.length];exact hz) (b_Q k t) dd fun h' dd' hs=>⟨_,?_,q⟩
  have qn:=RelO.none_of (show RelO none (valueAt vs k) by rw [<- hn];exact rel.val k)
  rw [d_j qn] at dd'
  exact c_e I (by rw [e];exact True.intro) hs (let ⟨o,_,_,q,_⟩:=dd';⟨o,q⟩) (kd_ok ns (by rw [List.length_append];exact hl) (kv_snoc rel rv) dd')
 ·cases ri
  exact h_set (D:=b_c X.prog X.w) hu I e hk kb hn hl rv fun s' I'=>⟨_,I',q⟩
def newW (P:Program) (w:World) (d:Addr):Bool->HO
 | true=>kdO (intKind P w) d []
 | false=>hdO (b_c P w) d []
theorem newW_ok (h:Heap) (hb:sysModules<h.objs.size) (k:Bool):a_V P w H (h.push { cls:=.type "dict",data:=.dict #[] }) h.objs.size (newW P w h.objs.size k):=by
 have ns:(h.objs.size==sysModules)=false:=beq_eq_false_iff_ne.mpr (Ne.symm (Nat.ne_of_lt hb))
 cases k with
 | true=>exact kd_ok (knd:=intKind P w) ns (Nat.zero_le _) .nil (Heap.DictOf.new h)
 | false=>exact hd_ok (D:=b_c P w) ns (Nat.zero_le _) .nil (Heap.DictOfH.new h)
def tWNew (P:Program) (w:World):TE:=fun _ H Q=>∃k,∀p,H p=none->Q (.ref p) (upd H p (newW P w p k))
theorem e_Y:PE X (.Dict [] [] pos) (tWNew X.prog X.w):=fun pins s σ H Q I ⟨k,h⟩=>
 wpAny_Dict_empty ⟨.ref s.heap.objs.size,_,I.laid (a:=s.heap.objs.size) (o:=newW X.prog X.w s.heap.objs.size k) (t':=s.toks) (fun _ _ q=>Heap.get?_push_of_some _ q) (Nat.le_refl _) (newW_ok s.heap I.bigS k),rfl,h _ (I.hok.fresh (Nat.le_refl _))⟩
def tWOne (P:Program) (w:World) (tk tv:TE):TE:=fun σ H Q=>∃ti:Bool,∀p,H p=none->tk σ (upd H p (newW P w p ti)) fun x H1=>tv σ H1 fun y H2=>H2 p=some (newW P w p ti)/\
 ((ti=true/\∃k,x=.int k/\Q (.ref p) (upd H2 p (kdO (intKind P w) p [(k,y)])))\/(ti=false/\∃b k,x=.ref b/\TIn H2 k b/\Q (.ref p) (upd H2 p (hdO (b_c P w) p [(k,b,y)]))))
theorem pe_wone (hu:X.A.units+64<cLine) (hk:PE X k tk) (hv:PE X v tv):PE X (.Dict [some k] [v] pos) (tWOne X.prog X.w tk tv):=by
 intro pins s σ H Q I h
 obtain ⟨ti,h⟩:=h
 have hn:=I.hok.fresh (Nat.le_refl s.heap.objs.size)
 have I1:=I.laid (a:=s.heap.objs.size) (o:=newW X.prog X.w s.heap.objs.size ti) (t':=s.toks) (fun _ _ q=>Heap.get?_push_of_some { cls:=.type "dict",data:=.dict #[] } q) (Nat.le_refl _) (newW_ok s.heap I.bigS ti)
 have hsh:=zip_pairTrees [some k] [v] X.env pos rfl rfl
 rw [arm_eval_Dict,hsh,dictDisplay_pairs (pairTrees [some k] [v] X.env pos) (by intro z;cases z) (by show 1<17;decide)]
 refine wpAny_bind (wpAny_standAt (wpAny_bind ?_))
 unfold subDict
 refine wpAny_bind (wpAny_alloc (wpAny_bind (wpAny_holding ?_)))
 rw [if_pos (show (pairTrees [some k] [v] X.env pos).length≤15 by show 1≤15;decide)]
 refine wpAny_bind (pairTrees_cons_walk (thn (hk pins _ σ _ _ I1 (h _ hn)) fun u s1 ⟨x,H1,I2,rx,q1⟩=>thn (hv pins s1 σ H1 _ I2 q1) fun r s2 ⟨y,H2,I3,ry,hp,q2⟩=>pairTrees_nil_walk (wpAny_holding (wpAny_bind ?_))))
 rw [List.forIn_cons]
 rcases q2 with ⟨rfl,k,rfl,q2⟩ | ⟨rfl,b,k,rfl,kb,q2⟩
 ·obtain ⟨t,rfl⟩:=(show ∃t,u=Value.int k t from rx)
  obtain ⟨ns,hz,vs,rel,dd⟩:=kd_of (knd:=intKind X.prog X.w) (kvs:=[]) I3.hok hp
  refine wpAny_bind (wpAny_bind (wpAny_dictSet_pairs (knd:=intKind X.prog X.w) (k:=k) (hsz:=by rw [<- rel.length];exact hz) (b_Q k t) dd fun h' dd' hs=>wpAny_pure ?_))
  dsimp only
  rw [List.forIn_nil]
  refine wpAny_pure (wpAny_pure (wpAny_pure (wpAny_pure ⟨.ref s.heap.objs.size,_,?_,rfl,q2⟩)))
  have qn:=RelO.none_of (show RelO none (valueAt vs k) from rel.val k)
  rw [d_j qn] at dd'
  exact c_e I3 (by rw [hp];exact True.intro) hs (let ⟨o,_,_,q,_⟩:=dd';⟨o,q⟩) (kd_ok ns (a_i (by show 1≤16777216;decide)) (kv_snoc (kvs:=[]) rel ry) dd')
 ·cases rx
  obtain ⟨ns,hz,xs,rel,dd⟩:=hd_of (D:=b_c X.prog X.w) (kvs:=[]) I3.hok hp (fun x hx=>by simp at hx)
  refine wpAny_bind (wpAny_bind (wpAny_dictSet_heap (knd:=(b_c X.prog X.w).knd) (hsz:=by rw [<- Paired.length rel];exact hz) ((b_c X.prog X.w).room hu).2 ((b_c X.prog X.w).ok kb I3.hok) dd fun h' dd' hs=>wpAny_pure ?_))
  dsimp only
  rw [List.forIn_nil]
  refine wpAny_pure (wpAny_pure (wpAny_pure (wpAny_pure ⟨.ref s.heap.objs.size,_,?_,rfl,q2⟩)))
  exact h_new (D:=b_c X.prog X.w) (kvs:=[]) I3 hp ns (a_i (by show 1≤16777216;decide)) rel rfl ry dd' hs
end
end L2
namespace RA
open PySem L2
def ThV (ti:Bool) (H:Hp) (k:List Nat) (v:V):Prop:=if ti=true then ∃n:Nat,k=[n]/\v=.int (n:Int) else ∃b,v=.ref b/\H b=some (.tup (intsV k))
theorem ThV.same (h:ThV ti H k v) (s:∀b xs,H b=some (.tup xs)->H' b=some (.tup xs)):ThV ti H' k v:=by
 unfold ThV at h ⊢
 split
 ·rename_i c
  rw [if_pos c] at h
  exact h
 ·rename_i c
  rw [if_neg c] at h
  obtain ⟨b,e1,e2⟩:=h
  exact ⟨b,e1,s _ _ e2⟩
theorem e_N (k:List Nat):(zs k).map V.int=intsV k:=by rw [zs,intsV,List.map_map];rfl
def kvI:List (List Nat)->Nat->List (Int×V)
 | [],_=>[]
 | k::r,n=>(((k.headD 0:Nat):Int),.int (n:Int))::kvI r (n+1)
theorem kvI_len:∀(ts:List (List Nat)) (n:Nat),(kvI ts n).length=ts.length
 | [],_=>rfl
 | k::r,n=>by rw [kvI,List.length_cons,List.length_cons,kvI_len r]
theorem kvI_snoc (k:List Nat):∀(ts:List (List Nat)) (n:Nat),kvI (ts++[k]) n=kvI ts n++[(((k.headD 0:Nat):Int),.int ((n+ts.length:Nat):Int))]
 | [],n=>rfl
 | t::r,n=>by
  rw [List.cons_append,kvI,kvI_snoc k r (n+1),kvI,List.cons_append,List.length_cons,show n+1+r.length=n+(r.length+1) by omega]
def ixO (ts:List (List Nat)) (k:List Nat):Option Nat:=if k∈ts then some (ts.idxOf k) else none
theorem ixO_cons (h:t≠k):ixO (t::r) k=(ixO r k).map (·+1):=by
 unfold ixO
 by_cases hk:k∈r
 ·rw [if_pos (List.mem_cons_of_mem _ hk),if_pos hk,List.idxOf_cons,show (t==k)=false from beq_eq_false_iff_ne.mpr h]
  rfl
 ·rw [if_neg (fun z=>(List.mem_cons.mp z).elim (fun y=>h y.symm) hk),if_neg hk]
  rfl
theorem kvI_val {m:Nat}:∀{ts:List (List Nat)} {n:Nat},(∀t∈ts,∃a,t=[a])->valV (kvI ts n) (m:Int)=(ixO ts [m]).map fun (i:Nat)=>V.int ((n+i:Nat):Int)
 | [],_,_=>rfl
 | t::r,n,h=>by
  obtain ⟨a,rfl⟩:=h t (by simp)
  by_cases e:a=m
  ·subst e
   rw [kvI,valV_pos (k:=(a:Int)) (show ((([a]:List Nat).headD 0:Nat):Int)=(a:Int) from rfl),ixO,if_pos (by simp),List.idxOf_cons_self]
   rfl
  ·rw [kvI,valV_neg (fun z=>e (Int.ofNat.inj z)),kvI_val (n:=n+1) (fun t ht=>h t (by simp [ht])),ixO_cons (fun z=>e (by injection z))]
   cases ixO r [m] with
   | none=>rfl
   | some i=>
    show some (V.int ((n+1+i:Nat):Int))=some (V.int ((n+(i+1):Nat):Int))
    rw [show n+1+i=n+(i+1) by omega]
def RmAt (P:Program) (w:World) (H:Hp) (d:Addr) (ti:Bool) (ts:List (List Nat)):Prop:=
 if ti=true then H d=some (kdO (intKind P w) d (kvI ts 0))/\∀t∈ts,∃a,t=[a]
 else ∃kvs:List (List Int×Addr×V),H d=some (hdO (b_c P w) d kvs)/\(∀x∈kvs,TIn H x.1 x.2.1)/\kvs.length=ts.length/\∀(i:Nat) (k:List Nat) (x:List Int×Addr×V),ts[i]?=some k->kvs[i]?=some x->x.1=zs k/\x.2.2=.int (i:Int)
theorem valH_of:∀{n:Nat},kvs.length=ts.length->(∀(i:Nat) (k:List Nat) (x:List Int×Addr×V),ts[i]?=some k->kvs[i]?=some x->x.1=zs k/\x.2.2=.int ((n+i:Nat):Int))->valH kvs (zs k)=(ixO ts k).map fun (i:Nat)=>V.int ((n+i:Nat):Int):=by
 induction kvs generalizing ts with
 | nil=>
  intro n hl h
  cases ts with
  | nil=>rfl
  | cons t r=>cases hl
 | cons x xs ih=>
  intro n hl h
  cases ts with
  | nil=>cases hl
  | cons t r=>
   obtain ⟨e1,e2⟩:=h 0 t x rfl rfl
   by_cases e:t=k
   ·subst e
    rw [ixO,if_pos (by simp),List.idxOf_cons_self]
    simp [valH,List.find?_cons,e1,e2]
   ·have e':¬ x.1=zs k:=fun z=>e (zs_inj (e1.symm.trans z))
    have a1:valH (x::xs) (zs k)=valH xs (zs k):=by simp [valH,List.find?_cons,e']
    rw [a1,ih (n:=n+1) (by simpa using hl) (fun i k' x' h1 h2=>by
     obtain ⟨g1,g2⟩:=h (i+1) k' x' h1 h2
     exact ⟨g1,by rw [g2,show n+(i+1)=n+1+i by omega]⟩),ixO_cons e]
    cases ixO r k with
    | none=>rfl
    | some i=>
     show some (V.int ((n+1+i:Nat):Int))=some (V.int ((n+(i+1):Nat):Int))
     rw [show n+1+i=n+(i+1) by omega]
section
variable {P:Program} {w:World} {H:Hp} {d:Addr} {ti:Bool} {ts:List (List Nat)} {k:List Nat} {v:V}
theorem RmAt.get (h:RmAt P w H d ti ts) (hv:ThV ti H k v):DGetW P w H d v ((ixO ts k).map fun (i:Nat)=>V.int (i:Int)):=by
 unfold RmAt at h
 unfold ThV at hv
 cases ti with
 | true=>
  rw [if_pos rfl] at h hv
  obtain ⟨n,rfl,rfl⟩:=hv
  refine .inl ⟨_,_,h.1,rfl,?_⟩
  rw [kvI_val h.2]
  simp
 | false=>
  rw [if_neg (by decide)] at h hv
  obtain ⟨kvs,h1,h2,h3,h4⟩:=h
  obtain ⟨b,rfl,hb⟩:=hv
  refine .inr ⟨kvs,zs k,b,h1,h2,rfl,by unfold TIn;rw [e_N];exact hb,?_⟩
  rw [valH_of (n:=0) h3 (fun i k x a b=>by rw [Nat.zero_add];exact h4 i k x a b)]
  simp
theorem RmAt.put (h:RmAt P w H d ti ts) (hv:ThV ti H k v) (hn:k∉ts) (hl:ts.length<sizeLine):∃ob,DPutW P w H d v (.int (ts.length:Int)) (L2.upd H d ob)/\RmAt P w (L2.upd H d ob) d ti (ts++[k]):=by
 have hno:ixO ts k=none:=if_neg hn
 have hd:∀b xs,H b=some (.tup xs)->∀ φ,H d=some (.ext φ)->∀ob,L2.upd H d ob b=some (.tup xs):=fun b xs e φ e2 ob=>by
  rw [upd_ne (ne_of e e2 (by intro z;cases z))]
  exact e
 unfold RmAt at h
 unfold ThV at hv
 cases ti with
 | true=>
  rw [if_pos rfl] at h hv
  obtain ⟨n,rfl,rfl⟩:=hv
  refine ⟨kdO (intKind P w) d (kvI (ts++[[n]]) 0),.inl ⟨_,_,h.1,rfl,?_,by rw [kvI_len];exact hl,?_⟩,?_⟩
  ·rw [kvI_val h.2,hno]
   rfl
  ·rw [kvI_snoc,Nat.zero_add]
   rfl
  ·unfold RmAt
   rw [if_pos rfl]
   refine ⟨upd_same,fun t ht=>?_⟩
   rcases List.mem_append.mp ht with z | z
   ·exact h.2 t z
   ·exact ⟨n,List.mem_singleton.mp z⟩
 | false=>
  rw [if_neg (by decide)] at h hv
  obtain ⟨kvs,h1,h2,h3,h4⟩:=h
  obtain ⟨b,rfl,hb⟩:=hv
  have hb':TIn H (zs k) b:=by unfold TIn;rw [e_N];exact hb
  refine ⟨hdO (b_c P w) d (kvs++[(zs k,b,.int (ts.length:Int))]),.inr ⟨kvs,zs k,b,h1,h2,rfl,hb',?_,by rw [h3];exact hl,rfl⟩,?_⟩
  ·rw [valH_of (n:=0) h3 (fun i k x a b=>by rw [Nat.zero_add];exact h4 i k x a b),hno]
   rfl
  ·unfold RmAt
   rw [if_neg (by decide)]
   refine ⟨_,upd_same,fun x hx=>?_,by rw [List.length_append,List.length_append,h3];rfl,fun i k' x hk hx=>?_⟩
   ·rcases List.mem_append.mp hx with z | z
    ·exact hd _ _ (h2 x z) _ h1 _
    ·rw [List.mem_singleton.mp z]
     exact hd _ _ hb' _ h1 _
   ·by_cases hi:i<ts.length
    ·rw [List.getElem?_append_left hi] at hk
     rw [List.getElem?_append_left (by rw [h3];exact hi)] at hx
     exact h4 i k' x hk hx
    ·rw [List.getElem?_append_right (Nat.le_of_not_lt hi)] at hk
     rw [List.getElem?_append_right (by rw [h3];exact Nat.le_of_not_lt hi),h3] at hx
     have hz:i - ts.length=0:=by
      have:=(List.getElem?_eq_some_iff.mp hk).1
      simp at this
      omega
     rw [hz] at hk hx
     cases hk
     cases hx
     exact ⟨rfl,by rw [show i=ts.length by omega]⟩
theorem RmAt.same (h:RmAt P w H d ti ts) (s:∀b o,H b=some o->(b=d\/∃xs,o=.tup xs)->H' b=some o):RmAt P w H' d ti ts:=by
 unfold RmAt at h ⊢
 cases ti with
 | true=>
  rw [if_pos rfl] at h ⊢
  exact ⟨s _ _ h.1 (.inl rfl),h.2⟩
 | false=>
  rw [if_neg (by decide)] at h ⊢
  obtain ⟨kvs,h1,h2,h3,h4⟩:=h
  exact ⟨kvs,s _ _ h1 (.inl rfl),fun x hx=>s _ _ (h2 x hx) (.inr ⟨_,rfl⟩),h3,h4⟩
end
end RA
namespace L2
open PySem PySem.Spec PyProof.Rows
namespace ZP
def zipO (T:Addr) (b:Bool) (TI TO:Addr):Obj:={ cls:=.type "zip",dict:=none,data:=.fields #[rawInt T,.bool b,.bool false,.ref TI,.ref TO],slots:=#[] }
section
variable {prog:Program} {w:World} {A:Around} {E:Value->Shared->Prop} {s:Shared} {z TI TO i1 i2 T:Addr} {f1 f2:List Addr} {n1 n2 k:Nat} {P1 P2:Nat->Value->Prop} {S1 S2:Nat->Heap->Prop} {b1:Bool} {oT:Obj}
theorem notFree (hz:s.heap.get? z=some (zipO T b1 TI TO)) (hT:s.heap.get? T=some oT) (h:∀h',h'.get? z=some (zipO T true TI TO)->Heap.SameBut z s.heap h'->Q false { s with heap:=h' }):
  wpAny (model prog w) A (Builtin.SmallTypes.ownedTupleIsFree (.ref z)) Q E s:=by
 unfold Builtin.SmallTypes.ownedTupleIsFree
 refine wpAny_bind (wpAny_field hz rfl (x:=rawInt T) rfl ?_)
 show wpAny _ _ (loadIfAlive ((T:Int).toNat) >>= _) _ _ _
 rw [Int.toNat_natCast]
 refine wpAny_bind (PySem.W.kdx_alive hT ?_)
 refine wpAny_ite_false (by simp) (wpAny_bind (wpAny_field hz rfl (x:=.bool b1) rfl ?_))
 cases b1 with
 | true=>exact wpAny_ite_false (by decide) (wpAny_pure (h _ hz ⟨rfl,fun _ _=>rfl⟩))
 | false=>exact wpAny_ite_true (by decide) (wpAny_bind (wpAny_setField_rec hz (by simp) fun h' e c=>wpAny_pure (h h' e c)))
end
section
variable {prog:Program} {w:World} {A:Around} {R:Result->Shared->Prop} {z TI TO i1 i2 S:Addr} {f1 f2:List Addr} {n:Nat} {P1 P2:Nat->Value->Prop} {S1 S2:Nat->Heap->Prop}
theorem c_W (hT:s.TypeIs (.ref z) "zip") (h:wpAny (model prog w) A.in1 (Builtin.«zip.__next__» ⟨[.ref z],[]⟩) (fun fin s'=>∃v,fin=.done (.ret v)/\Q (some v) s') (fun e s'=>∃o e',e=.ref e'/\s'.heap.get? e'=some o/\o.cls=.type "StopIteration"/\Q none s') s):
  wpAny (model prog w) A (pyNext (.ref z)) Q E s:=by
 unfold pyNext
 refine wpAny_bind (wpAny_attempt (wpAny_callSpecial?_slot (name:=Str.ofString "__next__") hT F.slot_zip_next (wpAny_call_entry F.slot_zip_next hT F.entry_zip_next (wpAny_mono h (fun fin s' hq=>?_) fun e s' hq=>?_) (F.args_zip_next_1 _))))
 ·obtain ⟨v,rfl,q⟩:=hq
  exact ⟨v,rfl,wpAny_pure q⟩
 ·obtain ⟨o,e',rfl,ho,hc,q⟩:=hq
  exact wpAny_bind (wpAny_isInstance (T:="StopIteration") (b:=true) ⟨o,ho,hc⟩ isSubtype_stop (wpAny_pure q))
end
section
variable {prog:Program} {w:World} {A:Around} {E:Value->Shared->Prop} {z TI TO i1 i2:Addr} {f1 f2:List Addr} {n:Nat} {P1 P2:Nat->Value->Prop} {S1 S2:Nat->Heap->Prop}
theorem zip_no_len:typeLookup (.type "zip") "__len__"=pure none:=by rw [typeLookup_type,builtinLookup_eq_fast];kernel_rfl
theorem zip_no_hint:typeLookup (.type "zip") "__length_hint__"=pure none:=by rw [typeLookup_type,builtinLookup_eq_fast];kernel_rfl
end
end ZP
end L2
namespace L2
open PySem PySem.Spec PyProof.Rows
section
variable {X:Cx} {pins:List (Addr×Obj)} {σ:St} {H H':Hp} {s:Shared} {h':Heap}
theorem Inv.many (I:Inv X pins σ H s) (k:∀b o,s.heap.get? b=some o->h'.get? b=some o) (old:∀b,b<s.heap.objs.size->H' b=H b) (new:∀b o,s.heap.objs.size≤b->H' b=some o->a_V X.prog X.w H' h' b o):Inv X pins σ H' { s with heap:=h',toks:=t' }:=by
 have up:∀{b:Addr} {u:HO},H b=some u->H' b=some u:=fun {b u} e=>by rw [old b (I.hok.lt e)];exact e
 refine I.un (H':=H') ⟨fun b o e _ _ _=>k b o e,fun b o e _ _ _=>⟨o.slots,k b o e⟩,fun b o e n _=>by rw [old b (Heap.lt_size e)];exact n,fun b o e _=>⟨o,k b o e⟩,fun b xs e=>up e,fun b o u e=>up e,fun b ps e=>⟨#[],by rw [up e];simp⟩⟩ fun b o e=>?_
 by_cases hb:s.heap.objs.size≤b
 ·exact new b o hb e
 ·have hb':b<s.heap.objs.size:=Nat.lt_of_not_le hb
  rw [old b hb'] at e
  exact (I.hok b o e).stay (fun c u _ q=>k c u q) (fun c q=>up q) fun c xs q=>up q
end
theorem e_b {α:Type} {b:Addr} {v:α}:∀{ts:List Addr} {vs:List α} {i:Nat},ts.Nodup->ts[i]?=some b->vs[i]?=some v->(ts.zip vs).lookup b=some v
 | [],_,_,_,h,_=>by simp at h
 | _::_,[],_,_,_,h=>by simp at h
 | t::ts,w::vs,0,nd,h1,h2=>by
  simp at h1 h2
  subst h1 h2
  simp [List.lookup_cons]
 | t::ts,w::vs,i+1,nd,h1,h2=>by
  have hne:b≠t:=fun z=>(List.nodup_cons.mp nd).1 (by rw [<- z];exact List.mem_of_getElem? (by simpa using h1))
  rw [List.zip_cons_cons,List.lookup_cons,beq_eq_false_iff_ne.mpr hne]
  exact e_b (i:=i) (List.nodup_cons.mp nd).2 (by simpa using h1) (by simpa using h2)
theorem d_z {α:Type}:∀{l:List α},(∀(i j:Nat) (t:α),l[i]?=some t->l[j]?=some t->i=j)->l.Nodup
 | [],_=>List.nodup_nil
 | a::r,h=>by
  rw [List.nodup_cons]
  refine ⟨fun hm=>?_,d_z fun i j t h1 h2=>?_⟩
  ·obtain ⟨j,hj⟩:=List.mem_iff_getElem?.mp hm
   have:=h 0 (j+1) a rfl (by simpa using hj)
   omega
  ·have:=h (i+1) (j+1) t (by simpa using h1) (by simpa using h2)
   omega
theorem mem_lookA {α:Type} {b:Addr} {v:α}:∀{l:List (Addr×α)},l.lookup b=some v->(b,v)∈l
 | [],e=>by cases e
 | (c,x)::r,e=>by
  rw [List.lookup_cons] at e
  by_cases hb:b=c
  ·subst hb
   simp at e
   simp [e]
  ·rw [beq_eq_false_iff_ne.mpr hb] at e
   exact List.mem_cons_of_mem _ (mem_lookA e)
theorem has_uniq {d:Sd} (a:d.has H xs) (b:d.has H ys):xs=ys:=by
 cases d with
 | tx x k=>exact (show xs=_ from a).trans (show ys=_ from b).symm
 | tp c=>
  have a:H c=_:=a
  have b:H c=_:=b
  rw [a] at b
  cases b
  rfl
 | ls c=>
  have a:H c=_:=a
  have b:H c=_:=b
  rw [a] at b
  cases b
  rfl
theorem for_zipG {g:TG} {tb:TS} {D:Ends} (hl:xs.length=ys.length) (Pv:Nat->St->Hp->Prop) (h0:Pv 0 σ H) (hh:∀i σ H,Pv i σ H->d1.has H xs/\d2.has H ys)
  (hs:∀i x y p σ H,xs[i]?=some x->ys[i]?=some y->H p=none->Pv i σ H->g (.ref p) σ (upd H p (.tup [x,y])) fun σ2 H2=>tb { D with nx:=Pv (i+1),ct:=Pv (i+1),bk:=D.nx } σ2 H2)
  (hd:∀ σ H,Pv xs.length σ H->D.nx σ H):
  ∃W:Nat->Nat->St->Hp->Prop,(∃m,W 0 m σ H)/\∀i m σ H,W i m σ H->
   ((Itg d1 d2).stop i H/\D.nx σ H)\/((Itg d1 d2).go i H/\∃N:St->Hp->Prop,(∀ σ' H',N σ' H'->∃m',m'<m/\W (i+1) m' σ' H')/\∀v H',(Itg d1 d2).yld i H v H'->g v σ H' fun σ2 H2=>tb { D with nx:=N,ct:=N,bk:=D.nx } σ2 H2):=by
 refine ⟨fun i m σ H=>m=xs.length - i/\i≤xs.length/\Pv i σ H,⟨xs.length,by simp,Nat.zero_le _,h0⟩,?_⟩
 rintro i m σ H ⟨rfl,hi,p⟩
 obtain ⟨h1,h2⟩:=hh i σ H p
 by_cases hlt:i<xs.length
 ·refine .inr ⟨⟨xs,ys,xs[i],ys[i]'(by omega),h1,h2,List.getElem?_eq_getElem _,List.getElem?_eq_getElem _⟩,Pv (i+1),fun σ' H' p'=>⟨xs.length - (i+1),by omega,rfl,hlt,p'⟩,fun v H' q=>?_⟩
  obtain ⟨a,xs',ys',x,y,e1,e2,e3,e4,rfl,e5,rfl⟩:=q
  have:=has_uniq e1 h1
  have:=has_uniq e2 h2
  subst xs' ys'
  exact hs i x y a σ H e3 e4 e5 p
 ·have e:i=xs.length:=by omega
  subst e
  exact .inl ⟨⟨xs,ys,h1,h2,hl,rfl⟩,hd σ H p⟩
theorem zips_of (h:H gs=some (.tup xs)\/H gs=some (.lst xs)) (hR:∀d2:Sd,(∀H':Hp,H' gs=H gs->d2.has H' xs)->R (.tx x) d2):Zips H (.str x) (.ref gs) R:=by
 rcases h with h | h
 ·exact .inl ⟨x,gs,xs,rfl,rfl,h,hR (.tp gs) fun H' e=>show H' gs=_ from e.trans h⟩
 ·exact .inr (.inl ⟨x,gs,xs,rfl,rfl,h,hR (.ls gs) fun H' e=>show H' gs=_ from e.trans h⟩)
structure FunD (K:PySem.W.Frag) (x qual:Str) (st:Stmt) (f:Addr) (fd:FuncData):Prop where
 ex:∃(oc:Value) (od:Option Addr) (dV kV doc pm:Value) (an:Option Addr) (cdv ct:Value) (osl:Array (Option Value)),
  fd=PySem.W.fnOf x qual (a_h st) (a_g st) (a_c st) dV kV doc pm an cdv ct/\K.lookup f=some ⟨oc,od,.func fd,osl⟩/\PySem.W.codeIn K cdv qual=true
 kp:PySem.W.keepIn K (.ref f)=true
theorem FunD.ok {P:Program} {w:World} {K:PySem.W.Frag} {st:Stmt} (F:FunD K x qual st f fd) (S:a_l N ps (a_c st)) (len:∀vs H Q E,sp vs H Q E->vs.length=ps.length)
  (hbody:∀(cdv:Value) (A:Around) (outer:List Env) (s:Shared) (H:Hp) (vs:List V) (Q:VK) (E:XK),Room k (A.deeper (envOfC qual (a_c st) s.heap.objs.size f cdv))->sp vs H Q E->
   ∃t,PSs (cxOf CX0 P w K mg base N qual (a_c st) f cdv A outer s H E).nox (a_g st) t/\t { nx:=fun _ H'=>Q .non H',rt:=Q } (start N vs) H):FnOk P w K mg base CX0 (k+1) f fd ps sp:=by
 obtain ⟨oc,od,dV,kV,doc,pm,an,cdv,ct,osl,rfl,lk,hcd⟩:=F.ex
 refine fn_of lk hcd S len fun A outer s H vs Q E hr hsp=>?_
 obtain ⟨t,h,q⟩:=hbody cdv A outer s H vs Q E hr hsp
 exact ⟨t,h.nox,q⟩
theorem fn_code {P:Program} {w:World} {K:PySem.W.Frag} {mg:Str->Option Value} {base:Heap} {st:Stmt} {oc dV kV doc pm ct:Value}
  (lk:K.lookup f=some ⟨oc,od,.func (PySem.W.fnOf x qual (a_h st) (a_g st) (a_c st) dV kV doc pm an (.ref c) ct),osl⟩) (hcd:PySem.W.codeIn K (.ref c) qual=true) (S:a_l N ps (a_c st)) (len:∀vs H Q E,sp vs H Q E->vs.length=ps.length)
  (hbody:∀(A:Around) (outer:List Env) (s:Shared) (H:Hp) (vs:List V) (Q:VK) (E:XK),Room k (A.deeper (envOfC qual (a_c st) s.heap.objs.size f (.ref c)))->sp vs H Q E->
   ∃t,PSs (cxOf CX0 P w K mg base N qual (a_c st) f (.ref c) A outer s H E) (a_g st) t/\t { nx:=fun _ H'=>Q .non H',rt:=Q } (start N vs) H):
  FnOk P w K mg base CX0 (k+1) f (PySem.W.fnOf x qual (a_h st) (a_g st) (a_c st) dV kV doc pm an (.ref c) ct) ps sp:=fn_of lk hcd S len hbody
end L2
namespace RA
open PySem L2
structure WalkAt (H:Hp) (cW wk:Addr) (L:List Nat) (t wd y m:Addr):Prop where
 ex:∃dx,H wk=some (.ins cW dx [("letters",.str (tx L)),("things",.ref t),("words",.ref wd),("ways",.ref y),("marks",.ref m)])
def wordsV (ws:List (List Nat)):List V:=ws.map fun w=>V.str (tx w)
def e_v (ti:Bool) (H:Hp) (ks:List (List Nat)) (vs:List V):Prop:=vs.length=ks.length/\∀(i:Nat) (k:List Nat) (v:V),ks[i]?=some k->vs[i]?=some v->ThV ti H k v
theorem e_v.same (h:e_v ti H ks vs) (s:∀b xs,H b=some (.tup xs)->H' b=some (.tup xs)):e_v ti H' ks vs:=⟨h.1,fun i k v a b=>(h.2 i k v a b).same s⟩
theorem e_v.snoc (h:e_v ti H ks vs) (hv:ThV ti H k v):e_v ti H (ks++[k]) (vs++[v]):=by
 refine ⟨by rw [List.length_append,List.length_append,h.1];rfl,fun i k' v' a b=>?_⟩
 by_cases hi:i<ks.length
 ·rw [List.getElem?_append_left hi] at a
  rw [List.getElem?_append_left (by rw [h.1];exact hi)] at b
  exact h.2 i k' v' a b
 ·rw [List.getElem?_append_right (Nat.le_of_not_lt hi)] at a
  rw [List.getElem?_append_right (by rw [h.1];exact Nat.le_of_not_lt hi),h.1] at b
  have hz:i - ks.length=0:=by
   have:=(List.getElem?_eq_some_iff.mp a).1
   simp at this
   omega
  rw [hz] at a b
  cases a
  cases b
  exact hv
def WRows (H:Hp) (rows:List Addr) (R:List (List Nat)):Prop:=rows.length=R.length/\∀(i:Nat) (a:Addr) (r:List Nat),rows[i]?=some a->R[i]?=some r->H a=some (.lst (intsV r))
structure e_o (g:List Nat->Nat->List Nat) (nL:Nat) (ks:List (List Nat)) (R:List (List Nat)):Prop where
 row:∀(r:Nat) (row:List Nat) (k:List Nat),R[r]?=some row->ks[r]?=some k->row.length=nL/\∀(q x:Nat),row[q]?=some x->ks[x]?=some (g k q)
def spGoals (ti:Bool) (L:List Nat) (g:List Nat->Nat->List Nat) (U:List (List Nat)) (Rest:Hp->Prop):Sp:=fun vs H Q _=>∃k v,vs=[v]/\ThV ti H k v/\k∈U/\Rest H/\
 ∀gs xs H',Same H H'->(H' gs=some (.tup xs)\/(H gs=none/\H' gs=some (.lst xs)))->xs.length=L.length->(∀(q:Nat) (x:V),xs[q]?=some x->ThV ti H' (g k q) x)->Q (.ref gs) H'
def spMark (ti:Bool) (mk:List Nat->Bool) (U:List (List Nat)) (Rest:Hp->Prop):Sp:=fun vs H Q _=>∃k v,vs=[v]/\ThV ti H k v/\k∈U/\Rest H/\Q (.bl (mk k)) H
def mostV:Option Nat->V
 | none=>.non
 | some n=>.int (n:Int)
def sp_winit (cW:Addr):Sp:=fun vs H Q _=>∃x dx L v,vs=[.ref x,.str (tx L),v]/\H x=some (.ins cW dx [])/\
 ∀t wd y m H',t≠wd->t≠y->t≠m->wd≠y->wd≠m->y≠m->H t=none->H wd=none->H y=none->H m=none->(∀b o,b≠x->H b=some o->H' b=some o)->WalkAt H' cW x L t wd y m->H' t=some (.lst [v])->H' wd=some (.lst [.str (tx [])])->H' y=some (.lst [])->H' m=some (.lst [])->Q .non H'
theorem line_lt (h:n≤100000):n<sizeLine:=by rw [sizeLine_eq];omega
theorem iteNI {A B:Prop} (h:A):if (!decide (V.int n=V.non))=true then A else B:=by
 rw [decide_eq_false (fun z=>by cases z)]
 exact iteT h
structure WI (P:Program) (w:World) (H0 H:Hp) (cW:Addr) (ti:Bool) (L:List Nat) (wk t wd y m d:Addr) (ks:List (List Nat)) (vks:List V) (ws:List (List Nat)) (rows:List Addr) (R:List (List Nat)) (B:List Bool):Prop where
 sm:Same H0 H
 obj:WalkAt H cW wk L t wd y m
 ht:H t=some (.lst vks)
 th:e_v ti H ks vks
 hw:H wd=some (.lst (wordsV ws))
 hy:H y=some (.lst (rows.map V.ref))
 wr:WRows H rows R
 hm:H m=some (.lst (B.map V.bl))
 rm:RmAt P w H d ti ks
 n1:H0 t=none
 n2:H0 wd=none
 n3:H0 y=none
 n4:H0 m=none
 n5:H0 d=none
 d1:t≠wd
 d2:t≠y
 d3:t≠m
 d4:wd≠y
 d5:wd≠m
 d6:y≠m
 e1:d≠t
 e2:d≠wd
 e3:d≠y
 e4:d≠m
 e5:d≠wk
 nr:∀a∈rows,a≠t/\a≠wd/\a≠y/\a≠m/\a≠d
section
variable {P:Program} {w:World} {H0 H:Hp} {cW:Addr} {ti:Bool} {L:List Nat} {wk t wd y m d:Addr} {ks:List (List Nat)} {vks:List V} {ws:List (List Nat)} {rows:List Addr} {R:List (List Nat)} {B:List Bool}
theorem WI.any (h:WI P w H0 H cW ti L wk t wd y m d ks vks ws rows R B) (s:Same H H'):WI P w H0 H' cW ti L wk t wd y m d ks vks ws rows R B:=
 { h with
  sm:=h.sm.trans s
  obj:=let ⟨dx,e⟩:=h.obj.ex;⟨dx,s _ _ e⟩
  ht:=s _ _ h.ht
  th:=h.th.same fun b xs e=>s _ _ e
  hw:=s _ _ h.hw
  hy:=s _ _ h.hy
  wr:=⟨h.wr.1,fun i a r h1 h2=>s _ _ (h.wr.2 i a r h1 h2)⟩
  hm:=s _ _ h.hm
  rm:=h.rm.same fun b o e _=>s _ _ e }
theorem WI.beside (h:WI P w H0 H cW ti L wk t wd y m d ks vks ws rows R B) (ha:H a=some (.lst xs)) (h0:H0 a=none) (a1:a≠t) (a2:a≠wd) (a3:a≠y) (a4:a≠m) (a5:a≠d) (a6:a∉rows):WI P w H0 (upd H a o) cW ti L wk t wd y m d ks vks ws rows R B:=by
 have kp:∀{b:Addr} {u:HO},H b=some u->b≠a->upd H a o b=some u:=fun e hb=>by rw [upd_ne hb];exact e
 have ktup:∀b zs,H b=some (.tup zs)->upd H a o b=some (.tup zs):=fun b zs e=>kp e (ne_of e ha (by intro z;cases z))
 exact { h with
  sm:=Same.set h.sm h0
  obj:=let ⟨dx,e⟩:=h.obj.ex;⟨dx,kp e (ne_of e ha (by intro z;cases z))⟩
  ht:=kp h.ht (Ne.symm a1)
  th:=h.th.same ktup
  hw:=kp h.hw (Ne.symm a2)
  hy:=kp h.hy (Ne.symm a3)
  wr:=⟨h.wr.1,fun i b r h1 h2=>kp (h.wr.2 i b r h1 h2) fun z=>a6 (by rw [<- z];exact List.mem_of_getElem? h1)⟩
  hm:=kp h.hm (Ne.symm a4)
  rm:=h.rm.same fun b u e hb=>by
   rcases hb with rfl | ⟨zs,rfl⟩
   ·exact kp e (Ne.symm a5)
   ·exact ktup b zs e }
theorem WI.new (h:WI P w H0 H cW ti L wk t wd y m d ks vks ws rows R B) (hv:ThV ti H k v) (hr:RmAt P w (upd H d ob) d ti (ks++[k])):
  WI P w H0 (upd (upd (upd H d ob) t (.lst (vks++[v]))) wd (.lst (wordsV ws++[.str (tx a)]))) cW ti L wk t wd y m d (ks++[k]) (vks++[v]) (ws++[a]) rows R B:=by
 have hd:∃ φ,H d=some (.ext φ):=by
  have hr0:=h.rm
  unfold RmAt at hr0
  cases ti with
  | true=>rw [if_pos rfl] at hr0;exact ⟨_,hr0.1⟩
  | false=>rw [if_neg (by decide)] at hr0;obtain ⟨kvs,e,_⟩:=hr0;exact ⟨_,e⟩
 obtain ⟨φ,hd⟩:=hd
 have kp:∀{b:Addr} {u:HO},H b=some u->b≠d->b≠t->b≠wd->upd (upd (upd H d ob) t (.lst (vks++[v]))) wd (.lst (wordsV ws++[.str (tx a)])) b=some u:=fun e h1 h2 h3=>by rw [upd_ne h3,upd_ne h2,upd_ne h1];exact e
 have ktup:∀b zs,H b=some (.tup zs)->upd (upd (upd H d ob) t (.lst (vks++[v]))) wd (.lst (wordsV ws++[.str (tx a)])) b=some (.tup zs):=fun b zs e=>kp e (ne_of e hd (by intro z;cases z)) (ne_of e h.ht (by intro z;cases z)) (ne_of e h.hw (by intro z;cases z))
 have e0:=h.obj.ex
 obtain ⟨dx,ew⟩:=e0
 exact { h with
  sm:=Same.set (Same.set (Same.set h.sm h.n5) h.n1) h.n2
  obj:=⟨dx,kp ew (Ne.symm h.e5) (ne_of ew h.ht (by intro z;cases z)) (ne_of ew h.hw (by intro z;cases z))⟩
  ht:=by rw [upd_ne h.d1,upd_same]
  th:=(h.th.same ktup).snoc (hv.same ktup)
  hw:=by rw [upd_same,wordsV,wordsV,List.map_append];rfl
  hy:=kp h.hy (Ne.symm h.e3) (Ne.symm h.d2) (Ne.symm h.d4)
  wr:=⟨h.wr.1,fun i b r h1 h2=>kp (h.wr.2 i b r h1 h2) (h.nr b (List.mem_of_getElem? h1)).2.2.2.2 (h.nr b (List.mem_of_getElem? h1)).1 (h.nr b (List.mem_of_getElem? h1)).2.1⟩
  hm:=kp h.hm (Ne.symm h.e4) (Ne.symm h.d3) (Ne.symm h.d5)
  rm:=hr.same fun b u e hb=>by
   rcases hb with rfl | ⟨zs,rfl⟩
   ·rw [upd_ne h.e2,upd_ne h.e1]
    exact e
   ·have hbd:b≠d:=fun z=>by
     rw [z,upd_same] at e
     have hr1:=hr
     unfold RmAt at hr1
     cases ti with
     | true=>rw [if_pos rfl,upd_same] at hr1;rw [e] at hr1;cases hr1.1
     | false=>rw [if_neg (by decide)] at hr1;obtain ⟨kvs,e2,_⟩:=hr1;rw [upd_same,e] at e2;cases e2
    rw [upd_ne hbd] at e
    exact ktup b zs e }
theorem WI.row (h:WI P w H0 H cW ti L wk t wd y m d ks vks ws rows R B) (ha:H a=some (.lst (intsV r))) (a1:a≠t) (a2:a≠wd) (a3:a≠y) (a4:a≠m) (a5:a≠d):
  WI P w H0 (upd H y (.lst (rows.map V.ref++[.ref a]))) cW ti L wk t wd y m d ks vks ws (rows++[a]) (R++[r]) B:=by
 have kp:∀{b:Addr} {u:HO},H b=some u->b≠y->upd H y (.lst (rows.map V.ref++[.ref a])) b=some u:=fun e hb=>by rw [upd_ne hb];exact e
 have ktup:∀b zs,H b=some (.tup zs)->upd H y (.lst (rows.map V.ref++[.ref a])) b=some (.tup zs):=fun b zs e=>kp e (ne_of e h.hy (by intro z;cases z))
 have e0:=h.obj.ex
 obtain ⟨dx,ew⟩:=e0
 exact { h with
  sm:=Same.set h.sm h.n3
  obj:=⟨dx,kp ew (ne_of ew h.hy (by intro z;cases z))⟩
  ht:=kp h.ht h.d2
  th:=h.th.same ktup
  hw:=kp h.hw h.d4
  hy:=by rw [upd_same,List.map_append];rfl
  wr:=by
   refine ⟨by rw [List.length_append,List.length_append,h.wr.1];rfl,fun i b r' h1 h2=>?_⟩
   by_cases hi:i<rows.length
   ·rw [List.getElem?_append_left hi] at h1
    rw [List.getElem?_append_left (by rw [<- h.wr.1];exact hi)] at h2
    exact kp (h.wr.2 i b r' h1 h2) (h.nr b (List.mem_of_getElem? h1)).2.2.1
   ·rw [List.getElem?_append_right (Nat.le_of_not_lt hi)] at h1
    rw [List.getElem?_append_right (by rw [<- h.wr.1];exact Nat.le_of_not_lt hi),<- h.wr.1] at h2
    have hz:i - rows.length=0:=by
     have:=(List.getElem?_eq_some_iff.mp h1).1
     simp at this
     omega
    rw [hz] at h1 h2
    cases h1
    cases h2
    exact kp ha a3
  hm:=kp h.hm (Ne.symm h.d6)
  rm:=h.rm.same fun b u e hb=>by
   rcases hb with rfl | ⟨zs,rfl⟩
   ·exact kp e h.e3
   ·exact ktup b zs e
  nr:=fun b hb=>by
   rcases List.mem_append.mp hb with z | z
   ·exact h.nr b z
   ·rw [List.mem_singleton.mp z]
    exact ⟨a1,a2,a3,a4,a5⟩ }
theorem WI.mark (h:WI P w H0 H cW ti L wk t wd y m d ks vks ws rows R B):WI P w H0 (upd H m (.lst (B.map V.bl++[.bl b]))) cW ti L wk t wd y m d ks vks ws rows R (B++[b]):=by
 have kp:∀{c:Addr} {u:HO},H c=some u->c≠m->upd H m (.lst (B.map V.bl++[.bl b])) c=some u:=fun e hb=>by rw [upd_ne hb];exact e
 have ktup:∀c zs,H c=some (.tup zs)->upd H m (.lst (B.map V.bl++[.bl b])) c=some (.tup zs):=fun c zs e=>kp e (ne_of e h.hm (by intro z;cases z))
 have e0:=h.obj.ex
 obtain ⟨dx,ew⟩:=e0
 exact { h with
  sm:=Same.set h.sm h.n4
  obj:=⟨dx,kp ew (ne_of ew h.hm (by intro z;cases z))⟩
  ht:=kp h.ht h.d3
  th:=h.th.same ktup
  hw:=kp h.hw h.d5
  hy:=kp h.hy h.d6
  wr:=⟨h.wr.1,fun i c r h1 h2=>kp (h.wr.2 i c r h1 h2) (h.nr c (List.mem_of_getElem? h1)).2.2.2.1⟩
  hm:=by rw [upd_same,List.map_append];rfl
  rm:=h.rm.same fun c u e hb=>by
   rcases hb with rfl | ⟨zs,rfl⟩
   ·exact kp e h.e4
   ·exact ktup c zs e }
end
theorem b_J (l:List Nat) (x:Nat):intsV (l++[x])=intsV l++[V.int (x:Int)]:=by simp [intsV]
theorem e_g {α:Type} {l:List α} {x y:α} {i:Nat} (h:l[i]?=some y):(l++[x])[i]?=some y:=by
 rw [List.getElem?_append_left (List.getElem?_eq_some_iff.mp h).1]
 exact h
theorem e_f {α:Type} {l:List α} {x y:α} (hi:i<l.length) (h:(l++[x])[i]?=some y):l[i]?=some y:=by
 rw [List.getElem?_append_left hi] at h
 exact h
theorem get_split {α:Type} {l:List α} {x y:α} (e:(l++[x])[i]?=some y):l[i]?=some y\/(i=l.length/\y=x):=by
 by_cases hi:i<l.length
 ·rw [List.getElem?_append_left hi] at e
  exact .inl e
 ·rw [List.getElem?_append_right (by omega)] at e
  have:i - l.length=0:=by
   have:=(List.getElem?_eq_some_iff.mp e).1
   simp at this
   omega
  rw [this] at e
  exact .inr ⟨by omega,(Option.some.inj e).symm⟩
theorem ix_get (h:k∈ts):ixO ts k=some (ts.idxOf k)/\ts[ts.idxOf k]?=some k:=⟨if_pos h,by rw [List.getElem?_eq_getElem (List.idxOf_lt_length_of_mem h),List.getElem_idxOf]⟩
structure WPu (g:List Nat->Nat->List Nat) (L s0:List Nat) (mk:List Nat->Bool) (U ks ws R:List (List Nat)) (B:List Bool) (q:Nat):Prop where
 bf:Bf g L s0 ks ws R.length q
 le:R.length≤ks.length
 ways:e_o g L.length ks R
 bl:B.length=R.length
 mks:∀(r:Nat) (k:List Nat) (b:Bool),ks[r]?=some k->B[r]?=some b->b=mk k
 sub:∀k∈ks,k∈U
 left:leftOf U ks+ks.length≤U.length
 wl:∀a∈ws,a.length≤ks.length
def d_E (g:List Nat->Nat->List Nat) (ks:List (List Nat)) (n:Nat) (r:List Nat) (q:Nat):Prop:=r.length=q/\∀(q' x:Nat) (k:List Nat),ks[n]?=some k->r[q']?=some x->ks[x]?=some (g k q')
section
variable {g:List Nat->Nat->List Nat} {L s0:List Nat} {mk:List Nat->Bool} {U ks ws R:List (List Nat)} {B:List Bool} {q n:Nat} {r a k0:List Nat}
theorem WPu.start (hs:s0∈U):WPu g L s0 mk U [s0] [[]] [] [] 0 where
 bf:=Bf.start g L s0
 le:=Nat.zero_le _
 ways:=⟨fun r row k h=>by simp at h⟩
 bl:=rfl
 mks:=fun r k b _ h=>by simp at h
 sub:=fun k hk=>by rw [List.mem_singleton.mp hk];exact hs
 left:=by
  have h1:=e_d (U:=U) (ts:=[]) hs (by simp)
  have h2:leftOf U ([]:List (List Nat))≤U.length:=List.countP_le_length
  simp at h1 ⊢
  omega
 wl:=fun a ha=>by rw [List.mem_singleton.mp ha];exact Nat.zero_le _
theorem WPu.old (h:WPu g L s0 mk U ks ws R B q) (nd:L.Nodup) (hk:ks[R.length]?=some k0) (ha:ws[R.length]?=some a) (hq:q<L.length) (hm:g k0 q∈ks):WPu g L s0 mk U ks ws R B (q+1):=
 { h with bf:=h.bf.old nd hk ha hq hm }
theorem WPu.new (h:WPu g L s0 mk U ks ws R B q) (nd:L.Nodup) (hk:ks[R.length]?=some k0) (ha:ws[R.length]?=some a) (hq:q<L.length) (hm:g k0 q∉ks) (hU:g k0 q∈U):WPu g L s0 mk U (ks++[g k0 q]) (ws++[a++[L.getD q 0]]) R B (q+1) where
 bf:=h.bf.new nd hk ha hq hm
 le:=by rw [List.length_append];exact Nat.le_trans h.le (Nat.le_add_right _ _)
 ways:=⟨fun r row k h1 h2=>by
  have hr:r<ks.length:=Nat.lt_of_lt_of_le (List.getElem?_eq_some_iff.mp h1).1 h.le
  obtain ⟨e1,e2⟩:=h.ways.row r row k h1 (e_f hr h2)
  exact ⟨e1,fun q x hx=>e_g (e2 q x hx)⟩⟩
 bl:=h.bl
 mks:=fun r k b h1 h2=>h.mks r k b (e_f (Nat.lt_of_lt_of_le (by rw [<- h.bl];exact (List.getElem?_eq_some_iff.mp h2).1) h.le) h1) h2
 sub:=fun k hk=>by
  rcases List.mem_append.mp hk with z | z
  ·exact h.sub k z
  ·rw [List.mem_singleton.mp z];exact hU
 left:=by
  have h1:=e_d (U:=U) (ts:=ks) hU hm
  have h2:=h.left
  rw [List.length_append]
  show leftOf U (ks++[g k0 q])+(ks.length+1)≤U.length
  omega
 wl:=fun b hb=>by
  rw [List.length_append]
  rcases List.mem_append.mp hb with z | z
  ·exact Nat.le_trans (h.wl b z) (Nat.le_add_right _ _)
  ·rw [List.mem_singleton.mp z,List.length_append]
   exact Nat.add_le_add_right (h.wl a (List.mem_of_getElem? ha)) 1
theorem WPu.next (h:WPu g L s0 mk U ks ws R B L.length) (hk:ks[R.length]?=some k0) (hr:d_E g ks R.length r L.length):WPu g L s0 mk U ks ws (R++[r]) (B++[mk k0]) 0 where
 bf:=by rw [List.length_append];exact h.bf.next
 le:=by rw [List.length_append];exact (List.getElem?_eq_some_iff.mp hk).1
 ways:=⟨fun i row k h1 h2=>by
  rcases get_split h1 with z | ⟨rfl,rfl⟩
  ·exact h.ways.row i row k z h2
  ·exact ⟨hr.1,fun q x hx=>hr.2 q x k h2 hx⟩⟩
 bl:=by rw [List.length_append,List.length_append,h.bl];rfl
 mks:=fun i k b h1 h2=>by
  rcases get_split h2 with z | ⟨rfl,rfl⟩
  ·exact h.mks i k b h1 z
  ·rw [h.bl,hk] at h1
   cases h1
   rfl
 sub:=h.sub
 left:=h.left
 wl:=h.wl
theorem d_E.nil:d_E g ks n [] 0:=⟨rfl,fun q x k _ h=>by simp at h⟩
theorem d_E.grow (h:d_E g ks n r q) (hn:n<ks.length):d_E g (ks++[x]) n r q:=⟨h.1,fun q' y k h1 h2=>e_g (h.2 q' y k (e_f hn h1) h2)⟩
theorem d_E.snoc (h:d_E g ks n r q) (hk:ks[n]?=some k0) (hm:g k0 q∈ks):d_E g ks n (r++[ks.idxOf (g k0 q)]) (q+1):=by
 refine ⟨by rw [List.length_append,h.1];rfl,fun q' x k h1 h2=>?_⟩
 rcases get_split h2 with z | ⟨rfl,rfl⟩
 ·exact h.2 q' x k h1 z
 ·rw [hk] at h1
  cases h1
  rw [h.1]
  exact (ix_get hm).2
end
def mkW (B:List Bool) (k:List Nat):Bool:=B.getD (k.headD 0) false
theorem b_e.tups (h:b_e H m L W B) (s:∀b xs,H b=some (.tup xs)->H' b=some (.tup xs)):b_e H' m L W B:=by
 obtain ⟨wy,mk,rows,h1,h2,h3,h4,h5⟩:=h
 exact ⟨wy,mk,rows,s _ _ h1,s _ _ h2,s _ _ h3,h4,fun i r e=>let ⟨ws,a,b⟩:=h5 i r e;⟨ws,a,s _ _ b⟩⟩
theorem sameX_tup (s:c_g P0 H H') (hT:b_W H P0 sites):∀b xs,H b=some (.tup xs)->H' b=some (.tup xs):=fun b xs e=>s b _ (fun z=>by
 obtain ⟨ps,hP,_⟩:=hT
 rw [z,hP] at e
 cases e) e
theorem sameX_trans (a:c_g P0 H H1) (b:c_g P0 H1 H2):c_g P0 H H2:=fun c o hc e=>b c o hc (a c o hc e)
end RA
namespace L2
open PySem PySem.Spec PyProof.Rows
section
variable {X:Cx}
end
end L2
namespace RA
open PySem L2
theorem triples_nil:TriplesOk (#[]:Array Value).toList:=trivial
theorem c_h (h:b_W H P0 sites) (s:Same H H'):b_W H' P0 sites:=by
 obtain ⟨ps,hP,h2,h3⟩:=h
 exact ⟨ps,s _ _ hP,h2,fun x hx=>(h3 x hx).imp id fun ⟨c',e1,e2⟩=>⟨c',e1,s _ _ e2⟩⟩
theorem bf_place {κ:Type} [DecidableEq κ] {g:κ->Nat->κ} {L:List Nat} {s:κ} {ts:List κ} {ws:List (List Nat)} {n k:Nat} (bf:Bf g L s ts ws n k):∀(m j:Nat) (b:List Nat),j<m->ws[j]?=some b->b.length≤j:=by
 intro m
 induction m with
 | zero=>exact fun j b h=>absurd h (Nat.not_lt_zero j)
 | succ m ih=>
  intro j b hj e
  rcases bf.par j b e with rfl | ⟨p,q,a,h1,h2,h3,_⟩
  ·exact Nat.zero_le _
  have hl:a.length<b.length:=by rw [h3,List.length_append];exact Nat.lt_succ_self _
  have hp:p<j:=by
   rcases Nat.lt_trichotomy p j with z | z | z
   ·exact z
   ·rw [z,e] at h1
    cases h1
    omega
   ·have e1:=bf.srt j p b a z e h1
    have:=e_L e1
    omega
  have:=ih p a (by omega) h1
  rw [h3,List.length_append]
  show a.length+1≤j
  omega
end RA
namespace L2
open PySem PySem.Spec PyProof.Rows
def IteL (a:Addr):It:=⟨fun i H=>∃xs x,H a=some (.lst xs)/\xs[i]?=some x,fun i H v H'=>∃p x xs,H a=some (.lst xs)/\xs[i]?=some x/\v=.ref p/\H p=none/\H'=upd H p (.tup [.int (i:Int),x]),fun i H=>∃xs,H a=some (.lst xs)/\i=xs.length⟩
theorem turn_enumL {K:PySem.W.Frag} (a e it:Addr) (hne:e≠it):Turn P w K (.Tuple es kt pt) (IteL a) [e,it] e (fun i h=>(∃old,IsEnum h e it i old)/\h.IsListIter it a i)  where
 mem:=by simp
 obj:=fun i h ⟨⟨old,he⟩,⟨o1,e1,_,d1⟩⟩ c hc=>by
  simp only [List.mem_cons,List.not_mem_nil,or_false] at hc
  rcases hc with rfl | rfl
  ·exact ⟨_,he,fun v q=>by cases q⟩
  ·exact ⟨o1,e1,fun v q=>by rw [d1] at q;cases q⟩
 keep:=fun i h h' ⟨⟨old,he⟩,⟨o1,e1,r1⟩⟩ k=>⟨⟨old,k e (by simp) _ he⟩,⟨o1,k it (by simp) _ e1,r1⟩⟩
 item:=by
  rintro X hP hw hK hc i pins s σ H E I hf ⟨⟨old,he⟩,s1⟩ hg
  subst hP hw hK
  obtain ⟨xs,x,hq,hx⟩:=hg
  obtain ⟨its,rv,p,hz⟩:=I.list (SqL.of hq)
  obtain ⟨u,hu,ru⟩:=rv.get hx
  have p':s.heap.IsList a its.toArray:=p.isList
  have hlt:i<its.toArray.size:=by
   have:=(List.getElem?_eq_some_iff.mp hu).1
   simpa using this
  have hat:a≠it:=by
   obtain ⟨o,e1,c1,_⟩:=p'
   obtain ⟨o2,e2,c2,_⟩:=s1
   rintro rfl
   rw [e1] at e2
   cases e2
   rw [c1] at c2
   exact absurd c2 (by decide)
  have hae:e≠a:=by
   obtain ⟨o,e1,c1,_⟩:=p'
   rintro rfl
   have he':s.heap.get? e=some _:=he
   rw [e1] at he'
   cases he'
   exact absurd (show Value.type "enumerate"=Value.type "list" from c1) (by decide)
  refine wpAny_pyNext_enum_itemD (Draws.list (prog:=X.prog) (w:=X.w) (A:=X.A.in1) (I.ok.hd hc) it a hat its.toArray) he ⟨s1,p'⟩ hlt hne (by simp [hne,hae]) fun v g tk pv ho st new hsz gk=>⟨_,rfl,?_⟩
  have ev:v=u:=by
   have:its.toArray[i]?=some v:=pv
   rw [List.getElem?_toArray,hu] at this
   exact (Option.some.inj this).symm
  subst ev
  refine wpAny_letOwnedTupleGo_enum (s:={ s with heap:=g,toks:=tk+1 }) ho fun g' ge gs=>?_
  have up:∀b o,b≠e->g.get? b=some o->g'.get? b=some o:=fun b o hb q=>(gs.2 b hb).trans q
  have ne:s.heap.objs.size≠e:=Nat.ne_of_gt (Heap.lt_size he)
  have tup:a_V X.prog X.w (upd H s.heap.objs.size (.tup [.int (i:Int),x])) g' s.heap.objs.size (.tup [.int (i:Int),x]):=
   ⟨a_i (by show 2≤16777216;decide),[.int i tk,v],.cons ⟨_,rfl⟩ (.cons ru .nil),⟨_,up _ _ ne new,rfl,0,rfl⟩⟩
  refine ⟨.ref s.heap.objs.size,_,I.turnedNew (S:=[e,it]) (h':=g') (t':=tk+1) (fun b o hb q=>up b o (fun z=>hb (by simp [z])) (gk b o (fun z=>hb (by simp [z])) (fun z=>hb (by simp [z])) q)) hf tup,rfl,
   ⟨_,x,xs,hq,hx,rfl,I.hok.fresh (Nat.le_refl _),rfl⟩,⟨⟨_,by rw [Int.natCast_succ];exact ge⟩,st.1.at fun o q=>up _ o (fun z=>hne z.symm) q⟩,fun b hb=>?_⟩
  have lt:b<s.heap.objs.size:=by
   obtain ⟨o1,e1,_⟩:=s1
   simp only [List.mem_cons,List.not_mem_nil,or_false] at hb
   rcases hb with rfl | rfl
   ·exact Heap.lt_size he
   ·exact Heap.lt_size e1
  rw [upd_ne (Nat.ne_of_lt lt)]
  exact (hf b hb).1
 done:=by
  rintro X hP hw hK hc i pins s σ H E I hf ⟨⟨old,he⟩,s1⟩ hstop
  subst hP hw hK
  obtain ⟨xs,hq,rfl⟩:=hstop
  obtain ⟨its,rv,p,hz⟩:=I.list (SqL.of hq)
  have p':s.heap.IsList a its.toArray:=p.isList
  have hat:a≠it:=by
   obtain ⟨o,e1,c1,_⟩:=p'
   obtain ⟨o2,e2,c2,_⟩:=s1
   rintro rfl
   rw [e1] at e2
   cases e2
   rw [c1] at c2
   exact absurd c2 (by decide)
  have hsz:xs.length=its.toArray.size:=by rw [rv.length];simp
  refine wpAny_pyNext_enum_endD (Draws.list (prog:=X.prog) (w:=X.w) (A:=X.A.in1) (I.ok.hd hc) it a hat its.toArray) he ⟨by rw [<- hsz];exact s1,p'⟩ fun g gs=>⟨rfl,?_⟩
  exact I.turnedL (S:=[e,it]) (fun b o hb q=>gs b o (fun z=>hb (by simp [z])) q) hf
 self:=fun _ _ _ _ _ st h=>by
  obtain ⟨⟨old,he⟩,_⟩:=st
  exact wpAny_pyIter_enum he h
def iEnumQ (t:TA):TI:=fun σ H R=>t σ H fun vs H1=>∃a xs,vs=[.ref a]/\((H1 a=some (.tup xs)/\R (IteT a) H1)\/(H1 a=some (.lst xs)/\R (IteL a) H1))
theorem pi_enumQ {es:List Expr} {kt:Nat} {pt:Pos} {p pos:Pos} (hg:Gl X "enumerate") (hm:X.mg "enumerate"=none) (ha:PA X [a] ta) (hs:starEach [a] X.env=(false,eval a X.env)::starEach [] X.env:=by rfl)
  (hpl:(backTo pos (starEach [] X.env)).any (·.1)=false:=by rfl):PI X (.Tuple es kt pt) (.Call (.Name "enumerate" p) [a] [] pos) (iEnumQ ta):=by
 intro pins s σ H R I h
 refine wpAny_Call_Name_kw (ld_blt I hg hm PyProof.Rows.boot_enumerate (PyProof.Rows.callWith_type1 (thn (ha pos pins s σ H _ I h) fun us s1 z=>?_) hs hpl))
 obtain ⟨vs,H1,I1,r1,b,xs,rfl,z⟩:=z
 obtain ⟨u1,rfl,r2⟩:=c_K r1
 cases r2
 have fp:∀c∈[s1.heap.objs.size+1,s1.heap.objs.size],FpOk X pins H1 c:=fun c hc=>by
  have hge:s1.heap.objs.size≤c:=by
   simp only [List.mem_cons,List.not_mem_nil,or_false] at hc
   rcases hc with rfl | rfl
   ·exact Nat.le_add_right _ _
   ·exact Nat.le_refl _
  exact I1.fpOk hge (I1.hok.fresh hge)
 rcases z with ⟨hq,q⟩ | ⟨hq,q⟩
 ·obtain ⟨its,rv,pp,hz⟩:=I1.tuple (SqT.of hq)
  refine call_enumT (show s1.heap.IsTuple b its.toArray from pp) fun g ge gi gk=>wpAny_pyIter_enum (s:={ s1 with heap:=g }) ge ?_
  exact ⟨_,[s1.heap.objs.size+1,s1.heap.objs.size],_,IteT b,H1,rfl,I1.kept (t':=s1.toks) gk,turn_enumT b _ _ (neA (by omega)),⟨⟨_,ge⟩,gi⟩,fp,q⟩
 ·obtain ⟨its,rv,pp,hz⟩:=I1.list (SqL.of hq)
  refine call_enumerate_list pp.isList fun g ge gi gz gk=>wpAny_pyIter_enum (s:={ s1 with heap:=g }) ge ?_
  exact ⟨_,[s1.heap.objs.size+1,s1.heap.objs.size],_,IteL b,H1,rfl,I1.kept (t':=s1.toks) gk,turn_enumL b _ _ (neA (by omega)),⟨⟨_,ge⟩,gi⟩,fp,q⟩
end L2
namespace RA
open PySem L2
end RA
namespace L2
open PySem PySem.Spec PyProof.Rows
section
variable {X:Cx}
def rIndexI:V->List V->Hp->VK->Prop:=fun x vs H Q=>∃(l:Addr) (ns:List Int) (n:Int),x=.ref l/\vs=[.int n]/\H l=some (.lst (ns.map V.int))/\n∈ns/\Q (.int (ns.idxOf n:Nat)) H
theorem mt_indexI:MtM X "list.index" rIndexI:=by
 intro pins s σ H x vs v us Q I rx rv h
 obtain ⟨l,bs,n0,rfl,rfl,hH,hm,q⟩:=h
 cases rx
 obtain ⟨u,rfl,ru⟩:=rv.one
 obtain ⟨t0,rfl⟩:=(show ∃t,u=Value.int n0 t from ru)
 obtain ⟨z,its,n,r,hl,e⟩:=I.lstM hH
 have hlen:its.length=bs.length:=by rw [<- r.length,List.length_map]
 have hlt:bs.idxOf n0<bs.length:=List.idxOf_lt_length_of_mem hm
 have at_:∀(j:Nat) (hj:j<its.toArray.size),∃(hb:j<bs.length) (t:Tok),its.toArray[j]=.int bs[j] t:=fun j hj=>by
  have hb:j<bs.length:=by simpa [hlen] using hj
  refine ⟨hb,?_⟩
  obtain ⟨a,ea,ra⟩:=r.get (i:=j) (x:=.int bs[j]) (by rw [List.getElem?_map,List.getElem?_eq_getElem hb];rfl)
  obtain ⟨t,rfl⟩:=(show ∃t,a=Value.int bs[j] t from ra)
  obtain ⟨_,q⟩:=List.getElem?_eq_some_iff.mp ea
  exact ⟨t,by simpa using q⟩
 have hsm:((bs.idxOf n0:Nat):Int)<2 ^ 63 - 1:=by
  have h9:(bs.map V.int).length≤sizeLine:=(I.lst hH).choose_spec.choose_spec.2.2
  rw [List.length_map,sizeLine_eq] at h9
  omega
 refine call_meets F.slot_list_index ⟨_,e,rfl⟩ F.entry_list_index (F.args_list_index_2 _ _) (SeqAt.list_indexAt l its.toArray n none #[] (.int n0 t0) (fun y=>match y with | .int b _=>b==n0 | _=>false) (bs.idxOf n0) (by simpa [hlen] using hlt) hsm ?_ ?_) ⟨e,?_,⟨.int _,H,I.tok _,⟨_,rfl⟩,q⟩⟩
 ·obtain ⟨hb,t,e1⟩:=at_ (bs.idxOf n0) (by simpa [hlen] using hlt)
  rw [e1]
  show (bs[bs.idxOf n0]==n0)=true
  rw [List.getElem_idxOf hb]
  exact beq_self_eq_true n0
 ·intro m hm2 hlt2
  obtain ⟨hb,t,e1⟩:=at_ m hm2
  rw [e1]
  show (bs[m]==n0)=false
  by_cases hbm:bs[m]=n0
  ·have:=RA.idxOf_leG (l:=bs) (c:=n0) (i:=m) (by rw [List.getElem?_eq_getElem hb,hbm])
   omega
  ·exact beq_eq_false_iff_ne.mpr hbm
 ·intro y hy
  obtain ⟨j,hj,rfl⟩:=Array.mem_iff_getElem.mp hy
  obtain ⟨hb,t,e1⟩:=at_ j hj
  rw [e1]
  exact SeqAt.EqAt.int_int _ _ _ _
theorem pe_fldK (K:PySem.W.Frag) (he:PE X e ta) (hb:attributeBase e f X.env (eval e X.env)=eval e X.env) (hK:X.K=K:=by rfl):PE X (.Attribute e f pos) (tFld K ta f):=by
 subst hK
 exact b_z he hb
theorem pe_indexI {apos cpos:Pos} (K:PySem.W.Frag) (ho:PE X o to) (ha:PA X [e] t) (hK:X.K=K:=by rfl)
  (hbase:attributeBase o "index" X.env (eval o X.env)=eval o X.env:=by rfl)
  (hfew:((backTo cpos (starEach [e] X.env)).all (fun x=>!x.1)&&(backToKw cpos (keywordEach [] X.env)).all (fun x=>x.1.isSome)
   && decide ([e].length+([]:List Keyword).length+(if ([]:List Keyword).isEmpty then 0 else 1)<30))=true:=by rfl) (hline:(apos.endLine==cpos.line)=true:=by rfl) (hs:starEach [e] X.env=(false,eval e X.env)::starEach [] X.env:=by rfl) (hplain:(backTo cpos (starEach [] X.env)).any (·.1)=false:=by rfl):PE X (.Call (.Attribute o "index" apos) [e] [] cpos) (tBM K "list" rIndexI to t):=by
 subst hK
 exact c_x PySem.F.plainAttrs_list PySem.F.slot_list_index PySem.F.type_list_index mt_indexI ho ha hbase hfew hline hs hplain
end
end L2
namespace RA
open PySem L2
theorem zs_idx (n:Nat):∀(l:List Nat),(zs l).idxOf (n:Int)=l.idxOf n
 | []=>rfl
 | x::l=>by
  show ((x:Int)::zs l).idxOf (n:Int)=_
  rw [List.idxOf_cons,List.idxOf_cons,zs_idx n l]
  by_cases h:x=n
  ·rw [h];simp
  ·rw [beq_eq_false_iff_ne.mpr h,beq_eq_false_iff_ne.mpr (fun e=>h (Int.ofNat_inj.mp e))]
end RA
namespace RA
section
variable {κ:Type} [DecidableEq κ]
end
section
variable {L:List Nat} {W:List (List Nat)} {B:List Bool} {k:Nat}
end
section
variable {L:List Nat} {R:List (List Nat)} {Bm:List Bool} {k m:Nat}
end
section
variable {L:List Nat} {W:List (List Nat)} {B:List Bool} {ks ws R:List (List Nat)} {Bm:List Bool}
end
end RA
namespace L2
open PySem PySem.Spec PyProof.Rows
end L2
namespace RA
open PySem L2
end RA
namespace RA
section
variable {κ:Type} [DecidableEq κ]
end
section
variable {L:List Nat} {R:List (List Nat)} {Bm:List Bool} {k m:Nat}
end
section
variable {L:List Nat} {W:List (List Nat)} {B:List Bool} {ks ws R:List (List Nat)}
end
end RA
namespace RA
open PySem L2
end RA
namespace RA
theorem run_app (L:List Nat) (W:List (List Nat)) (r:Nat) (a b:List Nat):run L W r (a++b)=run L W (run L W r a) b:=by
 unfold run
 rw [List.foldl_append]
section
variable {L:List Nat} {W1 W2:List (List Nat)} {B1 B2:List Bool} {v1 v2:Nat->List Nat}
end
end RA
namespace L2
open PySem PySem.Spec PyProof.Rows
section
variable {X:Cx} {pins:List (Addr×Obj)} {σ:St} {H:Hp} {s:Shared}
end
end L2
namespace RA
open PySem L2
section
variable {X:Cx} {pins:List (Addr×Obj)} {σ:St} {H:Hp} {s:Shared}
end
end RA
namespace L2
open PySem PySem.Spec PyProof.Rows
theorem vals_of:∀{xs:List V} {us:List Value},xs.length=us.length->(∀(i:Nat) (x:V) (u:Value),xs[i]?=some x->us[i]?=some u->RelV x u)->Vals xs us
 | [],[],_,_=>.nil
 | [],_::_,h,_=>by simp at h
 | _::_,[],h,_=>by simp at h
 | x::xs,u::us,h,k=>.cons (k 0 x u rfl rfl) (vals_of (by simpa using h) fun i y v a b=>k (i+1) y v (by simpa using a) (by simpa using b))
def tListRng (ta:TA):TE:=fun σ H Q=>ta σ H fun vs H1=>∃n:Nat,vs=[.int (n:Int)]/\n≤1000/\∀l,H1 l=none->Q (.ref l) (upd H1 l (.lst (RA.intsV (List.range n))))
theorem pe_listrange {p p2 pos pos2:Pos} (hc:X.calm=true) (hgl:Gl X "list") (hml:X.mg "list"=none) (hgz:Gl X "range") (hmz:X.mg "range"=none) (ha:PA X [a] ta)
  (hs:starEach [.Call (.Name "range" p2) [a] [] pos2] X.env=[(false,eval (.Call (.Name "range" p2) [a] [] pos2) X.env)]:=by rfl) (hs2:starEach [a] X.env=[(false,eval a X.env)]:=by rfl):
  PE X (.Call (.Name "list" p) [.Call (.Name "range" p2) [a] [] pos2] [] pos) (tListRng ta):=by
 intro pins s σ H Q I h
 refine wpAny_Call_Name_kw (ld_blt I hgl hml PyProof.Rows.boot_list ?_)
 refine PyProof.Rows.callWith_type1 (e:=.Call (.Name "range" p2) [a] [] pos2) (rest:=[]) ?_ hs rfl
 rw [hs]
 show wpAny _ _ (spliced ((false,eval (.Call (.Name "range" p2) [a] [] pos2) X.env)::backTo pos [])) _ _ s
 refine Calls.spliced_cons (wpAny_Call_Name_kw (ld_blt I hgz hmz PyProof.Rows.boot_range (PyProof.Rows.callWith_type1 (thn (ha pos2 pins s σ H _ I h) fun us s1 ⟨vs,H1,I1,r1,n,ev,hn,q⟩=>?_) hs2 rfl)))
 subst ev
 obtain ⟨u1,rfl,t,rfl⟩:=c_K r1
 refine call_range_1 ?_
 refine Calls.spliced_nil ?_
 have hsz:Builtin.Range.rangeSize 0 (n:Int) 1=(n:Int):=by rw [rangeSize_one];split <;> omega
 refine call_list_range (I1.ok.hd hc) (IsRange.new ..) (small_one (by omega) (by omega) (by omega) (by omega)) hsz (by omega) fun h' tk acc c kp e items=>?_
 obtain ⟨l,rfl⟩:∃l:List Value,acc=l.toArray:=⟨acc.toList,Array.toArray_toList.symm⟩
 have hv:Vals (RA.intsV (List.range n)) l:=by
  refine vals_of (by rw [RA.intsV_len,List.length_range,<- items.1,List.size_toArray]) fun i x u hx hu=>?_
  have hi:i<n:=by have:=(List.getElem?_eq_some_iff.mp hx).1;rwa [RA.intsV_len,List.length_range] at this
  rw [RA.intsV,List.getElem?_map,List.getElem?_range hi] at hx
  cases hx
  obtain ⟨t2,rfl⟩:=items.2 i u (by rw [List.getElem?_toArray];exact hu)
  exact ⟨t2,by simp⟩
 have I2:=I1.laid (t':=tk) (h':=h') (fun b o eb=>kp b o (Heap.get?_push_of_some _ eb)) (by rw [Heap.size_push];exact Nat.le_succ _) (show a_V X.prog X.w _ h' _ (.lst (RA.intsV (List.range n))) from ⟨by rw [RA.intsV_len,List.length_range];exact a_i (Nat.le_trans hn (by decide)),l,c,hv,e⟩)
 exact ⟨.ref _,_,I2,rfl,q _ (I1.hok.fresh (by rw [Heap.size_push];exact Nat.le_succ _))⟩
end L2
namespace RA
open PySem L2
end RA
namespace RA
section
variable {L:List Nat} {W:List (List Nat)} {B:List Bool} {ls:List Nat} {W2:List (List Nat)} {B2:List Bool}
end
end RA
namespace RA
open PySem L2
end RA
namespace RA
section
variable {κ:Type} [DecidableEq κ] {g:κ->Nat->κ} {L:List Nat} {s:κ} {ts ts':List κ} {ws ws':List (List Nat)}
theorem pw_eq {L:List Nat}:∀{l l':List (List Nat)},l.Pairwise (fun a b=>ear L a b=true)->l'.Pairwise (fun a b=>ear L a b=true)->(∀a,a∈l↔a∈l')->l=l'
 | [],[],_,_,_=>rfl
 | [],b::l',_,_,m=>absurd ((m b).mpr List.mem_cons_self) (by simp)
 | a::l,[],_,_,m=>absurd ((m a).mp List.mem_cons_self) (by simp)
 | a::l,b::l',h,h',m=>by
  rw [List.pairwise_cons] at h h'
  have e:a=b:=by
   rcases List.mem_cons.mp ((m a).mp List.mem_cons_self) with z | z
   ·exact z
   rcases List.mem_cons.mp ((m b).mpr List.mem_cons_self) with y | y
   ·exact y.symm
   ·have h1:=h'.1 a z
    have h2:=h.1 b y
    rw [d_f h1] at h2
    cases h2
  subst e
  have ir:∀{l:List (List Nat)},(∀x∈l,ear L a x=true)->a∉l:=fun k z=>by
   have q:=k a z
   have q2:=d_f q
   rw [q] at q2
   cases q2
  rw [pw_eq h.2 h'.2 fun x=>⟨fun z=>?_,fun z=>?_⟩]
  ·rcases List.mem_cons.mp ((m x).mp (List.mem_cons_of_mem _ z)) with y | y
   ·rw [y] at z;exact absurd z (ir h.1)
   ·exact y
  ·rcases List.mem_cons.mp ((m x).mpr (List.mem_cons_of_mem _ z)) with y | y
   ·rw [y] at z;exact absurd z (ir h'.1)
   ·exact y
theorem Bf.pw (h:Bf g L s ts ws n k):ws.Pairwise (fun a b=>ear L a b=true):=by
 rw [List.pairwise_iff_getElem]
 exact fun i j hi hj hij=>h.srt i j _ _ hij (List.getElem?_eq_getElem hi) (List.getElem?_eq_getElem hj)
theorem Bf.sub (h:Bf g L s ts ws ts.length 0) (h':Bf g L s ts' ws' ts'.length 0) (nd:L.Nodup) {b:List Nat} (hb:b∈ws):b∈ws':=by
 obtain ⟨j,hj⟩:=List.mem_iff_getElem?.mp hb
 have hjl:j<ts.length:=by rw [h.len];exact (List.getElem?_eq_some_iff.mp hj).1
 obtain ⟨l1,l2⟩:=h.lead j _ b (List.getElem?_eq_getElem hjl) hj
 obtain ⟨j',b',e1,e2,e3⟩:=h'.told nd b _ rfl l1
 obtain ⟨l3,l4⟩:=h'.lead j' _ b' e1 e2
 obtain ⟨i,c,f1,f2,f3⟩:=h.told nd b' _ rfl l3
 rw [l4,l2] at f1
 have hij:i=j:=by
  have hi:=(List.getElem?_eq_some_iff.mp f1)
  obtain ⟨hi1,hi2⟩:=hi
  exact (List.getElem_inj h.nd).mp hi2
 subst hij
 rw [hj] at f2
 cases f2
 rcases ear_total l1 l3 with z | z | z
 ·rw [z] at e3;cases e3
 ·rw [z];exact List.mem_of_getElem? e2
 ·rw [z] at f3;cases f3
theorem Bf.uniq (h:Bf g L s ts ws ts.length 0) (h':Bf g L s ts' ws' ts'.length 0) (nd:L.Nodup):ts=ts'/\ws=ws':=by
 have e:ws=ws':=pw_eq h.pw h'.pw fun a=>⟨fun z=>h.sub h' nd z,fun z=>h'.sub h nd z⟩
 refine ⟨?_,e⟩
 subst e
 have tm:∀{ts:List κ},Bf g L s ts ws ts.length 0->ts=ws.map (runG g L s):=fun {ts} h=>by
  refine List.ext_getElem? fun i=>?_
  rw [List.getElem?_map]
  by_cases hi:i<ts.length
  ·have hw:i<ws.length:=by rw [<- h.len];exact hi
   rw [List.getElem?_eq_getElem hi,List.getElem?_eq_getElem hw]
   exact congrArg some (h.lead i _ _ (List.getElem?_eq_getElem hi) (List.getElem?_eq_getElem hw)).2.symm
  ·rw [List.getElem?_eq_none (Nat.le_of_not_lt hi),List.getElem?_eq_none (by rw [<- h.len];exact Nat.le_of_not_lt hi)]
   rfl
 rw [tm h,tm h']
end
def gA (W:List (List Nat)) (k:List Nat) (q:Nat):List Nat:=k.map fun r=>(W.getD r []).getD q 0
def tups (n:Nat):Nat->List (List Nat)
 | 0=>[[]]
 | k+1=>(tups n k).flatMap fun t=>(List.range n).map fun x=>x::t
theorem c_k {n:Nat}:∀{k:Nat} {t:List Nat},t∈tups n k↔t.length=k/\∀x∈t,x<n
 | 0,t=>by
  rw [tups,List.mem_singleton]
  constructor
  ·rintro rfl
   exact ⟨rfl,fun x hx=>by simp at hx⟩
  ·exact fun h=>List.length_eq_zero_iff.mp h.1
 | k+1,t=>by
  rw [tups,List.mem_flatMap]
  constructor
  ·rintro ⟨u,hu,ht⟩
   obtain ⟨x,hx,rfl⟩:=List.mem_map.mp ht
   obtain ⟨h1,h2⟩:=c_k.mp hu
   refine ⟨by rw [List.length_cons,h1],fun y hy=>?_⟩
   rcases List.mem_cons.mp hy with z | z
   ·rw [z];exact List.mem_range.mp hx
   ·exact h2 y z
  ·rintro ⟨h1,h2⟩
   cases t with
   | nil=>simp at h1
   | cons x u=>exact ⟨u,c_k.mpr ⟨by simpa using h1,fun y hy=>h2 y (List.mem_cons_of_mem _ hy)⟩,List.mem_map.mpr ⟨x,List.mem_range.mpr (h2 x List.mem_cons_self),rfl⟩⟩
theorem sum_same (n:Nat):∀l:List (List Nat),(l.map fun _=>n).sum=l.length * n
 | []=>by simp
 | x::l=>by rw [List.map_cons,List.sum_cons,sum_same n l,List.length_cons,Nat.succ_mul,Nat.add_comm]
theorem tups_len (n:Nat):∀k:Nat,(tups n k).length=n ^ k
 | 0=>rfl
 | k+1=>by
  rw [tups,List.length_flatMap]
  simp only [List.length_map,List.length_range]
  rw [sum_same,tups_len n k,Nat.pow_succ]
def actN (L:List Nat) (W:List (List Nat)) (w:List Nat):List Nat:=(List.range W.length).map fun r=>run L W r w
theorem actN_len (L:List Nat) (W:List (List Nat)) (w:List Nat):(actN L W w).length=W.length:=by rw [actN,List.length_map,List.length_range]
theorem c_T:∀(m:Nat) (w:List Nat),w.length=m->runG (gA W) L (List.range W.length) w=actN L W w:=by
 intro m
 induction m with
 | zero=>
  intro w hw
  rw [List.length_eq_zero_iff.mp hw]
  exact (List.map_id _).symm
 | succ m ih=>
  intro w hw
  obtain ⟨c,v,rfl⟩:∃c v,w=v++[c]:=⟨w.getLast (by intro z;rw [z] at hw;cases hw),w.dropLast,(List.dropLast_concat_getLast _).symm⟩
  rw [c_w,ih v (by simpa using hw)]
  unfold gA actN
  rw [List.map_map]
  refine List.map_congr_left fun r _=>?_
  show _=run L W r (v++[c])
  rw [d_H]
  rfl
theorem gA_mem (hM:Mach L W B) (hk:k∈tups W.length n) (hq:q<L.length):gA W k q∈tups W.length n:=by
 obtain ⟨h1,h2⟩:=c_k.mp hk
 refine c_k.mpr ⟨by rw [gA,List.length_map,h1],fun x hx=>?_⟩
 obtain ⟨r,hr,rfl⟩:=List.mem_map.mp hx
 have hrW:=h2 r hr
 have e:W.getD r []=W[r]:=by rw [List.getD_eq_getElem?_getD,List.getElem?_eq_getElem hrW];rfl
 rw [e]
 obtain ⟨g1,g2⟩:=hM.row W[r] (List.getElem_mem hrW)
 have e2:W[r].getD q 0=W[r][q]'(by rw [g1];exact hq):=by rw [List.getD_eq_getElem?_getD,List.getElem?_eq_getElem (by rw [g1];exact hq)];rfl
 rw [e2]
 exact g2 _ (List.getElem_mem _)
theorem pow_8 (h:n≤8):n ^ n≤16777216:=by
 match n,h with
 | 0,_=>decide
 | 1,_=>decide
 | 2,_=>decide
 | 3,_=>decide
 | 4,_=>decide
 | 5,_=>decide
 | 6,_=>decide
 | 7,_=>decide
 | 8,_=>decide
 | n+9,h=>omega
end RA
namespace L2
open PySem PySem.Spec PyProof.Rows
section
variable {prog:Program} {w:World} {A:Around} {E:Value->Shared->Prop} {s:Shared}
end
end L2
namespace RA
theorem e_J {α:Type} [BEq α] [LawfulBEq α] {l:List α} (nd:l.Nodup) {x:Nat} {t:α} (h:l[x]?=some t):l.idxOf t=x:=by
 obtain ⟨hx,e⟩:=List.getElem?_eq_some_iff.mp h
 have hm:l.idxOf t<l.length:=List.idxOf_lt_length_of_mem (List.mem_of_getElem? h)
 exact (List.getElem_inj nd).mp ((List.getElem_idxOf hm).trans e.symm)
theorem runG_map (k:List Nat):∀(m:Nat) (w:List Nat),w.length=m->runG (gA W) L k w=k.map fun r=>run L W r w:=by
 intro m
 induction m with
 | zero=>
  intro w hw
  rw [List.length_eq_zero_iff.mp hw]
  exact (List.map_id _).symm
 | succ m ih=>
  intro w hw
  obtain ⟨c,v,rfl⟩:∃c v,w=v++[c]:=⟨w.getLast (by intro z;rw [z] at hw;cases hw),w.dropLast,(List.dropLast_concat_getLast _).symm⟩
  rw [c_w,ih v (by simpa using hw)]
  unfold gA
  rw [List.map_map]
  refine List.map_congr_left fun r _=>?_
  show _=run L W r (v++[c])
  rw [d_H]
  rfl
def a_S (ks:List (List Nat)) (i:Nat):List Nat:=ks.map fun o=>ks.idxOf ((ks.getD i []).map fun r=>o.getD r 0)
section
variable {L:List Nat} {W ks ws R:List (List Nat)} {B:List Bool}
theorem acts_lt (hMa:Mach L W B) (hbf:Bf (gA W) L (List.range W.length) ks ws n k):∀t∈ks,t.length=W.length/\∀r∈t,r<W.length:=fun t ht=>by
 obtain ⟨j,hj⟩:=List.mem_iff_getElem?.mp ht
 have hjl:j<ws.length:=by rw [<- hbf.len];exact (List.getElem?_eq_some_iff.mp hj).1
 obtain ⟨l1,l2⟩:=hbf.lead j t _ hj (List.getElem?_eq_getElem hjl)
 rw [c_T _ _ rfl] at l2
 rw [<- l2]
 refine ⟨actN_len _ _ _,fun r hr=>?_⟩
 obtain ⟨x,hx,rfl⟩:=List.mem_map.mp hr
 exact run_lt hMa (List.mem_range.mp hx) l1
theorem plan_mach (hMa:Mach L W B) (hbf:Bf (gA W) L (List.range W.length) ks ws n k) (ways:e_o (gA W) L.length ks R) (hR:R.length=ks.length) (h40:ks.length≤40):Mach L R (List.replicate R.length false)  where
 lt:=hMa.lt
 n1:=by rw [hR];exact (List.getElem?_eq_some_iff.mp hbf.t0).1
 n60:=by rw [hR];exact Nat.le_trans h40 (by decide)
 bl:=List.length_replicate
 row:=fun row hrow=>by
  obtain ⟨r,hr⟩:=List.mem_iff_getElem?.mp hrow
  have hrl:r<ks.length:=by rw [<- hR];exact (List.getElem?_eq_some_iff.mp hr).1
  obtain ⟨e1,e2⟩:=ways.row r row _ hr (List.getElem?_eq_getElem hrl)
  refine ⟨e1,fun x hx=>?_⟩
  obtain ⟨q,hq⟩:=List.mem_iff_getElem?.mp hx
  rw [hR]
  exact (List.getElem?_eq_some_iff.mp (e2 q x hq)).1
theorem ways_run (ways:e_o (gA W) L.length ks R) (hR:R.length=ks.length) (hk:ks[i]?=some k):∀(m:Nat) (w:List Nat),w.length=m->(∀c∈w,c∈L)->ks[run L R i w]?=some (runG (gA W) L k w):=by
 intro m
 induction m with
 | zero=>
  intro w hw _
  rw [List.length_eq_zero_iff.mp hw]
  exact hk
 | succ m ih=>
  intro w hw hL
  obtain ⟨c,v,rfl⟩:∃c v,w=v++[c]:=⟨w.getLast (by intro z;rw [z] at hw;cases hw),w.dropLast,(List.dropLast_concat_getLast _).symm⟩
  have h1:=ih v (by simpa using hw) fun x hx=>hL x (by simp [hx])
  have hc:c∈L:=hL c (by simp)
  have hx:run L R i v<R.length:=by rw [hR];exact (List.getElem?_eq_some_iff.mp h1).1
  obtain ⟨e1,e2⟩:=ways.row _ R[run L R i v] _ (List.getElem?_eq_getElem hx) h1
  have hq:L.idxOf c<R[run L R i v].length:=by rw [e1];exact List.idxOf_lt_length_of_mem hc
  have e3:=e2 (L.idxOf c) _ (List.getElem?_eq_getElem hq)
  rw [c_w,d_H,<- e3]
  unfold nxt
  rw [List.getD_eq_getElem?_getD (l:=R),List.getElem?_eq_getElem hx,Option.getD_some,List.getD_eq_getElem?_getD,List.getElem?_eq_getElem hq,Option.getD_some]
theorem tab_at (hMa:Mach L W B) (hbf:Bf (gA W) L (List.range W.length) ks ws n k) (ways:e_o (gA W) L.length ks R) (hR:R.length=ks.length) (hj:j<ks.length) (hw1:ws[i]?=some w1):(a_S ks j).getD i 0=run L R j w1:=by
 have hi:i<ks.length:=by rw [hbf.len];exact (List.getElem?_eq_some_iff.mp hw1).1
 obtain ⟨l1,l2⟩:=hbf.lead i ks[i] w1 (List.getElem?_eq_getElem hi) hw1
 have hr:=ways_run ways hR (List.getElem?_eq_getElem hj) _ w1 rfl l1
 rw [runG_map _ _ _ rfl] at hr
 rw [c_T _ _ rfl] at l2
 unfold a_S
 rw [List.getD_eq_getElem?_getD,List.getElem?_map,List.getElem?_eq_getElem hi,Option.map_some,Option.getD_some,List.getD_eq_getElem?_getD,List.getElem?_eq_getElem hj,Option.getD_some,<- l2]
 have e:(ks[j].map fun r=>(actN L W w1).getD r 0)=ks[j].map fun r=>run L W r w1:=List.map_congr_left fun r hr'=>by
  have hrW:=(acts_lt hMa hbf ks[j] (List.getElem_mem hj)).2 r hr'
  rw [actN,List.getD_eq_getElem?_getD,List.getElem?_map,List.getElem?_range hrW]
  rfl
 rw [e]
 exact e_J hbf.nd hr
theorem act_join (hMa:Mach L W B) (hbf:Bf (gA W) L (List.range W.length) ks ws ks.length 0) {i j:Nat} (ha:ks[i]?=some a) (hb:ks[j]?=some b):∃x:Nat,ks[x]?=some (a.map fun r=>b.getD r 0):=by
 obtain ⟨u,hu⟩:∃u,ws[i]?=some u:=⟨ws[i]'(by rw [<- hbf.len];exact (List.getElem?_eq_some_iff.mp ha).1),List.getElem?_eq_getElem _⟩
 obtain ⟨v,hv⟩:∃v,ws[j]?=some v:=⟨ws[j]'(by rw [<- hbf.len];exact (List.getElem?_eq_some_iff.mp hb).1),List.getElem?_eq_getElem _⟩
 obtain ⟨l1,l2⟩:=hbf.lead i a u ha hu
 obtain ⟨m1,m2⟩:=hbf.lead j b v hb hv
 obtain ⟨x,c,e1,_⟩:=hbf.told hMa.lt.nd (u++v) _ rfl fun y hy=>(List.mem_append.mp hy).elim (l1 y) (m1 y)
 refine ⟨x,?_⟩
 rw [e1,c_T _ _ rfl]
 rw [c_T _ _ rfl] at l2 m2
 rw [<- l2,<- m2]
 unfold actN
 rw [List.map_map]
 refine congrArg some (List.map_congr_left fun r hr=>?_)
 have h1:run L W r u<W.length:=run_lt hMa (List.mem_range.mp hr) l1
 show run L W r (u++v)=((List.range W.length).map fun r=>run L W r v).getD (run L W r u) 0
 rw [List.getD_eq_getElem?_getD,List.getElem?_map,List.getElem?_range h1]
 show run L W r (u++v)=run L W (run L W r u) v
 unfold run
 rw [List.foldl_append]
end
end RA
namespace RA
open PySem L2
theorem ints_flatV (l:List Nat):(intsV l).all flatV=true:=by
 rw [intsV,List.all_map,List.all_eq_true]
 exact fun _ _=>rfl
def e_y (cW:Addr) (ti:Bool) (L:List Nat) (g:List Nat->Nat->List Nat) (mk:List Nat->Bool) (U:List (List Nat)) (Rest:Hp->Prop) (fg fm:Addr):Sp:=fun vs H Q _=>∃(s:List Nat) (sv:V) (most:Option Nat),vs=[.str (tx L),sv,.ref fg,.ref fm,mostV most]/\Let L/\ThV ti H s sv/\s∈U/\(∀k∈U,∀q,q<L.length->g k q∈U)/\U.length≤sizeLine/\Rest H/\
 ∀(wk t wd y m:Addr) (ks:List (List Nat)) (vks:List V) (ws:List (List Nat)) (rows:List Addr) (R:List (List Nat)) (B:List Bool) (H':Hp),Same H H'->WalkAt H' cW wk L t wd y m->H' t=some (.lst vks)->e_v ti H' ks vks->H' wd=some (.lst (wordsV ws))->H' y=some (.lst (rows.map V.ref))->WRows H' rows R->H' m=some (.lst (B.map V.bl))->
  Bf g L s ks ws R.length 0->e_o g L.length ks R->B.length=R.length->(∀(r:Nat) (k:List Nat) (b:Bool),ks[r]?=some k->B[r]?=some b->b=mk k)->(∀k∈ks,k∈U)->ks.length≤U.length->(R.length=ks.length\/∃n,most=some n/\n<ks.length)->Q (.ref wk) H'
theorem WPu.room {mk:List Nat->Bool} (h:WPu g L s0 mk U ks ws R B q) (hU:x∈U) (hm:x∉ks):ks.length<U.length:=by
 have h1:=e_d (U:=U) (ts:=ks) hU hm
 have h2:leftOf U ks+ks.length≤U.length:=h.left
 omega
def sp_lotsafter:Sp:=fun vs H Q _=>∃(m:Addr) (v:Addr) (o:HO) (L:List Nat) (W:List (List Nat)) (B:List Bool) (k:List Nat),vs=[.ref m,.ref v]/\b_e H m L W B/\Mach L W B/\(o=.lst (intsV k)\/o=.tup (intsV k))/\H v=some o/\k.length≤60/\(∀x∈k,x<W.length)/\
 ∀(l:Addr) (ls:List Addr) (H':Hp),Same H H'->H' l=some (.lst (ls.map V.ref))->ls.length=L.length->(∀(q:Nat) (a:Addr),ls[q]?=some a->H' a=some (.lst (intsV (gA W k q))))->Q (.ref l) H'
def d_O (cW P0:Addr) (sites:List (Pos×Str)):Sp:=fun vs H Q _=>∃(m rl:Addr) (L:List Nat) (W:List (List Nat)) (B:List Bool) (s:List Nat) (most:Option Nat),vs=[.ref m,.ref rl,mostV most]/\b_e H m L W B/\Mach L W B/\H rl=some (.lst (intsV s))/\0<s.length/\s.length≤60/\(∀x∈s,x<W.length)/\W.length ^ s.length≤sizeLine/\b_W H P0 sites/\
 ∀(wk t wd y md:Addr) (ks:List (List Nat)) (vks:List V) (ws:List (List Nat)) (rows:List Addr) (R:List (List Nat)) (Bm:List Bool) (H':Hp),c_g P0 H H'->b_W H' P0 sites->WalkAt H' cW wk L t wd y md->H' t=some (.lst vks)->e_v false H' ks vks->H' wd=some (.lst (wordsV ws))->H' y=some (.lst (rows.map V.ref))->WRows H' rows R->H' md=some (.lst (Bm.map V.bl))->
  Bf (gA W) L s ks ws R.length 0->e_o (gA W) L.length ks R->Bm.length=R.length->(∀k∈ks,k∈tups W.length s.length)->(R.length=ks.length\/∃n,most=some n/\n<ks.length)->Q (.ref wk) H'
theorem get_last {α:Type} (l:List α) (x:α):(l++[x])[l.length]?=some x:=by simp
theorem rows_up (h1:H1 wa=some (.lst (rows.map V.ref))) (hr:c_C H1 rows W) (hl:rows.length=W.length) (ht:H1 tp=none):
  L2.upd (L2.upd H1 tp (.tup (intsV ws))) wa (.lst (rows.map V.ref++[.ref tp])) wa=some (.lst ((rows++[tp]).map V.ref))/\c_C (L2.upd (L2.upd H1 tp (.tup (intsV ws))) wa (.lst (rows.map V.ref++[.ref tp]))) (rows++[tp]) (W++[ws])/\∀b o,H1 b=some o->b≠wa->L2.upd (L2.upd H1 tp (.tup (intsV ws))) wa (.lst (rows.map V.ref++[.ref tp])) b=some o:=by
 have twa:tp≠wa:=(ne_of_none h1 ht).symm
 have k:∀b o,H1 b=some o->b≠wa->L2.upd (L2.upd H1 tp (.tup (intsV ws))) wa (.lst (rows.map V.ref++[.ref tp])) b=some o:=fun b o e n=>by
  rw [upd_ne n,upd_ne (ne_of_none e ht)]
  exact e
 refine ⟨by rw [upd_same,List.map_append];rfl,fun i r e=>?_,k⟩
 rcases get_split e with z | ⟨rfl,rfl⟩
 ·obtain ⟨v,e1,e2⟩:=hr i r z
  exact ⟨v,e_g e1,k r _ e2 (ne_of e2 h1 (by intro y;cases y))⟩
 ·refine ⟨ws,by rw [hl];exact get_last W ws,?_⟩
  rw [upd_ne twa,upd_same]
end RA
namespace L2
open PySem PySem.Spec PyProof.Rows
theorem ix_dictWK {X:Cx} (P:Program) (w:World) (hu:X.A.units+64<cLine) (hP:X.prog=P:=by rfl) (hw:X.w=w:=by rfl):IxR X (rIxW P w):=by
 subst hP
 subst hw
 exact ix_dictW hu
theorem b_T {env:Env}:∀{names:List (Str×NameKind)} {x:Str},names.lookup x=some .cell->
  (names.map fun (n,k)=>if (k==NameKind.free&&env.scope.kind==.function&&env.kindOf n==some .cell) then (n,NameKind.cell) else (n,k)).lookup x=some .cell
 | [],_,h=>by simp at h
 | (n,k)::r,x,h=>by
  rw [List.map_cons]
  by_cases z:x=n
  ·subst z
   rw [List.lookup_cons_self] at h
   cases h
   show List.lookup x ((x,NameKind.cell)::_)=_
   exact List.lookup_cons_self
  ·have zb:(x==n)=false:=beq_eq_false_iff_ne.mpr z
   have h2:r.lookup x=some .cell:=by simpa only [List.lookup,zb] using h
   have ih:=b_T (env:=env) h2
   dsimp only
   split
   ·simp only [List.lookup,zb]
    exact ih
   ·simp only [List.lookup,zb]
    exact ih
theorem ar_c1 (h:c=C+1) (hC:C=D+1):¬ c<D:=by omega
theorem ar_c2 (h:c=C+1) (hC:C=D+1):D≤c:=by omega
theorem ar_c3 (h:c=C+1) (hC:C=D+1) (hb:b<D):c≠b:=by omega
theorem newEnv_cell1 {M:Model} {A:Around} {E:Value->Shared->Prop} {s:Shared} {sc:Scope} {code:Value}
  (hcf:∀n cl,cellsFrom n sc.names cl=(x,n)::cl) (hpc:∀h:Heap,pushCells h sc.names=h.push { cls:=.type "cell",data:=.cell none })
  (go:∀h',h'.Ns s.heap.objs.size (fun _=>none)->h'.get? (s.heap.objs.size+1)=some { cls:=.type "cell",data:=.cell none }->(∀b o,s.heap.get? b=some o->h'.get? b=some o)->
   Q (newEnv sc s.heap.objs.size g ((x,s.heap.objs.size+1)::cl) qual func code (some outer) bl) { s with heap:=h' }):wpAny M A (newFunctionEnv sc g cl [] qual func code (some outer) bl) Q E s:=by
 unfold newFunctionEnv
 rw [show (some outer).isSome=true from rfl,if_pos rfl]
 refine wpAny_bind (wpAny_alloc (wpAny_bind (wpAny_layCells _ (fun _ k _=>by cases q:k==NameKind.cell <;> simp only [q] <;> rfl) _ _ _ _ ?_)))
 rw [hcf,hpc]
 have e:({ s with heap:=s.heap.push { cls:=.type "dict",data:=.dict #[] } }:Shared).heap.objs.size=s.heap.objs.size+1:=Heap.size_push ..
 rw [e]
 refine wpAny_bind ?_
 rw [List.forIn_nil]
 refine wpAny_pure (wpAny_pure (go _ ?_ ?_ ?_))
 ·exact (Heap.Ns.new s.heap (.type "dict")).keeps fun b o z=>Heap.get?_push_of_some _ z
 ·have:=Heap.get?_push_size (s.heap.push { cls:=.type "dict",data:=.dict #[] }) (o:={ cls:=.type "cell",data:=.cell none }) rfl
  rwa [Heap.size_push] at this
 ·exact fun b o z=>Heap.get?_push_of_some _ (Heap.get?_push_of_some _ z)
section
variable {X:Cx} {elt iter:Expr} {x:Str} {px pos:Pos} {ifs:List Expr} {sc:Scope} {wi:TI} {tt:TT} {te:TE}
theorem d_I (N2:List Str) (hc:X.calm=true) (hN2:(x::N2).Nodup) (hi:PI X (.Name x px) iter wi)
  (hb:∀(cl:List (Str×Addr)) (C:Addr) (fp:List Addr) (s:Shared) (H:Hp),PTs { cxComp X x sc cl C fp s H with N:=x::N2,fn:=fun y=>y==x } ifs tt/\PE { cxComp X x sc cl C fp s H with N:=x::N2,fn:=fun y=>y==x } elt te)
  (hx:sc.names.lookup x=some .cell:=by rfl) (hcf:∀n cl,cellsFrom n sc.names cl=(x,n)::cl:=by intro _ _;rfl) (hpc:∀h:Heap,pushCells h sc.names=h.push { cls:=.type "cell",data:=.cell none }:=by intro _;rfl) (hkind:sc.kind=.function:=by rfl)
  (hnames:∀y∈sc.names,y.2=.local->sc.names.lookup y.1=some .local:=by decide +kernel) (hcell:∀y∈sc.names,y.2=.cell->y.1=x:=by decide +kernel)
  (hfree:(sc.names.all fun y=>y.2 != .free || X.env.scope.names.lookup y.1==some .cell)=true:=by rfl)
  (hlo:(N2.all fun y=>sc.names.lookup y != some .local)=true:=by rfl) (hl2:N2.length=X.N.length:=by rfl) (hz2:((N2.zip X.N).all fun y=>y.1==y.2 || sc.names.lookup y.1==none)=true:=by rfl)
  (hs:∀x,foldedSetIterable iter X.env x=pure x:=by intro _;rfl):
  PE X (.ListComp elt [⟨.Name x px,iter,ifs,0⟩] sc pos) (tComp wi tt te):=by
 intro pins s σ H Q I h
 have hfr:∀y∈sc.names,y.2=.free->X.env.kindOf y.1=some .cell:=fun y hy e=>by
  have q:=List.all_eq_true.mp hfree y hy
  rw [e] at q
  simpa [Env.kindOf] using q
 have hlo':∀y∈N2,sc.names.lookup y≠some .local:=fun y hy e=>by
  have q:=List.all_eq_true.mp hlo y hy
  rw [e] at q
  simp at q
 obtain ⟨cl,hclos,hsub,hhas⟩:=b_R (env:=X.env) (sc:=sc) fun y hy e=>I.ok.has y.1 (.inl (hfr y hy e))
 rw [eval_ListComp]
 refine wpAny_comprehension_free (use:=none) rfl hs hclos hkind hnames (thn (hi pins s σ H _ I h) fun v s1 h1=>thn h1 fun itv s2 h2=>?_)
 obtain ⟨it,fp,tn,J,H2,e,I2,T,st2,f2,hW⟩:=h2
 subst e
 refine wpAny_newObj_type ?_
 refine newEnv_cell1 hcf hpc fun h₁ hns₁ hcl₁ hkp₁=>?_
 dsimp only at hns₁ hcl₁ hkp₁ ⊢
 generalize hHa:s2.heap.push { cls:=.type "list",dict:=none,data:=.seq ([]:List Value).toArray }=Ha at hns₁ hcl₁ hkp₁ ⊢
 have hC:Ha.objs.size=s2.heap.objs.size+1:=by rw [<- hHa,Heap.size_push]
 have hDC:s2.heap.objs.size≠Ha.objs.size:=by rw [hC];exact Nat.ne_of_lt (Nat.lt_succ_self _)
 have hCle:s2.heap.objs.size≤Ha.objs.size:=by rw [hC];exact Nat.le_succ _
 have neC:∀b o,s2.heap.get? b=some o->b≠Ha.objs.size:=fun b o e=>Nat.ne_of_lt (Nat.lt_of_lt_of_le (Heap.lt_size e) hCle)
 have old:∀b o,s2.heap.get? b=some o->h₁.get? b=some o:=fun b o e=>hkp₁ b o (hHa▸Heap.get?_push_of_some _ e)
 have hacc:h₁.get? s2.heap.objs.size=some { cls:=.type "list",dict:=none,data:=.seq ([]:List Value).toArray }:=hkp₁ _ _ (hHa▸Heap.get?_push_size _ rfl)
 have lk:∀{y:Str} {c:Addr},List.lookup y ((x,Ha.objs.size+1)::cl)=some c->(y=x/\c=Ha.objs.size+1)\/(y≠x/\cl.lookup y=some c):=fun {y c} e=>by
  by_cases z:y=x
  ·rw [z,List.lookup_cons_self] at e
   exact .inl ⟨z,(Option.some.inj e).symm⟩
  ·have zb:(y==x)=false:=beq_eq_false_iff_ne.mpr z
   simp only [List.lookup,zb] at e
   exact .inr ⟨z,e⟩
 have lkn:∀{y:Str},y≠x->List.lookup y ((x,Ha.objs.size+1)::cl)=cl.lookup y:=fun {y} z=>by
  have zb:(y==x)=false:=beq_eq_false_iff_ne.mpr z
  simp only [List.lookup,zb]
 have clt:∀{y:Str} {c:Addr},cl.lookup y=some c->c<s2.heap.objs.size:=fun {y c} e=>by
  obtain ⟨v,o,ho,_⟩:=I2.cell y c (hsub y c e)
  exact Heap.lt_size ho
 generalize hDe:s2.heap.objs.size=D at *
 generalize hCe:Ha.objs.size=C at *
 have hHD:H2 D=none:=I2.hok.fresh (Nat.le_of_eq hDe)
 have hHC:H2 C=none:=I2.hok.fresh (by omega)
 obtain ⟨W,⟨m0,w0⟩,turn⟩:=hW D hHD
 have fplt:∀b∈fp,b<D:=fun b hb=>by
  obtain ⟨o,e,_⟩:=T.obj _ _ st2 b hb
  rw [<- hDe]
  exact Heap.lt_size e
 let X':Cx:={ cxComp X x sc ((x,C+1)::cl) C fp s2 H2 with N:=x::N2,fn:=fun y=>y==x }
 have nofs:∀b∈fp,b∉frs X.stack:=fun b hb z=>by
  rcases List.mem_cons.mp (I2.stkSub b z) with e | e
  ·exact (f2 b hb).2.1 e
  ·exact (f2 b hb).2.2.1 e
 have ok':X'.Ok:=by
  refine ⟨I2.ok.mod,hkind,I2.ok.glob,I2.ok.blt,?_,fun y z c e1 e2=>?_,fun y hy=>?_,fun y c e e2=>?_,I2.ok.hd,I2.ok.frames,.inl rfl,fun b hb=>⟨?_,fun y c e=>?_⟩,I2.bs,
   Nat.le_trans I2.ok.bsz I2.sz,fun b o e hb=>?_,nofs,I2.stack,I2.stkFree⟩
  ·show s2.heap.objs.size≤C
   omega
  ·rcases lk e1 with ⟨z1,w1⟩ | ⟨z1,w1⟩ <;> rcases lk e2 with ⟨z2,w2⟩ | ⟨z2,w2⟩
   ·rw [z1,z2]
   ·exact absurd (clt w2) (ar_c1 w1 hC)
   ·exact absurd (clt w1) (ar_c1 w2 hC)
   ·exact I2.ok.inj y z c (hsub y c w1) (hsub z c w2)
  ·rcases hy with hy | hy
   ·rcases relabel_lookup (show (relabel sc X.env).names.lookup y=some .cell from hy) with e | ⟨_,e,_⟩
    ·have z:y=x:=hcell _ (PySem.mem_of_lookup e) rfl
     exact ⟨C+1,by rw [z];exact List.lookup_cons_self⟩
    ·have z:y≠x:=fun z=>by rw [z,hx] at e;cases e
     obtain ⟨c,hc'⟩:=hhas _ (PySem.mem_of_lookup e) rfl
     exact ⟨c,(lkn z).trans hc'⟩
   ·rcases relabel_lookup (show (relabel sc X.env).names.lookup y=some .free from hy) with e | ⟨e,_⟩
    ·have z:y≠x:=fun z=>by rw [z,hx] at e;cases e
     obtain ⟨c,hc'⟩:=hhas _ (PySem.mem_of_lookup e) rfl
     exact ⟨c,(lkn z).trans hc'⟩
    ·cases e
  ·have z:y=x:=eq_of_beq e
   rcases lk e2 with ⟨_,w⟩ | ⟨z2,_⟩
   ·show s2.heap.objs.size≤c
    rw [hDe]
    exact ar_c2 w hC
   ·exact absurd z z2
  ·exact Nat.ne_of_lt (Nat.lt_of_lt_of_le (fplt b hb) (by omega:D≤C))
  ·rcases lk e with ⟨_,w⟩ | ⟨_,w⟩
   ·exact ar_c3 w hC (fplt b hb)
   ·exact (f2 b hb).2.2.2.2.1 y c (hsub y c w)
  ·rcases (f2 b hb).2.2.2.1 with z | z
   ·exact I2.ok.noex b o e z
   ·exact absurd (Nat.lt_of_lt_of_le (Nat.lt_of_lt_of_le (Heap.lt_size e) I2.ok.bsz) z) (Nat.lt_irrefl _)
 have I4:∀tk,Inv X' [] (none::σ) (upd H2 D (.lst [])) { s2 with heap:=h₁,toks:=tk }:=fun tk=>by
  refine ⟨ok',rfl,I2.bare,Un.laid old (Nat.le_of_eq hDe) hHD,⟨_,hns₁,fun i y v e1 e2 e3=>?_⟩,fun y c e=>?_,?_,fun y c e=>?_,fun p hp=>?_,I2.hok.laid old (Nat.le_of_eq hDe) ?_,?_⟩
  ·cases i with
   | zero=>simp at e2
   | succ i=>
    have e0:N2[i]?=some y:=by simpa [X',cxComp] using e1
    have e2:σ[i]?=some (some v):=by simpa using e2
    have e3:Vis (relabel sc X.env) y:=e3
    have hyN:y∈N2:=List.mem_of_getElem? e0
    have free:sc.names.lookup y=some .free/\(relabel sc X.env).names.lookup y≠some .local:=by
     rcases e3 with e | e | e
     ·rcases relabel_lookup e with q | ⟨q,_⟩
      ·exact absurd q (hlo' y hyN)
      ·cases q
     ·rcases relabel_lookup e with q | ⟨_,q,_⟩
      ·have z:y=x:=hcell _ (PySem.mem_of_lookup q) rfl
       rw [z] at hyN
       exact absurd hyN (List.nodup_cons.mp hN2).1
      ·exact ⟨q,by rw [e];decide⟩
     ·rcases relabel_lookup e with q | ⟨q,_⟩
      ·exact ⟨q,by rw [e];decide⟩
      ·cases q
    have e1:X.N[i]?=some y:=by
     have hi:i<N2.length:=(List.getElem?_eq_some_iff.mp e0).1
     have hi2:i<X.N.length:=by omega
     have hm:(y,X.N[i])∈N2.zip X.N:=by
      have hz:(N2.zip X.N)[i]?=some (y,X.N[i]):=by
       rw [List.getElem?_zip_eq_some]
       exact ⟨e0,List.getElem?_eq_getElem hi2⟩
      exact List.mem_of_getElem? hz
     have q:=List.all_eq_true.mp hz2 _ hm
     rcases Bool.or_eq_true_iff.mp q with q | q
     ·have:y=X.N[i]:=eq_of_beq q
      rw [List.getElem?_eq_getElem hi2,<- this]
     ·have q2:sc.names.lookup y=none:=by simpa using q
      rw [free.1] at q2
      cases q2
    have kc:X.env.kindOf y=some .cell:=hfr _ (PySem.mem_of_lookup free.1) rfl
    obtain ⟨m,hn,hl⟩:=I2.loc
    obtain ⟨u,ru,lk⟩:=hl i y v e1 e2 (.inr (.inl kc))
    rcases lk with ⟨q,_⟩ | ⟨_,c,hcc,⟨o,ho,hd⟩⟩
    ·rw [kc] at q;cases q
    ·obtain ⟨c',hc'⟩:=hhas _ (PySem.mem_of_lookup free.1) rfl
     have e4:=hsub _ _ hc'
     rw [hcc] at e4
     cases e4
     have z:y≠x:=fun z=>by rw [z] at hyN;exact (List.nodup_cons.mp hN2).1 hyN
     refine ⟨u,ru,.inr ⟨?_,c,(lkn z).trans hc',⟨o,old c o ho,hd⟩⟩⟩
     rcases e3 with e | e | e
     ·exact absurd e free.2
     ·exact .inl e
     ·exact .inr e
  ·rcases lk e with ⟨_,w⟩ | ⟨_,w⟩
   ·rw [w]
    exact ⟨none,_,hcl₁,rfl⟩
   ·obtain ⟨v,o,ho,hd⟩:=I2.cell y c (hsub y c w)
    exact ⟨v,o,old c o ho,hd⟩
  ·show upd H2 D (.lst []) C=none
   rw [upd_ne (neA (by omega))]
   exact hHC
  ·rcases lk e with ⟨_,w⟩ | ⟨_,w⟩
   ·show upd H2 D (.lst []) c=none
    rw [upd_ne (by rw [w];intro z;exact absurd z (Nat.ne_of_gt (by omega)))]
    exact I2.hok.fresh (by rw [hDe];exact ar_c2 w hC)
   ·have hlt:=clt w
    show upd H2 D (.lst []) c=none
    rw [upd_ne (Nat.ne_of_lt hlt)]
    exact I2.freeC y c (hsub y c w)
  ·exact absurd (show p∈([]:List (Addr×Obj)) from hp) (by simp)
  ·exact ⟨Nat.zero_le _,[],0,.nil,hacc⟩
  ·show (none::σ).length=(x::N2).length
   rw [List.length_cons,List.length_cons,I2.len,hl2]
 have hN':X'.N.Nodup:=hN2
 have hx':X'.env.scope.names.lookup x=some .cell:=b_T hx
 obtain ⟨PT',PE'⟩:=hb ((x,C+1)::cl) C fp s2 H2
 have fpX:∀{pins':List (Addr×Obj)} {H':Hp},(∀b∈fp,H' b=none)->(∀p∈pins',p.1∉fp)->∀b∈fp,FpOk X' pins' H' b:=fun hn hp b hb=>by
  refine ⟨hn b hb,?_,nofs b hb,.inl hb,fun y c e=>?_,fun p q z=>?_⟩
  ·exact Nat.ne_of_lt (Nat.lt_of_lt_of_le (fplt b hb) (by omega:D≤C))
  ·rcases lk e with ⟨_,w⟩ | ⟨_,w⟩
   ·exact ar_c3 w hC (fplt b hb)
   ·exact (f2 b hb).2.2.2.2.1 y c (hsub y c w)
  ·rcases List.mem_append.mp q with q | q
   ·exact absurd (show p∈([]:List (Addr×Obj)) from q) (by simp)
   ·exact hp p q (by rw [z];exact hb)
 have loop:∀tk,codeAny (model X.prog X.w) X.A (.compLoop (.ListComp elt [⟨.Name x px,iter,ifs,0⟩] sc pos) 0 (.ref it) (.ref D) (compEnvC sc ((x,C+1)::cl) C X.env)) (compPost (model X.prog X.w) X.A X.xe none (EP X pins σ Q) (.ref D) C) { s2 with heap:=h₁,toks:=tk }:=fun tk=>by
  refine codeAny_compLoop_tests (fun n s'=>∃i ys o H',Inv X' [] (o::σ) H' s'/\tn i s'.heap/\(∀b∈fp,H' b=none)/\W i n ys H') ?_ m0 ⟨0,[],none,_,I4 tk,T.keep _ _ _ st2 fun b hb o e=>old b o e,fun b hb=>?_,w0⟩
  ·rintro n s3 ⟨i,ys,o3,H3,I3,st3,fr3,w3⟩
   obtain ⟨hD3,alt⟩:=turn i n ys H3 w3
   rcases alt with ⟨stop,qn⟩ | ⟨go,hlen,step⟩
   ·refine wpAny_mono (T.done X' rfl rfl rfl hc i [] s3 _ H3 (fun _ _=>False) I3 (fpX fr3 (by simp)) st3 stop) (fun r s4 hpq=>?_) fun _ _ f=>f.elim
    obtain ⟨hr,I4'⟩:=hpq
    subst hr
    obtain ⟨mC,hnC,_⟩:=I4'.loc
    refine ⟨mC,hnC,fun h' hs'=>?_⟩
    have nC:∀b u,H3 b=some u->b≠C:=fun b u e z=>by rw [z] at e;rw [show H3 C=none from I4'.free] at e;cases e
    have hok':HOk X.prog X.w H3 h':=fun b u e=>(I4'.hok b u e).stay (fun c v hcc q=>hs'.extBut c v (by
     rcases hcc with z | z
     ·rw [z];exact nC b u e
     ·exact nC c _ z) q) (fun _ q=>q) fun _ _ q=>q
    have un:Un (frs X.stack) fp H2 H3 s2.heap h':=
     ⟨fun b o e n1 n2 n3=>hs'.extBut b o (neC b o e) (I4'.base.keep b o e n1 n2 n3),fun b o e n1 n2 n3=>by
       obtain ⟨sl,q⟩:=I4'.base.slot b o e n1 n2 n3
       exact ⟨sl,hs'.extBut b _ (neC b o e) q⟩,I4'.base.free,fun b o e n1=>by
       obtain ⟨o',q⟩:=I4'.base.there b o e n1
       exact ⟨o',hs'.extBut b _ (neC b o e) q⟩,I4'.base.tups,I4'.base.frzs,I4'.base.tbls⟩
    exact ⟨.ref D,H3,I2.call' (s':={ s4 with heap:=h' }) I4'.os un hok' I4'.bare fun b hb=>⟨(f2 b hb).2.2.2.1,(f2 b hb).2.1,(f2 b hb).2.2.2.2.1,(f2 b hb).2.2.2.2.2⟩,rfl,qn⟩
   ·refine wpAny_mono (T.item X' rfl rfl rfl hc i [] s3 _ H3 (fun _ _=>False) I3 (fpX fr3 (by simp)) st3 go) (fun r s4 hpq=>?_) fun _ _ f=>f.elim
    obtain ⟨u,hr,h4⟩:=hpq
    subst hr
    have eg:(letOwnedTupleGo (.Name x px) (.ref it) u >>= fun _=>assign (.Name x px) (compEnvC sc ((x,C+1)::cl) C X.env) u)=assign (.Name x px) (compEnvC sc ((x,C+1)::cl) C X.env) u:=pure_bind () _
    show wpAny _ _ (assign (.Name x px) (compEnvC sc ((x,C+1)::cl) C X.env) u) _ _ s4
    rw [<- eg]
    refine wpAny_bind (wpAny_mono h4 (fun _ s5 hpq=>?_) fun _ _ f=>f.elim)
    obtain ⟨y,H5,I5,r5,y5,st5,fr5⟩:=hpq
    have I5':=I5.pinned (fpX fr5 (by simp)) (T.obj _ _ st5)
    refine wpAny_mono (a_r (X:=X') (i:=0) (pos:=px) hN' rfl (.inr hx') (.inl (beq_self_eq_true x)) _ s5 _ H5 y u (fun σ' H'=>σ'=some y::σ/\H'=H5) I5' r5 ⟨rfl,rfl⟩) (fun _ s6 hpq=>?_) fun _ _ f=>f.elim
    obtain ⟨σ6,H6,I6,e1,e2⟩:=hpq
    subst e1 e2
    refine wpAny_mono (PT' _ s6 _ _ _ I6 (step y _ y5)) (fun ok s7 hpq=>?_) fun _ _ f=>f.elim
    obtain ⟨H7,I7,q7⟩:=hpq
    have again:∀{s8:Shared} {H8:Hp} {ys':List V},Inv X' ([]++d_W fp s5.heap) (some y::σ) H8 s8->(∃m',m'<n/\W (i+1) m' ys' H8)->∃m,m<n/\∃i ys o H',Inv X' [] (o::σ) H' s8/\tn i s8.heap/\(∀b∈fp,H' b=none)/\W i m ys H':=fun {s8 H8 ys'} I8 ⟨m',hm,w8⟩=>by
     refine ⟨m',hm,i+1,ys',some y,H8,I8.unpinned,T.keep _ _ _ st5 fun b hb o e=>(I8.pin (b,o) (List.mem_append_right _ (List.mem_append_right _ (a_v hb e)))).1,fun b hb=>?_,w8⟩
     obtain ⟨o,e,d⟩:=T.obj _ _ st5 b hb
     exact (I8.pin (b,o) (List.mem_append_right _ (List.mem_append_right _ (a_v hb e)))).2.1
    cases ok with
    | false=>exact again I7 q7
    | true=>
     have q7:te (some y::σ) H7 _:=q7
     refine wpAny_mono (PE' _ s7 _ _ _ I7 q7) (fun z s8 hpq=>?_) fun _ _ f=>f.elim
     obtain ⟨yv,H8,I8,r8,hD8,q8⟩:=hpq
     refine wpAny_mono (a_x (X:=X') _ s8 _ H8 (.ref D) [yv] (.ref D) [z] (fun _ H9=>H9=upd H8 D (.lst (ys++[yv]))) I8 rfl (.cons r8 .nil) ⟨D,ys,yv,rfl,rfl,hD8,hlen,rfl⟩) (fun _ s9 hpq=>?_) fun _ _ f=>f.elim
     obtain ⟨_,H9,I9,_,e9⟩:=hpq
     subst e9
     exact again I9 q8
  ·show upd H2 D (.lst []) b=none
   rw [upd_ne (Nat.ne_of_lt (fplt b hb))]
   exact (f2 b hb).1
 exact codeAny_compStart_list (loop _) (T.self _ _ _ _ _ (T.keep _ _ _ st2 fun b hb o e=>old b o e) (loop _))
end
abbrev vBM:List Value:=[.type "ValueError",.type "Exception",.type "BaseException",.type "object"]
abbrev c_S (C:Addr) (dd:Option Addr) (a0:Value):Obj:={ cls:=.ref C,dict:=dd,data:=.fields #[a0,.none,.none,.none,.bool false,.none] }
section
variable {P:Program} {w:World} {A:Around} {E:Value->Shared->Prop} {h:Heap} {g:Array GenState} {d:Drawn} {t:Nat} {os:OsState}
variable {nm q:Str} {C N:Addr} {bs bm:List Value} {hdct:Bool} {sn:List Str} {sub:List Value} {ab:Bool} {col:Option Bool} {dd:Option Addr} {k0 k1 k2 k3 k5:Option Value}
theorem exc_made (tl:OwnTail h vBM bm)
  (cO:h.get? C=some (excClassObj nm q C N bs bm hdct sn sub ab col dd k0 k1 k2 k3 k5 "ValueError.__new__")) (nO:h.Ns N mN) (iO:mN "__init__"=some (.ref fI))
  (fO:h.get? fI=some oI) (fc:oI.cls=.type "function") (hu:us.length≤sizeLine)
  (go:∀h' e,h.objs.size≤e->Heap.MadeExcOf h h' e (.ref C) us->wpAny (model P w) A (call (.ref fI) (.ref e::us)) (fun r s'=>r=.none/\Q (.done (.ret (.ref e))) s') E ⟨h',g,d,t,os⟩):
  wpAny (model P w) A (Builtin.«type.__call__» ⟨.ref C::us,[]⟩) Q E ⟨h,g,d,t,os⟩:=by
 have FV:=PySem.F.excBase_ValueError
 have bV:vBM.contains (.type "ValueError")=true:=rfl
 repeat (first | with_reducible refine wpAny_loadPart_at cO ?_ | with_reducible refine wpAny_madeBy_exc cO ?_ | wp_step)
 refine codeAny_call_builtin_code (Code.quiet_builtin _ FV.quiet) (wpAny_check_new_subU FV bV tl cO ?_)
 refine codeAny_exc_new_subU FV bV FV tl cO ?_ hu
 show wpAny _ _ _ _ _ _
 have up:∀b o,h.get? b=some o->((h.push { cls:=.type "tuple",data:=.seq us.toArray }).push (c_S C none (.ref h.objs.size))).get? b=some o:=fun b o z=>Heap.get?_push_of_some _ (Heap.get?_push_of_some _ z)
 have c1:=up _ _ cO
 have f1:=up _ _ fO
 have n1:((h.push { cls:=.type "tuple",data:=.seq us.toArray }).push (c_S C none (.ref h.objs.size))).Ns N mN:=let ⟨o,es,ep,z,r⟩:=nO;⟨o,es,ep,up _ _ z,r⟩
 have e1:((h.push { cls:=.type "tuple",data:=.seq us.toArray }).push (c_S C none (.ref h.objs.size))).get? (h.objs.size+1)=some (c_S C none (.ref h.objs.size)):=by heap_get
 have hcC:(Value.ref C::bm).contains (.ref C)=true:=by simp
 have t1:=tl.keeps (h':=(h.push { cls:=.type "tuple",data:=.seq us.toArray }).push (c_S C none (.ref h.objs.size))) up
 unfold isInstance
 repeat (first | with_reducible refine wpAny_loadPart_at e1 ?_ | (with_reducible refine wpAny_isSubtype_exc c1 ?_;rw [hcC]) | wp_step)
 show wpAny _ _ (typeLookup (.ref C) _) _ _ _
 refine wpAny_typeLookup_tail c1 n1 t1 FV.mroIs FV.init.lookup ?_
 rw [iO]
 refine wpAny_holding (wpAny_bind ?_)
 unfold bindSpecial
 refine wpAny_bind (wpAny_typeOf (T:="function") ⟨_,f1,fc⟩ ?_)
 rw [if_pos (by decide)]
 refine wpAny_pure (wpAny_bind (wpAny_mono (go _ (h.objs.size+1) (Nat.le_succ _) ⟨up,Heap.get?_none_of_le (Nat.le_succ _),h.objs.size,e1,Heap.get?_none_of_le (Nat.le_refl _),?_⟩) (fun r s' hr=>?_) fun _ _ z=>z))
 ·exact Heap.get?_push_of_some _ (Heap.get?_push_at rfl rfl)
 ·obtain ⟨rfl,hQ⟩:=hr
  wp_walk
  exact hQ
theorem exc_call (tl:OwnTail h vBM bm)
  (cO:h.get? C=some (excClassObj nm q C N bs bm hdct sn sub ab col dd k0 k1 k2 k3 k5 "ValueError.__new__")) (nO:h.Ns N mN) (iO:mN "__init__"=some (.ref fI))
  (fO:h.get? fI=some oI) (fc:oI.cls=.type "function") (hu:us.length≤sizeLine)
  (go:∀h' e,h.objs.size≤e->Heap.MadeExcOf h h' e (.ref C) us->wpAny (model P w) (A.under (.builtin "type.__call__" ⟨.ref C::us,[]⟩)) (call (.ref fI) (.ref e::us)) (fun r s'=>r=.none/\Q (.ref e) s') E ⟨h',g,d,t,os⟩):
  wpAny (model P w) A (call (.ref C) us) Q E ⟨h,g,d,t,os⟩:=by
 have y1:=tc_lookup
 have y2:=tc_bind (.ref C)
 have tyC:(⟨h,g,d,t,os⟩:Shared).TypeIs (.ref C) "type":=⟨_,cO,rfl⟩
 refine wpAny_call (codeAny_of_tree ?_)
 show wpAny _ _ (callAny (.ref C) _) _ _ _
 repeat (any_goals (first | assumption | with_reducible refine wpAny_loadPart_at cO ?_ | wp_step))
 refine ⟨rfl,?_⟩
 refine codeAny_call_builtin_at (Code.quiet_builtin _ (by decide +kernel)) entry_typeCall (wpAny_check_type_call_sub cO (exc_made tl cO nO iO fO fc hu fun h' e le mk=>?_))
 exact go h' e le mk
theorem exc_init0 (tl:OwnTail h vBM bm)
  (cO:h.get? C=some (excClassObj nm q C N bs bm hdct sn sub ab col dd k0 k1 k2 k3 k5 "ValueError.__new__")) (eO:h.get? e=some (c_S C none (.ref t0)))
  (go:∀h',(∀b o,b≠e->h.get? b=some o->h'.get? b=some o)->h'.get? e=some (c_S C none (.ref h.objs.size))->Q .none ⟨h',g,d,t,os⟩):
  wpAny (model P w) A (call (.builtin "ValueError.__init__") [.ref e,u]) Q E ⟨h,g,d,t,os⟩:=by
 have FV:=PySem.F.excBase_ValueError
 have hne:e≠h.objs.size:=Nat.ne_of_lt (Heap.lt_size eO)
 refine wpAny_call (codeAny_call_builtin FV.init.plain FV.initEntry (wpAny_check_init_subU FV tl cO eO rfl ?_))
 wp_walk
 refine go _ (fun b o hb z=>?_) ?_
 ·rw [Heap.get?_update_other _ _ (Ne.symm hb)]
  exact Heap.get?_push_of_some _ z
 ·rw [Heap.get?_update_self _ (Heap.get?_push_of_some _ eO) rfl]
  rfl
theorem raise_made (hbase:bm.contains (.type "BaseException")=true) (hh:A.handled=none)
  (go:wpAny M A x (fun v s1=>∃e d2 a0,v=.ref e/\s1.heap.get? C=some (excClassObj nm q C N bs bm hdct sn sub ab col dd k0 k1 k2 k3 k5 "ValueError.__new__")/\s1.heap.get? e=some (c_S C d2 a0)/\E (.ref e) s1) E s):
  wpAny M A (raiseStmt env (some x) none) Q E s:=by
 have hcB:(Value.ref C::bm).contains (.type "BaseException")=true:=by rw [List.contains_cons,hbase,Bool.or_true]
 unfold raiseStmt
 refine wpAny_bind (wpAny_mono go (fun v s1 h1=>?_) fun _ _ z=>z)
 obtain ⟨e,d2,a0,rfl,cO,eO,hE⟩:=h1
 obtain ⟨hp,g,d,tk,os⟩:=s1
 repeat (first | with_reducible refine wpAny_loadPart_at eO ?_ | with_reducible refine wpAny_loadPart_at cO ?_ | (with_reducible refine wpAny_isSubtype_exc cO ?_;rw [hcB]) | wp_step)
 exact wpAny_raiseNew_none hh hE
end
def OwnI (K:PySem.W.Frag) (C f:Addr):Prop:=(match K.lookup C with
 | some ⟨.type "type",_,.cls c,z⟩=>(match c.mro,z.toList with
  | .ref D::r,[_,_,_,_,some (.builtin m),_]=>D==C&&m=="ValueError.__new__"&&!c.hasDel&&PySem.W.tailIn K vBM r&&PySem.W.nsOkIn K c.ns&&PySem.W.nsIn K c.ns "__init__"==some (some (.ref f))
  | _,_=>false)
 | _=>false)=true
theorem ns_some {K:PySem.W.Frag} (X:K.In h) (G:h.Ns N m) (e:PySem.W.nsIn K N n=some (some v)):m n=some v:=by
 obtain ⟨o,es,ep,ho,hd,_,hf⟩:=G
 unfold PySem.W.nsIn at e
 split at e
 ·rename_i q
  have z:=X _ _ q
  rw [ho] at z
  cases z
  cases hd
  split at e
  ·rename_i he
   rw [<- hf]
   unfold nsFind findBy
   rw [<- Array.find?_toList,he]
   injection e
  ·split at e <;> cases e
 ·cases e
theorem OwnI.obj {K:PySem.W.Frag} (q:OwnI K C f) (X:K.In h):∃bm N nm qn bs hdct sn sub ab col dd k0 k1 k2 k3 k5 mN,h.get? C=some (excClassObj nm qn C N bs bm hdct sn sub ab col dd k0 k1 k2 k3 k5 "ValueError.__new__")/\h.Ns N mN/\mN "__init__"=some (.ref f)/\OwnTail h vBM bm:=by
 unfold OwnI at q
 split at q
 case h_2=>cases q
 case h_1 ob dd cd sl there=>
  split at q
  case h_2=>cases q
  case h_1 D bm k0 k1 k2 k3 mk k5 hm hs=>
   obtain ⟨q,init⟩:=Bool.and_eq_true_iff.mp q
   obtain ⟨q,nsOk⟩:=Bool.and_eq_true_iff.mp q
   obtain ⟨q,tl⟩:=Bool.and_eq_true_iff.mp q
   obtain ⟨q,nodel⟩:=Bool.and_eq_true_iff.mp q
   obtain ⟨isC,isMk⟩:=Bool.and_eq_true_iff.mp q
   cases beq_iff_eq.mp isC
   cases beq_iff_eq.mp isMk
   obtain ⟨l⟩:=sl
   cases hs
   cases cd
   cases hm
   cases Bool.not_eq_true' _▸nodel
   have G:h.Ns _ _:=.of_isNs (PySem.W.isNs_of_in X nsOk)
   exact ⟨bm,_,_,_,_,_,_,_,_,_,dd,k0,k1,k2,k3,k5,_,X _ _ there,G,ns_some X G (beq_iff_eq.mp init),PySem.W.tail_of_in X tl⟩
def e_D:List Value->Bool
 | .ref _::r=>e_D r
 | [.type a,.type b,.type c,.type d]=>a=="ValueError"&&b=="Exception"&&c=="BaseException"&&d=="object"
 | _=>false
theorem overVE_is:∀{l:List Value},e_D l=true->(∀self,refuseLoop self "__setattr__" l=pure ())/\l.contains (.type "object")=true/\l.isEmpty=false
 | .ref c::r,e=>by
  obtain ⟨h1,h2,_⟩:=overVE_is (l:=r) (by rw [e_D] at e;exact e)
  exact ⟨fun self=>(refuseLoop_ref self _ c r).trans (h1 self),by rw [List.contains_cons,h2,Bool.or_true],rfl⟩
 | [.type a,.type b,.type c,.type d],e=>by
  simp only [e_D,Bool.and_eq_true,beq_iff_eq] at e
  obtain ⟨⟨⟨rfl,rfl⟩,rfl⟩,rfl⟩:=e
  exact ⟨fun self=>PySem.F.store_ValueError.passes self,by decide,rfl⟩
theorem osa_exc {prog:Program} {w:World} {A:Around} {K:PySem.W.Frag} (X:K.In s.heap) (I:PySem.W.InstAt s.heap x ox C od) (hp:(PySem.W.clsIn K C).any (fun cd=>e_D cd.mro)=true) (ht:PySem.W.takerIn K C name=some none)
  (h:∀b,wpAny (model prog w) A.in1 (Builtin.ObjectAttr.storeInOwnDict (.ref x) (.ref C) (.str name tk) name v b) (fun fin s'=>match fin with | .done f=>R (.ok f) s' | .again c'=>c'.quiet=true/\codeAny (model prog w) A c' R s') (fun e s'=>R (.error e) s') s):
  codeAny (model prog w) A (.call (.builtin "object.__setattr__") ⟨[.ref x,.str name tk,v],[]⟩) R s:=by
 obtain ⟨cd,hc,ho⟩:=PySem.W.any_some hp
 obtain ⟨pass,has,ne⟩:=overVE_is ho
 have sub:PySem.W.Looks (model prog w) s.heap (isInstance (.ref x) (.type "object")) true:=I.type.andThen (PySem.W.looks_mroIn X (by unfold PySem.W.mroIn;rw [hc,Option.bind_some,if_neg (by rw [ne];decide),has]))
 obtain ⟨attr,ha,hr⟩:=Option.bind_eq_some_iff.mp ht
 have L3:PySem.W.Looks (model prog w) s.heap (Builtin.ObjectAttr.storeTaker? attr) none:=by
  cases attr with
  | none=>exact .now
  | some a=>
   obtain ⟨b,hb,e⟩:=Option.map_eq_some_iff.mp hr
   cases b
   ·exact (PySem.W.looks_takesIn X hb).andThen .now
   ·cases e
 refine codeAny_call_builtin PySem.F.store_object.slot.plain PySem.F.store_object.entry (@PySem.W.check_slot (model prog w) _ _ s "object.__setattr__" "object" "__setattr__" (.ref x) [.str name tk,v] [] _ PySem.F.store_object.kind PySem.F.store_object.split sub (PySem.F.store_object.args (.ref x) (.str name tk) v) ?_)
 rw [PySem.W.osa_eq,refuse_eq]
 refine wpAny_bind (wpAny_bind (I.type.here (wpAny_bind (((PySem.W.looks_clsIn X hc).andThen .now:PySem.W.Looks (model prog w) s.heap (mroOf (.ref C)) cd.mro).here ?_))))
 rw [pass]
 exact wpAny_pure (wpAny_bind (I.type.here (wpAny_bind ((PySem.W.looks_findIn X ha).here (wpAny_bind (L3.here (h _)))))))
structure XCls (K:PySem.W.Frag) (C:Addr):Prop where
 sa:PySem.W.findIn K (.ref C) "__setattr__"=some (some (.builtin "object.__setattr__"))
 po:(PySem.W.clsIn K C).any (fun cd=>e_D cd.mro)=true
 hd:PySem.W.hasDictIn K C=true
structure BaseI (K:PySem.W.Frag) (R:Addr):Prop where
 ga:PySem.W.specialIn K (.ref R) "__getattribute__"=some (some (.builtin "type.__getattribute__"))
 rd:PySem.W.readsIn K R (.type "type")=true
 fc:PySem.W.findCls K (.ref R) (.type "type") "__init__"=some (.val (.builtin "ValueError.__init__"))
section
variable {prog:Program} {w:World} {A:Around} {E:Value->Shared->Prop} {s:Shared} {K:PySem.W.Frag} {x C dx:Addr} {a0:Value} {name:Str} {v:Value} {mA:Str->Option Value}
theorem set_exc1 (X:K.In s.heap) (eO:s.heap.get? x=some (c_S C none a0)) (c:XCls K C) (ht:PySem.W.takerIn K C name=some none)
  (go:∀h' d,s.heap.objs.size≤d->h'.get? x=some (c_S C (some d) a0)->h'.Ns1 d (fun y=>if y=name then some v else none)->(∀b o,b≠x->s.heap.get? b=some o->h'.get? b=some o)->Q () { s with heap:=h',toks:=s.toks+2 }):
  wpAny (model prog w) A (setAttr (.ref x) name v) Q E s:=by
 have J:PySem.W.InstAt s.heap x (c_S C none a0) C none:=⟨eO,rfl,rfl,trivial⟩
 refine PySem.W.set_plain X J c.sa (osa_exc (s:={ s with toks:=s.toks+1 }) X J c.po ht fun b=>?_)
 obtain ⟨cd,hc,hd'⟩:=PySem.W.any_some c.hd
 refine wpAny_bind (wpAny_pure (wpAny_bind (wpAny_bind (wpAny_loadPart eO (wpAny_bind (PySem.W.Looks.here (s:={ s with toks:=s.toks+1 }) (PySem.W.looks_clsIn X hc) ?_))))))
 rw [hd']
 have e1:(s.heap.push { cls:=.type "dict",data:=.dict #[] }).get? x=some (c_S C none a0):=Heap.get?_push_of_some _ eO
 have hxs:x≠s.heap.objs.size:=Nat.ne_of_lt (Heap.lt_size eO)
 refine wpAny_bind (wpAny_alloc' (wpAny_bind (wpAny_update' e1 (wpAny_pure (wpAny_bind ?_)))))
 have hgd:((s.heap.push { cls:=.type "dict",data:=.dict #[] }).update x fun o=>{ o with dict:=some s.heap.objs.size }).get? s.heap.objs.size=some { cls:=.type "dict",data:=.dict #[] }:=
  (Heap.get?_update_ne _ _ _ _ hxs.symm).trans (Heap.get?_push_at rfl rfl)
 have hnd:((s.heap.push { cls:=.type "dict",data:=.dict #[] }).update x fun o=>{ o with dict:=some s.heap.objs.size }).Ns s.heap.objs.size (fun _=>none):=⟨_,#[],_,hgd,rfl,fun e he=>absurd he (by simp),fun _=>rfl⟩
 refine wpAny_pure (wpAny_bind (wpAny_nsSet1 (Heap.Ns1.of_empty hnd) fun h' hn' hs=>?_))
 have few:=hn'.count (Within.cons name v Within.nil)
 obtain ⟨o9,_,_,q1,q2,q3⟩:=few
 have line9:o9.data.pastItsLine=none:=q2▸pastItsLine_dict (Nat.le_trans q3 (by rw [sizeLine_eq];show 1≤_;omega))
 refine wpAny_bind (wpAny_lookBehind q1 line9 ?_)
 refine wpAny_pure (go _ _ (Nat.le_refl _) ?_ hn' fun b o hb z=>?_)
 ·exact (hs.2 x hxs).trans (Heap.get?_update_self _ e1 rfl)
 ·exact (hs.2 b (Nat.ne_of_lt (Heap.lt_size z))).trans ((Heap.get?_update_ne _ _ _ _ hb).trans (Heap.get?_push_of_some _ z))
theorem set_exc2 (X:K.In s.heap) (eO:s.heap.get? x=some (c_S C (some dx) a0)) (nD:s.heap.Ns1 dx mA) (c:XCls K C) (ht:PySem.W.takerIn K C name=some none) (hw:PySem.Within mA ns) (hsz:ns.length≤sizeLine)
  (go:∀h',h'.Ns1 dx (fun y=>if y=name then some v else mA y)->Heap.SameBut dx s.heap h'->Q () { s with heap:=h',toks:=s.toks+2 }):
  wpAny (model prog w) A (setAttr (.ref x) name v) Q E s:=by
 obtain ⟨od,ho,hl⟩:=lookIn_ns nD
 have J:PySem.W.InstAt s.heap x (c_S C (some dx) a0) C (some od):=⟨eO,rfl,rfl,ho⟩
 refine PySem.W.set_plain X J c.sa (osa_exc (s:={ s with toks:=s.toks+1 }) X J c.po ht fun b=>?_)
 obtain ⟨cd,hc,hd'⟩:=PySem.W.any_some c.hd
 refine wpAny_bind (wpAny_pure (wpAny_bind (wpAny_bind (wpAny_loadPart eO (wpAny_bind (PySem.W.Looks.here (s:={ s with toks:=s.toks+1 }) (PySem.W.looks_clsIn X hc) ?_))))))
 rw [hd']
 refine wpAny_pure (a:=some dx) (wpAny_bind (wpAny_pure (wpAny_bind ?_)))
 refine wpAny_nsSet1 (s:={ s with toks:=s.toks+1 }) nD fun h' hn2 hs2=>?_
 have few:=hn2.count (PySem.Within.cons name v hw)
 obtain ⟨o9,_,_,q1,q2,q3⟩:=few
 refine wpAny_bind (wpAny_lookBehind q1 (q2▸pastItsLine_dict (Nat.le_trans q3 (by rw [List.length_cons];omega))) ?_)
 exact wpAny_pure (go _ hn2 hs2)
end
def excD (e C:Addr) (dd:Option Addr):HO:=.ext fun h=>∃t0:Addr,h.get? e=some (c_S C dd (.ref t0))
def dctD (dx:Addr) (fs:List (Str×V)):HO:=.ext fun h=>∃mA,h.Ns1 dx mA/\(∀f,RelO (fs.lookup f) (mA f))/\PySem.Within mA (fs.map (·.1))
def del (H:Hp) (e:Addr):Hp:=fun b=>if b=e then none else H b
theorem e_j (h:b≠e):del H e b=H b:=if_neg h
theorem del_self:del H e e=none:=if_pos rfl
section
variable {X:Cx} {pins:List (Addr×Obj)} {σ:St} {H:Hp} {s:Shared} {a C dx:Addr} {fs:List (Str×V)} {f:Str} {y:V} {u:Value} {A:Around} {E:Value->Shared->Prop}
theorem setx1 (hx:X.ex=[]) (I:Inv X pins σ H s) (e:H a=some (excD a C none)) (c:XCls X.K C) (n:a_I X.K C f) (ry:RelV y u)
  (go:∀d s',H d=none->d≠a->Inv X pins σ (upd (upd H a (excD a C (some d))) d (dctD d [(f,y)])) s'->Q () s'):wpAny (model X.prog X.w) A (setAttr (.ref a) f u) Q E s:=by
 obtain ⟨⟨a0,eO⟩,_,_⟩:=I.hok a _ e
 refine set_exc1 I.kIn eO c n.taker fun h' d hd hx' ns keep=>?_
 have dn:s.heap.get? d=none:=Heap.get?_none_of_le hd
 have hn:H d=none:=I.hok.fresh hd
 have da:d≠a:=(ne_of_none e hn).symm
 have I1:=I.write (x:=a) (e:=a) (o:=excD a C (some d)) (h':=h') (t':=s.toks+2) (by rw [e];exact True.intro) (.inl rfl) keep ⟨_,hx'⟩ ⟨⟨a0,hx'⟩,⟨_,hx'⟩,fun h1 h2 ⟨z,q⟩ k=>⟨z,k _ q⟩⟩
 have old:∀b o,s.heap.get? b=some o->b≠d:=fun b o q z=>by rw [z,dn] at q;cases q
 refine go d _ hn da (I1.track (e:=d) (by rw [upd_ne da];exact hn) (dead0 I hx dn) ?_ (fun x c q=>?_) (fun p hp=>?_) ⟨_,ns,fun g=>?_,fun g hg=>?_⟩ ?_ ?_)
 ·obtain ⟨m,⟨o,es,ep,z,_⟩,_⟩:=I.loc
  exact old _ o z
 ·obtain ⟨v,o,r,_⟩:=I.cell x c q
  exact old c o r
 ·exact old p.1 p.2 (I.pin p hp).1
 ·show RelO (List.lookup g [(f,y)]) (if g=f then some u else none)
  by_cases q:g=f
  ·have hb:(g==f)=true:=beq_iff_eq.mpr q
   rw [if_pos q]
   simp only [List.lookup,hb]
   exact ry
  ·have hb:(g==f)=false:=beq_eq_false_iff_ne.mpr q
   rw [if_neg q]
   simp only [List.lookup,hb]
   exact True.intro
 ·by_cases q:g=f
  ·rw [q];exact List.mem_singleton.mpr rfl
  ·exact absurd (show (if g=f then some u else none)=none by rw [if_neg q]) hg
 ·obtain ⟨o,_,_,z,_⟩:=ns
  exact ⟨o,z⟩
 ·exact fun h1 h2 ⟨mA,z,r⟩ k=>⟨mA,z.at k,r⟩
theorem setx2 (I:Inv X pins σ H s) (e:H a=some (excD a C (some dx))) (ed:H dx=some (dctD dx fs)) (c:XCls X.K C) (n:a_I X.K C f) (hl:fs.length<1000) (ry:RelV y u)
  (go:∀s',Inv X pins σ (upd H dx (dctD dx (putF f y fs))) s'->Q () s'):wpAny (model X.prog X.w) A (setAttr (.ref a) f u) Q E s:=by
 obtain ⟨⟨a0,eO⟩,_,_⟩:=I.hok a _ e
 obtain ⟨⟨mA,nD,r,wi⟩,_,_⟩:=I.hok dx _ ed
 have hz:(fs.map (·.1)).length≤sizeLine:=by rw [List.length_map,sizeLine_eq];omega
 refine set_exc2 I.kIn eO nD c n.taker wi hz fun h' ns sb=>go _ ?_
 have hd:∃o,h'.get? dx=some o:=let ⟨o,_,_,z,_⟩:=ns;⟨o,z⟩
 refine I.write (x:=dx) (e:=dx) (by rw [ed];exact True.intro) (.inl rfl) (fun b q hb z=>(sb.2 b hb).trans z) hd ⟨⟨_,ns,fun g=>?_,fun g hg=>?_⟩,hd,fun h1 h2 ⟨mA,z,r⟩ k=>⟨mA,z.at k,r⟩⟩
 ·show RelO ((putF f y fs).lookup g) (if g=f then some u else mA g)
  rw [c_R]
  by_cases q:g=f
  ·rw [if_pos q,if_pos q];exact ry
  ·rw [if_neg q,if_neg q];exact r g
 ·by_cases q:g=f
  ·rw [q];exact (c_y f y fs).1
  ·refine (c_y f y fs).2 g (wi g fun z=>hg ?_)
   show (if g=f then some u else mA g)=none
   rw [if_neg q];exact z
end
def sFldX (K:PySem.W.Frag) (ta tv:TE) (f:Str):TS:=fun D σ H=>tv σ H fun y H1=>ta σ H1 fun x H2=>∃a C,x=.ref a/\XCls K C/\a_I K C f/\
 ((H2 a=some (excD a C none)/\∀d,H2 d=none->d≠a->D.nx σ (upd (upd H2 a (excD a C (some d))) d (dctD d [(f,y)]))) \/
  ∃dx fs,H2 a=some (excD a C (some dx))/\H2 dx=some (dctD dx fs)/\fs.length<1000/\D.nx σ (upd H2 dx (dctD dx (putF f y fs))))
theorem ps_fldX (hx:X.ex=[]) (ha:PE X o ta) (hv:PE X value tv) (hs:swapsWith value (some (.Attribute o f pos')) pos.line X.env=pure false):PS X (.Assign [.Attribute o f pos'] value pos) (sFldX X.K ta tv f):=by
 intro pins s σ H D I h
 refine plainObj_wpAny_Assign_Attribute (thn (hv pins s σ H _ I h) fun u s1 ⟨y,H1,I1,ry,q⟩=>thn (ha pins s1 σ H1 _ I1 q) fun ov s2 ⟨x,H2,I2,rx,a,C,ex,c,n,r⟩=>?_) hs
 subst ex
 obtain rfl:ov=Value.ref a:=rx
 rcases r with ⟨e,go⟩ | ⟨dx,fs,e,ed,l,go⟩
 ·exact setx1 hx I2 e c n ry fun d s3 hd da I3=>⟨σ,_,I3,go d hd da⟩
 ·exact setx2 I2 e ed c n l ry fun s3 I3=>⟨σ,_,I3,go⟩
def tBaseI (K:PySem.W.Frag) (t:TA):TE:=fun σ H Q=>t σ H fun vs H1=>∃e C f u,vs=[.ref e,u]/\H1 e=some (excD e C none)/\OwnI K C f/\Q .non H1
theorem pe_baseI {np apos pos:Pos} {pl:Sem Bool} (B:BaseI X.K R) (hm:X.mg x=some (.ref R)) (ha:PA X (e::es) t) (hg:Gl X x:=by rfl) (hd:(x==("__debug__":Str))=false:=by decide)
  (he:starEach (e::es) X.env=(false,eval e X.env)::starEach es X.env:=by rfl) (hpl:(backTo pos (starEach es X.env)).any (·.1)=false:=by rfl)
  (ht:eval (.Call (.Attribute (.Name x np) "__init__" apos) (e::es) [] pos) X.env=(do
   let ov <- eval (.Name x np) X.env
   standAt apos.atName
   let (f,first) <- holding [ov] (getMethod ov "__init__" pl)
   callWith pos f first (backTo pos (starEach (e::es) X.env)) (backToKw pos (keywordEach [] X.env))):=by rfl):
  PE X (.Call (.Attribute (.Name x np) "__init__" apos) (e::es) [] pos) (tBaseI X.K t):=by
 intro pins s σ H Q I h
 refine PySem.W.methodCall_KW (pl:=pl) (ld_glob I hg hm ?_ hd) ht
 refine PySem.W.method_cls I.kIn B.ga (PySem.W.cls_value I.kIn B.rd B.fc rfl ?_)
 have hA:=ha pos pins { s with toks:=s.toks+1 } σ H _ (I.tok _) h
 rw [he] at hA ⊢
 have pl9:(backTo pos ((false,eval e X.env)::starEach es X.env)).any (·.1)=false:=by
  show (false || (backTo pos (starEach es X.env)).any (·.1))=false
  rw [hpl]
  rfl
 refine Calls.callWith_builtin pl9 (Calls.evalArgs_plain (thn hA fun us s2 ⟨vs,H2,I2,r,e2,C,f,u,ev,eH,oC,q⟩=>?_))
 subst ev
 obtain ⟨u1,u2,rfl,rx,ru⟩:=vals2 r
 obtain rfl:u1=Value.ref e2:=rx
 obtain ⟨⟨a0,eO⟩,_,_⟩:=I2.hok e2 _ eH
 obtain ⟨bm,N,nm,qn,bs,hdct,sn,sub,ab,col,dd,k0,k1,k2,k3,k5,mN,cO,nO,iO,tl⟩:=oC.obj I2.kIn
 obtain ⟨hh,g,d,tk,os⟩:=s2
 refine exc_init0 tl cO eO fun h' keep eO'=>⟨.non,H2,?_,rfl,q⟩
 have I3:=I2.write (x:=e2) (e:=e2) (o:=excD e2 C none) (h':=h') (t':=tk) (by rw [eH];exact True.intro) (.inl rfl) keep ⟨_,eO'⟩ ⟨⟨_,eO'⟩,⟨_,eO'⟩,fun h1 h2 ⟨z,q⟩ k=>⟨z,k _ q⟩⟩
 have eu:upd H2 e2 (excD e2 C none)=H2:=by
  funext b
  unfold upd
  split
  ·rename_i z;rw [z,eH]
  ·rfl
 rw [eu] at I3
 exact I3
section
variable {X:Cx} {CX:CXT} {k:Nat} {f C:Addr} {fd:FuncData} {ps:List Str} {sp:Sp} {E E':XK} {x:Str} {np cpos pos:Pos} {e0:Expr} {es:List Expr} {t:TA}
theorem run_exc {σ:St} {Q:VK} (hx:X.ex=[]) (M:OwnI X.K C f) (fn:PySem.W.isFn X.K (.ref f)=true) (F:FnOk X.prog X.w X.K X.mg X.base CX k f fd ps sp) (hr:Room (k+1) X.A) (hb:c_D X.K fd ps [])
  (hp:d_h CX X E') (I:Inv X pins σ H s) (r:Vals vs us) (hu:us.length≤sizeLine)
  (h:∀e,H e=none->sp (.ref e::vs) (upd H e (excD e C none)) (fun v H2=>v=.non/\Q (.ref e) H2) E'):
  wpAny (model X.prog X.w) X.A (call (.ref C) us) (fun u s'=>∃e H',u=.ref e/\X.s₀.heap.get? e=none/\Inv X pins σ H' s'/\Q (.ref e) H') X.xe s:=by
 obtain ⟨bm,N,nm,qn,bs,hdct,sn,sub,ab,col,dd,k0,k1,k2,k3,k5,mN,cO,nO,iO,tl⟩:=M.obj I.kIn
 obtain ⟨oI,fO,fc⟩:∃oI,s.heap.get? f=some oI/\oI.cls=.type "function":=by
  obtain ⟨o,q,e⟩:=Option.map_eq_some_iff.mp (show Option.map (fun x:Obj=>x.cls) (List.lookup f X.K)=some (.type "function") from beq_iff_eq.mp fn)
  exact ⟨o,I.kIn _ _ q,e⟩
 obtain ⟨hh,g,d,tk,os⟩:=s
 refine exc_call tl cO nO iO fO fc hu fun h' e es mk=>?_
 obtain ⟨t0,eO,tn,tO⟩:=mk.there
 have I2:Inv X pins σ (upd H e (excD e C none)) ⟨h',g,d,tk,os⟩:=I.laid (a:=e) (o:=excD e C none) (h':=h') (t':=tk) mk.keeps es ⟨⟨_,eO⟩,⟨_,eO⟩,fun h1 h2 ⟨z,q⟩ k=>⟨z,k _ q⟩⟩
 have hq:=h e (I.hok.fresh es)
 have r2:Vals (V.ref e::vs) (Value.ref e::us):=.cons rfl r
 have hl:(Value.ref e::us).length=ps.length:=by
  have z:=r2.length
  rw [F.len _ _ _ _ hq] at z
  exact z.symm
 have hb2:=hb ⟨h',g,d,tk,os⟩ (Value.ref e::us) I2.kIn
 rw [List.append_nil] at hb2
 refine wpAny_call (codeAny_mono (F.run _ X.stack _ _ ⟨Value.ref e::us,[]⟩ (Value.ref e::us) _ _ E' (hr.make C us []) (I2.env0.make C us []) (hb2 hl) r2 hq) fun r s' hq'=>?_)
 cases r with
 | error ev=>exact hp pins σ _ _ ev s' I2 hq'
 | ok fl=>
  cases fl with
  | ret u=>
   obtain ⟨v,H',I3,rv,ev,q3⟩:=I2.after hq'
   subst ev
   exact ⟨rv,e,H',rfl,dead0 I hx mk.new,I3,q3⟩
  | next=>exact False.elim hq'
  | brk=>exact False.elim hq'
  | cont=>exact False.elim hq'
def QX (C:Addr) (E:XK):VK:=fun v H=>match v with
 | .ref e=>∃d,H e=some (excD e C d)/\E (.ref C) d (del H e)
 | _=>False
def ThrowsD (X:Cx) (E:XK):Prop:=∀(pins:List (Addr×Obj)) (σ:St) (H:Hp) (s:Shared) (e C:Addr) (d:Option Addr),Inv X pins σ H s->H e=some (excD e C d)->X.s₀.heap.get? e=none->E (.ref C) d (del H e)->X.xe (.ref e) s
theorem leave_D (hx:X.ex=[]) (hst:X.stack=X.env::X.outer) (hfr:X.env.frame=some X.env.locals) {σ:St} (I:Inv X pins σ H s) (eH:H e=some (excD e C d)) (d0:X.s₀.heap.get? e=none) (q:E (.ref C) d (del H e)):
  wpAny (model X.prog X.w) X.A (leaving X.env (.ref e)) (fun _ s''=>CXE X.prog X.w X.outer X.H₀ X.s₀ E (.ref e) s'') (fun e' s''=>CXE X.prog X.w X.outer X.H₀ X.s₀ E e' s'') s:=by
 have stk:s.heap.FunFrames X.base (X.env::X.outer):=hst▸I.stack
 obtain ⟨⟨a0,eO⟩,_,_⟩:=I.hok e _ eH
 have sub:∀b∈frs (X.env::X.outer),b∈e::frs X.stack:=fun b hb=>List.mem_cons_of_mem _ (hst▸hb)
 have bk:∀b u,H b=some u->b≠e->del H e b=some u:=fun b u z n=>(e_j n).trans z
 refine gent_use (gent_leaving _ _) (wpAny_leaving_firstW (base:=PySem.W.hideAll s.heap (e::frs X.stack)) (a0:=.ref a0) (by rw [<- hst];exact I.ok.frames) (c_c stk sub) hfr eO (fun b o z=>PySem.W.of_hideAll _ z) (PySem.W.hideAll_none _ List.mem_cons_self) rfl rfl rfl fun h' hL dk=>?_)
 obtain ⟨k1,⟨_,_,k2⟩,k3,up⟩:=hL
 have fr:∀b∈frs X.stack,∃o,s.heap.get? b=some o/\∀vs,o.data≠.fields vs:=c_o I.stack
 have kept:∀b o,s.heap.get? b=some o->b≠e->b∉frs X.stack->h'.get? b=some o:=fun b o z n hb=>k1 b o (PySem.W.hideAll_get _ z fun hm=>(List.mem_cons.mp hm).elim n hb)
 obtain ⟨T,nT,fT⟩:=fly_of k3
 have eN:∀b,H b=none->b≠e:=fun b z y=>by rw [y,eH] at z;cases z
 have un2:Un (frs X.stack) [] H (del H e) s.heap h':=by
  refine ⟨fun b o z n hb _=>kept b o z (eN b n) hb,fun b o z n hb _=>?_,fun b o z n _=>by rw [e_j (eN b n)];exact n,fun b o z _=>?_,fun b xs z=>bk b _ z (ne_of z eH (by intro y;cases y)),fun b o u z=>bk b _ z (ne_of z eH (by intro y;cases y)),fun b ps z=>⟨#[],?_⟩⟩
  ·obtain ⟨o',ho',hd⟩:=fr b hb
   rw [z] at ho'
   cases ho'
   exact up b _ z hd
  ·by_cases hb:b∈frs X.stack
   ·obtain ⟨o',ho',hd⟩:=fr b hb
    rw [z] at ho'
    cases ho'
    obtain ⟨sl,z2⟩:=up b _ z hd
    exact ⟨_,z2⟩
   ·by_cases he:b=e
    ·subst he
     obtain ⟨oe,_,_,_,z2,_⟩:=fT
     exact ⟨oe,z2⟩
    ·exact ⟨o,kept b o z he hb⟩
  ·rw [Array.append_empty]
   exact bk b _ z (ne_of z eH (by intro y;cases y))
 have hok2:HOk X.prog X.w (del H e) h':=fun b u z=>by
  have hb:b≠e:=fun y=>by rw [y,del_self] at z;cases z
  rw [e_j hb] at z
  refine (I.hok b u z).stay (fun c v hc y=>?_) (fun c y=>bk c _ y (ne_of y eH (by intro z;cases z))) fun c xs y=>bk c _ y (ne_of y eH (by intro z;cases z))
  have hH:∃w',H c=some w'/\c≠e:=by
   rcases hc with rfl | hc
   ·exact ⟨u,z,hb⟩
   ·exact ⟨_,hc,ne_of hc eH (by intro z;cases z)⟩
  obtain ⟨w',hw,hce⟩:=hH
  exact kept c v y hce fun hm=>by rw [I.stkFree c hm] at hw;cases hw
 have I2:Inv X pins σ (del H e) { s with heap:=h',gens:=s.gens,drawn:=s.drawn,toks:=s.toks }:=I.call (g':=s.gens) (d':=s.drawn) (t':=s.toks) (ch:=[]) un2 hok2 I.bare (fun _ z=>nomatch z)
 have dT:s.heap.get? T=none:=by
  cases z:s.heap.get? T with
  | none=>rfl
  | some o=>
   have h1:=e_i fT I2.stack
   have h2:T≠e:=by obtain ⟨_,_,_,_,_,_,_,_,y,_⟩:=fT;exact y
   rw [PySem.W.hideAll_get _ z fun hm=>(List.mem_cons.mp hm).elim h2 h1] at nT
   cases nT
 have ub:=I2.base
 rw [hx] at ub
 have TN:=off_dead I.hok dT
 exact ⟨e,T,.ref C,.ref a0,d,del H e,rfl,I2.os,I.bare,ub,hok2,d0,dead0 I hx dT,del_self,by rw [e_j (eN T TN)];exact TN,fT.up dk eO (fun _ z=>z),q⟩
def tRaiseI (s0:Heap) (C:Addr) (sp:Sp) (E E':XK) (t:TA):TS:=fun _ σ H=>t σ H fun vs H1=>vs.length≤sizeLine/\∀e,H1 e=none->sp (.ref e::vs) (upd H1 e (excD e C none)) (fun v H2=>v=.non/\∃d,H2 e=some (excD e C d)/\E (.ref C) d (del H2 e)) E'
theorem ps_raiseI (hx:X.ex=[]) (hc:X.calm=true) (hT:ThrowsD X E) (M:OwnI X.K C f) (fn:PySem.W.isFn X.K (.ref f)=true) (F:FnOk X.prog X.w X.K X.mg X.base CX k f fd ps sp) (hr:Room (k+1) X.A) (hb:c_D X.K fd ps []) (hp:d_h CX X E')
  (hm:X.mg x=some (.ref C)) (ha:PA X (e0::es) t) (hg:Gl X x:=by rfl)
  (hd:(x==("__debug__":Str))=false:=by decide) (he:starEach (e0::es) X.env=(false,eval e0 X.env)::starEach es X.env:=by rfl) (hpl:(backTo cpos (starEach es X.env)).any (·.1)=false:=by rfl):
  PS X (.Raise (some (.Call (.Name x np) (e0::es) [] cpos)) none pos) (tRaiseI X.base C sp E E' t):=by
 intro pins s σ H D I h
 obtain ⟨bm,N,nm,qn,bs,hdct,sn,sub,ab,col,dd,k0,k1,k2,k3,k5,mN,cO,nO,iO,tl⟩:=M.obj I.ok.mod.kin
 rw [arm_exec_Raise]
 refine wpAny_bind (wpAny_standAt (raise_made (C:=C) (nm:=nm) (q:=qn) (N:=N) (bs:=bs) (bm:=bm) (hdct:=hdct) (sn:=sn) (sub:=sub) (ab:=ab) (col:=col) (dd:=dd) (k0:=k0) (k1:=k1) (k2:=k2) (k3:=k3) (k5:=k5) (tl.hasType PySem.F.excBase_ValueError.hasBase) (I.ok.hd hc)
  (wpAny_bind (wpAny_mono (wpAny_Call_ofName (ld_glob I hg hm ?_ hd)) (fun v s3 h3=>wpAny_bind (wpAny_standAt (wpAny_pure h3))) fun _ _ z=>z))))
 have hA:=ha cpos pins s σ H _ I h
 have pl0:(backTo cpos (starEach (e0::es) X.env)).any (·.1)=false:=by rw [he];show (false || (backTo cpos (starEach es X.env)).any (·.1))=false;rw [hpl];rfl
 have cK:∀{σ':St} {H':Hp} {s':Shared},Inv X pins σ' H' s'->s'.heap.get? C=some (excClassObj nm qn C N bs bm hdct sn sub ab col dd k0 k1 k2 k3 k5 "ValueError.__new__"):=fun I'=>I'.bk _ _ cO
 unfold callWith
 refine wpAny_bind (wpAny_holding (wpAny_mono (Q:=fun (a:Args) s2=>a.kw=[]/\∃vs H2,Inv X pins σ H2 s2/\Vals vs a.pos/\vs.length≤sizeLine/\∀e,H2 e=none->sp (.ref e::vs) (upd H2 e (excD e C none)) (fun v H3=>v=.non/\∃d,H3 e=some (excD e C d)/\E (.ref C) d (del H3 e)) E') ?_ (fun a s2 h2=>wpAny_bind (wpAny_standAt ?_)) fun _ _ z=>z))
 ·rw [he] at hA ⊢
  exact Calls.evalArgs_plain (thn hA fun us s2 ⟨vs,H2,I2,r2,hl,q⟩=>⟨rfl,vs,H2,I2,r2,hl,q⟩)
 obtain ⟨apos,akw⟩:=a
 obtain ⟨hkw,vs,H2,I2,r2,hl,q⟩:=h2
 obtain rfl:akw=[]:=hkw
 obtain ⟨hp2,g2,d2,tk2,os2⟩:=s2
 simp only [pl0]
 refine wpAny_bind (wpAny_keeperOf_exc (cK I2) ?_)
 refine wpAny_bind (wpAny_mono (run_exc (Q:=QX C E) hx M fn F hr hb hp I2 r2 (by show apos.length≤sizeLine;have z:vs.length=apos.length:=r2.length;rw [<- z];exact hl) fun e hn=>q e hn) (fun v s3 hv=>wpAny_bind (wpAny_holding (wpAny_point (wpAny_pure ?_)))) fun _ _ z=>z)
 obtain ⟨e,H3,rfl,d0,I3,d,h1,h2⟩:=hv
 obtain ⟨⟨t0,eO⟩,_,_⟩:=I3.hok e _ h1
 exact ⟨e,d,.ref t0,rfl,cK I3,eO,hT pins σ H3 s3 e C d I3 h1 d0 h2⟩
theorem throwsD_def {P:Program} {w:World} {K:PySem.W.Frag} {mg:Str->Option Value} {base:Heap} {N:List Str}:ThrowsD (cxOf (CXE P w) P w K mg base N qual scope f cd A outer s H E) E:=
 fun pins σ H1 s1 e C d I h1 h2 h3=>leave_D (X:=cxOf (CXE P w) P w K mg base N qual scope f cd A outer s H E) rfl rfl rfl I h1 h2 h3
end
def nextOnly (D:Ends):Ends:={ nx:=D.nx,rt:=fun _ _=>False }
def CaughtN (K:PySem.W.Frag) (R:Addr) (ts:TS) (D:Ends) (σ:St):XK:=fun C _ H'=>PySem.W.exmOne K C (.ref R)=some true/\ts (nextOnly D) σ H'
theorem catch_okN {X:Cx} {pins:List (Addr×Obj)} {σ:St} {H:Hp} (hex:X.ex=[]) (hst:X.stack=X.env::X.outer)
  (hfr:X.env.frame=some X.env.locals) (hg:Gl X x) (hm:X.mg x=some (.ref R))
  (hs:∀v,PSs (X.held v) (b0::suite) ts) (I:Inv X pins σ H s) (cx:CXE X.prog X.w X.stack H s (CaughtN X.K R ts D σ) ev s') (hd:(x==("__debug__":Str))=false):
  wpAny (model X.prog X.w) X.A (noteFrame ev X.env) (fun _ s2=>wpAny (model X.prog X.w) X.A (setFlight ev none) (fun _ s3=>wpAny (model X.prog X.w) X.A (handleBy ev X.env [.ExceptHandler (some (.Name x np)) none (b0::suite) hpos]) (SP X pins D) X.xe s3) X.xe s2) X.xe s':=by
 obtain ⟨e,T,C,a0,dd,H',rfl,os,bare,un,hok,de,dT,he,hT,fT,hmatch,q⟩:=cx
 obtain ⟨hh,g,d,tk,os'⟩:=s'
 obtain rfl:os'=s.os:=os
 have I1:Inv X pins σ H' { s with heap:=hh,gens:=g,drawn:=d,toks:=tk }:=I.call (g':=g) (d':=d) (t':=tk) (ch:=[]) un hok bare (fun _ z=>nomatch z)
 have stk:hh.FunFrames X.base (X.env::X.outer):=hst▸I1.stack
 have fl:Heap.FlyingW (PySem.W.hideAll hh (e::T::frs X.stack)) (X.env::X.outer) e C a0 hh:=
  ⟨fun b o z=>PySem.W.of_hideAll _ z,PySem.W.hideAll_none _ (by simp),c_c stk (by rw [<- hst];exact fun b z=>List.mem_cons_of_mem _ (List.mem_cons_of_mem _ z)),fT.traced (PySem.W.hideAll_none _ (by simp))⟩
 have seen:∀(h':Heap),(PySem.W.hideAll hh (e::T::frs X.stack)).StaysIn h'->hh.UpToSlots h'->Inv X pins σ H' { s with heap:=h',gens:=g,drawn:=d,toks:=tk }:=fun h' fk up=>
  (I.flown (H':=H') (h1:=hh) (h2:=h') (g':=g) (d':=d) (t':=tk) (S:=[e,T]) un hok (fun b hb=>by rcases List.mem_cons.mp hb with z | z;rw [z];exact de;rw [List.mem_singleton.mp z];exact dT)
   (fun b hb=>by rcases List.mem_cons.mp hb with z | z;rw [z];exact he;rw [List.mem_singleton.mp z];exact hT) (fun b o z hS hb=>fk b o (PySem.W.hideAll_get _ z fun hmem=>by
    rcases List.mem_cons.mp hmem with y | hmem
    ·exact hS (by rw [y];simp)
    ·rcases List.mem_cons.mp hmem with y | hmem
     ·exact hS (by rw [y];simp)
     ·exact hb hmem)) up bare).1
 refine wpAny_looks_onW (s:=⟨hh,g,d,tk,s.os⟩) (by rw [<- hst];exact I.ok.frames) hfr fl fun h2 fl2 up2=>wpAny_landsW (s:=⟨h2,g,d,tk,s.os⟩) fl2 fun h3 fl3 up3=>?_
 have I3:=seen h3 fl3.1 (up2.trans up3)
 obtain ⟨oe,hoe,hce⟩:=fl3.there
 have ty:PySem.W.Looks (model X.prog X.w) h3 (typeOf (.ref e)) C:=hce▸(PySem.W.Looks.ld hoe).andThen .now
 refine wpAny_handleBy_cons (codeAny_handlers_test (ld_glob (X:=X.held (.ref e)) (I3.held _) hg hm ?_ hd)) (by intro z;cases z)
 refine (PySem.W.exm_one I3.kIn ty hmatch).here ?_
 refine codeAny_handlers_suite (lands_againW (s:=⟨h3,g,d,tk,s.os⟩) fl3 fun h4 fl4 up4=>?_)
 have I4:=seen h4 fl4.1 ((up2.trans up3).trans up4)
 refine wpAny_mono (hs (.ref e) pins _ _ _ (nextOnly D) (I4.held _) q) (fun f s6 h6=>?_) fun _ _ z=>z.elim
 cases f with
 | next=>
  obtain ⟨σ7,H7,I7,q7⟩:=h6
  exact ⟨σ7,H7,I7.unheld I.ok,q7⟩
 | ret u=>
  obtain ⟨_,_,_,_,_,z⟩:=h6
  exact z.elim
 | brk=>
  obtain ⟨_,_,_,z⟩:=h6
  exact z.elim
 | cont=>
  obtain ⟨_,_,_,z⟩:=h6
  exact z.elim
section
variable {X:Cx} {pins:List (Addr×Obj)} {σ:St} {H:Hp} {s:Shared} {x y fx:Str} {R:Addr} {j k:Nat} {np hpos pos p cp yp ap:Pos} {b0:Stmt} {suite:List Stmt} {ts:TS} {D:Ends} {ps:List Str} {sp:Sp} {e:Expr} {es:List Expr} {t:TA}
structure TryN (X:Cx) (x:Str) (R:Addr) (b0:Stmt) (suite:List Stmt) (ts:TS):Prop where
 hex:X.ex=[]
 hst:X.stack=X.env::X.outer
 hfr:X.env.frame=some X.env.locals
 hg:Gl X x
 hm:X.mg x=some (.ref R)
 hs:∀v,PSs (X.held v) (b0::suite) ts
 hd:(x==("__debug__":Str))=false
end
section
variable {prog:Program} {w:World} {A:Around} {E:Value->Shared->Prop} {s:Shared} {d v it:Addr} {es:Array DictEntry} {ep i:Nat}
end
section
variable {X:Cx}
end
end L2
namespace RA
open PySem L2
end RA
namespace L2
open PySem PySem.Spec PyProof.Rows
section
variable {prog:Program} {w:World} {A:Around} {E:Value->Shared->Prop} {s:Shared} {d v it:Addr} {es:Array DictEntry} {ep i:Nat}
end
section
variable {X:Cx}
end
def d_L (X:Cx) (pins:List (Addr×Obj)) (F:St->XK):Value->Shared->Prop:=fun ev s'=>∃ σ' H' s1,Inv X pins σ' H' s1/\CXE X.prog X.w X.stack H' s1 (F σ') ev s'
def PX (X:Cx) (st:Stmt) (t:(St->XK)->TS):Prop:=
 ∀(pins:List (Addr×Obj)) (s:Shared) (σ:St) (H:Hp) (D:Ends) (F:St->XK),Inv X pins σ H s->t F D σ H->wpAny (model X.prog X.w) X.A (exec st X.env) (SP X pins D) (d_L X pins F) s
section
variable {X:Cx} {pins:List (Addr×Obj)} {σ:St} {H:Hp} {s:Shared} {x n y fx:Str} {R:Addr} {i j k:Nat} {np hpos pos p cp yp ap:Pos} {st a b b0:Stmt} {suite:List Stmt} {ts:TS} {D:Ends} {ps:List Str} {sp:Sp} {e c:Expr} {es:List Expr} {t:TA} {tc:TT} {τ τ':(St->XK)->TS}
theorem call_px (F:DfX X.prog X.w X.K X.mg X.base fx k ps sp) (hr:Room k X.A) (ha:PA X.nox (e::es) t) (hg:Gl X fx) (hdb:(fx==("__debug__":Str))=false)
  (he:starEach (e::es) X.env=(false,eval e X.env)::starEach es X.env) (hpl:(backTo cp (starEach es X.env)).any (·.1)=false) (I:Inv X pins σ H s) (h:t σ H fun vs H1=>sp vs H1 Qv (G σ)):
  wpAny (model X.prog X.w) X.A (eval (.Call (.Name fx p) (e::es) [] cp) X.env) (EP X pins σ Qv) (d_L X pins G) s:=by
 obtain ⟨f,fd,h1,h2,h3,F⟩:=F
 refine wpAny_Call_Name_kw (ld_glob I hg h1 (PySem.W.callWith_K (h₀:=X.base) I.ok.mod.kin h2 (wpAny_mono (ha cp pins s σ H _ (I.wish _) h) (fun us s1 ⟨vs,H1,I1,r,q⟩=>?_) fun _ _ z=>z.elim) he hpl) hdb)
 have J:Inv X pins σ H1 s1:=I1.unwish
 refine ⟨J.kIn,wpAny_call (codeAny_mono (F.run X.A X.stack s1 H1 ⟨us,[]⟩ us vs Qv _ hr J.env0 ?_ r q) fun r s' hq=>?_)⟩
 ·have hb:=h3 s1 us J.kIn
  rw [List.append_nil] at hb
  exact hb (by rw [<- r.length];exact F.len _ _ _ _ q)
 ·cases r with
  | error ev=>exact ⟨σ,H1,s1,J,hq⟩
  | ok fl=>
   cases fl with
   | ret u=>exact J.after hq
   | next=>exact False.elim hq
   | brk=>exact False.elim hq
   | cont=>exact False.elim hq
theorem one_px (h:PX X st τ) (I:Inv X pins σ H s) (q:τ G D σ H):wpAny (model X.prog X.w) X.A (execs [st] X.env) (SP X pins D) (d_L X pins G) s:=by
 refine wpAny_execs_cons (thn (h pins s σ H D G I q) fun f s1 q=>?_)
 cases f with
 | next=>exact wpAny_execs_nil q
 | ret v=>exact q
 | brk=>exact q
 | cont=>exact q
end
end L2
namespace L2
open PySem PySem.Spec PySem.W PyProof.Rows Builtin Builtin.ObjectAttr
def rNeL (K:Frag):R2:=fun x y H Q=>∃p q xs,x=.ref p/\y=.ref q/\SqL K H p xs/\SqL K H q xs/\xs.all flatV=true/\Q (.bl false) H
theorem op_neL (hu:X.A.units<cLine):OpR X (compareOp .NotEq) (rNeL X.K):=by
 intro pins s σ H x y v u Q I rx ry h
 obtain ⟨p,q,xs,rfl,rfl,hp,hq,hf,k⟩:=h
 cases rx
 cases ry
 obtain ⟨its,r1,pl1,hz1⟩:=I.list hp
 obtain ⟨its2,r2,pl2,hz2⟩:=I.list hq
 have l1:=r1.length
 have l2:=r2.length
 refine SeqAt.RcNeAt.lists (e:=fun _=>true) pl1.isList pl2.isList (by simp;omega) hu (fun j h1 h2=>?_) _ _ _ _ ⟨.bl _,H,I,rfl,?_⟩
 ·have hj:j<xs.length:=by simp at h1;omega
  obtain ⟨a,ea,ra⟩:=r1.get (i:=j) (List.getElem?_eq_getElem hj)
  obtain ⟨b,eb,rb⟩:=r2.get (i:=j) (List.getElem?_eq_getElem hj)
  have fx:flatV xs[j]=true:=List.all_eq_true.mp hf _ (List.getElem_mem hj)
  have e:=eqAt_V (A:=X.A.in1) (s:=s) ra rb fx fx
  rw [eqV_same fx] at e
  obtain ⟨_,e1⟩:=List.getElem?_eq_some_iff.mp ea
  obtain ⟨_,e2⟩:=List.getElem?_eq_some_iff.mp eb
  simp only [List.getElem_toArray,e1,e2]
  exact e
 ·have:(!((List.range its.toArray.size).all fun _=>true))=false:=by simp
  rw [this]
  exact k
theorem call_lenW:c_s X (.builtin "len") (fun xs H Q=>∃d kvs,xs=[V.ref d]/\H d=some (hdO (b_c X.prog X.w) d kvs)/\Q (.int (kvs.length:Nat)) H):=by
 intro pins s σ H xs us Q I r h
 obtain ⟨d,kvs,rfl,e,q⟩:=h
 obtain ⟨u1,rfl,r1⟩:=c_K r
 cases r1
 obtain ⟨ns,hz,xs,rel,o,es,ep,h1,h2,h3,he,_⟩:=(I.hok d _ e).1
 have hs:es.size=kvs.length:=by rw [Paired.length rel,<- Array.length_toList,he,List.length_map]
 exact len_raw (X:=X) ns h1 h2 h3 (by omega) fun t t'=>⟨.int (kvs.length:Nat),H,I.tok _,⟨t,by rw [hs]⟩,q⟩
end L2
namespace RA
open PySem L2
def ManyA (L:List Nat) (W:List (List Nat)):Prop:=∃(ks ws:List (List Nat)) (n:Nat),Bf (gA W) L (List.range W.length) ks ws n 0/\40<ks.length
structure FewA (L:List Nat) (W ks ws:List (List Nat)):Prop where
 bf:Bf (gA W) L (List.range W.length) ks ws ks.length 0
 le:ks.length≤40
theorem FewA.uniq (h:FewA L W ks ws) (h':FewA L W ks' ws') (nd:L.Nodup):ks=ks'/\ws=ws':=Bf.uniq h.bf h'.bf nd
structure Told41 (L:List Nat) (W vs:List (List Nat)):Prop where
 len:vs.length=41
 wd:∀v∈vs,(∀c∈v,c∈L)/\v.length≤60
 nd:(vs.map (actN L W)).Nodup
theorem map_take_eq {ks ws:List (List Nat)} (hl:ks.length=ws.length) (h:∀(i:Nat) (k w:List Nat),ks[i]?=some k->ws[i]?=some w->f w=k) (n:Nat):(ws.take n).map f=ks.take n:=by
 refine List.ext_getElem? fun i=>?_
 rw [List.getElem?_map,List.getElem?_take,List.getElem?_take]
 split
 ·by_cases hi:i<ws.length
  ·have hk:i<ks.length:=by omega
   rw [List.getElem?_eq_getElem hi,List.getElem?_eq_getElem hk,Option.map_some,h i _ _ (List.getElem?_eq_getElem hk) (List.getElem?_eq_getElem hi)]
  ·rw [List.getElem?_eq_none (by omega),List.getElem?_eq_none (by omega)]
   rfl
 ·rfl
theorem told41 (bf:Bf (gA W) L (List.range W.length) ks ws n 0) (h:40<ks.length):Told41 L W (ws.take 41):=by
 have hl:=bf.len
 refine ⟨by rw [List.length_take];omega,fun v hv=>?_,?_⟩
 ·obtain ⟨i,hi⟩:=List.mem_iff_getElem?.mp hv
  rw [List.getElem?_take] at hi
  split at hi
  ·rename_i h41
   have hk:i<ks.length:=by rw [hl];exact (List.getElem?_eq_some_iff.mp hi).1
   have:=bf_place bf (i+1) i v (Nat.lt_succ_self i) hi
   exact ⟨(bf.lead i _ v (List.getElem?_eq_getElem hk) hi).1,by omega⟩
  ·cases hi
 ·rw [map_take_eq hl (fun i k w e1 e2=>by rw [<- (bf.lead i k w e1 e2).2];exact (c_T _ _ rfl).symm)]
  exact bf.nd.sublist (List.take_sublist _ _)
theorem none_X (s:c_g P0 H H') (hT:b_W H' P0 sites) (h:H' l=none):H l=none:=by
 cases z:H l with
 | none=>rfl
 | some o=>
  by_cases hlP:l=P0
  ·obtain ⟨ps,hP,_⟩:=hT
   rw [<- hlP,h] at hP
   cases hP
  ·rw [s l o hlP z] at h
   cases h
def XW (H H':Hp) (L:List Nat) (W:List (List Nat)) (d:Addr):Prop:=∃(l:Addr) (vs:List (List Nat)),Told41 L W vs/\H d=none/\H l=none/\H' d=some (dctD d [("words",.ref l)])/\H' l=some (.lst (wordsV vs))
def sp_xinit (cTG:Addr):Sp:=fun vs H Q _=>∃(e wl:Addr) (xs:List V),vs=[.ref e,.ref wl]/\H e=some (excD e cTG none)/\H wl=some (.lst xs)/\
 ∀(H':Hp) (d l:Addr),(∀b o,b≠e->H b=some o->H' b=some o)->H' e=some (excD e cTG (some d))->H d=none->H l=none->H' d=some (dctD d [("words",.ref l)])->H' l=some (.lst xs)->Q .non H'
def d_P (cW cTG P0:Addr) (sites:List (Pos×Str)):Sp:=fun vs H Q E=>∃(m:Addr) (L:List Nat) (W:List (List Nat)) (B:List Bool),vs=[.ref m]/\b_e H m L W B/\Mach L W B/\W.length≤8/\b_W H P0 sites/\(∀d H',ManyA L W->c_g P0 H H'->b_W H' P0 sites->XW H H' L W d->E (.ref cTG) (some d) H')/\
 ∀(wk t wd y md:Addr) (ks:List (List Nat)) (vks:List V) (ws:List (List Nat)) (rows:List Addr) (R:List (List Nat)) (Bm:List Bool) (H':Hp),c_g P0 H H'->b_W H' P0 sites->WalkAt H' cW wk L t wd y md->H' t=some (.lst vks)->e_v false H' ks vks->H' wd=some (.lst (wordsV ws))->H' y=some (.lst (rows.map V.ref))->WRows H' rows R->H' md=some (.lst (Bm.map V.bl))->
  FewA L W ks ws->e_o (gA W) L.length ks R->R.length=ks.length->Bm.length=R.length->Q (.ref wk) H'
theorem tab_get (s:c_g P0 H H') (hT:b_W H P0 sites) (e:H b=some o) (ho:∀ps,o≠.tbl ps):H' b=some o:=s b o (fun z=>by
 obtain ⟨ps,hP,_⟩:=hT
 rw [z,hP] at e
 cases e
 exact ho _ rfl) e
end RA
namespace L2
open PySem PySem.Spec PyProof.Rows
section
variable {X:Cx} {elt iter:Expr} {x y:Str} {px py pt pos:Pos} {kt:Nat} {sc:Scope} {wi:TI} {te:TE} {tt:TT} {ifs:List Expr}
def tComp2T (K:PySem.W.Frag) (wi:TI) (tt:TT) (te:TE):TE:=fun σ H Q=>wi σ H fun J H1=>∀D,H1 D=none->∃W:Nat->Nat->List V->Hp->Prop,
 (∃m,W 0 m [] (upd H1 D (.lst [])))/\∀i m ys H2,W i m ys H2->H2 D=some (.lst ys)/\((J.stop i H2/\Q (.ref D) H2)\/(J.go i H2/\ys.length<sizeLine/\∀x H3,J.yld i H2 x H3->
  ∃p a b,x=.ref p/\SqT K H3 p [a,b]/\tt (some a::some b::σ) H3 fun bo H4=>if bo=true then te (some a::some b::σ) H4 fun y H5=>H5 D=some (.lst ys)/\∃m',m'<m/\W (i+1) m' (ys++[y]) (upd H5 D (.lst (ys++[y]))) else ∃m',m'<m/\W (i+1) m' ys H4))
theorem e_F {st:Shared} (Z:Nat->Shared->Prop)
  (go:∀k t,Z k t->wpAny (model pg wd) B (pyNext gi) (fun r t1=>match r with
   | none=>Rf (.ok .next) t1
   | some u=>wpAny (model pg wd) B (letOwnedTupleGo tg gi u) (fun _ t2=>wpAny (model pg wd) B (assign tg en u) (fun _ t3=>
     wpAny (model pg wd) B (forIn ifs true fun c r=>if r=true then do let ok <- isTrue c en (eval c en);pure (ForInStep.yield ok) else pure (ForInStep.yield r)) (fun yes t4=>
      if yes=true then wpAny (model pg wd) B (eval elt en) (fun z t5=>wpAny (model pg wd) B (call (.builtin "list.append") [ga,z]) (fun _ t6=>∃j,j<k/\Z j t6) (notedBy (model pg wd) B en fun e s'=>Rf (.error e) s') t5) (notedBy (model pg wd) B en fun e s'=>Rf (.error e) s') t4
      else ∃j,j<k/\Z j t4) (notedBy (model pg wd) B en fun e s'=>Rf (.error e) s') t3) (notedBy (model pg wd) B en fun e s'=>Rf (.error e) s') t2) (notedBy (model pg wd) B en fun e s'=>Rf (.error e) s') t1) (notedBy (model pg wd) B en fun e s'=>Rf (.error e) s') t)
  (k:Nat) (hz:Z k st):codeAny (model pg wd) B (.compLoop (.ListComp elt [⟨tg,iter,ifs,0⟩] sc pos) 0 gi ga en) Rf st:=by
 have keep:∀{α:Type} {x:Sem α} {Q1 Q2:α->Shared->Prop} {N:Value->Shared->Prop} {t:Shared},wpAny (model pg wd) B x Q1 N t->(∀a t',Q1 a t'->Q2 a t')->wpAny (model pg wd) B x Q2 N t:=fun h f=>wpAny_mono h f fun _ _ z=>z
 refine codeAny_loop rfl Z (fun k t hk=>?_) k hz
 show wpAny _ B ((compTurn (.ListComp elt [⟨tg,iter,ifs,0⟩] sc pos) 0 gi ga en).onRaise fun x=>do noteFrame x en;theTreesLotGoes x) _ _ t
 refine wpAny_noted ?_
 rw [compTurn_list]
 refine wpAny_bind (wpAny_standAt (wpAny_bind (keep (go k t hk) fun r t1 h1=>?_)))
 match r,h1 with
 | none,h1=>exact wpAny_pure h1
 | some u,h1=>
  refine wpAny_bind (keep h1 fun _ t2 h2=>wpAny_bind (keep h2 fun _ t3 h3=>wpAny_bind (keep h3 fun yes t4 h4=>?_)))
  match yes,h4 with
  | false,h4=>exact wpAny_pure ⟨rfl,h4⟩
  | true,h4=>exact wpAny_bind (wpAny_bind (keep h4 fun z t5 h5=>wpAny_bind (keep h5 fun _ t6 h6=>wpAny_pure (wpAny_pure ⟨rfl,h6⟩))))
theorem pe_comp2T (N2:List Str) (hc:X.calm=true) (hN2:(x::y::N2).Nodup) (hi:PI X (.Tuple [.Name x px,.Name y py] kt pt) iter wi)
  (hb:∀(cl:List (Str×Addr)) (C:Addr) (fp:List Addr) (s:Shared) (H:Hp),PTs { cxComp X x sc cl C fp s H with N:=x::y::N2 } ifs tt/\PE { cxComp X x sc cl C fp s H with N:=x::y::N2 } elt te)
  (hx:sc.names.lookup x=some .local:=by rfl) (hy:sc.names.lookup y=some .local:=by rfl) (hkind:sc.kind=.function:=by rfl)
  (hnames:∀y∈sc.names,y.2=.local->sc.names.lookup y.1=some .local:=by decide +kernel) (hcell:∀y∈sc.names,y.2≠.cell:=by decide +kernel)
  (hfree:(sc.names.all fun y=>y.2 != .free || X.env.scope.names.lookup y.1==some .cell)=true:=by rfl)
  (hlo:(N2.all fun y=>sc.names.lookup y != some .local)=true:=by rfl) (hl2:N2.length=X.N.length:=by rfl) (hz2:((N2.zip X.N).all fun y=>y.1==y.2 || sc.names.lookup y.1==none)=true:=by rfl)
  (hs:∀x,foldedSetIterable iter X.env x=pure x:=by intro _;rfl):
  PE X (.ListComp elt [⟨.Tuple [.Name x px,.Name y py] kt pt,iter,ifs,0⟩] sc pos) (tComp2T X.K wi tt te):=by
 intro pins s σ H Q I h
 have hfr:∀y∈sc.names,y.2=.free->X.env.kindOf y.1=some .cell:=fun y hy e=>by
  have q:=List.all_eq_true.mp hfree y hy
  rw [e] at q
  simpa [Env.kindOf] using q
 have hlo':∀y∈N2,sc.names.lookup y≠some .local:=fun y hy e=>by
  have q:=List.all_eq_true.mp hlo y hy
  rw [e] at q
  simp at q
 obtain ⟨cl,hclos,hsub,hhas⟩:=b_R (env:=X.env) (sc:=sc) fun y hy e=>I.ok.has y.1 (.inl (hfr y hy e))
 rw [eval_ListComp]
 refine wpAny_comprehension_free (use:=none) rfl hs hclos hkind hnames (thn (hi pins s σ H _ I h) fun v s1 h1=>thn h1 fun itv s2 h2=>?_)
 obtain ⟨it,fp,tn,J,H2,e,I2,T,st2,f2,hW⟩:=h2
 subst e
 have nobinds:∀y∈([]:List (Str×Value)),sc.names.lookup y.1=some .local:=fun y hy=>absurd hy (by simp)
 refine wpAny_newObj_type ?_
 refine wpAny_newFunctionEnv hcell nobinds (fun h₁ hns₁ hsb₁=>?_) hkind
 dsimp only at hns₁ hsb₁ ⊢
 generalize hHa:s2.heap.push { cls:=.type "list",dict:=none,data:=.seq ([]:List Value).toArray }=Ha at hns₁ hsb₁ ⊢
 have hC:Ha.objs.size=s2.heap.objs.size+1:=by rw [<- hHa,Heap.size_push]
 have hDC:s2.heap.objs.size≠Ha.objs.size:=by rw [hC];exact Nat.ne_of_lt (Nat.lt_succ_self _)
 have hCle:s2.heap.objs.size≤Ha.objs.size:=by rw [hC];exact Nat.le_succ _
 have neC:∀b o,s2.heap.get? b=some o->b≠Ha.objs.size:=fun b o e=>Nat.ne_of_lt (Nat.lt_of_lt_of_le (Heap.lt_size e) hCle)
 have old:∀b o,s2.heap.get? b=some o->h₁.get? b=some o:=fun b o e=>hsb₁.extBut b o (neC b o e) (Heap.get?_push_of_some _ (hHa▸Heap.get?_push_of_some _ e))
 have hacc:h₁.get? s2.heap.objs.size=some { cls:=.type "list",dict:=none,data:=.seq ([]:List Value).toArray }:=hsb₁.extBut _ _ hDC (Heap.get?_push_of_some _ (hHa▸Heap.get?_push_size _ rfl))
 generalize hDe:s2.heap.objs.size=D at *
 generalize hCe:Ha.objs.size=C at *
 have hHD:H2 D=none:=I2.hok.fresh (Nat.le_of_eq hDe)
 have hHC:H2 C=none:=I2.hok.fresh (by omega)
 obtain ⟨W,⟨m0,w0⟩,turn⟩:=hW D hHD
 have fplt:∀b∈fp,b<D:=fun b hb=>by
  obtain ⟨o,e,_⟩:=T.obj _ _ st2 b hb
  rw [<- hDe]
  exact Heap.lt_size e
 let X':Cx:={ cxComp X x sc cl C fp s2 H2 with N:=x::y::N2 }
 have nofs:∀b∈fp,b∉frs X.stack:=fun b hb z=>by
  rcases List.mem_cons.mp (I2.stkSub b z) with e | e
  ·exact (f2 b hb).2.1 e
  ·exact (f2 b hb).2.2.1 e
 have ok':X'.Ok:=by
  refine ⟨I2.ok.mod,hkind,I2.ok.glob,I2.ok.blt,?_,fun y z c e1 e2=>I2.ok.inj y z c (hsub y c e1) (hsub z c e2),fun y hy=>?_,fun y c e=>absurd (show false=true from e) Bool.false_ne_true,I2.ok.hd,I2.ok.frames,.inl rfl,fun b hb=>⟨?_,fun y c e=>?_⟩,I2.bs,
   Nat.le_trans I2.ok.bsz I2.sz,fun b o e hb=>?_,nofs,I2.stack,I2.stkFree⟩
  ·show s2.heap.objs.size≤C
   omega
  ·rcases hy with hy | hy
   ·rcases relabel_lookup (show (relabel sc X.env).names.lookup y=some .cell from hy) with e | ⟨_,e,_⟩
    ·exact absurd rfl (hcell _ (PySem.mem_of_lookup e))
    ·exact hhas _ (PySem.mem_of_lookup e) rfl
   ·rcases relabel_lookup (show (relabel sc X.env).names.lookup y=some .free from hy) with e | ⟨e,_⟩
    ·exact hhas _ (PySem.mem_of_lookup e) rfl
    ·cases e
  ·exact Nat.ne_of_lt (Nat.lt_of_lt_of_le (fplt b hb) (by omega:D≤C))
  ·exact (f2 b hb).2.2.2.2.1 y c (hsub y c e)
  ·rcases (f2 b hb).2.2.2.1 with z | z
   ·exact I2.ok.noex b o e z
   ·exact absurd (Nat.lt_of_lt_of_le (Nat.lt_of_lt_of_le (Heap.lt_size e) I2.ok.bsz) z) (Nat.lt_irrefl _)
 have I4:∀tk,Inv X' [] (none::none::σ) (upd H2 D (.lst [])) { s2 with heap:=h₁,toks:=tk }:=fun tk=>by
  refine ⟨ok',rfl,I2.bare,Un.laid old (Nat.le_of_eq hDe) hHD,⟨_,hns₁,fun i y' v e1 e2 e3=>?_⟩,fun y c e=>?_,?_,fun y c e=>?_,fun p hp=>?_,I2.hok.laid old (Nat.le_of_eq hDe) ?_,?_⟩
  ·match i,e1,e2 with
   | 0,e1,e2=>simp at e2
   | 1,e1,e2=>simp at e2
   | i+2,e1,e2=>
    have e0:N2[i]?=some y':=by simpa [X',cxComp] using e1
    have e2:σ[i]?=some (some v):=by simpa using e2
    have e3:Vis (relabel sc X.env) y':=e3
    have hyN:y'∈N2:=List.mem_of_getElem? e0
    have free:sc.names.lookup y'=some .free/\(relabel sc X.env).names.lookup y'≠some .local:=by
     rcases e3 with e | e | e
     ·rcases relabel_lookup e with q | ⟨q,_⟩
      ·exact absurd q (hlo' y' hyN)
      ·cases q
     ·rcases relabel_lookup e with q | ⟨_,q,_⟩
      ·exact absurd rfl (hcell _ (PySem.mem_of_lookup q))
      ·exact ⟨q,by rw [e];decide⟩
     ·rcases relabel_lookup e with q | ⟨q,_⟩
      ·exact ⟨q,by rw [e];decide⟩
      ·cases q
    have e1:X.N[i]?=some y':=by
     have hi:i<N2.length:=(List.getElem?_eq_some_iff.mp e0).1
     have hi2:i<X.N.length:=by omega
     have hm:(y',X.N[i])∈N2.zip X.N:=by
      have hz:(N2.zip X.N)[i]?=some (y',X.N[i]):=by
       rw [List.getElem?_zip_eq_some]
       exact ⟨e0,List.getElem?_eq_getElem hi2⟩
      exact List.mem_of_getElem? hz
     have q:=List.all_eq_true.mp hz2 _ hm
     rcases Bool.or_eq_true_iff.mp q with q | q
     ·have:y'=X.N[i]:=eq_of_beq q
      rw [List.getElem?_eq_getElem hi2,<- this]
     ·have q2:sc.names.lookup y'=none:=by simpa using q
      rw [free.1] at q2
      cases q2
    have kc:X.env.kindOf y'=some .cell:=hfr _ (PySem.mem_of_lookup free.1) rfl
    obtain ⟨m,hn,hl⟩:=I2.loc
    obtain ⟨u,ru,lk⟩:=hl i y' v e1 e2 (.inr (.inl kc))
    rcases lk with ⟨q,_⟩ | ⟨_,c,hcc,⟨o,ho,hd⟩⟩
    ·rw [kc] at q;cases q
    ·obtain ⟨c',hc'⟩:=hhas _ (PySem.mem_of_lookup free.1) rfl
     have e4:=hsub _ _ hc'
     rw [hcc] at e4
     cases e4
     refine ⟨u,ru,.inr ⟨?_,c,hc',⟨o,old c o ho,hd⟩⟩⟩
     rcases e3 with e | e | e
     ·exact absurd e free.2
     ·exact .inl e
     ·exact .inr e
  ·obtain ⟨v,o,ho,hd⟩:=I2.cell y c (hsub y c e)
   exact ⟨v,o,old c o ho,hd⟩
  ·show upd H2 D (.lst []) C=none
   rw [upd_ne (neA (by omega))]
   exact hHC
  ·obtain ⟨v,o,ho,hd⟩:=I2.cell y c (hsub y c e)
   have hlt:=Heap.lt_size ho
   rw [hDe] at hlt
   show upd H2 D (.lst []) c=none
   rw [upd_ne (Nat.ne_of_lt hlt)]
   exact I2.freeC y c (hsub y c e)
  ·exact absurd (show p∈([]:List (Addr×Obj)) from hp) (by simp)
  ·exact ⟨Nat.zero_le _,[],0,.nil,hacc⟩
  ·show (none::none::σ).length=(x::y::N2).length
   rw [List.length_cons,List.length_cons,List.length_cons,List.length_cons,I2.len,hl2]
 have hN':X'.N.Nodup:=hN2
 have hx':X'.env.scope.names.lookup x=some .local:=lookup_relabel_local hx
 have hy':X'.env.scope.names.lookup y=some .local:=lookup_relabel_local hy
 obtain ⟨PT',PE'⟩:=hb cl C fp s2 H2
 have PG':PG X' (.Tuple [.Name x px,.Name y py] kt pt) (gTup X.K 2 (gCons (c_n 0) (gCons (c_n 1) gNil))):=e_C hc (b_b (a_r (X:=X') (i:=0) hN' rfl (.inl hx') (.inr hx')) (b_b (a_r (X:=X') (i:=1) hN' rfl (.inl hy') (.inr hy')) d_r))
 have fpX:∀{pins':List (Addr×Obj)} {H':Hp},(∀b∈fp,H' b=none)->(∀p∈pins',p.1∉fp)->∀b∈fp,FpOk X' pins' H' b:=fun hn hp b hb=>by
  refine ⟨hn b hb,?_,nofs b hb,.inl hb,fun y c e=>(f2 b hb).2.2.2.2.1 y c (hsub y c e),fun p q z=>?_⟩
  ·exact Nat.ne_of_lt (Nat.lt_of_lt_of_le (fplt b hb) (by omega:D≤C))
  ·rcases List.mem_append.mp q with q | q
   ·exact absurd (show p∈([]:List (Addr×Obj)) from q) (by simp)
   ·exact hp p q (by rw [z];exact hb)
 have loop:∀tk,codeAny (model X.prog X.w) X.A (.compLoop (.ListComp elt [⟨.Tuple [.Name x px,.Name y py] kt pt,iter,ifs,0⟩] sc pos) 0 (.ref it) (.ref D) (compEnvC sc cl C X.env)) (compPost (model X.prog X.w) X.A X.xe none (EP X pins σ Q) (.ref D) C) { s2 with heap:=h₁,toks:=tk }:=fun tk=>by
  refine e_F (fun n s'=>∃i ys o o' H',Inv X' [] (o::o'::σ) H' s'/\tn i s'.heap/\(∀b∈fp,H' b=none)/\W i n ys H') ?_ m0 ⟨0,[],none,none,_,I4 tk,T.keep _ _ _ st2 fun b hb o e=>old b o e,fun b hb=>?_,w0⟩
  ·rintro n s3 ⟨i,ys,o3,o4,H3,I3,st3,fr3,w3⟩
   obtain ⟨hD3,alt⟩:=turn i n ys H3 w3
   rcases alt with ⟨stop,qn⟩ | ⟨go,hlen,step⟩
   ·refine wpAny_mono (T.done X' rfl rfl rfl hc i [] s3 _ H3 (fun _ _=>False) I3 (fpX fr3 (by simp)) st3 stop) (fun r s4 hpq=>?_) fun _ _ f=>f.elim
    obtain ⟨hr,I4'⟩:=hpq
    subst hr
    obtain ⟨mC,hnC,_⟩:=I4'.loc
    refine ⟨mC,hnC,fun h' hs'=>?_⟩
    have nC:∀b u,H3 b=some u->b≠C:=fun b u e z=>by rw [z] at e;rw [show H3 C=none from I4'.free] at e;cases e
    have hok':HOk X.prog X.w H3 h':=fun b u e=>(I4'.hok b u e).stay (fun c v hcc q=>hs'.extBut c v (by
     rcases hcc with z | z
     ·rw [z];exact nC b u e
     ·exact nC c _ z) q) (fun _ q=>q) fun _ _ q=>q
    have un:Un (frs X.stack) fp H2 H3 s2.heap h':=
     ⟨fun b o e n1 n2 n3=>hs'.extBut b o (neC b o e) (I4'.base.keep b o e n1 n2 n3),fun b o e n1 n2 n3=>by
       obtain ⟨sl,q⟩:=I4'.base.slot b o e n1 n2 n3
       exact ⟨sl,hs'.extBut b _ (neC b o e) q⟩,I4'.base.free,fun b o e n1=>by
       obtain ⟨o',q⟩:=I4'.base.there b o e n1
       exact ⟨o',hs'.extBut b _ (neC b o e) q⟩,I4'.base.tups,I4'.base.frzs,I4'.base.tbls⟩
    exact ⟨.ref D,H3,I2.call' (s':={ s4 with heap:=h' }) I4'.os un hok' I4'.bare fun b hb=>⟨(f2 b hb).2.2.2.1,(f2 b hb).2.1,(f2 b hb).2.2.2.2.1,(f2 b hb).2.2.2.2.2⟩,rfl,qn⟩
   ·refine wpAny_mono (T.item X' rfl rfl rfl hc i [] s3 _ H3 (fun _ _=>False) I3 (fpX fr3 (by simp)) st3 go) (fun r s4 hpq=>?_) fun _ _ f=>f.elim
    obtain ⟨u,hr,h4⟩:=hpq
    subst hr
    refine wpAny_mono h4 (fun _ s5 hpq=>?_) fun _ _ f=>f.elim
    obtain ⟨z,H5,I5,r5,y5,st5,fr5⟩:=hpq
    have I5':=I5.pinned (fpX fr5 (by simp)) (T.obj _ _ st5)
    obtain ⟨p,a1,a2,rfl,hp,hte⟩:=step z _ y5
    refine wpAny_mono (PG' _ s5 _ H5 (.ref p) u (fun σ' H'=>σ'=some a1::some a2::σ/\H'=H5) I5' r5 ⟨p,_,rfl,hp,rfl,_,_,rfl,_,_,rfl,rfl,rfl,rfl⟩) (fun _ s6 hpq=>?_) fun _ _ f=>f.elim
    obtain ⟨σ6,H6,I6,e1,e2⟩:=hpq
    subst e1 e2
    refine wpAny_mono (PT' _ s6 _ _ _ I6 hte) (fun yes s7 hpq=>?_) fun _ _ f=>f.elim
    obtain ⟨H7,I7,q7⟩:=hpq
    cases yes with
    | false=>
     obtain ⟨m',hm,w8⟩:=q7
     refine ⟨m',hm,i+1,ys,some a1,some a2,_,I7.unpinned,T.keep _ _ _ st5 fun b hb o e=>(I7.pin (b,o) (List.mem_append_right _ (List.mem_append_right _ (a_v hb e)))).1,fun b hb=>?_,w8⟩
     obtain ⟨o,e,d⟩:=T.obj _ _ st5 b hb
     exact (I7.pin (b,o) (List.mem_append_right _ (List.mem_append_right _ (a_v hb e)))).2.1
    | true=>
    refine wpAny_mono (PE' _ s7 _ _ _ I7 q7) (fun z s8 hpq=>?_) fun _ _ f=>f.elim
    obtain ⟨yv,H8,I8,r8,hD8,q8⟩:=hpq
    refine wpAny_mono (a_x (X:=X') _ s8 _ H8 (.ref D) [yv] (.ref D) [z] (fun _ H9=>H9=upd H8 D (.lst (ys++[yv]))) I8 rfl (.cons r8 .nil) ⟨D,ys,yv,rfl,rfl,hD8,hlen,rfl⟩) (fun _ s9 hpq=>?_) fun _ _ f=>f.elim
    obtain ⟨_,H9,I9,_,e9⟩:=hpq
    subst e9
    obtain ⟨m',hm,w8⟩:=q8
    refine ⟨m',hm,i+1,_,some a1,some a2,_,I9.unpinned,T.keep _ _ _ st5 fun b hb o e=>(I9.pin (b,o) (List.mem_append_right _ (List.mem_append_right _ (a_v hb e)))).1,fun b hb=>?_,w8⟩
    obtain ⟨o,e,d⟩:=T.obj _ _ st5 b hb
    exact (I9.pin (b,o) (List.mem_append_right _ (List.mem_append_right _ (a_v hb e)))).2.1
  ·show upd H2 D (.lst []) b=none
   rw [upd_ne (Nat.ne_of_lt (fplt b hb))]
   exact (f2 b hb).1
 exact codeAny_compStart_list (loop _) (T.self _ _ _ _ _ (T.keep _ _ _ st2 fun b hb o e=>old b o e) (loop _))
end
theorem e_l {K:PySem.W.Frag} {J:It} {tt:TT} {te:TE} {σ:St} {Q:VK} (Pr:Nat->V->V->Prop) (Pv:Addr->Nat->List V->Hp->Prop) (hz:n≤sizeLine)
  (j1:∀i H2,Same H H2->i<n->J.go i H2) (j2:∀i H2 x H3,Same H H2->i<n->J.yld i H2 x H3->∃p a b,x=.ref p/\Pr i a b/\H2 p=none/\H3=upd H2 p (.tup [a,b])) (j3:∀H2,Same H H2->J.stop n H2)
  (h0:∀D,H D=none->Pv D 0 [] (upd H D (.lst [])))
  (hs:∀(D:Addr) (i:Nat) (a b:V) (ys:List V) (H' H3:Hp) (R1:VK) (R2:Hp->Prop),H D=none->i<n->Pr i a b->Same H H'->H' D=some (.lst ys)->Pv D i ys H'->Same H' H3->
   (∀y H5,H5 D=some (.lst ys)->Same H (upd H5 D (.lst (ys++[y])))->Pv D (i+1) (ys++[y]) (upd H5 D (.lst (ys++[y])))->R1 y H5)->(∀H4,Same H H4->H4 D=some (.lst ys)->Pv D (i+1) ys H4->R2 H4)->
   tt (some a::some b::σ) H3 fun c H4=>if c=true then te (some a::some b::σ) H4 R1 else R2 H4)
  (hq:∀D ys H',H D=none->Same H H'->H' D=some (.lst ys)->Pv D n ys H'->Q (.ref D) H'):∀D,H D=none->∃W:Nat->Nat->List V->Hp->Prop,
   (∃m,W 0 m [] (upd H D (.lst [])))/\∀i m ys H2,W i m ys H2->H2 D=some (.lst ys)/\((J.stop i H2/\Q (.ref D) H2)\/(J.go i H2/\ys.length<sizeLine/\∀x H3,J.yld i H2 x H3->
    ∃p a b,x=.ref p/\SqT K H3 p [a,b]/\tt (some a::some b::σ) H3 fun bo H4=>if bo=true then te (some a::some b::σ) H4 fun y H5=>H5 D=some (.lst ys)/\∃m',m'<m/\W (i+1) m' (ys++[y]) (upd H5 D (.lst (ys++[y]))) else ∃m',m'<m/\W (i+1) m' ys H4)):=by
 intro D hD
 refine ⟨fun i m ys H2=>m=n - i/\i≤n/\ys.length≤i/\Same H H2/\H2 D=some (.lst ys)/\Pv D i ys H2,⟨n,by simp,Nat.zero_le _,by simp,Same.upd hD,upd_same,h0 D hD⟩,?_⟩
 rintro i m ys H2 ⟨rfl,hi,hy,hsm,hDl,hp⟩
 refine ⟨hDl,?_⟩
 by_cases hlt:i<n
 ·refine .inr ⟨j1 i H2 hsm hlt,Nat.lt_of_le_of_lt hy (Nat.lt_of_lt_of_le hlt hz),fun x H3 hyl=>?_⟩
  obtain ⟨p,a,b,rfl,hab,hpn,rfl⟩:=j2 i H2 x H3 hsm hlt hyl
  exact ⟨p,a,b,rfl,SqT.of upd_same,hs D i a b ys H2 _ _ _ hD hlt hab hsm hDl hp (Same.upd hpn) (fun y H5 e1 e2 e3=>⟨e1,n - (i+1),Nat.sub_succ_lt_self _ _ hlt,rfl,hlt,by rw [List.length_append];exact Nat.succ_le_succ hy,e2,upd_same,e3⟩) (fun H4 e1 e2 e3=>⟨n - (i+1),Nat.sub_succ_lt_self _ _ hlt,rfl,hlt,Nat.le_succ_of_le hy,e1,e2,e3⟩)⟩
 ·have e:i=n:=Nat.le_antisymm hi (Nat.le_of_not_lt hlt)
  subst e
  exact .inl ⟨j3 H2 hsm,hq D ys H2 hD hsm hDl hp⟩
end L2
namespace RA
open PySem L2
theorem d_B {K:PySem.W.Frag} {σ:St} (ht:∀R:List V->Hp->Prop,R [.ref c] H->t σ H R) (ho:o=.lst xs\/o=.tup xs) (hH:H c=some o) (Pv:Addr->Nat->List V->Hp->Prop) (hz:xs.length≤sizeLine)
  (h0:∀D,H D=none->Pv D 0 [] (L2.upd H D (.lst [])))
  (hs:∀(D:Addr) (i:Nat) (x:V) (ys:List V) (H' H3:Hp) (R1:VK) (R2:Hp->Prop),H D=none->xs[i]?=some x->Same H H'->H' D=some (.lst ys)->Pv D i ys H'->Same H' H3->
   (∀y H5,H5 D=some (.lst ys)->Same H (L2.upd H5 D (.lst (ys++[y])))->Pv D (i+1) (ys++[y]) (L2.upd H5 D (.lst (ys++[y])))->R1 y H5)->(∀H4,Same H H4->H4 D=some (.lst ys)->Pv D (i+1) ys H4->R2 H4)->
   tt (some (.int (i:Int))::some x::σ) H3 fun c H4=>if c=true then te (some (.int (i:Int))::some x::σ) H4 R1 else R2 H4)
  (hq:∀D ys H',H D=none->Same H H'->H' D=some (.lst ys)->Pv D xs.length ys H'->Q (.ref D) H'):tComp2T K (iEnumQ t) tt te σ H Q:=by
 have hs':∀(D:Addr) (i:Nat) (a b:V) (ys:List V) (H' H3:Hp) (R1:VK) (R2:Hp->Prop),H D=none->i<xs.length->(a=.int (i:Int)/\xs[i]?=some b)->Same H H'->H' D=some (.lst ys)->Pv D i ys H'->Same H' H3->
   (∀y H5,H5 D=some (.lst ys)->Same H (L2.upd H5 D (.lst (ys++[y])))->Pv D (i+1) (ys++[y]) (L2.upd H5 D (.lst (ys++[y])))->R1 y H5)->(∀H4,Same H H4->H4 D=some (.lst ys)->Pv D (i+1) ys H4->R2 H4)->
   tt (some a::some b::σ) H3 fun c H4=>if c=true then te (some a::some b::σ) H4 R1 else R2 H4:=by
  rintro D i a b ys H' H3 R1 R2 hD _ ⟨rfl,hb⟩ a1 a2 a3 a4 a5 a6
  exact hs D i b ys H' H3 R1 R2 hD hb a1 a2 a3 a4 a5 a6
 refine ht _ ⟨c,xs,rfl,?_⟩
 rcases ho with rfl | rfl
 ·refine .inr ⟨hH,e_l (K:=K) (n:=xs.length) (fun i a b=>a=.int (i:Int)/\xs[i]?=some b) Pv hz (fun i H2 s h=>⟨xs,xs[i],s _ _ hH,List.getElem?_eq_getElem h⟩) ?_ (fun H2 s=>⟨xs,s _ _ hH,rfl⟩) h0 hs' hq⟩
  rintro i H2 x H3 s h ⟨p,y,zs,e1,e2,e3,e4,e5⟩
  rw [s _ _ hH] at e1
  cases e1
  exact ⟨p,_,y,e3,⟨rfl,e2⟩,e4,e5⟩
 ·refine .inl ⟨hH,e_l (K:=K) (n:=xs.length) (fun i a b=>a=.int (i:Int)/\xs[i]?=some b) Pv hz (fun i H2 s h=>⟨xs,xs[i],s _ _ hH,List.getElem?_eq_getElem h⟩) ?_ (fun H2 s=>⟨xs,s _ _ hH,rfl⟩) h0 hs' hq⟩
  rintro i H2 x H3 s h ⟨p,y,zs,e1,e2,e3,e4,e5⟩
  rw [s _ _ hH] at e1
  cases e1
  exact ⟨p,_,y,e3,⟨rfl,e2⟩,e4,e5⟩
end RA
namespace L2
open PySem PySem.Spec PyProof.Rows
section
variable {X:Cx} {elt iter:Expr} {x y:Str} {px py pt pos:Pos} {kt:Nat} {sc:Scope} {wi:TI} {te:TE} {tt:TT} {ifs:List Expr}
theorem comp_used3 (hsw:swapsWith (.ListComp elt [⟨.Tuple [.Name x px,.Name y py] kt pt,iter,ifs,0⟩] sc pos) (some (.Name y0 py0)) spos.line env=pure true)
  (h:∀p,wpAny M A (comprehension (.ListComp elt [⟨.Tuple [.Name x px,.Name y py] kt pt,iter,ifs,0⟩] sc pos) sc env p (newList []) false (eval iter env) (some (assign (.Name y0 py0) env))) (fun _ s'=>Q .next s') E s):
  wpAny M A (exec (.Assign [.Name y0 py0] (.ListComp elt [⟨.Tuple [.Name x px,.Name y py] kt pt,iter,ifs,0⟩] sc pos) spos) env) Q E s:=by
 have used:wpAny M A (evalThenUse (.ListComp elt [⟨.Tuple [.Name x px,.Name y py] kt pt,iter,ifs,0⟩] sc pos) env (assign (.Name y0 py0) env)) (fun _ s'=>Q .next s') E s:=
  wpAny_bind (wpAny_mono (h iter.pos) (fun _ _ q=>wpAny_pure q) fun _ _ e=>e)
 have one:=exec_Assign_Name_used (env:=env) y0 py0 (.ListComp elt [⟨.Tuple [.Name x px,.Name y py] kt pt,iter,ifs,0⟩] sc pos) spos hsw
 exact one▸wpAny_bind (wpAny_standAt (wpAny_bind (wpAny_mono used (fun _ _ q=>wpAny_pure q) fun _ _ e=>e)))
theorem ps_setComp2T (N2:List Str) {py0 spos:Pos} (hc:X.calm=true) (hN:X.N.Nodup) (hj:X.N[j]?=some y0) (hyl:Loc X.env.scope y0) (hN2:(x::y::N2).Nodup) (hi:PI X (.Tuple [.Name x px,.Name y py] kt pt) iter wi)
  (hb:∀(cl:List (Str×Addr)) (C:Addr) (fp:List Addr) (s:Shared) (H:Hp),PTs { cxComp X x sc cl C fp s H with N:=x::y::N2 } ifs tt/\PE { cxComp X x sc cl C fp s H with N:=x::y::N2 } elt te)
  (hx:sc.names.lookup x=some .local:=by rfl) (hy:sc.names.lookup y=some .local:=by rfl) (hkind:sc.kind=.function:=by rfl)
  (hnames:∀y∈sc.names,y.2=.local->sc.names.lookup y.1=some .local:=by decide +kernel) (hcell:∀y∈sc.names,y.2≠.cell:=by decide +kernel)
  (hfree:(sc.names.all fun y=>y.2 != .free || X.env.scope.names.lookup y.1==some .cell)=true:=by rfl)
  (hlo:(N2.all fun y=>sc.names.lookup y != some .local)=true:=by rfl) (hl2:N2.length=X.N.length:=by rfl) (hz2:((N2.zip X.N).all fun y=>y.1==y.2 || sc.names.lookup y.1==none)=true:=by rfl)
  (hs:∀x,foldedSetIterable iter X.env x=pure x:=by intro _;rfl) (hsw:swapsWith (.ListComp elt [⟨.Tuple [.Name x px,.Name y py] kt pt,iter,ifs,0⟩] sc pos) (some (.Name y0 py0)) spos.line X.env=pure true:=by rfl)
  (hfy:X.fn y0=true\/X.env.scope.names.lookup y0=some .local:=by first | exact .inl rfl | exact .inr rfl):
  PS X (.Assign [.Name y0 py0] (.ListComp elt [⟨.Tuple [.Name x px,.Name y py] kt pt,iter,ifs,0⟩] sc pos) spos) (tAsg (tComp2T X.K wi tt te) (c_n j)):=by
 intro pins s σ H DD I h
 have hfr:∀y∈sc.names,y.2=.free->X.env.kindOf y.1=some .cell:=fun y hy e=>by
  have q:=List.all_eq_true.mp hfree y hy
  rw [e] at q
  simpa [Env.kindOf] using q
 have hlo':∀y∈N2,sc.names.lookup y≠some .local:=fun y hy e=>by
  have q:=List.all_eq_true.mp hlo y hy
  rw [e] at q
  simp at q
 obtain ⟨cl,hclos,hsub,hhas⟩:=b_R (env:=X.env) (sc:=sc) fun y hy e=>I.ok.has y.1 (.inl (hfr y hy e))
 refine comp_used3 hsw fun _=>wpAny_comprehension_free (Q:=fun _ s'=>SP X pins DD .next s') rfl hs hclos hkind hnames (thn (hi pins s σ H _ I h) fun v s1 h1=>thn h1 fun itv s2 h2=>?_)
 obtain ⟨it,fp,tn,J,H2,e,I2,T,st2,f2,hW⟩:=h2
 subst e
 have nobinds:∀y∈([]:List (Str×Value)),sc.names.lookup y.1=some .local:=fun y hy=>absurd hy (by simp)
 refine wpAny_newObj_type ?_
 refine wpAny_newFunctionEnv hcell nobinds (fun h₁ hns₁ hsb₁=>?_) hkind
 dsimp only at hns₁ hsb₁ ⊢
 generalize hHa:s2.heap.push { cls:=.type "list",dict:=none,data:=.seq ([]:List Value).toArray }=Ha at hns₁ hsb₁ ⊢
 have hC:Ha.objs.size=s2.heap.objs.size+1:=by rw [<- hHa,Heap.size_push]
 have hDC:s2.heap.objs.size≠Ha.objs.size:=by rw [hC];exact Nat.ne_of_lt (Nat.lt_succ_self _)
 have hCle:s2.heap.objs.size≤Ha.objs.size:=by rw [hC];exact Nat.le_succ _
 have neC:∀b o,s2.heap.get? b=some o->b≠Ha.objs.size:=fun b o e=>Nat.ne_of_lt (Nat.lt_of_lt_of_le (Heap.lt_size e) hCle)
 have old:∀b o,s2.heap.get? b=some o->h₁.get? b=some o:=fun b o e=>hsb₁.extBut b o (neC b o e) (Heap.get?_push_of_some _ (hHa▸Heap.get?_push_of_some _ e))
 have hacc:h₁.get? s2.heap.objs.size=some { cls:=.type "list",dict:=none,data:=.seq ([]:List Value).toArray }:=hsb₁.extBut _ _ hDC (Heap.get?_push_of_some _ (hHa▸Heap.get?_push_size _ rfl))
 generalize hDe:s2.heap.objs.size=D at *
 generalize hCe:Ha.objs.size=C at *
 have hHD:H2 D=none:=I2.hok.fresh (Nat.le_of_eq hDe)
 have hHC:H2 C=none:=I2.hok.fresh (by omega)
 obtain ⟨W,⟨m0,w0⟩,turn⟩:=hW D hHD
 have fplt:∀b∈fp,b<D:=fun b hb=>by
  obtain ⟨o,e,_⟩:=T.obj _ _ st2 b hb
  rw [<- hDe]
  exact Heap.lt_size e
 let X':Cx:={ cxComp X x sc cl C fp s2 H2 with N:=x::y::N2 }
 have nofs:∀b∈fp,b∉frs X.stack:=fun b hb z=>by
  rcases List.mem_cons.mp (I2.stkSub b z) with e | e
  ·exact (f2 b hb).2.1 e
  ·exact (f2 b hb).2.2.1 e
 have ok':X'.Ok:=by
  refine ⟨I2.ok.mod,hkind,I2.ok.glob,I2.ok.blt,?_,fun y z c e1 e2=>I2.ok.inj y z c (hsub y c e1) (hsub z c e2),fun y hy=>?_,fun y c e=>absurd (show false=true from e) Bool.false_ne_true,I2.ok.hd,I2.ok.frames,.inl rfl,fun b hb=>⟨?_,fun y c e=>?_⟩,I2.bs,
   Nat.le_trans I2.ok.bsz I2.sz,fun b o e hb=>?_,nofs,I2.stack,I2.stkFree⟩
  ·show s2.heap.objs.size≤C
   omega
  ·rcases hy with hy | hy
   ·rcases relabel_lookup (show (relabel sc X.env).names.lookup y=some .cell from hy) with e | ⟨_,e,_⟩
    ·exact absurd rfl (hcell _ (PySem.mem_of_lookup e))
    ·exact hhas _ (PySem.mem_of_lookup e) rfl
   ·rcases relabel_lookup (show (relabel sc X.env).names.lookup y=some .free from hy) with e | ⟨e,_⟩
    ·exact hhas _ (PySem.mem_of_lookup e) rfl
    ·cases e
  ·exact Nat.ne_of_lt (Nat.lt_of_lt_of_le (fplt b hb) (by omega:D≤C))
  ·exact (f2 b hb).2.2.2.2.1 y c (hsub y c e)
  ·rcases (f2 b hb).2.2.2.1 with z | z
   ·exact I2.ok.noex b o e z
   ·exact absurd (Nat.lt_of_lt_of_le (Nat.lt_of_lt_of_le (Heap.lt_size e) I2.ok.bsz) z) (Nat.lt_irrefl _)
 have I4:∀tk,Inv X' [] (none::none::σ) (upd H2 D (.lst [])) { s2 with heap:=h₁,toks:=tk }:=fun tk=>by
  refine ⟨ok',rfl,I2.bare,Un.laid old (Nat.le_of_eq hDe) hHD,⟨_,hns₁,fun i y' v e1 e2 e3=>?_⟩,fun y c e=>?_,?_,fun y c e=>?_,fun p hp=>?_,I2.hok.laid old (Nat.le_of_eq hDe) ?_,?_⟩
  ·match i,e1,e2 with
   | 0,e1,e2=>simp at e2
   | 1,e1,e2=>simp at e2
   | i+2,e1,e2=>
    have e0:N2[i]?=some y':=by simpa [X',cxComp] using e1
    have e2:σ[i]?=some (some v):=by simpa using e2
    have e3:Vis (relabel sc X.env) y':=e3
    have hyN:y'∈N2:=List.mem_of_getElem? e0
    have free:sc.names.lookup y'=some .free/\(relabel sc X.env).names.lookup y'≠some .local:=by
     rcases e3 with e | e | e
     ·rcases relabel_lookup e with q | ⟨q,_⟩
      ·exact absurd q (hlo' y' hyN)
      ·cases q
     ·rcases relabel_lookup e with q | ⟨_,q,_⟩
      ·exact absurd rfl (hcell _ (PySem.mem_of_lookup q))
      ·exact ⟨q,by rw [e];decide⟩
     ·rcases relabel_lookup e with q | ⟨q,_⟩
      ·exact ⟨q,by rw [e];decide⟩
      ·cases q
    have e1:X.N[i]?=some y':=by
     have hi:i<N2.length:=(List.getElem?_eq_some_iff.mp e0).1
     have hi2:i<X.N.length:=by omega
     have hm:(y',X.N[i])∈N2.zip X.N:=by
      have hz:(N2.zip X.N)[i]?=some (y',X.N[i]):=by
       rw [List.getElem?_zip_eq_some]
       exact ⟨e0,List.getElem?_eq_getElem hi2⟩
      exact List.mem_of_getElem? hz
     have q:=List.all_eq_true.mp hz2 _ hm
     rcases Bool.or_eq_true_iff.mp q with q | q
     ·have:y'=X.N[i]:=eq_of_beq q
      rw [List.getElem?_eq_getElem hi2,<- this]
     ·have q2:sc.names.lookup y'=none:=by simpa using q
      rw [free.1] at q2
      cases q2
    have kc:X.env.kindOf y'=some .cell:=hfr _ (PySem.mem_of_lookup free.1) rfl
    obtain ⟨m,hn,hl⟩:=I2.loc
    obtain ⟨u,ru,lk⟩:=hl i y' v e1 e2 (.inr (.inl kc))
    rcases lk with ⟨q,_⟩ | ⟨_,c,hcc,⟨o,ho,hd⟩⟩
    ·rw [kc] at q;cases q
    ·obtain ⟨c',hc'⟩:=hhas _ (PySem.mem_of_lookup free.1) rfl
     have e4:=hsub _ _ hc'
     rw [hcc] at e4
     cases e4
     refine ⟨u,ru,.inr ⟨?_,c,hc',⟨o,old c o ho,hd⟩⟩⟩
     rcases e3 with e | e | e
     ·exact absurd e free.2
     ·exact .inl e
     ·exact .inr e
  ·obtain ⟨v,o,ho,hd⟩:=I2.cell y c (hsub y c e)
   exact ⟨v,o,old c o ho,hd⟩
  ·show upd H2 D (.lst []) C=none
   rw [upd_ne (neA (by omega))]
   exact hHC
  ·obtain ⟨v,o,ho,hd⟩:=I2.cell y c (hsub y c e)
   have hlt:=Heap.lt_size ho
   rw [hDe] at hlt
   show upd H2 D (.lst []) c=none
   rw [upd_ne (Nat.ne_of_lt hlt)]
   exact I2.freeC y c (hsub y c e)
  ·exact absurd (show p∈([]:List (Addr×Obj)) from hp) (by simp)
  ·exact ⟨Nat.zero_le _,[],0,.nil,hacc⟩
  ·show (none::none::σ).length=(x::y::N2).length
   rw [List.length_cons,List.length_cons,List.length_cons,List.length_cons,I2.len,hl2]
 have hN':X'.N.Nodup:=hN2
 have hx':X'.env.scope.names.lookup x=some .local:=lookup_relabel_local hx
 have hy':X'.env.scope.names.lookup y=some .local:=lookup_relabel_local hy
 obtain ⟨PT',PE'⟩:=hb cl C fp s2 H2
 have PG':PG X' (.Tuple [.Name x px,.Name y py] kt pt) (gTup X.K 2 (gCons (c_n 0) (gCons (c_n 1) gNil))):=e_C hc (b_b (a_r (X:=X') (i:=0) hN' rfl (.inl hx') (.inr hx')) (b_b (a_r (X:=X') (i:=1) hN' rfl (.inl hy') (.inr hy')) d_r))
 have fpX:∀{pins':List (Addr×Obj)} {H':Hp},(∀b∈fp,H' b=none)->(∀p∈pins',p.1∉fp)->∀b∈fp,FpOk X' pins' H' b:=fun hn hp b hb=>by
  refine ⟨hn b hb,?_,nofs b hb,.inl hb,fun y c e=>(f2 b hb).2.2.2.2.1 y c (hsub y c e),fun p q z=>?_⟩
  ·exact Nat.ne_of_lt (Nat.lt_of_lt_of_le (fplt b hb) (by omega:D≤C))
  ·rcases List.mem_append.mp q with q | q
   ·exact absurd (show p∈([]:List (Addr×Obj)) from q) (by simp)
   ·exact hp p q (by rw [z];exact hb)
 have loop:∀tk,codeAny (model X.prog X.w) X.A (.compLoop (.ListComp elt [⟨.Tuple [.Name x px,.Name y py] kt pt,iter,ifs,0⟩] sc pos) 0 (.ref it) (.ref D) (compEnvC sc cl C X.env)) (compPost (model X.prog X.w) X.A X.xe (some (assign (.Name y0 py0) X.env)) (fun _ s'=>SP X pins DD .next s') (.ref D) C) { s2 with heap:=h₁,toks:=tk }:=fun tk=>by
  refine e_F (fun n s'=>∃i ys o o' H',Inv X' [] (o::o'::σ) H' s'/\tn i s'.heap/\(∀b∈fp,H' b=none)/\W i n ys H') ?_ m0 ⟨0,[],none,none,_,I4 tk,T.keep _ _ _ st2 fun b hb o e=>old b o e,fun b hb=>?_,w0⟩
  ·rintro n s3 ⟨i,ys,o3,o4,H3,I3,st3,fr3,w3⟩
   obtain ⟨hD3,alt⟩:=turn i n ys H3 w3
   rcases alt with ⟨stop,qn⟩ | ⟨go,hlen,step⟩
   ·refine wpAny_mono (T.done X' rfl rfl rfl hc i [] s3 _ H3 (fun _ _=>False) I3 (fpX fr3 (by simp)) st3 stop) (fun r s4 hpq=>?_) fun _ _ f=>f.elim
    obtain ⟨hr,I4'⟩:=hpq
    subst hr
    obtain ⟨mC,hnC,_⟩:=I4'.loc
    have nC:∀b u,H3 b=some u->b≠C:=fun b u e z=>by rw [z] at e;rw [show H3 C=none from I4'.free] at e;cases e
    have un:Un (frs X.stack) fp H2 H3 s2.heap s4.heap:=
     ⟨fun b o e n1 n2 n3=>I4'.base.keep b o e n1 n2 n3,fun b o e n1 n2 n3=>I4'.base.slot b o e n1 n2 n3,I4'.base.free,fun b o e n1=>I4'.base.there b o e n1,I4'.base.tups,I4'.base.frzs,I4'.base.tbls⟩
    have I5:Inv X pins σ H3 s4:=I2.call' (s':=s4) I4'.os un I4'.hok I4'.bare fun b hb=>⟨(f2 b hb).2.2.2.1,(f2 b hb).2.1,(f2 b hb).2.2.2.2.1,(f2 b hb).2.2.2.2.2⟩
    obtain ⟨oC,epC,esC,hoC,_⟩:=id hnC
    have liveL:∃o,s2.heap.get? X.env.locals=some o:=by obtain ⟨m,⟨o,es,ep,z,_⟩,_⟩:=I2.loc;exact ⟨o,z⟩
    have neL:X.env.locals≠C:=by obtain ⟨o,z⟩:=liveL;exact neC _ o z
    have neCell:∀y c,X.env.cells.lookup y=some c->c≠C:=fun y c e=>by obtain ⟨v,o,r,_⟩:=I2.cell y c e;exact neC c o r
    dsimp only [compPost]
    refine wpAny_assign_Name (d_N I5 hN hj hyl (v:=.ref D) rfl (fun s6 I6 hpq=>?_) hfy)
    obtain ⟨a,sb,ha⟩:=hpq
    have haC:C≠a:=by
     rcases ha with z | z
     ·rw [z];exact Ne.symm neL
     ·exact Ne.symm (neCell _ _ z)
    have hoC6:s6.heap.get? C=some oC:=(sb.2 C haC).trans hoC
    refine ⟨mC,hnC.sameBut sb haC,fun h'' hs''=>?_⟩
    have hlt:C<h''.objs.size:=by rw [hs''.1];exact Heap.lt_size hoC6
    have hok'':HOk X.prog X.w H3 h'':=fun b u e=>(I6.hok b u e).stay (fun c v hcc q=>hs''.extBut c v (by
     rcases hcc with z | z
     ·rw [z];exact nC b u e
     ·exact nC c _ z) q) (fun _ q=>q) fun _ _ q=>q
    have un2:Un (frs X.stack) [C] H3 H3 s6.heap h'':=
     ⟨fun b o e n1 n2 n3=>hs''.extBut b o (fun z=>n3 (by simp [z])) e,fun b o e n1 n2 n3=>⟨o.slots,hs''.extBut b o (fun z=>n3 (by simp [z])) e⟩,fun b o e n1 _=>n1,fun b o e n1=>⟨o,hs''.extBut b o (fun z=>n1 (by simp [z])) e⟩,fun _ _ q=>q,fun _ _ _ q=>q,fun b ps q=>⟨#[],by rw [Array.append_empty];exact q⟩⟩
    refine ⟨_,H3,I6.call' (s':={ s6 with heap:=h'' }) rfl un2 hok'' I6.bare (fun b hb=>?_),qn⟩
    have eb:b=C:=by simpa using hb
    subst eb
    refine ⟨.inr (Nat.le_trans I2.sz (by omega)),Ne.symm neL,neCell,fun p hp z=>?_⟩
    obtain ⟨z1,_⟩:=I2.pin p hp
    exact neC p.1 p.2 z1 z
   ·refine wpAny_mono (T.item X' rfl rfl rfl hc i [] s3 _ H3 (fun _ _=>False) I3 (fpX fr3 (by simp)) st3 go) (fun r s4 hpq=>?_) fun _ _ f=>f.elim
    obtain ⟨u,hr,h4⟩:=hpq
    subst hr
    refine wpAny_mono h4 (fun _ s5 hpq=>?_) fun _ _ f=>f.elim
    obtain ⟨z,H5,I5,r5,y5,st5,fr5⟩:=hpq
    have I5':=I5.pinned (fpX fr5 (by simp)) (T.obj _ _ st5)
    obtain ⟨p,a1,a2,rfl,hp,hte⟩:=step z _ y5
    refine wpAny_mono (PG' _ s5 _ H5 (.ref p) u (fun σ' H'=>σ'=some a1::some a2::σ/\H'=H5) I5' r5 ⟨p,_,rfl,hp,rfl,_,_,rfl,_,_,rfl,rfl,rfl,rfl⟩) (fun _ s6 hpq=>?_) fun _ _ f=>f.elim
    obtain ⟨σ6,H6,I6,e1,e2⟩:=hpq
    subst e1 e2
    refine wpAny_mono (PT' _ s6 _ _ _ I6 hte) (fun yes s7 hpq=>?_) fun _ _ f=>f.elim
    obtain ⟨H7,I7,q7⟩:=hpq
    cases yes with
    | false=>
     obtain ⟨m',hm,w8⟩:=q7
     refine ⟨m',hm,i+1,ys,some a1,some a2,_,I7.unpinned,T.keep _ _ _ st5 fun b hb o e=>(I7.pin (b,o) (List.mem_append_right _ (List.mem_append_right _ (a_v hb e)))).1,fun b hb=>?_,w8⟩
     obtain ⟨o,e,d⟩:=T.obj _ _ st5 b hb
     exact (I7.pin (b,o) (List.mem_append_right _ (List.mem_append_right _ (a_v hb e)))).2.1
    | true=>
    refine wpAny_mono (PE' _ s7 _ _ _ I7 q7) (fun z s8 hpq=>?_) fun _ _ f=>f.elim
    obtain ⟨yv,H8,I8,r8,hD8,q8⟩:=hpq
    refine wpAny_mono (a_x (X:=X') _ s8 _ H8 (.ref D) [yv] (.ref D) [z] (fun _ H9=>H9=upd H8 D (.lst (ys++[yv]))) I8 rfl (.cons r8 .nil) ⟨D,ys,yv,rfl,rfl,hD8,hlen,rfl⟩) (fun _ s9 hpq=>?_) fun _ _ f=>f.elim
    obtain ⟨_,H9,I9,_,e9⟩:=hpq
    subst e9
    obtain ⟨m',hm,w8⟩:=q8
    refine ⟨m',hm,i+1,_,some a1,some a2,_,I9.unpinned,T.keep _ _ _ st5 fun b hb o e=>(I9.pin (b,o) (List.mem_append_right _ (List.mem_append_right _ (a_v hb e)))).1,fun b hb=>?_,w8⟩
    obtain ⟨o,e,d⟩:=T.obj _ _ st5 b hb
    exact (I9.pin (b,o) (List.mem_append_right _ (List.mem_append_right _ (a_v hb e)))).2.1
  ·show upd H2 D (.lst []) b=none
   rw [upd_ne (Nat.ne_of_lt (fplt b hb))]
   exact (f2 b hb).1
 exact codeAny_compStart_list (loop _) (T.self _ _ _ _ _ (T.keep _ _ _ st2 fun b hb o e=>old b o e) (loop _))
end
theorem any_range (bs:List Bool):(List.range bs.length).any (fun i=>bs.getD i false)=bs.any id:=by
 rw [Bool.eq_iff_iff,List.any_eq_true,List.any_eq_true]
 constructor
 ·rintro ⟨i,hi,h⟩
  have hi:=List.mem_range.mp hi
  rw [List.getD_eq_getElem?_getD,List.getElem?_eq_getElem hi] at h
  exact ⟨bs[i],List.getElem_mem hi,h⟩
 ·rintro ⟨b,hb,h⟩
  obtain ⟨i,hi,rfl⟩:=List.mem_iff_getElem.mp hb
  refine ⟨i,List.mem_range.mpr hi,?_⟩
  rw [List.getD_eq_getElem?_getD,List.getElem?_eq_getElem hi]
  exact h
theorem call_anyB (hc:X.calm=true):c_s X (.builtin "any") (fun xs H Q=>∃(a:Addr) (bs:List Bool),xs=[V.ref a]/\H a=some (.lst (bs.map V.bl))/\Q (.bl (bs.any id)) H):=by
 intro pins s σ H xs us Q I r h
 obtain ⟨a,bs,rfl,ha,q⟩:=h
 obtain ⟨u1,rfl,r1⟩:=c_K r
 cases r1
 obtain ⟨its,rv,p,hz⟩:=I.list (SqL.of ha)
 have hl:s.heap.IsList a its.toArray:=p.isList
 have hlt:a<s.heap.objs.size:=I.hok.lt ha
 have hn:its.toArray.size=bs.length:=by
  have h2:=rv.length
  rw [List.length_map] at h2
  simp
  omega
 refine call_any_walk (wpAny_pyIter_list hl ?_)
 refine ⟨s.heap.objs.size,_,_,_,_,_,fun i=>bs.getD i false,rfl,Walks.list (prog:=X.prog) (w:=X.w) (A:=X.A.in1) (I.ok.hd hc) s.heap.objs.size a (Nat.ne_of_lt hlt) its.toArray,⟨⟨_,Heap.get?_push_size _ rfl,rfl,rfl⟩,hl.at fun o e=>Heap.get?_push_of_some _ e⟩,?_,fun h' tk hk=>?_⟩
 ·intro i v s' Q' E' hv hQ
  have hi:i<bs.length:=by rw [<- hn];exact (Array.getElem?_eq_some_iff.mp hv).1
  obtain ⟨y,ey,ry⟩:=rv.get (i:=i) (x:=.bl bs[i]) (by rw [List.getElem?_map,List.getElem?_eq_getElem hi];rfl)
  have:v=y:=by
   have hv':its.toArray[i]?=some v:=hv
   rw [List.getElem?_toArray,ey] at hv'
   exact (Option.some.inj hv').symm
  subst this
  cases ry
  have e:bs.getD i false=bs[i]:=by rw [List.getD_eq_getElem?_getD,List.getElem?_eq_getElem hi];rfl
  have hQ:Q' (bs.getD i false) s':=hQ
  rw [e] at hQ
  exact wpAny_truthy_bool hQ
 ·rw [hn,any_range]
  exact ⟨.bl (bs.any id),H,I.kept (t':=tk) fun b o eb=>hk b o (by simp;exact Nat.ne_of_lt (Heap.lt_size eb)) (Heap.get?_push_of_some _ eb),rfl,q⟩
def rEqTi (K:PySem.W.Frag):R2:=fun x y H Q=>∃p q xs ys,x=.ref p/\y=.ref q/\SqT K H p (RA.intsV xs)/\SqT K H q (RA.intsV ys)/\xs.length=ys.length/\Q (.bl (decide (xs=ys))) H
theorem ints_eqB (h:xs.length=ys.length):((List.range xs.length).all fun j=>eqV ((RA.intsV xs).getD j .non) ((RA.intsV ys).getD j .non))=decide (xs=ys):=by
 rw [Bool.eq_iff_iff,List.all_eq_true,decide_eq_true_eq]
 have at_:∀{l:List Nat} {j:Nat} (hj:j<l.length),(RA.intsV l).getD j .non=.int ((l[j]:Nat):Int):=fun {l j} hj=>by
  rw [List.getD_eq_getElem?_getD,RA.intsV,List.getElem?_map,List.getElem?_eq_getElem hj]
  rfl
 constructor
 ·intro z
  refine List.ext_getElem h fun j h1 h2=>?_
  have e:=z j (List.mem_range.mpr h1)
  rw [at_ h1,at_ h2] at e
  exact Int.ofNat.inj (eq_of_beq e)
 ·rintro rfl j hj
  rw [at_ (List.mem_range.mp hj)]
  exact beq_self_eq_true _
theorem rc_ints {σ:St} (I:Inv X pins σ H s) (hp:SqT X.K H p (RA.intsV xs)) (hq:SqT X.K H q (RA.intsV ys)) (hl:xs.length=ys.length) (hu:A.units<cLine):SeqAt.RcAt A s (.ref p) (.ref q) (decide (xs=ys)):=by
 obtain ⟨its,r1,pl1,hz1⟩:=I.tuple hp
 obtain ⟨its2,r2,pl2,hz2⟩:=I.tuple hq
 have l1:(RA.intsV xs).length=its.length:=r1.length
 have l2:(RA.intsV ys).length=its2.length:=r2.length
 rw [RA.intsV_len] at l1 l2
 have z:=SeqAt.RcAt.tuples (A:=A) (e:=fun j=>eqV ((RA.intsV xs).getD j .non) ((RA.intsV ys).getD j .non)) pl1 pl2 hu fun j h1 h2=>by
  have hj1:j<(RA.intsV xs).length:=by rw [RA.intsV_len,l1];simpa using h1
  have hj2:j<(RA.intsV ys).length:=by rw [RA.intsV_len,l2];simpa using h2
  obtain ⟨a,ea,ra⟩:=r1.get (i:=j) (List.getElem?_eq_getElem hj1)
  obtain ⟨b,eb,rb⟩:=r2.get (i:=j) (List.getElem?_eq_getElem hj2)
  have e:=eqAt_V (A:=A.in1) (s:=s) ra rb (List.all_eq_true.mp (RA.ints_flatV xs) _ (List.getElem_mem hj1)) (List.all_eq_true.mp (RA.ints_flatV ys) _ (List.getElem_mem hj2))
  obtain ⟨_,e1⟩:=List.getElem?_eq_some_iff.mp ea
  obtain ⟨_,e2⟩:=List.getElem?_eq_some_iff.mp eb
  simp only [List.getElem_toArray,e1,e2,List.getD_eq_getElem?_getD,List.getElem?_eq_getElem hj1,List.getElem?_eq_getElem hj2,Option.getD_some]
  exact e
 have e1:min its.toArray.size its2.toArray.size=xs.length:=by simp;omega
 have e2:(its.toArray.size==its2.toArray.size)=true:=by simp;omega
 rw [e1,e2,ints_eqB hl,Bool.and_true] at z
 exact z
theorem op_eqTi (K:PySem.W.Frag) (hu:X.A.units<cLine) (hK:X.K=K:=by rfl):OpR X (compareOp .Eq) (rEqTi K):=by
 subst hK
 intro pins s σ H x y v u Q I rx ry h
 obtain ⟨p,q,xs,ys,rfl,rfl,hp,hq,hl,k⟩:=h
 cases rx
 cases ry
 exact rc_ints I hp hq hl hu _ _ _ _ ⟨.bl _,H,I,rfl,k⟩
end L2
namespace RA
open PySem L2
def jn (a b:List Nat):List Nat:=a.map fun r=>b.getD r 0
def f_k (ks:List (List Nat)) (e p:Nat):Bool:=decide (jn (ks.getD e []) (ks.getD p [])=ks.getD p [])&&decide (jn (ks.getD p []) (ks.getD e [])=ks.getD p [])
def kepts (ks:List (List Nat)) (e:Nat):List Nat:=(List.range ks.length).filter (f_k ks e)
def e_u (ks:List (List Nat)) (e p b:Nat):Bool:=decide (jn (ks.getD p []) (ks.getD b [])=ks.getD e [])&&decide (jn (ks.getD b []) (ks.getD p [])=ks.getD e [])
def mems (ks:List (List Nat)) (e:Nat):List Nat:=(kepts ks e).filter fun p=>(kepts ks e).any fun b=>e_u ks e p b
def onceB (ks:List (List Nat)) (p:Nat):Bool:=decide (jn (ks.getD p []) (ks.getD p [])=ks.getD p [])
def onces (ks:List (List Nat)):List Nat:=(List.range ks.length).filter (onceB ks)
theorem kepts_lt (h:p∈kepts ks e):p<ks.length:=List.mem_range.mp (List.mem_filter.mp h).1
theorem onces_lt (h:p∈onces ks):p<ks.length:=List.mem_range.mp (List.mem_filter.mp h).1
theorem kepts_len (ks:List (List Nat)) (e:Nat):(kepts ks e).length≤ks.length:=Nat.le_trans (List.length_filter_le _ _) (by rw [List.length_range];exact Nat.le_refl _)
theorem onces_len (ks:List (List Nat)):(onces ks).length≤ks.length:=Nat.le_trans (List.length_filter_le _ _) (by rw [List.length_range];exact Nat.le_refl _)
theorem b_U:(List.range (i+1)).filter p=(List.range i).filter p++(if p i then [i] else []):=by
 rw [List.range_succ,List.filter_append]
 cases h:p i with
 | false=>rw [List.filter_cons_of_neg (by simp [h]),List.filter_nil];rfl
 | true=>rw [List.filter_cons_of_pos h,List.filter_nil];rfl
def cellT (ks:List (List Nat)) (i j:Nat):Nat:=(a_S ks i).getD j 0
theorem b_g (ks:List (List Nat)) (i:Nat):(a_S ks i).length=ks.length:=by rw [a_S,List.length_map]
structure Tb (L:List Nat) (W:List (List Nat)) (B:List Bool) (ks ws:List (List Nat)):Prop where
 ma:Mach L W B
 fw:FewA L W ks ws
section
variable {L:List Nat} {W ks ws:List (List Nat)} {B:List Bool}
theorem getD_some {α:Type} {l:List α} {d:α} (h:i<l.length):l[i]?=some (l.getD i d):=by
 rw [List.getD_eq_getElem?_getD,List.getElem?_eq_getElem h]
 rfl
theorem Tb.jn_at (h:Tb L W B ks ws) (hi:i<ks.length) (hj:j<ks.length):ks[cellT ks i j]?=some (jn (ks.getD i []) (ks.getD j [])):=by
 obtain ⟨x,hx⟩:=act_join h.ma h.fw.bf (getD_some hi) (getD_some hj)
 have e:cellT ks i j=x:=by
  unfold cellT a_S
  rw [List.getD_eq_getElem?_getD,List.getElem?_map,getD_some (d:=[]) hj]
  exact e_J h.fw.bf.nd hx
 rw [e]
 exact hx
theorem Tb.lt (h:Tb L W B ks ws) (hi:i<ks.length) (hj:j<ks.length):cellT ks i j<ks.length:=(List.getElem?_eq_some_iff.mp (h.jn_at hi hj)).1
theorem Tb.cell (h:Tb L W B ks ws) (hi:i<ks.length) (hj:j<ks.length) (hp:p<ks.length):cellT ks i j=p↔jn (ks.getD i []) (ks.getD j [])=ks.getD p []:=by
 have z:=h.jn_at hi hj
 constructor
 ·intro e
  rw [e,getD_some (d:=[]) hp] at z
  exact (Option.some.inj z).symm
 ·intro e
  have z1:=e_J h.fw.bf.nd z
  have z2:=e_J h.fw.bf.nd (getD_some (d:=[]) hp)
  rw [<- e] at z2
  omega
theorem Tb.cellV (h:Tb L W B ks ws) (hi:i<ks.length) (hj:j<ks.length) (hp:p<ks.length):decide (V.int ((cellT ks i j:Nat):Int)=V.int (p:Int))=decide (jn (ks.getD i []) (ks.getD j [])=ks.getD p []):=by
 rw [decide_eq_decide,<- h.cell hi hj hp]
 exact ⟨fun z=>Int.ofNat.inj (V.int.inj z),fun z=>by rw [z]⟩
end
def GrAt (H:Hp) (l:Addr) (ps ms:List Addr) (ks:List (List Nat)):Prop:=H l=some (.lst (ps.map V.ref))/\ps.length=(onces ks).length/\ms.length=ps.length/\
 ∀(i:Nat) (a ml:Addr),ps[i]?=some a->ms[i]?=some ml->∃e:Nat,(onces ks)[i]?=some e/\H a=some (.tup [.int (e:Int),.ref ml])/\H ml=some (.lst (intsV (mems ks e)))
theorem GrAt.same (h:GrAt H l ps ms ks) (s:Same H H'):GrAt H' l ps ms ks:=
 ⟨s _ _ h.1,h.2.1,h.2.2.1,fun i a ml e1 e2=>let ⟨e,z1,z2,z3⟩:=h.2.2.2 i a ml e1 e2;⟨e,z1,s _ _ z2,s _ _ z3⟩⟩
end RA
namespace L2
open PySem PySem.Spec PyProof.Rows
open MeetsSeq MeetsSeq2 MeetsSeq3
end L2
namespace L2
open PySem PySem.Spec PyProof.Rows
def TupF (H:Hp) (a:Addr) (xs:List V):Prop:=∃o:Obj,o.dict=none/\H a=some (.frz o (.tup xs))
theorem TupF.sq {K:PySem.W.Frag} (h:TupF H a xs):SqT K H a xs:=let ⟨o,_,e⟩:=h;.inl (.inr ⟨o,e⟩)
end L2
namespace RA
open PySem L2
section
variable {L:List Nat} {W ks ws:List (List Nat)} {B:List Bool}
theorem act_app (hMa:Mach L W B) (hu:∀c∈u,c∈L) (v:List Nat):actN L W (u++v)=jn (actN L W u) (actN L W v):=by
 unfold actN jn
 rw [List.map_map]
 refine List.map_congr_left fun r hr=>?_
 have h1:run L W r u<W.length:=run_lt hMa (List.mem_range.mp hr) hu
 show run L W r (u++v)=((List.range W.length).map fun r=>run L W r v).getD (run L W r u) 0
 rw [List.getD_eq_getElem?_getD,List.getElem?_map,List.getElem?_range h1,run_app]
 rfl
theorem Tb.told (h:Tb L W B ks ws) (hv:∀c∈v,c∈L):∃j:Nat,ks[j]?=some (actN L W v):=by
 obtain ⟨j,u,e1,_⟩:=h.fw.bf.told h.ma.lt.nd v _ rfl hv
 rw [c_T _ _ rfl] at e1
 exact ⟨j,e1⟩
end
end RA
namespace L2
open PySem PySem.Spec PyProof.Rows
def Cut (l:List Nat) (j r:Nat):Prop:=r≤l.length/\(∀i (h:i<l.length),i<r->l[i]<j)/\∀i (h:i<l.length),r≤i->j≤l[i]
theorem e_B {l:List Nat} (hr:l.Pairwise (· < ·)) (h1:i<l.length) (h2:k<l.length) (h:i<k):l[i]<l[k]:=List.pairwise_iff_getElem.mp hr i k h1 h2 h
theorem go_cut {l:List Nat} (hr:l.Pairwise (· < ·)) (j:Nat):∀(f lo hi:Nat),hi - lo≤f->lo≤hi->hi≤l.length->(∀i (h:i<l.length),i<lo->l[i]<j)->(∀i (h:i<l.length),hi≤i->j≤l[i])->Cut l j (SetTable.below.go l.toArray j f lo hi)
 | 0,lo,hi,h1,h2,h3,h4,h5=>by
  unfold SetTable.below.go
  exact ⟨by omega,h4,fun i h hi'=>h5 i h (by omega)⟩
 | f+1,lo,hi,h1,h2,h3,h4,h5=>by
  unfold SetTable.below.go
  by_cases c:lo<hi
  ·rw [if_pos c]
   dsimp only
   have hm:(lo+hi) / 2<l.length:=by omega
   have e:l.toArray.getD ((lo+hi) / 2) j=l[(lo+hi) / 2]:=by simp [Array.getD,hm]
   rw [e]
   by_cases d:l[(lo+hi) / 2]<j
   ·rw [if_pos d]
    refine go_cut hr j f _ hi (by omega) (by omega) h3 (fun i h hi'=>?_) h5
    by_cases q:i=(lo+hi) / 2
    ·subst q;exact d
    ·exact Nat.lt_trans (e_B hr h hm (by omega)) d
   ·rw [if_neg d]
    refine go_cut hr j f lo _ (by omega) (by omega) (by omega) h4 (fun i h hi'=>?_)
    by_cases q:i=(lo+hi) / 2
    ·subst q;omega
    ·have:=e_B hr hm h (by omega)
     omega
  ·rw [if_neg c]
   exact ⟨by omega,h4,fun i h hi'=>h5 i h (by omega)⟩
theorem c_B (hr:l.Pairwise (· < ·)) (j:Nat):Cut l j (SetTable.below l.toArray j):=by
 unfold SetTable.below
 rw [List.size_toArray]
 exact go_cut hr j _ _ _ (by omega) (by omega) (Nat.le_refl _) (fun i _ h=>absurd h (Nat.not_lt_zero _)) (fun i h h'=>absurd h (by omega))
theorem Cut.uniq (a:Cut l j r) (b:Cut l j s):r=s:=by
 rcases Nat.lt_trichotomy r s with h | h | h
 ·have hr:r<l.length:=Nat.lt_of_lt_of_le h b.1
  have:=b.2.1 r hr h
  have:=a.2.2 r hr (Nat.le_refl _)
  omega
 ·exact h
 ·have hr:s<l.length:=Nat.lt_of_lt_of_le h a.1
  have:=a.2.1 s hr h
  have:=b.2.2 s hr (Nat.le_refl _)
  omega
theorem below_zero {l:List Nat} (hr:l.Pairwise (· < ·)):SetTable.below l.toArray 0=0:=(c_B hr 0).uniq ⟨Nat.zero_le _,fun i _ h=>absurd h (Nat.not_lt_zero _),fun i _ _=>Nat.zero_le _⟩
theorem below_next {l:List Nat} (hr:l.Pairwise (· < ·)) (h:i<l.length):SetTable.below l.toArray (l[i]+1)=i+1:=by
 refine (c_B hr _).uniq ⟨h,fun k hk hki=>?_,fun k hk hki=>?_⟩
 ·by_cases q:k=i
  ·subst q;omega
  ·have:=e_B hr hk h (by omega)
   omega
 ·exact e_B hr h hk (by omega)
theorem below_at {l:List Nat} (hr:l.Pairwise (· < ·)):(l.toArray[SetTable.below l.toArray j]?==some j)=decide (j∈l):=by
 have c:=c_B hr j
 rw [List.getElem?_toArray]
 by_cases h:j∈l
 ·obtain ⟨i,hi,rfl⟩:=List.getElem_of_mem h
  have e:SetTable.below l.toArray l[i]=i:=(c_B hr _).uniq ⟨Nat.le_of_lt hi,fun k hk hki=>e_B hr hk hi hki,fun k hk hki=>by
   by_cases q:k=i
   ·subst q;omega
   ·exact Nat.le_of_lt (e_B hr hi hk (by omega))⟩
  rw [e,List.getElem?_eq_getElem hi,decide_eq_true h]
  simp
 ·rw [decide_eq_false h]
  cases q:l[SetTable.below l.toArray j]? with
  | none=>rfl
  | some v=>
   have:v∈l:=List.mem_of_getElem? q
   simp
   intro z
   subst z
   exact h this
theorem put_ris {l:List Nat} (hr:l.Pairwise (· < ·)) (hj:j∉l):(l.take (SetTable.below l.toArray j)++j::l.drop (SetTable.below l.toArray j)).Pairwise (· < ·):=by
 have c:=c_B hr j
 generalize SetTable.below l.toArray j=r at c
 obtain ⟨c1,c2,c3⟩:=c
 rw [List.pairwise_append,List.pairwise_cons]
 have hd:∀x∈l.drop r,j<x:=fun x hx=>by
  obtain ⟨i,hi,rfl⟩:=List.getElem_of_mem hx
  rw [List.getElem_drop]
  rw [List.length_drop] at hi
  have h1:=c3 (r+i) (by omega) (Nat.le_add_right _ _)
  have h2:l[r+i]'(by omega)≠j:=fun z=>hj (by rw [<- z];exact List.getElem_mem _)
  omega
 have ht:∀x∈l.take r,x<j:=fun x hx=>by
  obtain ⟨i,hi,rfl⟩:=List.getElem_of_mem hx
  rw [List.getElem_take]
  rw [List.length_take] at hi
  exact c2 i (by omega) (by omega)
 refine ⟨hr.take,⟨hd,hr.drop⟩,fun x hx y hy=>?_⟩
 rcases List.mem_cons.mp hy with rfl | hy
 ·exact ht x hx
 ·exact Nat.lt_trans (ht x hx) (hd y hy)
def tm (mask:Nat):SetTable:=⟨mask,#[],#[],0,true,0,true⟩
def advN (T:SetTable):SetTable.Probe->Nat->SetTable.Probe
 | p,0=>p
 | p,n+1=>advN T (T.advance p) n
def walkM (T:SetTable):SetTable.Probe->Nat->Nat->Nat
 | _,0,m=>m
 | p,n+1,m=>walkM T (T.advance p) n (m ||| 2 ^ p.j)
theorem walkM_bit (T:SetTable) (j:Nat):∀(n:Nat) (p:SetTable.Probe) (m:Nat),(walkM T p n m).testBit j=true->m.testBit j=true\/∃i,i<n/\(advN T p i).j=j
 | 0,p,m,h=>.inl h
 | n+1,p,m,h=>by
  rcases walkM_bit T j n (T.advance p) _ h with z | ⟨i,hi,e⟩
  ·rw [Nat.testBit_or,Bool.or_eq_true] at z
   rcases z with z | z
   ·exact .inl z
   ·rw [Nat.testBit_two_pow] at z
    exact .inr ⟨0,Nat.succ_pos _,of_decide_eq_true z⟩
  ·exact .inr ⟨i+1,Nat.succ_lt_succ hi,e⟩
def many (mask:Nat):Nat:=if mask=7 then 12 else if mask=31 then 240 else 1300
theorem coverAll:[7,31,127].all (fun mask=>(List.range 40).all fun k=>walkM (tm mask) ((tm mask).probeStart (k:Int)) (many mask) 0==2 ^ (mask+1) - 1)=true:=by decide +kernel
theorem cover {mask k j:Nat} (hm:mask∈[7,31,127]) (hk:k<40) (hj:j≤mask):∃i,i<many mask/\(advN (tm mask) ((tm mask).probeStart (k:Int)) i).j=j:=by
 have h:=List.all_eq_true.mp (List.all_eq_true.mp coverAll mask hm) k (List.mem_range.mpr hk)
 have h:=beq_iff_eq.mp h
 rcases walkM_bit (tm mask) j (many mask) _ 0 (by rw [h,Nat.testBit_two_pow_sub_one];exact decide_eq_true (by omega)) with z | z
 ·simp at z
 ·exact z
theorem adv_tm (T:SetTable):∀(n:Nat) (p:SetTable.Probe),advN T p n=advN (tm T.mask) p n
 | 0,_=>rfl
 | n+1,p=>adv_tm T n (T.advance p)
theorem adv_dummy (T:SetTable) (p:SetTable.Probe):(T.advance p).dummy=p.dummy:=by
 unfold SetTable.advance
 split
 ·rfl
 ·rfl
structure GoodT (led:Bool) (T:SetTable) (l:List Nat):Prop where
 pl:T.place=l.toArray
 ris:l.Pairwise (· < ·)
 le:∀j∈l,j≤T.mask
 du:T.dummies=#[]
 ld:T.led=led
 pn:T.plain=true
 ms:(T.mask=7/\l.length≤4)\/(T.mask=31/\l.length≤18)\/(T.mask=127/\l.length≤75)
section
variable {led:Bool} {T:SetTable} {l:List Nat}
theorem GoodT.mem (g:GoodT led T l):T.mask∈[7,31,127]:=by rcases g.ms with ⟨e,_⟩ | ⟨e,_⟩ | ⟨e,_⟩ <;> simp [e]
theorem GoodT.small (g:GoodT led T l):l.length≤T.mask:=by rcases g.ms with ⟨e,h⟩ | ⟨e,h⟩ | ⟨e,h⟩ <;> omega
theorem GoodT.fits (g:GoodT led T l):T.fits l.length=true:=by
 unfold SetTable.fits SetTable.fill
 rw [g.pl,g.du]
 simp [g.small]
theorem GoodT.slot (g:GoodT led T l) (j:Nat):if j∈l then ∃i,T.slot j=.live i else T.slot j=.empty:=by
 have e:=below_at g.ris (j:=j)
 by_cases h:j∈l
 ·rw [if_pos h]
  rw [decide_eq_true h] at e
  unfold SetTable.slot
  dsimp only
  rw [g.pl,e]
  exact ⟨_,rfl⟩
 ·rw [if_neg h]
  rw [decide_eq_false h] at e
  unfold SetTable.slot
  dsimp only
  rw [g.pl,e,g.du]
  rfl
theorem GoodT.probe (g:GoodT led T l) (h:Int):∀(f:Nat) (p:SetTable.Probe) (n:Nat),n<f->(advN T p n).j∉l->p.dummy=none->∃j,SetTable.probe.go T (fun _=>h+1) h f p=some (.empty j none)/\j∉l/\∃i,i<f/\(advN T p i).j=j
 | 0,_,_,hn,_,_=>absurd hn (Nat.not_lt_zero _)
 | f+1,p,n,hn,hj,hd=>by
  have s:=g.slot p.j
  unfold SetTable.probe.go
  by_cases c:p.j∈l
  ·rw [if_pos c] at s
   obtain ⟨i,s⟩:=s
   rw [s]
   dsimp only
   have ne:((h+1:Int)==h)=false:=beq_false_of_ne (by omega)
   rw [ne,if_neg Bool.false_ne_true]
   cases n with
   | zero=>exact absurd c hj
   | succ n=>
    obtain ⟨j,e,h1,i',hi',e'⟩:=g.probe h f (T.advance p) n (Nat.lt_of_succ_lt_succ hn) hj (by rw [adv_dummy,hd])
    exact ⟨j,e,h1,i'+1,Nat.succ_lt_succ hi',e'⟩
  ·rw [if_neg c] at s
   rw [s]
   dsimp only
   rw [hd]
   exact ⟨p.j,rfl,c,0,Nat.succ_pos _,rfl⟩
theorem many_turns (h:mask∈[7,31,127]):many mask≤10 * SetTable.turns mask:=by
 simp only [List.mem_cons,List.not_mem_nil,or_false] at h
 rcases h with rfl | rfl | rfl <;> decide
theorem GoodT.room (g:GoodT led T l):∃j,j≤T.mask/\j∉l:=by
 refine Classical.byContradiction fun n=>?_
 have h:∀c∈List.range (T.mask+1),c∈l:=fun c hc=>Classical.byContradiction fun z=>n ⟨c,Nat.lt_succ_iff.mp (List.mem_range.mp hc),z⟩
 have:=RA.sub_len List.nodup_range h
 rw [List.length_range] at this
 have:=g.small
 omega
theorem leap_le (mask i p:Nat):(SetTable.leap mask i p).1≤mask:=Nat.lt_succ_iff.mp (Nat.mod_lt _ (Nat.succ_pos _))
theorem d_V (h:i≤mask):i≤SetTable.runEnd mask i/\SetTable.runEnd mask i≤mask:=by
 unfold SetTable.runEnd
 split <;> omega
def PrOk (mask:Nat) (p:SetTable.Probe):Prop:=p.j+p.more≤mask/\p.i≤mask
theorem PrOk.adv (h:PrOk T.mask p):PrOk T.mask (T.advance p):=by
 unfold SetTable.advance
 split
 ·exact ⟨by have:=h.1;show p.j+1+(p.more - 1)≤_;omega,h.2⟩
 ·dsimp only
  have h1:=leap_le T.mask p.i p.perturb
  have:=d_V h1
  exact ⟨by show (SetTable.leap T.mask p.i p.perturb).1+(SetTable.runEnd T.mask (SetTable.leap T.mask p.i p.perturb).1 - (SetTable.leap T.mask p.i p.perturb).1)≤_;omega,h1⟩
theorem adv_ok {T:SetTable}:∀(n:Nat) (p:SetTable.Probe),PrOk T.mask p->PrOk T.mask (advN T p n)
 | 0,_,h=>h
 | n+1,p,h=>adv_ok n _ h.adv
theorem start_ok (T:SetTable) (h:Int):PrOk T.mask (T.probeStart h):=by
 have h1:SetTable.bits h % (T.mask+1)≤T.mask:=Nat.lt_succ_iff.mp (Nat.mod_lt _ (Nat.succ_pos _))
 have:=d_V h1
 exact ⟨by show SetTable.bits h % (T.mask+1)+(SetTable.runEnd T.mask (SetTable.bits h % (T.mask+1)) - SetTable.bits h % (T.mask+1))≤_;omega,h1⟩
theorem GoodT.free (g:GoodT led T l) {k:Nat} (hk:k<40):∃j,T.freeSlot (k:Int)=some (j,false)/\j∉l/\j≤T.mask:=by
 obtain ⟨j0,h0,n0⟩:=g.room
 obtain ⟨i,hi,e⟩:=cover g.mem hk h0
 have e2:(advN T (T.probeStart (k:Int)) i).j=j0:=by rw [adv_tm];exact e
 obtain ⟨j,p1,p2,i',hi',e'⟩:=g.probe (k:Int) (10 * SetTable.turns T.mask) (T.probeStart (k:Int)) i (Nat.lt_of_lt_of_le hi (many_turns g.mem)) (by rw [e2];exact n0) rfl
 refine ⟨j,?_,p2,?_⟩
 ·unfold SetTable.freeSlot SetTable.probe
  rw [p1]
  rfl
 ·have:=(adv_ok i' _ (start_ok T (k:Int))).1
  rw [<- e']
  omega
theorem GoodT.put (g:GoodT led T l) (j:Nat):T.put j=({ T with place:=(l.take (SetTable.below l.toArray j)++j::l.drop (SetTable.below l.toArray j)).toArray },SetTable.below l.toArray j):=by
 unfold SetTable.put
 dsimp only
 rw [g.pl,g.du]
 have e:SetTable.insertAt l.toArray (SetTable.below l.toArray j) j=(l.take (SetTable.below l.toArray j)++j::l.drop (SetTable.below l.toArray j)).toArray:=by
  apply Array.toList_inj.mp
  rw [SetTable.toList_insertAt]
 rw [e]
 rfl
end
def InR (mask:Nat):Nat->Nat->Nat->Nat->Prop
 | 0,_,_,_=>False
 | f+1,i,p,j=>(i≤j/\j≤SetTable.runEnd mask i)\/InR mask f (SetTable.leap mask i p).1 (SetTable.leap mask i p).2 j
def runM (mask:Nat):Nat->Nat->Nat->Nat->Nat
 | 0,_,_,m=>m
 | f+1,i,p,m=>runM mask f (SetTable.leap mask i p).1 (SetTable.leap mask i p).2 ((List.range (SetTable.runEnd mask i+1 - i)).foldl (fun a k=>a ||| 2 ^ (i+k)) m)
theorem fold_bit (i j:Nat):∀(ks:List Nat) (m:Nat),(ks.foldl (fun a k=>a ||| 2 ^ (i+k)) m).testBit j=true->m.testBit j=true\/∃k∈ks,i+k=j
 | [],m,h=>.inl h
 | k::ks,m,h=>by
  rcases fold_bit i j ks _ h with z | ⟨k',hk,e⟩
  ·rw [Nat.testBit_or,Bool.or_eq_true] at z
   rcases z with z | z
   ·exact .inl z
   ·rw [Nat.testBit_two_pow] at z
    exact .inr ⟨k,by simp,of_decide_eq_true z⟩
  ·exact .inr ⟨k',by simp [hk],e⟩
theorem runM_bit (mask j:Nat):∀(f i p m:Nat),(runM mask f i p m).testBit j=true->m.testBit j=true\/InR mask f i p j
 | 0,i,p,m,h=>.inl h
 | f+1,i,p,m,h=>by
  rcases runM_bit mask j f _ _ _ h with z | z
  ·rcases fold_bit i j _ m z with z | ⟨k,hk,e⟩
   ·exact .inl z
   ·have:=List.mem_range.mp hk
    exact .inr (.inl ⟨by omega,by omega⟩)
  ·exact .inr (.inr z)
theorem coverAllR:[31,127].all (fun mask=>(List.range 40).all fun k=>runM mask (SetTable.turns mask) (SetTable.bits ((k:Nat):Int) % (mask+1)) (SetTable.bits ((k:Nat):Int)) 0==2 ^ (mask+1) - 1)=true:=by decide +kernel
theorem coverR {mask k j:Nat} (hm:mask∈[31,127]) (hk:k<40) (hj:j≤mask):InR mask (SetTable.turns mask) (SetTable.bits (k:Int) % (mask+1)) (SetTable.bits (k:Int)) j:=by
 have h:=beq_iff_eq.mp (List.all_eq_true.mp (List.all_eq_true.mp coverAllR mask hm) k (List.mem_range.mpr hk))
 rcases runM_bit mask j _ _ _ 0 (by rw [h,Nat.testBit_two_pow_sub_one];exact decide_eq_true (by omega)) with z | z
 ·simp at z
 ·exact z
theorem free_some {mask:Nat} {owner:Array (Option Nat)} {j:Nat} (hj:owner.getD j (some 0)=none):∀(f i p:Nat),i≤mask->InR mask f i p j->∃j',SetTable.layClean.free mask owner f i p=some j'/\owner.getD j' (some 0)=none/\j'≤mask
 | 0,_,_,_,h=>h.elim
 | f+1,i,p,hi,h=>by
  unfold SetTable.layClean.free
  have hre:=d_V hi
  cases q:(List.range (SetTable.runEnd mask i+1 - i)).find? fun k=>(owner.getD (i+k) (some 0)).isNone with
  | some k=>
   have h1:=List.find?_some q
   have h2:=List.mem_range.mp (List.mem_of_find?_eq_some q)
   exact ⟨i+k,rfl,Option.isNone_iff_eq_none.mp h1,by omega⟩
  | none=>
   dsimp only
   rcases h with ⟨a,b⟩ | h
   ·have z:=List.find?_eq_none.mp q (j - i) (List.mem_range.mpr (by omega))
    rw [show i+(j - i)=j by omega,hj] at z
    exact absurd rfl z
   ·exact free_some hj f _ _ (leap_le _ _ _) h
def ownL (mask:Nat) (owner:Array (Option Nat)):List Nat:=(List.range (mask+1)).filterMap fun j=>owner.getD j none
theorem fm_congr {f g:Nat->Option Nat}:∀{L:List Nat},(∀x∈L,g x=f x)->L.filterMap g=L.filterMap f
 | [],_=>rfl
 | x::L,h=>by
  rw [List.filterMap_cons,List.filterMap_cons,h x (by simp),fm_congr fun y hy=>h y (by simp [hy])]
theorem fm_set {f g:Nat->Option Nat} {j k:Nat} (hf:f j=none) (hg:g j=some k):∀{L:List Nat},L.Nodup->j∈L->(∀x∈L,x≠j->g x=f x)->(L.filterMap g).Perm (k::L.filterMap f)
 | x::L,nd,hj,h=>by
  obtain ⟨n1,n2⟩:=List.nodup_cons.mp nd
  by_cases e:x=j
  ·subst e
   have hs:L.filterMap g=L.filterMap f:=fm_congr fun y hy=>h y (by simp [hy]) fun z=>n1 (z▸hy)
   rw [List.filterMap_cons_some hg,List.filterMap_cons_none hf,hs]
  ·have hj':j∈L:=by
    rcases List.mem_cons.mp hj with z | z
    ·exact absurd z.symm e
    ·exact z
   have ih:=fm_set hf hg n2 hj' fun y hy=>h y (by simp [hy])
   have hx:=h x (by simp) e
   cases q:f x with
   | none=>
    rw [List.filterMap_cons_none (hx.trans q),List.filterMap_cons_none q]
    exact ih
   | some v=>
    rw [List.filterMap_cons_some (hx.trans q),List.filterMap_cons_some q]
    exact (ih.cons v).trans (List.Perm.swap _ _ _)
theorem fm_full {f:Nat->Option Nat}:∀{L:List Nat},(∀x∈L,f x≠none)->(L.filterMap f).length=L.length
 | [],_=>rfl
 | x::L,h=>by
  cases q:f x with
  | none=>exact absurd q (h x (by simp))
  | some v=>
   rw [List.filterMap_cons_some q,List.length_cons,List.length_cons,fm_full fun y hy=>h y (by simp [hy])]
theorem getD_both {owner:Array (Option Nat)} (hs:owner.size=mask+1) (hj:j≤mask):owner.getD j (some 0)=owner.getD j none:=by
 simp [Array.getD,hs,Nat.lt_succ_of_le hj]
theorem lay_fold {mask:Nat} (hm:mask∈[31,127]):∀(hs:List Int) (owner:Array (Option Nat)) (k:Nat),(∀h∈hs,∃n:Nat,n<40/\h=(n:Int))->owner.size=mask+1->(ownL mask owner).Perm (List.range k)->k+hs.length≤mask->
  ∃owner',(hs.foldl (fun acc h=>do
   let (owner,k) <- acc
   let j <- SetTable.layClean.free mask owner (SetTable.turns mask) (SetTable.bits h % (mask+1)) (SetTable.bits h)
   pure (owner.setIfInBounds j (some k),k+1)) (some (owner,k)))=some (owner',k+hs.length)/\owner'.size=mask+1/\(ownL mask owner').Perm (List.range (k+hs.length))
 | [],owner,k,_,h1,h2,_=>⟨owner,rfl,h1,h2⟩
 | h::hs,owner,k,hh,h1,h2,h3=>by
  obtain ⟨n,hn,rfl⟩:=hh h (by simp)
  rw [List.length_cons] at h3
  have hj:∃j,j≤mask/\owner.getD j none=none:=Classical.byContradiction fun z=>by
   have e:=fm_full (f:=fun j=>owner.getD j none) (L:=List.range (mask+1)) fun x hx y=>z ⟨x,Nat.lt_succ_iff.mp (List.mem_range.mp hx),y⟩
   have e2:(ownL mask owner).length=k:=by rw [h2.length_eq,List.length_range]
   rw [List.length_range] at e
   have:(ownL mask owner).length=mask+1:=e
   omega
  obtain ⟨j0,hj0,hn0⟩:=hj
  obtain ⟨j,e,f1,f2⟩:=free_some (mask:=mask) (owner:=owner) (j:=j0) (by rw [getD_both h1 hj0];exact hn0) _ _ _ (Nat.lt_succ_iff.mp (Nat.mod_lt _ (Nat.succ_pos _))) (coverR hm hn hj0)
  rw [getD_both h1 f2] at f1
  have sz:(owner.setIfInBounds j (some k)).size=mask+1:=by rw [Array.size_setIfInBounds];exact h1
  have pm:(ownL mask (owner.setIfInBounds j (some k))).Perm (List.range (k+1)):=by
   have z:=fm_set (f:=fun x=>owner.getD x none) (g:=fun x=>(owner.setIfInBounds j (some k)).getD x none) (j:=j) (k:=k) f1 (by simp [Array.getD,h1,Nat.lt_succ_of_le f2]) (L:=List.range (mask+1)) List.nodup_range (List.mem_range.mpr (Nat.lt_succ_of_le f2)) fun x hx hxj=>by
    have:=List.mem_range.mp hx
    simp [Array.getD,h1,this,Array.getElem_setIfInBounds,Ne.symm hxj]
   refine z.trans ((h2.cons k).trans ?_)
   rw [List.range_succ]
   exact (List.perm_append_singleton k _).symm
  obtain ⟨o',e',s',p'⟩:=lay_fold hm hs (owner.setIfInBounds j (some k)) (k+1) (fun y hy=>hh y (by simp [hy])) sz pm (by omega)
  refine ⟨o',?_,s',?_⟩
  ·rw [List.foldl_cons,List.length_cons,show k+(hs.length+1)=k+1+hs.length by omega,<- e']
   congr 1
   show (SetTable.layClean.free mask owner (SetTable.turns mask) (SetTable.bits (n:Int) % (mask+1)) (SetTable.bits (n:Int))).bind _=_
   rw [e]
   rfl
  ·rw [List.length_cons,show k+(hs.length+1)=k+1+hs.length by omega]
   exact p'
theorem d_K {f:Nat->Option Nat}:∀L:List Nat,(L.filterMap fun j=>(f j).map (j,·)).map (·.1)=L.filter fun j=>(f j).isSome
 | []=>rfl
 | x::L=>by
  cases q:f x with
  | none=>rw [List.filterMap_cons_none (by rw [q];rfl),List.filter_cons_of_neg (by simp [q]),d_K L]
  | some v=>rw [List.filterMap_cons_some (b:=(x,v)) (by rw [q];rfl),List.filter_cons_of_pos (by simp [q]),List.map_cons,d_K L]
theorem d_J {f:Nat->Option Nat}:∀L:List Nat,(L.filterMap fun j=>(f j).map (j,·)).map (·.2)=L.filterMap f
 | []=>rfl
 | x::L=>by
  cases q:f x with
  | none=>rw [List.filterMap_cons_none (by rw [q];rfl),List.filterMap_cons_none q,d_J L]
  | some v=>rw [List.filterMap_cons_some (b:=(x,v)) (by rw [q];rfl),List.filterMap_cons_some q,List.map_cons,d_J L]
theorem own_nil (mask:Nat):ownL mask (Array.replicate (mask+1) none)=[]:=by
 unfold ownL
 rw [List.filterMap_eq_nil_iff]
 intro x hx
 simp [Array.getD]
theorem relay_good (hm:mask∈[31,127]) (hw:SetTable.sizeAbove want - 1=mask) (hes:∀e∈es,∃n:Nat,n<40/\e.1=(n:Int)) (hl:es.length≤mask) (ld:T.led=led) (pn:T.plain=true)
  (hb:(mask=31/\es.length≤18)\/(mask=127/\es.length≤75)\/(mask=31/\es.length≤18))  :∃(es':List (Int×Value)) (T':SetTable) (l':List Nat),relayAll T es.toArray want=(es'.toArray,T',false)/\es'.Perm es/\GoodT led T' l'/\l'.length=es.length:=by
 obtain ⟨o',e,s',p'⟩:=lay_fold hm (es.map (·.1)) (Array.replicate (mask+1) none) 0 (fun h hh=>by obtain ⟨x,hx,rfl⟩:=List.mem_map.mp hh;exact hes x hx) (by simp) (by rw [own_nil];exact .refl _) (by simpa using hl)
 rw [List.length_map,Nat.zero_add] at e p'
 have hlay:SetTable.layClean mask (es.toArray.map (·.1))=some o':=by
  unfold SetTable.layClean
  rw [<- Array.foldl_toList]
  simp only [Array.toList_map]
  rw [show (List.map (fun x:Int×Value=>x.1) es)=es.map (·.1) from rfl] at *
  rw [e]
  rfl
 have hre:T.relaid (es.toArray.map (·.1)) want=some ({ mask:=mask,place:=((List.range (mask+1)).filter fun j=>(o'.getD j none).isSome).toArray,dummies:=#[],finger:=T.finger,led:=T.led,moves:=T.movedTo mask,plain:=T.plain },(ownL mask o').toArray):=by
  unfold SetTable.relaid SetTable.laid
  rw [hw,hlay]
  show some _=some _
  rw [d_K,d_J]
  rfl
 have hln:((List.range (mask+1)).filter fun j=>(o'.getD j none).isSome).length=es.length:=by
  have z:=p'.length_eq
  rw [List.length_range] at z
  rw [<- z]
  unfold ownL
  rw [<- d_K (f:=fun j=>o'.getD j none),<- d_J (f:=fun j=>o'.getD j none),List.length_map,List.length_map]
 have pm:((ownL mask o').toArray.filterMap (fun i=>es.toArray[i]?)).toList.Perm es:=by
  rw [Array.toList_filterMap]
  refine (p'.filterMap _).trans ?_
  have z:=filterMap_getElem?_range es.toArray
  rw [List.size_toArray] at z
  rw [z]
 have hco:coversAll (ownL mask o').toArray es.toArray.size=true:=by
  unfold coversAll
  rw [List.size_toArray]
  exact List.isPerm_iff.mpr p'
 have G:GoodT led { mask:=mask,place:=((List.range (mask+1)).filter fun j=>(o'.getD j none).isSome).toArray,dummies:=#[],finger:=T.finger,led:=T.led,moves:=T.movedTo mask,plain:=T.plain } ((List.range (mask+1)).filter fun j=>(o'.getD j none).isSome):=by
  refine ⟨rfl,List.pairwise_lt_range.filter _,fun j hj=>Nat.lt_succ_iff.mp (List.mem_range.mp (List.mem_filter.mp hj).1),rfl,ld,pn,?_⟩
  rw [hln]
  rcases hb with z | z | z
  ·exact .inr (.inl z)
  ·exact .inr (.inr z)
  ·exact .inr (.inl z)
 refine ⟨_,_,_,?_,pm,G,hln⟩
 unfold relayAll
 rw [hre]
 dsimp only
 have sz:((ownL mask o').toArray.filterMap (fun i=>es.toArray[i]?)).size=es.length:=by rw [<- Array.length_toList];exact pm.length_eq
 have ft:=G.fits
 rw [hln] at ft
 rw [hco,sz,ft]
 rfl
theorem insA (l:List α) (p:Nat) (x:α):SetTable.insertAt l.toArray p x=(l.take p++x::l.drop p).toArray:=by
 unfold SetTable.insertAt
 simp only [List.extract_toArray,List.push_toArray,List.append_toArray]
 congr 1
 simp [List.take_of_length_le]
def sLed (w:World):Bool:=!w.params.followText "set-order"
def Elt (e:Int×Value):Prop:=∃(k:Nat) (t:Tok),k<40/\e=((k:Int),Value.int (k:Int) t)
def keyL (es:List (Int×Value)):List Nat:=es.map fun e=>e.1.toNat
structure f_o (w:World) (o:Obj) (es:List (Int×Value)) (ep:Nat) (T:SetTable) (l:List Nat):Prop where
 ex:o.ExactSet
 el:∀e∈es,Elt e
 nd:(keyL es).Nodup
 dt:o.data=.set es.toArray ep T
 gd:GoodT (sLed w) T l
 ln:l.length=es.length
def SetI (w:World) (h:Heap) (a:Addr) (ns:List Nat):Prop:=∃(o:Obj) (es:List (Int×Value)) (ep:Nat) (T:SetTable) (l:List Nat),h.get? a=some o/\f_o w o es ep T l/\∀x,x∈keyL es↔x∈ns
theorem f_o.fits (x:f_o w o es ep T l):T.fits es.toArray.size=true:=by
 rw [List.size_toArray,<- x.ln]
 exact x.gd.fits
theorem key_lt (h:∀e∈es,Elt e):∀k∈keyL es,k<40:=fun k hk=>by
 obtain ⟨e,he,rfl⟩:=List.mem_map.mp hk
 obtain ⟨n,t,hn,rfl⟩:=h e he
 exact hn
theorem f_o.few (x:f_o w o es ep T l):es.length≤40:=by
 have:=RA.sub_len (b:=List.range 40) x.nd fun c hc=>List.mem_range.mpr (key_lt x.el c hc)
 rw [List.length_range,keyL,List.length_map] at this
 exact this
section
variable {P:Program} {w:World} {A:Around} {E:Value->Shared->Prop} {s:Shared} {a:Addr} {k:Nat} {ns:List Nat}
theorem hash40:(List.range 40).all (fun k=>hashInt ((k:Nat):Int)==((k:Nat):Int))=true:=by decide +kernel
theorem hash_40 (h:k<40):(intKind P w).hash (k:Int)=(k:Int):=beq_iff_eq.mp (List.all_eq_true.mp hash40 k (List.mem_range.mpr h))
theorem el_elems (h:∀e∈es,Elt e):ElemsOf (intKind P w) es:=fun e he=>by
 obtain ⟨n,t,hn,rfl⟩:=h e he
 exact ⟨⟨(n:Int),intKind_is _ _ _ _,(hash_40 hn).symm⟩,rfl⟩
theorem el_find:∀{es:List (Int×Value)},(∀e∈es,Elt e)->(es.findIdx? (fun e=>(intKind P w).is (k:Int) e.2)).isSome=decide (k∈keyL es)
 | [],_=>by simp [keyL]
 | x::es,h=>by
  have ih:=el_find (es:=es) fun e he=>h e (by simp [he])
  obtain ⟨n,t,hn,rfl⟩:=h x (by simp)
  have e:(intKind P w).is (k:Int) (Value.int (n:Int) t)=decide (n=k):=by
   show Value.isInt (k:Int) (Value.int (n:Int) t)=_
   by_cases c:n=k
   ·subst c;simp [Value.isInt]
   ·rw [decide_eq_false c];simp [Value.isInt,show ¬ (n:Int)=(k:Int) from fun z=>c (Int.ofNat.inj z)]
  rw [List.findIdx?_cons]
  dsimp only
  rw [e]
  by_cases c:n=k
  ·subst c;simp [keyL]
  ·rw [if_neg (by simpa using c),Option.isSome_map,ih]
   have e2:keyL (((n:Int),Value.int (n:Int) t)::es)=n::keyL es:=rfl
   rw [e2]
   simp [show ¬ k=n from fun z=>c z.symm]
theorem addG (hk:k<40) (hS:SetI w s.heap a ns) (h:∀b h',Heap.SameBut a s.heap h'->SetI w h' a (ns++[k])->Q b { s with heap:=h' }):
  wpAny (model P w) A (setAddHashed a (.int (k:Int) t) ((intKind P w).hash (k:Int))) Q E s:=by
 obtain ⟨o,es,ep,T,l,ho,X,hns⟩:=hS
 have hd:=X.dt
 have hx:=X.ex
 have G:=X.gd
 have hf:=X.fits
 have few:=X.few
 have hel:ElemsOf (intKind P w) es.toArray.toList:=el_elems X.el
 have hs:es.toArray.size<scanBound:=by rw [List.size_toArray];exact Nat.lt_of_le_of_lt few (by decide)
 unfold setAddHashed setAddHashedIn
 refine wpAny_holding (wpAny_bind (wpAny_setState_of ho hd hf ?_))
 dsimp only
 rw [byScan_of (knd:=intKind P w) (x:=.int (k:Int) t) rfl hs hel,if_pos rfl]
 unfold setAddByScan
 refine wpAny_bind (wpAny_bind (wpAny_rule (wpAny_bind (wpAny_setScan_of (knd:=intKind P w) (intKind_is _ _ _ _) ho hd hf hel ?_))))
 have hfi:=el_find (P:=P) (w:=w) (k:=k) X.el
 by_cases hin:k∈keyL es
 ·rw [decide_eq_true hin] at hfi
  obtain ⟨j,hj⟩:=Option.isSome_iff_exists.mp hfi
  rw [show List.findIdx? _ es.toArray.toList=some j from hj]
  dsimp only
  refine wpAny_pure (wpAny_pure ?_)
  have:=h false s.heap (Heap.SameBut.refl a s.heap) ⟨o,es,ep,T,l,ho,X,fun x=>by
   rw [hns x,List.mem_append,List.mem_singleton]
   exact ⟨.inl,fun z=>z.elim id fun e=>by rw [e];exact (hns k).mp hin⟩⟩
  exact this
 ·rw [decide_eq_false hin] at hfi
  have hj:List.findIdx? (fun e=>(intKind P w).is (k:Int) e.2) es=none:=by
   cases q:List.findIdx? (fun e=>(intKind P w).is (k:Int) e.2) es with
   | none=>rfl
   | some j=>rw [q] at hfi;cases hfi
  rw [show List.findIdx? _ es.toArray.toList=none from hj]
  dsimp only
  obtain ⟨j,f1,f2,f3⟩:=G.free hk
  have hput:=G.put j
  have hris:=put_ris G.ris f2
  have hpl1:(l.take (SetTable.below l.toArray j)++j::l.drop (SetTable.below l.toArray j)).length=l.length+1:=by simp;omega
  have hle1:∀x∈l.take (SetTable.below l.toArray j)++j::l.drop (SetTable.below l.toArray j),x≤T.mask:=fun x hx=>by
   rcases List.mem_append.mp hx with z | z
   ·exact G.le x (List.mem_of_mem_take z)
   ·rcases List.mem_cons.mp z with rfl | z
    ·exact f3
    ·exact G.le x (List.mem_of_mem_drop z)
  generalize SetTable.below l.toArray j=p at hput hris hpl1 hle1
  generalize l.take p++j::l.drop p=l1 at hput hris hpl1 hle1
  have pe:(es.take p++((k:Int),Value.int (k:Int) t)::es.drop p).Perm (((k:Int),Value.int (k:Int) t)::es):=by
   refine List.perm_middle.trans ?_
   rw [List.take_append_drop]
  have e1l:(es.take p++((k:Int),Value.int (k:Int) t)::es.drop p).length=es.length+1:=pe.length_eq
  have hmask:l.length+1≤T.mask:=by rcases G.ms with ⟨e,z⟩ | ⟨e,z⟩ | ⟨e,z⟩ <;> omega
  have c3:({ T with place:=l1.toArray }:SetTable).fits (es.length+1)=true:=by
   unfold SetTable.fits SetTable.fill
   rw [G.du]
   simp [hpl1,X.ln]
   have:=X.ln
   omega
  have hL:layNew T es.toArray ((intKind P w).hash (k:Int)) (.int (k:Int) t)=((es.take p++((k:Int),Value.int (k:Int) t)::es.drop p).toArray,{ T with place:=l1.toArray },false,false):=by
   unfold layNew
   rw [hash_40 hk,f1]
   dsimp only
   rw [hput]
   dsimp only
   rw [insA,List.size_toArray,e1l,SetTable.orStandIn,if_pos c3,c3]
   rfl
  rw [hL]
  dsimp only
  have hel1:∀e∈es.take p++((k:Int),Value.int (k:Int) t)::es.drop p,Elt e:=fun e he=>by
   rcases List.mem_cons.mp (pe.mem_iff.mp he) with rfl | z
   ·exact ⟨k,t,hk,rfl⟩
   ·exact X.el e z
  have pk:(keyL (es.take p++((k:Int),Value.int (k:Int) t)::es.drop p)).Perm (k::keyL es):=pe.map _
  generalize es.take p++((k:Int),Value.int (k:Int) t)::es.drop p=es1 at e1l hel1 pk
  have hm1:∀{es2:List (Int×Value)},es2.Perm es1->(keyL es2).Nodup/\(∀e∈es2,Elt e)/\∀x,x∈keyL es2↔x∈ns++[k]:=fun {es2} q=>by
   have q2:(keyL es2).Perm (k::keyL es):=(q.map _).trans pk
   refine ⟨q2.nodup_iff.mpr (List.nodup_cons.mpr ⟨hin,X.nd⟩),fun e he=>hel1 e (q.mem_iff.mp he),fun x=>?_⟩
   rw [q2.mem_iff,List.mem_cons,hns x,List.mem_append,List.mem_singleton]
   exact Or.comm
  have hpl:({ T with place:=l1.toArray }:SetTable).plain=true:=G.pn
  have l40:es1.length≤40:=by
   have:=RA.sub_len (b:=List.range 40) (hm1 (.refl _)).1 fun c hc=>List.mem_range.mpr (key_lt hel1 c hc)
   rw [List.length_range,keyL,List.length_map] at this
   exact this
  have hz1:∀{es2:List (Int×Value)},es2.Perm es1->es2.toArray.size≤sizeLine:=fun {es2} q=>by
   rw [List.size_toArray,q.length_eq,sizeLine_eq]
   omega
  have put:∀(es2:List (Int×Value)) (h1:Heap) (o1:Obj) (e1:Array (Int×Value)) (n1:Nat) (t1 T1:SetTable),h1.get? a=some o1->o1.data=.set e1 n1 t1->(h1.update a (Obj.putSet es2.toArray T1)).get? a=some { o1 with data:=.set es2.toArray (n1+1) T1 }:=by
   intro es2 h1 o1 e1 n1 t1 T1 z1 z2
   have z:=Heap.get?_update_self (Obj.putSet es2.toArray T1) z1 (by rw [putSet_of _ _ z2];rfl)
   rw [putSet_of _ _ z2] at z
   exact z
  refine wpAny_bind (wpAny_pure ?_)
  rw [if_pos hpl,hashByValue_scannable 8 (x:=.int (k:Int) t) rfl]
  refine wpAny_bind (wpAny_pure ?_)
  rw [show plainKind (.int (k:Int) t)=true from rfl]
  simp only [if_true,Bool.not_false,Bool.true_and]
  refine wpAny_bind (wpAny_storeSet_of ho hd ?_ (hz1 (.refl _)))
  have g1:=put es1 _ _ _ _ _ { T with place:=l1.toArray } ho hd
  have sb:=Heap.SameBut.update s.heap a (Obj.putSet es1.toArray { T with place:=l1.toArray })
  have tf:({ T with place:=l1.toArray }:SetTable).tooFull=decide (T.mask * 3≤(es.length+1) * 5):=by
   unfold SetTable.tooFull SetTable.fill
   rw [G.du]
   simp [hpl1,X.ln]
  have hln:=X.ln
  by_cases ct:({ T with place:=l1.toArray }:SetTable).tooFull=true
  ·rw [if_pos ct]
   rw [tf] at ct
   have ct:=of_decide_eq_true ct
   have hr:∃mask,mask∈[31,127]/\SetTable.sizeAbove (SetTable.grown es1.length) - 1=mask/\es1.length≤mask/\((mask=31/\es1.length≤18)\/(mask=127/\es1.length≤75)\/(mask=31/\es1.length≤18)):=by
    rcases G.ms with ⟨e,z⟩ | ⟨e,z⟩ | ⟨e,z⟩
    ·have:es1.length=5:=by omega
     rw [this]
     exact ⟨31,by simp,by decide,by decide,.inl ⟨rfl,by decide⟩⟩
    ·have:es1.length=19:=by omega
     rw [this]
     exact ⟨127,by simp,by decide,by decide,.inr (.inl ⟨rfl,by decide⟩)⟩
    ·omega
   obtain ⟨mask,m1,m2,m3,m4⟩:=hr
   obtain ⟨es2,T2,l2,r1,r2,r3,r4⟩:=relay_good (led:=sLed w) (T:={ T with place:=l1.toArray }) (es:=es1) m1 m2 (fun e he=>by obtain ⟨n,u,hn,rfl⟩:=hel1 e he;exact ⟨n,hn,rfl⟩) m3 G.ld G.pn m4
   rw [List.size_toArray,r1]
   refine wpAny_bind (wpAny_pure (wpAny_bind (wpAny_storeSet_of g1 rfl ?_ (hz1 r2))))
   have g2:=put es2 _ _ _ _ _ T2 g1 rfl
   obtain ⟨y1,y2,y3⟩:=hm1 r2
   exact wpAny_pure (wpAny_pure (h true _ (sb.trans (Heap.SameBut.update _ a _)) ⟨_,es2,_,T2,l2,g2,⟨hx,y2,y1,rfl,r3,by rw [r4,r2.length_eq]⟩,y3⟩))
  ·rw [if_neg ct]
   rw [tf] at ct
   have ct:¬ T.mask * 3≤(es.length+1) * 5:=fun z=>ct (decide_eq_true z)
   obtain ⟨y1,y2,y3⟩:=hm1 (.refl _)
   refine wpAny_pure (wpAny_pure (h true _ sb ⟨_,es1,_,_,l1,g1,⟨hx,y2,y1,rfl,⟨rfl,hris,hle1,G.du,G.ld,G.pn,?_⟩,by omega⟩,y3⟩))
   rw [hpl1]
   show (T.mask=7/\_)\/(T.mask=31/\_)\/(T.mask=127/\_)
   rcases G.ms with ⟨e,z⟩ | ⟨e,z⟩ | ⟨e,z⟩ <;> omega
theorem f_m (h:i<ns.length):ns.getD i 0=ns[i]:=by rw [List.getD_eq_getElem?_getD,List.getElem?_eq_getElem h];rfl
theorem SetI.keep (x:SetI w h a ns) (e:∀o,h.get? a=some o->h'.get? a=some o):SetI w h' a ns:=by
 obtain ⟨o,es,ep,T,l,ho,r⟩:=x
 exact ⟨o,es,ep,T,l,e o ho,r⟩
theorem loopG {St:Nat->Heap->Prop} (W:Walks P w A.in1 I fp wr n Pv St) (hSf:S∉fp) (hn:ns.length=n) (h8:∀x∈ns,x<40)
  (hv:∀i v,Pv i v->∃t,v=.int ((ns.getD i 0:Nat):Int) t):∀(j i:Nat) (s:Shared),n - i=j->i≤n->St i s.heap->SetI w s.heap S (ns.take i)->
   (∀(h':Heap) (tk:Nat),(∀b o,b∉S::wr->s.heap.get? b=some o->h'.get? b=some o)->SetI w h' S ns->R (.ok (.ret .none)) { s with heap:=h',toks:=tk })->codeAny (model P w) A (.builtin "set.update.loop" ⟨[.ref S,.ref I],[]⟩) R s:=by
 have hw:S∉wr:=fun z=>hSf (W.sub _ z)
 intro j
 induction j with
 | zero=>
  intro i s hj hi st x q
  cases (show i=n by omega)
  refine codeAny_builtin PyProof.Rows.F.entry_set_update_loop ?_
  rw [Around.under_plainId PyProof.Rows.F.plain_set_update_loop _]
  show wpAny _ A.in1 (pyNext (.ref I) >>= _) _ _ s
  refine wpAny_bind (W.done s _ _ st fun h' tk kp=>?_)
  rw [<- hn,List.take_length] at x
  exact wpAny_pure (q h' tk (fun b o hb e=>kp b o (fun z=>hb (by simp [z])) e) (x.keep fun o e=>kp S o hw e))
 | succ j ih=>
  intro i s hj hi st x q
  have hlt:i<n:=by omega
  refine codeAny_builtin PyProof.Rows.F.entry_set_update_loop ?_
  rw [Around.under_plainId PyProof.Rows.F.plain_set_update_loop _]
  show wpAny _ A.in1 (pyNext (.ref I) >>= _) _ _ s
  refine wpAny_bind (W.item i s _ _ hlt st fun v h' tk pv st' kp=>?_)
  obtain ⟨t,rfl⟩:=hv i v pv
  have hi':i<ns.length:=by omega
  have hk:ns.getD i 0<40:=by rw [f_m hi'];exact h8 _ (List.getElem_mem hi')
  have x':=x.keep (h':=h') fun o e=>kp S o hw e
  show wpAny _ A.in1 (holding [Value.int ((ns.getD i 0:Nat):Int) t] (setAdd S (.int ((ns.getD i 0:Nat):Int) t)) >>= _) _ _ _
  refine wpAny_bind (wpAny_holding ?_)
  unfold setAdd
  refine wpAny_holding (wpAny_bind ((intKind P w).pyHash (k:=((ns.getD i 0:Nat):Int)) (intKind_is _ _ _ _) ?_))
  refine addG hk (s:={ s with heap:=h',toks:=tk+1 }) x' fun b h2 sb x2=>?_
  rw [f_m hi',List.take_append_getElem hi'] at x2
  refine wpAny_pure ⟨plainId_quiet PyProof.Rows.F.plain_set_update_loop _,ih (i+1) _ (by omega) hlt (W.frame _ _ _ st' fun b hb o e=>?_) x2 fun h3 tk3 kp3 x3=>?_⟩
  ·exact (sb.2 b (fun z=>hSf (z▸hb))).trans e
  ·refine q h3 tk3 (fun b o hb e=>kp3 b o hb ?_) x3
   exact (sb.2 b (fun z=>hb (by simp [z]))).trans (kp b o (fun z=>hb (by simp [z])) e)
theorem newG (u:Value) (q:Q1 (.ref s.heap.objs.size) { s with heap:=s.heap.push { cls:=.type "set",dict:=none,data:=.set #[] 0 (.fresh 0 0 (sLed w)) } }):
  codeAny (model P w) A (.call (.builtin "set.__new__") ⟨[.type "set",u],[]⟩) (wants Q1 E) s:=by
 refine codeAny_of_tree (show wpAny _ A.in1 (do checkBuiltinCall "set.__new__" ⟨[.type "set",u],[]⟩;again (.builtin "set.__new__" ⟨[.type "set",u],[]⟩)) _ _ s from ?_)
 refine wpAny_bind (wpAny_of_eq (PySem.F.newCall_set_1 u) (wpAny_pure ⟨plainId_quiet PySem.F.plain_set_new _,codeAny_builtin PySem.F.entry_set_new ?_⟩))
 rw [Around.under_plainId PySem.F.plain_set_new _]
 unfold Builtin.«set.__new__» Builtin.Frozenset.newClass
 have z:=sub_set_self
 obtain ⟨hp,g,d,tk,os⟩:=s
 dsimp only
 wp_walk
 refine wpAny_askSetting (wpAny_pure ?_)
 dsimp only
 simp only [newObj]
 exact wpAny_bind (wpAny_alloc (wpAny_pure (wpAny_pure q)))
theorem fresh_I (hg:h.get? a=some { cls:=.type "set",dict:=none,data:=.set #[] 0 (.fresh 0 0 (sLed w)) }):SetI w h a []:=⟨_,[],0,_,[],hg,⟨⟨rfl,rfl,rfl⟩,(fun e he=>nomatch he),List.nodup_nil,rfl,⟨rfl,List.Pairwise.nil,(fun j hj=>nomatch hj),rfl,rfl,rfl,.inl ⟨rfl,Nat.zero_le _⟩⟩,rfl⟩,fun x=>Iff.rfl⟩
theorem callG {its:List Value} (hh:A.handled=none) (hl:s.heap.IsList l its.toArray) (hn:ns.length=its.length) (h8:∀x∈ns,x<40) (hv:∀(i:Nat) (v:Value),its[i]?=some v->∃t,v=.int ((ns.getD i 0:Nat):Int) t)
  (q:∀(h':Heap) (tk:Nat),SetI w h' s.heap.objs.size ns->(∀b o,s.heap.get? b=some o->h'.get? b=some o)->Q (.ref s.heap.objs.size) { s with heap:=h',toks:=tk }):
  wpAny (model P w) A (call (.type "set") [.ref l]) Q E s:=by
 obtain ⟨c,tl,mro⟩:=PySem.F.called_set.mro
 have made:=PySem.F.called_set.made
 have sub:=PySem.F.called_set.sub
 refine wpAny_call (codeAny_of_tree (show wpAny _ _ (callAny (.type "set") _) _ _ _ from ?_))
 refine wpAny_pure ⟨Code.quiet_builtin _ (by decide +kernel),codeAny_builtin PySem.F.entry_type_call ?_⟩
 rw [Around.under_plain (weight_type_call_type "set" [.ref l] []) rfl]
 have k1:=PySem.F.called_set.notType
 have k2:=PySem.F.called_set.canCreate
 have k3:=PySem.F.typeCall_set_1 (.ref l)
 repeat (any_goals (first | assumption | wp_step))
 refine codeAny_mono (newG (.ref l) (E:=E) (Q1:=fun ob s1=>ob=.ref s.heap.objs.size/\s1={ s with heap:=s.heap.push { cls:=.type "set",dict:=none,data:=.set #[] 0 (.fresh 0 0 (sLed w)) } }) ⟨rfl,rfl⟩) fun r s1 hr=>?_
 cases r with
 | error e=>exact hr
 | ok fl=>
  cases fl with
  | ret ob=>
   obtain ⟨rfl,rfl⟩:=hr
   have gS:(s.heap.push { cls:=.type "set",dict:=none,data:=.set #[] 0 (.fresh 0 0 (sLed w)) }).get? s.heap.objs.size=some { cls:=.type "set",dict:=none,data:=.set #[] 0 (.fresh 0 0 (sLed w)) }:=Heap.get?_push_size _ rfl
   have tS:Shared.TypeIs { s with heap:=s.heap.push { cls:=.type "set",dict:=none,data:=.set #[] 0 (.fresh 0 0 (sLed w)) } } (.ref s.heap.objs.size) "set":=⟨_,gS,rfl⟩
   have k4:=PySem.F.called_set.init.lookup
   have k5:=PySem.F.called_set.init.bind (.ref s.heap.objs.size)
   repeat (any_goals (first | assumption | wp_step))
   refine codeAny_mono (codeAny_call_builtin (R:=wants (fun r s2=>r=.none/\∃h' tk,s2={ s with heap:=h',toks:=tk }/\SetI w h' s.heap.objs.size ns/\∀b o,s.heap.get? b=some o->h'.get? b=some o) E) PySem.F.called_set.init.plain PySem.F.entry_set_init (check_set_init_1 tS ?_)) fun r2 s2 hr2=>?_
   ·have hlS:l<s.heap.objs.size:=let ⟨_,z,_⟩:=hl;Heap.lt_size z
    have hl1:=hl.push { cls:=.type "set",dict:=none,data:=.set #[] 0 (.fresh 0 0 (sLed w)) }
    obtain ⟨ol,hol,hcl,nl,hdl⟩:=hl
    obtain ⟨oc,od,oD,os⟩:=ol
    simp only at hcl hdl
    subst hcl;subst hdl
    have hol':(s.heap.push { cls:=.type "set",dict:=none,data:=.set #[] 0 (.fresh 0 0 (sLed w)) }).get? l=some { cls:=.type "list",dict:=od,data:=.seq its.toArray nl,slots:=os }:=Heap.get?_push_of_some _ hol
    have k6:=PySem.F.sub_list_set
    have k7:=PySem.F.sub_list_frozenset
    have k8:(Value.type "list"==Value.type "dict")=false:=by decide
    unfold Builtin.«set.__init__» noKeywords Builtin.Frozenset.updateFrom
    generalize hPI:pyIter=PI
    wp_walk
    subst hPI
    refine wpAny_pyIter_list hl1 (wpAny_bind (wpAny_runValue ?_))
    have k9:A.in1.in1.in1.handled=none:=by simp [hh]
    have n1:l≠(s.heap.push { cls:=.type "set",dict:=none,data:=.set #[] 0 (.fresh 0 0 (sLed w)) }).objs.size:=by rw [Heap.size_push];exact Nat.ne_of_lt (Nat.lt_succ_of_lt hlS)
    have n2:s.heap.objs.size∉[(s.heap.push { cls:=.type "set",dict:=none,data:=.set #[] 0 (.fresh 0 0 (sLed w)) }).objs.size,l]:=by
     rw [Heap.size_push]
     simp only [List.mem_cons,List.not_mem_nil,or_false,not_or]
     exact ⟨Nat.ne_of_lt (Nat.lt_succ_self _),Nat.ne_of_gt hlS⟩
    refine loopG (Walks.list k9 _ l n1 its.toArray) n2 (by rw [hn,List.size_toArray]) h8 (fun i v z=>hv i v (by simpa using z)) _ 0 _ rfl (Nat.zero_le _) ⟨⟨_,Heap.get?_push_size _ rfl,rfl,rfl⟩,hl1.push _⟩ (fresh_I (Heap.get?_push_of_some _ gS)) fun h' tk kp x=>?_
    refine wpAny_pure (wpAny_pure ⟨rfl,h',tk,rfl,x,fun b o e=>kp b o ?_ (Heap.get?_push_of_some _ (Heap.get?_push_of_some _ e))⟩)
    have hb:=Heap.lt_size e
    simp only [List.mem_cons,List.not_mem_nil,or_false,not_or]
    refine ⟨Nat.ne_of_lt hb,?_⟩
    rw [Heap.size_push]
    exact Nat.ne_of_lt (Nat.lt_succ_of_lt hb)
   ·cases r2 with
    | error e=>exact hr2
    | ok f2=>
     cases f2 with
     | ret r=>
      obtain ⟨rfl,h',tk,rfl,x,kp⟩:=hr2
      repeat (any_goals (first | assumption | wp_step))
      exact q _ _ x kp
     | _=>exact hr2.elim
  | _=>exact hr.elim
end
theorem b_h:Slot "set_iterator" "__next__" "set_iterator.__next__":=.of (owner:="set_iterator") (n:="__next__") (by rw [typeLookup_type,builtinLookup_eq_fast];kernel_rfl) (by decide +kernel) (by decide +kernel) (by decide +kernel) (by first | exact .inl (by decide +kernel) | exact .inr (by decide +kernel)) (by rw [isSubtype_type];kernel_rfl)
theorem d_w:Slot "set_iterator" "__iter__" "set_iterator.__iter__":=.of (owner:="set_iterator") (n:="__iter__") (by rw [typeLookup_type,builtinLookup_eq_fast];kernel_rfl) (by decide +kernel) (by decide +kernel) (by decide +kernel) (by first | exact .inl (by decide +kernel) | exact .inr (by decide +kernel)) (by rw [isSubtype_type];kernel_rfl)
theorem d_e:entryFor table "set_iterator.__next__"=some Builtin.«set_iterator.__next__»:=entryFor_of_fast (by kernel_rfl)
theorem f_n:entryFor table "set_iterator.__iter__"=some Builtin.«dict_keyiterator.__iter__»:=entryFor_alias (id':="dict_keyiterator.__iter__") (by kernel_rfl) rfl (by decide +kernel) (by kernel_rfl)
theorem entry_s_iter:entryFor table "set.__iter__"=some Builtin.«frozenset.__iter__»:=entryFor_alias (id':="frozenset.__iter__") (by kernel_rfl) rfl (by decide +kernel) (by kernel_rfl)
theorem d_C (a:Value):argsOk "set_iterator.__next__" ⟨[a],[]⟩:=by unfold argsOk;kernel_rfl
theorem args_si_iter (a:Value):argsOk "set_iterator.__iter__" ⟨[a],[]⟩:=by unfold argsOk;kernel_rfl
theorem eraseP {α:Type}:∀{l:List α} {i:Nat} (h:i<l.length),(l[i]::l.eraseIdx i).Perm l
 | x::l,0,_=>.refl _
 | x::l,i+1,h=>by
  have h':i<l.length:=by simpa using h
  show (l[i]::x::l.eraseIdx i).Perm (x::l)
  exact (List.Perm.swap _ _ _).trans ((eraseP h').cons x)
theorem pickGo {α:Type} (next:Nat->Nat):∀(n k:Nat) (l:List α) (out:Array α),l.length=n->(pickOrder.go next n k l out).toList.Perm (out.toList++l)
 | 0,k,l,out,h=>by
  cases List.length_eq_zero_iff.mp h
  simp [pickOrder.go]
 | n+1,k,l,out,h=>by
  have hi:next k % l.length<l.length:=Nat.mod_lt _ (by omega)
  unfold pickOrder.go
  rw [List.getElem?_eq_getElem hi]
  dsimp only
  refine (pickGo next n (k+1) _ _ (by rw [List.length_eraseIdx_of_lt hi];omega)).trans ?_
  rw [Array.toList_push,List.append_assoc]
  refine List.Perm.append_left _ ?_
  exact eraseP hi
theorem pick_perm (next:Nat->Nat) (l:List α):(pickOrder next l.toArray).toList.Perm l:=by
 unfold pickOrder
 have:=pickGo next l.toArray.size 0 l.toArray.toList #[] rfl
 simpa using this
def sOrd (w:World) (a:Addr) (es:List (Int×Value)) (ep:Nat):List Value:=
 if w.params.followText "set-order"=true then (pickOrder (w.params.setOrder a ep) es.toArray).toList.map (·.2) else es.map (·.2)
theorem d_a:(sOrd w a es ep).Perm (es.map (·.2)):=by
 unfold sOrd
 split
 ·exact (pick_perm _ _).map _
 ·exact .refl _
def sSlot (w:World) (l:List Nat) (i:Nat):Nat:=if w.params.followText "set-order"=true then 0 else if i=0 then 0 else l.getD (i - 1) 0+1
section
variable {P:Program} {w:World} {A:Around} {E:Value->Shared->Prop} {s:Shared} {a I:Addr} {i ep:Nat} {oS:Obj} {es:List (Int×Value)} {T:SetTable} {l:List Nat}
theorem setNextS (ho:s.heap.get? a=some oS) (X:f_o w oS es ep T l) (hi:i≤es.length)
  (h1:∀v,(sOrd w a es ep)[i]?=some v->Q (some (v,sSlot w l (i+1))) s) (h2:i=es.length->Q none s):wpAny (model P w) A (setNext a (sSlot w l i) i ep) Q E s:=by
 obtain ⟨t1,t2,t3,t4,t5,t6,t7⟩:=T
 obtain rfl:t7=true:=X.gd.pn
 obtain rfl:t5=sLed w:=X.gd.ld
 have hf:=X.fits
 have hd:=X.dt
 have hol:(sOrd w a es ep).length=es.length:=by rw [d_a.length_eq,List.length_map]
 unfold setNext
 refine wpAny_bind (wpAny_setState_of ho hd hf ?_)
 dsimp only
 unfold setsByText
 refine wpAny_bind (wpAny_bind (wpAny_askSetting (wpAny_pure ?_)))
 dsimp only
 by_cases c:w.params.followText "set-order"=true
 ·rw [show (model P w).w.params.followText "set-order"=true from c,if_pos rfl]
  rw [if_neg (by simp)]
  have e0:sSlot w l i=0:=by unfold sSlot;rw [if_pos c]
  have e1:sSlot w l (i+1)=0:=by unfold sSlot;rw [if_pos c]
  rw [e0]
  unfold setWalk
  refine wpAny_bind (wpAny_bind (wpAny_setState_of ho hd hf ?_))
  dsimp only
  unfold setsByText
  refine wpAny_bind (wpAny_bind (wpAny_askSetting (wpAny_pure ?_)))
  dsimp only
  rw [show (model P w).w.params.followText "set-order"=true from c,if_pos rfl]
  refine wpAny_bind (wpAny_askSetting (wpAny_pure (wpAny_pure ?_)))
  have so:sOrd w a es ep=(pickOrder (w.params.setOrder a ep) es.toArray).toList.map (·.2):=if_pos c
  rw [e1,so] at h1
  rw [so,List.length_map] at hol
  by_cases hlt:i<es.length
  ·have hlt':i<(pickOrder (w.params.setOrder a ep) es.toArray).toList.length:=by omega
   have g:=h1 _ (by rw [List.getElem?_map,List.getElem?_eq_getElem hlt'];rfl)
   show Q (((pickOrder (w.params.setOrder a ep) es.toArray)[i]?).map _) s
   rw [<- Array.getElem?_toList,List.getElem?_eq_getElem hlt']
   exact g
  ·show Q (((pickOrder (w.params.setOrder a ep) es.toArray)[i]?).map _) s
   rw [<- Array.getElem?_toList,List.getElem?_eq_none (by omega)]
   exact h2 (by omega)
 ·have cf:w.params.followText "set-order"=false:=by simpa using c
  rw [show (model P w).w.params.followText "set-order"=false from cf]
  rw [if_neg Bool.false_ne_true]
  refine wpAny_ite_split (fun z=>absurd z fun y=>Bool.false_ne_true y) fun _=>?_
  have hled:sLed w=true:=by unfold sLed;rw [cf];rfl
  refine wpAny_bind (show wpAny _ _ (if (!(sLed w)&&!es.toArray.isEmpty)=true then _ else _) _ _ _ from ?_)
  rw [hled]
  refine wpAny_ite_split (fun z=>absurd z fun y=>Bool.false_ne_true y) fun _=>wpAny_pure ?_
  have e0:sSlot w l i=if i=0 then 0 else l.getD (i - 1) 0+1:=by unfold sSlot;rw [if_neg c]
  have e1:sSlot w l (i+1)=l.getD i 0+1:=by unfold sSlot;rw [if_neg c,if_neg (by omega)];rfl
  have eb:SetTable.below t2 (sSlot w l i)=i:=by
   rw [e0,show t2=l.toArray from X.gd.pl]
   cases i with
   | zero=>exact below_zero X.gd.ris
   | succ i=>
    rw [if_neg (Nat.succ_ne_zero i),Nat.add_sub_cancel,f_m (by rw [X.ln];exact hi)]
    exact below_next X.gd.ris _
  have so:sOrd w a es ep=es.map (·.2):=if_neg c
  rw [e1,so] at h1
  refine wpAny_pure ?_
  rw [eb]
  by_cases hlt:i<es.length
  ·have hlt':i<es.length:=hlt
   have hll:i<l.length:=by rw [X.ln];exact hlt
   have g:=h1 _ (by rw [List.getElem?_map,List.getElem?_eq_getElem hlt'];rfl)
   rw [show es.toArray[i]?=some es[i] by simp [hlt'],show t2[i]?=some (l[i]'hll) by rw [show t2=l.toArray from X.gd.pl];simp [hll]]
   rw [f_m hll] at g
   exact g
  ·rw [show es.toArray[i]?=none by simp;omega]
   exact h2 (by omega)
def SIt (w:World) (h:Heap) (I a:Addr) (l:List Nat) (n i ep:Nat):Prop:=∃o,h.get? I=some o/\o.cls=.type "set_iterator"/\o.data=.fields #[rawInt (sSlot w l i),rawInt i,.ref a,rawInt n,rawInt ep]
theorem SIt.type (x:SIt w s.heap I a l n i ep):s.TypeIs (.ref I) "set_iterator":=let ⟨o,ho,hc,_⟩:=x;⟨o,ho,hc⟩
theorem walkS (hh:A.handled=none) (X:f_o w oS es ep T l) (hne:a≠I):
  Walks P w A I [I,a] [I] es.length (fun i v=>(sOrd w a es ep)[i]?=some v) (fun i h=>SIt w h I a l es.length i ep/\h.get? a=some oS) where
 sub:=fun b hb=>by simp at hb;simp [hb]
 frame:=fun i h h' st k=>by
  obtain ⟨⟨o,ho,r⟩,g⟩:=st
  exact ⟨⟨o,k I (by simp) o ho,r⟩,k a (by simp) _ g⟩
 item:=fun i s Q E hi st q=>by
  obtain ⟨x,g⟩:=st
  have hT:=x.type
  obtain ⟨o,ho,hc,hdI⟩:=x
  have hf:=X.fits
  have hd:=X.dt
  unfold pyNext
  refine wpAny_bind (wpAny_attempt (wpAny_callSpecial?_slot (name:=Str.ofString "__next__") hT b_h (wpAny_call_entry b_h hT d_e ?_ (d_C _))))
  refine wpAny_bind (wpAny_pure (wpAny_bind (wpAny_fieldsOf ho hdI ?_)))
  show wpAny _ _ (setEntries a >>= _) _ _ s
  unfold setEntries
  refine wpAny_bind (wpAny_bind (wpAny_setState_of g hd hf (wpAny_pure ?_)))
  rw [List.size_toArray]
  refine wpAny_ite_split (fun z=>absurd z (by simp)) fun _=>?_
  refine wpAny_bind (setNextS (i:=i) g X (Nat.le_of_lt hi) (fun v hv=>?_) fun z=>absurd z (Nat.ne_of_lt hi))
  show wpAny _ _ (setField (.ref I) 0 (rawInt (sSlot w l (i+1))) >>= _) _ _ s
  have g1:=Heap.get?_update_self (Obj.mapFields (·.setIfInBounds 0 (rawInt (sSlot w l (i+1))))) ho (Obj.isFreed_of_fields (Obj.data_mapFields hdI _))
  have d1:=Obj.data_mapFields hdI (·.setIfInBounds 0 (rawInt (sSlot w l (i+1))))
  refine wpAny_bind (wpAny_setField ho hdI (by simp) (wpAny_bind (wpAny_setField g1 d1 (by simp) ?_)))
  have g2:=Heap.get?_update_self (Obj.mapFields (·.setIfInBounds 1 (rawInt ((i:Int)+1)))) g1 (Obj.isFreed_of_fields (Obj.data_mapFields d1 _))
  have d2:=Obj.data_mapFields d1 (·.setIfInBounds 1 (rawInt ((i:Int)+1)))
  have sb:=(Heap.SameBut.update s.heap I (Obj.mapFields (·.setIfInBounds 0 (rawInt (sSlot w l (i+1)))))).trans (Heap.SameBut.update _ I (Obj.mapFields (·.setIfInBounds 1 (rawInt ((i:Int)+1)))))
  refine wpAny_pure ⟨_,rfl,wpAny_pure (q v _ s.toks hv ⟨⟨_,g2,?_,?_⟩,(sb.2 a hne).trans g⟩ fun b o' hb e=>(sb.2 b (fun z=>hb (by simp [z]))).trans e)⟩
  ·rw [Obj.cls_mapFields,Obj.cls_mapFields];exact hc
  ·rw [d2];simp [rawInt]
 done:=fun s Q E st q=>by
  obtain ⟨x,g⟩:=st
  have hT:=x.type
  obtain ⟨o,ho,hc,hdI⟩:=x
  have hf:=X.fits
  have hd:=X.dt
  unfold pyNext
  refine wpAny_bind (wpAny_attempt (wpAny_callSpecial?_slot (name:=Str.ofString "__next__") hT b_h (wpAny_call_entry b_h hT d_e ?_ (d_C _))))
  refine wpAny_bind (wpAny_pure (wpAny_bind (wpAny_fieldsOf ho hdI ?_)))
  show wpAny _ _ (setEntries a >>= _) _ _ s
  unfold setEntries
  refine wpAny_bind (wpAny_bind (wpAny_setState_of g hd hf (wpAny_pure ?_)))
  rw [List.size_toArray]
  refine wpAny_ite_split (fun z=>absurd z (by simp)) fun _=>?_
  refine wpAny_bind (setNextS (i:=es.length) g X (Nat.le_refl _) (fun v hv=>?_) fun _=>?_)
  ·rw [List.getElem?_eq_none (by rw [d_a.length_eq,List.length_map];exact Nat.le_refl _)] at hv
   cases hv
  ·show wpAny _ _ (setField (.ref I) 2 .none >>= _) _ _ s
   refine wpAny_bind (wpAny_setField ho hdI (by simp) (wpAny_bind ?_))
   simp only [newExc,newTuple]
   refine wpAny_bind (wpAny_newObj_type ?_ (by size_fits))
   refine wpAny_bind (m:=firstArgMember _ _) (wpAny_of_eq (a:=Value.none) (by first | rfl | (simp only [firstArgMember];rfl)) (wpAny_newObj_type ?_ (by size_fits)))
   simp only [raiseNew]
   refine wpAny_bind (wpAny_handled ?_)
   rw [show A.in1.handled=none from hh]
   refine wpAny_bind (wpAny_pure (wpAny_throw ?_))
   refine wpAny_bind (wpAny_isInstance (T:="StopIteration") (b:=true) ⟨_,Heap.get?_push_size _ rfl,rfl⟩ isSubtype_stop (wpAny_pure (q _ s.toks fun b o' hb e=>?_)))
   exact ((Heap.SameBut.update s.heap I (Obj.mapFields (·.setIfInBounds 2 .none))).extBut.push _).push _ b o' (fun z=>hb (by simp [z])) e
 self:=fun i s Q E st q=>by
  have hT:=st.1.type
  refine wpAny_pyIter_slot hT d_w (wpAny_call_entry d_w hT f_n (show wpAny _ _ (ret (.ref I)) _ _ s from ?_) (args_si_iter _))
  exact wpAny_pure ⟨_,rfl,"set_iterator",_,hT,b_h.lookup,q⟩
theorem iterS (ho:s.heap.get? a=some oS) (X:f_o w oS es ep T l)
  (q:Q (.ref s.heap.objs.size) { s with heap:=s.heap.push { cls:=.type "set_iterator",data:=.fields #[rawInt (sSlot w l 0),rawInt (0:Nat),.ref a,rawInt es.length,rawInt ep] } }):wpAny (model P w) A (pyIter (.ref a)) Q E s:=by
 obtain ⟨t1,t2,t3,t4,t5,t6,t7⟩:=T
 obtain rfl:t7=true:=X.gd.pn
 obtain rfl:t5=sLed w:=X.gd.ld
 have hT:s.TypeIs (.ref a) "set":=⟨oS,ho,X.ex.1⟩
 have hf:=X.fits
 have hd:=X.dt
 have hx:=X.ex
 refine wpAny_pyIter_slot hT PySem.F.slot_set_iter (wpAny_call_entry PySem.F.slot_set_iter hT entry_s_iter ?_ (PySem.F.args_set_iter_1 _))
 unfold Builtin.«frozenset.__iter__»
 refine wpAny_bind (show wpAny _ _ (pure a) _ _ s from wpAny_pure ?_)
 unfold Builtin.Frozenset.sizeOf setEntries
 refine wpAny_bind (wpAny_bind (wpAny_bind (wpAny_setState_of ho hd hf (wpAny_pure (wpAny_pure ?_)))))
 unfold setDrawn
 refine wpAny_bind (wpAny_bind (wpAny_setState_of ho hd hf ?_))
 unfold setsByText
 refine wpAny_bind (wpAny_bind (wpAny_askSetting (wpAny_pure (wpAny_pure ?_))))
 have e:(!(model P w).w.params.followText "set-order"&&false)=false:=by simp
 refine wpAny_ite_split (fun z=>absurd (e.symm.trans z) Bool.false_ne_true) fun _=>wpAny_bind (wpAny_pure ?_)
 unfold setEpoch
 refine wpAny_bind (wpAny_bind (wpAny_setState_of ho hd hf (wpAny_pure ?_)))
 refine wpAny_bind (wpAny_newObj_type (wpAny_pure ⟨_,rfl,"set_iterator",_,⟨_,Heap.get?_push_size _ rfl,rfl⟩,b_h.lookup,?_⟩))
 have e2:(sSlot w l 0:Int)=0:=by unfold sSlot;split <;> rfl
 rw [e2] at q
 simpa [rawInt] using q
theorem hintS (hT:s.TypeIs (.ref a) "set") (h:Q false s):wpAny (model P w) A (Builtin.List.listLengthHint (.ref a)) Q E s:=by
 unfold Builtin.List.listLengthHint
 refine wpAny_bind (wpAny_specialOf hT PySem.F.slot_set_len.lookup ?_)
 generalize hid:("set.__len__":String)=i0
 wp_delta
 rw [show splitId i0=some ("set","__len__") from by subst hid;decide +kernel]
 subst hid
 refine wpAny_bind (wpAny_isInstance (T:="set") (b:=true) hT (by rw [isSubtype_type];kernel_rfl) (wpAny_ite_split (fun z=>absurd z (by decide)) fun _=>?_))
 exact wpAny_ite_split (fun _=>wpAny_bind (wpAny_typeOf hT (wpAny_pure h))) fun z=>absurd (by decide +kernel) z
theorem srcS (X:f_o w oS es ep T l):
  PySem.W.KdlSrc P w "set" a a es.length (fun i v=>(sOrd w a es ep)[i]?=some v) (fun h=>h.get? a=some oS) where
 type:=fun _ ho=>⟨oS,ho,X.ex.1⟩
 there:=fun _ ho=>⟨Heap.lt_size ho,Heap.lt_size ho⟩
 keep:=fun _ _ ho k=>k a (.inl rfl) _ ho
 notList:=by decide
 notTuple:=by decide
 hint:=fun _ _ _ _ ho q=>hintS ⟨oS,ho,X.ex.1⟩ q
 iter:=fun _ _ hh ho=>⟨_,_,(fun _ _ q=>iterS ho X q),walkS hh X (Nat.ne_of_lt (Heap.lt_size ho)),⟨⟨_,Heap.get?_push_size _ rfl,rfl,rfl⟩,Heap.get?_push_of_some _ ho⟩⟩
theorem ints_perm {l l':List Value} (p:l'.Perm l):∀{ns:List Int},IntsAre l ns->∃ns',IntsAre l' ns'/\ns'.Perm ns:=by
 induction p with
 | nil=>exact fun h=>⟨_,h,.refl _⟩
 | cons x p ih=>
  intro ns h
  cases h with
  | cons n t h=>
   obtain ⟨ns',a1,a2⟩:=ih h
   exact ⟨n::ns',.cons n t a1,a2.cons n⟩
 | swap x y l=>
  intro ns h
  cases h with
  | cons n t h=>cases h with
   | cons n' t' h=>exact ⟨_,.cons n' t' (.cons n t h),.swap _ _ _⟩
 | trans p1 p2 i1 i2=>
  intro ns h
  obtain ⟨n1,a1,a2⟩:=i2 h
  obtain ⟨n2,b1,b2⟩:=i1 a1
  exact ⟨n2,b1,b2.trans a2⟩
theorem el_ints:∀{es:List (Int×Value)},(∀e∈es,Elt e)->IntsAre (es.map (·.2)) ((keyL es).map fun (n:Nat)=>(n:Int))
 | [],_=>.nil
 | x::es,h=>by
  have ih:=el_ints (es:=es) fun e he=>h e (by simp [he])
  obtain ⟨n,t,hn,rfl⟩:=h x (by simp)
  exact .cons (n:Int) t ih
def upL (ns:List Nat):List Nat:=(List.range 40).filter fun k=>decide (k∈ns)
theorem e_E (h:∀x∈ns,x<40) (k:Nat):k∈upL ns↔k∈ns:=by
 unfold upL
 rw [List.mem_filter,List.mem_range,decide_eq_true_eq]
 exact ⟨fun z=>z.2,fun z=>⟨h k z,z⟩⟩
theorem up_nd (ns:List Nat):(upL ns).Nodup:=List.nodup_range.filter _
theorem up_ris (ns:List Nat):(upL ns).Pairwise (· < ·):=List.pairwise_lt_range.filter _
theorem up_le (ns:List Nat):(upL ns).length≤40:=Nat.le_trans (List.length_filter_le _ _) (by rw [List.length_range];exact Nat.le_refl _)
theorem up_up (ns:List Nat):((upL ns).map fun (n:Nat)=>(n:Int)).Pairwise (·≤·):=by
 rw [List.pairwise_map]
 exact (up_ris ns).imp fun h=>by omega
theorem up_congr (h:∀x,x∈ns↔x∈ms):upL ns=upL ms:=by
 unfold upL
 refine List.filter_congr fun x _=>?_
 rw [Bool.eq_iff_iff,decide_eq_true_eq,decide_eq_true_eq]
 exact h x
theorem key_up (hE:∀e∈es,Elt e) (nd:(keyL es).Nodup) (h:∀x,x∈keyL es↔x∈ns):(keyL es).Perm (upL ns):=by
 have lt:∀x∈ns,x<40:=fun x hx=>key_lt hE x ((h x).mpr hx)
 exact (List.perm_ext_iff_of_nodup nd (up_nd ns)).mpr fun x=>(h x).trans (e_E lt x).symm
theorem collS {T:String} (K:PySem.W.KdlSrc P w T a a n Pv OK) (hh:A.handled=none) (hok:OK s.heap) (hn:n≤sizeLine)
  (q:∀(h':Heap) (tk:Nat) (acc:Array Value),s.heap.objs.size≤h'.objs.size->(∀b o,s.heap.get? b=some o->h'.get? b=some o)->ItemsOf Pv acc n->R acc.toList { s with heap:=h',toks:=tk }):wpAny (model P w) A (collect (.ref a)) R E s:=by
 have lt:=(K.there _ hok).1
 unfold collect
 refine wpAny_bind (wpAny_runValue (codeAny_builtin entry_proto_collect' ?_))
 rw [Around.under_plainId PySem.F.plain_proto_collect _]
 refine (show wpAny _ A.in1 (newList [] >>= fun l=>again (.builtin "list.__iadd__" ⟨[l,.ref a],[]⟩)) _ _ s from wpAny_bind (wpAny_newObj_type (wpAny_pure ⟨plainId_quiet PySem.F.plain_list_iadd _,codeAny_builtin entry_list_iadd' ?_⟩)))
 rw [Around.under_plainId PySem.F.plain_list_iadd _]
 have g0:(s.heap.push { cls:=.type "list",data:=.seq ([]:List Value).toArray }).get? s.heap.objs.size=some { cls:=.type "list",data:=.seq #[] }:=Heap.get?_push_size _ rfl
 have key:=PySem.W.kdl_extend (A:=A) (s:={ s with heap:=s.heap.push { cls:=.type "list",data:=.seq ([]:List Value).toArray } })
  (R:=fun (r:Result) (s':Shared)=>∃(h':Heap) (tk:Nat) (acc:Array Value) (c:Nat),r=.ok (.ret (.ref s.heap.objs.size))/\s'={ s with heap:=h',toks:=tk }/\(∀b o,s.heap.get? b=some o->h'.get? b=some o)/\
   h'.get? s.heap.objs.size=some { cls:=.type "list",dict:=none,data:=.seq acc c,slots:=#[] }/\ItemsOf Pv acc n)
  K hh (K.keep _ _ hok fun b _ o e=>Heap.get?_push_of_some _ e) s.heap.objs.size (Nat.ne_of_gt lt) (Nat.ne_of_gt lt) (.ref s.heap.objs.size) 0 g0
  (fun h' tk acc c k g z=>⟨h',tk,acc,c,rfl,rfl,fun b o e=>k b o (Nat.ne_of_lt (Heap.lt_size e)) (Heap.get?_push_of_some _ e),g,z⟩) hn
 refine (show wpAny _ A.in1 (Builtin.List.listExtendWith (.ref s.heap.objs.size) (.ref a) (.ref s.heap.objs.size)) _ _ _ from wpAny_mono key (fun f s' x=>?_) fun e s' x=>?_)
 ·cases f with
  | done f=>
   obtain ⟨h',tk,acc,c,e,rfl,k,g,z⟩:=x
   cases e
   exact (show wpAny _ A (load s.heap.objs.size >>= _) _ _ _ from wpAny_bind (wpAny_load g (wpAny_pure (q h' tk acc (Nat.le_of_lt (Heap.lt_size g)) k z))))
  | again c1=>
   refine ⟨x.1,codeAny_mono x.2 fun r s2 y=>?_⟩
   obtain ⟨h',tk,acc,c,rfl,rfl,k,g,z⟩:=y
   exact (show wpAny _ A (load s.heap.objs.size >>= _) _ _ _ from wpAny_bind (wpAny_load g (wpAny_pure (q h' tk acc (Nat.le_of_lt (Heap.lt_size g)) k z))))
 ·obtain ⟨_,_,_,_,e',_⟩:=x
  cases e'
theorem sortG (hh:A.handled=none) (hS:SetI w s.heap a ns)
  (q:∀(p:Addr) (h':Heap) (tk n:Nat) (vs:List Value),s.heap.objs.size≤p->(∀b o,s.heap.get? b=some o->h'.get? b=some o)->IntsAre vs ((upL ns).map fun (n:Nat)=>(n:Int))->h'.get? p=some { cls:=.type "list",data:=.seq vs.toArray n }->Q (.ref p) { s with heap:=h',toks:=tk }):
  wpAny (model P w) A (call (.builtin "sorted") [.ref a]) Q E s:=by
 obtain ⟨oS,es,ep,T,l,ho,X,hns⟩:=hS
 have few:=X.few
 have pk:=key_up X.el X.nd hns
 refine PySem.Calls.call_function_entry kind_sorted plain_sorted entry_sorted (args_sorted1 _) ?_
 unfold Builtin.«sorted»
 refine wpAny_bind (m:=checkCount "sorted" 1 1 _) (wpAny_pure (wpAny_bind (collS (A:=A.in1) (srcS (P:=P) X) hh ho (by rw [sizeLine_eq];omega) fun h' tk acc hsz kp hacc=>?_)))
 have hlen:acc.toList.length=es.length:=by rw [Array.length_toList];exact hacc.1
 have hol:(sOrd w a es ep).length=es.length:=by rw [d_a.length_eq,List.length_map]
 have hacc':acc.toList=sOrd w a es ep:=by
  refine List.ext_getElem (by rw [hlen,hol]) fun j j1 j2=>?_
  have:(sOrd w a es ep)[j]?=some acc.toList[j]:=hacc.2 j acc.toList[j] (by rw [<- Array.getElem?_toList];exact List.getElem?_eq_getElem j1)
  rw [List.getElem?_eq_getElem j2] at this
  exact (Option.some.inj this).symm
 refine wpAny_bind (wpAny_newList ?_ (by rw [hlen,sizeLine_eq];omega))
 have hg:(h'.push { cls:=.type "list",data:=.seq acc.toList.toArray }).get? h'.objs.size=some (seqObj "list" acc.toList.toArray 0):=Heap.get?_push_size _ rfl
 have hI:∃us,IntsAre acc.toList us/\us.Perm ((upL ns).map fun (n:Nat)=>(n:Int)):=by
  rw [hacc']
  obtain ⟨ns1,i1,i2⟩:=ints_perm d_a (el_ints X.el)
  exact ⟨ns1,i1,i2.trans (pk.map _)⟩
 obtain ⟨us,hI,hp⟩:=hI
 refine wpAny_bind (wpAny_holding ?_)
 refine wpAny_call_entry slot_list_sort ⟨_,hg,rfl⟩ entry_list_sort (list_sort_tree hg hI (by rw [hlen];omega) fun out ns' i1 i2 i3=>?_) (args_list_sort _)
 have en:ns'=(upL ns).map fun (n:Nat)=>(n:Int):=List.Perm.eq_of_pairwise (fun x y _ _ h1 h2=>Int.le_antisymm h1 h2) i3 (up_up ns) (i2.trans hp)
 subst en
 refine ⟨_,rfl,wpAny_pure ⟨_,rfl,?_⟩⟩
 obtain ⟨e,he⟩:=sortedHeap_at (out:=out) hg
 refine q h'.objs.size _ tk e out.toList ?_ (fun b o z=>?_) i1 (by simpa using he)
 ·exact hsz
 ·have hb:=Heap.lt_size (kp b o z)
  exact (sortedHeap_old (Nat.ne_of_lt hb) (by rw [size_push'];exact Nat.lt_succ_of_lt hb)).trans (Heap.get?_push_of_some _ (kp b o z))
end
section
variable {P:Program} {w:World} {A:Around} {E:Value->Shared->Prop} {s:Shared}
theorem callGT {its:List Value} (hh:A.handled=none) (hl:s.heap.IsTuple l its.toArray) (hn:ns.length=its.length) (h8:∀x∈ns,x<40) (hv:∀(i:Nat) (v:Value),its[i]?=some v->∃t,v=.int ((ns.getD i 0:Nat):Int) t)
  (q:∀(h':Heap) (tk:Nat),SetI w h' s.heap.objs.size ns->(∀b o,s.heap.get? b=some o->h'.get? b=some o)->Q (.ref s.heap.objs.size) { s with heap:=h',toks:=tk }):
  wpAny (model P w) A (call (.type "set") [.ref l]) Q E s:=by
 obtain ⟨c,tl,mro⟩:=PySem.F.called_set.mro
 have made:=PySem.F.called_set.made
 have sub:=PySem.F.called_set.sub
 refine wpAny_call (codeAny_of_tree (show wpAny _ _ (callAny (.type "set") _) _ _ _ from ?_))
 refine wpAny_pure ⟨Code.quiet_builtin _ (by decide +kernel),codeAny_builtin PySem.F.entry_type_call ?_⟩
 rw [Around.under_plain (weight_type_call_type "set" [.ref l] []) rfl]
 have k1:=PySem.F.called_set.notType
 have k2:=PySem.F.called_set.canCreate
 have k3:=PySem.F.typeCall_set_1 (.ref l)
 repeat (any_goals (first | assumption | wp_step))
 refine codeAny_mono (newG (.ref l) (E:=E) (Q1:=fun ob s1=>ob=.ref s.heap.objs.size/\s1={ s with heap:=s.heap.push { cls:=.type "set",dict:=none,data:=.set #[] 0 (.fresh 0 0 (sLed w)) } }) ⟨rfl,rfl⟩) fun r s1 hr=>?_
 cases r with
 | error e=>exact hr
 | ok fl=>
  cases fl with
  | ret ob=>
   obtain ⟨rfl,rfl⟩:=hr
   have gS:(s.heap.push { cls:=.type "set",dict:=none,data:=.set #[] 0 (.fresh 0 0 (sLed w)) }).get? s.heap.objs.size=some { cls:=.type "set",dict:=none,data:=.set #[] 0 (.fresh 0 0 (sLed w)) }:=Heap.get?_push_size _ rfl
   have tS:Shared.TypeIs { s with heap:=s.heap.push { cls:=.type "set",dict:=none,data:=.set #[] 0 (.fresh 0 0 (sLed w)) } } (.ref s.heap.objs.size) "set":=⟨_,gS,rfl⟩
   have k4:=PySem.F.called_set.init.lookup
   have k5:=PySem.F.called_set.init.bind (.ref s.heap.objs.size)
   repeat (any_goals (first | assumption | wp_step))
   refine codeAny_mono (codeAny_call_builtin (R:=wants (fun r s2=>r=.none/\∃h' tk,s2={ s with heap:=h',toks:=tk }/\SetI w h' s.heap.objs.size ns/\∀b o,s.heap.get? b=some o->h'.get? b=some o) E) PySem.F.called_set.init.plain PySem.F.entry_set_init (check_set_init_1 tS ?_)) fun r2 s2 hr2=>?_
   ·have hlS:l<s.heap.objs.size:=let ⟨_,z,_⟩:=hl;Heap.lt_size z
    have hl1:=hl.push { cls:=.type "set",dict:=none,data:=.set #[] 0 (.fresh 0 0 (sLed w)) }
    obtain ⟨ol,hol,hcl,nl,hdl⟩:=hl
    obtain ⟨oc,od,oD,os⟩:=ol
    simp only at hcl hdl
    subst hcl;subst hdl
    have hol':(s.heap.push { cls:=.type "set",dict:=none,data:=.set #[] 0 (.fresh 0 0 (sLed w)) }).get? l=some { cls:=.type "tuple",dict:=od,data:=.seq its.toArray nl,slots:=os }:=Heap.get?_push_of_some _ hol
    have k6:=PySem.F.sub_tuple_set
    have k7:=PySem.F.sub_tuple_frozenset
    have k8:(Value.type "tuple"==Value.type "dict")=false:=by decide
    unfold Builtin.«set.__init__» noKeywords Builtin.Frozenset.updateFrom
    generalize hPI:pyIter=PI
    wp_walk
    subst hPI
    refine wpAny_pyIter_tuple hl1 (wpAny_bind (wpAny_runValue ?_))
    have k9:A.in1.in1.in1.handled=none:=by simp [hh]
    have n1:l≠(s.heap.push { cls:=.type "set",dict:=none,data:=.set #[] 0 (.fresh 0 0 (sLed w)) }).objs.size:=by rw [Heap.size_push];exact Nat.ne_of_lt (Nat.lt_succ_of_lt hlS)
    have n2:s.heap.objs.size∉[(s.heap.push { cls:=.type "set",dict:=none,data:=.set #[] 0 (.fresh 0 0 (sLed w)) }).objs.size,l]:=by
     rw [Heap.size_push]
     simp only [List.mem_cons,List.not_mem_nil,or_false,not_or]
     exact ⟨Nat.ne_of_lt (Nat.lt_succ_self _),Nat.ne_of_gt hlS⟩
    refine loopG (Walks.tuple k9 _ l n1 its.toArray) n2 (by rw [hn,List.size_toArray]) h8 (fun i v z=>hv i v (by simpa using z)) _ 0 _ rfl (Nat.zero_le _) ⟨⟨_,Heap.get?_push_size _ rfl,rfl,rfl⟩,hl1.push _⟩ (fresh_I (Heap.get?_push_of_some _ gS)) fun h' tk kp x=>?_
    refine wpAny_pure (wpAny_pure ⟨rfl,h',tk,rfl,x,fun b o e=>kp b o ?_ (Heap.get?_push_of_some _ (Heap.get?_push_of_some _ e))⟩)
    have hb:=Heap.lt_size e
    simp only [List.mem_cons,List.not_mem_nil,or_false,not_or]
    refine ⟨Nat.ne_of_lt hb,?_⟩
    rw [Heap.size_push]
    exact Nat.ne_of_lt (Nat.lt_succ_of_lt hb)
   ·cases r2 with
    | error e=>exact hr2
    | ok f2=>
     cases f2 with
     | ret r=>
      obtain ⟨rfl,h',tk,rfl,x,kp⟩:=hr2
      repeat (any_goals (first | assumption | wp_step))
      exact q _ _ x kp
     | _=>exact hr2.elim
  | _=>exact hr.elim
end
end L2
namespace RA
open PySem PyProof.Rows L2
def setO (w:World) (a:Addr) (ns:List Nat):HO:=.ext fun h=>SetI w h a ns
theorem setO_ok (x:SetI w h a ns):a_V P w H h a (setO w a ns):=⟨x,let ⟨o,_,_,_,_,e,_⟩:=x;⟨o,e⟩,fun h1 h2 z k=>SetI.keep z fun o e=>k o e⟩
theorem ints_at:∀{ns:List Nat} {us:List Value},Vals (intsV ns) us->∀(i:Nat) (v:Value),us[i]?=some v->∃t,v=.int ((ns.getD i 0:Nat):Int) t
 | [],_,r,i,v,e=>by cases r;simp at e
 | n::ns,_,r,i,v,e=>by
  cases r with
  | cons q rr=>
   obtain ⟨t,rfl⟩:=q
   cases i with
   | zero=>cases e;exact ⟨t,rfl⟩
   | succ i=>exact ints_at rr i v e
theorem b_Y:∀{ns:List Nat} {vs:List Value},IntsAre vs (ns.map fun (n:Nat)=>(n:Int))->Vals (intsV ns) vs
 | [],_,h=>by cases h;exact .nil
 | n::ns,_,h=>by cases h with | cons _ t h=>exact .cons ⟨t,rfl⟩ (b_Y h)
section
variable {X:Cx}
theorem call_setG (hc:X.calm=true):c_s X (.type "set") (fun xs H Q=>∃(p:Addr) (ns:List Nat),xs=[.ref p]/\SqL X.K H p (intsV ns)/\(∀n∈ns,n<40)/\∀a,H a=none->Q (.ref a) (upd H a (setO X.w a ns))):=by
 intro pins s σ H xs us Q I r h
 obtain ⟨p,ns,rfl,hq,h8,q⟩:=h
 obtain ⟨u,rfl,rx⟩:=c_K r
 cases rx
 obtain ⟨its,r',pl,hz⟩:=I.list hq
 refine callG (ns:=ns) (I.ok.hd hc) pl.isList (by rw [<- r'.length];simp [intsV]) h8 (ints_at r') fun h' tk x kp=>?_
 exact ⟨.ref s.heap.objs.size,_,I.laid (t':=tk) kp (Nat.le_refl _) (setO_ok x),rfl,q _ (I.hok.fresh (Nat.le_refl _))⟩
theorem call_setT (hc:X.calm=true):c_s X (.type "set") (fun xs H Q=>∃(p:Addr) (ns:List Nat),xs=[.ref p]/\SqT X.K H p (intsV ns)/\(∀n∈ns,n<40)/\∀a,H a=none->Q (.ref a) (upd H a (setO X.w a ns))):=by
 intro pins s σ H xs us Q I r h
 obtain ⟨p,ns,rfl,hq,h8,q⟩:=h
 obtain ⟨u,rfl,rx⟩:=c_K r
 cases rx
 obtain ⟨its,r',pl,hz⟩:=I.tuple hq
 refine callGT (ns:=ns) (I.ok.hd hc) pl (by rw [<- r'.length];simp [intsV]) h8 (ints_at r') fun h' tk x kp=>?_
 exact ⟨.ref s.heap.objs.size,_,I.laid (t':=tk) kp (Nat.le_refl _) (setO_ok x),rfl,q _ (I.hok.fresh (Nat.le_refl _))⟩
theorem call_sortG (hc:X.calm=true):c_s X (.builtin "sorted") (fun xs H Q=>∃(a:Addr) (ns:List Nat),xs=[.ref a]/\H a=some (setO X.w a ns)/\∀p,H p=none->Q (.ref p) (upd H p (.lst (intsV (upL ns))))):=by
 intro pins s σ H xs us Q I r h
 obtain ⟨a,ns,rfl,ha,q⟩:=h
 obtain ⟨u,rfl,rx⟩:=c_K r
 cases rx
 refine sortG (I.ok.hd hc) (show SetI X.w s.heap a ns from (I.hok a _ ha).1) fun p h' tk n vs hp kp hI hg=>?_
 refine ⟨.ref p,_,I.laid (t':=tk) (o:=.lst (intsV (upL ns))) kp hp ⟨?_,vs,n,b_Y hI,hg⟩,rfl,q _ (I.hok.fresh hp)⟩
 have:=up_le ns
 rw [intsV,List.length_map,sizeLine_eq]
 omega
end
end RA
namespace L2
open PySem PySem.Spec PyProof.Rows
section
variable {X:Cx}
def TupG (H:Hp) (a:Addr) (xs:List V):Prop:=∃o:Obj,o.dict=none/\o.slots=#[]/\H a=some (.frz o (.tup xs))
theorem TupG.f (h:TupG H a xs):TupF H a xs:=let ⟨o,d,_,e⟩:=h;⟨o,d,e⟩
theorem TupG.same (h:TupG H a xs) (s:Same H H'):TupG H' a xs:=let ⟨o,d,d2,e⟩:=h;⟨o,d,d2,s _ _ e⟩
theorem call_tupleG (K:PySem.W.Frag) (hK:X.K=K:=by rfl):c_s X (.type "tuple") (fun xs H Q=>∃p ys,xs=[.ref p]/\SqL K H p ys/\∀l o,H l=none->o.dict=none->o.slots=#[]->Q (.ref l) (upd H l (.frz o (.tup ys)))):=by
 subst hK
 intro pins s σ H xs us Q I r h
 obtain ⟨p,ys,rfl,hq,q⟩:=h
 obtain ⟨u,rfl,rx⟩:=c_K r
 cases rx
 obtain ⟨its,r',pl,hz⟩:=I.list hq
 have hlen:=r'.length
 refine call_tuple_list pl.isList (fun h' kp=>?_) (by simp only [List.size_toArray] <;> omega)
 have I1:Inv X pins σ H { s with heap:=h' }:=I.kept (t':=s.toks) kp
 have e:(h'.push { cls:=.type "tuple",data:=.seq its.toArray }).get? h'.objs.size=some { cls:=.type "tuple",data:=.seq its.toArray }:=Heap.get?_push_size _ rfl
 exact ⟨.ref h'.objs.size,_,I1.laid (o:=.frz { cls:=.type "tuple",data:=.seq its.toArray } (.tup ys)) (t':=s.toks) (fun b o e=>Heap.get?_push_of_some _ e) (Nat.le_refl _) ⟨e,hz,its,r',IsTup.new _ _⟩,rfl,q _ _ (I1.hok.fresh (Nat.le_refl _)) rfl rfl⟩
def rExtendT:V->List V->Hp->VK->Prop:=fun x vs H Q=>∃l b xs zs,x=.ref l/\vs=[.ref b]/\H l=some (.lst xs)/\TupG H b zs/\xs.length+zs.length≤sizeLine/\Q .non (upd H l (.lst (xs++zs)))
theorem mt_extendT:MtM X "list.extend" rExtendT:=by
 intro pins s σ H x vs v us Q I rx rv h
 obtain ⟨l,b,xs,zs,rfl,rfl,hH,⟨o,d1,d2,eb⟩,hz,q⟩:=h
 cases rx
 obtain ⟨u,rfl,ru⟩:=rv.one
 cases ru
 obtain ⟨z,its,n,r,hl,e⟩:=I.lstM hH
 obtain ⟨gb,hl2,its2,r2,⟨o2,g2,c2,n2,dd⟩⟩:=I.hok b _ eb
 rw [gb] at g2
 obtain ⟨oc,od,oD,os⟩:=o
 cases g2
 dsimp only at c2 dd d1 d2
 subst c2 dd d1 d2
 have e2l:=r2.length
 have e1l:=r.length
 have hsz:its.toArray.size+its2.toArray.size≤sizeLine:=by rw [List.size_toArray,List.size_toArray];omega
 refine call_meets F.slot_list_extend ⟨_,e,rfl⟩ F.entry_list_extend (F.args_list_extend_2 _ _)
  (AutoSeq1.list_extend_list_tuple_0 l its.toArray n b its2.toArray n2 (by rw [notLongL hsz,Bool.and_false];exact Bool.false_ne_true) (by rw [List.size_toArray];omega) (by omega)) ⟨e,gb,?_⟩
 refine ⟨.non,_,I.lset (its':=its++its2) hH e (by simp) (r.append r2) ?_,rfl,q⟩
 rw [List.length_append]
 omega
end
end L2
namespace RA
open PySem L2
section
variable {L:List Nat} {W ks ws:List (List Nat)} {B:List Bool}
theorem get_lt (e:ks[i]?=some k):i<ks.length:=(List.getElem?_eq_some_iff.mp e).1
theorem get_D (e:ks[i]?=some k):ks.getD i []=k:=by rw [List.getD_eq_getElem?_getD,e];rfl
theorem in_app {u v:List Nat} (hu:∀c∈u,c∈L) (hv:∀c∈v,c∈L):∀c∈u++v,c∈L:=fun c hc=>(List.mem_append.mp hc).elim (hu c) (hv c)
theorem Tb.word (h:Tb L W B ks ws) (hq:q<ks.length):∃v:List Nat,(∀c∈v,c∈L)/\ks[q]?=some (actN L W v):=by
 have bf:=h.fw.bf
 obtain ⟨v,hv⟩:∃v,ws[q]?=some v:=⟨ws[q]'(by rw [<- bf.len];exact hq),List.getElem?_eq_getElem _⟩
 obtain ⟨x1,x2⟩:=bf.lead q _ v (getD_some (d:=[]) hq) hv
 rw [c_T _ _ rfl] at x2
 exact ⟨v,x1,by rw [x2];exact getD_some hq⟩
theorem Tb.eq_at (h:Tb L W B ks ws) {i j:Nat} (hi:ks[i]?=some k) (hj:ks[j]?=some k):i=j:=by
 have z1:=e_J h.fw.bf.nd hi
 have z2:=e_J h.fw.bf.nd hj
 omega
theorem Tb.cellW (h:Tb L W B ks ws) (ha:∀c∈a,c∈L) (hi:ks[i]?=some (actN L W a)) (hj:ks[j]?=some (actN L W b)):ks[cellT ks i j]?=some (actN L W (a++b)):=by
 have z:=h.jn_at (get_lt hi) (get_lt hj)
 rw [get_D hi,get_D hj,<- act_app h.ma ha] at z
 exact z
theorem d_u:x∈a_S ks i↔∃q,q<ks.length/\cellT ks i q=x:=by
 constructor
 ·intro hx
  obtain ⟨q,hq,e⟩:=List.getElem_of_mem hx
  refine ⟨q,by rw [b_g] at hq;exact hq,?_⟩
  unfold cellT
  rw [List.getD_eq_getElem?_getD,List.getElem?_eq_getElem hq,e]
  rfl
 ·rintro ⟨q,hq,rfl⟩
  unfold cellT
  rw [List.getD_eq_getElem?_getD,List.getElem?_eq_getElem (by rw [b_g];exact hq)]
  exact List.getElem_mem _
def colT (ks:List (List Nat)) (i:Nat):List Nat:=(List.range ks.length).map fun p=>cellT ks p i
def botT (ks:List (List Nat)) (ps:List Nat):List Nat:=ps.flatMap fun p=>a_S ks p
end
theorem rm_kvs (h:RmAt P w H d false ts):∃kvs,H d=some (hdO (b_c P w) d kvs)/\kvs.length=ts.length:=by
 unfold RmAt at h
 rw [if_neg (by decide)] at h
 obtain ⟨kvs,a,_,b,_⟩:=h
 exact ⟨kvs,a,b⟩
theorem rm_new:RmAt P w (L2.upd H d (newW P w d false)) d false []:=by
 unfold RmAt
 rw [if_neg (by decide)]
 exact ⟨[],upd_same,(fun x hx=>nomatch hx),rfl,(fun i k x h=>nomatch h)⟩
theorem call_setQ (hc:X.calm=true):c_s X (.type "set") (fun xs H Q=>∃(p:Addr) (ns:List Nat),xs=[.ref p]/\(SqL X.K H p (intsV ns)\/SqT X.K H p (intsV ns))/\(∀n∈ns,n<40)/\∀a,H a=none->Q (.ref a) (L2.upd H a (setO X.w a ns))):=by
 intro pins s σ H xs us Q I r h
 obtain ⟨p,ns,e,hq,h40,q⟩:=h
 rcases hq with hq | hq
 ·exact call_setG hc pins s σ H xs us Q I r ⟨p,ns,e,hq,h40,q⟩
 ·exact call_setT hc pins s σ H xs us Q I r ⟨p,ns,e,hq,h40,q⟩
theorem idx_beq {l:List (List Nat)}:@List.idxOf _ instBEqOfDecidableEq k l=List.idxOf k l:=by
 have h:∀a b:List Nat,(@BEq.beq _ instBEqOfDecidableEq a b)=(a==b):=fun a b=>by
  rw [Bool.eq_iff_iff]
  simp
 unfold List.idxOf
 congr 1
 funext x
 exact h x k
theorem call_setQK {X:Cx} (K:PySem.W.Frag) (w:World) (hc:X.calm=true) (hK:X.K=K:=by rfl) (hw:X.w=w:=by rfl):c_s X (.type "set") (fun xs H Q=>∃(p:Addr) (ns:List Nat),xs=[.ref p]/\(SqL K H p (intsV ns)\/SqT K H p (intsV ns))/\(∀n∈ns,n<40)/\∀a,H a=none->Q (.ref a) (L2.upd H a (setO w a ns))):=by
 subst hK hw
 exact call_setQ hc
theorem call_sortGK (w:World) (hc:X.calm=true) (hw:X.w=w:=by rfl):c_s X (.builtin "sorted") (fun xs H Q=>∃(a:Addr) (ns:List Nat),xs=[.ref a]/\H a=some (setO w a ns)/\∀p,H p=none->Q (.ref p) (L2.upd H p (.lst (intsV (upL ns))))):=by
 subst hw
 exact call_sortG hc
section
variable {κ:Type} [DecidableEq κ]
end
end RA
namespace L2
open PySem PySem.Spec PyProof.Rows
namespace Z3
open ZP
def b_B (h:Heap) (T:Addr) (a b c:Value):Prop:=h.get? T=some { cls:=.type "tuple",data:=.seq #[a,b,c] }
structure Ap3 (z TI TO i1 i2 i3:Addr):Prop where
 TIz:TI≠z
 TOz:TO≠z
 i1z:i1≠z
 i2z:i2≠z
 i3z:i3≠z
 TITO:TI≠TO
 TIi1:TI≠i1
 TIi2:TI≠i2
 TIi3:TI≠i3
 TOi1:TO≠i1
 TOi2:TO≠i2
 TOi3:TO≠i3
 i12:i1≠i2
 i13:i1≠i3
 i23:i2≠i3
section
variable {prog:Program} {w:World} {A:Around} {E:Value->Shared->Prop} {s:Shared} {z TI TO i1 i2 i3 T:Addr} {f1 f2 f3:List Addr} {n1 n2 n3 k:Nat} {P1 P2 P3:Nat->Value->Prop} {S1 S2 S3:Nat->Heap->Prop} {a b c0:Value} {b1:Bool} {oT:Obj}
theorem upd_tri (hT:b_B s.heap T a b c)
  (h:∀h',h'.get? T=some { cls:=.type "tuple",data:=.seq ((#[a,b,c]:Array Value).setIfInBounds k x) }->Heap.SameBut T s.heap h'->Q () { s with heap:=h' }):wpAny (model prog w) A (updateSeq T (·.setIfInBounds k x)) Q E s:=by
 refine wpAny_updateSeq hT rfl (h _ ?_ (Heap.SameBut.update ..))
 have g:=Heap.get?_update_self (Obj.mapSeq (·.setIfInBounds k x)) hT rfl
 simpa [Obj.mapSeq] using g
theorem frameOf {X:List Addr} (D:Draws prog w A i f n P S) (m:∀c∈f,c=i\/c∉X) (k:∀c o,c∉X->g.get? c=some o->g'.get? c=some o) (st:S j g) (e:∀o,g.get? i=some o->g'.get? i=some o):S j g':=
 D.frame _ _ _ st fun c hc=>by
  rcases m c hc with rfl | hn
  ·exact e
  ·exact fun o q=>k c o hn q
theorem toldL3 {Q:Value->Shared->Prop} (D1:Draws prog w A i1 f1 n1 P1 S1) (D2:Draws prog w A i2 f2 n2 P2 S2) (D3:Draws prog w A i3 f3 n3 P3 S3) (m1:∀c∈f1,c=i1\/c∉[z,TO,i1,i2,i3]) (m2:∀c∈f2,c=i2\/c∉[z,TO,i1,i2,i3]) (m3:∀c∈f3,c=i3\/c∉[z,TO,i1,i2,i3]) (ap:Ap3 z TI TO i1 i2 i3)
  (hz:IsZip s.heap z TI TO .none) (hTI:b_B s.heap TI (.ref i1) (.ref i2) (.ref i3)) (hTO:b_B s.heap TO a b c0) (h1:S1 k s.heap) (h2:S2 k s.heap) (h3:S3 k s.heap) (l1:k<n1) (l2:k<n2) (l3:k<n3)
  (hQ:∀x y u h' tk,P1 k x->P2 k y->P3 k u->IsZip h' z TI TO (rawInt s.heap.objs.size)->b_B h' TI (.ref i1) (.ref i2) (.ref i3)->S1 (k+1) h'->S2 (k+1) h'->S3 (k+1) h'->b_B h' s.heap.objs.size x y u->
   (∀c o,c∉[z,TO,i1,i2,i3]->s.heap.get? c=some o->h'.get? c=some o)->Q (.ref s.heap.objs.size) { s with heap:=h',toks:=tk }):
  wpAny (model prog w) A (Builtin.«zip.__next__» ⟨[.ref z],[]⟩) (fun fin s'=>∃v,fin=.done (.ret v)/\Q v s') E s:=by
 unfold Builtin.«zip.__next__»
 refine wpAny_bind (wpAny_of_eq (a:=(Value.ref z,[])) rfl (wpAny_bind (wpAny_field hz rfl (x:=.bool false) rfl (wpAny_bind (wpAny_field hz rfl (x:=.ref TI) rfl (wpAny_bind (wpAny_seqItems hTI rfl ?_)))))))
 refine wpAny_ite_false (by simp) (wpAny_bind ?_)
 unfold Builtin.SmallTypes.ownedTupleIsFree
 refine wpAny_bind (wpAny_field hz rfl (x:=.none) rfl (wpAny_pure (wpAny_ite_true (by decide) (wpAny_bind (wpAny_rule (wpAny_bind (wpAny_field hz rfl (x:=.ref TO) rfl (wpAny_bind (wpAny_setField_rec hz (by simp) fun g1 z1 c1=>?_)))))))))
 have k1:Keep [z,TO,i1,i2,i3] s.heap g1:=.one c1 (by simp)
 simp only [List.zipIdx_cons,List.zipIdx_nil,List.forIn_cons,List.forIn_nil]
 refine wpAny_bind (wpAny_bind (wpAny_bind (wpAny_onRaise (wpAny_bind (m:=Builtin.SmallTypes.nextOf (.ref i1)) (D1.item k _ _ _ l1 (frameOf D1 m1 k1.2 h1 fun o e=>(c1.2 i1 ap.i1z).trans e) fun x g2 t2 p1 d1 c2=>wpAny_pure ?_)))))
 have o2:b_B g2 TO a b c0:=(c2.2 TO ap.TOi1).trans ((c1.2 TO ap.TOz).trans hTO)
 have k2:=k1.trans (.one c2 (by simp))
 refine wpAny_bind (wpAny_seqItems o2 rfl (wpAny_bind (upd_tri o2 fun g3 o3 c3=>wpAny_bind (wpAny_letGo (wpAny_pure (wpAny_bind (wpAny_bind (wpAny_onRaise (wpAny_bind (m:=Builtin.SmallTypes.nextOf (.ref i2)) (D2.item k _ _ _ l2 (frameOf D2 m2 (k2.trans (.one c3 (by simp))).2 h2 fun o e=>?_) fun y g4 t4 p2 d2 c4=>wpAny_pure ?_))))))))))
 ·exact (c3.2 i2 ap.TOi2.symm).trans ((c2.2 i2 ap.i12.symm).trans ((c1.2 i2 ap.i2z).trans e))
 have k3:=k2.trans (.one c3 (by simp))
 have o4:b_B g4 TO x b c0:=(c4.2 TO ap.TOi2).trans o3
 have k4:=k3.trans (.one c4 (by simp))
 refine wpAny_bind (wpAny_seqItems o4 rfl (wpAny_bind (upd_tri o4 fun g5 o5 c5=>wpAny_bind (wpAny_letGo (wpAny_pure (wpAny_bind (wpAny_bind (wpAny_onRaise (wpAny_bind (m:=Builtin.SmallTypes.nextOf (.ref i3)) (D3.item k _ _ _ l3 (frameOf D3 m3 (k4.trans (.one c5 (by simp))).2 h3 fun o e=>?_) fun u g6 t6 p3 d3 c6=>wpAny_pure ?_))))))))))
 ·exact (c5.2 i3 ap.TOi3.symm).trans ((c4.2 i3 ap.i23.symm).trans ((c3.2 i3 ap.TOi3.symm).trans ((c2.2 i3 ap.i13.symm).trans ((c1.2 i3 ap.i3z).trans e))))
 have k5:=k4.trans (.one c5 (by simp))
 have o6:b_B g6 TO x y c0:=(c6.2 TO ap.TOi3).trans o5
 have k6:=k5.trans (.one c6 (by simp))
 refine wpAny_bind (wpAny_seqItems o6 rfl (wpAny_bind (upd_tri o6 fun g7 o7 c7=>wpAny_bind (wpAny_letGo (wpAny_pure (wpAny_pure ?_))))))
 replace o7:b_B g7 TO x y u:=o7
 have k7:Keep [z,TO,i1,i2,i3] s.heap g7:=k6.trans (.one c7 (by simp))
 have z7:IsZip g7 z TI TO .ellipsis:=(c7.2 z ap.TOz.symm).trans ((c6.2 z ap.i3z.symm).trans ((c5.2 z ap.TOz.symm).trans ((c4.2 z ap.i2z.symm).trans ((c3.2 z ap.TOz.symm).trans ((c2.2 z ap.i1z.symm).trans z1)))))
 have st1:S1 (k+1) g7:=frameOf D1 m1 (((((Keep.one (S:=[z,TO,i1,i2,i3]) c3 (by simp)).trans (.one c4 (by simp))).trans (.one c5 (by simp))).trans (.one c6 (by simp))).trans (.one c7 (by simp))).2 d1 fun o e=>(c7.2 i1 ap.TOi1.symm).trans ((c6.2 i1 ap.i13).trans ((c5.2 i1 ap.TOi1.symm).trans ((c4.2 i1 ap.i12).trans ((c3.2 i1 ap.TOi1.symm).trans e))))
 have st2:S2 (k+1) g7:=frameOf D2 m2 (((Keep.one (S:=[z,TO,i1,i2,i3]) c5 (by simp)).trans (.one c6 (by simp))).trans (.one c7 (by simp))).2 d2 fun o e=>(c7.2 i2 ap.TOi2.symm).trans ((c6.2 i2 ap.i23).trans ((c5.2 i2 ap.TOi2.symm).trans e))
 have st3:S3 (k+1) g7:=frameOf D3 m3 (Keep.one (S:=[z,TO,i1,i2,i3]) c7 (by simp)).2 d3 fun o e=>(c7.2 i3 ap.TOi3.symm).trans e
 refine wpAny_bind (wpAny_seqItems o7 rfl (wpAny_bind (wpAny_newTuple ?_)))
 unfold Builtin.SmallTypes.ownedTupleHandOut
 have z8:IsZip (g7.push { cls:=.type "tuple",data:=.seq #[x,y,u] }) z TI TO .ellipsis:=Heap.get?_push_of_some _ z7
 refine wpAny_bind (wpAny_bind (wpAny_setField_rec z8 (by simp) fun g9 z9 c9=>?_))
 replace z9:IsZip g9 z TI TO (rawInt g7.objs.size):=z9
 refine wpAny_setField_rec z9 (by simp) fun g10 z10 c10=>wpAny_pure ⟨_,rfl,?_⟩
 replace z10:IsZip g10 z TI TO (rawInt g7.objs.size):=z10
 have up:∀c o,c≠z->g7.get? c=some o->g10.get? c=some o:=fun c o hc e=>(c10.2 c hc).trans ((c9.2 c hc).trans (Heap.get?_push_of_some _ e))
 have zlt:g7.objs.size≠z:=Nat.ne_of_gt (Heap.lt_size z7)
 have new:b_B g10 g7.objs.size x y u:=(c10.2 _ zlt).trans ((c9.2 _ zlt).trans (Heap.get?_push_size _ rfl))
 have sz:g7.objs.size=s.heap.objs.size:=k7.1
 have ti7:b_B g7 TI (.ref i1) (.ref i2) (.ref i3):=k7.2 TI _ (by simp [ap.TIz,ap.TITO,ap.TIi1,ap.TIi2,ap.TIi3]) hTI
 have upn:∀c o,c∉[z,TO,i1,i2,i3]->g7.get? c=some o->g10.get? c=some o:=fun c o hc e=>up c o (fun q=>hc (by simp [q])) e
 show Q (.ref g7.objs.size) _
 rw [sz] at z10 new ⊢
 exact hQ x y u g10 t6 p1 p2 p3 z10 (up _ _ ap.TIz ti7) (frameOf D1 m1 upn st1 fun o e=>up _ o ap.i1z e) (frameOf D2 m2 upn st2 fun o e=>up _ o ap.i2z e) (frameOf D3 m3 upn st3 fun o e=>up _ o ap.i3z e) new fun c o hc e=>upn c o hc (k7.2 c o hc e)
theorem toldN3 {Q:Value->Shared->Prop} (D1:Draws prog w A i1 f1 n1 P1 S1) (D2:Draws prog w A i2 f2 n2 P2 S2) (D3:Draws prog w A i3 f3 n3 P3 S3) (m1:∀c∈f1,c=i1\/c∉[z,TO,i1,i2,i3]) (m2:∀c∈f2,c=i2\/c∉[z,TO,i1,i2,i3]) (m3:∀c∈f3,c=i3\/c∉[z,TO,i1,i2,i3]) (ap:Ap3 z TI TO i1 i2 i3)
  (hz:s.heap.get? z=some (zipO T b1 TI TO)) (hT:s.heap.get? T=some oT) (hTI:b_B s.heap TI (.ref i1) (.ref i2) (.ref i3)) (h1:S1 k s.heap) (h2:S2 k s.heap) (h3:S3 k s.heap) (l1:k<n1) (l2:k<n2) (l3:k<n3)
  (hQ:∀x y u h' tk,P1 k x->P2 k y->P3 k u->h'.get? z=some (zipO T true TI TO)->b_B h' TI (.ref i1) (.ref i2) (.ref i3)->S1 (k+1) h'->S2 (k+1) h'->S3 (k+1) h'->b_B h' s.heap.objs.size x y u->
   (∀c o,c∉[z,TO,i1,i2,i3]->s.heap.get? c=some o->h'.get? c=some o)->Q (.ref s.heap.objs.size) { s with heap:=h',toks:=tk }):
  wpAny (model prog w) A (Builtin.«zip.__next__» ⟨[.ref z],[]⟩) (fun fin s'=>∃v,fin=.done (.ret v)/\Q v s') E s:=by
 unfold Builtin.«zip.__next__»
 refine wpAny_bind (wpAny_of_eq (a:=(Value.ref z,[])) rfl (wpAny_bind (wpAny_field hz rfl (x:=.bool false) rfl (wpAny_bind (wpAny_field hz rfl (x:=.ref TI) rfl (wpAny_bind (wpAny_seqItems hTI rfl (wpAny_ite_false (by simp) (wpAny_bind (notFree hz hT fun g1 z1 c1=>wpAny_ite_false (by decide) ?_))))))))))
 dsimp only
 have k1:Keep [z,TO,i1,i2,i3] s.heap g1:=.one c1 (by simp)
 rw [<- Array.forIn_toList]
 show wpAny _ _ (forIn [Value.ref i1,.ref i2,.ref i3] _ _ >>= _) _ _ _
 simp only [List.forIn_cons,List.forIn_nil]
 refine wpAny_bind (wpAny_bind (wpAny_bind (wpAny_holding (wpAny_bind (m:=Builtin.SmallTypes.nextOf (.ref i1)) (D1.item k _ _ _ l1 (frameOf D1 m1 k1.2 h1 fun o e=>(c1.2 i1 ap.i1z).trans e) fun x g2 t2 p1 d1 c2=>wpAny_pure ?_)))))
 dsimp only
 have k2:=k1.trans (.one c2 (by simp))
 refine wpAny_pure (wpAny_bind (wpAny_bind (wpAny_holding (wpAny_bind (m:=Builtin.SmallTypes.nextOf (.ref i2)) (D2.item k _ _ _ l2 (frameOf D2 m2 k2.2 h2 fun o e=>(c2.2 i2 ap.i12.symm).trans ((c1.2 i2 ap.i2z).trans e)) fun y g3 t3 p2 d2 c3=>wpAny_pure ?_)))))
 dsimp only
 have k3:=k2.trans (.one c3 (by simp))
 refine wpAny_pure (wpAny_bind (wpAny_bind (wpAny_holding (wpAny_bind (m:=Builtin.SmallTypes.nextOf (.ref i3)) (D3.item k _ _ _ l3 (frameOf D3 m3 k3.2 h3 fun o e=>(c3.2 i3 ap.i23.symm).trans ((c2.2 i3 ap.i13.symm).trans ((c1.2 i3 ap.i3z).trans e))) fun u g4 t4 p3 d3 c4=>wpAny_pure ?_)))))
 dsimp only
 refine wpAny_pure (wpAny_pure (wpAny_bind (wpAny_newTuple (hsz:=a_i (by show 3≤16777216;decide)) (wpAny_pure ⟨_,rfl,?_⟩))))
 have k4:Keep [z,TO,i1,i2,i3] s.heap g4:=k3.trans (.one c4 (by simp))
 have z4:g4.get? z=some (zipO T true TI TO):=(c4.2 z ap.i3z.symm).trans ((c3.2 z ap.i2z.symm).trans ((c2.2 z ap.i1z.symm).trans z1))
 have ti4:b_B g4 TI (.ref i1) (.ref i2) (.ref i3):=k4.2 TI _ (by simp [ap.TIz,ap.TITO,ap.TIi1,ap.TIi2,ap.TIi3]) hTI
 have sz:g4.objs.size=s.heap.objs.size:=k4.1
 have st1:S1 (k+1) g4:=frameOf D1 m1 ((Keep.one (S:=[z,TO,i1,i2,i3]) c3 (by simp)).trans (.one c4 (by simp))).2 d1 fun o e=>(c4.2 i1 ap.i13).trans ((c3.2 i1 ap.i12).trans e)
 have st2:S2 (k+1) g4:=frameOf D2 m2 (Keep.one (S:=[z,TO,i1,i2,i3]) c4 (by simp)).2 d2 fun o e=>(c4.2 i2 ap.i23).trans e
 have new:b_B (g4.push { cls:=.type "tuple",data:=.seq #[x,y,u] }) g4.objs.size x y u:=Heap.get?_push_size _ rfl
 show Q (.ref g4.objs.size) _
 rw [sz] at new ⊢
 exact hQ x y u _ t4 p1 p2 p3 (Heap.get?_push_of_some _ z4) (Heap.get?_push_of_some _ ti4) (D1.frame _ _ _ st1 fun c _ o e=>Heap.get?_push_of_some _ e) (D2.frame _ _ _ st2 fun c _ o e=>Heap.get?_push_of_some _ e) (D3.frame _ _ _ d3 fun c _ o e=>Heap.get?_push_of_some _ e) new fun c o hc e=>Heap.get?_push_of_some _ (k4.2 c o hc e)
theorem endedL3 (D1:Draws prog w A i1 f1 n1 P1 S1) (m1:∀c∈f1,c=i1\/c∉[z,TO,i1,i2,i3]) (ap:Ap3 z TI TO i1 i2 i3) (hz:IsZip s.heap z TI TO .none) (hTI:b_B s.heap TI (.ref i1) (.ref i2) (.ref i3)) (h1:S1 n1 s.heap)
  (hE:∀h' e tk,(∀c o,c∉[z,TO,i1,i2,i3]->s.heap.get? c=some o->h'.get? c=some o)->(∃o,h'.get? e=some o/\o.cls=.type "StopIteration")->E (.ref e) { s with heap:=h',toks:=tk }):
  wpAny (model prog w) A (Builtin.«zip.__next__» ⟨[.ref z],[]⟩) Q E s:=by
 unfold Builtin.«zip.__next__»
 refine wpAny_bind (wpAny_of_eq (a:=(Value.ref z,[])) rfl (wpAny_bind (wpAny_field hz rfl (x:=.bool false) rfl (wpAny_bind (wpAny_field hz rfl (x:=.ref TI) rfl (wpAny_bind (wpAny_seqItems hTI rfl (wpAny_ite_false (by simp) (wpAny_bind ?_)))))))))
 unfold Builtin.SmallTypes.ownedTupleIsFree
 refine wpAny_bind (wpAny_field hz rfl (x:=.none) rfl (wpAny_pure (wpAny_ite_true (by decide) (wpAny_bind (wpAny_rule (wpAny_bind (wpAny_field hz rfl (x:=.ref TO) rfl (wpAny_bind (wpAny_setField_rec hz (by simp) fun g1 z1 c1=>?_)))))))))
 have k1:Keep [z,TO,i1,i2,i3] s.heap g1:=.one c1 (by simp)
 have s1:S1 n1 g1:=frameOf D1 m1 k1.2 h1 fun o e=>(c1.2 i1 ap.i1z).trans e
 simp only [List.zipIdx_cons,List.zipIdx_nil,List.forIn_cons,List.forIn_nil]
 refine wpAny_bind (wpAny_bind (wpAny_bind (wpAny_onRaise (wpAny_bind (m:=Builtin.SmallTypes.nextOf (.ref i1)) (D1.done _ _ _ s1 fun g2 e hx he=>?_)))))
 obtain ⟨oe,he,ce⟩:=he
 have zg:IsZip g2 z TI TO .ellipsis:=hx z _ ap.i1z.symm z1
 have ez:e≠z:=fun q=>by
  rw [q] at he
  have:=congrArg (Option.map Obj.cls) (he.symm.trans zg)
  rw [Option.map_some,Option.map_some,ce] at this
  exact absurd (show Value.type "StopIteration"=Value.type "zip" from Option.some.inj this) (by decide)
 refine wpAny_setField_rec (s:={ s with heap:=g2,toks:=s.toks }) zg (by simp) fun g3 _ c3=>hE g3 e s.toks (fun c o hc q=>?_) ⟨oe,(c3.2 e ez).trans he,ce⟩
 exact (c3.2 c fun r=>hc (by simp [r])).trans (hx c o (fun r=>hc (by simp [r])) (k1.2 c o hc q))
theorem endedN3 (D1:Draws prog w A i1 f1 n1 P1 S1) (m1:∀c∈f1,c=i1\/c∉[z,TO,i1,i2,i3]) (ap:Ap3 z TI TO i1 i2 i3)
  (hz:s.heap.get? z=some (zipO T b1 TI TO)) (hT:s.heap.get? T=some oT) (hTI:b_B s.heap TI (.ref i1) (.ref i2) (.ref i3)) (h1:S1 n1 s.heap)
  (hE:∀h' e tk,(∀c o,c∉[z,TO,i1,i2,i3]->s.heap.get? c=some o->h'.get? c=some o)->(∃o,h'.get? e=some o/\o.cls=.type "StopIteration")->E (.ref e) { s with heap:=h',toks:=tk }):
  wpAny (model prog w) A (Builtin.«zip.__next__» ⟨[.ref z],[]⟩) Q E s:=by
 unfold Builtin.«zip.__next__»
 refine wpAny_bind (wpAny_of_eq (a:=(Value.ref z,[])) rfl (wpAny_bind (wpAny_field hz rfl (x:=.bool false) rfl (wpAny_bind (wpAny_field hz rfl (x:=.ref TI) rfl (wpAny_bind (wpAny_seqItems hTI rfl (wpAny_ite_false (by simp) (wpAny_bind (notFree hz hT fun g1 z1 c1=>wpAny_ite_false (by decide) ?_))))))))))
 dsimp only
 rw [<- Array.forIn_toList]
 show wpAny _ _ (forIn [Value.ref i1,.ref i2,.ref i3] _ _ >>= _) _ _ _
 simp only [List.forIn_cons,List.forIn_nil]
 have s1:S1 n1 g1:=frameOf D1 m1 (Keep.one (S:=[z,TO,i1,i2,i3]) c1 (by simp)).2 h1 fun o e=>(c1.2 i1 ap.i1z).trans e
 refine wpAny_bind (wpAny_bind (wpAny_bind (wpAny_holding (wpAny_bind (m:=Builtin.SmallTypes.nextOf (.ref i1)) (D1.done _ _ _ s1 fun g2 e x2 he=>?_)))))
 exact hE g2 e s.toks (fun c o hc q=>x2 c o (fun r=>hc (by simp [r])) ((c1.2 c fun r=>hc (by simp [r])).trans q)) he
end
end Z3
end L2
namespace L2
open PySem PySem.Spec PyProof.Rows
namespace Z3
open ZP
section
variable {prog:Program} {w:World} {A:Around} {R:Result->Shared->Prop} {z TI TO i1 i2 i3 S:Addr} {f1 f2 f3:List Addr} {n:Nat} {P1 P2 P3:Nat->Value->Prop} {S1 S2 S3:Nat->Heap->Prop}
structure LZ3 (h0:Heap) (z TI TO i1 i2 i3 S:Addr) (P1 P2 P3:Nat->Value->Prop) (S1 S2 S3:Nat->Heap->Prop) (k:Nat) (h:Heap) (acc:Array Value):Prop where
 zip:(k=0/\IsZip h z TI TO .none/\∃a b c,b_B h TO a b c)\/(0<k/\∃b1 T oT,h.get? z=some (zipO T b1 TI TO)/\h.get? T=some oT/\h0.objs.size≤T)
 ti:b_B h TI (.ref i1) (.ref i2) (.ref i3)
 s1:S1 k h
 s2:S2 k h
 s3:S3 k h
 sz:h0.objs.size≤h.objs.size
 len:acc.size=k
 items:∀(j:Nat) (v:Value),acc[j]?=some v->∃t x y u,v=.ref t/\P1 j x/\P2 j y/\P3 j u/\b_B h t x y u/\h0.objs.size≤t
 inj:∀(i j:Nat) (t:Addr),acc[i]?=some (.ref t)->acc[j]?=some (.ref t)->i=j
 keep:∀c o,c∉[z,TO,i1,i2,i3,S]->h0.get? c=some o->h.get? c=some o
theorem zip_loop3 (D1:Draws prog w A.in1.in1 i1 f1 n P1 S1) (D2:Draws prog w A.in1.in1 i2 f2 n P2 S2) (D3:Draws prog w A.in1.in1 i3 f3 n P3 S3) (ap:Ap3 z TI TO i1 i2 i3) (hn:n≤1000000) (m1:∀c∈f1,c=i1\/c∉[z,TO,i1,i2,i3,S]) (m2:∀c∈f2,c=i2\/c∉[z,TO,i1,i2,i3,S]) (m3:∀c∈f3,c=i3\/c∉[z,TO,i1,i2,i3,S])
  (lt:∀c∈[z,TI,TO,i1,i2,i3,S],c<h0.objs.size) (hS:S∉[z,TI,TO,i1,i2,i3]) (res:Value) (base:Shared)
  (hR:∀h tk acc c,LZ3 h0 z TI TO i1 i2 i3 S P1 P2 P3 S1 S2 S3 n h acc->h.get? S=some { cls:=.type "list",dict:=none,data:=.seq acc c,slots:=#[] }->∀h',(∀c o,c∉[z,TO,i1,i2,i3]->h.get? c=some o->h'.get? c=some o)->R (.ok (.ret res)) { base with heap:=h',toks:=tk }):
  ∀(m k:Nat) (h:Heap) (tk:Nat) (acc:Array Value) (c:Nat),n - k=m->k≤n->LZ3 h0 z TI TO i1 i2 i3 S P1 P2 P3 S1 S2 S3 k h acc->h.get? S=some { cls:=.type "list",dict:=none,data:=.seq acc c,slots:=#[] }->
   codeAny (model prog w) A (.builtin "list.extend.loop" ⟨[.ref S,.ref z,res],[]⟩) R { base with heap:=h,toks:=tk }:=by
 have m1':∀c∈f1,c=i1\/c∉[z,TO,i1,i2,i3]:=fun c hc=>(m1 c hc).imp id fun q z=>q (by simp at z ⊢;rcases z with y | y | y | y | y <;> simp [y])
 have m2':∀c∈f2,c=i2\/c∉[z,TO,i1,i2,i3]:=fun c hc=>(m2 c hc).imp id fun q z=>q (by simp at z ⊢;rcases z with y | y | y | y | y <;> simp [y])
 have m3':∀c∈f3,c=i3\/c∉[z,TO,i1,i2,i3]:=fun c hc=>(m3 c hc).imp id fun q z=>q (by simp at z ⊢;rcases z with y | y | y | y | y <;> simp [y])
 have hSz:S≠z:=fun q=>hS (by simp [q])
 have hSTI:S≠TI:=fun q=>hS (by simp [q])
 have hSTO:S≠TO:=fun q=>hS (by simp [q])
 have hS1:S≠i1:=fun q=>hS (by simp [q])
 have hS2:S≠i2:=fun q=>hS (by simp [q])
 have hS3:S≠i3:=fun q=>hS (by simp [q])
 have hSn:S∉[z,TO,i1,i2,i3]:=by simp [hSz,hSTO,hS1,hS2,hS3]
 have hSlt:S<h0.objs.size:=lt S (by simp)
 intro m
 induction m with
 | zero=>
  intro k h tk acc c hm hk L hSo
  have e:k=n:=by omega
  subst e
  refine codeAny_builtin F.entry_extend_loop ?_
  rw [Around.under_plainId F.plain_extend_loop _]
  show wpAny _ A.in1 (pyNext (.ref z) >>= _) _ _ _
  have fin:∀h' e tk',(∀c o,c∉[z,TO,i1,i2,i3]->h.get? c=some o->h'.get? c=some o)->(∃o,h'.get? e=some o/\o.cls=.type "StopIteration")->
    ∃o e',(Value.ref e)=.ref e'/\({ base with heap:=h',toks:=tk' }:Shared).heap.get? e'=some o/\o.cls=.type "StopIteration"/\wpAny (model prog w) A.in1 (ret res) (fun fin s'=>match fin with | .done f=>R (.ok f) s' | .again c'=>c'.quiet=true/\codeAny (model prog w) A c' R s') (fun e s'=>R (.error e) s') { base with heap:=h',toks:=tk' }:=fun h' e tk' kp ⟨o,ho,hc⟩=>
   ⟨o,e,rfl,ho,hc,wpAny_pure (hR h tk' acc c L hSo h' kp)⟩
  rcases L.zip with ⟨hk0,hz,a,b,c3,hTO⟩ | ⟨hk0,b1,T,oT,hz,hT,_⟩
  ·refine wpAny_bind (c_W (s:={ base with heap:=h,toks:=tk }) ⟨_,hz,rfl⟩ (endedL3 (s:={ base with heap:=h,toks:=tk }) D1 m1' ap hz L.ti L.s1 fun h' e tk' kp he=>fin h' e tk' kp he))
  ·refine wpAny_bind (c_W (s:={ base with heap:=h,toks:=tk }) ⟨_,hz,rfl⟩ (endedN3 (s:={ base with heap:=h,toks:=tk }) D1 m1' ap hz hT L.ti L.s1 fun h' e tk' kp he=>fin h' e tk' kp he))
 | succ m ih=>
  intro k h tk acc c hm hk L hSo
  have hlt:k<n:=by omega
  refine codeAny_builtin F.entry_extend_loop ?_
  rw [Around.under_plainId F.plain_extend_loop _]
  show wpAny _ A.in1 (pyNext (.ref z) >>= _) _ _ _
  have go:∀x y u h' tk' (zs:∃b1 T oT,h'.get? z=some (zipO T b1 TI TO)/\h'.get? T=some oT/\h0.objs.size≤T),P1 k x->P2 k y->P3 k u->b_B h' TI (.ref i1) (.ref i2) (.ref i3)->S1 (k+1) h'->S2 (k+1) h'->S3 (k+1) h'->b_B h' h.objs.size x y u->(∀c o,c∉[z,TO,i1,i2,i3]->h.get? c=some o->h'.get? c=some o)->
    wpAny (model prog w) A.in1 (Builtin.List.listUpdate (.ref S) (·.push (.ref h.objs.size)) >>= fun _=>again (.builtin "list.extend.loop" ⟨[.ref S,.ref z,res],[]⟩)) (fun fin s'=>match fin with | .done f=>R (.ok f) s' | .again c'=>c'.quiet=true/\codeAny (model prog w) A c' R s') (fun e s'=>R (.error e) s') { base with heap:=h',toks:=tk' }:=by
   intro x y u h' tk' zs p1 p2 p3 ti st1 st2 st3 new kp
   have hS':=kp S _ hSn hSo
   refine wpAny_bind ?_
   show wpAny _ A.in1 (updateSeq S (·.push (.ref h.objs.size))) _ _ _
   have hacc:acc.size=k:=L.len
   refine wpAny_updateSeq (s:={ base with heap:=h',toks:=tk' }) hS' rfl (wpAny_pure ⟨plainId_quiet F.plain_extend_loop _,?_⟩) (by rw [hacc,sizeLine_eq];omega) (by show (acc.push _).size≤sizeLine+1;rw [Array.size_push,hacc,sizeLine_eq];omega)
   have up:∀c o,c≠S->h'.get? c=some o->(h'.update S (Obj.mapSeq (·.push (.ref h.objs.size)))).get? c=some o:=fun c o hc e=>(Heap.get?_update_other _ _ (Ne.symm hc)).trans e
   have hnew:h.objs.size≠S:=Nat.ne_of_gt (Nat.lt_of_lt_of_le hSlt L.sz)
   have hlt':h.objs.size<h'.objs.size:=Heap.lt_size new
   have f1S:∀c∈f1,c≠S:=fun c hc q=>by
    rcases m1 c hc with r | r
    ·exact hS1 (q.symm.trans r)
    ·exact r (by simp [q])
   have f2S:∀c∈f2,c≠S:=fun c hc q=>by
    rcases m2 c hc with r | r
    ·exact hS2 (q.symm.trans r)
    ·exact r (by simp [q])
   have f3S:∀c∈f3,c≠S:=fun c hc q=>by
    rcases m3 c hc with r | r
    ·exact hS3 (q.symm.trans r)
    ·exact r (by simp [q])
   refine ih (k+1) _ tk' (acc.push (.ref h.objs.size)) _ (by omega) hlt ⟨?_,up TI _ (Ne.symm hSTI) ti,D1.frame _ _ _ st1 fun c hc o e=>up c o (f1S c hc) e,D2.frame _ _ _ st2 fun c hc o e=>up c o (f2S c hc) e,D3.frame _ _ _ st3 fun c hc o e=>up c o (f3S c hc) e,?_,by rw [Array.size_push,hacc],fun j v hj=>?_,fun i j t hi hj=>?_,fun c o hc e=>?_⟩ (Heap.get?_update_self _ hS' rfl)
   ·obtain ⟨b1,T,oT,e1,e2,e3⟩:=zs
    exact .inr ⟨Nat.succ_pos k,b1,T,oT,up z _ (Ne.symm hSz) e1,up T _ (Nat.ne_of_gt (Nat.lt_of_lt_of_le hSlt e3)) e2,e3⟩
   ·rw [Heap.size_update]
    exact Nat.le_trans L.sz (Nat.le_of_lt hlt')
   ·rw [Array.getElem?_push] at hj
    split at hj
    ·rename_i ej
     cases hj
     rw [hacc] at ej
     rw [ej]
     exact ⟨_,x,y,u,rfl,p1,p2,p3,up _ _ hnew new,L.sz⟩
    ·obtain ⟨t,x',y',u',rfl,q1,q2,q5,q3,q4⟩:=L.items j v hj
     refine ⟨t,x',y',u',rfl,q1,q2,q5,up t _ (Nat.ne_of_gt (Nat.lt_of_lt_of_le hSlt q4)) (kp t _ (fun hm=>?_) q3),q4⟩
     exact absurd (lt t (by simp at hm ⊢;rcases hm with y | y | y | y | y <;> simp [y])) (Nat.not_lt.mpr q4)
   ·have old:∀(a:Nat),acc[a]?=some (.ref h.objs.size)->False:=fun a e=>by
     obtain ⟨t,x',y',u',e1,_,_,_,q3,_⟩:=L.items a _ e
     cases e1
     exact absurd (Heap.lt_size q3) (Nat.lt_irrefl _)
    rw [Array.getElem?_push] at hi hj
    split at hi
    ·rename_i ei
     cases hi
     split at hj
     ·rename_i ej
      omega
     ·exact (old _ hj).elim
    ·split at hj
     ·cases hj
      exact (old _ hi).elim
     ·exact L.inj i j t hi hj
   ·have hcS:c≠S:=fun q=>hc (by simp [q])
    exact up c o hcS (kp c o (fun hm=>hc (by simp at hm ⊢;rcases hm with y | y | y | y | y <;> simp [y])) (L.keep c o hc e))
  rcases L.zip with ⟨hk0,hz,a,b,c3,hTO⟩ | ⟨hk0,b1,T,oT,hz,hT,hT0⟩
  ·refine wpAny_bind (c_W (s:={ base with heap:=h,toks:=tk }) ⟨_,hz,rfl⟩ (toldL3 (s:={ base with heap:=h,toks:=tk }) D1 D2 D3 m1' m2' m3' ap hz L.ti hTO L.s1 L.s2 L.s3 hlt hlt hlt fun x y u h' tk' p1 p2 p3 gz gTI g1 g2 g3 new kp=>?_))
   exact go x y u h' tk' ⟨false,h.objs.size,_,gz,new,L.sz⟩ p1 p2 p3 gTI g1 g2 g3 new kp
  ·refine wpAny_bind (c_W (s:={ base with heap:=h,toks:=tk }) ⟨_,hz,rfl⟩ (toldN3 (s:={ base with heap:=h,toks:=tk }) D1 D2 D3 m1' m2' m3' ap hz hT L.ti L.s1 L.s2 L.s3 hlt hlt hlt fun x y u h' tk' p1 p2 p3 gz gTI g1 g2 g3 new kp=>?_))
   refine go x y u h' tk' ⟨true,T,oT,gz,kp T _ (fun hm=>?_) hT,hT0⟩ p1 p2 p3 gTI g1 g2 g3 new kp
   exact absurd (lt T (by simp at hm ⊢;rcases hm with y | y | y | y | y <;> simp [y])) (Nat.not_lt.mpr hT0)
end
section
variable {prog:Program} {w:World} {A:Around} {E:Value->Shared->Prop} {z TI TO i1 i2 i3:Addr} {f1 f2 f3:List Addr} {n:Nat} {P1 P2 P3:Nat->Value->Prop} {S1 S2 S3:Nat->Heap->Prop}
theorem list_zip3 (D1:Draws prog w A.in1.in1.in1 i1 f1 n P1 S1) (D2:Draws prog w A.in1.in1.in1 i2 f2 n P2 S2) (D3:Draws prog w A.in1.in1.in1 i3 f3 n P3 S3) (ap:Ap3 z TI TO i1 i2 i3) (hn:n≤1000000) (m1:∀c∈f1,c=i1\/(c∉[z,TO,i1,i2,i3]/\c<s.heap.objs.size)) (m2:∀c∈f2,c=i2\/(c∉[z,TO,i1,i2,i3]/\c<s.heap.objs.size)) (m3:∀c∈f3,c=i3\/(c∉[z,TO,i1,i2,i3]/\c<s.heap.objs.size))
  (hz:IsZip s.heap z TI TO .none) (hTI:b_B s.heap TI (.ref i1) (.ref i2) (.ref i3)) (hTO:b_B s.heap TO a b c3) (h1:S1 0 s.heap) (h2:S2 0 s.heap) (h3:S3 0 s.heap) (l1:i1<s.heap.objs.size) (l2:i2<s.heap.objs.size) (l3:i3<s.heap.objs.size)
  (hQ:∀h' tk (acc:Array Value) c,(∀b o,b∉[z,TO,i1,i2,i3]->s.heap.get? b=some o->h'.get? b=some o)->h'.get? s.heap.objs.size=some { cls:=.type "list",dict:=none,data:=.seq acc c,slots:=#[] }->acc.size=n->
   (∀(j:Nat) (v:Value),acc[j]?=some v->∃t x y u,v=.ref t/\P1 j x/\P2 j y/\P3 j u/\b_B h' t x y u/\s.heap.objs.size<t)->(∀(i j:Nat) (t:Addr),acc[i]?=some (.ref t)->acc[j]?=some (.ref t)->i=j)->Q (.ref s.heap.objs.size) { s with heap:=h',toks:=tk }):
  wpAny (model prog w) A (call (.type "list") [.ref z]) Q E s:=by
 refine callType_codes (Q₁:=fun obj s₁=>obj=.ref s.heap.objs.size/\s₁={ s with heap:=s.heap.push { cls:=.type "list",data:=.seq #[] } }) F.called_list (F.typeCall_list_1 _) F.entry_list_init
  (code_list_new _ ⟨rfl,rfl⟩) fun obj s₁ h₁=>?_
 obtain ⟨rfl,rfl⟩:=h₁
 have hS:(s.heap.push { cls:=.type "list",data:=.seq #[] }).get? s.heap.objs.size=some { cls:=.type "list",data:=.seq #[] }:=Heap.get?_push_size _ rfl
 refine ⟨⟨_,hS,rfl⟩,F.args_list_init_2 _ _,?_⟩
 have ltz:z<s.heap.objs.size:=Heap.lt_size hz
 have ltI:TI<s.heap.objs.size:=Heap.lt_size hTI
 have ltO:TO<s.heap.objs.size:=Heap.lt_size hTO
 have hne:∀c,c<s.heap.objs.size->c≠s.heap.objs.size:=fun c hc=>Nat.ne_of_lt hc
 generalize hSe:s.heap.objs.size=S at *
 show wpAny _ _ (do let old <- Builtin.List.listItems (.ref S);Builtin.List.listUpdate (.ref S) (fun _=>#[]);letGo old.toList.reverse;Builtin.List.listExtendWith (.ref S) (.ref z) .none) _ _ _
 refine wpAny_bind ?_
 unfold Builtin.List.listItems
 refine wpAny_bind (wpAny_seqItems hS rfl (wpAny_pure ?_))
 show wpAny _ _ (updateSeq S (fun _=>#[]) >>= fun _=>letGo (#[]:Array Value).toList.reverse >>= fun _=>Builtin.List.listExtendWith (.ref S) (.ref z) .none) _ _ _
 refine wpAny_bind (wpAny_updateSeq hS rfl ?_)
 have hS2:=Heap.get?_update_self (Obj.mapSeq (fun _=>(#[]:Array Value))) hS rfl
 have oth:∀b o,b≠S->s.heap.get? b=some o->((s.heap.push { cls:=.type "list",data:=.seq #[] }).update S (Obj.mapSeq (fun _=>(#[]:Array Value)))).get? b=some o:=
  fun b o hb e=>(Heap.get?_update_other _ _ (Ne.symm hb)).trans (Heap.get?_push_of_some _ e)
 have hsz2:((s.heap.push { cls:=.type "list",data:=.seq #[] }).update S (Obj.mapSeq (fun _=>(#[]:Array Value)))).objs.size=S+1:=by rw [Heap.size_update,Heap.size_push,hSe]
 refine wpAny_bind (wpAny_letGo ?_)
 generalize (s.heap.push { cls:=.type "list",data:=.seq #[] }).update S (Obj.mapSeq (fun _=>(#[]:Array Value)))=h0 at hS2 oth hsz2
 have zz:IsZip h0 z TI TO .none:=oth z _ (hne z ltz) hz
 have hT:({ s with heap:=h0 }:Shared).TypeIs (.ref z) "zip":=⟨_,zz,rfl⟩
 have hSz:S≠z:=Ne.symm (hne z ltz)
 unfold Builtin.List.listExtendWith
 refine wpAny_bind (wpAny_typeOf hT ?_)
 have e1:Builtin.List.listSameRef (.ref S) (.ref z)=false:=by simp [Builtin.List.listSameRef,hSz]
 have e2:(Value.type "zip"==Value.type "list")=false:=by decide
 have e3:(Value.type "zip"==Value.type "tuple")=false:=by decide
 simp only [e1,e2,e3,Bool.or_false,Bool.false_eq_true,if_false]
 refine wpAny_bind (wpAny_pyIter_zip (s:={ s with heap:=h0 }) zz ?_)
 refine wpAny_bind (wpAny_holding ?_)
 unfold Builtin.List.listLengthHint
 refine wpAny_bind (wpAny_specialOf hT zip_no_len ?_)
 show wpAny _ _ (specialOf (Value.ref z) (Str.ofString "__length_hint__") >>= _) _ _ _
 refine wpAny_bind (wpAny_specialOf hT zip_no_hint ?_)
 refine wpAny_pure ?_
 show wpAny _ _ (rule "list.extend.makes-room" >>= fun _=>Builtin.List.listTouch (.ref S) >>= fun _=>again (.builtin "list.extend.loop" ⟨[.ref S,.ref z,.none],[]⟩)) _ _ _
 refine wpAny_bind (wpAny_rule ?_)
 refine wpAny_bind ?_
 show wpAny _ _ (updateSeq S (·.push .none) >>= fun _=>updateSeq S (·.pop)) _ _ _
 refine wpAny_bind (wpAny_updateSeq (s:={ s with heap:=h0 }) hS2 rfl ?_)
 have hS3:=Heap.get?_update_self (Obj.mapSeq (·.push Value.none)) hS2 rfl
 refine wpAny_updateSeq (hz:=by seq_fits) hS3 rfl ?_
 have hS4:=Heap.get?_update_self (Obj.mapSeq (·.pop)) hS3 rfl
 have oth2:∀b o,b≠S->s.heap.get? b=some o->((h0.update S (Obj.mapSeq (·.push Value.none))).update S (Obj.mapSeq (·.pop))).get? b=some o:=
  fun b o hb e=>(Heap.get?_update_other _ _ (Ne.symm hb)).trans ((Heap.get?_update_other _ _ (Ne.symm hb)).trans (oth b o hb e))
 have hsz4:((h0.update S (Obj.mapSeq (·.push Value.none))).update S (Obj.mapSeq (·.pop))).objs.size=S+1:=by rw [Heap.size_update,Heap.size_update];exact hsz2
 generalize ((h0.update S (Obj.mapSeq (·.push Value.none))).update S (Obj.mapSeq (·.pop)))=h1' at hS4 oth2 hsz4
 have f1n:∀c∈f1,c<S:=fun c hc=>(m1 c hc).elim (fun q=>q▸l1) fun q=>q.2
 have f2n:∀c∈f2,c<S:=fun c hc=>(m2 c hc).elim (fun q=>q▸l2) fun q=>q.2
 have f3n:∀c∈f3,c<S:=fun c hc=>(m3 c hc).elim (fun q=>q▸l3) fun q=>q.2
 have off:∀c:Addr,c∉[z,TO,i1,i2,i3]->c<S->c∉[z,TO,i1,i2,i3,S]:=fun c h1 h2 hm=>by
  simp at hm h1
  rcases hm with y | y | y | y | y | y
  ·exact h1.1 y
  ·exact h1.2.1 y
  ·exact h1.2.2.1 y
  ·exact h1.2.2.2.1 y
  ·exact h1.2.2.2.2 y
  ·exact absurd h2 (by rw [y];exact Nat.lt_irrefl _)
 refine wpAny_pure ⟨plainId_quiet F.plain_extend_loop _,zip_loop3 (S:=S) (h0:=h1') (n:=n) (base:=s) D1 D2 D3 ap hn (fun c hc=>(m1 c hc).imp id fun q=>off c q.1 q.2) (fun c hc=>(m2 c hc).imp id fun q=>off c q.1 q.2) (fun c hc=>(m3 c hc).imp id fun q=>off c q.1 q.2) (fun c hc=>?_) ?_ .none ?_ n 0 h1' _ #[] _ (by omega) (Nat.zero_le _)
  ⟨.inl ⟨rfl,oth2 z _ (hne z ltz) hz,a,b,c3,oth2 TO _ (hne TO ltO) hTO⟩,oth2 TI _ (hne TI ltI) hTI,D1.frame _ _ _ h1 fun c hc o e=>oth2 c o (hne c (f1n c hc)) e,D2.frame _ _ _ h2 fun c hc o e=>oth2 c o (hne c (f2n c hc)) e,D3.frame _ _ _ h3 fun c hc o e=>oth2 c o (hne c (f3n c hc)) e,Nat.le_refl _,rfl,fun j v hj=>by simp at hj,fun i j t hi=>by simp at hi,fun c o _ e=>e⟩ hS4⟩
 ·rw [hsz4]
  simp only [List.mem_cons,List.not_mem_nil,or_false] at hc
  rcases hc with y | y | y | y | y | y | y
  ·rw [y];exact Nat.lt_succ_of_lt ltz
  ·rw [y];exact Nat.lt_succ_of_lt ltI
  ·rw [y];exact Nat.lt_succ_of_lt ltO
  ·rw [y];exact Nat.lt_succ_of_lt l1
  ·rw [y];exact Nat.lt_succ_of_lt l2
  ·rw [y];exact Nat.lt_succ_of_lt l3
  ·rw [y];exact Nat.lt_succ_self _
 ·simp [hSz,Ne.symm (hne TI ltI),Ne.symm (hne TO ltO),Ne.symm (hne i1 l1),Ne.symm (hne i2 l2),Ne.symm (hne i3 l3)]
 ·intro h tk acc c L hSo h' kp
  have hSn:S∉[z,TO,i1,i2,i3]:=by simp [hSz,Ne.symm (hne TO ltO),Ne.symm (hne i1 l1),Ne.symm (hne i2 l2),Ne.symm (hne i3 l3)]
  refine ⟨rfl,hQ h' tk acc c (fun b o hb e=>kp b o hb (L.keep b o (fun hm=>?_) (oth2 b o (hne b (by rw [<- hSe];exact Heap.lt_size e)) e))) (kp S _ hSn hSo) L.len (fun j v hj=>?_) L.inj⟩
  ·simp at hm hb
   rcases hm with y | y | y | y | y | y
   ·exact hb.1 y
   ·exact hb.2.1 y
   ·exact hb.2.2.1 y
   ·exact hb.2.2.2.1 y
   ·exact hb.2.2.2.2 y
   ·exact absurd (Heap.lt_size e) (by rw [hSe,y];exact Nat.lt_irrefl _)
  ·obtain ⟨t,x,y,u,rfl,p1,p2,p3,q,q2⟩:=L.items j v hj
   rw [hsz4] at q2
   refine ⟨t,x,y,u,rfl,p1,p2,p3,kp t _ (fun hm=>?_) q,q2⟩
   have hlt:t<S:=by
    simp at hm
    rcases hm with y | y | y | y | y
    ·rw [y];exact ltz
    ·rw [y];exact ltO
    ·rw [y];exact l1
    ·rw [y];exact l2
    ·rw [y];exact l3
   exact absurd (Nat.lt_of_lt_of_le hlt (Nat.le_succ S)) (Nat.not_lt.mpr q2)
end
end Z3
end L2
namespace L2
open PySem PySem.Spec PyProof.Rows
namespace Z3
open ZP
theorem typeCall3 (a b c:Value):checkTypeCall "zip" ⟨[a,b,c],[]⟩=pure ():=by kernel_rfl
theorem newCall3 (a b c:Value):checkBuiltinCall "zip.__new__" ⟨[.type "zip",a,b,c],[]⟩=pure ():=by kernel_rfl
theorem init4 (a b c d:Value):argsOk "object.__init__" ⟨[a,b,c,d],[]⟩:=by
 unfold argsOk;kernel_rfl
def made3 (h:Heap) (o1 o2 o3:Obj):Heap:=
 (((((h.push o1).push o2).push o3).push { cls:=.type "tuple",data:=.seq #[.ref h.objs.size,.ref (h.objs.size+1),.ref (h.objs.size+2)] }).push { cls:=.type "tuple",data:=.seq #[.none,.none,.none] }).push
  { cls:=.type "zip",data:=.fields #[.none,.bool false,.bool false,.ref (h.objs.size+3),.ref (h.objs.size+4)] }
theorem meet3 (a b c:Addr) (xs ys us:Array Value):Meets (Builtin.«zip.__new__» ⟨[.type "zip",.ref a,.ref b,.ref c],[]⟩) (fun _ R s=>s.heap.IsList a xs/\s.heap.IsList b ys/\s.heap.IsList c us/\R (.ok (.ret (.ref (s.heap.objs.size+5)))) { s with heap:=made3 s.heap (Sd.ls a).it0 (Sd.ls b).it0 (Sd.ls c).it0 }):=.of_wp fun prog w A R s h=>by
 obtain ⟨hp,g,d,tk,os⟩:=s
 obtain ⟨hx,hy,hu,h⟩:=h
 have hsub:=sub_zip
 have hx:hp.IsList a xs:=hx
 have hy:(hp.push (Sd.ls a).it0).IsList b ys:=Heap.IsList.push hy _
 have hu:((hp.push (Sd.ls a).it0).push (Sd.ls b).it0).IsList c us:=Heap.IsList.push (Heap.IsList.push hu _) _
 show wpAny _ _ (Builtin.«zip.__new__» ⟨[.type "zip",.ref a,.ref b,.ref c],[]⟩) _ _ _
 wp_walk using c_G hx,c_G hy,c_G hu
 refine ⟨_,rfl,?_⟩
 simp only [made3] at h
 simpa [Heap.size_push,Builtin.SmallTypes.ownedTupleFields,Nat.add_assoc] using h
section
variable {prog:Program} {w:World} {A:Around} {E:Value->Shared->Prop} {s:Shared}
theorem call3 (hx:s.heap.IsList a xs) (hy:s.heap.IsList b ys) (hu:s.heap.IsList c us)
  (h:∀h',IsZip h' (s.heap.objs.size+5) (s.heap.objs.size+3) (s.heap.objs.size+4) .none->b_B h' (s.heap.objs.size+3) (.ref s.heap.objs.size) (.ref (s.heap.objs.size+1)) (.ref (s.heap.objs.size+2))->b_B h' (s.heap.objs.size+4) .none .none .none->
   (Sd.ls a).pl s.heap.objs.size 0 h'->(Sd.ls b).pl (s.heap.objs.size+1) 0 h'->(Sd.ls c).pl (s.heap.objs.size+2) 0 h'->(∀c o,s.heap.get? c=some o->h'.get? c=some o)->Q (.ref (s.heap.objs.size+5)) { s with heap:=h' }):
  wpAny (model prog w) A (call (.type "zip") [.ref a,.ref b,.ref c]) Q E s:=by
 refine callType_new F.called_zip (by decide) (typeCall3 _ _ _) (newCall3 _ _ _) (fun obj=>init4 obj _ _ _) F.entry_zip_new (meet3 a b c xs ys us) ⟨hx,hy,hu,?_⟩
 have at1:∀(g:Heap) (o:Obj) (n:Nat),g.objs.size=n->o.isFreed=false->(g.push o).get? n=some o:=fun g o n e f=>by rw [<- e];exact Heap.get?_push_size g f
 have z5:IsZip (made3 s.heap (Sd.ls a).it0 (Sd.ls b).it0 (Sd.ls c).it0) (s.heap.objs.size+5) (s.heap.objs.size+3) (s.heap.objs.size+4) .none:=at1 _ _ _ (by simp [Heap.size_push]) rfl
 have up:=@Heap.get?_push_of_some
 refine ⟨⟨_,z5,rfl⟩,h _ z5 (Heap.get?_push_of_some _ (Heap.get?_push_of_some _ (at1 _ _ _ (by simp [Heap.size_push]) rfl))) (Heap.get?_push_of_some _ (at1 _ _ _ (by simp [Heap.size_push]) rfl)) (it0_at ?_) (it0_at ?_) (it0_at ?_) fun c o e=>?_⟩
 ·exact Heap.get?_push_of_some _ (Heap.get?_push_of_some _ (Heap.get?_push_of_some _ (Heap.get?_push_of_some _ (Heap.get?_push_of_some _ (at1 _ _ _ rfl (d_d _))))))
 ·exact Heap.get?_push_of_some _ (Heap.get?_push_of_some _ (Heap.get?_push_of_some _ (Heap.get?_push_of_some _ (at1 _ _ _ (by simp [Heap.size_push]) (d_d _)))))
 ·exact Heap.get?_push_of_some _ (Heap.get?_push_of_some _ (Heap.get?_push_of_some _ (at1 _ _ _ (by simp [Heap.size_push]) (d_d _))))
 ·exact Heap.get?_push_of_some _ (Heap.get?_push_of_some _ (Heap.get?_push_of_some _ (Heap.get?_push_of_some _ (Heap.get?_push_of_some _ (Heap.get?_push_of_some _ e)))))
end
end Z3
open Z3
theorem valsT (h:Vals [a,b,c] us):∃u1 u2 u3,us=[u1,u2,u3]/\RelV a u1/\RelV b u2/\RelV c u3:=by
 cases h with | cons e1 h=>cases h with | cons e2 h=>cases h with | cons e3 h=>cases h;exact ⟨_,_,_,rfl,e1,e2,e3⟩
def newT3 (ts:List Addr) (xs ys us:List V) (b:Addr):Option HO:=((ts.zip (xs.zip (ys.zip us))).lookup b).map fun q=>HO.tup [q.1,q.2.1,q.2.2]
def tListZip3 (ta:TA):TE:=fun σ H Q=>ta σ H fun vs H1=>∃a b c xs ys us,vs=[.ref a,.ref b,.ref c]/\H1 a=some (.lst xs)/\H1 b=some (.lst ys)/\H1 c=some (.lst us)/\xs.length=ys.length/\xs.length=us.length/\xs.length≤1000000/\
 ∀(l:Addr) (ts:List Addr) (H2:Hp),ts.length=xs.length->ts.Nodup->H1 l=none->Same H1 H2->H2 l=some (.lst (ts.map V.ref))->(∀(i:Nat) (t:Addr) (x y u:V),ts[i]?=some t->xs[i]?=some x->ys[i]?=some y->us[i]?=some u->H2 t=some (.tup [x,y,u]))->Q (.ref l) H2
theorem pe_listzip3 {p p2 pos pos2:Pos} (hc:X.calm=true) (hgl:Gl X "list") (hml:X.mg "list"=none) (hgz:Gl X "zip") (hmz:X.mg "zip"=none) (ha:PA X [a,b,c] ta)
  (hs:starEach [.Call (.Name "zip" p2) [a,b,c] [] pos2] X.env=[(false,eval (.Call (.Name "zip" p2) [a,b,c] [] pos2) X.env)]:=by rfl) (hs2:starEach [a,b,c] X.env=(false,eval a X.env)::starEach [b,c] X.env:=by rfl) (hpl2:(backTo pos2 (starEach [b,c] X.env)).any (·.1)=false:=by rfl):
  PE X (.Call (.Name "list" p) [.Call (.Name "zip" p2) [a,b,c] [] pos2] [] pos) (tListZip3 ta):=by
 intro pins s σ H Q I h
 refine wpAny_Call_Name_kw (ld_blt I hgl hml PyProof.Rows.boot_list ?_)
 refine PyProof.Rows.callWith_type1 (e:=.Call (.Name "zip" p2) [a,b,c] [] pos2) (rest:=[]) ?_ hs rfl
 rw [hs]
 show wpAny _ _ (spliced ((false,eval (.Call (.Name "zip" p2) [a,b,c] [] pos2) X.env)::backTo pos [])) _ _ s
 refine Calls.spliced_cons (wpAny_Call_Name_kw (ld_blt I hgz hmz PyProof.Rows.boot_zip (PyProof.Rows.callWith_type1 (thn (ha pos2 pins s σ H _ I h) fun us s1 ⟨vs,H1,I1,r1,la,lb,lc,xs,ys,us3,ev,hqx,hqy,hqu,hl,hl3,hmax,q⟩=>?_) hs2 hpl2)))
 subst ev
 obtain ⟨u1,u2,u3,rfl,e1,e2,e3⟩:=valsT r1
 cases e1
 cases e2
 cases e3
 obtain ⟨itx,rx,⟨ox,nx,eox,cox,_,ddx⟩,_⟩:=I1.list (SqL.of hqx)
 obtain ⟨ity,ry,⟨oy,ny,eoy,coy,_,ddy⟩,_⟩:=I1.list (SqL.of hqy)
 obtain ⟨itu,ru3,⟨ou,nu,eou,cou,_,ddu⟩,_⟩:=I1.list (SqL.of hqu)
 have pu:s1.heap.IsList lc itu.toArray:=⟨ou,eou,cou,nu,ddu⟩
 have ltu:lc<s1.heap.objs.size:=Heap.lt_size eou
 have px:s1.heap.IsList la itx.toArray:=⟨ox,eox,cox,nx,ddx⟩
 have py:s1.heap.IsList lb ity.toArray:=⟨oy,eoy,coy,ny,ddy⟩
 have hh:X.A.handled=none:=I1.ok.hd hc
 have ltx:la<s1.heap.objs.size:=Heap.lt_size eox
 have lty:lb<s1.heap.objs.size:=Heap.lt_size eoy
 refine call3 px py pu fun g gz gTI gTO g1 g2 g3 gk=>?_
 have gsz:s1.heap.objs.size+6≤g.objs.size:=Heap.lt_size gz
 refine Calls.spliced_nil ?_
 have ap:Ap3 (s1.heap.objs.size+5) (s1.heap.objs.size+3) (s1.heap.objs.size+4) s1.heap.objs.size (s1.heap.objs.size+1) (s1.heap.objs.size+2):=by
  constructor <;> exact neA (by omega)
 have ex:itx.toArray.size=xs.length:=by rw [rx.length];simp
 have ey:ity.toArray.size=xs.length:=by rw [hl,ry.length];simp
 have eu:itu.toArray.size=xs.length:=by rw [hl3,ru3.length];simp
 have pu':g.IsList lc itu.toArray:=pu.at fun o e=>gk lc o e
 have px':g.IsList la itx.toArray:=px.at fun o e=>gk la o e
 have py':g.IsList lb ity.toArray:=py.at fun o e=>gk lb o e
 have D1:=Draws.list (prog:=X.prog) (w:=X.w) (A:=X.A.in1.in1.in1) hh s1.heap.objs.size la (Nat.ne_of_lt ltx) itx.toArray
 have D2:=Draws.list (prog:=X.prog) (w:=X.w) (A:=X.A.in1.in1.in1) hh (s1.heap.objs.size+1) lb (Nat.ne_of_lt (Nat.lt_succ_of_lt lty)) ity.toArray
 have D3:=Draws.list (prog:=X.prog) (w:=X.w) (A:=X.A.in1.in1.in1) hh (s1.heap.objs.size+2) lc (Nat.ne_of_lt (Nat.lt_of_lt_of_le ltu (Nat.le_add_right _ _))) itu.toArray
 rw [eu] at D3
 rw [ex] at D1
 rw [ey] at D2
 have offl:∀c:Addr,c<s1.heap.objs.size->c∉[s1.heap.objs.size+5,s1.heap.objs.size+4,s1.heap.objs.size,s1.heap.objs.size+1,s1.heap.objs.size+2]:=fun c hc' hm=>by
  have hc':(c:Nat)<s1.heap.objs.size:=hc'
  simp only [List.mem_cons,List.not_mem_nil,or_false] at hm
  rcases hm with y | y | y | y | y
  ·exact absurd hc' (by rw [y];exact Nat.not_lt.mpr (Nat.le_add_right _ _))
  ·exact absurd hc' (by rw [y];exact Nat.not_lt.mpr (Nat.le_add_right _ _))
  ·exact absurd hc' (by rw [y];exact Nat.lt_irrefl _)
  ·exact absurd hc' (by rw [y];exact Nat.not_lt.mpr (Nat.le_add_right _ _))
  ·exact absurd hc' (by rw [y];exact Nat.not_lt.mpr (Nat.le_add_right _ _))
 refine list_zip3 (s:={ s1 with heap:=g }) (n:=xs.length) D1 D2 D3 ap hmax (fun c hc'=>?_) (fun c hc'=>?_) (fun c hc'=>?_) gz gTI gTO ⟨g1,px'⟩ ⟨g2,py'⟩ ⟨g3,pu'⟩ (Nat.lt_of_lt_of_le (by omega) gsz) (Nat.lt_of_lt_of_le (by omega) gsz) (Nat.lt_of_lt_of_le (by omega) gsz) fun h' tk acc c kp hS hsz items inj=>?_
 ·rcases List.mem_cons.mp hc' with z | z
  ·exact .inl z
  ·rw [List.mem_singleton.mp z]
   exact .inr ⟨offl la ltx,Nat.lt_of_lt_of_le ltx (by show s1.heap.objs.size≤g.objs.size;omega)⟩
 ·rcases List.mem_cons.mp hc' with z | z
  ·exact .inl z
  ·rw [List.mem_singleton.mp z]
   exact .inr ⟨offl lb lty,Nat.lt_of_lt_of_le lty (by show s1.heap.objs.size≤g.objs.size;omega)⟩
 ·rcases List.mem_cons.mp hc' with z | z
  ·exact .inl z
  ·rw [List.mem_singleton.mp z]
   exact .inr ⟨offl lc ltu,Nat.lt_of_lt_of_le ltu (by show s1.heap.objs.size≤g.objs.size;omega)⟩
 have hS:h'.get? g.objs.size=some { cls:=.type "list",dict:=none,data:=.seq acc c,slots:=#[] }:=hS
 obtain ⟨ts,hts⟩:∃ts:List Addr,acc.toList=ts.map Value.ref:=by
  have:∀(l:List Value),(∀v∈l,∃t:Addr,v=.ref t)->∃ts:List Addr,l=ts.map Value.ref:=by
   intro l
   induction l with
   | nil=>exact fun _=>⟨[],rfl⟩
   | cons v r ih=>
    intro hv
    obtain ⟨t,rfl⟩:=hv v (by simp)
    obtain ⟨ts,rfl⟩:=ih fun v hv'=>hv v (by simp [hv'])
    exact ⟨t::ts,rfl⟩
  refine this acc.toList fun v hv=>?_
  obtain ⟨j,hj⟩:=List.mem_iff_getElem?.mp hv
  rw [Array.getElem?_toList] at hj
  obtain ⟨t,_,_,_,e,_⟩:=items j v hj
  exact ⟨t,e⟩
 have tsl:ts.length=xs.length:=by rw [<- hsz,<- Array.length_toList,hts,List.length_map]
 have tsg:∀{i:Nat} {t:Addr},ts[i]?=some t->acc[i]?=some (.ref t):=fun {i t} e=>by rw [<- Array.getElem?_toList,hts,List.getElem?_map,e];rfl
 have tnd:ts.Nodup:=d_z fun i j t h1 h2=>inj i j t (tsg h1) (tsg h2)
 have told:∀{i:Nat} {t:Addr} {x y w3:V},ts[i]?=some t->xs[i]?=some x->ys[i]?=some y->us3[i]?=some w3->g.objs.size<t/\∃u v w4,RelV x u/\RelV y v/\RelV w3 w4/\b_B h' t u v w4:=fun {i t x y w3} ht hx hy hw=>by
  obtain ⟨t',u,v,w4,e,p1,p2,p3,pr,hlt⟩:=items i _ (tsg ht)
  have p3:itu.toArray[i]?=some w4:=p3
  obtain ⟨w',hw',rw'⟩:=ru3.get hw
  rw [List.getElem?_toArray,hw'] at p3
  cases p3
  cases e
  have p1:itx.toArray[i]?=some u:=p1
  have p2:ity.toArray[i]?=some v:=p2
  obtain ⟨u',hu,ru⟩:=rx.get hx
  obtain ⟨v',hv,rv⟩:=ry.get hy
  rw [List.getElem?_toArray,hu] at p1
  rw [List.getElem?_toArray,hv] at p2
  cases p1
  cases p2
  exact ⟨hlt,_,_,_,ru,rv,rw',pr⟩
 have hfull:∀{i:Nat},i<xs.length->∃t x y u,ts[i]?=some t/\xs[i]?=some x/\ys[i]?=some y/\us3[i]?=some u:=fun {i} hi=>⟨ts[i],xs[i],ys[i],us3[i],List.getElem?_eq_getElem _,List.getElem?_eq_getElem _,List.getElem?_eq_getElem _,List.getElem?_eq_getElem _⟩
 have tgt:∀t∈ts,g.objs.size<t:=fun t ht=>by
  obtain ⟨i,hi⟩:=List.mem_iff_getElem?.mp ht
  have hil:i<xs.length:=by rw [<- tsl];exact (List.getElem?_eq_some_iff.mp hi).1
  obtain ⟨t',x,y,u,h1,h2,h3,h4⟩:=hfull hil
  rw [hi] at h1
  cases h1
  exact (told hi h2 h3 h4).1
 let H2:Hp:=fun b=>if b<s1.heap.objs.size then H1 b else if b=g.objs.size then some (.lst (ts.map V.ref)) else newT3 ts xs ys us3 b
 have gS:¬ g.objs.size<s1.heap.objs.size:=by omega
 have H2old:∀b,b<s1.heap.objs.size->H2 b=H1 b:=fun b hb=>if_pos hb
 have H2l:H2 g.objs.size=some (.lst (ts.map V.ref)):=(if_neg gS).trans (if_pos rfl)
 have H2t:∀(i:Nat) (t:Addr) (x y u:V),ts[i]?=some t->xs[i]?=some x->ys[i]?=some y->us3[i]?=some u->H2 t=some (.tup [x,y,u]):=fun i t x y u h1 h2 h3 h4=>by
  have hlt:=(told h1 h2 h3 h4).1
  have hn1:¬ t<s1.heap.objs.size:=fun z=>absurd (Nat.lt_trans hlt z) gS
  have hn2:t≠g.objs.size:=Nat.ne_of_gt hlt
  show (if t<s1.heap.objs.size then H1 t else if t=g.objs.size then some (.lst (ts.map V.ref)) else newT3 ts xs ys us3 t)=_
  rw [if_neg hn1,if_neg hn2,newT3,e_b tnd h1 (v:=(x,y,u)) (by rw [List.getElem?_zip_eq_some,List.getElem?_zip_eq_some];exact ⟨h2,h3,h4⟩)]
  rfl
 have keepAll:∀b o,s1.heap.get? b=some o->h'.get? b=some o:=fun b o e=>kp b o (offl b (Heap.lt_size e)) (gk b o e)
 refine ⟨.ref g.objs.size,H2,?_,rfl,q g.objs.size ts H2 tsl tnd (I1.hok.fresh (by omega)) (fun b o e=>by rw [H2old b (I1.hok.lt e)];exact e) H2l H2t⟩
 have J:=I1.many (H':=H2) (h':=h') (t':=tk) keepAll H2old fun b o hb e=>?_
 ·exact J
 ·by_cases hbg:b=g.objs.size
  ·subst hbg
   rw [H2l] at e
   cases e
   refine ⟨by rw [List.length_map,tsl,sizeLine_eq];omega,ts.map Value.ref,c,?_,?_⟩
   ·clear hts tsl tsg tnd told hfull tgt H2 H2old H2l H2t
    induction ts with
    | nil=>exact .nil
    | cons t r ih=>exact .cons rfl ih
   ·rw [<- hts]
    simpa using hS
  ·have e':newT3 ts xs ys us3 b=some o:=by
    have e:(if b<s1.heap.objs.size then H1 b else if b=g.objs.size then some (.lst (ts.map V.ref)) else newT3 ts xs ys us3 b)=some o:=e
    rw [if_neg (Nat.not_lt.mpr hb),if_neg hbg] at e
    exact e
   unfold newT3 at e'
   cases hlk:(ts.zip (xs.zip (ys.zip us3))).lookup b with
   | none=>rw [hlk] at e';cases e'
   | some q2=>
    rw [hlk] at e'
    cases e'
    obtain ⟨i,hi⟩:=List.mem_iff_getElem?.mp (mem_lookA hlk)
    rw [List.getElem?_zip_eq_some] at hi
    obtain ⟨h1,h2⟩:=hi
    rw [List.getElem?_zip_eq_some,List.getElem?_zip_eq_some] at h2
    obtain ⟨_,u,v,w4,ru,rv,rw4,pr⟩:=told h1 h2.1 h2.2.1 h2.2.2
    exact ⟨a_i (by show 3≤16777216;decide),[u,v,w4],.cons ru (.cons rv (.cons rw4 .nil)),⟨_,pr,rfl,0,rfl⟩⟩
end L2
namespace RA
open PySem L2
structure Mon (n:Nat) (m:Nat->Nat->Nat):Prop where
 lt:∀{i j:Nat},i<n->j<n->m i j<n
 as:∀{i j k:Nat},i<n->j<n->k<n->m (m i j) k=m i (m j k)
 one:∃e,e<n/\∀i,i<n->m e i=i/\m i e=i
def bR (n:Nat) (m:Nat->Nat->Nat) (i j:Nat):Prop:=∃p,p<n/\m i p=j
def bL (n:Nat) (m:Nat->Nat->Nat) (i j:Nat):Prop:=∃p,p<n/\m p i=j
def bJ (n:Nat) (m:Nat->Nat->Nat) (i j:Nat):Prop:=∃p q,p<n/\q<n/\m (m p i) q=j
def RR (n:Nat) (m:Nat->Nat->Nat) (i j:Nat):Prop:=bR n m i j/\bR n m j i
def LL (n:Nat) (m:Nat->Nat->Nat) (i j:Nat):Prop:=bL n m i j/\bL n m j i
def JJ (n:Nat) (m:Nat->Nat->Nat) (i j:Nat):Prop:=bJ n m i j/\bJ n m j i
section
variable {n:Nat} {m:Nat->Nat->Nat}
theorem Mon.opp (h:Mon n m):Mon n (fun i j=>m j i):=⟨fun hi hj=>h.lt hj hi,fun hi hj hk=>(h.as hk hj hi).symm,let ⟨e,he,q⟩:=h.one;⟨e,he,fun i hi=>⟨(q i hi).2,(q i hi).1⟩⟩⟩
theorem hole {f:Nat->Nat} (hf:∀i,f i<n):∃i j,i<j/\f i=f j:=by
 refine Classical.byContradiction fun no=>?_
 have ne:∀{i j:Nat},i≠j->f i≠f j:=fun {i j} h z=>by
  rcases Nat.lt_or_gt_of_ne h with y | y
  ·exact no ⟨i,j,y,z⟩
  ·exact no ⟨j,i,y,z.symm⟩
 have nd:((List.range (n+1)).map f).Nodup:=List.Pairwise.map f (fun a b h=>ne h) List.nodup_range
 have:=sub_len (b:=List.range n) nd fun c hc=>by
  obtain ⟨i,_,rfl⟩:=List.mem_map.mp hc
  exact List.mem_range.mpr (hf i)
 rw [List.length_map,List.length_range,List.length_range] at this
 omega
def its (m:Nat->Nat->Nat) (x v:Nat):Nat->Nat
 | 0=>x
 | k+1=>m (its m x v k) v
theorem its_lt (h:Mon n m) {x v:Nat} (hx:x<n) (hv:v<n):∀k,its m x v k<n
 | 0=>hx
 | k+1=>h.lt (its_lt h hx hv k) hv
theorem its_add {x v i:Nat}:∀d,its m (its m x v i) v d=its m x v (i+d)
 | 0=>rfl
 | d+1=>congrArg (fun z=>m z v) (its_add d)
theorem its_in (h:Mon n m) {w y v:Nat} (hw:w<n) (hy:y<n) (hv:v<n):∀d,m w (its m y v d)=its m (m w y) v d
 | 0=>rfl
 | d+1=>by
  show m w (m (its m y v d) v)=m (its m (m w y) v d) v
  rw [<- its_in h hw hy hv d,h.as hw (its_lt h hy hv d) hv]
theorem its_by (h:Mon n m) {y v:Nat} (hy:y<n) (hv:v<n):∀d,∃p,p<n/\m y p=its m y v d
 | 0=>let ⟨e,he,q⟩:=h.one;⟨e,he,(q y hy).2⟩
 | d+1=>by
  obtain ⟨p,hp,e⟩:=its_by h hy hv d
  exact ⟨m p v,h.lt hp hv,by rw [<- h.as hy hp hv,e];rfl⟩
theorem Mon.stabR (h:Mon n m) (hu:u<n) (hx:x<n) (hv:v<n) (e:m (m u x) v=x):∃p,p<n/\m (m x v) p=x:=by
 have A:∀i,∃w,w<n/\m w (its m x v i)=x:=fun i=>by
  induction i with
  | zero=>obtain ⟨o,ho,q⟩:=h.one;exact ⟨o,ho,(q x hx).1⟩
  | succ i ih=>
   obtain ⟨w,hw,ew⟩:=ih
   have hi:=its_lt h hx hv i
   refine ⟨m u w,h.lt hu hw,?_⟩
   show m (m u w) (m (its m x v i) v)=x
   rw [h.as hu hw (h.lt hi hv),<- h.as hw hi hv,ew,<- h.as hu hx hv,e]
 obtain ⟨i,j,hij,eq⟩:=hole (its_lt h hx hv)
 obtain ⟨w,hw,ew⟩:=A i
 obtain ⟨d,rfl⟩:∃d,j=i+(1+d):=⟨j - i - 1,by omega⟩
 have z:its m x v (1+d)=x:=by
  have z1:=its_in h hw (its_lt h hx hv i) hv (1+d)
  rw [its_add,<- eq,ew] at z1
  exact z1.symm
 obtain ⟨p,hp,ep⟩:=its_by h (h.lt hx hv) hv d
 refine ⟨p,hp,?_⟩
 rw [ep]
 exact (its_add (i:=1) (m:=m) (x:=x) (v:=v) d).trans z
theorem Mon.stabL (h:Mon n m) (hu:u<n) (hx:x<n) (hv:v<n) (e:m (m u x) v=x):∃p,p<n/\m p (m u x)=x:=h.opp.stabR hv hx hu (by show m u (m x v)=x;rw [<- h.as hu hx hv];exact e)
theorem Mon.dJ (h:Mon n m) (hx:x<n) (hy:y<n) (j:JJ n m x y):∃z,z<n/\RR n m x z/\LL n m z y:=by
 obtain ⟨⟨p,q,hp,hq,e1⟩,s,t,hs,ht,e2⟩:=j
 have hz:=h.lt hx hq
 have py:m p (m x q)=y:=by rw [<- h.as hp hx hq];exact e1
 refine ⟨m x q,hz,⟨⟨q,hq,rfl⟩,?_⟩,⟨p,hp,py⟩,?_⟩
 ·obtain ⟨r,hr,er⟩:=h.stabR (u:=m s p) (v:=m q t) (h.lt hs hp) hx (h.lt hq ht) (by
   rw [<- h.as (h.lt (h.lt hs hp) hx) hq ht,h.as (h.lt hs hp) hx hq,h.as hs hp hz,py,e2])
  refine ⟨m t r,h.lt ht hr,?_⟩
  rw [<- h.as hz ht hr,h.as hx hq ht]
  exact er
 ·obtain ⟨r,hr,er⟩:=h.stabL (u:=m s p) (x:=m x q) (v:=m t q) (h.lt hs hp) hz (h.lt ht hq) (by
   rw [h.as hs hp hz,py,<- h.as (h.lt hs hy) ht hq,e2])
  refine ⟨m r s,h.lt hr hs,?_⟩
  rw [h.as hs hp hz,py] at er
  rw [h.as hr hs hy]
  exact er
theorem bR.tr (h:Mon n m) (hi:i<n) (a:bR n m i j) (b:bR n m j k):bR n m i k:=by
 obtain ⟨p,hp,rfl⟩:=a
 obtain ⟨q,hq,rfl⟩:=b
 exact ⟨m p q,h.lt hp hq,(h.as hi hp hq).symm⟩
theorem bJ.tr (h:Mon n m) (hi:i<n) (a:bJ n m i j) (b:bJ n m j k):bJ n m i k:=by
 obtain ⟨p,q,hp,hq,rfl⟩:=a
 obtain ⟨s,t,hs,ht,rfl⟩:=b
 refine ⟨m s p,m q t,h.lt hs hp,h.lt hq ht,?_⟩
 rw [h.as hs hp hi,<- h.as (h.lt hs (h.lt hp hi)) hq ht,h.as hs (h.lt hp hi) hq]
theorem bR.j (h:Mon n m) {i j:Nat} (hi:i<n) (a:bR n m i j):bJ n m i j:=by
 obtain ⟨p,hp,e⟩:=a
 obtain ⟨o,ho,q⟩:=h.one
 exact ⟨o,p,ho,hp,by rw [(q i hi).1,e]⟩
theorem bL.j (h:Mon n m) {i j:Nat} (hi:i<n) (a:bL n m i j):bJ n m i j:=by
 obtain ⟨p,hp,e⟩:=a
 obtain ⟨o,ho,q⟩:=h.one
 exact ⟨p,o,hp,ho,by rw [(q _ (h.lt hp hi)).2,e]⟩
theorem RR.tr (h:Mon n m) (hi:i<n) (hk:k<n) (a:RR n m i j) (b:RR n m j k):RR n m i k:=⟨a.1.tr h hi b.1,b.2.tr h hk a.2⟩
theorem RR.sy (a:RR n m i j):RR n m j i:=⟨a.2,a.1⟩
theorem LL.sy (a:LL n m i j):LL n m j i:=⟨a.2,a.1⟩
theorem JJ.tr (h:Mon n m) (hi:i<n) (hk:k<n) (a:JJ n m i j) (b:JJ n m j k):JJ n m i k:=⟨a.1.tr h hi b.1,b.2.tr h hk a.2⟩
theorem RR.j (h:Mon n m) {i j:Nat} (hi:i<n) (hj:j<n) (a:RR n m i j):JJ n m i j:=⟨a.1.j h hi,a.2.j h hj⟩
theorem LL.j (h:Mon n m) {i j:Nat} (hi:i<n) (hj:j<n) (a:LL n m i j):JJ n m i j:=⟨a.1.j h hi,a.2.j h hj⟩
theorem cnt_le (f g:Nat->Nat) (h:∀k,k<n->P k=true->f k<n/\Q (f k)=true/\g (f k)=k):((List.range n).filter P).length≤((List.range n).filter Q).length:=by
 have mem:∀{k:Nat},k∈(List.range n).filter P->k<n/\P k=true:=fun hk=>⟨List.mem_range.mp (List.mem_filter.mp hk).1,(List.mem_filter.mp hk).2⟩
 have nd:(((List.range n).filter P).map f).Nodup:=by
  refine List.pairwise_map.mpr (List.Pairwise.imp_of_mem ?_ (List.Pairwise.filter P List.nodup_range))
  intro a b ha hb ab z
  refine ab ?_
  rw [<- (h a (mem ha).1 (mem ha).2).2.2,z,(h b (mem hb).1 (mem hb).2).2.2]
 have:=sub_len nd (b:=(List.range n).filter Q) fun c hc=>by
  obtain ⟨k,hk,rfl⟩:=List.mem_map.mp hc
  obtain ⟨z1,z2,_⟩:=h k (mem hk).1 (mem hk).2
  exact List.mem_filter.mpr ⟨List.mem_range.mpr z1,z2⟩
 rwa [List.length_map] at this
theorem Mon.green (h:Mon n m) (hz:z<n) (hw:w<n) (r:RR n m z w) (hP:∀k,k<n->(P k=true↔RR n m k z/\LL n m k z)) (hQ:∀k,k<n->(Q k=true↔RR n m k w/\LL n m k w)):((List.range n).filter P).length≤((List.range n).filter Q).length:=by
 obtain ⟨p,hp,e1⟩:=r.1
 obtain ⟨q,hq,e2⟩:=r.2
 refine cnt_le (fun k=>m k p) (fun k=>m k q) fun k hk pk=>?_
 obtain ⟨kr,kl⟩:=(hP k hk).mp pk
 obtain ⟨b,hb,eb⟩:=kl.1
 obtain ⟨a,ha,ea⟩:=kl.2
 have f1:m k p=m a w:=by rw [<- ea,h.as ha hz hp,e1]
 have f2:m (m k p) q=k:=by rw [f1,h.as ha hw hq,e2,ea]
 refine ⟨h.lt hk hp,(hQ _ (h.lt hk hp)).mpr ⟨RR.tr h (h.lt hk hp) hw ⟨⟨q,hq,f2⟩,p,hp,rfl⟩ (RR.tr h hk hw kr r),⟨b,hb,?_⟩,a,ha,f1.symm⟩,f2⟩
 rw [<- h.as hb hk hp,eb,e1]
def b_V (n:Nat) (r l:Nat->Nat) (a b:Nat):Nat:=((List.range n).filter fun k=>decide (r k=a)&&decide (l k=b)).length
structure Num (n:Nat) (m:Nat->Nat->Nat) (r l j:Nat->Nat):Prop where
 mo:Mon n m
 r:∀{a b:Nat},a<n->b<n->(r a=r b↔RR n m a b)
 l:∀{a b:Nat},a<n->b<n->(l a=l b↔LL n m a b)
 j:∀{a b:Nat},a<n->b<n->(j a=j b↔JJ n m a b)
variable {r l j:Nat->Nat}
theorem Num.inH (h:Num n m r l j) (hz:z<n):∀k,k<n->((decide (r k=r z)&&decide (l k=l z))=true↔RR n m k z/\LL n m k z):=fun k hk=>by
 rw [Bool.and_eq_true,decide_eq_true_eq,decide_eq_true_eq,h.r hk hz,h.l hk hz]
theorem Num.sizeR (h:Num n m r l j) (hz:z<n) (hw:w<n) (e:RR n m z w):b_V n r l (r z) (l z)=b_V n r l (r w) (l w):=Nat.le_antisymm (h.mo.green hz hw e (h.inH hz) (h.inH hw)) (h.mo.green hw hz e.sy (h.inH hw) (h.inH hz))
theorem Num.sizeL (h:Num n m r l j) (hz:z<n) (hw:w<n) (e:LL n m z w):b_V n r l (r z) (l z)=b_V n r l (r w) (l w):=by
 have sw:∀{z:Nat},z<n->∀k,k<n->((decide (r k=r z)&&decide (l k=l z))=true↔RR n (fun i j=>m j i) k z/\LL n (fun i j=>m j i) k z):=fun {z} hz k hk=>by
  rw [h.inH hz k hk]
  exact And.comm
 exact Nat.le_antisymm (h.mo.opp.green hz hw e (sw hz) (sw hw)) (h.mo.opp.green hw hz e.sy (sw hw) (sw hz))
theorem Num.size (h:Num n m r l j) (hz:z<n) (hw:w<n) (e:JJ n m z w):b_V n r l (r z) (l z)=b_V n r l (r w) (l w):=by
 obtain ⟨t,ht,a,b⟩:=h.mo.dJ hz hw e
 rw [h.sizeR hz ht a,h.sizeL ht hw b]
theorem Num.even (h:Num n m r l j) (hx:x<n) (hy:y<n) (hz:z<n) (e1:j x=j y) (e2:j x=j z):b_V n r l (r x) (l y)=b_V n r l (r z) (l z):=by
 obtain ⟨t,ht,a,b⟩:=h.mo.dJ hx hy ((h.j hx hy).mp e1)
 rw [(h.r hx ht).mpr a,<- (h.l ht hy).mpr b,h.size ht hz]
 exact (a.sy.j h.mo ht hx).tr h.mo ht hz ((h.j hx hz).mp e2)
theorem Num.wide (h:Num n m r l j) (hx:x<n) (hy:y<n) (e:r x=r y\/l x=l y):j x=j y:=by
 rcases e with e | e
 ·exact (h.j hx hy).mpr (((h.r hx hy).mp e).j h.mo hx hy)
 ·exact (h.j hx hy).mpr (((h.l hx hy).mp e).j h.mo hx hy)
theorem Mon.group (h:Mon n m) (he:e<n) (hp:p<n) (ee:m e e=e):(RR n m p e/\LL n m p e)↔((m e p=p/\m p e=p)/\∃b,b<n/\(m e b=b/\m b e=b)/\m p b=e/\m b p=e):=by
 constructor
 ·rintro ⟨⟨⟨d,hd,e1⟩,c,hc,e2⟩,⟨d',hd',e3⟩,c',hc',e4⟩
  have ep:m e p=p:=by rw [<- e2,<- h.as he he hc,ee]
  have pe:m p e=p:=by rw [<- e4,h.as hc' he he,ee]
  have l1:=h.lt he hd
  have l2:=h.lt he hd'
  have r1:m p (m (m e d) e)=e:=by rw [<- h.as hp l1 he,<- h.as hp he hd,pe,e1,ee]
  have r2:m (m (m e d') e) p=e:=by rw [h.as l2 he hp,ep,h.as he hd' hp,e3,ee]
  have b1:m e (m (m e d) e)=m (m e d) e:=by rw [<- h.as he l1 he,<- h.as he he hd,ee]
  have b2:m (m (m e d) e) e=m (m e d) e:=by rw [h.as l1 he he,ee]
  have c2:m (m (m e d') e) e=m (m e d') e:=by rw [h.as l2 he he,ee]
  have same:m (m e d') e=m (m e d) e:=by
   have z:=h.as (h.lt l2 he) hp (h.lt l1 he)
   rw [r1,r2,b1,c2] at z
   exact z.symm
  exact ⟨⟨ep,pe⟩,_,h.lt l1 he,⟨b1,b2⟩,r1,by rw [<- same];exact r2⟩
 ·rintro ⟨⟨ep,pe⟩,b,hb,_,pb,bp⟩
  exact ⟨⟨⟨b,hb,pb⟩,p,hp,ep⟩,⟨b,hb,bp⟩,p,hp,pe⟩
end
end RA
namespace L2
open PySem PySem.Spec PyProof.Rows
theorem meets_getH {P:Program} {w:World} {κ:Type} [DecidableEq κ] (knd:HeapKind P w κ) {k:κ} {d a:Addr} (hd:(d==sysModules)=false) (dflt:Value):
  MeetsIn P w (Builtin.«dict.get» ⟨[.ref d,.ref a,dflt],[]⟩) (fun A R s=>∃xs,knd.room A.in1/\knd.is s.heap k a/\s.heap.DictOfH knd d xs/\R (.ok (.ret (((atKey xs k).map (·.2)).getD dflt))) { s with toks:=s.toks+knd.draws k }):=by
 intro A R s ⟨xs,hu,hk,hm,h⟩
 show wpAny _ _ (dictGet d (.ref a) >>= _) _ _ s
 refine wpAny_bind (wpAny_dictGet_heap hu hk hm ?_)
 cases hf:(atKey xs k).map (·.2) with
 | some v=>
  rw [hf] at h
  exact wpAny_pure h
 | none=>
  rw [hf] at h
  show wpAny _ _ (Builtin.Dict.missed d (.ref a) >>= _) _ _ _
  exact wpAny_bind (wpAny_missed_other hd (wpAny_pure h))
section
variable {X:Cx}
def rGetW (P:Program) (w:World):V->List V->Hp->VK->Prop:=fun x vs H Q=>∃d y z o,x=.ref d/\vs=[y,z]/\DGetW P w H d y o/\Q (o.getD z) H
theorem mt_getW (hu:X.A.units+64<cLine):MtM X "dict.get" (rGetW X.prog X.w):=by
 intro pins s σ H x xs v us Q I rx rv h
 obtain ⟨d,y,z,o,rfl,rfl,g,q⟩:=h
 cases rx
 obtain ⟨u1,u2,rfl,r1,r2⟩:=rv.two
 rcases g with ⟨kvs,k,e,rfl,rfl⟩ | ⟨kvs,k,b,e,hk,rfl,kb,rfl⟩
 ·obtain ⟨t,rfl⟩:=(show ∃t,u1=Value.int k t from r1)
  obtain ⟨ns,_,vs,rel,dd⟩:=kd_of I.hok e
  exact call_meetsIn PySem.F.slot_dict_get dd.typeIs PySem.F.entry_dict_get (PySem.F.args_dict_get_3 _ _ _) (meets_dict_get_default (intKind X.prog X.w) (k:=k) (key:=Value.int k t) d (b_Q k t) ns u2) ⟨_,dd.mapOf,⟨_,H,I.tok _,(rel.val k).getD r2,q⟩⟩
 ·cases r1
  obtain ⟨ns,_,xs,rel,dd⟩:=hd_of (D:=b_c X.prog X.w) I.hok e hk
  exact call_meetsIn PySem.F.slot_dict_get dd.typeIs PySem.F.entry_dict_get (PySem.F.args_dict_get_3 _ _ _) (meets_getH (b_c X.prog X.w).knd ns u2) ⟨xs,((b_c X.prog X.w).room hu).1,(b_c X.prog X.w).ok kb I.hok,dd,⟨_,H,I.tok _,(kh_val rel k).getD r2,q⟩⟩
def rSetDef (P:Program) (w:World):V->List V->Hp->VK->Prop:=fun x vs H Q=>∃d k z kvs,x=.ref d/\vs=[.int k,z]/\H d=some (kdO (intKind P w) d kvs)/\kvs.length<sizeLine/\(∀v,valV kvs k=some v->Q v H)/\(valV kvs k=none->Q z (upd H d (kdO (intKind P w) d (kvs++[(k,z)]))))
theorem mt_setdef:MtM X "dict.setdefault" (rSetDef X.prog X.w):=by
 intro pins s σ H x xs v us Q I rx rv h
 obtain ⟨d,k,z,kvs,rfl,rfl,e,hl,q1,q2⟩:=h
 cases rx
 obtain ⟨u1,u2,rfl,r1,r2⟩:=rv.two
 obtain ⟨t,rfl⟩:=(show ∃t,u1=Value.int k t from r1)
 obtain ⟨ns,hz,vs,rel,dd⟩:=kd_of I.hok e
 refine call_meetsIn PySem.F.slot_dict_setdefault dd.typeIs PySem.F.entry_dict_setdefault (PySem.F.args_dict_setdefault_3 _ _ _) (kt_meets_setdefault (intKind X.prog X.w) (k:=k) (key:=Value.int k t) d (b_Q k t) ns u2) ⟨vs,dd,by rw [<- rel.length];exact hz,fun w' hw=>?_,fun hn h' dd' hs=>?_⟩
 ·have r:=rel.val k
  cases hv:valV kvs k with
  | none=>rw [hv,hw] at r;exact (show False from r).elim
  | some v=>
   rw [hv,hw] at r
   exact ⟨v,H,I.tok _,r,q1 v hv⟩
 ·have r:=rel.val k
  cases hv:valV kvs k with
  | some v=>rw [hv,hn] at r;exact (show False from r).elim
  | none=>
   rw [d_j hn] at dd'
   exact ⟨z,_,c_e I (by rw [e];exact True.intro) hs (let ⟨o,_,_,q,_⟩:=dd';⟨o,q⟩) (kd_ok ns (by rw [List.length_append];exact hl) (kv_snoc rel r2) dd'),r2,q2 hv⟩
def putH {κ:Type} [DecidableEq κ] (kvs:List (κ×Addr×V)) (k:κ) (b:Addr) (v:V):List (κ×Addr×V):=if (valH kvs k).isSome then kvs.map fun x=>if x.1=k then (x.1,x.2.1,v) else x else kvs++[(k,b,v)]
theorem pd_map {κ:Type} [DecidableEq κ] {k:κ} {v:V} {r:Value} (rv:RelV v r) {kvs:List (κ×Addr×V)} {xs:List (κ×Addr×Value)} (h:Paired (KHr κ) kvs xs):Paired (KHr κ) (kvs.map fun x=>if x.1=k then (x.1,x.2.1,v) else x) (xs.map (putAt k r)):=by
 induction h with
 | nil=>exact .nil
 | @cons p q ps qs h t ih=>
  refine .cons ?_ ih
  obtain ⟨h1,h2,h3⟩:=h
  show KHr κ (if p.1=k then (p.1,p.2.1,v) else p) (if q.1=k then (q.1,q.2.1,r) else q)
  by_cases e:p.1=k
  ·rw [if_pos e,if_pos (h1.symm.trans e)]
   exact ⟨h1,h2,rv⟩
  ·rw [if_neg e,if_neg (fun z=>e (h1.trans z))]
   exact ⟨h1,h2,h3⟩
def rSetC (P:Program) (w:World):TSet:=fun o i v H Q=>∃d kvs k b,o=.ref d/\i=.ref b/\H d=some (hdO (b_c P w) d kvs)/\(∀x∈kvs,TIn H x.1 x.2.1)/\TIn H k b/\kvs.length<sizeLine/\Q (upd H d (hdO (b_c P w) d (putH kvs k b v)))
theorem set_dictC (hu:X.A.units+64<cLine):PSet X (rSetC X.prog X.w):=by
 intro pins s σ H o i v ov iv u Q I ro ri rv h
 obtain ⟨d,kvs,k,b,rfl,rfl,e,hk,kb,hl,q⟩:=h
 cases ro
 cases ri
 obtain ⟨ns,hz,xs,rel,dd⟩:=hd_of (D:=b_c X.prog X.w) I.hok e hk
 refine wpAny_setItem_heap (hsz:=by rw [<- Paired.length rel];exact hz) ((b_c X.prog X.w).room hu).1 ((b_c X.prog X.w).ok kb I.hok) dd fun h' dd' hs=>⟨_,?_,q⟩
 have qq:=c_N (kh_val rel k)
 rw [Option.isSome_map] at qq
 unfold storedH at dd'
 rw [<- qq] at dd'
 unfold putH
 by_cases z:(valH kvs k).isSome=true
 ·rw [if_pos z] at dd' ⊢
  exact c_e I (by rw [e];exact True.intro) hs (let ⟨o,_,_,q,_⟩:=dd';⟨o,q⟩) (hd_ok ns (by rw [List.length_map];exact hz) (pd_map rv rel) dd')
 ·rw [if_neg z] at dd' ⊢
  exact c_e I (by rw [e];exact True.intro) hs (let ⟨o,_,_,q,_⟩:=dd';⟨o,q⟩) (hd_ok ns (by rw [List.length_append];exact hl) (e_Z (F:=KHr _) ⟨rfl,rfl,rv⟩ rel) dd')
theorem valH_put {κ:Type} [DecidableEq κ] {kvs:List (κ×Addr×V)} {k k':κ} {b:Addr} {v:V}:valH (putH kvs k b v) k'=if k'=k then some v else valH kvs k':=by
 unfold putH
 by_cases z:(valH kvs k).isSome=true
 ·rw [if_pos z]
  clear b
  induction kvs with
  | nil=>cases z
  | cons p ps ih=>
   unfold valH at z ih ⊢
   rw [List.map_cons,List.find?_cons,List.find?_cons]
   by_cases e:p.1=k
   ·rw [if_pos e]
    by_cases e':k'=k
    ·rw [e',if_pos rfl]
     simp [e]
    ·rw [if_neg e']
     have n1:¬ p.1=k':=fun y=>e' (y.symm.trans e)
     simp only [n1,decide_false]
     have hh:∀(l:List (κ×Addr×V)),((l.map fun x=>if x.1=k then (x.1,x.2.1,v) else x).find? fun x=>decide (x.1=k')).map (·.2.2)=(l.find? fun x=>decide (x.1=k')).map (·.2.2):=fun l=>by
      induction l with
      | nil=>rfl
      | cons q qs ih=>
       rw [List.map_cons,List.find?_cons,List.find?_cons]
       by_cases f:q.1=k
       ·rw [if_pos f]
        have n2:¬ q.1=k':=fun y=>e' (y.symm.trans f)
        simp only [n2,decide_false]
        exact ih
       ·rw [if_neg f]
        by_cases g:q.1=k'
        ·simp [g]
        ·simp only [g,decide_false]
         exact ih
     exact hh ps
   ·rw [if_neg e]
    by_cases e':p.1=k'
    ·have n3:¬ k'=k:=fun y=>e (e'.trans y)
     rw [if_neg n3]
     simp [e']
    ·simp only [e',decide_false]
     rw [List.find?_cons] at z
     simp only [e,decide_false] at z
     exact ih z
 ·rw [if_neg z]
  have hn:valH kvs k=none:=by
   cases y:valH kvs k with
   | none=>rfl
   | some _=>rw [y] at z;exact absurd rfl z
  unfold valH at hn ⊢
  rw [List.find?_append]
  by_cases e':k'=k
  ·rw [e',if_pos rfl]
   rw [Option.map_eq_none_iff.mp hn]
   simp
  ·rw [if_neg e']
   have n4:¬ k=k':=fun y=>e' y.symm
   simp [List.find?_cons,n4]
theorem putH_len {κ:Type} [DecidableEq κ] {kvs:List (κ×Addr×V)} {k:κ} {b:Addr} {v:V}:(putH kvs k b v).length≤kvs.length+1:=by
 unfold putH
 split
 ·rw [List.length_map];omega
 ·rw [List.length_append];exact Nat.le_refl _
theorem putH_in {κ:Type} [DecidableEq κ] {kvs:List (κ×Addr×V)} {k:κ} {b:Addr} {v:V} {x:κ×Addr×V} (hx:x∈putH kvs k b v):(∃y∈kvs,x.1=y.1/\x.2.1=y.2.1)\/(x.1=k/\x.2.1=b):=by
 unfold putH at hx
 split at hx
 ·obtain ⟨y,hy,rfl⟩:=List.mem_map.mp hx
  refine .inl ⟨y,hy,?_⟩
  split <;> exact ⟨rfl,rfl⟩
 ·rcases List.mem_append.mp hx with z | z
  ·exact .inl ⟨x,z,rfl,rfl⟩
  ·rw [List.mem_singleton.mp z]
   exact .inr ⟨rfl,rfl⟩
end
theorem sl_tupK (K:PySem.W.Frag) (hK:X.K=K:=by rfl):SlR X (rSlT K):=by
 subst hK
 exact sl_tup
section
variable {X:Cx} {o e:Expr} {es:List Expr} {to:TE} {t:TA} {name:Str} {apos cpos:Pos} {id:String} {r:V->List V->Hp->VK->Prop}
def IsD (P:Program) (w:World) (H:Hp) (d:Addr):Prop:=(∃kvs,H d=some (kdO (intKind P w) d kvs))\/∃kvs,H d=some (hdO (b_c P w) d kvs)/\∀x∈kvs,TIn H x.1 x.2.1
def tBMD (P:Program) (w:World) (r:V->List V->Hp->VK->Prop) (to:TE) (t:TA):TE:=fun σ H Q=>to σ H fun x H1=>(∃d,x=.ref d/\IsD P w H1 d)/\t σ H1 fun xs H2=>r x xs H2 Q
theorem pe_bmD (slot:Slot "dict" name id) (hty:typeOf (.builtin id)=pure (.type "method_descriptor")) (hm:MtM X id r) (ho:PE X o to) (ha:PA X (e::es) t)
  (hbase:attributeBase o name X.env (eval o X.env)=eval o X.env:=by rfl)
  (hfew:((backTo cpos (starEach (e::es) X.env)).all (fun x=>!x.1)&&(backToKw cpos (keywordEach [] X.env)).all (fun x=>x.1.isSome)
   && decide ((e::es).length+([]:List Keyword).length+(if ([]:List Keyword).isEmpty then 0 else 1)<30))=true:=by rfl)
  (hline:(apos.endLine==cpos.line)=true:=by rfl) (hs:starEach (e::es) X.env=(false,eval e X.env)::starEach es X.env:=by rfl) (hplain:(backTo cpos (starEach es X.env)).any (·.1)=false:=by rfl):
  PE X (.Call (.Attribute o name apos) (e::es) [] cpos) (tBMD X.prog X.w r to t):=by
 intro pins s σ H Q I h
 refine wpAny_Call_method_late hbase hfew hline rfl (thn (ho pins s σ H _ I h) fun v s1 ⟨x,H1,I1,r1,⟨d,ex,hd⟩,q1⟩=>?_)
 subst ex
 cases r1
 have z:s1.TypeIs (.ref d) "dict"/\∀b,Value.ref d=.ref b->∃ob,s1.heap.get? b=some ob/\ob.dict=none:=by
  rcases hd with ⟨kvs,e1⟩ | ⟨kvs,e1,hk⟩
  ·obtain ⟨_,_,vs,_,dd⟩:=kd_of I1.hok e1
   have dd2:=dd
   obtain ⟨ob,es,ep,h1,h2,h3⟩:=dd2
   refine ⟨dd.typeIs,fun b e=>?_⟩
   cases e
   exact ⟨ob,h1,h2.2.1⟩
  ·obtain ⟨_,_,vs,_,dd⟩:=hd_of (D:=b_c X.prog X.w) I1.hok e1 hk
   exact ⟨dd.typeIs,dictOfH_noDict dd⟩
 refine ⟨"dict",_,PySem.F.plainAttrs_dict,slot,hty,z.1,z.2,?_⟩
 have hA:=ha cpos pins s1 σ H1 _ I1 q1
 rw [hs] at hA ⊢
 refine Calls.callWith_builtin (by show (false || (backTo cpos (starEach es X.env)).any (·.1))=false;rw [hplain] <;> rfl) (Calls.evalArgs_plain ?_)
 exact thn hA fun us s2 ⟨vs,H2,I2,r2,q2⟩=>hm pins s2 σ H2 (.ref d) vs _ us Q I2 rfl r2 q2
end
section
variable {X:Cx} {pins:List (Addr×Obj)} {σ:St} {H:Hp} {s:Shared} {x y fx gx:Str} {R:Addr} {j k k2:Nat} {np hpos pos p cp p2 cp2 tp yp ap:Pos} {st b0:Stmt} {suite:List Stmt} {ts:TS} {D:Ends} {ps ps2:List Str} {sp sp2:Sp} {e e2:Expr} {es es2:List Expr} {t t2:TA} {τ:(St->XK)->TS}
def tXAsg2 (j:Nat) (sp:Sp) (t:TA) (sp2:Sp) (t2:TA):(St->XK)->TS:=fun G D σ H=>t σ H fun vs H1=>sp vs H1 (fun v H2=>t2 σ H2 fun us H3=>sp2 us H3 (fun u H4=>∀q,H4 q=none->D.nx (σ.set j (some (.ref q))) (upd H4 q (.tup [v,u]))) (G σ)) (G σ)
theorem px_asg2 {x1} (nd:X.N.Nodup) (F:DfX X.prog X.w X.K X.mg X.base fx k ps sp) (hr:Room k X.A) (ha:PA X.nox (e::es) t) (F2:DfX X.prog X.w X.K X.mg X.base gx k2 ps2 sp2) (hr2:Room k2 X.A) (ha2:PA X.nox (e2::es2) t2) (hj:X.N[j]?=some y) (hy:Loc X.env.scope y)
  (hg:Gl X fx:=by rfl) (hdb:(fx==("__debug__":Str))=false:=by decide) (he:starEach (e::es) X.env=(false,eval e X.env)::starEach es X.env:=by rfl) (hpl:(backTo cp (starEach es X.env)).any (·.1)=false:=by rfl)
  (hg2:Gl X gx:=by rfl) (hdb2:(gx==("__debug__":Str))=false:=by decide) (he2:starEach (e2::es2) X.env=(false,eval e2 X.env)::starEach es2 X.env:=by rfl) (hpl2:(backTo cp2 (starEach es2 X.env)).any (·.1)=false:=by rfl)
  (hs:swapsWith (.Tuple [.Call (.Name fx p) (e::es) [] cp,.Call (.Name gx p2) (e2::es2) [] cp2] x1 tp) (some (.Name y yp)) ap.line X.env=pure false:=by rfl) (hf:X.fn y=true\/X.env.scope.names.lookup y=some .local:=by first | exact .inl rfl | exact .inr rfl):
  PX X (.Assign [.Name y yp] (.Tuple [.Call (.Name fx p) (e::es) [] cp,.Call (.Name gx p2) (e2::es2) [] cp2] x1 tp) ap) (tXAsg2 j sp t sp2 t2):=by
 intro pins s σ H D G I h
 refine wpAny_Assign_Name (wpAny_mono (Q:=EP X pins σ fun v H=>D.nx (σ.set j (some v)) H) (E:=d_L X pins G) (wpAny_Tuple_spliced ?_) (fun v s1 ⟨w,H1,I1,r1,q1⟩=>store_ok I1 nd hj hy r1 (fun s2 I2=>⟨_,H1,I2,q1⟩) hf) fun _ _ z=>z) hs
 show wpAny _ _ (spliced ((false,eval (.Call (.Name fx p) (e::es) [] cp) X.env)::(false,eval (.Call (.Name gx p2) (e2::es2) [] cp2) X.env)::[])) _ _ s
 refine Calls.spliced_cons (thn (call_px F hr ha hg hdb he hpl I h) fun u s1 ⟨v,H1,I1,r1,q1⟩=>?_)
 refine Calls.spliced_cons (thn (call_px F2 hr2 ha2 hg2 hdb2 he2 hpl2 I1 q1) fun u2 s2 ⟨v2,H2,I2,r2,q2⟩=>?_)
 refine Calls.spliced_nil ⟨a_i (by show 2≤16777216;decide),?_⟩
 have hf2:H2 s2.heap.objs.size=none:=I2.hok.fresh (Nat.le_refl _)
 refine ⟨.ref s2.heap.objs.size,upd H2 s2.heap.objs.size (.tup [v,v2]),I2.laid (t':=s2.toks) (fun b u e=>Heap.get?_push_of_some _ e) (Nat.le_refl _) ?_,rfl,q2 _ hf2⟩
 exact ⟨a_i (by show 2≤16777216;decide),[u,u2],.cons r1 (.cons r2 .nil),⟨_,Heap.get?_push_size _ rfl,rfl,_,rfl⟩⟩
def tTryXN (K:PySem.W.Frag) (R:Addr) (τ:(St->XK)->TS) (ts:TS):TS:=fun D σ H=>τ (fun σ'=>CaughtN K R ts D σ') D σ H
theorem ps_tryXN (G:TryN X x R b0 suite ts) (h:PX X st τ):PS X (.Try [st] [.ExceptHandler (some (.Name x np)) none (b0::suite) hpos] [] [] pos) (tTryXN X.K R τ ts):=by
 intro pins s σ H D I q
 refine wpAny_Try_except (wpAny_mono (one_px h I q) (fun f s1 q=>?_) fun ev s' ⟨σ',H',s1,J,cx⟩=>catch_okN G.hex G.hst G.hfr G.hg G.hm G.hs J cx G.hd)
 cases f with
 | next=>exact wpAny_execs_nil q
 | ret v=>exact q
 | brk=>exact q
 | cont=>exact q
end
end L2
namespace RA
open PySem L2
def rgtL (ks:List (List Nat)):List (List Nat):=((List.range ks.length).map fun i=>a_S ks i).map upL
def lftL (ks:List (List Nat)):List (List Nat):=((List.range ks.length).map fun i=>colT ks i).map upL
def botL (ks:List (List Nat)):List (List Nat):=((List.range ks.length).map fun i=>botT ks (upL (colT ks i))).map upL
def nR (ks:List (List Nat)) (i:Nat):Nat:=(numF (rgtL ks)).getD i 0
def nL (ks:List (List Nat)) (i:Nat):Nat:=(numF (lftL ks)).getD i 0
def nJ (ks:List (List Nat)) (i:Nat):Nat:=(numF (botL ks)).getD i 0
def LotAt (H:Hp) (l:Addr) (ps:List Addr) (ks:List (List Nat)):Prop:=H l=some (.lst (ps.map V.ref))/\ps.length=ks.length/\ps.Nodup/\∀(i:Nat) (p:Addr),ps[i]?=some p->H p=some (.tup [.int ((nR ks i:Nat):Int),.int ((nL ks i:Nat):Int),.int ((nJ ks i:Nat):Int)])
theorem LotAt.same (h:LotAt H l ps ks) (s:Same H H'):LotAt H' l ps ks:=⟨s _ _ h.1,h.2.1,h.2.2.1,fun i p e=>s _ _ (h.2.2.2 i p e)⟩
theorem up_iff (h1:∀x∈ns,x<40) (h2:∀x∈ms,x<40):upL ns=upL ms↔∀x,x∈ns↔x∈ms:=⟨fun e x=>by rw [<- e_E h1,<- e_E h2,e],up_congr⟩
theorem get_upL (hi:i<n):(((List.range n).map g).map upL)[i]?=some (upL (g i)):=by
 rw [List.getElem?_map,List.getElem?_map,List.getElem?_range hi]
 rfl
theorem num_of {S:Nat->Nat->Prop} (h40:n≤40) (hg:∀i x,i<n->(x∈g i↔S i x)) (lt:∀i x,i<n->S i x->x<n) (re:∀i,i<n->S i i) (tr:∀i j x,i<n->S i j->S j x->S i x) (ha:a<n) (hb:b<n):(numF (((List.range n).map g).map upL)).getD a 0=(numF (((List.range n).map g).map upL)).getD b 0↔S a b/\S b a:=by
 have l40:∀{i:Nat},i<n->∀x∈g i,x<40:=fun {i} hi x hx=>Nat.lt_of_lt_of_le (lt i x hi ((hg i x hi).mp hx)) h40
 rw [numF_eq (get_upL ha) (get_upL hb),up_iff (l40 ha) (l40 hb)]
 constructor
 ·exact fun h=>⟨(hg a b ha).mp ((h b).mpr ((hg b b hb).mpr (re b hb))),(hg b a hb).mp ((h a).mp ((hg a a ha).mpr (re a ha)))⟩
 ·rintro ⟨h1,h2⟩ x
  rw [hg a x ha,hg b x hb]
  exact ⟨tr b a x hb h2,tr a b x ha h1⟩
section
variable {L:List Nat} {W ks ws:List (List Nat)} {B:List Bool}
theorem Tb.mon (tb:Tb L W B ks ws):Mon ks.length (cellT ks):=by
 refine ⟨fun hi hj=>tb.lt hi hj,fun {i j k} hi hj hk=>?_,?_⟩
 ·obtain ⟨a,ha,ea⟩:=tb.word hi
  obtain ⟨b,hb,eb⟩:=tb.word hj
  obtain ⟨c,hc,ec⟩:=tb.word hk
  have l:=tb.cellW (in_app ha hb) (tb.cellW ha ea eb) ec
  rw [List.append_assoc] at l
  exact tb.eq_at l (tb.cellW ha ea (tb.cellW hb eb ec))
 ·obtain ⟨e,he⟩:=tb.told (v:=[]) (by simp)
  refine ⟨e,get_lt he,fun i hi=>?_⟩
  obtain ⟨a,ha,ea⟩:=tb.word hi
  have r:=tb.cellW ha ea he
  rw [List.append_nil] at r
  exact ⟨tb.eq_at (tb.cellW (by simp) he ea) ea,tb.eq_at r ea⟩
theorem Tb.num (tb:Tb L W B ks ws):Num ks.length (cellT ks) (nR ks) (nL ks) (nJ ks):=by
 have mo:=tb.mon
 obtain ⟨o,ho,q⟩:=mo.one
 have c40:∀{i:Nat},i<ks.length->∀x∈colT ks i,x<40:=fun {i} hi x hx=>by
  obtain ⟨p,hp,rfl⟩:=List.mem_map.mp hx
  exact Nat.lt_of_lt_of_le (mo.lt (List.mem_range.mp hp) hi) tb.fw.le
 have mc:∀{i x:Nat},x∈colT ks i↔bL ks.length (cellT ks) i x:=fun {i x}=>by
  unfold colT
  rw [List.mem_map]
  exact ⟨fun ⟨p,hp,e⟩=>⟨p,List.mem_range.mp hp,e⟩,fun ⟨p,hp,e⟩=>⟨p,List.mem_range.mpr hp,e⟩⟩
 refine ⟨mo,fun {a b} ha hb=>?_,fun {a b} ha hb=>?_,fun {a b} ha hb=>?_⟩
 ·exact num_of (S:=bR ks.length (cellT ks)) tb.fw.le (fun i x _=>d_u) (fun i x hi ⟨p,hp,e⟩=>e▸mo.lt hi hp) (fun i hi=>⟨o,ho,(q i hi).2⟩) (fun i j x hi h1 h2=>h1.tr mo hi h2) ha hb
 ·exact num_of (S:=bL ks.length (cellT ks)) tb.fw.le (fun i x _=>mc) (fun i x hi ⟨p,hp,e⟩=>e▸mo.lt hp hi) (fun i hi=>⟨o,ho,(q i hi).1⟩) (fun i j x hi h1 h2=>bR.tr mo.opp hi h1 h2) ha hb
 ·refine num_of (S:=bJ ks.length (cellT ks)) tb.fw.le (fun i x hi=>?_) (fun i x hi ⟨p,s,hp,hs,e⟩=>e▸mo.lt (mo.lt hp hi) hs) (fun i hi=>⟨o,o,ho,ho,by rw [(q i hi).1,(q i hi).2]⟩) (fun i j x hi h1 h2=>h1.tr mo hi h2) ha hb
  unfold botT
  rw [List.mem_flatMap]
  constructor
  ·rintro ⟨p,hp,hx⟩
   obtain ⟨s,hs,rfl⟩:=mc.mp ((e_E (c40 hi) p).mp hp)
   obtain ⟨t,ht,rfl⟩:=d_u.mp hx
   exact ⟨s,t,hs,ht,rfl⟩
  ·rintro ⟨s,t,hs,ht,rfl⟩
   exact ⟨cellT ks s i,(e_E (c40 hi) _).mpr (mc.mpr ⟨s,hs,rfl⟩),d_u.mpr ⟨t,ht,rfl⟩⟩
def dueL (ks:List (List Nat)) (e:Nat):List Nat:=(List.range ks.length).filter fun k=>decide (nR ks k=nR ks e)&&decide (nL ks k=nL ks e)
theorem Tb.group (tb:Tb L W B ks ws) (he:e<ks.length) (ee:onceB ks e=true):mems ks e=dueL ks e:=by
 have mo:=tb.mon
 have nu:=tb.num
 have e1:cellT ks e e=e:=(tb.cell he he he).mpr (of_decide_eq_true ee)
 have kp:∀{k:Nat},k<ks.length->(f_k ks e k=true↔cellT ks e k=k/\cellT ks k e=k):=fun {k} hk=>by
  unfold f_k
  rw [Bool.and_eq_true,decide_eq_true_eq,decide_eq_true_eq,tb.cell he hk hk,tb.cell hk he hk]
 unfold mems kepts dueL
 rw [List.filter_filter]
 refine List.filter_congr fun k hk=>?_
 have hk:=List.mem_range.mp hk
 rw [Bool.eq_iff_iff,nu.inH he k hk,mo.group he hk e1,Bool.and_eq_true,kp hk,List.any_eq_true,And.comm]
 refine and_congr_right fun _=>⟨?_,?_⟩
 ·rintro ⟨b,hb,z⟩
  obtain ⟨hb1,hb2⟩:=List.mem_filter.mp hb
  have hb1:=List.mem_range.mp hb1
  unfold e_u at z
  rw [Bool.and_eq_true,decide_eq_true_eq,decide_eq_true_eq,<- tb.cell hk hb1 he,<- tb.cell hb1 hk he] at z
  exact ⟨b,hb1,(kp hb1).mp hb2,z⟩
 ·rintro ⟨b,hb1,hb2,z⟩
  refine ⟨b,List.mem_filter.mpr ⟨List.mem_range.mpr hb1,(kp hb1).mpr hb2⟩,?_⟩
  unfold e_u
  rw [Bool.and_eq_true,decide_eq_true_eq,decide_eq_true_eq,<- tb.cell hk hb1 he,<- tb.cell hb1 hk he]
  exact z
end
end RA
section
seal L2.PE L2.PT L2.PW L2.PA L2.PS L2.PSs L2.PG L2.PGs L2.PI L2.PTs L2.PX
namespace K64
open PySem L2 RA
def top (i:Nat):Stmt:=PySem.Challenge.pw_roomalgebra_k64_lots_and_groups.main.body.getD i (.Pass ⟨0,0,0,0⟩)
abbrev b_f:Stmt:=top 16
abbrev a_k:Stmt:=top 19
abbrev s_Walk:Stmt:=top 15
abbrev d_m:Stmt:=inClass s_Walk 0
structure WkT (K:PySem.W.Frag) (mg:Str->Option Value) (cW fI:Addr) (fdI:FuncData):Prop where
 kW:mg "Walk"=some (.ref cW)
 cls:Cls K cW
 mkW:Mk K cW fI
 na1:a_I K cW "letters"
 na2:a_I K cW "things"
 na3:a_I K cW "words"
 na4:a_I K cW "ways"
 na5:a_I K cW "marks"
 ini:Fun K "__init__" "Walk.__init__" d_m fI fdI
theorem sc_winit:a_l ["self","letters","start"] ["self","letters","start"] (a_c d_m):=⟨rfl,rfl,rfl,by decide +kernel,rfl,by decide +kernel,by decide +kernel⟩
theorem ok_winit (WT:WkT K mg cW fI fdI):FnOk P w K mg base CX0 1 fI fdI ["self","letters","start"] (sp_winit cW):=by
 refine WT.ini.ok sc_winit (fun vs H Q E h=>?_) (fun cdv A outer s H vs Q E hr h=>?_)
 ·obtain ⟨x,dx,L,v,rfl,_⟩:=h
  rfl
 ·obtain ⟨x,dx,L,v,rfl,hx,q⟩:=h
  refine ⟨_,(a_b ((ps_fld (f:="letters") (pv 0) (pv 1) rfl)) (a_b ((ps_fld (f:="things") (pv 0) (b_y (a_a (pv 2) a_d)) rfl)) (a_b ((ps_fld (f:="words") (pv 0) (b_y (a_a pe_str a_d)) rfl)) (a_b ((ps_fld (f:="ways") (pv 0) (b_y a_d) rfl)) (a_e ((ps_fld (f:="marks") (pv 0) (b_y a_d) rfl))))))),?_⟩
  refine ⟨_,rfl,_,rfl,x,cW,dx,_,rfl,hx,WT.cls,WT.na1,by decide,?_⟩
  refine ⟨_,rfl,a_i (by show 1≤16777216;decide),fun t ht=>⟨_,rfl,x,cW,dx,_,rfl,a_f upd_same ht,WT.cls,WT.na2,Nat.lt_of_le_of_lt (Nat.le_of_eq (show _=1 from rfl)) (by decide),?_⟩⟩
  have tx':t≠x:=fun z=>by rw [z,upd_same] at ht;cases ht
  refine ⟨a_i (by show 1≤16777216;decide),fun wd hwd=>⟨_,rfl,x,cW,dx,_,rfl,a_f upd_same hwd,WT.cls,WT.na3,Nat.lt_of_le_of_lt (Nat.le_of_eq (show _=2 from rfl)) (by decide),?_⟩⟩
  have wx:wd≠x:=fun z=>by rw [z,upd_same] at hwd;cases hwd
  refine ⟨Nat.zero_le _,fun y hy=>⟨_,rfl,x,cW,dx,_,rfl,a_f upd_same hy,WT.cls,WT.na4,Nat.lt_of_le_of_lt (Nat.le_of_eq (show _=3 from rfl)) (by decide),?_⟩⟩
  have yx:y≠x:=fun z=>by rw [z,upd_same] at hy;cases hy
  refine ⟨Nat.zero_le _,fun m hm=>⟨_,rfl,x,cW,dx,_,rfl,a_f upd_same hm,WT.cls,WT.na5,Nat.lt_of_le_of_lt (Nat.le_of_eq (show _=4 from rfl)) (by decide),?_⟩⟩
  have mx:m≠x:=fun z=>by rw [z,upd_same] at hm;cases hm
  have twd:t≠wd:=fun z=>by rw [<- z,upd_ne tx',upd_same] at hwd;cases hwd
  have ty:t≠y:=fun z=>by rw [<- z,upd_ne tx',upd_ne twd,upd_ne tx',upd_same] at hy;cases hy
  have tm:t≠m:=fun z=>by rw [<- z,upd_ne tx',upd_ne ty,upd_ne tx',upd_ne twd,upd_ne tx',upd_same] at hm;cases hm
  have wy:wd≠y:=fun z=>by rw [<- z,upd_ne wx,upd_same] at hy;cases hy
  have wm:wd≠m:=fun z=>by rw [<- z,upd_ne wx,upd_ne wy,upd_ne wx,upd_same] at hm;cases hm
  have ym:y≠m:=fun z=>by rw [<- z,upd_ne yx,upd_same] at hm;cases hm
  have fin:∀b,b≠x->b≠m->b≠y->b≠wd->b≠t->H b=upd (upd (upd (upd (upd (upd (upd (upd (upd H x (.ins cW dx (putF "letters" (.str (tx L)) []))) t (.lst [v])) x (.ins cW dx (putF "things" (.ref t) (putF "letters" (.str (tx L)) [])))) wd (.lst [.str (tx [])])) x (.ins cW dx (putF "words" (.ref wd) (putF "things" (.ref t) (putF "letters" (.str (tx L)) []))))) y (.lst [])) x (.ins cW dx (putF "ways" (.ref y) (putF "words" (.ref wd) (putF "things" (.ref t) (putF "letters" (.str (tx L)) [])))))) m (.lst [])) x (.ins cW dx (putF "marks" (.ref m) (putF "ways" (.ref y) (putF "words" (.ref wd) (putF "things" (.ref t) (putF "letters" (.str (tx L)) []))))))  b:=fun b h1 h2 h3 h4 h5=>by
   rw [upd_ne h1,upd_ne h2,upd_ne h1,upd_ne h3,upd_ne h1,upd_ne h4,upd_ne h1,upd_ne h5,upd_ne h1]
  have free:∀{b:Addr} {o:HO},H b=some o->∀{a:Addr},H a=none->b≠a:=fun {b o} e {a} n=>ne_of_none e n
  have ft:H t=none:=by rw [upd_ne tx'] at ht;exact ht
  have fw:H wd=none:=by rw [upd_ne wx,upd_ne (Ne.symm twd),upd_ne wx] at hwd;exact hwd
  have fy:H y=none:=by rw [upd_ne yx,upd_ne (Ne.symm wy),upd_ne yx,upd_ne (Ne.symm ty),upd_ne yx] at hy;exact hy
  have fm:H m=none:=by rw [upd_ne mx,upd_ne (Ne.symm ym),upd_ne mx,upd_ne (Ne.symm wm),upd_ne mx,upd_ne (Ne.symm tm),upd_ne mx] at hm;exact hm
  refine q t wd y m _ twd ty tm wy wm ym ft fw fy fm (fun b o hb e=>?_) ⟨⟨dx,upd_same⟩⟩ ?_ ?_ ?_ ?_
  ·rw [<- e]
   exact (fin b hb (free e fm) (free e fy) (free e fw) (free e ft)).symm
  ·rw [upd_ne tx',upd_ne tm,upd_ne tx',upd_ne ty,upd_ne tx',upd_ne twd,upd_ne tx',upd_same]
  ·rw [upd_ne wx,upd_ne wm,upd_ne wx,upd_ne wy,upd_ne wx,upd_same,<- empty_eq]
  ·rw [upd_ne yx,upd_ne ym,upd_ne yx,upd_same]
  ·rw [upd_ne mx,upd_same]
theorem b_L:a_l ["letters","start","goals_of","is_marked","most","walk","rooms","room","goals","row","letter","goal"] ["letters","start","goals_of","is_marked","most"] (a_c b_f):=⟨rfl,rfl,rfl,by decide +kernel,rfl,by decide +kernel,by decide +kernel⟩
theorem ok_walked {P:Program} {w:World} {K:PySem.W.Frag} {mg:Str->Option Value} {base:Heap} {cW fI f fg fm:Addr} (F:FunD K "walked" "walked" b_f f fd) (WT:WkT K mg cW fI fdI) (tlen:mg "len"=none) (tzip:mg "zip"=none)
  (Fg:FnOk P w K mg base CX0 4 fg fdg [gx] (spGoals ti L g U Rest)) (Fm:FnOk P w K mg base CX0 4 fm fdm [mx] (spMark ti mk U Rest)) (og1:base.get? fg=some og) (og2:∃fd',og.data=.func fd') (om1:base.get? fm=some om) (om2:∃fd',om.data=.func fd') (bg:c_D K fdg [gx] []) (bm:c_D K fdm [mx] []) (hRest:∀H H':Hp,Same H H'->Rest H->Rest H'):
  FnOk P w K mg base CX0 5 f fd ["letters","start","goals_of","is_marked","most"] (e_y cW ti L g mk U Rest fg fm):=by
 obtain ⟨oc,od,dat,sl⟩:=og
 obtain ⟨fd',rfl⟩:=og2
 obtain ⟨oc2,od2,dat2,sl2⟩:=om
 obtain ⟨fd2',rfl⟩:=om2
 refine F.ok b_L (fun vs H Q E h=>?_) (fun cdv A outer s H vs Q E hr h=>?_)
 ·obtain ⟨s,sv,most,rfl,_⟩:=h
  rfl
 ·obtain ⟨s0,sv,most,rfl,hL,hsv,hsU,hcl,hU,hR0,q⟩:=h
  have hr2:=hr.mono (j:=2) (by decide)
  refine ⟨_,(a_b ((a_j (i:=5) b_L.nd rfl (Or.inl rfl) (pe_make WT.mkW (ok_winit WT) hr2 rfl WT.kW (WT.ini.binds (ps:=["self","letters","start"]) (fun _ _ _ _ _ _ us hl=>match us,hl with | [_,_,_],_=>rfl)) .nil pass0 (a_a (pv 0) (a_a (pv 1) a_d))))) (e_W ((a_j (i:=6) b_L.nd rfl (Or.inl rfl) (pe_wone hr.units (pv 1) pe_int))) (a_b ((ps_while PassesOwn.never (a_y op_lt (a_p a_n (by rfl) tlen PySem.boot_len (a_a (b_z (f:="ways") (pv 5) rfl) a_d)) (a_p a_n (by rfl) tlen PySem.boot_len (a_a (b_z (f:="things") (pv 5) rfl) a_d)) (a_E _)) (e_W ((c_j ((pw_and (a_y op_notN (pv 4) pe_non (a_E _)) (pw_and1 (a_y op_gt (a_p a_n (by rfl) tlen PySem.boot_len (a_a (b_z (f:="things") (pv 5) rfl) a_d)) (pv 4) (a_E _)))).pt) ((a_e (ps_break))) (a_K))) (a_b ((a_j (i:=7) b_L.nd rfl (Or.inl rfl) ((a_p a_n (by rfl) tlen PySem.boot_len (a_a (b_z (f:="ways") (pv 5) rfl) a_d))))) (a_b ((a_j (i:=8) b_L.nd rfl (Or.inl rfl) (pe_callL Fg hr og1 bg (pv 2) (a_a (a_B b_I ((b_z (f:="things") (pv 5) rfl)) (pv 7) (fun _ _=>rfl)) a_d)))) (a_b ((a_j (i:=9) b_L.nd rfl (Or.inl rfl) (b_y a_d))) (a_b ((b_C PassesOwn.never rfl (pi_zipG rfl tzip (a_a (pv 0) (a_a (pv 8) a_d))) (e_C rfl (b_b (a_r (i:=10) b_L.nd rfl (Or.inl rfl)) (b_b (a_r (i:=11) b_L.nd rfl (Or.inl rfl)) d_r))) (e_W ((c_j (a_y (op_notinW hr.units) (pv 11) (pv 6) (by with_unfolding_all rfl)) ((a_b (ps_asg (a_p a_n (by rfl) tlen PySem.boot_len (a_a (b_z (f:="things") (pv 5) rfl) a_d)) (pg_sub (pv 6) (pv 11) (set_dictW hr.units))) (a_b (a_Q (c_x PySem.F.plainAttrs_list PySem.F.slot_list_append PySem.F.type_list_append a_x ((b_z (f:="things") (pv 5) rfl)) (a_a (pv 11) a_d))) (a_e (a_Q (c_x PySem.F.plainAttrs_list PySem.F.slot_list_append PySem.F.type_list_append a_x ((b_z (f:="words") (pv 5) rfl)) (a_a (a_w d_t (a_B b_I ((b_z (f:="words") (pv 5) rfl)) (pv 7) (fun _ _=>rfl)) (pv 10)) a_d))))))) (a_K))) (a_e (a_Q (c_x PySem.F.plainAttrs_list PySem.F.slot_list_append PySem.F.type_list_append a_x (pv 9) (a_a (a_B (ix_dictW hr.units) (pv 6) (pv 11) (fun _ _=>rfl)) a_d))))))) (a_b (a_Q (c_x PySem.F.plainAttrs_list PySem.F.slot_list_append PySem.F.type_list_append a_x ((b_z (f:="ways") (pv 5) rfl)) (a_a (pv 9) a_d))) (a_e (a_Q (c_x PySem.F.plainAttrs_list PySem.F.slot_list_append PySem.F.type_list_append a_x ((b_z (f:="marks") (pv 5) rfl)) (a_a (pe_callL Fm hr om1 bm (pv 3) (a_a (a_B b_I ((b_z (f:="things") (pv 5) rfl)) (pv 7) (fun _ _=>rfl)) a_d)) a_d)))))))))))) (a_e (a_q (pv 5)))))),?_⟩
  have tn:∀{b:Addr} {o:HO},H b=some o->∀{c:Addr},H c=none->b≠c:=fun {b o} e {c} n=>ne_of_none e n
  refine ⟨_,rfl,_,rfl,fun wk dx hwk hdx hne=>⟨wk,dx,L,sv,rfl,upd_same,fun t wd y md H1 a1 a2 a3 a4 a5 a6 ft fw fy fmd kp hW ht hwd hy hmd=>⟨rfl,?_⟩⟩⟩
  have fr:∀{b:Addr},upd (upd H dx (.own wk)) wk (.ins cW dx []) b=none->H b=none:=fun {b} e=>by
   by_cases h1:b=wk
   ·rw [h1];exact hwk
   ·rw [upd_ne h1] at e
    by_cases h2:b=dx
    ·rw [h2];exact hdx
    ·rw [upd_ne h2] at e
     exact e
  have s1:Same H H1:=fun b o e=>kp b o (tn e hwk) (by rw [upd_ne (tn e hwk),upd_ne (tn e hdx)];exact e)
  have hsv1:ThV ti H1 s0 sv:=hsv.same fun b xs e=>s1 _ _ e
  have hdict:∀(d:Addr) (H2:Hp),H1 d=none->RmAt P w H2 d ti [s0]->(∀b o,H1 b=some o->H2 b=some o)->WI P w H H2 cW ti L wk t wd y md d [s0] [sv] [[]] [] [] []:=fun d H2 hd hrm s2=>by
   have ne:∀{b:Addr} {o:HO},H1 b=some o->d≠b:=fun {b o} e z=>by rw [<- z,hd] at e;cases e
   obtain ⟨dx',ew⟩:=hW.ex
   exact ⟨s1.trans s2,⟨dx',s2 _ _ ew⟩,s2 _ _ ht,⟨rfl,fun i k v h1 h2=>by
    match i,h1,h2 with
    | 0,h1,h2=>cases h1;cases h2;exact hsv1.same fun b xs e=>s2 _ _ e
    | i+1,h1,_=>simp at h1⟩,s2 _ _ hwd,s2 _ _ hy,⟨rfl,fun i a r h1=>by simp at h1⟩,s2 _ _ hmd,hrm,fr ft,fr fw,fr fy,fr fmd,b_w s1 hd,a1,a2,a3,a4,a5,a6,ne ht,ne hwd,ne hy,ne hmd,ne ew,fun a ha=>by simp at ha⟩
  refine ⟨fun σ' H'=>∃d,σ'=[some (.str (tx L)),some sv,some (.ref fg),some (.ref fm),some (mostV most),some (.ref wk),some (.ref d),none,none,none,none,none]/\WI P w H H' cW ti L wk t wd y md d [s0] [sv] [[]] [] [] [],?_,?_⟩
  ·refine ⟨ti,fun d hd=>⟨_,rfl,upd_same,?_⟩⟩
   have up:∀{ob ob2:HO} (b:Addr) (o:HO),H1 b=some o->upd (upd H1 d ob) d ob2 b=some o:=fun {ob ob2} b o e=>by
    rw [d_i]
    exact a_f e hd
   cases hti:ti with
   | true=>
    rw [hti] at hsv1 hdict
    unfold ThV at hsv1
    rw [if_pos rfl] at hsv1
    obtain ⟨n,rfl,rfl⟩:=hsv1
    refine .inl ⟨rfl,_,rfl,d,rfl,hdict d _ hd ?_ up⟩
    unfold RmAt
    rw [if_pos rfl]
    exact ⟨upd_same,fun t ht=>⟨n,List.mem_singleton.mp ht⟩⟩
   | false=>
    rw [hti] at hsv1 hdict
    have hsv2:=hsv1
    unfold ThV at hsv2
    rw [if_neg (by decide)] at hsv2
    obtain ⟨b,rfl,hb⟩:=hsv2
    have hT:∀{ob:HO},TIn (upd H1 d ob) (zs s0) b:=fun {ob}=>by
     unfold TIn
     rw [e_N]
     exact a_f hb hd
    refine .inr ⟨rfl,b,zs s0,rfl,hT,d,rfl,hdict d _ hd ?_ up⟩
    unfold RmAt
    rw [if_neg (by decide)]
    refine ⟨_,upd_same,fun x hx=>?_,rfl,fun i k x h1 h2=>?_⟩
    ·rw [List.mem_singleton.mp hx,d_i]
     exact hT
    ·match i,h1,h2 with
     | 0,h1,h2=>cases h1;cases h2;exact ⟨rfl,rfl⟩
     | i+1,h1,_=>simp at h1
  rintro σ1 H2 ⟨d,rfl,hWI⟩
  have fin:∀{H':Hp} {ks:List (List Nat)} {vks:List V} {ws:List (List Nat)} {rows:List Addr} {R:List (List Nat)} {B:List Bool},WI P w H H' cW ti L wk t wd y md d ks vks ws rows R B->WPu g L s0 mk U ks ws R B 0->(R.length=ks.length\/∃n,most=some n/\n<ks.length)->Q (.ref wk) H':=fun hI hP he=>
   q wk t wd y md _ _ _ _ _ _ _ hI.sm hI.obj hI.ht hI.th hI.hw hI.hy hI.wr hI.hm hP.bf hP.ways hP.bl hP.mks hP.sub (Nat.le_trans (Nat.le_add_left _ _) hP.left) he
  refine ⟨fun n σ' H'=>∃ks vks ws rows R B s7 s8 s9 s10 s11,n=U.length - List.length R/\σ'=[some (.str (tx L)),some sv,some (.ref fg),some (.ref fm),some (mostV most),some (.ref wk),some (.ref d),s7,s8,s9,s10,s11]/\WI P w H H' cW ti L wk t wd y md d ks vks ws rows R B/\WPu g L s0 mk U ks ws R B 0,⟨_,[s0],[sv],[[]],[],[],[],none,none,none,none,none,rfl,rfl,hWI,WPu.start hsU⟩,?_⟩
  rintro n σ' H3 ⟨ks,vks,ws,rows,R,B,s7,s8,s9,s10,s11,rfl,rfl,hI,hP⟩
  obtain ⟨dx',ew⟩:=hI.obj.ex
  have hrl:(rows.map V.ref).length=R.length:=by rw [List.length_map,hI.wr.1]
  have hvl:vks.length=ks.length:=hI.th.1
  have hksU:ks.length≤U.length:=Nat.le_trans (Nat.le_add_left _ _) hP.left
  refine ⟨_,rfl,wk,cW,dx',_,_,rfl,ew,WT.cls,WT.na4,rfl,y,_,rfl,.inl (SqL.of hI.hy),_,rfl,wk,cW,dx',_,_,rfl,ew,WT.cls,WT.na2,rfl,t,_,rfl,.inl (SqL.of hI.ht),_,_,rfl,rfl,_,rfl,ite3 (fun hlt=>?_) (fun hlt=>?_)⟩
  case _=>
   rw [hrl,hvl] at hlt
   have hlt:R.length<ks.length:=Int.ofNat_lt.mp hlt
   refine ⟨fun σ2 H4=>∃ks vks ws rows R' B s7 s8 s9 s10 s11,R'.length=R.length+1/\σ2=[some (.str (tx L)),some sv,some (.ref fg),some (.ref fm),some (mostV most),some (.ref wk),some (.ref d),s7,s8,s9,s10,s11]/\WI P w H H4 cW ti L wk t wd y md d ks vks ws rows R' B/\WPu g L s0 mk U ks ws R' B 0,?_,?_⟩
   ·rintro σ2 H4 ⟨ks',vks',ws',rows',R',B',u7,u8,u9,u10,u11,hR',hσ,hI',hP'⟩
    exact ⟨U.length - R'.length,by rw [hR'];omega,ks',vks',ws',rows',R',B',u7,u8,u9,u10,u11,rfl,hσ,hI',hP'⟩
   obtain ⟨k0,hk0⟩:∃k0,ks[R.length]?=some k0:=⟨ks[R.length],List.getElem?_eq_getElem hlt⟩
   obtain ⟨v0,hv0⟩:∃v0,vks[R.length]?=some v0:=⟨vks[R.length]'(by rw [hvl];exact hlt),List.getElem?_eq_getElem _⟩
   obtain ⟨a0,ha0⟩:∃a0,ws[R.length]?=some a0:=⟨ws[R.length]'(by rw [<- hP.bf.len];exact hlt),List.getElem?_eq_getElem _⟩
   have hk0U:k0∈U:=hP.sub k0 (List.mem_of_getElem? hk0)
   refine ⟨fun σ2 H4=>σ2=[some (.str (tx L)),some sv,some (.ref fg),some (.ref fm),some (mostV most),some (.ref wk),some (.ref d),s7,s8,s9,s10,s11]/\H4=H3,?_,?_⟩
   ·cases most with
    | none=>exact ⟨_,rfl,rfl,_,rfl,iteNS rfl (iteF ⟨rfl,rfl⟩)⟩
    | some M=>
     refine ⟨_,rfl,rfl,_,rfl,iteNI ⟨_,rfl,wk,cW,dx',_,_,rfl,ew,WT.cls,WT.na2,rfl,t,_,rfl,.inl (SqL.of hI.ht),_,rfl,_,_,rfl,rfl,_,rfl,?_⟩⟩
     rw [hvl]
     exact ite3 (fun hgt=>⟨_,rfl,fin hI hP (.inr ⟨M,rfl,Int.ofNat_lt.mp hgt⟩)⟩) (fun _=>⟨rfl,rfl⟩)
   rintro σ2 H4 ⟨rfl,rfl⟩
   refine ⟨_,rfl,wk,cW,dx',_,_,rfl,ew,WT.cls,WT.na4,rfl,y,_,rfl,.inl (SqL.of hI.hy),?_⟩
   rw [hrl]
   have hat:atI vks ((R.length:Nat):Int)=some v0:=a_u hv0
   refine ⟨rfl,_,rfl,wk,cW,dx',_,_,rfl,ew,WT.cls,WT.na2,rfl,_,rfl,t,_,_,_,rfl,rfl,SqL.of hI.ht,hat,k0,v0,rfl,hI.th.2 _ _ _ hk0 hv0,hk0U,hRest _ _ hI.sm hR0,fun gs xs H5 s5 hgs hxl hxs=>?_⟩
   have hI5:=hI.any s5
   have hgs':H5 gs=some (.tup xs)\/H5 gs=some (.lst xs):=hgs.imp id fun z=>z.2
   have gne:∀{b:Addr} {o:HO},H4 b=some o->(∀zs,o≠.tup zs)->gs≠b:=fun {b o} e ho z=>by
    rcases hgs with h1 | ⟨h1,_⟩
    ·rw [z,s5 _ _ e] at h1
     cases h1
     exact ho _ rfl
    ·rw [z,e] at h1
     cases h1
   obtain ⟨φd,hφ⟩:∃ φ,H4 d=some (.ext φ):=by
    have hr0:=hI.rm
    unfold RmAt at hr0
    cases ti with
    | true=>rw [if_pos rfl] at hr0;exact ⟨_,hr0.1⟩
    | false=>rw [if_neg (by decide)] at hr0;obtain ⟨kvs,e,_⟩:=hr0;exact ⟨_,e⟩
   have g1:gs≠t:=gne hI.ht (by intro zs z;cases z)
   have g2:gs≠wd:=gne hI.hw (by intro zs z;cases z)
   have g3:gs≠y:=gne hI.hy (by intro zs z;cases z)
   have g4:gs≠md:=gne hI.hm (by intro zs z;cases z)
   have g5:gs≠d:=gne hφ (by intro zs z;cases z)
   refine ⟨Nat.zero_le _,fun rw hrw=>?_⟩
   have r1:rw≠t:=Ne.symm (ne_of_none hI5.ht hrw)
   have r2:rw≠wd:=Ne.symm (ne_of_none hI5.hw hrw)
   have r3:rw≠y:=Ne.symm (ne_of_none hI5.hy hrw)
   have r4:rw≠md:=Ne.symm (ne_of_none hI5.hm hrw)
   have r5:rw≠d:=Ne.symm (ne_of_none (s5 _ _ hφ) hrw)
   have r6:rw∉rows:=fun hm=>by
    obtain ⟨i,hi⟩:=List.mem_iff_getElem?.mp hm
    have hil:i<R.length:=by rw [<- hI5.wr.1];exact (List.getElem?_eq_some_iff.mp hi).1
    rw [hI5.wr.2 i rw _ hi (List.getElem?_eq_getElem hil)] at hrw
    cases hrw
   have rg:gs≠rw:=fun z=>by
    rw [<- z] at hrw
    rcases hgs' with h1 | h1 <;> rw [hrw] at h1 <;> cases h1
   have r0:H rw=none:=b_w hI5.sm hrw
   have hI6:=hI5.any (Same.upd (o:=.lst []) hrw)
   have hgs6:upd H5 rw (.lst []) gs=some (.tup xs)\/upd H5 rw (.lst []) gs=some (.lst xs):=by rw [upd_ne rg];exact hgs'
   refine ⟨_,rfl,_,rfl,_,_,rfl,zips_of hgs6 fun d2 hd2 tk=>?_⟩
   have hxlen:((tx L).cps.toList.map fun c=>V.str ⟨#[c]⟩).length=xs.length:=by rw [List.length_map,c_U,hxl]
   refine for_zipG (xs:=(tx L).cps.toList.map fun c=>V.str ⟨#[c]⟩) (ys:=xs) hxlen (fun q σ3 H6=>∃ks' vks' ws' r v10 v11,σ3=[some (.str (tx L)),some sv,some (.ref fg),some (.ref fm),some (mostV most),some (.ref wk),some (.ref d),some (.int ((R.length:Nat):Int)),some (.ref gs),some (.ref rw),v10,v11]/\
    WI P w H H6 cW ti L wk t wd y md d ks' vks' ws' rows R B/\WPu g L s0 mk U ks' ws' R B q/\d_E g ks' R.length r q/\H6 rw=some (.lst (intsV r))/\H6 gs=H5 gs/\(∀(j:Nat) (x:V),xs[j]?=some x->ThV ti H6 (g k0 j) x)/\ks'[R.length]?=some k0/\ws'[R.length]?=some a0) ?_ ?_ ?_ ?_
   ·exact ⟨ks,vks,ws,[],s10,s11,rfl,hI6,hP,d_E.nil,upd_same,upd_ne rg,fun j x hx=>(hxs j x hx).same fun b zs e=>a_f e hrw,hk0,ha0⟩
   ·rintro q σ3 H6 ⟨ks',vks',ws',r,v10,v11,rfl,hI',hP',hro,hrw',hgk,hth,hk',ha'⟩
    exact ⟨rfl,hd2 H6 (by rw [hgk,upd_ne rg])⟩
   ·rintro q cx gx' p σ3 H6 hc hg hp ⟨ks',vks',ws',r,v10,v11,rfl,hI',hP',hro,hrw',hgk,hth,hk',ha'⟩
    rw [c_U,List.getElem?_map] at hc
    cases hcq:L[q]? with
    | none=>rw [hcq] at hc;cases hc
    | some c=>
    rw [hcq] at hc
    cases hc
    have hqL:q<L.length:=(List.getElem?_eq_some_iff.mp hcq).1
    have hcd:L.getD q 0=c:=by rw [List.getD_eq_getElem?_getD,hcq];rfl
    have hgU:g k0 q∈U:=hcl k0 hk0U q hqL
    have hI7:=hI'.any (Same.upd (o:=.tup [.str ⟨#[c]⟩,gx']) hp)
    have hthq:ThV ti H6 (g k0 q) gx':=hth q gx' hg
    have hth7:ThV ti (upd H6 p (.tup [.str ⟨#[c]⟩,gx'])) (g k0 q) gx':=hthq.same fun b zs e=>a_f e hp
    have hrp:upd H6 p (.tup [.str ⟨#[c]⟩,gx']) rw=some (.lst (intsV r)):=a_f hrw' hp
    have hgsp:upd H6 p (.tup [.str ⟨#[c]⟩,gx']) gs=H5 gs:=by
     have:gs≠p:=fun z=>by
      rw [<- z,hgk] at hp
      rcases hgs' with h1 | h1 <;> rw [hp] at h1 <;> cases h1
     rw [upd_ne this]
     exact hgk
    have hthp:∀(j:Nat) (x:V),xs[j]?=some x->ThV ti (upd H6 p (.tup [.str ⟨#[c]⟩,gx'])) (g k0 j) x:=fun j x hx=>(hth j x hx).same fun b zs e=>a_f e hp
    have hp7:upd H6 p (.tup [.str ⟨#[c]⟩,gx']) p=some (.tup [.str ⟨#[c]⟩,gx']):=upd_same
    generalize upd H6 p (.tup [.str ⟨#[c]⟩,gx'])=H7 at hI7 hth7 hrp hgsp hthp hp7
    have hkU:ks'.length≤U.length:=Nat.le_trans (Nat.le_add_left _ _) hP'.left
    have hvl':vks'.length=ks'.length:=hI7.th.1
    refine ⟨p,_,rfl,SqT.of hp7,rfl,_,_,rfl,_,_,rfl,rfl,?_⟩
    refine ⟨fun σ4 H8=>∃ks2 vks2 ws2,σ4=[some (.str (tx L)),some sv,some (.ref fg),some (.ref fm),some (mostV most),some (.ref wk),some (.ref d),some (.int ((R.length:Nat):Int)),some (.ref gs),some (.ref rw),some (.str ⟨#[c]⟩),some gx']/\WI P w H H8 cW ti L wk t wd y md d ks2 vks2 ws2 rows R B/\WPu g L s0 mk U ks2 ws2 R B (q+1)/\d_E g ks2 R.length r q/\
     H8 rw=some (.lst (intsV r))/\H8 gs=H5 gs/\(∀(j:Nat) (x:V),xs[j]?=some x->ThV ti H8 (g k0 j) x)/\ks2[R.length]?=some k0/\ws2[R.length]?=some a0/\g k0 q∈ks2,?_,?_⟩
    ·refine ⟨_,rfl,_,rfl,d,_,rfl,hI7.rm.get hth7,_,rfl,?_⟩
     by_cases hm:g k0 q∈ks'
     ·rw [(ix_get hm).1]
      exact iteF ⟨ks',vks',ws',rfl,hI7,hP'.old hL.nd hk' ha' hqL hm,hro,hrp,hgsp,hthp,hk',ha',hm⟩
     ·rw [show ixO ks' (g k0 q)=none from if_neg hm]
      have hk100:ks'.length<sizeLine:=Nat.lt_of_lt_of_le (hP'.room hgU hm) hU
      obtain ⟨ob,hput,hrm2⟩:=hI7.rm.put hth7 hm hk100
      obtain ⟨dx',ew7⟩:=hI7.obj.ex
      have ew8:upd H7 d ob wk=_:=(upd_ne (Ne.symm hI7.e5)).trans ew7
      have ht8:upd H7 d ob t=_:=(upd_ne (Ne.symm hI7.e1)).trans hI7.ht
      have hw8:upd H7 d ob wd=_:=(upd_ne (Ne.symm hI7.e2)).trans hI7.hw
      have wkt:wk≠t:=ne_of ew7 hI7.ht (by intro z;cases z)
      have ew9:upd (upd H7 d ob) t (.lst (vks'++[gx'])) wk=_:=(upd_ne wkt).trans ew8
      have hw9:upd (upd H7 d ob) t (.lst (vks'++[gx'])) wd=_:=(upd_ne (Ne.symm hI7.d1)).trans hw8
      have hatw:atI (wordsV ws') ((R.length:Nat):Int)=some (.str (tx a0)):=a_u (by rw [wordsV,List.getElem?_map,ha'];rfl)
      have hwl:a0.length<sizeLine:=Nat.lt_of_le_of_lt (hP'.wl a0 (List.mem_of_getElem? ha')) hk100
      rw [<- hvl'] at hput
      refine iteT ⟨_,rfl,wk,cW,dx',_,_,rfl,ew7,WT.cls,WT.na2,rfl,t,_,rfl,.inl (SqL.of hI7.ht),_,rfl,_,rfl,d,_,rfl,hput,?_⟩
      refine ⟨_,rfl,wk,cW,dx',_,_,rfl,ew8,WT.cls,WT.na2,rfl,.inl ⟨rfl,_,SqL.of ht8⟩,_,rfl,t,_,_,rfl,rfl,ht8,(by rw [hvl'];exact hk100),?_⟩
      refine ⟨_,rfl,wk,cW,dx',_,_,rfl,ew9,WT.cls,WT.na3,rfl,.inl ⟨rfl,_,SqL.of hw9⟩,_,rfl,wk,cW,dx',_,_,rfl,ew9,WT.cls,WT.na3,rfl,_,rfl,wd,_,_,_,rfl,rfl,SqL.of hw9,hatw,_,rfl,_,_,rfl,rfl,?_,wd,_,_,rfl,rfl,hw9,(by rw [wordsV,List.length_map,<- hP'.bf.len];exact hk100),?_⟩
      ·show (tx a0).length+1≤sizeLine
       rw [a_R]
       exact hwl
      have hch:tx a0++(⟨#[c]⟩:Str)=tx (a0++[c]):=by rw [<- tx_app];rfl
      have hI10:=hI7.new (a:=a0++[c]) hth7 hrm2
      have hP10:=hP'.new hL.nd hk' ha' hqL hm hgU
      rw [hcd] at hP10
      have kt:∀b zs,H7 b=some (.tup zs)->upd (upd (upd H7 d ob) t (.lst (vks'++[gx']))) wd (.lst (wordsV ws'++[.str (tx (a0++[c]))])) b=some (.tup zs):=fun b zs e=>by
       obtain ⟨φ,hφ7⟩:∃ φ,H7 d=some (.ext φ):=by
        have hr0:=hI7.rm
        unfold RmAt at hr0
        cases ti with
        | true=>rw [if_pos rfl] at hr0;exact ⟨_,hr0.1⟩
        | false=>rw [if_neg (by decide)] at hr0;obtain ⟨kvs,e,_⟩:=hr0;exact ⟨_,e⟩
       rw [upd_ne (ne_of e hI7.hw (by intro z;cases z)),upd_ne (ne_of e hI7.ht (by intro z;cases z)),upd_ne (ne_of e hφ7 (by intro z;cases z))]
       exact e
      refine ⟨ks'++[g k0 q],vks'++[gx'],ws'++[a0++[c]],rfl,?_,hP10,hro.grow (List.getElem?_eq_some_iff.mp hk').1,?_,?_,fun j x hx=>?_,e_g hk',e_g ha',by simp⟩
      ·rw [<- hch] at hI10
       exact hI10
      ·rw [upd_ne r2,upd_ne r1,upd_ne r5]
       exact hrp
      ·rw [upd_ne g2,upd_ne g1,upd_ne g5]
       exact hgsp
      ·refine (hthp j x hx).same fun b zs e=>?_
       have:=kt b zs e
       rw [<- hch] at this
       exact this
    rintro σ4 H8 ⟨ks2,vks2,ws2,rfl,hI8,hP8,hro8,hrw8,hg8,hth8,hk8,ha8,hm8⟩
    have hget:=hI8.rm.get (hth8 q gx' hg)
    rw [(ix_get hm8).1] at hget
    have hq3:r.length≤100:=by rw [hro8.1];exact Nat.le_trans (Nat.le_of_lt hqL) (Nat.le_trans hL.hi (by decide))
    refine ⟨_,rfl,.inl ⟨rfl,_,SqL.of hrw8⟩,_,rfl,_,rfl,d,_,rfl,hget,rw,_,_,rfl,rfl,hrw8,line_lt (by rw [intsV_len];exact Nat.le_trans hq3 (by decide)),?_⟩
    refine ⟨ks2,vks2,ws2,r++[ks2.idxOf (g k0 q)],_,_,rfl,hI8.beside hrw8 r0 r1 r2 r3 r4 r5 r6,hP8,hro8.snoc hk8 hm8,?_,?_,fun j x hx=>?_,hk8,ha8⟩
    ·rw [upd_same,b_J]
    ·rw [upd_ne rg]
     exact hg8
    ·exact (hth8 j x hx).same fun b zs e=>by rw [upd_ne (ne_of e hrw8 (by intro z;cases z))];exact e
   ·rintro σ3 H6 ⟨ks',vks',ws',r,v10,v11,rfl,hI',hP',hro,hrw',hgk,hth,hk',ha'⟩
    rw [hxlen,hxl] at hP' hro
    obtain ⟨dx',ew6⟩:=hI'.obj.ex
    have hkU:ks'.length≤sizeLine:=Nat.le_trans (Nat.le_trans (Nat.le_add_left _ _) hP'.left) hU
    have hR100:R.length<sizeLine:=Nat.lt_of_lt_of_le (List.getElem?_eq_some_iff.mp hk').1 hkU
    have hI8:=hI'.row hrw' r1 r2 r3 r4 r5
    obtain ⟨dx2,ew8⟩:=hI8.obj.ex
    obtain ⟨v1,hv1⟩:∃v1,vks'[R.length]?=some v1:=⟨vks'[R.length]'(by rw [hI'.th.1];exact (List.getElem?_eq_some_iff.mp hk').1),List.getElem?_eq_getElem _⟩
    refine ⟨_,rfl,wk,cW,dx',_,_,rfl,ew6,WT.cls,WT.na4,rfl,.inl ⟨rfl,_,SqL.of hI'.hy⟩,_,rfl,y,_,_,rfl,rfl,hI'.hy,(by rw [List.length_map,hI'.wr.1];exact hR100),?_⟩
    refine ⟨_,rfl,wk,cW,dx2,_,_,rfl,ew8,WT.cls,WT.na5,rfl,.inl ⟨rfl,_,SqL.of hI8.hm⟩,rfl,_,rfl,wk,cW,dx2,_,_,rfl,ew8,WT.cls,WT.na2,rfl,_,rfl,t,_,_,_,rfl,rfl,SqL.of hI8.ht,a_u hv1,k0,v1,rfl,hI8.th.2 _ _ _ hk' hv1,hk0U,hRest _ _ hI8.sm hR0,md,_,_,rfl,rfl,hI8.hm,(by rw [List.length_map,hP'.bl];exact hR100),?_⟩
    exact ⟨ks',vks',ws',rows++[rw],R++[r],B++[mk k0],_,_,_,_,_,by rw [List.length_append];rfl,rfl,hI8.mark,hP'.next hk' hro⟩
  case _=>
   rw [hrl,hvl] at hlt
   exact ⟨_,rfl,fin hI hP (.inl (Nat.le_antisymm hP.le (Nat.le_of_not_lt fun z=>hlt (Int.ofNat_lt.mpr z))))⟩
abbrev s_TooGreat:Stmt:=top 4
abbrev d_l:Stmt:=inClass s_TooGreat 0
structure TgK (K:PySem.W.Frag) (mg:Str->Option Value) (cTG cRE fX:Addr) (fdX:FuncData):Prop where
 kT:mg "TooGreat"=some (.ref cTG)
 kR:mg "RoomError"=some (.ref cRE)
 own:OwnI K cTG fX
 xc:XCls K cTG
 na:a_I K cTG "words"
 bi:BaseI K cRE
 fn:PySem.W.isFn K (.ref fX)=true
 exm:PySem.W.exmOne K (.ref cTG) (.ref cTG)=some true
 ec:ExcCls K cTG
 exr:PySem.W.exmOne K (.ref cTG) (.ref cRE)=some true
 ini:Fun K "__init__" "TooGreat.__init__" d_l fX fdX
theorem sc_xinit:a_l ["self","words"] ["self","words"] (a_c d_l):=⟨rfl,rfl,rfl,by decide +kernel,rfl,by decide +kernel,by decide +kernel⟩
theorem ok_xinit (TG:TgK K mg cTG cRE fX fdX) (tlist:mg "list"=none):FnOk P w K mg base CX0 1 fX fdX ["self","words"] (sp_xinit cTG):=by
 refine TG.ini.ok sc_xinit (fun vs H Q E h=>?_) (fun cdv A outer s H vs Q E hr h=>?_)
 ·obtain ⟨e,wl,xs,rfl,_⟩:=h
  rfl
 ·obtain ⟨e,wl,xs,rfl,he,hw,q⟩:=h
  refine ⟨_,(a_b (a_Q (pe_baseI TG.bi TG.kR (a_a (pv 0) (a_a pe_str a_d)))) (a_e ((ps_fldX (f:="words") rfl (pv 0) (a_C call_list_of (by rfl) tlist PyProof.Rows.boot_list (a_a (pv 1) a_d)) rfl)))),?_⟩
  refine ⟨_,rfl,e,cTG,fX,_,rfl,he,TG.own,?_⟩
  refine ⟨_,rfl,wl,xs,rfl,.inl (SqL.of hw),fun l hl=>⟨_,rfl,e,cTG,rfl,TG.xc,TG.na,.inl ⟨a_f he hl,fun d hd hde=>?_⟩⟩⟩
  have le:l≠e:=fun z=>by rw [z,he] at hl;cases hl
  have dl:d≠l:=fun z=>by rw [z,upd_same] at hd;cases hd
  have hd0:H d=none:=by rw [upd_ne dl] at hd;exact hd
  refine q _ d l (fun b o hb z=>?_) ?_ hd0 hl upd_same ?_
  ·have h1:b≠d:=ne_of_none z hd0
   have h2:b≠l:=ne_of_none z hl
   rw [upd_ne h1,upd_ne hb,upd_ne h2]
   exact z
  ·rw [upd_ne (Ne.symm hde),upd_same]
  ·rw [upd_ne (Ne.symm dl),upd_ne le,upd_same]
abbrev s_g:Stmt:=(a_g a_k).getD 0 (.Pass ⟨0,0,0,0⟩)
abbrev s_m:Stmt:=(a_g a_k).getD 1 (.Pass ⟨0,0,0,0⟩)
abbrev q_g:Str:="walked_rooms.<locals>.goals_of"
abbrev q_m:Str:="walked_rooms.<locals>.is_marked"
def posOf (s:Stmt):Pos:=match s with
 | .FunctionDef _ _ _ _ _ _ _ _ _ p=>p
 | _=>⟨0,0,0,0⟩
def sites:List (Pos×Str):=[(posOf s_g,q_g),(posOf s_m,q_m)]
theorem sc_g:d_M ["state","machine"] ["state"] ["machine"] (a_c s_g):=⟨rfl,rfl,rfl,by decide +kernel,rfl,rfl,by decide,by decide +kernel,by decide +kernel⟩
theorem sc_m:d_M ["state","machine"] ["state"] ["machine"] (a_c s_m):=⟨rfl,rfl,rfl,by decide +kernel,rfl,rfl,by decide,by decide +kernel,by decide +kernel⟩
section
variable {P:Program} {w:World} {K:PySem.W.Frag} {mg:Str->Option Value} {base:Heap} {f c m:Addr} {clos:List (Str×Addr)} {doc pm ctv:Value} {L:List Nat} {W:List (List Nat)} {B:List Bool} {n:Nat}
theorem ok_g (ho:base.get? f=some (PySem.W.fnMade "goals_of" q_g (a_h s_g) (a_g s_g) (a_c s_g) clos doc pm c ctv)) (hcd:base.CodeRec (.ref c) q_g) (C:ClosAt base clos (a_c s_g) ["machine"] [.ref m]) (hMa:Mach L W B) (hn:n≤60) (ttup:mg "tuple"=none) (d_lots_after:Df P w K mg base "lots_after" 1 ["machine","rooms"] sp_lotsafter):
  FnOk P w K mg base CX0 2 f (PySem.W.fnX "goals_of" q_g (a_h s_g) (a_g s_g) (a_c s_g) clos .none .none doc pm none (.ref c) ctv) ["state"] (spGoals false L (gA W) (tups W.length n) fun H=>b_e H m L W B):=by
 refine fn_ofC (fvs:=[.ref m]) ho rfl hcd sc_g C (fun vs H Q E h=>?_) (fun A outer s H vs Q E hr h=>?_)
 ·obtain ⟨k,v,rfl,_⟩:=h
  rfl
 ·obtain ⟨k,v,rfl,hv,hU,hM,q⟩:=h
  refine ⟨_,(a_e (a_q (b_A ["state","machine"] rfl (by decide) (e_q (a_H d_lots_after hr (a_a (pv 1) (a_a (pv 0) a_d)))) (fun cl C fp s' H'=>⟨b_x,a_C (e_m K) (by rfl) ttup PyProof.Rows.boot_tuple (a_a (pv 0) a_d)⟩)))),?_⟩
  unfold ThV at hv
  rw [if_neg (by decide)] at hv
  obtain ⟨b,rfl,hb⟩:=hv
  obtain ⟨hk1,hk2⟩:=c_k.mp hU
  have hL3:=hMa.lt.hi
  dsimp only [tRet]
  refine ⟨_,rfl,_,rfl,m,b,_,L,W,B,k,rfl,hM,hMa,.inr rfl,hb,by rw [hk1];exact hn,hk2,fun l ls H1 s1 hl hll hls=>?_⟩
  refine ⟨l,_,_,rfl,.inl rfl,hl,fun J ov=>comp_over ov hl (fun D j ys H'=>∃ts:List Addr,ys=ts.map V.ref/\ts.length=j/\∀(i:Nat) (a:Addr),ts[i]?=some a->H' a=some (.tup (intsV (gA W k i)))) (by rw [List.length_map,hll];exact a_i (Nat.le_trans hL3 (by decide))) (fun D hD=>⟨[],rfl,rfl,fun i a e=>by simp at e⟩) ?_ ?_⟩
  ·intro D j x ys H' R1 R2 hD hx hsm hDl hp k1 k2
   obtain ⟨ts,rfl,htl,hts⟩:=hp
   rw [List.getElem?_map] at hx
   obtain ⟨a,ha,rfl⟩:=Option.map_eq_some_iff.mp hx
   refine a_A ⟨_,rfl,a,_,rfl,.inl ⟨SqL.of (hsm _ _ (hls j a ha)),fun t ht=>?_⟩⟩
   have hD5:=a_f (u:=.tup (intsV (gA W k j))) hDl ht
   refine k1 (.ref t) _ hD5 (Same.set (hsm.trans (Same.upd ht)) hD) ⟨ts++[t],by rw [List.map_append];rfl,by rw [List.length_append,htl];rfl,fun i u e=>?_⟩
   rcases get_split e with z | ⟨rfl,rfl⟩
   ·exact upd_keep2 (a_f (hts i u z) ht) hD5 (by intro z;cases z)
   ·rw [htl]
    exact upd_keep2 upd_same hD5 (by intro z;cases z)
  ·intro D ys H' hD hsm hDl hp
   obtain ⟨ts,rfl,htl,hts⟩:=hp
   rw [List.length_map,hll] at htl
   refine q D (ts.map V.ref) H' (s1.trans hsm) (.inr ⟨b_w s1 hD,hDl⟩) (by rw [List.length_map,htl]) fun j x hx=>?_
   rw [List.getElem?_map] at hx
   obtain ⟨a,ha,rfl⟩:=Option.map_eq_some_iff.mp hx
   unfold ThV
   rw [if_neg (by decide)]
   exact ⟨a,rfl,hts j a ha⟩
theorem ok_m (ho:base.get? f=some (PySem.W.fnMade "is_marked" q_m (a_h s_m) (a_g s_m) (a_c s_m) clos doc pm c ctv)) (hcd:base.CodeRec (.ref c) q_m) (C:ClosAt base clos (a_c s_m) ["machine"] [.ref m]) (hMa:Mach L W B) (hn:0<n):
  FnOk P w K mg base CX0 1 f (PySem.W.fnX "is_marked" q_m (a_h s_m) (a_g s_m) (a_c s_m) clos .none .none doc pm none (.ref c) ctv) ["state"] (spMark false (mkW B) (tups W.length n) fun H=>b_e H m L W B):=by
 refine fn_ofC (fvs:=[.ref m]) ho rfl hcd sc_m C (fun vs H Q E h=>?_) (fun A outer s H vs Q E hr h=>?_)
 ·obtain ⟨k,v,rfl,_⟩:=h
  rfl
 ·obtain ⟨k,v,rfl,hv,hU,hM,q⟩:=h
  refine ⟨_,(a_e (a_q (a_B b_d (a_B b_d (pv 1) pe_int (fun _ _=>rfl)) (a_B b_d (pv 0) pe_int (fun _ _=>rfl)) (fun _ _=>rfl)))),?_⟩
  unfold ThV at hv
  rw [if_neg (by decide)] at hv
  obtain ⟨b,rfl,hb⟩:=hv
  obtain ⟨hk1,hk2⟩:=c_k.mp hU
  obtain ⟨x,k',rfl⟩:∃x k',k=x::k':=match k,hk1 with
   | [],h=>absurd h (Nat.ne_of_lt hn)
   | x::k',_=>⟨x,k',rfl⟩
  have hxW:=hk2 x List.mem_cons_self
  obtain ⟨wy,mk,rows,h1,h2,h3,h4,h5⟩:=hM
  have hB:B[x]?=some (B.getD x false):=by
   rw [List.getD_eq_getElem?_getD,List.getElem?_eq_getElem (by rw [hMa.bl];exact hxW)]
   rfl
  exact ⟨_,rfl,m,_,_,_,rfl,rfl,SqT.of h1,a_u (j:=2) rfl,_,rfl,b,_,_,_,rfl,rfl,SqT.of hb,a_u (j:=0) rfl,mk,_,_,_,rfl,rfl,SqT.of h3,c_r V.bl hB,q⟩
end
theorem b_S:a_l ["machine","rooms","most","goals_of","is_marked"] ["machine","rooms","most"] (a_c a_k):=⟨rfl,rfl,rfl,by decide +kernel,rfl,by decide +kernel,by decide +kernel⟩
theorem bd_walked5 {kV doc pm cdv ct ocD:Value} (lD:K.lookup tD=some ⟨ocD,odD,.seq #[.none] nD,slD⟩):c_D K (PySem.W.fnOf "walked" "walked" (a_h b_f) (a_g b_f) (a_c b_f) (.ref tD) kV doc pm an cdv ct) ["letters","start","goals_of","is_marked","most"] []:=fun s us hK hl=>by
 rw [List.append_nil] at hl ⊢
 obtain ⟨a,b,c,d,e,rfl⟩:∃a b c d e,us=[a,b,c,d,e]:=match us,hl with | [a,b,c,d,e],_=>⟨a,b,c,d,e,rfl⟩
 exact BindsTo.of_defaults rfl (hK _ _ lD) rfl rfl rfl
theorem bd_wrooms {kV doc pm cdv ct ocD:Value} (lD:K.lookup tD=some ⟨ocD,odD,.seq #[.none] nD,slD⟩):c_D K (PySem.W.fnOf "walked_rooms" "walked_rooms" (a_h a_k) (a_g a_k) (a_c a_k) (.ref tD) kV doc pm an cdv ct) ["machine","rooms","most"] []:=fun s us hK hl=>by
 rw [List.append_nil] at hl ⊢
 obtain ⟨a,b,c,rfl⟩:∃a b c,us=[a,b,c]:=match us,hl with | [a,b,c],_=>⟨a,b,c,rfl⟩
 exact BindsTo.of_defaults rfl (hK _ _ lD) rfl rfl rfl
theorem clos_at (Wd:WideAt X U σ H base') (sub:∀y a,clos.lookup y=some a->X.env.cells.lookup y=some a) (has:∀y∈sc.names,y.2=.free->∃a,clos.lookup y.1=some a) (hN:X.N[0]?=some (Str.ofString "machine")) (hσ:σ[0]?=some (some (.ref m))) (hc:X.env.scope.names.lookup (Str.ofString "machine")=some .cell) (hf:sc.names.lookup (Str.ofString "machine")=some .free) (hm:(("machine":Str),NameKind.free)∈sc.names):
  ClosAt base' clos sc ["machine"] [.ref m]:=by
 refine ⟨fun y z c h1 h2=>Wd.inj y z c (sub y c h1) (sub z c h2),has,fun y c h=>Wd.cell y c (sub y c h),rfl,fun i y v h1 h2=>?_⟩
 match i,h1,h2 with
 | 0,h1,h2=>
  cases h1
  cases h2
  obtain ⟨a,ha⟩:=has _ hm rfl
  obtain ⟨c,u,e1,e2,e3⟩:=Wd.val 0 "machine" (.ref m) hN hσ hc
  have e4:=sub _ _ ha
  rw [e1] at e4
  cases e4
  exact ⟨hf,_,u,ha,e2,e3⟩
 | i+1,h1,_=>simp at h1
set_option maxHeartbeats 8000000 in
theorem ok_wrooms {P:Program} {w:World} {oc kV doc pm ct oc2 kV2 doc2 pm2 cdv2 ct2 ocD:Value} (lk:K.lookup f=some ⟨oc,od,.func (PySem.W.fnOf "walked_rooms" "walked_rooms" (a_h a_k) (a_g a_k) (a_c a_k) (.ref tR) kV doc pm an (.ref c) ct),osl⟩) (hcd:PySem.W.codeIn K (.ref c) "walked_rooms"=true)
  (lw:K.lookup fw=some ⟨oc2,od2,.func (PySem.W.fnOf "walked" "walked" (a_h b_f) (a_g b_f) (a_c b_f) (.ref tD) kV2 doc2 pm2 an2 cdv2 ct2),osl2⟩) (cw:PySem.W.codeIn K cdv2 "walked"=true) (kw:PySem.W.keepIn K (.ref fw)=true) (mw:mg "walked"=some (.ref fw)) (lD:K.lookup tD=some ⟨ocD,odD,.seq #[.none] nD,slD⟩)
  (WT:WkT K mg cW fI fdI) (tlen:mg "len"=none) (tzip:mg "zip"=none) (ttup:mg "tuple"=none) (hC:PySem.W.CodeHd base c P0) (hB:BltAt base mg) (DL:∀base:Heap,Df P w K mg base "lots_after" 1 ["machine","rooms"] sp_lotsafter):
  FnOk P w K mg base CX0 6 f (PySem.W.fnOf "walked_rooms" "walked_rooms" (a_h a_k) (a_g a_k) (a_c a_k) (.ref tR) kV doc pm an (.ref c) ct) ["machine","rooms","most"] (d_O cW P0 sites):=by
 refine fn_code lk hcd b_S (fun vs H Q E h=>?_) (fun A outer s H vs Q E hr h=>?_)
 ·obtain ⟨m,rl,L,W,B,s,most,rfl,_⟩:=h
  rfl
 ·obtain ⟨m,rl,L,W,B,s0,most,rfl,hM,hMa,hrl,hs1,hs60,hsW,hpow,hT,q⟩:=h
  refine ⟨_,(a_b ((ps_nest (i:=3) (qual:=q_g) (c:=c) (P0:=P0) (sites:=sites) b_S.nd rfl (Or.inl rfl) rfl hC hB (by decide +kernel) (by decide +kernel))) (a_b ((ps_nest (i:=4) (qual:=q_m) (c:=c) (P0:=P0) (sites:=sites) b_S.nd rfl (Or.inl rfl) rfl hC hB (by decide +kernel) (by decide +kernel))) (a_e (a_q (pe_wide (dvs:=[]) rfl mw kw (bd_walked5 (kV:=kV2) (doc:=doc2) (pm:=pm2) (an:=an2) (cdv:=cdv2) (ct:=ct2) lD) .nil (a_a (a_B b_d (pv 0) pe_int (fun _ _=>rfl)) (a_a (a_C a_t (by rfl) ttup PyProof.Rows.boot_tuple (a_a (pv 1) a_d)) (a_a (pv 3) (a_a (pv 4) (a_a (pv 2) a_d))))) (fun _=>rfl)))))),?_⟩
  refine ⟨hT,fun clos1 f1 c1 H1 sub1 has1 fr1 ne1 s1 hT1 hc1 hf1=>⟨hT1,fun clos2 f2 c2 H2 sub2 has2 fr2 ne2 s2 hT2 hc2 hf2=>?_⟩⟩
  have s12:c_g P0 H H2:=sameX_trans s1 s2
  have hM2:b_e H2 m L W B:=hM.tups (sameX_tup s12 hT)
  obtain ⟨ps0,hP0,_⟩:=id hT
  have hrl2:H2 rl=some (.lst (intsV s0)):=s12 rl _ (fun z=>by rw [z,hP0] at hrl;cases hrl) hrl
  obtain ⟨ps1,hP1,_⟩:=id hT1
  obtain ⟨ps2,hP2,ht2,hall2⟩:=id hT2
  have nP:∀{b:Addr} {φ:Heap->Prop},H1 b=some (.ext φ)->b≠P0:=fun {b φ} e z=>by rw [z,hP1] at e;cases e
  have hf1':H2 f1=some (fnHO f1 "goals_of" q_g (a_h s_g) (a_g s_g) (a_c s_g) clos1 c1):=s2 f1 _ (nP hf1) hf1
  have hc1':H2 c1=some (codeHO c1 q_g):=s2 c1 _ (nP hc1) hc1
  have hf2':H2 f2=some (fnHO f2 "is_marked" q_m (a_h s_m) (a_g s_m) (a_c s_m) clos2 c2):=hf2
  have hM3:=hM2
  obtain ⟨wy,mk,rows,h1,h2,h3,h4,h5⟩:=hM2
  refine ⟨_,rfl,m,_,_,_,rfl,rfl,SqT.of h1,a_u (j:=0) rfl,_,rfl,rl,_,rfl,.inl ⟨SqL.of hrl2,fun tt htt=>?_⟩⟩
  have sT:Same H2 (L2.upd H2 tt (.tup (intsV s0))):=Same.upd htt
  have htT:L2.upd H2 tt (.tup (intsV s0)) tt=some (.tup (intsV s0)):=upd_same
  generalize L2.upd H2 tt (.tup (intsV s0))=H2' at sT htT
  have hUx:∀u∈[f1,f2,c1,c2],∃ φ,H2' u=some (.ext φ):=fun u hu=>by
   simp only [List.mem_cons,List.not_mem_nil,or_false] at hu
   rcases hu with rfl | rfl | rfl | rfl
   ·exact ⟨_,sT _ _ hf1'⟩
   ·exact ⟨_,sT _ _ hf2'⟩
   ·exact ⟨_,sT _ _ hc1'⟩
   ·exact ⟨_,sT _ _ hc2⟩
  refine ⟨_,rfl,_,rfl,_,rfl,[f1,f2,c1,c2],hUx,fun base' Wd=>?_⟩
  obtain ⟨doc1,pm1,ctv1,eb1⟩:=Wd.ext f1 _ (by simp) (sT _ _ hf1')
  obtain ⟨doc3,pm3,ctv3,eb2⟩:=Wd.ext f2 _ (by simp) (sT _ _ hf2')
  have cd1:base'.CodeRec (.ref c1) q_g:=Wd.ext c1 _ (by simp) (sT _ _ hc1')
  have cd2:base'.CodeRec (.ref c2) q_m:=Wd.ext c2 _ (by simp) (sT _ _ hc2)
  have C1:=clos_at (sc:=a_c s_g) (m:=m) Wd sub1 has1 rfl rfl rfl rfl (by decide +kernel)
  have C2:=clos_at (sc:=a_c s_m) (m:=m) Wd sub2 has2 rfl rfl rfl rfl (by decide +kernel)
  have Fw:FunD K "walked" "walked" b_f fw _:=⟨⟨oc2,od2,.ref tD,kV2,doc2,pm2,an2,cdv2,ct2,osl2,rfl,lw,cw⟩,kw⟩
  refine ⟨5,e_y cW false L (gA W) (mkW B) (tups W.length s0.length) (fun H=>b_e H m L W B) f1 f2,hr,ok_walked Fw WT tlen tzip ((ok_g eb1 cd1 C1 hMa hs60 ttup (DL base')).mono (by decide)) ((ok_m eb2 cd2 C2 hMa hs1).mono (by decide)) eb1 ⟨_,rfl⟩ eb2 ⟨_,rfl⟩ (.all fun us hl=>match us,hl with | [_],_=>rfl) (.all fun us hl=>match us,hl with | [_],_=>rfl) (fun _ _ s h=>h.same s),?_⟩
  have keepT:∀{b:Addr} {o:HO},H2' b=some o->(∀ φ,o≠.ext φ)->b∉[f1,f2,c1,c2]:=fun {b o} e ho hb=>by
   obtain ⟨φ,e2⟩:=hUx b hb
   rw [e] at e2
   exact ho φ (Option.some.inj e2)
  refine ⟨s0,.ref tt,most,rfl,hMa.lt,?_,c_k.mpr ⟨rfl,hsW⟩,fun k hk q hq=>gA_mem hMa hk hq,by rw [tups_len];exact hpow,(hM3.same sT).tups fun b xs e=>by rw [a_W (keepT e (fun _ z=>nomatch z))];exact e,fun wk t wd y md ks vks ws rows' R Bm H3 sm3 hW ht hth hwd hy hwr hmd bf ways bl mks sub le he hU3=>?_⟩
  ·unfold ThV
   rw [if_neg (by decide)]
   exact ⟨tt,rfl,by rw [a_W (keepT htT (fun _ z=>nomatch z))];exact htT⟩
  have out:∀{b:Addr} {o:HO},H3 b=some o->retr [f1,f2,c1,c2] H2' H3 b=some o:=fun {b o} e=>by
   rw [c_i fun hb=>?_]
   ·exact e
   ·rw [hU3 b hb] at e
    cases e
  have fwd:∀{b:Addr} {o:HO},H2 b=some o->retr [f1,f2,c1,c2] H2' H3 b=some o:=fun {b o} e0=>by
   have e:=sT _ _ e0
   by_cases hb:b∈[f1,f2,c1,c2]
   ·rw [retr_in hb]
    exact e
   ·exact out (sm3 b o (by rw [a_W hb];exact e))
  obtain ⟨dx,ew⟩:=hW.ex
  exact q wk t wd y md ks vks ws rows' R Bm _ (fun b o hb e=>fwd (s12 b o hb e)) ⟨ps2,fwd hP2,ht2,fun x hx=>(hall2 x hx).imp id fun ⟨c',e1,e2⟩=>⟨c',e1,fwd e2⟩⟩ ⟨dx,out ew⟩ (out ht) (hth.same fun b xs e=>out e) (out hwd) (out hy) ⟨hwr.1,fun i a r e1 e2=>out (hwr.2 i a r e1 e2)⟩ (out hmd) bf ways bl sub he
abbrev b_P:Stmt:=top 6
abbrev b_D:Stmt:=top 7
abbrev c_a:Stmt:=top 10
abbrev b_E:Stmt:=top 11
abbrev b_j:Stmt:=top 9
abbrev b_l:Stmt:=top 18
abbrev a_Y:Stmt:=top 23
abbrev d_n:Stmt:=top 22
abbrev b_O:Stmt:=top 13
abbrev b_G:Stmt:=top 31
abbrev a_Z:Stmt:=top 28
abbrev b_m:Stmt:=top 29
abbrev d_o:Stmt:=top 30
abbrev a_M:Stmt:=top 25
abbrev b_k:Stmt:=top 27
abbrev b_F:Stmt:=top 26
abbrev a_P:Stmt:=top 33
abbrev a_O:Stmt:=top 34
abbrev a_N:Stmt:=top 35
abbrev b_n:Stmt:=top 37
abbrev b_p:Stmt:=top 38
abbrev b_o:Stmt:=top 39
abbrev b_q:Stmt:=top 40
abbrev b_a:Stmt:=top 41
abbrev b_s:Stmt:=top 42
abbrev b_r:Stmt:=top 43
abbrev b_H:Stmt:=top 44
abbrev e_U:Stmt:=top 45
structure Txt (K:PySem.W.Frag) (mg:Str->Option Value) (cA_ cC_ cE_ cJ_:Addr):Prop where
 kA_:mg "RoomError"=some (.ref cA_)
 kC_:mg "NoWord"=some (.ref cC_)
 kE_:mg "NoRoom"=some (.ref cE_)
 kJ_:mg "TooGreat"=some (.ref cJ_)
 eJ_:ExcCls K cJ_
 mJ_:PySem.W.exmOne K (.ref cJ_) (.ref cA_)=some true
 iJC_:PySem.W.kitOne K (.ref cJ_) (.ref cC_)=some false
 iJE_:PySem.W.kitOne K (.ref cJ_) (.ref cE_)=some false
 iJJ_:PySem.W.kitOne K (.ref cJ_) (.ref cJ_)=some true
 vJ_:PySem.W.kitOne K (.ref cJ_) (.type "ValueError")=some true
 len:mg "len"=none
 range:mg "range"=none
 isinst:mg "isinstance"=none
 int:mg "int"=none
 bool:mg "bool"=none
 tuple:mg "tuple"=none
 list:mg "list"=none
 str:mg "str"=none
 zip:mg "zip"=none
 set:mg "set"=none
 sorted:mg "sorted"=none
 verr:mg "ValueError"=none
 enumerate:mg "enumerate"=none
 any:mg "any"=none
 most:∃t,mg "MOST_ACTS"=some (.int 40 t)
def sp_is_whole:Sp:=fun vs H Q _=>∃(i:Int),vs=[.int i]/\Q (.bl true) H
def sp_needword:Sp:=fun vs H Q _=>∃(L w:List Nat),vs=[.str (tx L),.str (tx w)]/\(∀c∈w,c∈L)/\Q .non H
def sp_isroom:Sp:=fun vs H Q _=>∃(i n:Int),vs=[.int i,.int n]/\0≤i/\i<n/\Q (.bl true) H
def e_M (H:Hp) (p:Addr) (L:List Nat) (R:List (List Nat)):Prop:=∃(y md:Addr) (rows:List Addr),H p=some (.tup [.str (tx L),.ref y,.ref md])/\H y=some (.lst (rows.map V.ref))/\WRows H rows R
theorem e_M.same (h:e_M H p L R) (s:Same H H'):e_M H' p L R:=
 let ⟨y,md,rows,h1,h2,h3⟩:=h;⟨y,md,rows,s _ _ h1,s _ _ h2,h3.1,fun i a r e1 e2=>s _ _ (h3.2 i a r e1 e2)⟩
def sp_needroomP:Sp:=fun vs H Q _=>∃(p:Addr) (L:List Nat) (R:List (List Nat)) (r:Nat),vs=[.ref p,.int (r:Int)]/\e_M H p L R/\r<R.length/\Q .non H
def sp_roomafterP:Sp:=fun vs H Q _=>∃(p:Addr) (L:List Nat) (R:List (List Nat)) (B:List Bool) (r:Nat) (w:List Nat),vs=[.ref p,.int (r:Int),.str (tx w)]/\e_M H p L R/\Mach L R B/\r<R.length/\(∀c∈w,c∈L)/\Q (.int (run L R r w:Nat)) H
structure WkA (K:PySem.W.Frag) (cW:Addr):Prop where
 cls:Cls K cW
 na1:a_I K cW "letters"
 na2:a_I K cW "things"
 na3:a_I K cW "words"
 na4:a_I K cW "ways"
 na5:a_I K cW "marks"
def TbG (H:Hp) (l:Addr) (ts:List Addr) (ks:List (List Nat)):Prop:=H l=some (.lst (ts.map V.ref))/\ts.length=ks.length/\∀(i:Nat) (a:Addr),ts[i]?=some a->TupG H a (intsV (a_S ks i))
theorem TbG.same (h:TbG H l ts ks) (s:Same H H'):TbG H' l ts ks:=⟨s _ _ h.1,h.2.1,fun i t e=>(h.2.2 i t e).same s⟩
theorem TbG.get (h:TbG H l ts ks) (hi:i<ks.length):∃t,ts[i]?=some t/\TupG H t (intsV (a_S ks i)):=by
 have hi':i<ts.length:=by rw [h.2.1];exact hi
 exact ⟨ts[i],List.getElem?_eq_getElem hi',h.2.2 i _ (List.getElem?_eq_getElem hi')⟩
def Cl (ks:List (List Nat)):Prop:=ks.length≤40/\∀i x,i<ks.length->x∈a_S ks i->x<ks.length
def c_V (cJ_ P0:Addr) (sites:List (Pos×Str)):Sp:=fun vs H Q E=>∃(m:Addr) (L:List Nat) (W:List (List Nat)) (B:List Bool),vs=[.ref m]/\b_e H m L W B/\Mach L W B/\W.length≤8/\b_W H P0 sites/\(∀d H',ManyA L W->c_g P0 H H'->b_W H' P0 sites->XW H H' L W d->E (.ref cJ_) (some d) H')/\
 ∀(l:Addr) (ts:List Addr) (ks ws:List (List Nat)) (H':Hp),c_g P0 H H'->b_W H' P0 sites->TbG H' l ts ks->FewA L W ks ws->Q (.ref l) H'
def sp_numT:Sp:=fun vs H Q _=>∃(a:Addr) (ts:List Addr) (ks:List (List Nat)),vs=[.ref a]/\H a=some (.lst (ts.map V.ref))/\ts.length=ks.length/\ks.length≤1000/\(∀(i:Nat) (t:Addr) (k:List Nat),ts[i]?=some t->ks[i]?=some k->H t=some (.tup (intsV k)))/\∀p H',Same H H'->H' p=some (.lst (intsV (numF ks)))->Q (.ref p) H'
def OnceAt (H:Hp) (l:Addr) (ts:List Addr) (f:List (List Nat)):Prop:=H l=some (.lst (ts.map V.ref))/\ts.length=f.length/\∀(i:Nat) (t:Addr) (k:List Nat),ts[i]?=some t->f[i]?=some k->H t=some (.tup (intsV k))
def d_Q (K:PySem.W.Frag):Sp:=fun vs H Q _=>∃(p:Addr) (as:List Addr) (xss:List (List Nat)),vs=[.ref p]/\H p=some (.lst (as.map V.ref))/\as.length=xss.length/\xss.length≤40/\(∀(i:Nat) (a:Addr) (xs:List Nat),as[i]?=some a->xss[i]?=some xs->(∀H2,Same H H2->SqL K H2 a (intsV xs)\/SqT K H2 a (intsV xs))/\∀x∈xs,x<40)/\
 ∀l ts H',H l=none->Same H H'->OnceAt H' l ts (xss.map upL)->Q (.ref l) H'
def sp_right:Sp:=fun vs H Q _=>∃(l:Addr) (ts:List Addr) (ks:List (List Nat)),vs=[.ref l]/\TbG H l ts ks/\Cl ks/\∀l2 ts2 H',H l2=none->Same H H'->OnceAt H' l2 ts2 (((List.range ks.length).map fun i=>a_S ks i).map upL)->Q (.ref l2) H'
def sp_left:Sp:=fun vs H Q _=>∃(l:Addr) (ts:List Addr) (ks:List (List Nat)),vs=[.ref l]/\TbG H l ts ks/\Cl ks/\∀l2 ts2 H',H l2=none->Same H H'->OnceAt H' l2 ts2 (((List.range ks.length).map fun i=>colT ks i).map upL)->Q (.ref l2) H'
def sp_below:Sp:=fun vs H Q _=>∃(l:Addr) (ts:List Addr) (ks:List (List Nat)),vs=[.ref l]/\TbG H l ts ks/\Cl ks/\∀l2 ts2 H',H l2=none->Same H H'->OnceAt H' l2 ts2 (((List.range ks.length).map fun i=>botT ks (upL (colT ks i))).map upL)->Q (.ref l2) H'
def d_R (cJ_ P0:Addr) (sites:List (Pos×Str)):Sp:=fun vs H Q E=>∃(m:Addr) (L:List Nat) (W:List (List Nat)) (B:List Bool),vs=[.ref m]/\b_e H m L W B/\Mach L W B/\W.length≤8/\b_W H P0 sites/\(∀d H',ManyA L W->c_g P0 H H'->b_W H' P0 sites->XW H H' L W d->E (.ref cJ_) (some d) H')/\
 ∀(l:Addr) (ps:List Addr) (ks ws:List (List Nat)) (H':Hp),c_g P0 H H'->b_W H' P0 sites->LotAt H' l ps ks->FewA L W ks ws->Q (.ref l) H'
def sp_members:Sp:=fun vs H Q _=>∃(l:Addr) (ts:List Addr) (L:List Nat) (W:List (List Nat)) (B:List Bool) (ks ws:List (List Nat)) (e:Nat),vs=[.ref l,.int (e:Int)]/\TbG H l ts ks/\Tb L W B ks ws/\e<ks.length/\∀(ml:Addr) (H':Hp),Same H H'->H ml=none->H' ml=some (.lst (intsV (mems ks e)))->Q (.ref ml) H'
def d_S (cJ_ P0:Addr) (sites:List (Pos×Str)):Sp:=fun vs H Q E=>∃(m:Addr) (L:List Nat) (W:List (List Nat)) (B:List Bool),vs=[.ref m]/\b_e H m L W B/\Mach L W B/\W.length≤8/\b_W H P0 sites/\(∀d H',ManyA L W->c_g P0 H H'->b_W H' P0 sites->XW H H' L W d->E (.ref cJ_) (some d) H')/\
 ∀(l:Addr) (ps ms:List Addr) (ks ws:List (List Nat)) (H':Hp),c_g P0 H H'->b_W H' P0 sites->GrAt H' l ps ms ks->FewA L W ks ws->ms.Nodup->Q (.ref l) H'
def c_L (K:PySem.W.Frag):Sp:=fun vs H Q _=>∃(a:Addr) (ns:List Int) (k:Int),vs=[.ref a,.int k]/\SqL K H a (ns.map V.int)/\0≤k/\∀z,Q (.int z) H
def sp_letters:Sp:=fun vs H Q _=>∃(c:Int),vs=[.int c]/\∀L,Let L->Q (.str (tx L)) H
def c_E (K:PySem.W.Frag):Sp:=fun vs H Q _=>∃(a:Addr) (ns:List Int) (p:Int) (n:Nat) (L:List Nat),vs=[.ref a,.int p,.int (n:Int),.str (tx L)]/\SqL K H a (ns.map V.int)/\0≤p/\1≤n/\n≤60/\Let L/\
 ∀(m:Addr) (W:List (List Nat)) (B:List Bool) (H':Hp),Same H H'->b_e H' m L W B->Mach L W B->W.length=n->Q (.ref m) H'
def e_z (K:PySem.W.Frag):Sp:=fun vs H Q _=>∃(a:Addr) (ns:List Int) (L:List Nat),vs=[.ref a,.str (tx L)]/\SqL K H a (ns.map V.int)/\Let L/\
 ∀(m:Addr) (W:List (List Nat)) (B:List Bool) (H':Hp),Same H H'->b_e H' m L W B->Mach L W B->W.length≤8->Q (.ref m) H'
def sp_order:Sp:=fun vs H Q _=>∃(z:Int) (n:Nat),vs=[.int z,.int (n:Int)]/\n≤60/\∀(p:Addr) (ls:List Nat) (H':Hp),Same H H'->H' p=some (.lst (intsV ls))->ls.length=n->(∀x∈ls,x<n)->(∀x<n,x∈ls)->Q (.ref p) H'
def lit3:List Nat:=[1,0,2,3,4,5,6,7]
def sp_third:Sp:=fun vs H Q _=>∃(kd:Int) (r:Nat),vs=[.int kd,.int (r:Int)]/\r<8/\∀(x:Nat) (H':Hp),Same H H'->x<8->(kd≠1->kd≠2->r<7->x<7)->Q (.int (x:Int)) H'
def lit1:List Nat:=[1,2,3,4,0,6,5,7]
def lit2:List Nat:=[0,2,4,1,3,5,6,7]
theorem let1 (h:Let L):Let (L.take 1)  where
 lo:=by rw [List.length_take];have:=h.lo;omega
 hi:=by rw [List.length_take];omega
 nd:=h.nd.sublist (List.take_sublist _ _)
 az:=fun c hc=>h.az c (List.mem_of_mem_take hc)
def d_T (K:PySem.W.Frag):Sp:=fun vs H Q _=>∃(a:Addr) (ns:List Int) (L:List Nat),vs=[.ref a,.str (tx L)]/\SqL K H a (ns.map V.int)/\Let L/\
 ∀(m:Addr) (L2:List Nat) (W:List (List Nat)) (B:List Bool) (H':Hp),Same H H'->b_e H' m L2 W B->Mach L2 W B->W.length≤8->Q (.ref m) H'
def d_k (cJ_ P0:Addr) (sites:List (Pos×Str)):Sp:=fun vs H Q _=>∃(m:Addr) (L:List Nat) (W:List (List Nat)) (B:List Bool),vs=[.ref m]/\b_e H m L W B/\Mach L W B/\W.length≤8/\b_W H P0 sites/\(∀H',Q .non H')/\
 ∀(t l g:Addr) (ps gp gm:List Addr) (ks ws:List (List Nat)) (H':Hp),H' t=some (.tup [.ref l,.ref g])->LotAt H' l ps ks->GrAt H' g gp gm ks->FewA L W ks ws->Q (.ref t) H'
def d_F (P:Program) (w:World) (H:Hp) (d:Addr) (N:Nat) (c:Nat->Nat->Nat):Prop:=∃kvs,H d=some (hdO (b_c P w) d kvs)/\(∀x∈kvs,TIn H x.1 x.2.1)/\kvs.length≤N/\∀a b:Nat,valH kvs [(a:Int),(b:Int)]=if c a b=0 then none else some (.int ((c a b:Nat):Int))
theorem d_F.same (h:d_F P w H d N c) (s:Same H H'):d_F P w H' d N c:=let ⟨kvs,a,b,q⟩:=h;⟨kvs,s _ _ a,fun x hx=>s _ _ (b x hx),q⟩
theorem d_F.isD (h:d_F P w H d N c):IsD P w H d:=let ⟨kvs,a,b,_⟩:=h;.inr ⟨kvs,a,b⟩
theorem d_F.get {N a b:Nat} (h:d_F P w H d N c) (ht:H t=some (.tup [.int (a:Int),.int (b:Int)])):∃o,DGetW P w H d (.ref t) o/\o.getD (.int 0)=.int ((c a b:Nat):Int):=by
 obtain ⟨kvs,h1,h2,_,h4⟩:=h
 refine ⟨_,.inr ⟨kvs,[(a:Int),(b:Int)],t,h1,h2,rfl,ht,rfl⟩,?_⟩
 rw [h4]
 by_cases z:c a b=0
 ·rw [if_pos z,z];rfl
 ·rw [if_neg z];rfl
theorem cellN_succ (i:Nat) (r l:Nat->Nat) (a b:Nat):b_V (i+1) r l a b=b_V i r l a b+if a=r i/\b=l i then 1 else 0:=by
 unfold b_V
 rw [b_U,List.length_append]
 refine congrArg _ ?_
 by_cases z:a=r i/\b=l i
 ·rw [if_pos z,z.1,z.2]
  simp
 ·rw [if_neg z,if_neg]
  ·rfl
  ·intro y
   rw [Bool.and_eq_true,decide_eq_true_eq,decide_eq_true_eq] at y
   exact z ⟨y.1.symm,y.2.symm⟩
theorem d_F.put (h:d_F P w H d N (b_V i r l)) (ht:H t=some (.tup [.int (r i:Int),.int (l i:Int)])):∃kvs k,H d=some (hdO (b_c P w) d kvs)/\(∀x∈kvs,TIn H x.1 x.2.1)/\TIn H k t/\kvs.length≤N/\d_F P w (L2.upd H d (hdO (b_c P w) d (putH kvs k t (.int ((b_V i r l (r i) (l i):Nat)+1:Int))))) d (N+1) (b_V (i+1) r l):=by
 obtain ⟨kvs,h1,h2,h3,h4⟩:=h
 refine ⟨kvs,[(r i:Int),(l i:Int)],h1,h2,ht,h3,_,upd_same,fun x hx=>?_,Nat.le_trans putH_len (by omega),fun a b=>?_⟩
 ·have up:∀{k:List Int} {b:Addr},TIn H k b->TIn (L2.upd H d (hdO (b_c P w) d (putH kvs [(r i:Int),(l i:Int)] t (.int ((b_V i r l (r i) (l i):Nat)+1:Int))))) k b:=fun {k b} e=>upd_keep2 e h1 (by intro z;unfold hdO at z;cases z)
  rcases putH_in hx with ⟨y,hy,e1,e2⟩ | ⟨e1,e2⟩
  ·rw [e1,e2];exact up (h2 y hy)
  ·rw [e1,e2];exact up ht
 ·rw [valH_put,cellN_succ]
  by_cases z:a=r i/\b=l i
  ·rw [if_pos z,z.1,z.2,if_pos rfl,if_neg (by omega)]
   rfl
  ·rw [if_neg z,Nat.add_zero,if_neg,h4]
   intro y
   have y1:=List.cons.inj y
   exact z ⟨Int.ofNat.inj y1.1,Int.ofNat.inj (List.cons.inj y1.2).1⟩
def e_P (P:Program) (w:World):Sp:=fun vs H Q _=>∃(l:Addr) (ps:List Addr) (ks:List (List Nat)),vs=[.ref l]/\LotAt H l ps ks/\ks.length≤40/\∀d H',Same H H'->d_F P w H' d 40 (b_V ks.length (nR ks) (nL ks))->Q (.ref d) H'
def d_g (P:Program) (w:World) (H:Hp) (d:Addr) (N:Nat) (S:Nat->Nat->Prop):Prop:=∃kvs,H d=some (kdO (intKind P w) d kvs)/\kvs.length≤N/\∀(k:Nat) v,valV kvs (k:Int)=some v->∃c:Nat,v=.int (c:Int)/\S k c
theorem d_g.same (h:d_g P w H d N S) (s:Same H H'):d_g P w H' d N S:=let ⟨kvs,a,q⟩:=h;⟨kvs,s _ _ a,q⟩
theorem d_g.mono (h:d_g P w H d N S) (l:N≤M):d_g P w H d M S:=let ⟨kvs,a,b,q⟩:=h;⟨kvs,a,Nat.le_trans b l,q⟩
theorem d_g.ask (h:d_g P w H d N S) (hN:N≤100000) (hS:S k c) (un:∀c',S k c'->c'=c) (q:∀H',(∀b o,b≠d->H b=some o->H' b=some o)->d_g P w H' d (N+1) S->Q (.int (c:Int)) H'):rSetDef P w (.ref d) [.int (k:Int),.int (c:Int)] H Q:=by
 obtain ⟨kvs,h1,h2,h3⟩:=h
 refine ⟨d,_,_,kvs,rfl,rfl,h1,Nat.lt_of_le_of_lt h2 (Nat.lt_of_le_of_lt hN (Nat.lt_of_lt_of_le (show 100000<16777216 by decide) (a_i (Nat.le_refl _)))),fun v hv=>?_,fun hn=>?_⟩
 ·obtain ⟨c',rfl,hc'⟩:=h3 k v hv
  rw [un c' hc']
  exact q H (fun b o _ e=>e) ⟨kvs,h1,by omega,h3⟩
 ·refine q _ (fun b o hb e=>by rw [upd_ne hb];exact e) ⟨_,upd_same,by rw [List.length_append];exact Nat.add_le_add_right h2 1,fun k' v hv=>?_⟩
  unfold valV at hv hn
  rw [List.find?_append] at hv
  cases z:kvs.find? (fun kv=>decide (kv.1=(k':Int))) with
  | some y=>
   rw [z] at hv
   exact h3 k' v (by unfold valV;rw [z];exact hv)
  | none=>
   rw [z] at hv
   by_cases e:(k:Int)=(k':Int)
   ·have e':=Int.ofNat.inj e
    subst e'
    simp at hv
    exact ⟨c,hv.symm,hS⟩
   ·simp [e] at hv
def sp_even (P:Program) (w:World):Sp:=fun vs H Q _=>∃(l:Addr) (ps:List Addr) (L:List Nat) (W:List (List Nat)) (B:List Bool) (ks ws:List (List Nat)),vs=[.ref l]/\LotAt H l ps ks/\Tb L W B ks ws/\∀H',Same H H'->Q (.bl true) H'
section
variable {P:Program} {w:World} {K:PySem.W.Frag} {mg:Str->Option Value} {base:Heap} {P0 cT cW:Addr} {cA_ cC_ cE_ cJ_:Addr}
theorem sc_is_whole:a_l ["value"] ["value"] (a_c b_P):=⟨rfl,rfl,rfl,by decide +kernel,rfl,by decide +kernel,by decide +kernel⟩
theorem ok_is_whole (F:Fun K "is_whole" "is_whole" b_P f fd) (T:Txt K mg cA_ cC_ cE_ cJ_):FnOk P w K mg base CX0 1 f fd ["value"] sp_is_whole:=by
 refine F.ok sc_is_whole (fun vs H Q E h=>?_) (fun cdv A outer s H vs Q E hr h=>?_)
 ·obtain ⟨i,rfl,_⟩:=h
  rfl
 ·obtain ⟨i,rfl,q⟩:=h
  refine ⟨_,(a_e (a_q (pe_and (a_p (e_n (T:="int") (b:=true)) (by rfl) T.isinst PyProof.Rows.boot_isinstance (a_a (pv 0) (a_a (pe_bltn (v:=.ty "int") (by rfl) T.int PyProof.Rows.boot_int rfl) a_d)))
   (pe_one (pe_not (a_p (e_n (T:="bool") (b:=false)) (by rfl) T.isinst PyProof.Rows.boot_isinstance (a_a (pv 0) (a_a (pe_bltn (v:=.ty "bool") (by rfl) T.bool PyProof.Rows.boot_bool rfl) a_d)))))))),?_⟩
  exact ⟨_,rfl,_,_,rfl,TyOf.int _,kit_ii K,_,rfl,iteT ⟨_,rfl,_,_,rfl,TyOf.int _,kit_ib K,_,rfl,q⟩⟩
theorem d_x:a_l ["letters","word","sign"] ["letters","word"] (a_c b_D):=⟨rfl,rfl,rfl,by decide +kernel,rfl,by decide +kernel,by decide +kernel⟩
theorem ok_need_word (F:Fun K "need_word" "need_word" b_D f fd) (T:Txt K mg cA_ cC_ cE_ cJ_):FnOk P w K mg base CX0 1 f fd ["letters","word"] sp_needword:=by
 refine F.ok d_x (fun vs H Q E h=>?_) (fun cdv A outer s H vs Q E hr h=>?_)
 ·obtain ⟨L,w,rfl,_⟩:=h
  rfl
 ·obtain ⟨L,w,rfl,hw,q⟩:=h
  refine ⟨_,(a_e ((b_C PassesOwn.never rfl (pi_str (pv 1)) (a_r (i:=2) d_x.nd rfl (Or.inl rfl)) ((a_e ((c_j (a_y op_notin_str (pv 2) (pv 0) (by with_unfolding_all rfl)) ((a_e (ps_never))) (a_K)))))))),?_⟩
  refine ⟨_,rfl,_,rfl,for_str (x:=tx w) (fun i σ H'=>∃s0,σ=[some (.str (tx L)),some (.str (tx w)),s0]/\H'=H) ⟨none,rfl,rfl⟩ ?_ ?_⟩
  ·rintro i c σ H1 hc ⟨s0,rfl,rfl⟩
   rw [tx_get] at hc
   have hcL:c∈L:=hw c (List.mem_of_getElem? hc)
   refine ⟨_,rfl,_,rfl,_,_,rfl,rfl,_,rfl,?_⟩
   have e:=d_A L c
   unfold Txt.contains at e
   rw [e,decide_eq_true hcL]
   exact iteF ⟨_,rfl,rfl⟩
  ·rintro σ H1 ⟨s0,rfl,rfl⟩
   exact q
theorem sc_is_room:a_l ["number","many"] ["number","many"] (a_c c_a):=⟨rfl,rfl,rfl,by decide +kernel,rfl,by decide +kernel,by decide +kernel⟩
theorem ok_is_room (F:Fun K "is_room" "is_room" c_a f fd) (T:Txt K mg cA_ cC_ cE_ cJ_) (d_is_whole:Df P w K mg base "is_whole" 1 ["value"] sp_is_whole):FnOk P w K mg base CX0 2 f fd ["number","many"] sp_isroom:=by
 refine F.ok sc_is_room (fun vs H Q E h=>?_) (fun cdv A outer s H vs Q E hr h=>?_)
 ·obtain ⟨i,n,rfl,_⟩:=h
  rfl
 ·obtain ⟨i,n,rfl,h0,h1,q⟩:=h
  refine ⟨_,(a_e (a_q (pe_and (a_H d_is_whole hr (a_a (pv 0) a_d)) (pe_one (pe_chain op_le op_lt pe_int (pv 0) (pv 1)))))),?_⟩
  refine ⟨_,rfl,i,rfl,_,rfl,iteT ⟨_,rfl,_,_,rfl,rfl,_,rfl,iteD h0 ⟨_,rfl,_,_,rfl,rfl,?_⟩⟩⟩
  show Q (.bl (decide (i<n))) H
  rw [decide_eq_true h1]
  exact q
theorem sc_need_room:a_l ["machine","number"] ["machine","number"] (a_c b_E):=⟨rfl,rfl,rfl,by decide +kernel,rfl,by decide +kernel,by decide +kernel⟩
theorem ok_need_room (F:Fun K "need_room" "need_room" b_E f fd) (T:Txt K mg cA_ cC_ cE_ cJ_) (d_is_room:Df P w K mg base "is_room" 2 ["number","many"] sp_isroom):FnOk P w K mg base CX0 3 f fd ["machine","number"] sp_needroomP:=by
 refine F.ok sc_need_room (fun vs H Q E h=>?_) (fun cdv A outer s H vs Q E hr h=>?_)
 ·obtain ⟨p,L,R,r,rfl,_⟩:=h
  rfl
 ·obtain ⟨p,L,R,r,rfl,hP,hr0,q⟩:=h
  obtain ⟨y,md,rows,h1,h2,h3,h4⟩:=hP
  refine ⟨_,(a_e ((c_j (pt_not (pt_val (a_H d_is_room hr (a_a (pv 1) (a_a ((a_p a_n (by rfl) T.len PySem.boot_len (a_a (a_B b_d (pv 0) pe_int (fun _ _=>rfl)) a_d))) a_d))))) ((a_e (ps_never))) (a_K)))),?_⟩
  exact ⟨_,rfl,_,rfl,p,_,_,_,rfl,rfl,SqT.of h1,a_u (j:=1) rfl,y,_,rfl,.inl (SqL.of h2),(r:Int),_,rfl,Int.natCast_nonneg _,by rw [List.length_map,h3];exact Int.ofNat_lt.mpr hr0,_,rfl,iteF q⟩
theorem a_X:a_l ["machine","room","word","letters","ways","here","sign"] ["machine","room","word"] (a_c b_j):=⟨rfl,rfl,rfl,by decide +kernel,rfl,by decide +kernel,by decide +kernel⟩
theorem f_a (F:Fun K "room_after" "room_after" b_j f fd) (T:Txt K mg cA_ cC_ cE_ cJ_) (d_need_room:Df P w K mg base "need_room" 3 ["machine","number"] sp_needroomP) (d_need_word:Df P w K mg base "need_word" 1 ["letters","word"] sp_needword):FnOk P w K mg base CX0 4 f fd ["machine","room","word"] sp_roomafterP:=by
 refine F.ok a_X (fun vs H Q E h=>?_) (fun cdv A outer s H vs Q E hr h=>?_)
 ·obtain ⟨p,L,R,B,r,w,rfl,_⟩:=h
  rfl
 ·obtain ⟨p,L,R,B,r,w,rfl,hP,hMa,hr0,hw,q⟩:=h
  have hP0:=hP
  obtain ⟨y,md,rows,h1,h2,h3,h4⟩:=hP
  have hr1:=hr.mono (j:=1) (by decide)
  refine ⟨_,(a_b ((a_j (i:=3) a_X.nd rfl (Or.inl rfl) (a_B b_d (pv 0) pe_int (fun _ _=>rfl)))) (a_b ((a_j (i:=4) a_X.nd rfl (Or.inl rfl) (a_B b_d (pv 0) pe_int (fun _ _=>rfl)))) (a_b (a_Q (a_H d_need_room hr (a_a (pv 0) (a_a (pv 1) a_d)))) (a_b (a_Q (a_H d_need_word hr1 (a_a (pv 3) (a_a (pv 2) a_d)))) (a_b ((a_j (i:=5) a_X.nd rfl (Or.inl rfl) (pv 1))) (a_b ((b_C PassesOwn.never rfl (pi_str (pv 2)) (a_r (i:=6) a_X.nd rfl (Or.inl rfl)) ((a_e ((a_j (i:=5) a_X.nd rfl (Or.inl rfl) (a_B b_I (a_B b_I (pv 4) (pv 5) (fun _ _=>rfl)) (c_x PySem.F.plainAttrs_str PySem.F.slot_str_index PySem.F.type_str_index mt_index (pv 3) (a_a (pv 6) a_d)) (fun _ _=>rfl)))))))) (a_e (a_q (pv 5))))))))),?_⟩
  refine ⟨_,rfl,p,_,_,_,rfl,rfl,SqT.of h1,a_u (j:=0) rfl,_,rfl,p,_,_,_,rfl,rfl,SqT.of h1,a_u (j:=1) rfl,?_⟩
  refine ⟨_,rfl,_,rfl,p,L,R,r,rfl,hP0,hr0,?_⟩
  refine ⟨_,rfl,_,rfl,L,w,rfl,hw,_,rfl,?_⟩
  refine ⟨_,rfl,_,rfl,for_str (x:=tx w) (fun i σ H'=>∃s0,σ=[some (.ref p),some (.int (r:Int)),some (.str (tx w)),some (.str (tx L)),some (.ref y),some (.int (run L R r (w.take i):Nat)),s0]/\H'=H) ⟨none,by rw [List.take_zero];rfl,rfl⟩ ?_ ?_⟩
  ·rintro i c σ H1 hc ⟨s0,rfl,rfl⟩
   rw [tx_get] at hc
   have hcL:c∈L:=hw c (List.mem_of_getElem? hc)
   have hlt:=run_lt hMa (w:=w.take i) hr0 fun d hd=>hw d (List.mem_of_mem_take hd)
   obtain ⟨ws,x,e1,e2,e3,e4⟩:=hMa.at hlt hcL
   obtain ⟨rr,hrr⟩:∃rr,rows[run L R r (w.take i)]?=some rr:=⟨rows[run L R r (w.take i)]'(by rw [h3];exact hlt),List.getElem?_eq_getElem _⟩
   have e6:=h4 _ rr ws hrr e1
   refine ⟨_,rfl,_,rfl,y,_,_,_,rfl,rfl,SqL.of h2,c_r V.ref hrr,_,rfl,rfl,_,rfl,_,_,rfl,rfl,by rw [d_A];exact decide_eq_true hcL,?_⟩
   rw [find_one hcL]
   refine ⟨rr,_,_,_,rfl,rfl,SqL.of e6,c_r _ e2,?_⟩
   refine ⟨some (.str ⟨#[c]⟩),?_,rfl⟩
   show [some (V.ref p),some (V.int (r:Int)),some (V.str (tx w)),some (V.str (tx L)),some (V.ref y),some (V.int ((x:Nat):Int)),some _]=_
   rw [List.take_add_one,hc]
   show _=[some (V.ref p),some (V.int (r:Int)),some (V.str (tx w)),some (V.str (tx L)),some (V.ref y),some (V.int ((run L R r (w.take i++[c]):Nat):Int)),some (V.str ⟨#[c]⟩)]
   rw [d_H,e3]
  ·rintro σ H1 ⟨s0,rfl,rfl⟩
   rw [a_R,List.take_length]
   exact ⟨_,rfl,q⟩
theorem c_Y:a_l ["machine","rooms","rows"] ["machine","rooms"] (a_c b_l):=⟨rfl,rfl,rfl,by decide +kernel,rfl,by decide +kernel,by decide +kernel⟩
theorem d_b (F:Fun K "lots_after" "lots_after" b_l f fd) (T:Txt K mg cA_ cC_ cE_ cJ_):FnOk P w K mg base CX0 1 f fd ["machine","rooms"] sp_lotsafter:=by
 refine F.ok c_Y (fun vs H Q E h=>?_) (fun cdv A outer s H vs Q E hr h=>?_)
 ·obtain ⟨m,v,o,L,W,B,k,rfl,_⟩:=h
  rfl
 ·obtain ⟨m,v,o,L,W,B,k,rfl,hM,hMa,ho,hv,hk60,hkW,q⟩:=h
  refine ⟨_,(a_b ((a_j (i:=2) c_Y.nd rfl (Or.inr rfl) (b_A ["machine","rooms","rows"] rfl (by decide) (e_q (pv 1)) (fun cl C fp s' H'=>⟨b_x,a_B (c_m K) (a_B (c_m K) (pv 1) pe_int (fun _ _=>rfl)) (pv 0) (fun _ _=>rfl)⟩)))) (a_e (a_q (d_I ["machine","rooms","rows"] rfl (by decide) (a_L rfl T.range (a_a (a_p b_t (by rfl) T.len PySem.boot_len (a_a (a_B b_d (pv 0) (pe_int) (fun _ _=>rfl)) a_d)) a_d)) (fun cl C fp s' H'=>⟨b_x,b_A ["place","machine","rooms","rows"] rfl (show List.Nodup (["row","place","machine","rooms","rows"]:List Str) by decide) (e_q (pv 3)) (fun cl C fp s' H'=>⟨b_x,a_B (c_m K) (pv 0) (pv 1) (fun _ _=>rfl)⟩)⟩))))),?_⟩
  obtain ⟨wy,mk,rows,h1,h2,h3,h4,h5⟩:=id hM
  have hz:(tx L).length≤sizeLine:=a_i (by rw [a_R];exact Nat.le_trans hMa.lt.hi (by decide))
  have hk1:(intsV k).length≤sizeLine:=by rw [intsV_len];exact a_i (Nat.le_trans hk60 (by decide))
  have rowAt:∀{j:Nat} {x:V},(intsV k)[j]?=some x->j<k.length/\x=.int ((k.getD j 0:Nat):Int)/\k.getD j 0<W.length:=fun {j x} e=>by
   have hj:j<k.length:=by have:=(List.getElem?_eq_some_iff.mp e).1;rwa [intsV_len] at this
   rw [a_U hj] at e
   cases e
   exact ⟨hj,rfl,hkW _ (c_z hj)⟩
  dsimp only [c_n]
  dsimp only [tNext,tSeq,tAsg,c_t,c_H,tBM,tCB]
  refine c_q (a:=v) (fun R h=>⟨_,rfl,h⟩) ho hv (fun D j ys H'=>∃rs:List Addr,ys=rs.map V.ref/\rs.length=j/\∀(i:Nat) (a:Addr),rs[i]?=some a->H' a=some (.tup (intsV (W.getD (k.getD i 0) [])))) hk1 (fun D hD=>⟨[],rfl,rfl,fun i a e=>by simp at e⟩) ?_ ?_
  ·intro D j x ys H' R1 R2 hD hx hsm hDl hp k1 k2
   obtain ⟨rs,rfl,hrl,hrs⟩:=hp
   obtain ⟨hj,rfl,hjW⟩:=rowAt hx
   obtain ⟨ra,hra,hraH⟩:=b_e.row h4 (h5.same hsm) hjW
   refine a_A ⟨_,rfl,m,_,_,_,rfl,rfl,SqT.of (hsm _ _ h1),a_u (j:=1) rfl,_,rfl,wy,_,_,_,rfl,rfl,SqT.of (hsm _ _ h2),c_r V.ref hra,k1 _ H' hDl (Same.set hsm hD) ⟨rs++[ra],by rw [List.map_append];rfl,by rw [List.length_append,hrl];rfl,fun i u e=>?_⟩⟩
   rcases get_split e with z | ⟨rfl,rfl⟩
   ·exact upd_keep2 (hrs i u z) hDl (by intro z;cases z)
   ·rw [hrl]
    exact upd_keep2 hraH hDl (by intro z;cases z)
  intro Dw ys H2 hDw hsm2 hDwl hpv
  obtain ⟨rs,rfl,hrl,hrs⟩:=hpv
  rw [intsV_len] at hrl
  dsimp only [tRet,c_n,tNext,tSeq,tAsg,c_t,c_H,tBM,tCB]
  refine c_f (n:=L.length) (fun R h=>⟨_,rfl,m,_,_,_,rfl,rfl,SqT.of (hsm2 _ _ h1),a_u (j:=0) rfl,_,rfl,hz,by rw [a_R];exact h⟩) (Nat.le_trans hMa.lt.hi (by decide)) (fun D j ys H'=>∃ls:List Addr,ys=ls.map V.ref/\ls.length=j/\∀(q:Nat) (a:Addr),ls[q]?=some a->a≠D/\H' a=some (.lst (intsV (gA W k q)))) (fun D hD=>⟨[],rfl,rfl,fun i a e=>by simp at e⟩) ?_ ?_
  ·intro D q0 ys H' R1 R2 hD hq hsm hDl hp k1 k2
   obtain ⟨ls,rfl,hll,hls⟩:=hp
   have s2:=hsm2.trans hsm
   refine a_A ?_
   refine c_q (a:=Dw) (fun R h=>⟨_,rfl,h⟩) (.inl rfl) (hsm _ _ hDwl) (fun D2 j zs2 H4=>zs2=(intsV (gA W k q0)).take j) (by rw [List.length_map,hrl];exact a_i (Nat.le_trans hk60 (by decide))) (fun D2 hD2=>by simp) ?_ ?_
   ·intro D2 j y zs2 H4 R3 R4 hD2 hy hsm4 hD2l hp2 k3 k4
    rw [List.getElem?_map] at hy
    obtain ⟨ra,hra,rfl⟩:=Option.map_eq_some_iff.mp hy
    have hj:j<k.length:=by rw [<- hrl];exact (List.getElem?_eq_some_iff.mp hra).1
    have hjW:=hkW _ (c_z (ws:=k) hj)
    have l1:=(row_of hMa hjW).1
    refine a_A ⟨_,rfl,_,rfl,ra,_,_,_,rfl,rfl,SqT.of (hsm4 _ _ (hsm _ _ (hrs j ra hra))),by rw [Int.zero_add];exact b_N (by rw [l1];exact hq),k3 _ H4 hD2l (Same.set hsm4 hD2) ?_⟩
    rw [hp2]
    refine (b_Z ?_).symm
    rw [a_U (by rw [gA,List.length_map];exact hj),gA,map_getD hj]
   ·intro D2 zs2 H4 hD2 hsm4 hD2l hp2
    rw [List.length_map,hrl,List.take_of_length_le (by rw [intsV_len,gA,List.length_map];exact Nat.le_refl _)] at hp2
    subst hp2
    have hD5:=hsm4 _ _ hDl
    refine k1 (.ref D2) H4 hD5 (Same.set (hsm.trans hsm4) hD) ⟨ls++[D2],by rw [List.map_append];rfl,by rw [List.length_append,hll];rfl,fun i u e=>?_⟩
    rcases get_split e with z | ⟨rfl,rfl⟩
    ·obtain ⟨z1,z2⟩:=hls i u z
     exact ⟨z1,by rw [upd_ne z1];exact hsm4 _ _ z2⟩
    ·have hne:u≠D:=fun zz=>by rw [zz,hDl] at hD2;cases hD2
     exact ⟨hne,by rw [hll,upd_ne hne];exact hD2l⟩
  ·intro D ys H' hD hsm hDl hp
   obtain ⟨ls,rfl,hll,hls⟩:=hp
   exact q D ls H' (hsm2.trans hsm) hDl hll fun q a e=>(hls q a e).2
theorem c_I:a_l ["machine","walk"] ["machine"] (a_c a_Y):=⟨rfl,rfl,rfl,by decide +kernel,rfl,by decide +kernel,by decide +kernel⟩
theorem e_r (F:Fun K "walked_acts" "walked_acts" a_Y f fd) (T:Txt K mg cA_ cC_ cE_ cJ_) (WA:WkA K cW) (TG:TgK K mg cJ_ cA_ fX fdX) (d_walked_rooms:Df P w K mg base "walked_rooms" 6 ["machine","rooms","most"] (d_O cW P0 sites)):FnOk P w K mg base (CXE P w) 7 f fd ["machine"] (d_P cW cJ_ P0 sites):=by
 refine F.okX c_I (fun vs H Q E h=>?_) (fun cdv A outer s H vs Q E hr h=>?_)
 ·obtain ⟨m,L,W,B,rfl,_⟩:=h
  rfl
 ·obtain ⟨m,L,W,B,rfl,hM,hMa,hW8,hT,qE,q⟩:=h
  obtain ⟨tm,hmost⟩:=T.most
  refine ⟨_,(a_b ((a_j (i:=1) c_I.nd rfl (Or.inl rfl) ((a_H d_walked_rooms hr (a_a (pv 0) (a_a (pe_listrange rfl rfl T.list rfl T.range (a_a (a_p a_n (by rfl) T.len PySem.boot_len (a_a (a_B b_d (pv 0) pe_int (fun _ _=>rfl)) a_d)) a_d)) (a_a ((pe_glob (v:=.int 40) (by rfl) hmost ⟨_,rfl⟩)) a_d))))))) (a_b ((c_j (a_y op_gt (a_p a_n (by rfl) T.len PySem.boot_len (a_a ((b_z (f:="words") (pv 1) rfl)) a_d)) (pe_glob (v:=.int 40) (by rfl) hmost ⟨_,rfl⟩) (a_E _)) ((a_e ((ps_raiseI rfl rfl throwsD_def TG.own TG.fn (ok_xinit TG T.list) (hr.mono (j:=2) (by decide)) (TG.ini.binds (ps:=["self","words"]) (fun _ _ _ _ _ _ us hl=>by obtain ⟨_,_,rfl⟩:=len2 hl;rfl)) pass0 TG.kT (a_a (c_F sl_list (b_z (f:="words") (pv 1) rfl) d_q (d_p (a_w op_a (pe_glob (v:=.int 40) (by rfl) hmost ⟨_,rfl⟩) pe_int))) a_d))))) (a_K))) (a_e (a_q (pv 1))))),?_⟩
  obtain ⟨wy,mk,rows,h1,h2,h3,h4,h5⟩:=id hM
  have hl:(rows.map V.ref).length=W.length:=by rw [List.length_map,h4]
  refine ⟨_,rfl,_,rfl,m,_,_,_,rfl,rfl,SqT.of h1,a_u (j:=1) rfl,wy,_,rfl,.inr (SqT.of h2),?_⟩
  rw [hl]
  refine ⟨W.length,rfl,Nat.le_trans hW8 (by decide),fun rl hrl=>?_⟩
  have s1:=Same.upd (o:=.lst (intsV (List.range W.length))) hrl
  refine ⟨m,rl,L,W,B,List.range W.length,some 40,rfl,hM.same s1,hMa,upd_same,by rw [List.length_range];exact hMa.n1,by rw [List.length_range];exact hMa.n60,fun x hx=>List.mem_range.mp hx,by rw [List.length_range];exact a_i (pow_8 hW8),c_h hT s1,fun wk t wd y md ks vks ws rows2 R Bm H2 s2 hT2 hWk ht hth hwd hy hwr hmd bf ways bl sub he=>?_⟩
  have s02:c_g P0 H H2:=fun b o hb e=>s2 b o hb (s1 b o e)
  obtain ⟨dx,ew⟩:=hWk.ex
  refine ⟨_,rfl,wk,cW,dx,_,_,rfl,ew,WA.cls,WA.na3,rfl,wd,_,rfl,.inl (SqL.of hwd),_,_,rfl,rfl,_,rfl,ite3 (fun hgt=>?_) (fun hgt=>?_)⟩
  ·rw [wordsV,List.length_map,<- bf.len] at hgt
   have hk:40<ks.length:=Int.ofNat_lt.mp (show ((40:Nat):Int)<_ from hgt)
   refine ⟨_,rfl,wk,cW,dx,_,_,rfl,ew,WA.cls,WA.na3,rfl,_,_,rfl,rfl,_,rfl,wd,_,rfl,SqL.of hwd,fun p hp=>⟨a_i (by show 1≤16777216;decide),fun e he=>⟨e,p,_,rfl,upd_same,a_f upd_same he,fun H3 d l k3 hd d0 l0 hd3 hl3=>⟨rfl,some d,hd,?_⟩⟩⟩⟩
   have e2:H2 e=none:=by
    by_cases z:e=p
    ·rw [z];exact hp
    ·rw [upd_ne z] at he;exact he
   have off:∀{a:Addr},L2.upd (L2.upd H2 p (.lst (cutV (wordsV ws) none (some (40+1))))) e (excD e cJ_ none) a=none->a≠e/\H2 a=none:=fun {a} z=>by
    by_cases y1:a=e
    ·rw [y1,upd_same] at z;cases z
    ·rw [upd_ne y1] at z
     by_cases y2:a=p
     ·rw [y2,upd_same] at z;cases z
     ·rw [upd_ne y2] at z;exact ⟨y1,z⟩
   have s3:Same H2 (del H3 e):=fun b o z=>by
    have n1:b≠e:=ne_of_none z e2
    rw [e_j n1]
    exact k3 b o n1 (a_f (a_f z hp) he)
   obtain ⟨de,d2⟩:=off d0
   obtain ⟨le,l2⟩:=off l0
   refine qE d _ ⟨ks,ws,R.length,bf,hk⟩ (fun b o hb z=>s3 b o (s02 b o hb z)) (c_h hT2 s3) ⟨l,ws.take 41,told41 bf hk,none_X s02 hT2 d2,none_X s02 hT2 l2,by rw [e_j de];exact hd3,?_⟩
   rw [e_j le,hl3]
   show some (HO.lst (cutV (wordsV ws) none (some ((41:Nat):Int))))=_
   rw [cutV_take (by rw [wordsV,List.length_map,<- bf.len];exact hk),wordsV,wordsV,List.map_take]
  ·rw [wordsV,List.length_map,<- bf.len] at hgt
   have hk:ks.length≤40:=by
    refine Nat.le_of_not_lt fun z=>hgt ?_
    exact Int.ofNat_lt.mpr z
   have hR:R.length=ks.length:=by
    rcases he with z | ⟨n,z,hn⟩
    ·exact z
    ·cases z
     exact absurd hn (Nat.not_lt.mpr hk)
   rw [hR] at bf
   exact ⟨_,rfl,q wk t wd y md ks vks ws rows2 R Bm H2 s02 hT2 ⟨dx,ew⟩ ht hth hwd hy hwr hmd ⟨bf,hk⟩ ways hR bl⟩
theorem e_R:a_l ["machine","walk","plan"] ["machine"] (a_c d_n):=⟨rfl,rfl,rfl,by decide +kernel,rfl,by decide +kernel,by decide +kernel⟩
theorem ok_table (F:Fun K "table" "table" d_n f fd) (T:Txt K mg cA_ cC_ cE_ cJ_) (WA:WkA K cW) (d_walked_acts:DfX P w K mg base "walked_acts" 7 ["machine"] (d_P cW cJ_ P0 sites)) (d_room_after:Df P w K mg base "room_after" 4 ["machine","room","word"] sp_roomafterP):FnOk P w K mg base (CXE P w) 8 f fd ["machine"] (c_V cJ_ P0 sites):=by
 refine F.okX e_R (fun vs H Q E h=>?_) (fun cdv A outer s H vs Q E hr h=>?_)
 ·obtain ⟨m,L,W,B,rfl,_⟩:=h
  rfl
 ·obtain ⟨m,L,W,B,rfl,hM,hMa,hW8,hT,qE,q⟩:=h
  have hr4:=hr.mono (j:=4) (by decide)
  refine ⟨_,(a_b ((a_j (i:=1) e_R.nd rfl (Or.inr rfl) ((pe_dfX d_walked_acts hr (d_s fun _ _ _ z=>z) (a_a (pv 0) a_d))))) (a_b ((a_j (i:=2) e_R.nd rfl (Or.inr rfl) (d_y (a_a (b_z (f:="letters") (pv 1) rfl) (a_a (b_z (f:="ways") (pv 1) rfl) (a_a (b_z (f:="marks") (pv 1) rfl) a_d)))))) (a_e (a_q (d_I ["machine","walk","plan"] rfl (by decide) (a_L rfl T.range (a_a (a_p a_n (by rfl) T.len PySem.boot_len (a_a ((b_z (f:="words") (pv 1) rfl)) a_d)) a_d)) (fun cl C fp s' H'=>⟨b_x,a_C (call_tupleG K) (by rfl) T.tuple PyProof.Rows.boot_tuple (a_a (b_A ["place","machine","walk","plan"] rfl (show List.Nodup (["word","place","machine","walk","plan"]:List Str) by decide) (e_q (pe_fldK (f:="words") K (pv 2) rfl)) (fun cl C fp s' H'=>⟨b_x,(a_H d_room_after hr4 (a_a (pv 4) (a_a (pv 1) (a_a (pv 0) a_d))))⟩)) a_d)⟩)))))),?_⟩
  refine ⟨_,rfl,m,L,W,B,rfl,hM,hMa,hW8,hT,qE,fun wk t wd y md ks vks ws rows R Bm H1 s1 hT1 hWk ht hth hwd hy hwr hmd fw ways hR bl=>?_⟩
  obtain ⟨hbf,hk40⟩:=id fw
  obtain ⟨dx,ew⟩:=hWk.ex
  refine ⟨_,rfl,wk,cW,dx,_,_,rfl,ew,WA.cls,WA.na1,rfl,_,rfl,wk,cW,dx,_,_,rfl,ew,WA.cls,WA.na4,rfl,_,rfl,wk,cW,dx,_,_,rfl,ew,WA.cls,WA.na5,rfl,a_i (by show 3≤16777216;decide),fun pl hpl=>?_⟩
  have s2:=Same.upd (o:=.tup [.str (tx L),.ref y,.ref md]) hpl
  have hP:e_M (L2.upd H1 pl (.tup [.str (tx L),.ref y,.ref md])) pl L R:=⟨y,md,rows,upd_same,s2 _ _ hy,hwr.1,fun i a r e1 e2=>s2 _ _ (hwr.2 i a r e1 e2)⟩
  have hwd2:=s2 _ _ hwd
  have ew2:=s2 _ _ ew
  have hT2:=c_h hT1 s2
  have s02:c_g P0 H (L2.upd H1 pl (.tup [.str (tx L),.ref y,.ref md])):=fun b o hb e=>s2 b o (s1 b o hb e)
  generalize L2.upd H1 pl (.tup [.str (tx L),.ref y,.ref md])=H2 at s2 hP hwd2 ew2 hT2 s02
  have hk1:0<ks.length:=(List.getElem?_eq_some_iff.mp hbf.t0).1
  have hRM:Mach L R (List.replicate R.length false):=plan_mach hMa hbf ways hR hk40
  have hwl:(wordsV ws).length=ks.length:=by rw [wordsV,List.length_map];exact hbf.len.symm
  dsimp only [tRet,c_n,tNext,tSeq,tAsg,c_t,c_H,tBM,tCB]
  refine c_f (n:=ks.length) (fun R h=>⟨_,rfl,wk,cW,dx,_,_,rfl,ew2,WA.cls,WA.na3,rfl,wd,_,rfl,.inl (SqL.of hwd2),by rw [hwl];exact h⟩) (Nat.le_trans hk40 (by decide)) (fun D j ys H'=>∃ts:List Addr,ys=ts.map V.ref/\ts.length=j/\∀(i:Nat) (a:Addr),ts[i]?=some a->TupG H' a (intsV (a_S ks i))) (fun D hD=>⟨[],rfl,rfl,fun i a e=>by simp at e⟩) ?_ ?_
  ·intro D j ys H' R1 R2 hD hj hsm hDl hp k1 k2
   obtain ⟨ts,rfl,htl,hts⟩:=hp
   refine a_A ?_
   dsimp only [tNext,tSeq,tAsg,c_t,c_H,tBM,tCB]
   refine c_q (a:=wd) (fun R h=>⟨_,rfl,wk,cW,dx,_,_,rfl,hsm _ _ ew2,WA.cls,WA.na3,rfl,h⟩) (.inl rfl) (hsm _ _ hwd2) (fun D2 i zs2 H4=>zs2=(intsV (a_S ks j)).take i) (by rw [hwl];exact a_i (Nat.le_trans hk40 (by decide))) (fun D2 hD2=>by simp) ?_ ?_
   ·intro D2 i x zs2 H4 R3 R4 hD2 hx hsm4 hD2l hp2 k3 k4
    rw [wordsV,List.getElem?_map] at hx
    obtain ⟨w1,hw1,rfl⟩:=Option.map_eq_some_iff.mp hx
    have hi:i<ks.length:=by rw [hbf.len];exact (List.getElem?_eq_some_iff.mp hw1).1
    obtain ⟨l1,_⟩:=hbf.lead i _ w1 (List.getElem?_eq_getElem hi) hw1
    refine a_A ⟨_,rfl,_,rfl,_,rfl,pl,L,R,_,j,w1,by rw [Int.zero_add];rfl,hP.same (hsm.trans hsm4),hRM,by rw [hR];exact hj,l1,k3 _ H4 hD2l (Same.set hsm4 hD2) ?_⟩
    rw [hp2]
    refine (b_Z ?_).symm
    rw [a_U (by rw [a_S,List.length_map];exact hi),tab_at hMa hbf ways hR hj hw1]
   ·intro D2 zs2 H4 hD2 hsm4 hD2l hp2
    rw [hwl,List.take_of_length_le (by rw [intsV_len,a_S,List.length_map];exact Nat.le_refl _)] at hp2
    subst hp2
    refine ⟨D2,_,rfl,SqL.of hD2l,fun b ob hb hob hos=>?_⟩
    have s5:=hsm4.trans (Same.upd (o:=.frz ob (.tup (intsV (a_S ks j)))) hb)
    have hD5:=s5 _ _ hDl
    refine k1 (.ref b) _ hD5 (Same.set (hsm.trans s5) hD) ⟨ts++[b],by rw [List.map_append];rfl,by rw [List.length_append,htl];rfl,fun i u e=>?_⟩
    rcases get_split e with z | ⟨rfl,rfl⟩
    ·obtain ⟨o',d',d2',e'⟩:=hts i u z
     exact ⟨o',d',d2',upd_keep2 (s5 _ _ e') hD5 (by intro z;cases z)⟩
    ·rw [htl]
     exact ⟨ob,hob,hos,upd_keep2 upd_same hD5 (by intro z;cases z)⟩
  ·intro D ys H' hD hsm hDl hp
   obtain ⟨ts,rfl,htl,hts⟩:=hp
   exact q D ts ks ws H' (fun b o hb e=>hsm b o (s02 b o hb e)) (c_h hT2 hsm) ⟨hDl,htl,hts⟩ fw
theorem c_M:a_l ["values","numbers","value"] ["values"] (a_c b_O):=⟨rfl,rfl,rfl,by decide +kernel,rfl,by decide +kernel,by decide +kernel⟩
theorem ok_numbered (F:Fun K "numbered" "numbered" b_O f fd) (T:Txt K mg cA_ cC_ cE_ cJ_):FnOk P w K mg base CX0 1 f fd ["values"] sp_numT:=by
 refine F.ok c_M (fun vs H Q E h=>?_) (fun cdv A outer s H vs Q E hr h=>?_)
 ·obtain ⟨a,ts,ks,rfl,_⟩:=h
  rfl
 ·obtain ⟨a,ts,ks,rfl,hH,hl,h1000,hk,q⟩:=h
  refine ⟨_,(a_b ((a_j (i:=1) c_M.nd rfl (Or.inr rfl) (e_Y))) (a_b ((b_C PassesOwn.never rfl (c_O (pv 0)) (a_r (i:=2) c_M.nd rfl (Or.inl rfl)) ((a_e ((c_j (a_y (op_notinW hr.units) (pv 2) (pv 1) (by with_unfolding_all rfl)) ((a_e (ps_asg (a_p call_lenW (by rfl) T.len PySem.boot_len (a_a (pv 1) a_d)) (pg_sub (pv 1) (pv 2) (set_dictW hr.units))))) (a_K))))))) (a_e (a_q (b_A ["values","numbers","?"] rfl (by decide) (e_q (pv 0)) (fun cl C fp s' H'=>⟨b_x,a_B (ix_dictWK P w hr.units) (pv 2) (pv 0) (fun _ _=>rfl)⟩)))))),?_⟩
  have hz:(ts.map V.ref).length≤sizeLine:=a_i (by rw [List.length_map,hl];exact Nat.le_trans h1000 (by decide))
  have thv:∀{H':Hp} {x:List Nat} {t:Addr},H' t=some (.tup (intsV x))->ThV false H' x (.ref t):=fun {H' x t} e=>by
   unfold ThV
   rw [if_neg (by decide)]
   exact ⟨t,rfl,e⟩
  have keyOf:∀{i:Nat} {t:Addr},ts[i]?=some t->∃k,ks[i]?=some k/\H t=some (.tup (intsV k)):=fun {i t} hx=>by
   have hi:i<ks.length:=by rw [<- hl];exact (List.getElem?_eq_some_iff.mp hx).1
   exact ⟨ks[i],List.getElem?_eq_getElem hi,hk i t _ hx (List.getElem?_eq_getElem hi)⟩
  refine ⟨false,fun d hd=>?_⟩
  refine ⟨_,rfl,a,rfl,⟨_,SqL.of (a_f hH hd)⟩,c_p (K:=K) (a:=a) (xs:=ts.map V.ref) (fun i σ' H'=>∃v0 ob,σ'=[some (.ref a),some (.ref d),v0]/\H'=L2.upd H d ob/\RmAt P w H' d false (dis (ks.take i))) ⟨none,_,rfl,rfl,rm_new⟩ ?_ ?_ ?_⟩
  ·rintro i σ' H' hi ⟨v0,ob,rfl,rfl,_⟩
   exact SqL.of (a_f hH hd)
  ·rintro i x σ' H' hx ⟨v0,ob,rfl,rfl,hn⟩
   rw [List.getElem?_map] at hx
   obtain ⟨t,ht,rfl⟩:=Option.map_eq_some_iff.mp hx
   obtain ⟨k,hki,hkt⟩:=keyOf ht
   have hkv:ThV false (L2.upd H d ob) k (.ref t):=thv (a_f hkt hd)
   refine ⟨_,rfl,_,rfl,d,_,rfl,hn.get hkv,_,rfl,?_⟩
   rw [b_Z hki,dis_snoc]
   by_cases hm:k∈dis (ks.take i)
   ·rw [(ix_get hm).1,if_pos hm]
    exact iteF ⟨_,_,rfl,rfl,hn⟩
   ·have hno:ixO (dis (ks.take i)) k=none:=by unfold ixO;rw [if_neg hm]
    rw [hno,if_neg hm]
    have hdl:(dis (ks.take i)).length<sizeLine:=by
     have h1:=dis_len (ks.take i)
     have h2:(ks.take i).length≤1000:=by rw [List.length_take];exact Nat.le_trans (Nat.min_le_right _ _) h1000
     exact a_T (Nat.le_trans h1 h2)
    obtain ⟨ob2,hput,hn2⟩:=hn.put hkv hm hdl
    obtain ⟨kvs,e1,e3⟩:=rm_kvs hn
    refine iteT ⟨_,rfl,d,kvs,rfl,e1,_,rfl,_,rfl,d,_,rfl,by rw [e3];exact hput,?_⟩
    exact ⟨some (.ref t),ob2,rfl,d_i,hn2⟩
  ·rintro σ' H' ⟨v0,ob,rfl,rfl,hn⟩
   rw [List.length_map,hl,List.take_length] at hn
   have hH1:L2.upd H d ob a=some (.lst (ts.map V.ref)):=a_f hH hd
   have sm1:Same H (L2.upd H d ob):=Same.upd hd
   dsimp only [tRet,c_n,tNext,tSeq,tAsg,c_t,c_H,tBM,tCB]
   refine c_q (a:=a) (fun R h=>⟨_,rfl,h⟩) (.inl rfl) hH1 (fun D j ys H'=>ys=(intsV (numF ks)).take j) hz (fun D hD=>by simp) ?_ ?_
   ·intro D j x ys H' R1 R2 hD hx hsm hDl hp k1 k2
    rw [List.getElem?_map] at hx
    obtain ⟨t,ht,rfl⟩:=Option.map_eq_some_iff.mp hx
    obtain ⟨k,hki,hkt⟩:=keyOf ht
    have hm:k∈dis ks:=mem_dis.mpr (List.mem_of_getElem? hki)
    have hg:=(hn.same (H':=H') fun b o e _=>hsm _ _ e).get (thv ((sm1.trans hsm) _ _ hkt))
    rw [(ix_get hm).1] at hg
    refine a_A ⟨_,rfl,_,rfl,d,_,rfl,hg,k1 _ H' hDl (Same.set hsm hD) ?_⟩
    rw [hp]
    refine (b_Z ?_).symm
    rw [intsV,numF,List.map_map,List.getElem?_map,hki]
    show some (V.int ((@List.idxOf _ instBEqOfDecidableEq k (dis ks):Nat):Int))=_
    rw [idx_beq]
   ·intro D ys H' hD hsm hDl hp
    refine q D H' (sm1.trans hsm) ?_
    rw [hDl,hp,List.length_map,hl,List.take_of_length_le (by rw [intsV_len,b_K];exact Nat.le_refl _)]
theorem sc_each_once:a_l ["lists"] ["lists"] (a_c b_G):=⟨rfl,rfl,rfl,by decide +kernel,rfl,by decide +kernel,by decide +kernel⟩
theorem ok_each_once (F:Fun K "each_once" "each_once" b_G f fd) (T:Txt K mg cA_ cC_ cE_ cJ_):FnOk P w K mg base CX0 1 f fd ["lists"] (d_Q K):=by
 refine F.ok sc_each_once (fun vs H Q E h=>?_) (fun cdv A outer s H vs Q E hr h=>?_)
 ·obtain ⟨p,as,xss,rfl,_⟩:=h
  rfl
 ·obtain ⟨p,as,xss,rfl,hp,hl,h40,hq,q⟩:=h
  refine ⟨_,(a_e (a_q (b_A ["lists"] rfl (by decide) (e_q (pv 0)) (fun cl C fp s' H'=>⟨b_x,a_C (e_m K) (by rfl) T.tuple PyProof.Rows.boot_tuple (a_a (a_p (call_sortGK w rfl) (by rfl) T.sorted PyProof.Rows.boot_sorted (a_a (a_C (call_setQK K w rfl) (by rfl) T.set PyProof.Rows.boot_set (a_a (pv 0) a_d)) a_d)) a_d)⟩)))),?_⟩
  dsimp only [tRet,c_n,tNext,tSeq,tAsg,c_t,c_H,tBM,tCB]
  refine c_q (a:=p) (fun R h=>⟨_,rfl,h⟩) (.inl rfl) hp (fun D j ys H'=>∃ts:List Addr,ys=ts.map V.ref/\ts.length=j/\∀(i:Nat) (t:Addr) (k:List Nat),ts[i]?=some t->(xss.map upL)[i]?=some k->H' t=some (.tup (intsV k))) (a_i (by rw [List.length_map,hl];omega)) (fun D hD=>⟨[],rfl,rfl,fun i t k e=>by simp at e⟩) ?_ ?_
  ·intro D j x ys H' R1 R2 hD hx hsm hDl hpv k1 k2
   obtain ⟨ts,rfl,htl,hts⟩:=hpv
   rw [List.getElem?_map] at hx
   obtain ⟨a,ha,rfl⟩:=Option.map_eq_some_iff.mp hx
   have hj:j<xss.length:=by rw [<- hl];exact (List.getElem?_eq_some_iff.mp ha).1
   obtain ⟨hs,h4⟩:=hq j a _ ha (List.getElem?_eq_getElem hj)
   refine a_A ⟨_,rfl,a,xss[j],rfl,hs H' hsm,h4,fun st hst=>⟨st,xss[j],rfl,upd_same,fun so hso=>⟨so,_,rfl,.inl ⟨SqL.of upd_same,fun b hb=>?_⟩⟩⟩⟩
   have s5:Same H' _:=((Same.upd hst).trans (Same.upd hso)).trans (Same.upd (o:=.tup (intsV (upL xss[j]))) hb)
   have hD5:=s5 _ _ hDl
   refine k1 (.ref b) _ hD5 (Same.set (hsm.trans s5) hD) ⟨ts++[b],by rw [List.map_append];rfl,by rw [List.length_append,htl];rfl,fun i t k e ek=>?_⟩
   rcases get_split e with z | ⟨rfl,rfl⟩
   ·exact upd_keep2 (s5 _ _ (hts i t k z ek)) hD5 (by intro z;cases z)
   ·rw [htl,List.getElem?_map,List.getElem?_eq_getElem hj] at ek
    cases ek
    exact upd_keep2 upd_same hD5 (by intro z;cases z)
  ·intro D ys H' hD hsm hDl hpv
   obtain ⟨ts,rfl,htl,hts⟩:=hpv
   exact q D ts H' hD hsm ⟨hDl,by rw [htl,List.length_map,List.length_map,hl],hts⟩
theorem e_p:a_l ["rows"] ["rows"] (a_c a_Z):=⟨rfl,rfl,rfl,by decide +kernel,rfl,by decide +kernel,by decide +kernel⟩
theorem e_s (F:Fun K "right_below" "right_below" a_Z f fd) (T:Txt K mg cA_ cC_ cE_ cJ_) (d_each_once:Df P w K mg base "each_once" 1 ["lists"] (d_Q K)):FnOk P w K mg base CX0 2 f fd ["rows"] sp_right:=by
 refine F.ok e_p (fun vs H Q E h=>?_) (fun cdv A outer s H vs Q E hr h=>?_)
 ·obtain ⟨l,ts,ks,rfl,_⟩:=h
  rfl
 ·obtain ⟨l,ts,ks,rfl,hT,hc,q⟩:=h
  refine ⟨_,(a_e (a_q (a_H d_each_once hr (a_a (pv 0) a_d)))),?_⟩
  refine ⟨_,rfl,l,ts,_,rfl,hT.1,by rw [List.length_map,List.length_range];exact hT.2.1,by rw [List.length_map,List.length_range];exact hc.1,fun i a xs ha hx=>?_,q⟩
  rw [List.getElem?_map] at hx
  obtain ⟨j,hj,rfl⟩:=Option.map_eq_some_iff.mp hx
  have hji:j=i:=by
   have:=(List.getElem?_eq_some_iff.mp hj).2
   simpa using this.symm
  subst hji
  exact ⟨fun H2 s=>.inr ((hT.2.2 j a ha).same s).f.sq,fun x hx=>Nat.lt_of_lt_of_le (hc.2 j x (by rw [<- hT.2.1];exact (List.getElem?_eq_some_iff.mp ha).1) hx) hc.1⟩
theorem e_S:a_l ["rows"] ["rows"] (a_c b_m):=⟨rfl,rfl,rfl,by decide +kernel,rfl,by decide +kernel,by decide +kernel⟩
theorem f_c (F:Fun K "left_below" "left_below" b_m f fd) (T:Txt K mg cA_ cC_ cE_ cJ_) (d_each_once:Df P w K mg base "each_once" 1 ["lists"] (d_Q K)):FnOk P w K mg base CX0 2 f fd ["rows"] sp_left:=by
 refine F.ok e_S (fun vs H Q E h=>?_) (fun cdv A outer s H vs Q E hr h=>?_)
 ·obtain ⟨l,ts,ks,rfl,_⟩:=h
  rfl
 ·obtain ⟨l,ts,ks,rfl,hT,hc,q⟩:=h
  refine ⟨_,(a_e (a_q (a_H d_each_once hr (a_a (d_I ["rows"] rfl (by decide) (a_L rfl T.range (a_a (a_p a_n (by rfl) T.len PySem.boot_len (a_a (pv 0) a_d)) a_d)) (fun cl C fp s' H'=>⟨b_x,b_A ["place","rows"] rfl (show List.Nodup (["row","place","rows"]:List Str) by decide) (e_q (pv 1)) (fun cl C fp s' H'=>⟨b_x,a_B (c_m K) (pv 0) (pv 1) (fun _ _=>rfl)⟩)⟩)) a_d)))),?_⟩
  have hk40:=hc.1
  dsimp only [tRet,c_n,tNext,tSeq,tAsg,c_t,c_H,tBM,tCB]
  refine c_f (n:=ks.length) (fun R h=>⟨_,rfl,l,_,rfl,.inl (SqL.of hT.1),by rw [List.length_map,hT.2.1];exact h⟩) (Nat.le_trans hk40 (by decide)) (fun D j ys H'=>∃as:List Addr,ys=as.map V.ref/\as.length=j/\D∉as/\∀(i:Nat) (a:Addr),as[i]?=some a->H' a=some (.lst (intsV (colT ks i)))) (fun D hD=>⟨[],rfl,rfl,by simp,fun i a e=>by simp at e⟩) ?_ ?_
  ·intro D j ys H' R1 R2 hD hj hsm hDl hp k1 k2
   obtain ⟨as,rfl,hal,hDa,has⟩:=hp
   refine a_A ?_
   refine c_q (a:=l) (fun R h=>⟨_,rfl,h⟩) (.inl rfl) (hsm _ _ hT.1) (fun D2 i zs2 H4=>zs2=(intsV (colT ks j)).take i) (by rw [List.length_map,hT.2.1];exact a_i (Nat.le_trans hk40 (by decide))) (fun D2 hD2=>by simp) ?_ ?_
   ·intro D2 i x zs2 H4 R3 R4 hD2 hx hsm4 hD2l hp2 k3 k4
    rw [List.getElem?_map] at hx
    obtain ⟨t,ht,rfl⟩:=Option.map_eq_some_iff.mp hx
    have hi:i<ks.length:=by rw [<- hT.2.1];exact (List.getElem?_eq_some_iff.mp ht).1
    have tg:=((hT.2.2 i t ht).same (hsm.trans hsm4)).f
    refine a_A ⟨_,rfl,_,rfl,t,_,_,_,rfl,rfl,tg.sq,by rw [Int.zero_add];exact b_N (by rw [b_g];exact hj),k3 _ H4 hD2l (Same.set hsm4 hD2) ?_⟩
    rw [hp2]
    refine (b_Z ?_).symm
    rw [intsV,colT,List.map_map,List.getElem?_map,List.getElem?_range hi]
    rfl
   ·intro D2 zs2 H4 hD2 hsm4 hD2l hp2
    have hcl:(colT ks j).length=ks.length:=by rw [colT,List.length_map,List.length_range]
    rw [List.length_map,hT.2.1,List.take_of_length_le (by rw [intsV_len,hcl];exact Nat.le_refl _)] at hp2
    subst hp2
    have hD5:=hsm4 _ _ hDl
    have d2:D2≠D:=fun z=>by rw [z,hDl] at hD2;cases hD2
    refine k1 (.ref D2) _ hD5 (Same.set (hsm.trans hsm4) hD) ⟨as++[D2],by rw [List.map_append];rfl,by rw [List.length_append,hal];rfl,fun z=>?_,fun i a e=>?_⟩
    ·rcases List.mem_append.mp z with z | z
     ·exact hDa z
     ·exact d2 (List.mem_singleton.mp z).symm
    ·rcases get_split e with z | ⟨rfl,rfl⟩
     ·have na:a≠D:=fun y=>hDa (y▸List.mem_of_getElem? z)
      rw [upd_ne na]
      exact hsm4 _ _ (has i a z)
     ·rw [upd_ne d2,hal]
      exact hD2l
  ·intro D ys H' hD hsm hDl hp
   obtain ⟨as,rfl,hal,hDa,has⟩:=hp
   refine ⟨D,as,_,rfl,hDl,by rw [hal,List.length_map,List.length_range],by rw [List.length_map,List.length_range];exact hk40,fun i a xs ha hx=>?_,fun l2 ts2 H2 f2 s2 ho=>q l2 ts2 H2 (b_w hsm f2) (hsm.trans s2) ho⟩
   rw [List.getElem?_map] at hx
   obtain ⟨j,hj,rfl⟩:=Option.map_eq_some_iff.mp hx
   have hji:j=i:=by
    have:=(List.getElem?_eq_some_iff.mp hj).2
    simpa using this.symm
   subst hji
   refine ⟨fun H2 s=>.inl (SqL.of (s _ _ (has j a ha))),fun x hx=>?_⟩
   obtain ⟨p,hp,rfl⟩:=List.mem_map.mp hx
   have hjl:j<ks.length:=by have:=(List.getElem?_eq_some_iff.mp ha).1;omega
   exact Nat.lt_of_lt_of_le (hc.2 p _ (List.mem_range.mp hp) (d_u.mpr ⟨j,hjl,rfl⟩)) hk40
theorem c_Z:a_l ["rows","lists","places","found","place"] ["rows"] (a_c d_o):=⟨rfl,rfl,rfl,by decide +kernel,rfl,by decide +kernel,by decide +kernel⟩
theorem ok_below (F:Fun K "below" "below" d_o f fd) (T:Txt K mg cA_ cC_ cE_ cJ_) (d_left_below:Df P w K mg base "left_below" 2 ["rows"] sp_left) (d_each_once:Df P w K mg base "each_once" 1 ["lists"] (d_Q K)):FnOk P w K mg base CX0 3 f fd ["rows"] sp_below:=by
 refine F.ok c_Z (fun vs H Q E h=>?_) (fun cdv A outer s H vs Q E hr h=>?_)
 ·obtain ⟨l,ts,ks,rfl,_⟩:=h
  rfl
 ·obtain ⟨l,ts,ks,rfl,hT,hc,q⟩:=h
  have hr1:=hr.mono (j:=1) (by decide)
  have hk40:=hc.1
  refine ⟨_,(a_b ((a_j (i:=1) c_Z.nd rfl (Or.inl rfl) (b_y a_d))) (a_b ((b_C PassesOwn.never rfl (c_O (a_H d_left_below hr (a_a (pv 0) a_d))) (a_r (i:=2) c_Z.nd rfl (Or.inl rfl)) ((a_b ((a_j (i:=3) c_Z.nd rfl (Or.inl rfl) (b_y a_d))) (a_b ((b_C PassesOwn.never rfl (pi_tup (pv 2)) (a_r (i:=4) c_Z.nd rfl (Or.inl rfl)) ((a_e (a_Q (c_x PySem.F.plainAttrs_list PySem.F.slot_list_extend PySem.F.type_list_extend mt_extendT (pv 3) (a_a (a_B b_I (pv 0) (pv 4) (fun _ _=>rfl)) a_d))))))) (a_e (a_Q (c_x PySem.F.plainAttrs_list PySem.F.slot_list_append PySem.F.type_list_append a_x (pv 1) (a_a (pv 3) a_d))))))))) (a_e (a_q (a_H d_each_once hr1 (a_a (pv 1) a_d)))))),?_⟩
  refine ⟨Nat.zero_le _,fun lp hlp=>?_⟩
  have s1:Same H (L2.upd H lp (.lst [])):=Same.upd hlp
  refine ⟨_,rfl,l,ts,ks,rfl,hT.same s1,hc,fun l2 ts2 H2 f2 s2 ho=>⟨l2,rfl,⟨_,SqL.of ho.1⟩,?_⟩⟩
  have hlp2:H2 lp=some (.lst []):=s2 _ _ upd_same
  have hT2:TbG H2 l ts ks:=(hT.same s1).same s2
  have ln:((List.range ks.length).map fun i=>colT ks i).length=ks.length:=by rw [List.length_map,List.length_range]
  have hl2:ts2.length=ks.length:=by rw [ho.2.1,List.length_map,ln]
  have colAt:∀{i:Nat},i<ks.length->(((List.range ks.length).map fun i=>colT ks i).map upL)[i]?=some (upL (colT ks i)):=fun {i} hi=>by
   rw [List.getElem?_map,List.getElem?_map,List.getElem?_range hi]
   rfl
  have colLt:∀{i p:Nat},i<ks.length->p∈upL (colT ks i)->p<ks.length:=fun {i p} hi hp=>by
   have h0:∀x∈colT ks i,x<ks.length:=fun x hx=>by
    obtain ⟨p',hp',rfl⟩:=List.mem_map.mp hx
    exact hc.2 p' _ (List.mem_range.mp hp') (d_u.mpr ⟨i,hi,rfl⟩)
   exact h0 p ((e_E (fun x hx=>Nat.lt_of_lt_of_le (h0 x hx) hk40) p).mp hp)
  have botLen:∀ps:List Nat,(botT ks ps).length=ps.length * ks.length:=fun ps=>by
   unfold botT
   induction ps with
   | nil=>simp
   | cons p r ih=>rw [List.flatMap_cons,List.length_append,ih,b_g,List.length_cons,Nat.succ_mul,Nat.add_comm]
  have lne:l≠lp:=fun z=>by rw [<- z,hT.1] at hlp;cases hlp
  have n2:l2≠lp:=fun z=>by rw [z,upd_same] at f2;cases f2
  refine c_p (K:=K) (a:=l2) (xs:=ts2.map V.ref) (fun i σ' H'=>∃(as:List Addr) (s2 s3 s4:Option V),σ'=[some (.ref l),some (.ref lp),s2,s3,s4]/\H' lp=some (.lst (as.map V.ref))/\as.length=i/\lp∉as/\(∀b o,b≠lp->H2 b=some o->H' b=some o)/\∀(j:Nat) (a:Addr),as[j]?=some a->H' a=some (.lst (intsV (botT ks (upL (colT ks j)))))) ⟨[],_,_,_,rfl,hlp2,rfl,by simp,fun b o _ e=>e,fun j a e=>by simp at e⟩ ?_ ?_ ?_
  ·rintro i σ' H' hi ⟨as,_,_,_,rfl,hl',_,_,kp,_⟩
   exact SqL.of (kp _ _ n2 ho.1)
  ·rintro i x σ' H3 hx ⟨as,u2,u3,u4,rfl,hl3,hal,hna,kp,has⟩
   rw [List.getElem?_map] at hx
   obtain ⟨t,ht,rfl⟩:=Option.map_eq_some_iff.mp hx
   have hi:i<ks.length:=by rw [<- hl2];exact (List.getElem?_eq_some_iff.mp ht).1
   have ht2:=ho.2.2 i t _ ht (colAt hi)
   have tlp:t≠lp:=fun z=>by rw [z,hlp2] at ht2;cases ht2
   refine ⟨Nat.zero_le _,fun fl hfl=>?_⟩
   have s4:Same H3 (L2.upd H3 fl (.lst [])):=Same.upd hfl
   have hfl4:L2.upd H3 fl (.lst []) fl=some (.lst []):=upd_same
   generalize L2.upd H3 fl (.lst [])=H4 at s4 hfl4
   have flp:fl≠lp:=fun z=>by rw [z,hl3] at hfl;cases hfl
   have old4:∀b o,b≠lp->H2 b=some o->H4 b=some o:=fun b o hb e=>s4 _ _ (kp b o hb e)
   have nfl:∀b o,H3 b=some o->b≠fl:=fun b o e z=>by rw [z,hfl] at e;cases e
   refine ⟨_,rfl,t,rfl,⟨_,SqT.of (old4 _ _ tlp ht2)⟩,?_⟩
   have h40:=up_le (colT ks i)
   refine for_tup (K:=K) (a:=t) (xs:=intsV (upL (colT ks i))) (fun j σ2 H5=>∃s4':Option V,σ2=[some (.ref l),some (.ref lp),some (.ref t),some (.ref fl),s4']/\H5 fl=some (.lst (intsV (botT ks ((upL (colT ks i)).take j))))/\∀b o,b≠fl->H4 b=some o->H5 b=some o) ⟨_,rfl,hfl4,fun b o _ e=>e⟩ ?_ ?_ ?_
   ·rintro j σ2 H5 hj ⟨_,rfl,_,kp5⟩
    exact SqT.of (kp5 _ _ (nfl _ _ (kp _ _ tlp ht2)) (old4 _ _ tlp ht2))
   ·rintro j x σ2 H5 hx5 ⟨_,rfl,hf5,kp5⟩
    have hj:j<(upL (colT ks i)).length:=by have:=(List.getElem?_eq_some_iff.mp hx5).1;rwa [intsV_len] at this
    rw [intsV,List.getElem?_map,List.getElem?_eq_getElem hj] at hx5
    cases hx5
    have hp:=colLt hi (List.getElem_mem hj)
    obtain ⟨r,hr',tg⟩:=hT2.get hp
    have up5:∀b o,b≠lp->H2 b=some o->(∀xs,o≠.lst xs)\/b=l->H5 b=some o:=fun b o hb e _=>kp5 b o (nfl b o (kp b o hb e)) (old4 b o hb e)
    have hl5:H5 l=some (.lst (ts.map V.ref)):=up5 _ _ lne hT2.1 (.inr rfl)
    have tg5:TupG H5 r (intsV (a_S ks (upL (colT ks i))[j])):=by
     obtain ⟨o,d1,d2,e⟩:=tg
     exact ⟨o,d1,d2,up5 _ _ (fun z=>by rw [z,hlp2] at e;cases e) e (.inl fun xs z=>nomatch z)⟩
    have hb5:=botLen ((upL (colT ks i)).take j)
    have hb6:((upL (colT ks i)).take j).length≤40:=by rw [List.length_take];omega
    have hb7:((upL (colT ks i)).take j).length * ks.length≤40 * 40:=Nat.mul_le_mul hb6 hk40
    refine ⟨_,rfl,.inl ⟨rfl,_,SqL.of hf5⟩,_,rfl,_,rfl,l,_,_,_,rfl,rfl,SqL.of hl5,c_r V.ref hr',fl,r,_,_,rfl,rfl,hf5,tg5,?_,_,rfl,?_,fun b o hb e=>?_⟩
    ·rw [intsV_len,intsV_len,hb5,b_g,sizeLine_eq]
     omega
    ·rw [upd_same,List.take_succ_eq_append_getElem hj]
     unfold botT intsV
     rw [List.flatMap_append,List.map_append,List.flatMap_cons,List.flatMap_nil,List.append_nil]
    ·rw [upd_ne hb]
     exact kp5 b o hb e
   ·rintro σ2 H5 ⟨_,rfl,hf5,kp5⟩
    rw [intsV_len,List.take_length] at hf5
    have hl5:H5 lp=some (.lst (as.map V.ref)):=kp5 _ _ (Ne.symm flp) (s4 _ _ hl3)
    refine ⟨_,rfl,.inl ⟨rfl,_,SqL.of hl5⟩,_,rfl,lp,_,_,rfl,rfl,hl5,a_T (by rw [List.length_map,hal];omega),as++[fl],_,_,_,rfl,by rw [upd_same,List.map_append];rfl,by rw [List.length_append,hal];rfl,fun z=>?_,fun b o hb e=>?_,fun j a e=>?_⟩
    ·rcases List.mem_append.mp z with z | z
     ·exact hna z
     ·exact flp (List.mem_singleton.mp z).symm
    ·rw [upd_ne hb]
     exact kp5 b o (nfl b o (kp b o hb e)) (old4 b o hb e)
    ·rcases get_split e with z | ⟨rfl,rfl⟩
     ·have na:a≠lp:=fun y=>hna (y▸List.mem_of_getElem? z)
      have e3:=has j a z
      rw [upd_ne na]
      exact kp5 a _ (nfl a _ e3) (s4 _ _ e3)
     ·rw [upd_ne flp,hal]
      exact hf5
  ·rintro σ' H3 ⟨as,u2,u3,u4,rfl,hl3,hal,hna,kp,has⟩
   rw [List.length_map,hl2] at hal
   have s03:Same H H3:=fun b o e=>kp b o (fun z=>by rw [z,hlp] at e;cases e) (s2 b o (s1 b o e))
   refine ⟨_,rfl,lp,as,(List.range ks.length).map fun i=>botT ks (upL (colT ks i)),rfl,hl3,by rw [hal,List.length_map,List.length_range],by rw [List.length_map,List.length_range];exact hk40,fun i a xs ha hx=>?_,fun l4 ts4 H4 f4 s4 ho4=>q l4 ts4 H4 (b_w s03 f4) (s03.trans s4) ho4⟩
   rw [List.getElem?_map] at hx
   obtain ⟨j,hj,rfl⟩:=Option.map_eq_some_iff.mp hx
   have hji:j=i:=by
    have:=(List.getElem?_eq_some_iff.mp hj).2
    simpa using this.symm
   subst hji
   refine ⟨fun H2 s=>.inl (SqL.of (s _ _ (has j a ha))),fun x hx=>?_⟩
   obtain ⟨p,hp,hx⟩:=List.mem_flatMap.mp hx
   exact Nat.lt_of_lt_of_le (hc.2 p x (colLt (by have:=(List.getElem?_eq_some_iff.mp ha).1;omega) hp) hx) hk40
theorem c_u:a_l ["machine","rows"] ["machine"] (a_c a_M):=⟨rfl,rfl,rfl,by decide +kernel,rfl,by decide +kernel,by decide +kernel⟩
theorem d_X (F:Fun K "lots_of_acts" "lots_of_acts" a_M f fd) (T:Txt K mg cA_ cC_ cE_ cJ_) (d_table:DfX P w K mg base "table" 8 ["machine"] (c_V cJ_ P0 sites)) (d_numbered:Df P w K mg base "numbered" 1 ["values"] sp_numT) (d_right_below:Df P w K mg base "right_below" 2 ["rows"] sp_right) (d_left_below:Df P w K mg base "left_below" 2 ["rows"] sp_left) (d_below:Df P w K mg base "below" 3 ["rows"] sp_below):FnOk P w K mg base (CXE P w) 9 f fd ["machine"] (d_R cJ_ P0 sites):=by
 refine F.okX c_u (fun vs H Q E h=>?_) (fun cdv A outer s H vs Q E hr h=>?_)
 ·obtain ⟨m,L,W,B,rfl,_⟩:=h
  rfl
 ·obtain ⟨m,L,W,B,rfl,hM,hMa,hW8,hT,qE,q⟩:=h
  have hr1:=hr.mono (j:=1) (by decide)
  have hr2:=hr.mono (j:=2) (by decide)
  have hr3:=hr.mono (j:=3) (by decide)
  refine ⟨_,(a_b ((a_j (i:=1) c_u.nd rfl (Or.inl rfl) ((pe_dfX d_table hr (d_s fun _ _ _ z=>z) (a_a (pv 0) a_d))))) (a_e (a_q (pe_listzip3 rfl rfl T.list rfl T.zip (a_a (a_H d_numbered hr1 (a_a ((a_H d_right_below hr2 (a_a (pv 1) a_d))) a_d)) (a_a (a_H d_numbered hr1 (a_a ((a_H d_left_below hr2 (a_a (pv 1) a_d))) a_d)) (a_a (a_H d_numbered hr1 (a_a ((a_H d_below hr3 (a_a (pv 1) a_d))) a_d)) a_d))))))),?_⟩
  refine ⟨_,rfl,m,L,W,B,rfl,hM,hMa,hW8,hT,qE,fun l ts ks ws H1 sx hT1 hTb fw=>?_⟩
  have tb:Tb L W B ks ws:=⟨hMa,fw⟩
  have cl:Cl ks:=⟨fw.2,fun i x hi hx=>by
   obtain ⟨q,hq,rfl⟩:=d_u.mp hx
   exact tb.lt hi hq⟩
  have l1:(rgtL ks).length=ks.length:=by simp [rgtL]
  have l2:(lftL ks).length=ks.length:=by simp [lftL]
  have l3:(botL ks).length=ks.length:=by simp [botL]
  have k40:=fw.2
  refine ⟨_,rfl,l,ts,ks,rfl,hTb,cl,fun a1 t1 H2 f2 s2 o2=>⟨a1,t1,rgtL ks,rfl,o2.1,o2.2.1,by omega,o2.2.2,fun p1 H3 s3 hp1=>?_⟩⟩
  have hTb3:=(hTb.same s2).same s3
  refine ⟨_,rfl,l,ts,ks,rfl,hTb3,cl,fun a2 t2 H4 f4 s4 o4=>⟨a2,t2,lftL ks,rfl,o4.1,o4.2.1,by omega,o4.2.2,fun p2 H5 s5 hp2=>?_⟩⟩
  have hTb5:=(hTb3.same s4).same s5
  refine ⟨_,rfl,l,ts,ks,rfl,hTb5,cl,fun a3 t3 H6 f6 s6 o6=>⟨a3,t3,botL ks,rfl,o6.1,o6.2.1,by omega,o6.2.2,fun p3 H7 s7 hp3=>?_⟩⟩
  have s57:=s6.trans s7
  have s37:=(s4.trans s5).trans s57
  have s17:=(s2.trans s3).trans s37
  refine ⟨p1,p2,p3,_,_,_,rfl,s37 _ _ hp1,s57 _ _ hp2,hp3,by rw [intsV_len,intsV_len,b_K,b_K,l1,l2],by rw [intsV_len,intsV_len,b_K,b_K,l1,l3],by rw [intsV_len,b_K,l1];omega,fun lz ps H8 pl pnd f8 s8 hl8 hp8=>?_⟩
  rw [intsV_len,b_K,l1] at pl
  have s18:=s17.trans s8
  refine q lz ps ks ws H8 (fun x o hx e=>s18 x o (sx x o hx e)) (c_h hT1 s18) ⟨hl8,pl,pnd,fun i p hp=>?_⟩ fw
  have hi:i<ks.length:=by rw [<- pl];exact (List.getElem?_eq_some_iff.mp hp).1
  exact hp8 i p _ _ _ hp (a_U (by rw [b_K,l1];exact hi)) (a_U (by rw [b_K,l2];exact hi)) (a_U (by rw [b_K,l3];exact hi))
theorem c_X:a_l ["rows","once","kept"] ["rows","once"] (a_c b_k):=⟨rfl,rfl,rfl,by decide +kernel,rfl,by decide +kernel,by decide +kernel⟩
theorem f_b (F:Fun K "members_of" "members_of" b_k f fd) (T:Txt K mg cA_ cC_ cE_ cJ_):FnOk P w K mg base CX0 1 f fd ["rows","once"] sp_members:=by
 refine F.ok c_X (fun vs H Q E h=>?_) (fun cdv A outer s H vs Q E hr h=>?_)
 ·obtain ⟨l,ts,L,W,B,ks,ws,e,rfl,_⟩:=h
  rfl
 ·obtain ⟨l,ts,L,W,B,ks,ws,e,rfl,hTb,tb,he,q⟩:=h
  have hk40:=tb.fw.le
  refine ⟨_,(a_b ((a_j (i:=2) c_X.nd rfl (Or.inr rfl) (pe_comp2T ["rows","once","kept"] rfl (by decide) (pi_enumQ rfl T.enumerate (a_a (pv 0) a_d)) (fun cl C fp s' H'=>⟨e_V (pw_and (a_y c_b (a_B (c_m K) (a_B (d_c K) (pv 2) (pv 3) (fun _ _=>rfl)) (pv 0) (fun _ _=>rfl)) (pv 0) (a_E _)) (pw_and1 (a_y c_b (a_B (c_m K) (pv 1) (pv 3) (fun _ _=>rfl)) (pv 0) (a_E _)))).pt,pv 0⟩)))) (a_e (a_q (d_I ["rows","once","kept"] rfl (by decide) (e_q (pv 2)) (fun cl C fp s' H'=>⟨e_V (pt_val (a_p (call_anyB rfl) (by rfl) T.any PyProof.Rows.boot_any (a_a (b_A ["place","rows","once","kept"] rfl (show List.Nodup (["back","place","rows","once","kept"]:List Str) by decide) (e_q (pv 3)) (fun cl C fp s' H'=>⟨b_x,pe_and (c_P c_b (a_B (c_m K) (a_B (d_c K) (pv 2) (pv 1) (fun _ _=>rfl)) (pv 0) (fun _ _=>rfl)) (pv 3) (a_E _)) (pe_one (c_P c_b (a_B (c_m K) (a_B (d_c K) (pv 2) (pv 0) (fun _ _=>rfl)) (pv 1) (fun _ _=>rfl)) (pv 3) (a_E _)))⟩)) a_d))),pv 0⟩))))),?_⟩
  have tl:(ts.map V.ref).length=ks.length:=by rw [List.length_map,hTb.2.1]
  have cell:∀{H':Hp},Same H H'->∀{i j:Nat},i<ks.length->j<ks.length->∃t,atI (ts.map V.ref) (i:Int)=some (.ref t)/\SqT K H' t (intsV (a_S ks i))/\atI (intsV (a_S ks i)) (j:Int)=some (.int ((cellT ks i j:Nat):Int)):=fun {H'} s {i j} hi hj=>by
   obtain ⟨t,e1,e2⟩:=hTb.get hi
   exact ⟨t,c_r V.ref e1,(e2.same s).f.sq,b_N (by rw [b_g];exact hj)⟩
  dsimp only [c_n]
  dsimp only [tNext,tSeq,tAsg,c_t,c_H,tBM,tCB]
  refine d_B (c:=l) (fun R h=>⟨_,rfl,h⟩) (.inl rfl) hTb.1 (fun D i ys H'=>ys=intsV ((List.range i).filter (f_k ks e))) (by rw [tl];exact a_i (Nat.le_trans hk40 (by decide))) (fun D hD=>rfl) ?_ ?_
  ·intro D i x ys H' H3 R1 R2 hD hx hsm hDl hp hsm3 k1 k2
   rw [List.getElem?_map] at hx
   obtain ⟨t,ht,rfl⟩:=Option.map_eq_some_iff.mp hx
   have hi:i<ks.length:=by rw [<- hTb.2.1];exact (List.getElem?_eq_some_iff.mp ht).1
   have s3:=hsm.trans hsm3
   obtain ⟨t1,a1,a2,a3⟩:=cell s3 he hi
   have ti:=((hTb.2.2 i t ht).same s3).f.sq (K:=K)
   have a4:atI (intsV (a_S ks i)) (e:Int)=some (.int ((cellT ks i e:Nat):Int)):=b_N (by rw [b_g];exact he)
   have kT:f_k ks e i=true->R1 (.int (i:Int)) H3:=fun hb=>k1 _ H3 (hsm3 _ _ hDl) (Same.set s3 hD) (by rw [hp,b_U,hb];exact (b_J _ _).symm)
   have kF:f_k ks e i=false->R2 H3:=fun hb=>k2 H3 s3 (hsm3 _ _ hDl) (by rw [hp,b_U,hb];simp)
   refine ⟨_,rfl,_,rfl,l,_,_,_,rfl,rfl,SqL.of (s3 _ _ hTb.1),a1,_,rfl,t1,_,_,_,rfl,rfl,a2,a3,_,rfl,rfl,_,rfl,?_⟩
   rw [tb.cellV he hi hi]
   cases h1:decide (jn (ks.getD e []) (ks.getD i [])=ks.getD i []) with
   | false=>exact iteF (iteF (kF (by unfold f_k;rw [h1];rfl)))
   | true=>
    refine iteT ⟨_,rfl,_,rfl,t,_,_,_,rfl,rfl,ti,a4,_,rfl,rfl,_,rfl,?_⟩
    rw [tb.cellV hi he hi]
    cases h2:decide (jn (ks.getD i []) (ks.getD e [])=ks.getD i []) with
    | true=>exact iteT ⟨_,rfl,kT (by unfold f_k;rw [h1,h2];rfl)⟩
    | false=>exact iteF (kF (by unfold f_k;rw [h1,h2];rfl))
  intro Dk ys H2 hDk hsm2 hDkl hpk
  rw [tl] at hpk
  subst hpk
  have kl:=kepts_len ks e
  dsimp only [tRet,c_n,tNext,tSeq,tAsg,c_t,c_H,tBM,tCB]
  refine c_q (a:=Dk) (fun R h=>⟨_,rfl,h⟩) (.inl rfl) hDkl (fun D i ys H'=>ys=intsV (((kepts ks e).take i).filter fun p=>(kepts ks e).any fun b=>e_u ks e p b)) (by rw [intsV_len];exact a_i (show (kepts ks e).length≤_ by omega)) (fun D hD=>rfl) ?_ ?_
  ·intro D i x ys H' R1 R2 hD hx hsm hDl hp k1 k2
   have hx':(intsV (kepts ks e))[i]?=some x:=hx
   have hi:i<(kepts ks e).length:=by have:=(List.getElem?_eq_some_iff.mp hx').1;rwa [intsV_len] at this
   rw [a_U hi] at hx'
   cases hx'
   have hpm:(kepts ks e).getD i 0∈kepts ks e:=c_z hi
   have hpl:=kepts_lt hpm
   have hpi:(kepts ks e)[i]?=some ((kepts ks e).getD i 0):=getD_some hi
   generalize (kepts ks e).getD i 0=p at hpm hpl hpi
   have sA:=hsm2.trans hsm
   dsimp only [tB,tCB,c_H]
   refine c_q (a:=Dk) (fun R h=>⟨_,rfl,h⟩) (.inl rfl) (hsm _ _ hDkl) (fun D2 j zs2 H4=>zs2=(((kepts ks e).map fun b=>e_u ks e p b).map V.bl).take j) (by rw [intsV_len];exact a_i (show (kepts ks e).length≤_ by omega)) (fun D2 hD2=>by simp) ?_ ?_
   ·intro D2 j y zs2 H4 R3 R4 hD2 hy hsm4 hD2l hp2 k3 k4
    have hy':(intsV (kepts ks e))[j]?=some y:=hy
    have hj:j<(kepts ks e).length:=by have:=(List.getElem?_eq_some_iff.mp hy').1;rwa [intsV_len] at this
    rw [a_U hj] at hy'
    cases hy'
    have hbl:=kepts_lt (c_z (ws:=kepts ks e) hj)
    have hbj:(kepts ks e)[j]?=some ((kepts ks e).getD j 0):=getD_some hj
    generalize (kepts ks e).getD j 0=b at hbl hbj
    have sB:=sA.trans hsm4
    obtain ⟨t1,a1,a2,a3⟩:=cell sB hpl hbl
    obtain ⟨t2,b1,b2,b3⟩:=cell sB hbl hpl
    have put:R3 (.bl (e_u ks e p b)) H4:=k3 _ H4 hD2l (Same.set hsm4 hD2) (by
     rw [hp2]
     refine (b_Z ?_).symm
     rw [List.getElem?_map,List.getElem?_map,hbj]
     rfl)
    refine a_A ⟨_,rfl,_,rfl,l,_,_,_,rfl,rfl,SqL.of (sB _ _ hTb.1),a1,_,rfl,t1,_,_,_,rfl,rfl,a2,a3,_,rfl,rfl,_,rfl,?_⟩
    rw [tb.cellV hpl hbl he]
    unfold e_u at put
    cases h1:decide (jn (ks.getD p []) (ks.getD b [])=ks.getD e []) with
    | false=>
     rw [h1] at put
     exact iteF put
    | true=>
     rw [h1] at put
     refine iteT ⟨_,rfl,_,rfl,l,_,_,_,rfl,rfl,SqL.of (sB _ _ hTb.1),b1,_,rfl,t2,_,_,_,rfl,rfl,b2,b3,_,rfl,rfl,?_⟩
     rw [tb.cellV hbl hpl he]
     exact put
   ·intro D2 zs2 H4 hD2 hsm4 hD2l hp2
    rw [intsV_len,List.take_of_length_le (by rw [List.length_map,List.length_map];exact Nat.le_refl _)] at hp2
    subst hp2
    refine ⟨D2,_,rfl,hD2l,_,rfl,?_⟩
    have ea:((kepts ks e).map fun b=>e_u ks e p b).any id=(kepts ks e).any fun b=>e_u ks e p b:=by rw [List.any_map];rfl
    rw [ea]
    have hD4:=hsm4 _ _ hDl
    cases h1:(kepts ks e).any fun b=>e_u ks e p b with
    | true=>
     refine iteT ⟨_,rfl,k1 _ H4 hD4 (Same.set (hsm.trans hsm4) hD) ?_⟩
     rw [hp,List.take_add_one,hpi]
     show _=intsV ((List.take i (kepts ks e)++[p]).filter _)
     rw [List.filter_append,List.filter_cons_of_pos (by exact h1),List.filter_nil]
     exact (b_J _ _).symm
    | false=>
     refine iteF (k2 H4 (hsm.trans hsm4) hD4 ?_)
     rw [hp,List.take_add_one,hpi]
     show _=intsV ((List.take i (kepts ks e)++[p]).filter _)
     rw [List.filter_append,List.filter_cons_of_neg (by rw [h1];exact Bool.false_ne_true),List.filter_nil,List.append_nil]
  ·intro D ys H' hD hsm hDl hp
   rw [intsV_len] at hp
   have hp':ys=intsV (mems ks e):=by
    rw [hp]
    show intsV (((kepts ks e).take (kepts ks e).length).filter _)=_
    rw [List.take_length]
    rfl
   subst hp'
   exact q D H' (hsm2.trans hsm) (b_w hsm2 hD) hDl
theorem c_v:a_l ["machine","rows","onces"] ["machine"] (a_c b_F):=⟨rfl,rfl,rfl,by decide +kernel,rfl,by decide +kernel,by decide +kernel⟩
theorem ok_groups_of (F:Fun K "groups_of" "groups_of" b_F f fd) (T:Txt K mg cA_ cC_ cE_ cJ_) (d_table:DfX P w K mg base "table" 8 ["machine"] (c_V cJ_ P0 sites)) (d_members_of:Df P w K mg base "members_of" 1 ["rows","once"] sp_members):FnOk P w K mg base (CXE P w) 9 f fd ["machine"] (d_S cJ_ P0 sites):=by
 refine F.okX c_v (fun vs H Q E h=>?_) (fun cdv A outer s H vs Q E hr h=>?_)
 ·obtain ⟨m,L,W,B,rfl,_⟩:=h
  rfl
 ·obtain ⟨m,L,W,B,rfl,hM,hMa,hW8,hT,qE,q⟩:=h
  have hr1:=hr.mono (j:=1) (by decide)
  refine ⟨_,(a_b ((a_j (i:=1) c_v.nd rfl (Or.inr rfl) ((pe_dfX d_table hr (d_s fun _ _ _ z=>z) (a_a (pv 0) a_d))))) (a_b ((ps_setComp2T (j:=2) ["machine","rows","onces"] rfl c_v.nd rfl (Or.inl rfl) (by decide) (pi_enumQ rfl T.enumerate (a_a (pv 1) a_d)) (fun cl C fp s' H'=>⟨e_V (a_y c_b (a_B (c_m K) (pv 1) (pv 0) (fun _ _=>rfl)) (pv 0) (a_E _)),pv 0⟩))) (a_e (a_q (b_A ["machine","rows","onces"] rfl (by decide) (e_q (pv 2)) (fun cl C fp s' H'=>⟨b_x,d_y (a_a (pv 0) (a_a (a_H d_members_of hr1 (a_a (pv 2) (a_a (pv 0) a_d))) a_d))⟩)))))),?_⟩
  refine ⟨_,rfl,m,L,W,B,rfl,hM,hMa,hW8,hT,qE,fun l ts ks ws H1 s1 hT1 hTb fw=>?_⟩
  have tb:Tb L W B ks ws:=⟨hMa,fw⟩
  have hk40:=fw.le
  have tl:(ts.map V.ref).length=ks.length:=by rw [List.length_map,hTb.2.1]
  dsimp only [c_n]
  dsimp only [tNext,tSeq,tAsg,c_t,c_H,tBM,tCB]
  refine d_B (c:=l) (fun R h=>⟨_,rfl,h⟩) (.inl rfl) hTb.1 (fun D i ys H'=>ys=intsV ((List.range i).filter (onceB ks))) (by rw [tl];exact a_i (Nat.le_trans hk40 (by decide))) (fun D hD=>rfl) ?_ ?_
  ·intro D i x ys H' H3 R1 R2 hD hx hsm hDl hp hsm3 k1 k2
   rw [List.getElem?_map] at hx
   obtain ⟨t,ht,rfl⟩:=Option.map_eq_some_iff.mp hx
   have hi:i<ks.length:=by rw [<- hTb.2.1];exact (List.getElem?_eq_some_iff.mp ht).1
   have s3:=hsm.trans hsm3
   have ti:=((hTb.2.2 i t ht).same s3).f.sq (K:=K)
   have a4:atI (intsV (a_S ks i)) (i:Int)=some (.int ((cellT ks i i:Nat):Int)):=b_N (by rw [b_g];exact hi)
   refine ⟨_,rfl,_,rfl,t,_,_,_,rfl,rfl,ti,a4,_,rfl,rfl,_,rfl,?_⟩
   rw [tb.cellV hi hi hi]
   show if onceB ks i=true then _ else _
   cases h1:onceB ks i with
   | true=>
    refine iteT ⟨_,rfl,k1 _ H3 (hsm3 _ _ hDl) (Same.set s3 hD) ?_⟩
    rw [hp,b_U,h1]
    exact (b_J _ _).symm
   | false=>
    refine iteF (k2 H3 s3 (hsm3 _ _ hDl) ?_)
    rw [hp,b_U,h1]
    simp
  intro Do ys H2 hDo hsm2 hDol hpo
  rw [tl] at hpo
  subst hpo
  have ol:=onces_len ks
  have s02:c_g P0 H H2:=fun b o hb e=>hsm2 b o (s1 b o hb e)
  dsimp only [tRet,c_n,tNext,tSeq,tAsg,c_t,c_H,tBM,tCB]
  refine c_q (a:=Do) (fun R h=>⟨_,rfl,h⟩) (.inl rfl) hDol (fun D i ys H'=>∃ps ms:List Addr,ys=ps.map V.ref/\ps.length=i/\ms.length=i/\ms.Nodup/\D∉ms/\(∀b∈ms,∃u,H' b=some u)/\∀(j:Nat) (a ml:Addr),ps[j]?=some a->ms[j]?=some ml->∃e:Nat,(onces ks)[j]?=some e/\H' a=some (.tup [.int (e:Int),.ref ml])/\H' ml=some (.lst (intsV (mems ks e)))) (by rw [intsV_len];exact a_i (show (onces ks).length≤_ by omega)) (fun D hD=>⟨[],[],rfl,rfl,rfl,List.nodup_nil,by simp,by simp,fun j a ml e=>by simp at e⟩) ?_ ?_
  ·intro D i x ys H' R1 R2 hD hx hsm hDl hp k1 k2
   obtain ⟨ps,ms,rfl,hpl,hml,hnd,hDm,hme,hpm⟩:=hp
   have hx':(intsV (onces ks))[i]?=some x:=hx
   have hi:i<(onces ks).length:=by have:=(List.getElem?_eq_some_iff.mp hx').1;rwa [intsV_len] at this
   rw [a_U hi] at hx'
   cases hx'
   have hel:=onces_lt (c_z (ws:=onces ks) hi)
   have hei:(onces ks)[i]?=some ((onces ks).getD i 0):=getD_some hi
   generalize (onces ks).getD i 0=e at hel hei
   refine a_A ⟨_,rfl,_,rfl,_,rfl,l,ts,L,W,B,ks,ws,e,rfl,hTb.same (hsm2.trans hsm),tb,hel,fun ml H4 s4 hml0 hml4=>⟨a_i (by show 2≤16777216;decide),fun p hp=>?_⟩⟩
   have s5:Same H' (L2.upd H4 p (.tup [.int (e:Int),.ref ml])):=s4.trans (Same.upd hp)
   have hD5:=s5 _ _ hDl
   have hmD:ml≠D:=fun z=>by rw [z,hDl] at hml0;cases hml0
   have up:∀{b:Addr} {u:HO},b≠D->L2.upd H4 p (.tup [.int (e:Int),.ref ml]) b=some u->L2.upd (L2.upd H4 p (.tup [.int (e:Int),.ref ml])) D (.lst (ps.map V.ref++[.ref p])) b=some u:=fun {b u} hb z=>by rw [upd_ne hb];exact z
   refine k1 (.ref p) _ hD5 (Same.set (hsm.trans s5) hD) ⟨ps++[p],ms++[ml],by rw [List.map_append];rfl,by rw [List.length_append,hpl];rfl,by rw [List.length_append,hml];rfl,?_,?_,?_,?_⟩
   ·rw [List.nodup_append]
    refine ⟨hnd,by simp,fun a ha b hb=>?_⟩
    rw [List.mem_singleton.mp hb]
    intro z
    obtain ⟨u,hu⟩:=hme a ha
    rw [z,hml0] at hu
    cases hu
   ·simp only [List.mem_append,List.mem_singleton,not_or]
    exact ⟨hDm,fun z=>hmD z.symm⟩
   ·intro b hb
    rcases List.mem_append.mp hb with z | z
    ·obtain ⟨u,hu⟩:=hme b z
     exact ⟨u,up (fun y=>hDm (by rw [<- y];exact z)) (s5 _ _ hu)⟩
    ·rw [List.mem_singleton.mp z]
     exact ⟨_,up hmD (a_f hml4 hp)⟩
   ·intro j a mm e1 e2
    have dp:∀{b:Addr} {xs:List V},L2.upd H4 p (.tup [.int (e:Int),.ref ml]) b=some (.tup xs)->b≠D:=fun {b xs} z y=>by rw [y,hD5] at z;cases z
    rcases get_split e1 with z | ⟨rfl,rfl⟩
    ·have hj:j<ps.length:=(List.getElem?_eq_some_iff.mp z).1
     have e2':ms[j]?=some mm:=by rw [List.getElem?_append_left (by omega)] at e2;exact e2
     obtain ⟨e',f1,f2,f3⟩:=hpm j a mm z e2'
     exact ⟨e',f1,up (dp (s5 _ _ f2)) (s5 _ _ f2),up (fun y=>hDm (by rw [<- y];exact List.mem_of_getElem? e2')) (s5 _ _ f3)⟩
    ·have e2':mm=ml:=by
      rw [hpl,<- hml,List.getElem?_append_right (Nat.le_refl _)] at e2
      simpa using e2.symm
     subst e2'
     exact ⟨e,by rw [hpl];exact hei,up (dp upd_same) upd_same,up hmD (a_f hml4 hp)⟩
  ·intro D ys H' hD hsm hDl hp
   obtain ⟨ps,ms,rfl,hpl,hml,hnd,hDm,hme,hpm⟩:=hp
   rw [intsV_len] at hpl hml
   exact q D ps ms ks ws H' (fun b o hb e=>hsm b o (s02 b o hb e)) (c_h hT1 (hsm2.trans hsm)) ⟨hDl,hpl,by rw [hpl];exact hml,hpm⟩ fw hnd
theorem d_U:a_l ["_law_script","_law_k"] ["_law_script","_law_k"] (a_c a_P):=⟨rfl,rfl,rfl,by decide +kernel,rfl,by decide +kernel,by decide +kernel⟩
theorem e_a (F:Fun K "_law_cell_at" "_law_cell_at" a_P f fd) (T:Txt K mg cA_ cC_ cE_ cJ_):FnOk P w K mg base CX0 1 f fd ["_law_script","_law_k"] (c_L K):=by
 refine F.ok d_U (fun vs H Q E h=>?_) (fun cdv A outer s H vs Q E hr h=>?_)
 ·obtain ⟨a,ns,k,rfl,_⟩:=h
  rfl
 ·obtain ⟨a,ns,k,rfl,hS,h0,q⟩:=h
  refine ⟨_,(a_b ((c_j (a_y op_lt (pv 1) (a_p a_n (by rfl) T.len PySem.boot_len (a_a (pv 0) a_d)) (a_E _)) ((a_e (a_q (a_B b_I (pv 0) (pv 1) (fun _ _=>rfl))))) (a_K))) (a_e (a_q pe_int))),?_⟩
  refine ⟨_,rfl,_,rfl,a,_,rfl,.inl hS,_,_,rfl,rfl,_,rfl,?_⟩
  refine ite3 (fun hlt=>?_) (fun _=>q 0)
  obtain ⟨v,hv,hv2⟩:=atI_in (xs:=ns.map V.int) h0 hlt
  obtain ⟨z,rfl⟩:∃z,v=V.int z:=by
   rw [List.getElem?_map] at hv2
   cases e:ns[k.toNat]? with
   | none=>rw [e] at hv2;cases hv2
   | some z=>rw [e] at hv2;exact ⟨z,(Option.some.inj hv2).symm⟩
  exact ⟨_,rfl,_,rfl,a,_,_,_,rfl,rfl,hS,hv,q z⟩
theorem a_m:a_l ["_law_cell","_law_left","_law_number","_law_many","_law_found","_law_k","_law_at"] ["_law_cell"] (a_c a_O):=⟨rfl,rfl,rfl,by decide +kernel,rfl,by decide +kernel,by decide +kernel⟩
theorem d_Z (F:Fun K "_law_letters" "_law_letters" a_O f fd) (T:Txt K mg cA_ cC_ cE_ cJ_):FnOk P w K mg base CX0 1 f fd ["_law_cell"] sp_letters:=by
 refine F.ok a_m (fun vs H Q E h=>?_) (fun cdv A outer s H vs Q E hr h=>?_)
 ·obtain ⟨c,rfl,_⟩:=h
  rfl
 ·obtain ⟨c,rfl,q⟩:=h
  refine ⟨_,(a_b ((a_j (i:=1) a_m.nd rfl (Or.inl rfl) (pe_str))) (a_b ((a_j (i:=2) a_m.nd rfl (Or.inl rfl) (a_w op_mod (pv 0) pe_int))) (a_b ((a_j (i:=3) a_m.nd rfl (Or.inl rfl) (a_w op_add pe_int (a_w op_mod (pv 2) pe_int)))) (a_b ((a_j (i:=2) a_m.nd rfl (Or.inl rfl) (a_w op_fdiv (pv 2) pe_int))) (a_b ((a_j (i:=4) a_m.nd rfl (Or.inl rfl) (pe_str))) (a_b ((b_C PassesOwn.never rfl (a_L rfl T.range (a_a (pv 3) a_d)) (a_r (i:=5) a_m.nd rfl (Or.inl rfl)) ((a_b ((a_j (i:=6) a_m.nd rfl (Or.inl rfl) (a_w op_mod (pv 2) (a_p b_t (by rfl) T.len PySem.boot_len (a_a (pv 1) a_d))))) (a_b ((a_j (i:=2) a_m.nd rfl (Or.inl rfl) (a_w op_fdiv (pv 2) (a_p b_t (by rfl) T.len PySem.boot_len (a_a (pv 1) a_d))))) (a_b ((a_j (i:=4) a_m.nd rfl (Or.inl rfl) (a_w d_t (pv 4) (a_B ix_str (pv 1) (pv 6) (fun _ _=>rfl))))) (a_e ((a_j (i:=1) a_m.nd rfl (Or.inl rfl) (a_w d_t (c_F sl_str (pv 1) d_q (d_p (pv 6))) (c_F sl_str (pv 1) (d_p (a_w op_add (pv 6) pe_int)) d_q))))))))))) (a_e (a_q (pv 4))))))))),?_⟩
  refine ⟨_,rfl,_,_,rfl,rfl,(by show (0:Int)<46800;decide),_,rfl,_,_,rfl,rfl,(by show (0:Int)<3;decide),_,_,rfl,rfl,_,rfl,_,_,rfl,rfl,⟨by decide,by decide⟩,_,rfl,_,rfl,by omega,by omega,?_⟩
  have hm:(1:Int)+c % 46800 % 3≤3/\1≤(1:Int)+c % 46800 % 3:=by omega
  generalize hM:(1:Int)+c % 46800 % 3=M at hm ⊢
  refine c_d (n:=M.toNat) (fun i σ H'=>∃f l n k0 a0,σ=[some (.int c),some (.str (tx l)),some (.int n),some (.int M),some (.str (tx f)),k0,a0]/\H'=H/\0≤n/\f.length=i/\l.length+i=26/\(f++l).Nodup/\∀c∈f++l,97≤c/\c≤122) ?_ ?_ ?_
  ·refine ⟨[],List.range' 97 26,c % 46800 / 3,none,none,?_,rfl,by omega,rfl,rfl,by decide,by decide⟩
   show [some (V.int c),some (V.str _),some (V.int _),some (V.int _),some (V.str _),none,none]=_
   rw [abc_eq,empty_eq,hM]
  ·rintro i σ H1 hi ⟨f,l,n,k0,a0,rfl,rfl,hn,hf,hl,nd,az⟩
   have hz:(tx l).length≤sizeLine:=a_i (by rw [a_R];omega)
   have hlen:((tx l).length:Int)=26 - (i:Int):=by rw [a_R];omega
   have hlp:(0:Int)<((tx l).length:Int):=by omega
   have hr0:=Int.emod_nonneg n (show ((tx l).length:Int)≠0 by omega)
   have hr1:=Int.emod_lt_of_pos n hlp
   have hd0:0≤n / ((tx l).length:Int):=Int.ediv_nonneg hn (by omega)
   have hRl:(n % ((tx l).length:Int)).toNat<l.length:=by omega
   obtain ⟨v,hv,hv2⟩:=atI_in (xs:=(tx l).cps.toList) hr0 (by rw [c_U];omega)
   rw [c_U] at hv2
   have ev:v=l[(n % ((tx l).length:Int)).toNat]:=by
    rw [List.getElem?_eq_getElem hRl] at hv2
    exact (Option.some.inj hv2).symm
   subst ev
   refine ⟨_,rfl,_,rfl,_,rfl,hz,_,_,rfl,rfl,hlp,_,rfl,_,rfl,_,rfl,hz,_,_,rfl,rfl,⟨hlp,by omega⟩,_,rfl,_,rfl,_,rfl,_,_,_,rfl,rfl,hz,hv,_,_,rfl,rfl,?_,_,rfl,_,rfl,_,rfl,_,rfl,hz,_,rfl,_,rfl,_,_,rfl,rfl,_,rfl,_,rfl,hz,_,_,rfl,rfl,?_,?_⟩
   ·refine a_i ?_
    rw [a_R]
    show f.length+1≤_
    omega
   ·refine a_i ?_
    have h1:=Txt.slice_le (tx l) none (some (n % ((tx l).length:Int)))
    have h2:=Txt.slice_le (tx l) (some ((n % ((tx l).length:Int))+1)) none
    have hll:=a_R l
    omega
   ·obtain ⟨d1,d2⟩:=draw_one hRl nd
    refine ⟨f++[l[(n % ((tx l).length:Int)).toNat]],l.take (n % ((tx l).length:Int)).toNat++l.drop ((n % ((tx l).length:Int)).toNat+1),n / ((tx l).length:Int),some (.int (0+(i:Int))),some (.int (n % ((tx l).length:Int))),?_,rfl,hd0,by rw [List.length_append,hf];rfl,?_,d1,fun c hc=>az c (d2 c hc)⟩
    ·have e1:=slice_to (tx l) hr0
     have e2:=slice_from (tx l) (i:=(n % ((tx l).length:Int))+1) (by omega) (by rw [c_U];omega)
     rw [c_U] at e1 e2
     rw [show ((n % ((tx l).length:Int))+1).toNat=(n % ((tx l).length:Int)).toNat+1 by omega] at e2
     show [some (V.int c),some (V.str (Txt.slice (tx l) none (some (n % ((tx l).length:Int)))++Txt.slice (tx l) (some ((n % ((tx l).length:Int))+1)) none)),some (V.int _),some (V.int M),some (V.str (tx f++⟨#[l[(n % ((tx l).length:Int)).toNat]]⟩)),some _,some _]=_
     rw [e1,e2,tx_app,show (⟨#[l[(n % ((tx l).length:Int)).toNat]]⟩:Str)=tx [l[(n % ((tx l).length:Int)).toNat]] from rfl,tx_app]
    ·rw [List.length_append,List.length_take,List.length_drop]
     omega
  ·rintro σ H1 ⟨f,l,n,k0,a0,rfl,rfl,hn,hf,hl,nd,az⟩
   refine ⟨_,rfl,q f ⟨by omega,by omega,(List.nodup_append.mp nd).1,fun c hc=>az c (List.mem_append_left _ hc)⟩⟩
theorem a_o:a_l ["_law_script","_law_at","_law_rooms","_law_letters_here","_law_ways","_law_marks","_law_number","_law_k","_law_rest","_law_row","_law_sign"] ["_law_script","_law_at","_law_rooms","_law_letters_here"] (a_c a_N):=⟨rfl,rfl,rfl,by decide +kernel,rfl,by decide +kernel,by decide +kernel⟩
theorem d_Y (F:Fun K "_law_machine" "_law_machine" a_N f fd) (T:Txt K mg cA_ cC_ cE_ cJ_) (d__law_cell_at:Df P w K mg base "_law_cell_at" 1 ["_law_script","_law_k"] (c_L K)):FnOk P w K mg base CX0 2 f fd ["_law_script","_law_at","_law_rooms","_law_letters_here"] (c_E K):=by
 refine F.ok a_o (fun vs H Q E h=>?_) (fun cdv A outer s H vs Q E hr h=>?_)
 ·obtain ⟨a,ns,p,n,L,rfl,_⟩:=h
  rfl
 ·obtain ⟨a,ns,p,n,L,rfl,hS,hp0,hn1,hn60,hL,q⟩:=h
  refine ⟨_,(a_b ((a_j (i:=4) a_o.nd rfl (Or.inl rfl) (b_y a_d))) (a_b ((a_j (i:=5) a_o.nd rfl (Or.inl rfl) (b_y a_d))) (a_b ((a_j (i:=6) a_o.nd rfl (Or.inl rfl) (pe_int))) (a_b ((b_C PassesOwn.never rfl (a_L rfl T.range (a_a (pv 2) a_d)) (a_r (i:=7) a_o.nd rfl (Or.inl rfl)) ((a_b ((a_j (i:=6) a_o.nd rfl (Or.inl rfl) (a_w c_Q (a_w op_a (a_w op_a (a_w op_p (pv 6) (pv 6)) (a_w op_p pe_int (a_w op_m (a_H d__law_cell_at hr (a_a (pv 0) (a_a (a_w op_a (pv 1) (pv 7)) a_d))) (a_w op_pow pe_int pe_int)))) (pv 7)) pe_int))) (a_b ((a_j (i:=8) a_o.nd rfl (Or.inl rfl) (pv 6))) (a_b ((a_j (i:=9) a_o.nd rfl (Or.inl rfl) (b_y a_d))) (a_b ((b_C PassesOwn.never rfl (pi_str (pv 3)) (a_r (i:=10) a_o.nd rfl (Or.inl rfl)) ((a_b (a_Q (c_x PySem.F.plainAttrs_list PySem.F.slot_list_append PySem.F.type_list_append a_x (pv 9) (a_a (a_w c_Q (pv 8) (pv 2)) a_d))) (a_e ((a_j (i:=8) a_o.nd rfl (Or.inl rfl) (a_w op_fdivG (pv 8) (pv 2))))))))) (a_b (a_Q (c_x PySem.F.plainAttrs_list PySem.F.slot_list_append PySem.F.type_list_append a_x (pv 4) (a_a ((a_C a_t (by rfl) T.tuple PyProof.Rows.boot_tuple (a_a (pv 9) a_d))) a_d))) (a_e (a_Q (c_x PySem.F.plainAttrs_list PySem.F.slot_list_append PySem.F.type_list_append a_x (pv 5) (a_a (c_P c_b (a_w c_Q (pv 8) pe_int) pe_int (a_E _)) a_d)))))))))))) (a_e (a_q (d_y (a_a (pv 3) (a_a (a_C a_t (by rfl) T.tuple PyProof.Rows.boot_tuple (a_a (pv 4) a_d)) (a_a (a_C a_t (by rfl) T.tuple PyProof.Rows.boot_tuple (a_a (pv 5) a_d)) a_d)))))))))),?_⟩
  refine ⟨Nat.zero_le _,fun wa hwa=>⟨Nat.zero_le _,fun mk hmk=>?_⟩⟩
  have hwm:wa≠mk:=ne_of_none upd_same hmk
  have hmk0:H mk=none:=by rw [upd_ne hwm.symm] at hmk;exact hmk
  refine ⟨_,rfl,_,rfl,by omega,by omega,?_⟩
  refine c_d (n:=(n:Int).toNat) (fun i σ H'=>∃(rows:List Addr) (W:List (List Nat)) (B:List Bool) (num:Int) (k0 rest row sg:Option V),σ=[some (.ref a),some (.int p),some (.int (n:Int)),some (.str (tx L)),some (.ref wa),some (.ref mk),some (.int num),k0,rest,row,sg]/\
   Same H H'/\H' wa=some (.lst (rows.map V.ref))/\H' mk=some (.lst (B.map V.bl))/\rows.length=i/\W.length=i/\B.length=i/\0≤num/\num<2147483647/\c_C H' rows W/\∀ws∈W,ws.length=L.length/\∀x∈ws,x<n) ?_ ?_ ?_
  ·exact ⟨[],[],[],0,none,none,none,none,rfl,fun b o e=>a_f (a_f e hwa) hmk,a_f upd_same hmk,upd_same,rfl,rfl,rfl,by decide,by decide,fun i r e=>by simp at e,fun ws e=>by simp at e⟩
  ·rintro i σ H1 hi ⟨rows,W,B,num,k0,rest0,row0,sg0,rfl,hsame,h1wa,h1mk,hrl,hWl,hBl,hn0,hn1',hrows,hW⟩
   refine ⟨_,rfl,_,rfl,_,_,rfl,rfl,.inl ⟨by omega,by omega⟩,_,rfl,_,rfl,_,rfl,_,_,rfl,rfl,a,ns,_,rfl,hsame.seq hS,by omega,fun z=>?_⟩
   refine ⟨_,_,rfl,rfl,⟨by decide,by decide,by decide⟩,_,_,rfl,rfl,by decide,_,_,rfl,rfl,.inl ⟨by decide,by decide⟩,_,_,rfl,rfl,_,rfl,_,_,rfl,rfl,_,_,rfl,rfl,by decide,fun num2 hm0 hm1=>?_⟩
   refine ⟨_,rfl,Nat.zero_le _,fun rw hrw=>?_⟩
   have rwa:wa≠rw:=ne_of_none h1wa hrw
   have rmk:mk≠rw:=ne_of_none h1mk hrw
   refine ⟨_,rfl,_,rfl,for_str (x:=tx L) (fun j σ' H2=>∃(ws:List Nat) (rest:Int) (sg:Option V),σ'=[some (.ref a),some (.int p),some (.int (n:Int)),some (.str (tx L)),some (.ref wa),some (.ref mk),some (.int num2),some (.int (0+(i:Int))),some (.int rest),some (.ref rw),sg]/\
    H2=upd H1 rw (.lst (intsV ws))/\ws.length=j/\(∀x∈ws,x<n)/\0≤rest) ⟨[],num2,sg0,rfl,rfl,rfl,fun x e=>by simp at e,hm0⟩ ?_ ?_⟩
   ·rintro j c σ2 H2 hc ⟨ws,rest,sg,rfl,rfl,hwl,hwn,hr0⟩
    have hjl:j<4:=by
     have:=(Array.getElem?_eq_some_iff.mp hc).1
     have e:(tx L).cps.size=L.length:=a_R L
     have:=hL.hi
     omega
    refine ⟨_,rfl,.inl ⟨rfl,_,SqL.of upd_same⟩,_,rfl,_,rfl,_,_,rfl,rfl,by omega,fun r hr0' hr1=>⟨rw,_,_,rfl,rfl,upd_same,?_,_,rfl,_,rfl,_,_,rfl,rfl,⟨by omega,by omega⟩,hr0,fun q2 hq2=>?_⟩⟩
    ·unfold intsV
     rw [List.length_map]
     exact a_T (by omega)
    ·refine ⟨ws++[r.toNat],q2,some (.str ⟨#[c]⟩),rfl,?_,by rw [List.length_append,hwl];rfl,fun x hx=>?_,hq2⟩
     ·have e:((r.toNat:Nat):Int)=r:=by omega
      rw [d_i]
      unfold intsV
      rw [List.map_append]
      show _=upd H1 rw (.lst (_++[V.int ((r.toNat:Nat):Int)]))
      rw [e]
     ·rcases List.mem_append.mp hx with hx | hx
      ·exact hwn x hx
      ·rw [List.mem_singleton.mp hx]
       omega
   ·rintro σ2 H2 ⟨ws,rest,sg,rfl,rfl,hwl,hwn,hr0⟩
    rw [a_R] at hwl
    have a1:upd H1 rw (.lst (intsV ws)) wa=some (.lst (rows.map V.ref)):=by rw [upd_ne rwa];exact h1wa
    have a2:upd H1 rw (.lst (intsV ws)) mk=some (.lst (B.map V.bl)):=by rw [upd_ne rmk];exact h1mk
    refine ⟨_,rfl,.inl ⟨rfl,_,SqL.of a1⟩,_,rfl,rw,_,rfl,.inl ⟨SqL.of upd_same,fun tp htp=>?_⟩⟩
    have twa:wa≠tp:=ne_of_none a1 htp
    have tmk:mk≠tp:=ne_of_none a2 htp
    refine ⟨wa,_,_,rfl,rfl,(by rw [upd_ne twa];exact a1),(by rw [List.length_map];exact a_T (by omega)),?_⟩
    refine ⟨_,rfl,.inl ⟨rfl,_,SqL.of (by rw [upd_ne hwm.symm,upd_ne tmk];exact a2)⟩,_,rfl,_,_,rfl,rfl,by decide,fun r3 _ _=>⟨rfl,mk,_,_,rfl,rfl,(by rw [upd_ne hwm.symm,upd_ne tmk];exact a2),(by rw [List.length_map];exact a_T (by omega)),?_⟩⟩
    have hk:∀b o,H1 b=some o->b≠wa->b≠mk->upd (upd (upd (upd H1 rw (.lst (intsV ws))) tp (.tup (intsV ws))) wa (.lst (rows.map V.ref++[.ref tp]))) mk (.lst (B.map V.bl++[.bl (decide (V.int r3=V.int 1))])) b=some o:=fun b o e e1 e2=>by
     rw [upd_ne e2,upd_ne e1,upd_ne (ne_of_none (a_f e hrw) htp),upd_ne (ne_of_none e hrw)]
     exact e
    refine ⟨rows++[tp],W++[ws],B++[decide (V.int r3=V.int 1)],num2,some (.int (0+(i:Int))),some (.int rest),some (.ref rw),sg,rfl,fun b o e=>?_,?_,?_,?_,?_,?_,hm0,hm1,fun j r e=>?_,fun v hv=>?_⟩
    ·exact hk b o (hsame b o e) (ne_of_none e hwa) (ne_of_none e hmk0)
    ·rw [upd_ne hwm,upd_same,List.map_append]
     rfl
    ·rw [upd_same,List.map_append]
     rfl
    ·rw [List.length_append,hrl];rfl
    ·rw [List.length_append,hWl];rfl
    ·rw [List.length_append,hBl];rfl
    ·by_cases hj:j<rows.length
     ·rw [List.getElem?_append_left hj] at e
      obtain ⟨v,e1,e2⟩:=hrows j r e
      refine ⟨v,by rw [List.getElem?_append_left (by omega)];exact e1,hk r _ e2 (ne_of e2 h1wa (by intro z;cases z)) (ne_of e2 h1mk (by intro z;cases z))⟩
     ·rw [List.getElem?_append_right (by omega)] at e
      have hj0:j - rows.length=0:=by
       have:=(List.getElem?_eq_some_iff.mp e).1
       simp at this
       omega
      rw [hj0] at e
      have et:tp=r:=by simpa using e
      subst et
      refine ⟨ws,by rw [List.getElem?_append_right (by omega),show j - W.length=0 by omega];rfl,?_⟩
      rw [upd_ne tmk.symm,upd_ne twa.symm,upd_same]
    ·rcases List.mem_append.mp hv with hv | hv
     ·exact hW v hv
     ·rw [List.mem_singleton.mp hv]
      exact ⟨hwl,hwn⟩
  ·rintro σ H1 ⟨rows,W,B,num,k0,rest0,row0,sg0,rfl,hsame,h1wa,h1mk,hrl,hWl,hBl,hn0,hn1',hrows,hW⟩
   refine ⟨_,rfl,_,rfl,wa,_,rfl,.inl ⟨SqL.of h1wa,fun tw htw=>⟨_,rfl,mk,_,rfl,.inl ⟨SqL.of (a_f h1mk htw),fun tm htm=>⟨a_i (by show 3≤16777216;decide),fun m hm=>?_⟩⟩⟩⟩⟩
   have up:∀b o,H1 b=some o->upd (upd (upd H1 tw (.tup (rows.map V.ref))) tm (.tup (B.map V.bl))) m (.tup [.str (tx L),.ref tw,.ref tm]) b=some o:=fun b o e=>a_f (a_f (a_f e htw) htm) hm
   have hWn:W.length=n:=by omega
   exact q m W B _ (fun b o e=>up b o (hsame b o e)) ⟨tw,tm,rows,upd_same,a_f (a_f upd_same htm) hm,a_f upd_same hm,by omega,hrows.same up⟩ ⟨hL,by omega,by omega,by omega,fun ws hws=>⟨(hW ws hws).1,fun x hx=>by rw [hWn];exact (hW ws hws).2 x hx⟩⟩ hWn
theorem a_J:a_l ["_law_script","_law_letters_here","_law_rooms","_law_ways","_law_room","_law_row","_law_k","_law_back"] ["_law_script","_law_letters_here"] (a_c b_n):=⟨rfl,rfl,rfl,by decide +kernel,rfl,by decide +kernel,by decide +kernel⟩
theorem f_d (F:Fun K "_law_turns" "_law_turns" b_n f fd) (T:Txt K mg cA_ cC_ cE_ cJ_) (d__law_cell_at:Df P w K mg base "_law_cell_at" 1 ["_law_script","_law_k"] (c_L K)):FnOk P w K mg base CX0 2 f fd ["_law_script","_law_letters_here"] (e_z K):=by
 refine F.ok a_J (fun vs H Q E h=>?_) (fun cdv A outer s H vs Q E hr h=>?_)
 ·obtain ⟨a,ns,L,rfl,_⟩:=h
  rfl
 ·obtain ⟨a,ns,L,rfl,hS,hL,q⟩:=h
  refine ⟨_,(a_b ((a_j (i:=2) a_J.nd rfl (Or.inl rfl) (a_w op_a pe_int (a_w op_m (a_H d__law_cell_at hr (a_a (pv 0) (a_a (pe_int) a_d))) pe_int)))) (a_b ((a_j (i:=3) a_J.nd rfl (Or.inl rfl) (b_y a_d))) (a_b ((b_C PassesOwn.never rfl (a_L rfl T.range (a_a (pv 2) a_d)) (a_r (i:=4) a_J.nd rfl (Or.inl rfl)) ((a_b ((a_j (i:=5) a_J.nd rfl (Or.inl rfl) (b_y a_d))) (a_b ((b_C PassesOwn.never rfl (a_L rfl T.range (a_a (a_p b_t (by rfl) T.len PySem.boot_len (a_a (pv 1) a_d)) a_d)) (a_r (i:=6) a_J.nd rfl (Or.inl rfl)) ((a_b ((a_j (i:=7) a_J.nd rfl (Or.inl rfl) (a_w op_s pe_int (a_w op_p pe_int (a_w op_m (a_H d__law_cell_at hr (a_a (pv 0) (a_a (a_w op_a pe_int (a_w op_p pe_int (pv 6))) a_d))) pe_int))))) (a_e (a_Q (c_x PySem.F.plainAttrs_list PySem.F.slot_list_append PySem.F.type_list_append a_x (pv 5) (a_a (a_w c_Q (a_w op_a (a_w op_p (pv 7) (pv 4)) (a_H d__law_cell_at hr (a_a (pv 0) (a_a (a_w op_a pe_int (a_w op_p pe_int (pv 6))) a_d)))) (pv 2)) a_d)))))))) (a_e (a_Q (c_x PySem.F.plainAttrs_list PySem.F.slot_list_append PySem.F.type_list_append a_x (pv 3) (a_a ((a_C a_t (by rfl) T.tuple PyProof.Rows.boot_tuple (a_a (pv 5) a_d))) a_d))))))))) (a_e (a_q (d_y (a_a (pv 1) (a_a (a_C a_t (by rfl) T.tuple PyProof.Rows.boot_tuple (a_a (pv 3) a_d)) (a_a (a_C a_t (by rfl) T.tuple PyProof.Rows.boot_tuple (a_a (b_A ["_law_script","_law_letters_here","_law_rooms","_law_ways","?","_law_row","_law_k","_law_back"] rfl (by decide) (a_L rfl T.range (a_a (pv 2) a_d)) (fun cl C fp s' H'=>⟨b_x,c_P c_b (a_w op_m (pv 0) pe_int) pe_int (a_E _)⟩)) a_d)) a_d))))))))),?_⟩
  have hz:(tx L).length≤sizeLine:=a_i (by rw [a_R];exact Nat.le_trans hL.hi (by decide))
  refine ⟨_,rfl,a,ns,2,rfl,hS,by decide,fun z0=>⟨_,_,rfl,rfl,by decide,_,_,rfl,rfl,?_⟩⟩
  obtain ⟨n,en,n1,n2⟩:=ar_room z0 1 8 (by decide)
  have en':(1:Int)+z0 % 8=(n:Int):=en.symm
  rw [en']
  refine ⟨Nat.zero_le _,fun wa hwa=>?_⟩
  refine ⟨_,rfl,_,rfl,by omega,by omega,?_⟩
  refine c_d (n:=(n:Int).toNat) (fun i σ H'=>∃(rows:List Addr) (W:List (List Nat)) (s4 s5 s6 s7:Option V),σ=[some (.ref a),some (.str (tx L)),some (.int (n:Int)),some (.ref wa),s4,s5,s6,s7]/\Same H H'/\H' wa=some (.lst (rows.map V.ref))/\rows.length=i/\W.length=i/\c_C H' rows W/\∀ws∈W,ws.length=L.length/\∀x∈ws,x<n) ⟨[],[],none,none,none,none,rfl,Same.upd hwa,upd_same,rfl,rfl,fun i r e=>by simp at e,fun ws e=>by simp at e⟩ ?_ ?_
  ·rintro i σ H1 hi ⟨rows,W,s4,s5,s6,s7,rfl,sm,h1,hrl,hWl,hrows,hW⟩
   have hin:i<n:=by omega
   refine ⟨Nat.zero_le _,fun rw hrw=>?_⟩
   have rwa:wa≠rw:=ne_of_none h1 hrw
   refine ⟨_,rfl,_,rfl,hz,_,rfl,by rw [a_R];omega,by rw [a_R];have:=hL.hi;omega,?_⟩
   refine c_d (n:=((tx L).length:Int).toNat) (fun j σ' H2=>∃(ws:List Nat) (s6 s7:Option V),σ'=[some (.ref a),some (.str (tx L)),some (.int (n:Int)),some (.ref wa),some (.int (0+(i:Int))),some (.ref rw),s6,s7]/\H2=L2.upd H1 rw (.lst (intsV ws))/\ws.length=j/\∀x∈ws,x<n) ⟨[],_,_,rfl,rfl,rfl,fun x e=>by simp at e⟩ ?_ ?_
   ·rintro j σ2 H2 hj ⟨ws,s6,s7,rfl,rfl,hwl,hwn⟩
    have hj4:j<4:=by have:=hL.hi;rw [a_R] at hj;omega
    have s1:Same H (L2.upd H1 rw (.lst (intsV ws))):=Same.set sm (b_w sm hrw)
    refine ⟨_,rfl,_,rfl,_,_,rfl,rfl,.inl ⟨by decide,by decide⟩,_,_,rfl,rfl,a,ns,_,rfl,s1.seq hS,by omega,fun z1=>⟨_,_,rfl,rfl,by decide,_,_,rfl,rfl,.inl ⟨by decide,by decide⟩,_,_,rfl,rfl,?_⟩⟩
    refine ⟨_,rfl,.inl ⟨rfl,_,SqL.of upd_same⟩,_,rfl,_,rfl,_,_,rfl,rfl,.inr ⟨by omega,by omega⟩,_,rfl,_,rfl,_,_,rfl,rfl,.inl ⟨by decide,by decide⟩,_,_,rfl,rfl,a,ns,_,rfl,s1.seq hS,by omega,fun z2=>⟨_,_,rfl,rfl,_,rfl,_,_,rfl,rfl,by omega,fun r hr0 hr1=>?_⟩⟩
    obtain ⟨x,rfl⟩:=Int.eq_ofNat_of_zero_le hr0
    refine ⟨rw,_,_,rfl,rfl,upd_same,by rw [intsV_len];exact a_T (by omega),ws++[x],_,_,rfl,by rw [d_i,b_J],by rw [List.length_append,hwl];rfl,fun y hy=>?_⟩
    rcases List.mem_append.mp hy with z | z
    ·exact hwn y z
    ·rw [List.mem_singleton.mp z];exact Int.ofNat_lt.mp hr1
   ·rintro σ2 H2 ⟨ws,s6,s7,rfl,rfl,hwl,hwn⟩
    have hwl':ws.length=L.length:=by rw [hwl,a_R];omega
    have a1:L2.upd H1 rw (.lst (intsV ws)) wa=some (.lst (rows.map V.ref)):=by rw [upd_ne rwa];exact h1
    have hr2:c_C (L2.upd H1 rw (.lst (intsV ws))) rows W:=hrows.same (Same.upd hrw)
    refine ⟨_,rfl,.inl ⟨rfl,_,SqL.of a1⟩,_,rfl,rw,_,rfl,.inl ⟨SqL.of upd_same,fun tp htp=>?_⟩⟩
    obtain ⟨u1,u2,u3⟩:=rows_up (ws:=ws) a1 hr2 (by rw [hrl,hWl]) htp
    refine ⟨wa,_,_,rfl,rfl,a_f a1 htp,by rw [List.length_map];exact a_T (by omega),rows++[tp],W++[ws],_,_,_,_,rfl,fun b o e=>?_,u1,by rw [List.length_append,hrl];rfl,by rw [List.length_append,hWl];rfl,u2,fun v hv=>?_⟩
    ·exact u3 b o (by rw [upd_ne (ne_of_none (sm _ _ e) hrw)];exact sm _ _ e) (ne_of_none e hwa)
    ·rcases List.mem_append.mp hv with z | z
     ·exact hW v z
     ·rw [List.mem_singleton.mp z];exact ⟨hwl',hwn⟩
  ·rintro σ H1 ⟨rows,W,s4,s5,s6,s7,rfl,sm,h1,hrl,hWl,hrows,hW⟩
   have hWn:W.length=n:=by omega
   refine ⟨_,rfl,_,rfl,wa,_,rfl,.inl ⟨SqL.of h1,fun tw htw=>?_⟩⟩
   dsimp only [c_H,tCB,c_t]
   refine c_f (n:=n) (fun R h=>⟨_,rfl,h⟩) (by omega) (fun D j ys H'=>∃B:List Bool,ys=B.map V.bl/\B.length=j) (fun D hD=>⟨[],rfl,rfl⟩) ?_ ?_
   ·intro D j ys H' R1 R2 hD hj hsm hDl hp k1 k2
    obtain ⟨B,rfl,hB⟩:=hp
    exact a_A ⟨_,rfl,_,_,rfl,rfl,by decide,rfl,k1 _ H' hDl (Same.set hsm hD) ⟨B++[_],by rw [List.map_append];rfl,by rw [List.length_append,hB];rfl⟩⟩
   ·intro D ys H' hD hsm hDl hp
    obtain ⟨B,rfl,hB⟩:=hp
    refine ⟨D,_,rfl,.inl ⟨SqL.of hDl,fun tm htm=>⟨a_i (by show 3≤16777216;decide),fun m hm=>?_⟩⟩⟩
    have htw':H' tw=some (.tup (rows.map V.ref)):=hsm _ _ upd_same
    have up:Same H1 (L2.upd (L2.upd H' tm (.tup (B.map V.bl))) m (.tup [.str (tx L),.ref tw,.ref tm])):=((Same.upd htw).trans hsm).trans ((Same.upd htm).trans (Same.upd hm))
    exact q m W B _ (sm.trans up) ⟨tw,tm,rows,upd_same,a_f (a_f htw' htm) hm,a_f upd_same hm,by omega,hrows.same up⟩ ⟨hL,by omega,by omega,by omega,fun ws hws=>⟨(hW ws hws).1,fun x hx=>by rw [hWn];exact (hW ws hws).2 x hx⟩⟩ (by omega)
theorem b_u:a_l ["_law_cell","_law_many","_law_found","_law_number","_law_k"] ["_law_cell","_law_many"] (a_c b_p):=⟨rfl,rfl,rfl,by decide +kernel,rfl,by decide +kernel,by decide +kernel⟩
theorem f_f (F:Fun K "_law_order" "_law_order" b_p f fd) (T:Txt K mg cA_ cC_ cE_ cJ_):FnOk P w K mg base CX0 1 f fd ["_law_cell","_law_many"] sp_order:=by
 refine F.ok b_u (fun vs H Q E h=>?_) (fun cdv A outer s H vs Q E hr h=>?_)
 ·obtain ⟨z,n,rfl,_⟩:=h
  rfl
 ·obtain ⟨z,n,rfl,hn60,q⟩:=h
  refine ⟨_,(a_b ((a_j (i:=2) b_u.nd rfl (Or.inl rfl) (b_y a_d))) (a_b ((a_j (i:=3) b_u.nd rfl (Or.inl rfl) (a_w c_Q (pv 0) pe_int))) (a_b ((b_C PassesOwn.never rfl (a_L rfl T.range (a_a (pv 1) a_d)) (a_r (i:=4) b_u.nd rfl (Or.inl rfl)) ((a_b ((a_j (i:=3) b_u.nd rfl (Or.inl rfl) (a_w c_Q (a_w op_a (a_w op_a (a_w op_p (pv 3) (pv 3)) (a_w op_p pe_int (pv 3))) (pv 4)) pe_int))) (a_e (a_Q (c_x PySem.F.plainAttrs_list PySem.F.slot_list_insert PySem.F.type_list_insert mt_insert (pv 2) (a_a (a_w c_Q (pv 3) (a_w op_a (pv 4) pe_int)) (a_a (pv 4) a_d))))))))) (a_e (a_q (pv 2)))))),?_⟩
  refine ⟨Nat.zero_le _,fun l hl=>?_⟩
  refine ⟨_,rfl,_,_,rfl,rfl,by decide,fun num hm0 hm1=>?_⟩
  refine ⟨_,rfl,_,rfl,by omega,by omega,?_⟩
  refine c_d (n:=(n:Int).toNat) (fun i σ' H'=>∃(ls:List Nat) (num:Int) (s4:Option V),σ'=[some (.int z),some (.int (n:Int)),some (.ref l),some (.int num),s4]/\0≤num/\num<2147483647/\H'=L2.upd H l (.lst (intsV ls))/\ls.length=i/\(∀x∈ls,x<i)/\∀x<i,x∈ls) ⟨[],num,none,rfl,hm0,hm1,rfl,rfl,fun x hx=>by simp at hx,fun x hx=>absurd hx (Nat.not_lt_zero _)⟩ ?_ ?_
  ·rintro i σ' H' hi ⟨ls,num,s4,rfl,hq0,hq1,rfl,e1,e2,e3⟩
   refine ⟨_,rfl,_,rfl,_,_,rfl,rfl,.inl (ar_64 hq0 hq1),_,rfl,_,_,rfl,rfl,.inl ⟨by decide,by decide⟩,_,_,rfl,rfl,_,rfl,_,_,rfl,rfl,_,_,rfl,rfl,by decide,fun num2 hm0 hm1=>?_⟩
   refine ⟨_,rfl,.inl ⟨rfl,_,SqL.of upd_same⟩,_,rfl,_,rfl,_,_,rfl,rfl,_,_,rfl,rfl,by omega,fun r hr0 hr1=>?_⟩
   obtain ⟨r,rfl⟩:=Int.eq_ofNat_of_zero_le hr0
   have hri:r≤i:=by omega
   refine ⟨_,rfl,l,intsV ls,_,_,rfl,rfl,upd_same,hr0,by omega,by rw [intsV_len,e1];omega,by rw [intsV_len,e1];exact a_T (by omega),ls.take r++i::ls.drop r,num2,_,rfl,hm0,Int.lt_trans hm1 (by decide),?_,?_,fun x hx=>?_,fun x hx=>?_⟩
   ·rw [d_i,Int.toNat_natCast,Int.zero_add]
    congr 2
    unfold intsV
    rw [List.map_append,List.map_cons,List.map_take,List.map_drop]
   ·rw [List.length_append,List.length_cons,List.length_take,List.length_drop,e1]
    omega
   ·rcases List.mem_append.mp hx with y | y
    ·exact Nat.lt_succ_of_lt (e2 x (List.mem_of_mem_take y))
    ·rcases List.mem_cons.mp y with y | y
     ·rw [y];exact Nat.lt_succ_self i
     ·exact Nat.lt_succ_of_lt (e2 x (List.mem_of_mem_drop y))
   ·by_cases hxi:x=i
    ·rw [hxi];exact List.mem_append_right _ List.mem_cons_self
    ·have:=e3 x (by omega)
     rw [<- List.take_append_drop r ls] at this
     rcases List.mem_append.mp this with y | y
     ·exact List.mem_append_left _ y
     ·exact List.mem_append_right _ (List.mem_cons_of_mem _ y)
  ·rintro σ' H' ⟨ls,num,s4,rfl,hq0,hq1,rfl,e1,e2,e3⟩
   have en:(n:Int).toNat=n:=Int.toNat_natCast n
   rw [en] at e1 e2 e3
   exact ⟨_,rfl,q l ls _ (Same.upd hl) upd_same e1 e2 e3⟩
theorem e_T:a_l ["_law_kind","_law_room"] ["_law_kind","_law_room"] (a_c b_o):=⟨rfl,rfl,rfl,by decide +kernel,rfl,by decide +kernel,by decide +kernel⟩
theorem f_e (F:Fun K "_law_third" "_law_third" b_o f fd) (T:Txt K mg cA_ cC_ cE_ cJ_):FnOk P w K mg base CX0 1 f fd ["_law_kind","_law_room"] sp_third:=by
 refine F.ok e_T (fun vs H Q E h=>?_) (fun cdv A outer s H vs Q E hr h=>?_)
 ·obtain ⟨kd,r,rfl,_⟩:=h
  rfl
 ·obtain ⟨kd,r,rfl,hr8,q⟩:=h
  refine ⟨_,(a_b ((c_j (a_y c_b (pv 0) pe_int (a_E _)) ((a_e (a_q (pv 1)))) (a_K))) (a_b ((c_j ((pw_or (a_y c_b (pv 0) pe_int (a_E _)) (pw_or1 (a_y c_b (pv 0) pe_int (a_E _)))).pt) ((a_e (a_q pe_int))) (a_K))) (a_e (a_q (a_B b_I (b_y (a_a pe_int (a_a pe_int (a_a pe_int (a_a pe_int (a_a pe_int (a_a pe_int (a_a pe_int (a_a pe_int a_d))))))))) (pv 1) (fun _ _=>rfl)))))),?_⟩
  refine ⟨_,rfl,rfl,_,rfl,ite3 (fun _=>⟨_,rfl,q r H (Same.refl H) hr8 fun _ _ z=>z⟩) (fun _=>?_)⟩
  refine ⟨_,rfl,rfl,_,rfl,ite3 (fun h1=>q 7 H (Same.refl H) (by decide) fun z=>?_) (fun h1=>⟨_,rfl,rfl,_,rfl,ite3 (fun h2=>q 7 H (Same.refl H) (by decide) fun _ z=>?_) (fun h2=>?_)⟩)⟩
  ·exact absurd (V.int.inj h1) z
  ·exact absurd (V.int.inj h2) z
  refine ⟨a_i (by show 8≤16777216;decide),fun l hl=>⟨_,rfl,l,_,_,_,rfl,rfl,SqL.of (upd_same (o:=.lst (intsV lit3))),b_N (ns:=lit3) hr8,q (lit3.getD r 0) _ (Same.upd hl) ?_ fun _ _ h7=>?_⟩⟩
  ·exact (by decide:∀r<8,lit3.getD r 0<8) r hr8
  ·exact (by decide:∀r<7,lit3.getD r 0<7) r h7
theorem a_z:a_l ["_law_script","_law_letters_here","_law_kind","_law_rooms","_law_order_here","_law_turn","_law_ways","_law_room","_law_goals","_law_row","_law_k"] ["_law_script","_law_letters_here"] (a_c b_q):=⟨rfl,rfl,rfl,by decide +kernel,rfl,by decide +kernel,by decide +kernel⟩
theorem f_g (F:Fun K "_law_forty" "_law_forty" b_q f fd) (T:Txt K mg cA_ cC_ cE_ cJ_) (d__law_cell_at:Df P w K mg base "_law_cell_at" 1 ["_law_script","_law_k"] (c_L K)) (d__law_order:Df P w K mg base "_law_order" 1 ["_law_cell","_law_many"] sp_order) (d__law_third:Df P w K mg base "_law_third" 1 ["_law_kind","_law_room"] sp_third):FnOk P w K mg base CX0 2 f fd ["_law_script","_law_letters_here"] (e_z K):=by
 refine F.ok a_z (fun vs H Q E h=>?_) (fun cdv A outer s H vs Q E hr h=>?_)
 ·obtain ⟨a,ns,L,rfl,_⟩:=h
  rfl
 ·obtain ⟨a,ns,L,rfl,hS,hL,q⟩:=h
  have hr1:=hr.mono (j:=1) (by decide)
  refine ⟨_,(a_b ((a_j (i:=2) a_z.nd rfl (Or.inl rfl) (a_w op_m (a_H d__law_cell_at hr1 (a_a (pv 0) (a_a (pe_int) a_d))) pe_int))) (e_W ((a_j (i:=3) a_z.nd rfl (Or.inl rfl) (a_w op_a pe_int (a_C call_int1 (by rfl) T.int PyProof.Rows.boot_int (a_a (pe_or (c_P c_b (pv 2) pe_int (a_E _)) (pe_one (c_P c_b (pv 2) pe_int (a_E _)))) a_d))))) (a_b ((a_j (i:=4) a_z.nd rfl (Or.inl rfl) ((a_H d__law_order hr1 (a_a ((a_H d__law_cell_at hr1 (a_a (pv 0) (a_a (pe_int) a_d)))) (a_a (pv 3) a_d)))))) (a_b ((a_j (i:=5) a_z.nd rfl (Or.inl rfl) ((a_H d__law_cell_at hr1 (a_a (pv 0) (a_a (pe_int) a_d)))))) (a_b ((a_j (i:=6) a_z.nd rfl (Or.inl rfl) (b_y a_d))) (a_b ((b_C PassesOwn.never rfl (c_O (pv 4)) (a_r (i:=7) a_z.nd rfl (Or.inl rfl)) ((a_b ((a_j (i:=8) a_z.nd rfl (Or.inl rfl) (b_y (a_a (a_B b_I (b_y (a_a pe_int (a_a pe_int (a_a pe_int (a_a pe_int (a_a pe_int (a_a pe_int (a_a pe_int (a_a pe_int a_d))))))))) (pv 7) (fun _ _=>rfl)) (a_a (a_B b_I (b_y (a_a pe_int (a_a pe_int (a_a pe_int (a_a pe_int (a_a pe_int (a_a pe_int (a_a pe_int (a_a pe_int a_d))))))))) (pv 7) (fun _ _=>rfl)) (a_a (a_H d__law_third hr1 (a_a (pv 2) (a_a (pv 7) a_d))) a_d)))))) (a_b ((a_j (i:=9) a_z.nd rfl (Or.inl rfl) (b_y a_d))) (a_b ((b_C PassesOwn.never rfl (a_L rfl T.range (a_a (a_p b_t (by rfl) T.len PySem.boot_len (a_a (pv 1) a_d)) a_d)) (a_r (i:=10) a_z.nd rfl (Or.inl rfl)) ((a_e (a_Q (c_x PySem.F.plainAttrs_list PySem.F.slot_list_append PySem.F.type_list_append a_x (pv 9) (a_a (pe_indexI K (pv 4) (a_a (a_B b_I (pv 8) (a_w op_m (a_w op_a (pv 5) (pv 10)) (a_p b_t (by rfl) T.len PySem.boot_len (a_a (pv 1) a_d))) (fun _ _=>rfl)) a_d)) a_d))))))) (a_e (a_Q (c_x PySem.F.plainAttrs_list PySem.F.slot_list_append PySem.F.type_list_append a_x (pv 6) (a_a ((a_C a_t (by rfl) T.tuple PyProof.Rows.boot_tuple (a_a (pv 9) a_d))) a_d)))))))))) (a_e (a_q (d_y (a_a (pv 1) (a_a (a_C a_t (by rfl) T.tuple PyProof.Rows.boot_tuple (a_a (pv 6) a_d)) (a_a (a_C a_t (by rfl) T.tuple PyProof.Rows.boot_tuple (a_a (b_A ["_law_script","_law_letters_here","_law_kind","_law_rooms","_law_order_here","_law_turn","_law_ways","?","_law_goals","_law_row","_law_k"] rfl (by decide) (a_L rfl T.range (a_a (pv 3) a_d)) (fun cl C fp s' H'=>⟨b_x,c_P c_b (a_w op_m (pv 0) pe_int) pe_int (a_E _)⟩)) a_d)) a_d)))))))))))),?_⟩
  have hz:(tx L).length≤sizeLine:=a_i (by rw [a_R];exact Nat.le_trans hL.hi (by decide))
  have hlp:(0:Int)<((tx L).length:Int):=by rw [a_R];exact ar_pos1 hL.lo
  refine ⟨_,rfl,a,ns,2,rfl,hS,by decide,fun z0=>⟨_,_,rfl,rfl,by decide,?_⟩⟩
  generalize z0 % 4=kd
  refine ⟨fun σ' H'=>∃n:Nat,σ'=[some (.ref a),some (.str (tx L)),some (.int kd),some (.int (n:Int)),none,none,none,none,none,none,none]/\H'=H/\(n=8\/(n=7/\kd≠1/\kd≠2)),?_,?_⟩
  ·refine ⟨_,rfl,rfl,_,rfl,ite3 (fun h1=>.inr ⟨true,rfl,_,_,rfl,rfl,8,rfl,rfl,.inl rfl⟩) (fun h1=>⟨_,rfl,rfl,?_⟩)⟩
   by_cases h2:kd=2
   ·rw [decide_eq_true (by rw [h2])]
    exact .inr ⟨true,rfl,_,_,rfl,rfl,8,rfl,rfl,.inl rfl⟩
   ·rw [decide_eq_false (fun z=>h2 (V.int.inj z))]
    exact .inr ⟨false,rfl,_,_,rfl,rfl,7,rfl,rfl,.inr ⟨rfl,fun z=>h1 (by rw [z]),h2⟩⟩
  rintro σ0 H ⟨n,rfl,rfl,hn⟩
  have hn7:7≤n/\n≤8:=by omega
  refine ⟨_,rfl,a,ns,4,rfl,hS,by decide,fun z1=>⟨_,rfl,z1,n,rfl,by omega,fun p ls H1 s1 hp hll hlt hall=>?_⟩⟩
  refine ⟨_,rfl,a,ns,5,rfl,s1.seq hS,by decide,fun tn=>⟨Nat.zero_le _,fun wa hwa=>?_⟩⟩
  have hp1:=a_f (u:=.lst []) hp hwa
  refine ⟨_,rfl,p,rfl,⟨_,SqL.of hp1⟩,?_⟩
  have hwa0:H wa=none:=b_w s1 hwa
  refine c_p (K:=K) (a:=p) (xs:=intsV ls) (fun i σ H'=>∃(rows:List Addr) (W:List (List Nat)) (s7 s8 s9 s10:Option V),σ=[some (.ref a),some (.str (tx L)),some (.int kd),some (.int (n:Int)),some (.ref p),some (.int tn),some (.ref wa),s7,s8,s9,s10]/\Same H H'/\H' p=some (.lst (intsV ls))/\H' wa=some (.lst (rows.map V.ref))/\rows.length=i/\W.length=i/\c_C H' rows W/\∀ws∈W,ws.length=L.length/\∀x∈ws,x<n) ⟨[],[],none,none,none,none,rfl,s1.trans (Same.upd hwa),hp1,upd_same,rfl,rfl,fun i r e=>by simp at e,fun ws e=>by simp at e⟩ ?_ ?_ ?_
  ·rintro i σ' H' hi ⟨rows,W,s7,s8,s9,s10,rfl,sm,hp2,_⟩
   exact SqL.of hp2
  ·rintro i x σ' H2 hx ⟨rows,W,s7,s8,s9,s10,rfl,sm,hp2,h1,hrl,hWl,hrows,hW⟩
   have hi:i<ls.length:=by have:=(List.getElem?_eq_some_iff.mp hx).1;rwa [intsV_len] at this
   rw [a_U hi] at hx
   cases hx
   have hr0:ls.getD i 0<n:=hlt _ (c_z hi)
   generalize ls.getD i 0=r at hr0
   have hr8:r<8:=by omega
   refine ⟨a_i (by show 8≤16777216;decide),fun l1 hl1=>⟨_,rfl,l1,_,_,_,rfl,rfl,SqL.of (upd_same (o:=.lst (intsV lit1))),b_N (ns:=lit1) hr8,?_⟩⟩
   refine ⟨a_i (by show 8≤16777216;decide),fun l2 hl2=>⟨_,rfl,l2,_,_,_,rfl,rfl,SqL.of (upd_same (o:=.lst (intsV lit2))),b_N (ns:=lit2) hr8,?_⟩⟩
   refine ⟨_,rfl,_,rfl,kd,r,rfl,hr8,fun x3 H3 s3 hx8 hx7=>⟨a_i (by show 3≤16777216;decide),fun gl hgl=>⟨Nat.zero_le _,fun rw hrw=>?_⟩⟩⟩
   have s23:Same H2 H3:=(Same.upd hl1).trans ((Same.upd hl2).trans s3)
   have g1:lit1.getD r 0<n:=by
    rcases hn with rfl | ⟨rfl,_⟩
    ·exact (by decide:∀r<8,lit1.getD r 0<8) r hr8
    ·exact (by decide:∀r<7,lit1.getD r 0<7) r hr0
   have g2:lit2.getD r 0<n:=by
    rcases hn with rfl | ⟨rfl,_⟩
    ·exact (by decide:∀r<8,lit2.getD r 0<8) r hr8
    ·exact (by decide:∀r<7,lit2.getD r 0<7) r hr0
   have g3:x3<n:=by
    rcases hn with rfl | ⟨rfl,k1,k2⟩
    ·exact hx8
    ·exact hx7 k1 k2 hr0
   have goals:∀y∈[lit1.getD r 0,lit2.getD r 0,x3],y<n:=fun y hy=>by
    simp only [List.mem_cons,List.not_mem_nil,or_false] at hy
    rcases hy with rfl | rfl | rfl
    ·exact g1
    ·exact g2
    ·exact g3
   have eg:([V.int ((lit1.getD r 0:Nat):Int),V.int ((lit2.getD r 0:Nat):Int),V.int ((x3:Nat):Int)]:List V)=intsV [lit1.getD r 0,lit2.getD r 0,x3]:=rfl
   rw [eg] at hrw ⊢
   generalize [lit1.getD r 0,lit2.getD r 0,x3]=gs at goals hrw eg
   have hgl3:gs.length=3:=by
    have:=congrArg List.length eg
    rw [intsV_len] at this
    exact this.symm
   have sG:Same H2 (L2.upd (L2.upd H3 gl (.lst (intsV gs))) rw (.lst [])):=s23.trans ((Same.upd hgl).trans (Same.upd hrw))
   have hglG:L2.upd (L2.upd H3 gl (.lst (intsV gs))) rw (.lst []) gl=some (.lst (intsV gs)):=a_f upd_same hrw
   have rwa:wa≠rw:=ne_of_none (a_f (s23 _ _ h1) hgl) hrw
   have rwp:p≠rw:=ne_of_none (a_f (s23 _ _ hp2) hgl) hrw
   have rwg:gl≠rw:=ne_of_none upd_same hrw
   have rwn:H2 rw=none:=b_w (s23.trans (Same.upd hgl)) hrw
   have hrwG:L2.upd (L2.upd H3 gl (.lst (intsV gs))) rw (.lst []) rw=some (.lst (intsV [])):=upd_same
   generalize L2.upd (L2.upd H3 gl (.lst (intsV gs))) rw (.lst [])=HG at sG hglG hrwG
   refine ⟨_,rfl,_,rfl,hz,_,rfl,by rw [a_R];omega,by rw [a_R];have:=hL.hi;omega,?_⟩
   refine c_d (n:=((tx L).length:Int).toNat) (fun j σ' H4=>∃(ws:List Nat) (s10:Option V),σ'=[some (.ref a),some (.str (tx L)),some (.int kd),some (.int (n:Int)),some (.ref p),some (.int tn),some (.ref wa),some (.int (r:Int)),some (.ref gl),some (.ref rw),s10]/\(∀b o,b≠rw->HG b=some o->H4 b=some o)/\H4 rw=some (.lst (intsV ws))/\ws.length=j/\∀x∈ws,x<n) ⟨[],_,rfl,fun b o _ e=>e,hrwG,rfl,fun x e=>by simp at e⟩ ?_ ?_
   ·rintro j σ2 H4 hj ⟨ws,s10,rfl,kp,hrw4,hwl,hwn⟩
    have hj4:j<4:=by have:=hL.hi;rw [a_R] at hj;omega
    have hp4:=kp _ _ rwp (sG _ _ hp2)
    have q0:=Int.emod_nonneg (tn+(0+(j:Int))) (Int.ne_of_gt hlp)
    have q1:=Int.emod_lt_of_pos (tn+(0+(j:Int))) hlp
    obtain ⟨jj,hjj⟩:=Int.eq_ofNat_of_zero_le q0
    rw [hjj] at q1
    have hjj3:jj<gs.length:=by
     rw [hgl3]
     have:=hL.hi
     rw [a_R] at q1
     omega
    have hat:atI (intsV gs) ((tn+(0+(j:Int))) % ((tx L).length:Int))=some (.int ((gs.getD jj 0:Nat):Int)):=by
     rw [hjj]
     exact b_N hjj3
    have hmem:=hall _ (goals _ (c_z hjj3))
    refine ⟨_,rfl,.inl ⟨rfl,_,SqL.of hrw4⟩,_,rfl,.inl ⟨rfl,_,SqL.of hp4⟩,_,rfl,_,rfl,_,rfl,_,_,rfl,rfl,_,rfl,_,rfl,hz,_,_,rfl,rfl,hlp,gl,_,_,_,rfl,rfl,SqL.of (kp _ _ rwg hglG),hat,p,zs ls,((gs.getD jj 0:Nat):Int),rfl,rfl,by rw [<- intsV_zs];exact hp4,List.mem_map.mpr ⟨_,hmem,rfl⟩,?_⟩
    ·rw [zs_idx]
     refine ⟨rw,_,_,rfl,rfl,hrw4,by rw [intsV_len];exact a_T (by omega),ws++[ls.idxOf (gs.getD jj 0)],_,rfl,fun b o hb e=>by rw [upd_ne hb];exact kp b o hb e,by rw [upd_same,b_J],by rw [List.length_append,hwl];rfl,fun y hy=>?_⟩
     rcases List.mem_append.mp hy with z | z
     ·exact hwn y z
     ·rw [List.mem_singleton.mp z,<- hll]
      exact List.idxOf_lt_length_of_mem (hall _ (goals _ (c_z hjj3)))
   ·rintro σ2 H4 ⟨ws,s10,rfl,kp,hrw4,hwl,hwn⟩
    have hwl':ws.length=L.length:=by rw [hwl,a_R];omega
    have a1:H4 wa=some (.lst (rows.map V.ref)):=kp _ _ rwa (sG _ _ h1)
    have a2:H4 p=some (.lst (intsV ls)):=kp _ _ rwp (sG _ _ hp2)
    have s24:Same H2 H4:=fun b o e=>kp b o (ne_of_none e rwn) (sG _ _ e)
    refine ⟨_,rfl,.inl ⟨rfl,_,SqL.of a1⟩,_,rfl,rw,_,rfl,.inl ⟨SqL.of hrw4,fun tp htp=>?_⟩⟩
    obtain ⟨u1,u2,u3⟩:=rows_up (ws:=ws) a1 (hrows.same s24) (by rw [hrl,hWl]) htp
    have pwa:p≠wa:=fun z=>by rw [z,hwa] at hp;cases hp
    refine ⟨wa,_,_,rfl,rfl,a_f a1 htp,by rw [List.length_map,hrl];exact a_T (by omega),rows++[tp],W++[ws],_,_,_,_,rfl,fun b o e=>?_,u3 p _ a2 pwa,u1,by rw [List.length_append,hrl];rfl,by rw [List.length_append,hWl];rfl,u2,fun v hv=>?_⟩
    ·exact u3 b o (s24 _ _ (sm _ _ e)) (ne_of_none e hwa0)
    ·rcases List.mem_append.mp hv with z | z
     ·exact hW v z
     ·rw [List.mem_singleton.mp z];exact ⟨hwl',hwn⟩
  ·rintro σ H2 ⟨rows,W,s7,s8,s9,s10,rfl,sm,hp2,h1,hrl,hWl,hrows,hW⟩
   rw [intsV_len,hll] at hrl hWl
   refine ⟨_,rfl,_,rfl,wa,_,rfl,.inl ⟨SqL.of h1,fun tw htw=>?_⟩⟩
   dsimp only [c_H,tCB,c_t]
   refine c_f (n:=n) (fun R h=>⟨_,rfl,h⟩) (by omega) (fun D j ys H'=>∃B:List Bool,ys=B.map V.bl/\B.length=j) (fun D hD=>⟨[],rfl,rfl⟩) ?_ ?_
   ·intro D j ys H' R1 R2 hD hj hsm hDl hp k1 k2
    obtain ⟨B,rfl,hB⟩:=hp
    exact a_A ⟨_,rfl,_,_,rfl,rfl,by decide,rfl,k1 _ H' hDl (Same.set hsm hD) ⟨B++[_],by rw [List.map_append];rfl,by rw [List.length_append,hB];rfl⟩⟩
   ·intro D ys H' hD hsm hDl hp
    obtain ⟨B,rfl,hB⟩:=hp
    refine ⟨D,_,rfl,.inl ⟨SqL.of hDl,fun tm htm=>⟨a_i (by show 3≤16777216;decide),fun m hm=>?_⟩⟩⟩
    have htw':H' tw=some (.tup (rows.map V.ref)):=hsm _ _ upd_same
    have up:Same H2 (L2.upd (L2.upd H' tm (.tup (B.map V.bl))) m (.tup [.str (tx L),.ref tw,.ref tm])):=((Same.upd htw).trans hsm).trans ((Same.upd htm).trans (Same.upd hm))
    exact q m W B _ (sm.trans up) ⟨tw,tm,rows,upd_same,a_f (a_f htw' htm) hm,a_f upd_same hm,by omega,hrows.same up⟩ ⟨hL,by omega,by omega,by omega,fun ws hws=>⟨(hW ws hws).1,fun x hx=>by rw [hWl];exact (hW ws hws).2 x hx⟩⟩ (by omega)
theorem b_X:a_l ["_law_script","_law_letters_here","_law_kind","_law_size"] ["_law_script","_law_letters_here"] (a_c b_a):=⟨rfl,rfl,rfl,by decide +kernel,rfl,by decide +kernel,by decide +kernel⟩
theorem e_t (F:Fun K "_law_acting" "_law_acting" b_a f fd) (T:Txt K mg cA_ cC_ cE_ cJ_) (d__law_cell_at:Df P w K mg base "_law_cell_at" 1 ["_law_script","_law_k"] (c_L K)) (d__law_machine:Df P w K mg base "_law_machine" 2 ["_law_script","_law_at","_law_rooms","_law_letters_here"] (c_E K)) (d__law_turns:Df P w K mg base "_law_turns" 2 ["_law_script","_law_letters_here"] (e_z K)) (d__law_forty:Df P w K mg base "_law_forty" 2 ["_law_script","_law_letters_here"] (e_z K)):FnOk P w K mg base CX0 3 f fd ["_law_script","_law_letters_here"] (d_T K):=by
 refine F.ok b_X (fun vs H Q E h=>?_) (fun cdv A outer s H vs Q E hr h=>?_)
 ·obtain ⟨a,ns,L,rfl,_⟩:=h
  rfl
 ·obtain ⟨a,ns,L,rfl,hS,hL,q⟩:=h
  have hr1:=hr.mono (j:=1) (by decide)
  refine ⟨_,(a_b ((a_j (i:=2) b_X.nd rfl (Or.inl rfl) (a_w op_m (a_H d__law_cell_at hr1 (a_a (pv 0) (a_a (pe_int) a_d))) pe_int))) (a_b ((a_j (i:=3) b_X.nd rfl (Or.inl rfl) ((a_H d__law_cell_at hr1 (a_a (pv 0) (a_a (pe_int) a_d)))))) (a_b ((c_j (a_y c_b (pv 2) pe_int (a_E _)) ((a_e (a_q (a_H d__law_machine hr (a_a (pv 0) (a_a (pe_int) (a_a (a_w op_a pe_int (a_w op_m (pv 3) pe_int)) (a_a (pv 1) a_d)))))))) (a_K))) (a_b ((c_j (a_y c_b (pv 2) pe_int (a_E _)) ((a_e (a_q (a_H d__law_machine hr (a_a (pv 0) (a_a (pe_int) (a_a (a_w op_a pe_int (a_w op_m (pv 3) pe_int)) (a_a (c_F sl_str (pv 1) d_q (d_p pe_int)) a_d)))))))) (a_K))) (a_b ((c_j (a_y c_b (pv 2) pe_int (a_E _)) ((a_e (a_q (a_H d__law_turns hr (a_a (pv 0) (a_a (pv 1) a_d)))))) (a_K))) (a_b ((c_j (a_y c_b (pv 2) pe_int (a_E _)) ((a_e (a_q (a_H d__law_forty hr (a_a (pv 0) (a_a (pv 1) a_d)))))) (a_K))) (a_e (a_q (a_H d__law_machine hr (a_a (pv 0) (a_a (pe_int) (a_a (a_w op_a pe_int (a_w op_m (pv 3) pe_int)) (a_a (pv 1) a_d))))))))))))),?_⟩
  have mk:∀(b m:Nat) (z:Int) (L2:List Nat),1≤b->0<m->b+m≤9->Let L2->c_E K [.ref a,.int 4,.int ((b:Int)+z % (m:Int)),.str (tx L2)] H Q E:=fun b m z L2 hb hm hbm hL2=>by
   obtain ⟨n,en,n1,n2⟩:=ar_room z b m hm
   exact ⟨a,ns,4,n,L2,by rw [en],hS,by decide,by omega,by omega,hL2,fun p W B H' s' hM hMa hW=>q p L2 W B H' s' hM hMa (by omega)⟩
  refine ⟨_,rfl,a,ns,1,rfl,hS,by decide,fun z0=>⟨_,_,rfl,rfl,by decide,?_⟩⟩
  refine ⟨_,rfl,a,ns,3,rfl,hS,by decide,fun z1=>?_⟩
  refine ⟨_,rfl,rfl,_,rfl,ite3 (fun _=>?_) (fun _=>⟨_,rfl,rfl,_,rfl,ite3 (fun _=>?_) (fun _=>⟨_,rfl,rfl,_,rfl,ite3 (fun _=>?_) (fun _=>⟨_,rfl,rfl,_,rfl,ite3 (fun _=>?_) (fun _=>?_)⟩)⟩)⟩)⟩
  ·exact ⟨_,rfl,_,rfl,_,_,rfl,rfl,by decide,_,_,rfl,rfl,_,rfl,mk 1 3 z1 L (by decide) (by decide) (by decide) hL⟩
  ·refine ⟨_,rfl,_,rfl,_,_,rfl,rfl,by decide,_,_,rfl,rfl,_,rfl,_,rfl,_,rfl,a_i (by rw [a_R];exact Nat.le_trans hL.hi (by decide)),?_⟩
   rw [show Txt.slice (tx L) none (some 1)=tx (L.take 1) from by
    have e:=slice_to (tx L) (show (0:Int)≤1 by decide)
    rw [c_U] at e
    exact e]
   exact mk 1 8 z1 _ (by decide) (by decide) (by decide) (let1 hL)
  ·exact ⟨_,rfl,_,rfl,a,ns,L,rfl,hS,hL,fun m W B H' s' hM hMa hW=>q m L W B H' s' hM hMa hW⟩
  ·exact ⟨_,rfl,_,rfl,a,ns,L,rfl,hS,hL,fun m W B H' s' hM hMa hW=>q m L W B H' s' hM hMa hW⟩
  ·exact ⟨_,rfl,_,rfl,_,_,rfl,rfl,by decide,_,_,rfl,rfl,_,rfl,mk 4 5 z1 L (by decide) (by decide) (by decide) hL⟩
theorem b_M:a_l ["_law_machine_here","_law_told"] ["_law_machine_here"] (a_c b_s):=⟨rfl,rfl,rfl,by decide +kernel,rfl,by decide +kernel,by decide +kernel⟩
theorem f_i (F:Fun K "_law_asked" "_law_asked" b_s f fd) (T:Txt K mg cA_ cC_ cE_ cJ_) (TG:TgK K mg cJ_ cA_ fX fdX) (d_lots_of_acts:DfX P w K mg base "lots_of_acts" 9 ["machine"] (d_R cJ_ P0 sites)) (d_groups_of:DfX P w K mg base "groups_of" 9 ["machine"] (d_S cJ_ P0 sites)):FnOk P w K mg base CX0 10 f fd ["_law_machine_here"] (d_k cJ_ P0 sites):=by
 refine F.ok b_M (fun vs H Q E h=>?_) (fun cdv A outer s H vs Q E hr h=>?_)
 ·obtain ⟨m,L,W,B,rfl,_⟩:=h
  rfl
 ·obtain ⟨m,L,W,B,rfl,hM,hMa,hW8,hT,q0,q⟩:=h
  refine ⟨_,(a_b ((a_j (i:=1) b_M.nd rfl (Or.inl rfl) (pe_non))) (a_b ((ps_tryXN (R:=cJ_) ⟨rfl,rfl,rfl,rfl,TG.kT,fun v=>(a_e ((a_j (i:=1) b_M.nd rfl (Or.inl rfl) (pe_non)))),by decide⟩ (px_asg2 (j:=1) b_M.nd d_lots_of_acts hr (a_a (pv 0) a_d) d_groups_of hr (a_a (pv 0) a_d) rfl (Or.inl rfl)))) (a_e (a_q (pv 1))))),?_⟩
  refine ⟨_,rfl,m,L,W,B,rfl,hM,hMa,hW8,hT,fun d H' _ _ _ _=>⟨TG.exm,_,rfl,q0 _⟩,fun l ps ks ws H1 s1 hT1 hL fw=>?_⟩
  refine ⟨_,rfl,m,L,W,B,rfl,hM.tups (sameX_tup s1 hT),hMa,hW8,hT1,fun d H' _ _ _ _=>⟨TG.exm,_,rfl,q0 _⟩,fun g gp gm ks' ws' H2 s2 hT2 hG fw' _=>?_⟩
  obtain ⟨rfl,rfl⟩:=fw'.uniq fw hMa.lt.nd
  intro t ht
  have hL2:LotAt H2 l ps ks':=⟨tab_get s2 hT1 hL.1 (fun _ z=>nomatch z),hL.2.1,hL.2.2.1,fun i p e=>tab_get s2 hT1 (hL.2.2.2 i p e) (fun _ z=>nomatch z)⟩
  exact ⟨_,rfl,q t l g ps gp gm ks' ws' _ upd_same (hL2.same (Same.upd ht)) (hG.same (Same.upd ht)) fw'⟩
theorem b_v:a_l ["_law_lots","_law_cells_here","_law_right","_law_left","_law_whole"] ["_law_lots"] (a_c b_r):=⟨rfl,rfl,rfl,by decide +kernel,rfl,by decide +kernel,by decide +kernel⟩
theorem f_h (F:Fun K "_law_cells" "_law_cells" b_r f fd) (T:Txt K mg cA_ cC_ cE_ cJ_):FnOk P w K mg base CX0 1 f fd ["_law_lots"] (e_P P w):=by
 refine F.ok b_v (fun vs H Q E h=>?_) (fun cdv A outer s H vs Q E hr h=>?_)
 ·obtain ⟨l,ps,ks,rfl,_⟩:=h
  rfl
 ·obtain ⟨l,ps,ks,rfl,hL,hk40,q⟩:=h
  refine ⟨_,(a_b ((a_j (i:=1) b_v.nd rfl (Or.inl rfl) (e_Y))) (a_b ((b_C PassesOwn.never rfl (c_O (pv 0)) (e_C rfl (b_b (a_r (i:=2) b_v.nd rfl (Or.inl rfl)) (b_b (a_r (i:=3) b_v.nd rfl (Or.inl rfl)) (b_b (a_r (i:=4) b_v.nd rfl (Or.inl rfl)) d_r)))) (a_e (ps_asg (a_w op_a (pe_bmD PySem.F.slot_dict_get PySem.F.type_dict_get (mt_getW hr.units) (pv 1) (a_a ((d_y (a_a (pv 2) (a_a (pv 3) a_d)))) (a_a (pe_int) a_d))) pe_int) (pg_sub (pv 1) (d_y (a_a (pv 2) (a_a (pv 3) a_d))) (set_dictC hr.units)))))) (a_e (a_q (pv 1))))),?_⟩
  refine ⟨false,fun d hd=>?_⟩
  have b2:(2:Nat)≤sizeLine:=a_i (by show 2≤16777216;decide)
  refine ⟨_,rfl,l,rfl,⟨_,SqL.of (a_f hL.1 hd)⟩,c_p (K:=K) (a:=l) (xs:=ps.map V.ref) (fun i σ' H'=>∃s2 s3 s4,σ'=[some (.ref l),some (.ref d),s2,s3,s4]/\Same H H'/\d_F P w H' d i (b_V i (nR ks) (nL ks))) ⟨_,_,_,rfl,Same.upd hd,[],upd_same,by simp,Nat.le_refl _,fun a b=>rfl⟩ ?_ ?_ ?_⟩
  ·rintro i σ' H' hi ⟨_,_,_,rfl,sm,_⟩
   exact SqL.of (sm _ _ hL.1)
  ·rintro i x σ' H1 hx ⟨s2,s3,s4,rfl,sm,hc⟩
   rw [List.getElem?_map] at hx
   obtain ⟨t,ht,rfl⟩:=Option.map_eq_some_iff.mp hx
   have hi:i<ks.length:=by rw [<- hL.2.1];exact (List.getElem?_eq_some_iff.mp ht).1
   refine ⟨t,_,rfl,SqT.of (sm _ _ (hL.2.2.2 i t ht)),rfl,_,_,rfl,_,_,rfl,_,_,rfl,rfl,?_⟩
   refine ⟨_,rfl,⟨d,rfl,hc.isD⟩,_,rfl,_,rfl,b2,fun t1 ht1=>?_⟩
   have s1:=Same.upd (o:=.tup [.int (nR ks i:Int),.int (nL ks i:Int)]) ht1
   have e1:L2.upd H1 t1 (.tup [.int (nR ks i:Int),.int (nL ks i:Int)]) t1=some (.tup [.int (nR ks i:Int),.int (nL ks i:Int)]):=upd_same
   generalize L2.upd H1 t1 (.tup [.int (nR ks i:Int),.int (nL ks i:Int)])=H2 at s1 e1
   obtain ⟨o,g,go⟩:=(hc.same s1).get e1
   refine ⟨d,_,_,o,rfl,rfl,g,?_⟩
   rw [go]
   refine ⟨_,_,rfl,rfl,_,rfl,_,rfl,_,rfl,b2,fun t2 ht2=>?_⟩
   have s3':=Same.upd (o:=.tup [.int (nR ks i:Int),.int (nL ks i:Int)]) ht2
   have e2:L2.upd H2 t2 (.tup [.int (nR ks i:Int),.int (nL ks i:Int)]) t2=some (.tup [.int (nR ks i:Int),.int (nL ks i:Int)]):=upd_same
   generalize L2.upd H2 t2 (.tup [.int (nR ks i:Int),.int (nL ks i:Int)])=H3 at s3' e2
   obtain ⟨kvs,k,z1,z2,z3,z4,z5⟩:=((hc.same s1).same s3').put e2
   exact ⟨d,kvs,k,t2,rfl,rfl,z1,z2,z3,a_T (by omega),_,_,_,rfl,Same.set ((sm.trans s1).trans s3') hd,z5⟩
  ·rintro σ' H1 ⟨s2,s3,s4,rfl,sm,hc⟩
   rw [List.length_map,hL.2.1] at hc
   obtain ⟨kvs,z1,z2,z3,z4⟩:=hc
   exact ⟨_,rfl,q d H1 sm ⟨kvs,z1,z2,Nat.le_trans z3 hk40,z4⟩⟩
theorem b_i:a_l ["_law_lots","_law_cells_here","_law_sizes","_law_one","_law_other","_law_many"] ["_law_lots"] (a_c b_H):=⟨rfl,rfl,rfl,by decide +kernel,rfl,by decide +kernel,by decide +kernel⟩
theorem ok__law_even (F:Fun K "_law_even" "_law_even" b_H f fd) (T:Txt K mg cA_ cC_ cE_ cJ_) (d__law_cells:Df P w K mg base "_law_cells" 1 ["_law_lots"] (e_P P w)):FnOk P w K mg base CX0 2 f fd ["_law_lots"] (sp_even P w):=by
 refine F.ok b_i (fun vs H Q E h=>?_) (fun cdv A outer s H vs Q E hr h=>?_)
 ·obtain ⟨l,ps,L,W,B,ks,ws,rfl,_⟩:=h
  rfl
 ·obtain ⟨l,ps,L,W,B,ks,ws,rfl,hL,tb,q⟩:=h
  have hk40:=tb.fw.le
  have nu:=tb.num
  have b2:(2:Nat)≤sizeLine:=a_i (by show 2≤16777216;decide)
  refine ⟨_,(a_b ((a_j (i:=1) b_i.nd rfl (Or.inl rfl) ((a_H d__law_cells hr (a_a (pv 0) a_d))))) (a_b ((a_j (i:=2) b_i.nd rfl (Or.inl rfl) (e_Y))) (a_b ((b_C PassesOwn.never rfl (c_O (pv 0)) (a_r (i:=3) b_i.nd rfl (Or.inl rfl)) ((a_e ((b_C PassesOwn.never rfl (c_O (pv 0)) (a_r (i:=4) b_i.nd rfl (Or.inl rfl)) ((a_b ((c_j ((pw_and (a_y op_ne (a_B b_d (pv 3) (pe_int) (fun _ _=>rfl)) (a_B b_d (pv 4) (pe_int) (fun _ _=>rfl)) (a_E _)) (pw_and1 ((pw_or (a_y c_b (a_B b_d (pv 3) (pe_int) (fun _ _=>rfl)) (a_B b_d (pv 4) (pe_int) (fun _ _=>rfl)) (a_E _)) (pw_or1 (a_y c_b (a_B b_d (pv 3) (pe_int) (fun _ _=>rfl)) (a_B b_d (pv 4) (pe_int) (fun _ _=>rfl)) (a_E _)))).pt))).pt) ((a_e (a_q pe_bl))) (a_K))) (a_e ((c_j (a_y c_b (a_B b_d (pv 3) (pe_int) (fun _ _=>rfl)) (a_B b_d (pv 4) (pe_int) (fun _ _=>rfl)) (a_E _)) ((a_b ((a_j (i:=5) b_i.nd rfl (Or.inl rfl) ((pe_bmD PySem.F.slot_dict_get PySem.F.type_dict_get (mt_getW hr.units) (pv 1) (a_a ((d_y (a_a (a_B b_d (pv 3) (pe_int) (fun _ _=>rfl)) (a_a (a_B b_d (pv 4) (pe_int) (fun _ _=>rfl)) a_d)))) (a_a (pe_int) a_d)))))) (a_e ((c_j (a_y op_ne (pe_bmD PySem.F.slot_dict_setdefault PySem.F.type_dict_setdefault mt_setdef (pv 2) (a_a (a_B b_d (pv 3) (pe_int) (fun _ _=>rfl)) (a_a (pv 5) a_d))) (pv 5) (a_E _)) ((a_e (a_q pe_bl))) (a_K)))))) (a_K)))))))))))) (a_e (a_q pe_bl))))),?_⟩
  refine ⟨_,rfl,l,ps,ks,rfl,hL,hk40,fun d1 H1 s1 hc=>?_⟩
  refine ⟨true,fun d2 hd2=>?_⟩
  have s2:Same H1 (L2.upd H1 d2 (newW P w d2 true)):=Same.upd hd2
  have hL1:=hL.same s1
  have z0:d_g P w (L2.upd H1 d2 (newW P w d2 true)) d2 0 (fun k c=>∀z,z<ks.length->nJ ks z=k->b_V ks.length (nR ks) (nL ks) (nR ks z) (nL ks z)=c):=⟨[],upd_same,Nat.le_refl _,fun k v hv=>by cases hv⟩
  refine ⟨_,rfl,l,rfl,⟨_,SqL.of (s2 _ _ hL1.1)⟩,c_p (K:=K) (a:=l) (xs:=ps.map V.ref) (fun i σ' H'=>∃s3 s4 s5,σ'=[some (.ref l),some (.ref d1),some (.ref d2),s3,s4,s5]/\Same H1 H'/\d_g P w H' d2 (i * 40) (fun k c=>∀z,z<ks.length->nJ ks z=k->b_V ks.length (nR ks) (nL ks) (nR ks z) (nL ks z)=c)) ⟨_,_,_,rfl,s2,by rw [Nat.zero_mul];exact z0⟩ ?_ ?_ ?_⟩
  ·rintro i σ' H' hi ⟨_,_,_,rfl,sm,_⟩
   exact SqL.of (sm _ _ hL1.1)
  ·rintro i x σ' H3 hx ⟨s3,s4,s5,rfl,sm3,hz3⟩
   rw [List.getElem?_map] at hx
   obtain ⟨t,ht,rfl⟩:=Option.map_eq_some_iff.mp hx
   have hi:i<ks.length:=by rw [<- hL.2.1];exact (List.getElem?_eq_some_iff.mp ht).1
   refine ⟨_,rfl,l,rfl,⟨_,SqL.of (sm3 _ _ hL1.1)⟩,c_p (K:=K) (a:=l) (xs:=ps.map V.ref) (fun j σ' H'=>∃s4 s5,σ'=[some (.ref l),some (.ref d1),some (.ref d2),some (.ref t),s4,s5]/\Same H1 H'/\d_g P w H' d2 (i * 40+j) (fun k c=>∀z,z<ks.length->nJ ks z=k->b_V ks.length (nR ks) (nL ks) (nR ks z) (nL ks z)=c)) ⟨_,_,rfl,sm3,hz3⟩ ?_ ?_ ?_⟩
   ·rintro j σ' H' hj ⟨_,_,rfl,sm,_⟩
    exact SqL.of (sm _ _ hL1.1)
   ·rintro j x σ' H4 hx ⟨s4,s5,rfl,sm,hz⟩
    rw [List.getElem?_map] at hx
    obtain ⟨u,hu,rfl⟩:=Option.map_eq_some_iff.mp hx
    have hj:j<ks.length:=by rw [<- hL.2.1];exact (List.getElem?_eq_some_iff.mp hu).1
    have ha:=SqT.of (K:=K) (sm _ _ (hL1.2.2.2 i t ht))
    have hb:=SqT.of (K:=K) (sm _ _ (hL1.2.2.2 j u hu))
    have inj:∀{x y:Nat},V.int (x:Int)=V.int (y:Int)->x=y:=fun z=>Int.ofNat.inj (V.int.inj z)
    refine ⟨_,rfl,t,_,_,_,rfl,rfl,ha,a_u (j:=2) rfl,_,rfl,u,_,_,_,rfl,rfl,hb,a_u (j:=2) rfl,rfl,_,rfl,?_⟩
    by_cases e:nJ ks i=nJ ks j
    ·refine iteNS (by rw [e]) (iteF ?_)
     refine ⟨_,rfl,t,_,_,_,rfl,rfl,ha,a_u (j:=2) rfl,_,rfl,u,_,_,_,rfl,rfl,hb,a_u (j:=2) rfl,rfl,_,rfl,iteD (by rw [e]) ?_⟩
     have hc4:=hc.same sm
     refine ⟨_,rfl,⟨d1,rfl,hc4.isD⟩,_,rfl,t,_,_,_,rfl,rfl,ha,a_u (j:=0) rfl,_,rfl,u,_,_,_,rfl,rfl,hb,a_u (j:=1) rfl,b2,fun tt htt=>?_⟩
     have s6:=Same.upd (o:=.tup [.int (nR ks i:Int),.int (nL ks j:Int)]) htt
     have e6:L2.upd H4 tt (.tup [.int (nR ks i:Int),.int (nL ks j:Int)]) tt=some (.tup [.int (nR ks i:Int),.int (nL ks j:Int)]):=upd_same
     generalize L2.upd H4 tt (.tup [.int (nR ks i:Int),.int (nL ks j:Int)])=H6 at s6 e6
     obtain ⟨o,g,go⟩:=(hc4.same s6).get e6
     refine ⟨d1,_,_,o,rfl,rfl,g,?_⟩
     rw [go]
     have hz6:=hz.same s6
     have sm6:=sm.trans s6
     have ha6:=SqT.of (K:=K) (sm6 _ _ (hL1.2.2.2 i t ht))
     have d2n:H1 d2=none:=hd2
     refine ⟨_,rfl,⟨d2,rfl,let ⟨kvs,z,_⟩:=hz6;.inl ⟨kvs,z⟩⟩,_,rfl,t,_,_,_,rfl,rfl,ha6,a_u (j:=2) rfl,_,rfl,?_⟩
     dsimp only [tNil]
     refine hz6.ask (by omega) (fun z hz' ez=>(nu.even hi hj hz' e ez.symm).symm) (fun c' h=>by rw [<- h i hi rfl];exact (nu.even hi hj hi e rfl).symm) fun H7 s7 hz7=>?_
     exact ⟨_,rfl,rfl,_,rfl,iteNS rfl ⟨_,_,rfl,fun b o z=>s7 b o (fun y=>by rw [y,d2n] at z;cases z) (sm6 b o z),hz7⟩⟩
    ·have ne:¬ (nR ks i=nR ks j\/nL ks i=nL ks j):=fun z=>e (nu.wide hi hj z)
     have hn:(!decide (V.int (nJ ks i:Int)=V.int (nJ ks j:Int)))=true:=by rw [decide_eq_false (fun z=>e (inj z))];rfl
     rw [hn]
     refine iteT ⟨_,rfl,t,_,_,_,rfl,rfl,ha,a_u (j:=0) rfl,_,rfl,u,_,_,_,rfl,rfl,hb,a_u (j:=0) rfl,rfl,_,rfl,iteN (fun z=>ne (.inl (inj z))) ?_⟩
     refine ⟨_,rfl,t,_,_,_,rfl,rfl,ha,a_u (j:=1) rfl,_,rfl,u,_,_,_,rfl,rfl,hb,a_u (j:=1) rfl,rfl,_,rfl,iteN (fun z=>ne (.inr (inj z))) ?_⟩
     exact ⟨_,rfl,t,_,_,_,rfl,rfl,ha,a_u (j:=2) rfl,_,rfl,u,_,_,_,rfl,rfl,hb,a_u (j:=2) rfl,rfl,_,rfl,iteN (fun z=>e (inj z)) ⟨_,_,rfl,sm,hz.mono (by omega)⟩⟩
   ·rintro σ' H4 ⟨s4,s5,rfl,sm,hz⟩
    rw [List.length_map,hL.2.1] at hz
    exact ⟨_,_,_,rfl,sm,hz.mono (by omega)⟩
  ·rintro σ' H3 ⟨s3,s4,s5,rfl,sm,_⟩
   exact q H3 (s1.trans sm)
theorem c_J:a_l ["_law_script","_law_letters_here","_law_machine_here","_law_told","_law_lots","_law_groups","_law_sizes","_law_once","_law_members","_law_due"] ["_law_script"] (a_c e_U):=⟨rfl,rfl,rfl,by decide +kernel,rfl,by decide +kernel,by decide +kernel⟩
theorem ok_law (F:Fun K "law" "law" e_U f fd) (T:Txt K mg cA_ cC_ cE_ cJ_) (d__law_cell_at:Df P w K mg base "_law_cell_at" 1 ["_law_script","_law_k"] (c_L K)) (d__law_letters:Df P w K mg base "_law_letters" 1 ["_law_cell"] sp_letters) (d__law_acting:Df P w K mg base "_law_acting" 3 ["_law_script","_law_letters_here"] (d_T K)) (d__law_asked:Df P w K mg base "_law_asked" 10 ["_law_machine_here"] (d_k cJ_ P0 sites)) (d__law_even:Df P w K mg base "_law_even" 2 ["_law_lots"] (sp_even P w)):FnOk P w K mg base CX0 11 f fd ["_law_script"] (spLawT K [(cT,P0)]):=by
 refine F.ok c_J (fun vs H Q E h=>?_) (fun cdv A outer s H vs Q E hr h=>?_)
 ·obtain ⟨a,ns,rfl,_⟩:=h
  rfl
 ·obtain ⟨a,ns,rfl,hS,hlen,hT0,k⟩:=h
  have hr1:=hr.mono (j:=1) (by decide)
  have hr2:=hr.mono (j:=2) (by decide)
  have hr3:=hr.mono (j:=3) (by decide)
  refine ⟨_,(a_b ((a_j (i:=1) c_J.nd rfl (Or.inl rfl) ((a_H d__law_letters hr1 (a_a ((a_H d__law_cell_at hr1 (a_a (pv 0) (a_a (pe_int) a_d)))) a_d))))) (a_b ((a_j (i:=2) c_J.nd rfl (Or.inl rfl) ((a_H d__law_acting hr3 (a_a (pv 0) (a_a (pv 1) a_d)))))) (a_b ((a_j (i:=3) c_J.nd rfl (Or.inl rfl) ((a_H d__law_asked hr (a_a (pv 2) a_d))))) (a_b ((c_j (a_y op_isN (pv 3) pe_non (a_E _)) ((a_e (a_q pe_bl))) (a_K))) (a_b (ps_asg (pv 3) (e_C rfl (b_b (a_r (i:=4) c_J.nd rfl (Or.inr rfl)) (b_b (a_r (i:=5) c_J.nd rfl (Or.inl rfl)) d_r)))) (a_b ((c_j (pt_not (pt_val (a_H d__law_even hr2 (a_a (pv 4) a_d)))) ((a_e (a_q pe_bl))) (a_K))) (a_b ((a_j (i:=6) c_J.nd rfl (Or.inl rfl) (e_Y))) (a_b ((b_C PassesOwn.never rfl (c_O (pv 5)) (e_C rfl (b_b (a_r (i:=7) c_J.nd rfl (Or.inr rfl)) (b_b (a_r (i:=8) c_J.nd rfl (Or.inl rfl)) d_r))) (a_b (ps_setCompS ["_law_script","_law_letters_here","_law_machine_here","_law_told","_law_lots","_law_groups","_law_sizes","_law_once","_law_members","_law_due"] (j:=9) rfl c_J.nd (by decide) rfl (Or.inl rfl) (a_L rfl T.range (a_a (a_p a_n (by rfl) T.len PySem.boot_len (a_a (pv 4) a_d)) a_d)) (fun cl C fp s' H'=>⟨e_V (a_y (op_eqTi K hr.units0) (c_F (sl_tupK K) (a_B (d_c K) (pv 5) (pv 0) (fun _ _=>rfl)) d_q (d_p pe_int)) (c_F (sl_tupK K) (a_B (d_c K) (pv 5) (pv 8) (fun _ _=>rfl)) d_q (d_p pe_int)) (a_E _)),pv 0⟩)) (a_e ((c_j ((pw_or (a_y (op_neL hr.units0) (pv 8) (pv 9) (a_E _)) (pw_or1 (a_y op_ne (pe_bmD PySem.F.slot_dict_setdefault PySem.F.type_dict_setdefault mt_setdef (pv 6) (a_a (a_B b_d (a_B b_I (pv 4) (pv 7) (fun _ _=>rfl)) (pe_int) (fun _ _=>rfl)) (a_a ((a_p a_n (by rfl) T.len PySem.boot_len (a_a (pv 9) a_d))) a_d))) (a_p a_n (by rfl) T.len PySem.boot_len (a_a (pv 9) a_d)) (a_E _)))).pt) ((a_e (a_q pe_bl))) (a_K))))))) (a_e (a_q pe_bl)))))))))),?_⟩
  have hT:b_W H P0 sites:=⟨#[],hT0 _ (List.mem_singleton.mpr rfl),triples_nil,fun q _=>.inl rfl⟩
  refine ⟨_,rfl,a,ns,0,rfl,hS,by decide,fun z0=>⟨z0,rfl,fun L0 hL0=>?_⟩⟩
  refine ⟨_,rfl,_,rfl,a,ns,L0,rfl,hS,hL0,fun m L W B H1 s1 hM1 hMa hW8=>?_⟩
  have hT1:=c_h hT s1
  refine ⟨_,rfl,m,L,W,B,rfl,hM1,hMa,hW8,hT1,fun H'=>⟨_,rfl,rfl,_,rfl,iteD rfl (k _)⟩,fun t l g ps gp gm ks ws H2 ht hL hG fw=>?_⟩
  have tb:Tb L W B ks ws:=⟨hMa,fw⟩
  have nu:=tb.num
  have hk40:=fw.le
  refine ⟨_,rfl,rfl,_,rfl,iteN (fun z=>nomatch z) ?_⟩
  refine ⟨_,rfl,t,_,rfl,SqT.of ht,rfl,_,_,rfl,_,_,rfl,rfl,?_⟩
  refine ⟨_,rfl,l,ps,L,W,B,ks,ws,rfl,hL,tb,fun H3 s3=>⟨_,rfl,iteF ?_⟩⟩
  refine ⟨true,fun d2 hd2=>?_⟩
  have hL3:=hL.same s3
  have hG3:=hG.same s3
  have s4:Same H3 (L2.upd H3 d2 (newW P w d2 true)):=Same.upd hd2
  have z0:d_g P w (L2.upd H3 d2 (newW P w d2 true)) d2 0 (fun k c=>∀z,z<ks.length->nJ ks z=k->b_V ks.length (nR ks) (nL ks) (nR ks z) (nL ks z)=c):=⟨[],upd_same,Nat.le_refl _,fun k v hv=>by cases hv⟩
  refine ⟨_,rfl,g,rfl,⟨_,SqL.of (s4 _ _ hG3.1)⟩,c_p (K:=K) (a:=g) (xs:=gp.map V.ref) (fun i σ' H'=>∃s7 s8 s9,σ'=[some (.ref a),some (.str (tx L0)),some (.ref m),some (.ref t),some (.ref l),some (.ref g),some (.ref d2),s7,s8,s9]/\Same H3 H'/\d_g P w H' d2 i (fun k c=>∀z,z<ks.length->nJ ks z=k->b_V ks.length (nR ks) (nL ks) (nR ks z) (nL ks z)=c)) ⟨_,_,_,rfl,s4,z0⟩ ?_ ?_ ?_⟩
  ·rintro i σ' H' hi ⟨_,_,_,rfl,sm,_⟩
   exact SqL.of (sm _ _ hG3.1)
  ·rintro i x σ' H5 hx ⟨s7,s8,s9,rfl,sm,hz⟩
   rw [List.getElem?_map] at hx
   obtain ⟨u,hu,rfl⟩:=Option.map_eq_some_iff.mp hx
   have hil:i<gp.length:=(List.getElem?_eq_some_iff.mp hu).1
   have hgl:gm[i]?=some (gm[i]'(by rw [hG3.2.2.1];exact hil)):=List.getElem?_eq_getElem _
   generalize gm[i]'(by rw [hG3.2.2.1];exact hil)=ml at hgl
   obtain ⟨e,g1,g2,g3⟩:=hG3.2.2.2 i u ml hu hgl
   have hem:e∈onces ks:=List.mem_of_getElem? g1
   have he:=onces_lt hem
   have hee:=(List.mem_filter.mp hem).2
   have i40:i≤40:=by have:=hG3.2.1;have:=onces_len ks;omega
   refine ⟨u,_,rfl,SqT.of (sm _ _ g2),rfl,_,_,rfl,_,_,rfl,rfl,?_⟩
   have pe:∀{k:Nat},k<ks.length->∃p,ps[k]?=some p/\∀{H'},Same H3 H'->SqT K H' p [.int (nR ks k:Int),.int (nL ks k:Int),.int (nJ ks k:Int)]:=fun {k} hk=>by
    have hk':k<ps.length:=by rw [hL3.2.1];exact hk
    exact ⟨ps[k],List.getElem?_eq_getElem hk',fun {H'} s=>SqT.of (s _ _ (hL3.2.2.2 k _ (List.getElem?_eq_getElem hk')))⟩
   obtain ⟨q0,q1,q2⟩:=pe he
   have cut:∀{x y z:V},cutV [x,y,z] none (some 2)=[x,y]:=fun {x y z}=>rfl
   dsimp only [c_n]
   dsimp only [tNext,tSeq,tAsg,c_t,c_H,tBM,tCB]
   refine c_f (n:=ks.length) (fun R h=>⟨_,rfl,l,_,rfl,.inl (SqL.of (sm _ _ hL3.1)),by rw [List.length_map,hL3.2.1];exact h⟩) (Nat.le_trans hk40 (by decide)) (fun D j ys H'=>ys=intsV ((List.range j).filter fun k=>decide (nR ks k=nR ks e)&&decide (nL ks k=nL ks e))) (fun D hD=>rfl) ?_ ?_
   ·intro D j ys H6 R1 R2 hD hj hsm hDl hp k1 k2
    obtain ⟨p0,p1,p2⟩:=pe hj
    have sm6:=sm.trans hsm
    have zj:(0:Int)+(j:Int)=(j:Int):=Int.zero_add _
    refine ⟨_,rfl,_,rfl,l,_,_,_,rfl,rfl,SqL.of (sm6 _ _ hL3.1),by rw [zj];exact c_r V.ref p1,_,rfl,p0,_,rfl,p2 sm6,(show ¬ (HT.sIx 3 0 none=0/\HT.sIx 3 3 (some 2)=3) by decide),fun t1 ht1=>?_⟩
    have s7':=Same.upd (o:=.tup [.int (nR ks j:Int),.int (nL ks j:Int)]) ht1
    have e7:L2.upd H6 t1 (.tup [.int (nR ks j:Int),.int (nL ks j:Int)]) t1=some (.tup (intsV [nR ks j,nL ks j])):=upd_same
    refine ⟨_,rfl,_,rfl,l,_,_,_,rfl,rfl,SqL.of ((sm6.trans s7') _ _ hL3.1),c_r V.ref q1,_,rfl,q0,_,rfl,q2 (sm6.trans s7'),(show ¬ (HT.sIx 3 0 none=0/\HT.sIx 3 3 (some 2)=3) by decide),fun t2 ht2=>?_⟩
    have s8':=Same.upd (o:=.tup [.int (nR ks e:Int),.int (nL ks e:Int)]) ht2
    have e8:=s8' _ _ e7
    have e9:L2.upd (L2.upd H6 t1 (.tup [.int (nR ks j:Int),.int (nL ks j:Int)])) t2 (.tup [.int (nR ks e:Int),.int (nL ks e:Int)]) t2=some (.tup (intsV [nR ks e,nL ks e])):=upd_same
    refine ⟨t1,t2,_,_,rfl,rfl,SqT.of e8,SqT.of e9,rfl,_,rfl,?_⟩
    have ed:decide ([nR ks j,nL ks j]=[nR ks e,nL ks e])=(decide (nR ks j=nR ks e)&&decide (nL ks j=nL ks e)):=by
     rw [Bool.eq_iff_iff,Bool.and_eq_true,decide_eq_true_eq,decide_eq_true_eq,decide_eq_true_eq]
     simp
    rw [ed]
    have sA:=hsm.trans (s7'.trans s8')
    have hDA:=(s7'.trans s8') _ _ hDl
    cases hb:(decide (nR ks j=nR ks e)&&decide (nL ks j=nL ks e)) with
    | true=>
     refine iteT ⟨_,rfl,k1 _ _ hDA (Same.set sA hD) ?_⟩
     rw [hp,b_U,hb,zj]
     exact (b_J _ _).symm
    | false=>
     refine iteF (k2 _ sA hDA ?_)
     rw [hp,b_U,hb]
     simp
   ·intro D ys H6 hD hsm hDl hp
    have hp':ys=intsV (dueL ks e):=hp
    subst hp'
    have sm6:=sm.trans hsm
    have gm6:=sm6 _ _ g3
    rw [tb.group he hee] at gm6
    have hz6:=hz.same hsm
    have dl:(intsV (dueL ks e)).length=b_V ks.length (nR ks) (nL ks) (nR ks e) (nL ks e):=intsV_len _
    refine ⟨_,rfl,_,rfl,ml,D,_,rfl,rfl,SqL.of gm6,SqL.of hDl,ints_flatV _,_,rfl,iteF ?_⟩
    refine ⟨_,rfl,⟨d2,rfl,let ⟨kvs,z,_⟩:=hz6;.inl ⟨kvs,z⟩⟩,_,rfl,_,rfl,l,_,_,_,rfl,rfl,SqL.of (sm6 _ _ hL3.1),c_r V.ref q1,q0,_,_,_,rfl,rfl,q2 sm6,a_u (j:=2) rfl,_,rfl,D,_,rfl,.inl (SqL.of hDl),?_⟩
    rw [dl]
    dsimp only [tNil]
    refine hz6.ask (by omega) (fun z hz' ez=>nu.size hz' he ((nu.j hz' he).mp ez)) (fun c' h=>(h e he rfl).symm) fun H7 s7 hz7=>?_
    have sm7:Same H3 H7:=fun b o z=>s7 b o (fun y=>by rw [y,hd2] at z;cases z) (sm6 b o z)
    have dD:D≠d2:=fun y=>by
     obtain ⟨kvs,z,_⟩:=hz6
     rw [<- y,hDl] at z
     unfold kdO at z
     cases z
    refine ⟨_,rfl,D,_,rfl,.inl (SqL.of (s7 _ _ dD hDl)),?_⟩
    rw [dl]
    exact ⟨rfl,_,rfl,iteNS rfl ⟨_,_,_,rfl,sm7,hz7⟩⟩
  ·rintro σ' H5 ⟨s7,s8,s9,rfl,sm,_⟩
   exact k _
end
theorem a_s (e:K.lookup f=some ⟨oc,od,.func fd,sl⟩):PySem.W.keepIn K (.ref f)=true:=by
 unfold PySem.W.keepIn
 dsimp only
 rw [show List.lookup f K=_ from e]
theorem all_mk {l:PySem.W.OpenLaw} {w:World} {K K0:PySem.W.Frag} {h:Heap} {mg:Str->Option Value} {fa cT P0:Addr} (hK:K=a_G [P0] K0) (X:K.In h) (G:h.Ns mainGlobals mg) (hfa:mg "law"=some (.ref fa))
  {fI:Addr} {odI anI:Option Addr} {slI:Array (Option Value)} {ocI kVI dcI pmI ctI:Value} {cdI:Addr}
  {cW:Addr} (nW:PySem.W.nsIn K mainGlobals "Walk"=some (some (.ref cW))) (hI0:PySem.W.findIn K0 (.ref cW) "__init__"=some (some (.ref fI)))
  (cls:Cls K cW) (mk:Mk K cW fI) (na1:a_I K cW "letters") (na2:a_I K cW "things") (na3:a_I K cW "words") (na4:a_I K cW "ways") (na5:a_I K cW "marks")
   (lI:K.lookup fI=some ⟨ocI,odI,.func (PySem.W.fnOf "__init__" "Walk.__init__" (a_h d_m) (a_g d_m) (a_c d_m) .none kVI dcI pmI anI (.ref cdI) ctI),slI⟩) (cI:PySem.W.codeIn K (.ref cdI) "Walk.__init__"=true)
  {fX:Addr} {odX anX:Option Addr} {slX:Array (Option Value)} {ocX kVX dcX pmX ctX:Value} {cdX:Addr}
  {cJ_ cA_:Addr} (nT:PySem.W.nsIn K mainGlobals "TooGreat"=some (some (.ref cJ_))) (nRE:PySem.W.nsIn K mainGlobals "RoomError"=some (some (.ref cA_))) (hX0:PySem.W.findIn K0 (.ref cJ_) "__init__"=some (some (.ref fX)))
  (xo:OwnI K cJ_ fX) (xc:XCls K cJ_) (xn:a_I K cJ_ "words") (xb:BaseI K cA_) (xf:PySem.W.isFn K (.ref fX)=true) (xe:PySem.W.exmOne K (.ref cJ_) (.ref cJ_)=some true) (ec:ExcCls K cJ_) (exr:PySem.W.exmOne K (.ref cJ_) (.ref cA_)=some true)
   (lX:K.lookup fX=some ⟨ocX,odX,.func (PySem.W.fnOf "__init__" "TooGreat.__init__" (a_h d_l) (a_g d_l) (a_c d_l) .none kVX dcX pmX anX (.ref cdX) ctX),slX⟩) (cX:PySem.W.codeIn K (.ref cdX) "TooGreat.__init__"=true)
  {tD tR:Addr} {ocD:Value} {odD:Option Addr} {slD:Array (Option Value)} {nD:Nat}
  {fV:Addr} {odV anV:Option Addr} {slV:Array (Option Value)} {ocV kVV dcV pmV ctV:Value} {cdV:Addr}
  (aV:PySem.W.nsIn K mainGlobals "walked"=some (some (.ref fV))) (lV:K.lookup fV=some ⟨ocV,odV,.func (PySem.W.fnOf "walked" "walked" (a_h b_f) (a_g b_f) (a_c b_f) (.ref tD) kVV dcV pmV anV (.ref cdV) ctV),slV⟩) (cV:PySem.W.codeIn K (.ref cdV) "walked"=true)
  (lD:K.lookup tD=some ⟨ocD,odD,.seq #[.none] nD,slD⟩)
  {ocR:Value} {odR:Option Addr} {slR:Array (Option Value)} {nR:Nat}
  {fM:Addr} {odM anM:Option Addr} {slM:Array (Option Value)} {ocM kVM dcM pmM ctM:Value}
  (aM:PySem.W.nsIn K mainGlobals "walked_rooms"=some (some (.ref fM))) (lM:K.lookup fM=some ⟨ocM,odM,.func (PySem.W.fnOf "walked_rooms" "walked_rooms" (a_h a_k) (a_g a_k) (a_c a_k) (.ref tR) kVM dcM pmM anM (.ref cT) ctM),slM⟩) (cM:PySem.W.codeIn K (.ref cT) "walked_rooms"=true)
  (lR:K.lookup tR=some ⟨ocR,odR,.seq #[.none] nR,slR⟩)
  {f0:Addr} {od0 an0:Option Addr} {sl0:Array (Option Value)} {oc0 kV0 dc0 pm0 ct0:Value} {cd0:Addr}
  (a0:PySem.W.nsIn K mainGlobals "is_whole"=some (some (.ref f0))) (l0:K.lookup f0=some ⟨oc0,od0,.func (PySem.W.fnOf "is_whole" "is_whole" (a_h b_P) (a_g b_P) (a_c b_P) .none kV0 dc0 pm0 an0 (.ref cd0) ct0),sl0⟩) (c0:PySem.W.codeIn K (.ref cd0) "is_whole"=true)
  {f1:Addr} {od1 an1:Option Addr} {sl1:Array (Option Value)} {oc1 kV1 dc1 pm1 ct1:Value} {cd1:Addr}
  (a1:PySem.W.nsIn K mainGlobals "need_word"=some (some (.ref f1))) (l1:K.lookup f1=some ⟨oc1,od1,.func (PySem.W.fnOf "need_word" "need_word" (a_h b_D) (a_g b_D) (a_c b_D) .none kV1 dc1 pm1 an1 (.ref cd1) ct1),sl1⟩) (c1:PySem.W.codeIn K (.ref cd1) "need_word"=true)
  {f2:Addr} {od2 an2:Option Addr} {sl2:Array (Option Value)} {oc2 kV2 dc2 pm2 ct2:Value} {cd2:Addr}
  (a2:PySem.W.nsIn K mainGlobals "is_room"=some (some (.ref f2))) (l2:K.lookup f2=some ⟨oc2,od2,.func (PySem.W.fnOf "is_room" "is_room" (a_h c_a) (a_g c_a) (a_c c_a) .none kV2 dc2 pm2 an2 (.ref cd2) ct2),sl2⟩) (c2:PySem.W.codeIn K (.ref cd2) "is_room"=true)
  {f3:Addr} {od3 an3:Option Addr} {sl3:Array (Option Value)} {oc3 kV3 dc3 pm3 ct3:Value} {cd3:Addr}
  (a3:PySem.W.nsIn K mainGlobals "need_room"=some (some (.ref f3))) (l3:K.lookup f3=some ⟨oc3,od3,.func (PySem.W.fnOf "need_room" "need_room" (a_h b_E) (a_g b_E) (a_c b_E) .none kV3 dc3 pm3 an3 (.ref cd3) ct3),sl3⟩) (c3:PySem.W.codeIn K (.ref cd3) "need_room"=true)
  {f4:Addr} {od4 an4:Option Addr} {sl4:Array (Option Value)} {oc4 kV4 dc4 pm4 ct4:Value} {cd4:Addr}
  (a4:PySem.W.nsIn K mainGlobals "room_after"=some (some (.ref f4))) (l4:K.lookup f4=some ⟨oc4,od4,.func (PySem.W.fnOf "room_after" "room_after" (a_h b_j) (a_g b_j) (a_c b_j) .none kV4 dc4 pm4 an4 (.ref cd4) ct4),sl4⟩) (c4:PySem.W.codeIn K (.ref cd4) "room_after"=true)
  {f5:Addr} {od5 an5:Option Addr} {sl5:Array (Option Value)} {oc5 kV5 dc5 pm5 ct5:Value} {cd5:Addr}
  (a5:PySem.W.nsIn K mainGlobals "lots_after"=some (some (.ref f5))) (l5:K.lookup f5=some ⟨oc5,od5,.func (PySem.W.fnOf "lots_after" "lots_after" (a_h b_l) (a_g b_l) (a_c b_l) .none kV5 dc5 pm5 an5 (.ref cd5) ct5),sl5⟩) (c5:PySem.W.codeIn K (.ref cd5) "lots_after"=true)
  {f6:Addr} {od6 an6:Option Addr} {sl6:Array (Option Value)} {oc6 kV6 dc6 pm6 ct6:Value} {cd6:Addr}
  (a6:PySem.W.nsIn K mainGlobals "walked_acts"=some (some (.ref f6))) (l6:K.lookup f6=some ⟨oc6,od6,.func (PySem.W.fnOf "walked_acts" "walked_acts" (a_h a_Y) (a_g a_Y) (a_c a_Y) .none kV6 dc6 pm6 an6 (.ref cd6) ct6),sl6⟩) (c6:PySem.W.codeIn K (.ref cd6) "walked_acts"=true)
  {f7:Addr} {od7 an7:Option Addr} {sl7:Array (Option Value)} {oc7 kV7 dc7 pm7 ct7:Value} {cd7:Addr}
  (a7:PySem.W.nsIn K mainGlobals "table"=some (some (.ref f7))) (l7:K.lookup f7=some ⟨oc7,od7,.func (PySem.W.fnOf "table" "table" (a_h d_n) (a_g d_n) (a_c d_n) .none kV7 dc7 pm7 an7 (.ref cd7) ct7),sl7⟩) (c7:PySem.W.codeIn K (.ref cd7) "table"=true)
  {f8:Addr} {od8 an8:Option Addr} {sl8:Array (Option Value)} {oc8 kV8 dc8 pm8 ct8:Value} {cd8:Addr}
  (a8:PySem.W.nsIn K mainGlobals "numbered"=some (some (.ref f8))) (l8:K.lookup f8=some ⟨oc8,od8,.func (PySem.W.fnOf "numbered" "numbered" (a_h b_O) (a_g b_O) (a_c b_O) .none kV8 dc8 pm8 an8 (.ref cd8) ct8),sl8⟩) (c8:PySem.W.codeIn K (.ref cd8) "numbered"=true)
  {f9:Addr} {od9 an9:Option Addr} {sl9:Array (Option Value)} {oc9 kV9 dc9 pm9 ct9:Value} {cd9:Addr}
  (a9:PySem.W.nsIn K mainGlobals "each_once"=some (some (.ref f9))) (l9:K.lookup f9=some ⟨oc9,od9,.func (PySem.W.fnOf "each_once" "each_once" (a_h b_G) (a_g b_G) (a_c b_G) .none kV9 dc9 pm9 an9 (.ref cd9) ct9),sl9⟩) (c9:PySem.W.codeIn K (.ref cd9) "each_once"=true)
  {f10:Addr} {od10 an10:Option Addr} {sl10:Array (Option Value)} {oc10 kV10 dc10 pm10 ct10:Value} {cd10:Addr}
  (a10:PySem.W.nsIn K mainGlobals "right_below"=some (some (.ref f10))) (l10:K.lookup f10=some ⟨oc10,od10,.func (PySem.W.fnOf "right_below" "right_below" (a_h a_Z) (a_g a_Z) (a_c a_Z) .none kV10 dc10 pm10 an10 (.ref cd10) ct10),sl10⟩) (c10:PySem.W.codeIn K (.ref cd10) "right_below"=true)
  {f11:Addr} {od11 an11:Option Addr} {sl11:Array (Option Value)} {oc11 kV11 dc11 pm11 ct11:Value} {cd11:Addr}
  (a11:PySem.W.nsIn K mainGlobals "left_below"=some (some (.ref f11))) (l11:K.lookup f11=some ⟨oc11,od11,.func (PySem.W.fnOf "left_below" "left_below" (a_h b_m) (a_g b_m) (a_c b_m) .none kV11 dc11 pm11 an11 (.ref cd11) ct11),sl11⟩) (c11:PySem.W.codeIn K (.ref cd11) "left_below"=true)
  {f12:Addr} {od12 an12:Option Addr} {sl12:Array (Option Value)} {oc12 kV12 dc12 pm12 ct12:Value} {cd12:Addr}
  (a12:PySem.W.nsIn K mainGlobals "below"=some (some (.ref f12))) (l12:K.lookup f12=some ⟨oc12,od12,.func (PySem.W.fnOf "below" "below" (a_h d_o) (a_g d_o) (a_c d_o) .none kV12 dc12 pm12 an12 (.ref cd12) ct12),sl12⟩) (c12:PySem.W.codeIn K (.ref cd12) "below"=true)
  {f13:Addr} {od13 an13:Option Addr} {sl13:Array (Option Value)} {oc13 kV13 dc13 pm13 ct13:Value} {cd13:Addr}
  (a13:PySem.W.nsIn K mainGlobals "lots_of_acts"=some (some (.ref f13))) (l13:K.lookup f13=some ⟨oc13,od13,.func (PySem.W.fnOf "lots_of_acts" "lots_of_acts" (a_h a_M) (a_g a_M) (a_c a_M) .none kV13 dc13 pm13 an13 (.ref cd13) ct13),sl13⟩) (c13:PySem.W.codeIn K (.ref cd13) "lots_of_acts"=true)
  {f14:Addr} {od14 an14:Option Addr} {sl14:Array (Option Value)} {oc14 kV14 dc14 pm14 ct14:Value} {cd14:Addr}
  (a14:PySem.W.nsIn K mainGlobals "members_of"=some (some (.ref f14))) (l14:K.lookup f14=some ⟨oc14,od14,.func (PySem.W.fnOf "members_of" "members_of" (a_h b_k) (a_g b_k) (a_c b_k) .none kV14 dc14 pm14 an14 (.ref cd14) ct14),sl14⟩) (c14:PySem.W.codeIn K (.ref cd14) "members_of"=true)
  {f15:Addr} {od15 an15:Option Addr} {sl15:Array (Option Value)} {oc15 kV15 dc15 pm15 ct15:Value} {cd15:Addr}
  (a15:PySem.W.nsIn K mainGlobals "groups_of"=some (some (.ref f15))) (l15:K.lookup f15=some ⟨oc15,od15,.func (PySem.W.fnOf "groups_of" "groups_of" (a_h b_F) (a_g b_F) (a_c b_F) .none kV15 dc15 pm15 an15 (.ref cd15) ct15),sl15⟩) (c15:PySem.W.codeIn K (.ref cd15) "groups_of"=true)
  {f16:Addr} {od16 an16:Option Addr} {sl16:Array (Option Value)} {oc16 kV16 dc16 pm16 ct16:Value} {cd16:Addr}
  (a16:PySem.W.nsIn K mainGlobals "_law_cell_at"=some (some (.ref f16))) (l16:K.lookup f16=some ⟨oc16,od16,.func (PySem.W.fnOf "_law_cell_at" "_law_cell_at" (a_h a_P) (a_g a_P) (a_c a_P) .none kV16 dc16 pm16 an16 (.ref cd16) ct16),sl16⟩) (c16:PySem.W.codeIn K (.ref cd16) "_law_cell_at"=true)
  {f17:Addr} {od17 an17:Option Addr} {sl17:Array (Option Value)} {oc17 kV17 dc17 pm17 ct17:Value} {cd17:Addr}
  (a17:PySem.W.nsIn K mainGlobals "_law_letters"=some (some (.ref f17))) (l17:K.lookup f17=some ⟨oc17,od17,.func (PySem.W.fnOf "_law_letters" "_law_letters" (a_h a_O) (a_g a_O) (a_c a_O) .none kV17 dc17 pm17 an17 (.ref cd17) ct17),sl17⟩) (c17:PySem.W.codeIn K (.ref cd17) "_law_letters"=true)
  {f18:Addr} {od18 an18:Option Addr} {sl18:Array (Option Value)} {oc18 kV18 dc18 pm18 ct18:Value} {cd18:Addr}
  (a18:PySem.W.nsIn K mainGlobals "_law_machine"=some (some (.ref f18))) (l18:K.lookup f18=some ⟨oc18,od18,.func (PySem.W.fnOf "_law_machine" "_law_machine" (a_h a_N) (a_g a_N) (a_c a_N) .none kV18 dc18 pm18 an18 (.ref cd18) ct18),sl18⟩) (c18:PySem.W.codeIn K (.ref cd18) "_law_machine"=true)
  {f19:Addr} {od19 an19:Option Addr} {sl19:Array (Option Value)} {oc19 kV19 dc19 pm19 ct19:Value} {cd19:Addr}
  (a19:PySem.W.nsIn K mainGlobals "_law_turns"=some (some (.ref f19))) (l19:K.lookup f19=some ⟨oc19,od19,.func (PySem.W.fnOf "_law_turns" "_law_turns" (a_h b_n) (a_g b_n) (a_c b_n) .none kV19 dc19 pm19 an19 (.ref cd19) ct19),sl19⟩) (c19:PySem.W.codeIn K (.ref cd19) "_law_turns"=true)
  {f20:Addr} {od20 an20:Option Addr} {sl20:Array (Option Value)} {oc20 kV20 dc20 pm20 ct20:Value} {cd20:Addr}
  (a20:PySem.W.nsIn K mainGlobals "_law_order"=some (some (.ref f20))) (l20:K.lookup f20=some ⟨oc20,od20,.func (PySem.W.fnOf "_law_order" "_law_order" (a_h b_p) (a_g b_p) (a_c b_p) .none kV20 dc20 pm20 an20 (.ref cd20) ct20),sl20⟩) (c20:PySem.W.codeIn K (.ref cd20) "_law_order"=true)
  {f21:Addr} {od21 an21:Option Addr} {sl21:Array (Option Value)} {oc21 kV21 dc21 pm21 ct21:Value} {cd21:Addr}
  (a21:PySem.W.nsIn K mainGlobals "_law_third"=some (some (.ref f21))) (l21:K.lookup f21=some ⟨oc21,od21,.func (PySem.W.fnOf "_law_third" "_law_third" (a_h b_o) (a_g b_o) (a_c b_o) .none kV21 dc21 pm21 an21 (.ref cd21) ct21),sl21⟩) (c21:PySem.W.codeIn K (.ref cd21) "_law_third"=true)
  {f22:Addr} {od22 an22:Option Addr} {sl22:Array (Option Value)} {oc22 kV22 dc22 pm22 ct22:Value} {cd22:Addr}
  (a22:PySem.W.nsIn K mainGlobals "_law_forty"=some (some (.ref f22))) (l22:K.lookup f22=some ⟨oc22,od22,.func (PySem.W.fnOf "_law_forty" "_law_forty" (a_h b_q) (a_g b_q) (a_c b_q) .none kV22 dc22 pm22 an22 (.ref cd22) ct22),sl22⟩) (c22:PySem.W.codeIn K (.ref cd22) "_law_forty"=true)
  {f23:Addr} {od23 an23:Option Addr} {sl23:Array (Option Value)} {oc23 kV23 dc23 pm23 ct23:Value} {cd23:Addr}
  (a23:PySem.W.nsIn K mainGlobals "_law_acting"=some (some (.ref f23))) (l23:K.lookup f23=some ⟨oc23,od23,.func (PySem.W.fnOf "_law_acting" "_law_acting" (a_h b_a) (a_g b_a) (a_c b_a) .none kV23 dc23 pm23 an23 (.ref cd23) ct23),sl23⟩) (c23:PySem.W.codeIn K (.ref cd23) "_law_acting"=true)
  {f24:Addr} {od24 an24:Option Addr} {sl24:Array (Option Value)} {oc24 kV24 dc24 pm24 ct24:Value} {cd24:Addr}
  (a24:PySem.W.nsIn K mainGlobals "_law_asked"=some (some (.ref f24))) (l24:K.lookup f24=some ⟨oc24,od24,.func (PySem.W.fnOf "_law_asked" "_law_asked" (a_h b_s) (a_g b_s) (a_c b_s) .none kV24 dc24 pm24 an24 (.ref cd24) ct24),sl24⟩) (c24:PySem.W.codeIn K (.ref cd24) "_law_asked"=true)
  {f25:Addr} {od25 an25:Option Addr} {sl25:Array (Option Value)} {oc25 kV25 dc25 pm25 ct25:Value} {cd25:Addr}
  (a25:PySem.W.nsIn K mainGlobals "_law_cells"=some (some (.ref f25))) (l25:K.lookup f25=some ⟨oc25,od25,.func (PySem.W.fnOf "_law_cells" "_law_cells" (a_h b_r) (a_g b_r) (a_c b_r) .none kV25 dc25 pm25 an25 (.ref cd25) ct25),sl25⟩) (c25:PySem.W.codeIn K (.ref cd25) "_law_cells"=true)
  {f26:Addr} {od26 an26:Option Addr} {sl26:Array (Option Value)} {oc26 kV26 dc26 pm26 ct26:Value} {cd26:Addr}
  (a26:PySem.W.nsIn K mainGlobals "_law_even"=some (some (.ref f26))) (l26:K.lookup f26=some ⟨oc26,od26,.func (PySem.W.fnOf "_law_even" "_law_even" (a_h b_H) (a_g b_H) (a_c b_H) .none kV26 dc26 pm26 an26 (.ref cd26) ct26),sl26⟩) (c26:PySem.W.codeIn K (.ref cd26) "_law_even"=true)
  {f27:Addr} {od27 an27:Option Addr} {sl27:Array (Option Value)} {oc27 kV27 dc27 pm27 ct27:Value} {cd27:Addr}
  (a27:PySem.W.nsIn K mainGlobals "law"=some (some (.ref f27))) (l27:K.lookup f27=some ⟨oc27,od27,.func (PySem.W.fnOf "law" "law" (a_h e_U) (a_g e_U) (a_c e_U) .none kV27 dc27 pm27 an27 (.ref cd27) ct27),sl27⟩) (c27:PySem.W.codeIn K (.ref cd27) "law"=true)
  {cC_:Addr} (nC_:PySem.W.nsIn K mainGlobals "NoWord"=some (some (.ref cC_)))
  {cE_:Addr} (nE_:PySem.W.nsIn K mainGlobals "NoRoom"=some (some (.ref cE_)))
  (iJC_:PySem.W.kitOne K (.ref cJ_) (.ref cC_)=some false)
  (iJE_:PySem.W.kitOne K (.ref cJ_) (.ref cE_)=some false)
  (iJJ_:PySem.W.kitOne K (.ref cJ_) (.ref cJ_)=some true)
  (vJ_:PySem.W.kitOne K (.ref cJ_) (.type "ValueError")=some true)
  (z_len:PySem.W.nsIn K mainGlobals "len"=some none)
  (z_range:PySem.W.nsIn K mainGlobals "range"=some none)
  (z_isinst:PySem.W.nsIn K mainGlobals "isinstance"=some none)
  (z_int:PySem.W.nsIn K mainGlobals "int"=some none)
  (z_bool:PySem.W.nsIn K mainGlobals "bool"=some none)
  (z_tuple:PySem.W.nsIn K mainGlobals "tuple"=some none)
  (z_list:PySem.W.nsIn K mainGlobals "list"=some none)
  (z_str:PySem.W.nsIn K mainGlobals "str"=some none)
  (z_zip:PySem.W.nsIn K mainGlobals "zip"=some none)
  (z_set:PySem.W.nsIn K mainGlobals "set"=some none)
  (z_sorted:PySem.W.nsIn K mainGlobals "sorted"=some none)
  (z_verr:PySem.W.nsIn K mainGlobals "ValueError"=some none)
  (z_enumerate:PySem.W.nsIn K mainGlobals "enumerate"=some none)
  (z_any:PySem.W.nsIn K mainGlobals "any"=some none)
  {t_most:Tok} (z_most:PySem.W.nsIn K mainGlobals "MOST_ACTS"=some (some (.int 40 t_most)))
  :∃fd:FuncData,(∀(s:Shared) (v:Value),BindsTo s fd ⟨[v],[]⟩ [("_law_script",v)])/\∀base:Heap,K.In base->base.Ns mainGlobals mg->BltAt base mg->(∀q∈[(cT,P0)],PySem.W.CodeHd base q.1 q.2)->FnOk l.prog w K mg base CX0 11 fa fd ["_law_script"] (spLawT K [(cT,P0)]):=by
 have e:=hfa.symm.trans (PySem.W.mg_of X G a27)
 cases e
 have T:Txt K mg cA_ cC_ cE_ cJ_:=⟨PySem.W.mg_of X G nRE,PySem.W.mg_of X G nC_,PySem.W.mg_of X G nE_,PySem.W.mg_of X G nT,ec,exr,iJC_,iJE_,iJJ_,vJ_,PySem.W.mg_none_of X G z_len,PySem.W.mg_none_of X G z_range,PySem.W.mg_none_of X G z_isinst,PySem.W.mg_none_of X G z_int,PySem.W.mg_none_of X G z_bool,PySem.W.mg_none_of X G z_tuple,PySem.W.mg_none_of X G z_list,PySem.W.mg_none_of X G z_str,PySem.W.mg_none_of X G z_zip,PySem.W.mg_none_of X G z_set,PySem.W.mg_none_of X G z_sorted,PySem.W.mg_none_of X G z_verr,PySem.W.mg_none_of X G z_enumerate,PySem.W.mg_none_of X G z_any,⟨t_most,PySem.W.mg_of X G z_most⟩⟩
 have F0:=a_F (st:=b_P) l0 c0 (a_s l0)
 have F1:=a_F (st:=b_D) l1 c1 (a_s l1)
 have F2:=a_F (st:=c_a) l2 c2 (a_s l2)
 have F3:=a_F (st:=b_E) l3 c3 (a_s l3)
 have F4:=a_F (st:=b_j) l4 c4 (a_s l4)
 have F5:=a_F (st:=b_l) l5 c5 (a_s l5)
 have F6:=a_F (st:=a_Y) l6 c6 (a_s l6)
 have F7:=a_F (st:=d_n) l7 c7 (a_s l7)
 have F8:=a_F (st:=b_O) l8 c8 (a_s l8)
 have F9:=a_F (st:=b_G) l9 c9 (a_s l9)
 have F10:=a_F (st:=a_Z) l10 c10 (a_s l10)
 have F11:=a_F (st:=b_m) l11 c11 (a_s l11)
 have F12:=a_F (st:=d_o) l12 c12 (a_s l12)
 have F13:=a_F (st:=a_M) l13 c13 (a_s l13)
 have F14:=a_F (st:=b_k) l14 c14 (a_s l14)
 have F15:=a_F (st:=b_F) l15 c15 (a_s l15)
 have F16:=a_F (st:=a_P) l16 c16 (a_s l16)
 have F17:=a_F (st:=a_O) l17 c17 (a_s l17)
 have F18:=a_F (st:=a_N) l18 c18 (a_s l18)
 have F19:=a_F (st:=b_n) l19 c19 (a_s l19)
 have F20:=a_F (st:=b_p) l20 c20 (a_s l20)
 have F21:=a_F (st:=b_o) l21 c21 (a_s l21)
 have F22:=a_F (st:=b_q) l22 c22 (a_s l22)
 have F23:=a_F (st:=b_a) l23 c23 (a_s l23)
 have F24:=a_F (st:=b_s) l24 c24 (a_s l24)
 have F25:=a_F (st:=b_r) l25 c25 (a_s l25)
 have F26:=a_F (st:=b_H) l26 c26 (a_s l26)
 have F27:=a_F (st:=e_U) l27 c27 (a_s l27)
 have WT:=WkT.mk (PySem.W.mg_of X G nW) cls mk na1 na2 na3 na4 na5 (a_F (st:=d_m) lI cI (a_s lI))
 have TG:TgK K mg cJ_ cA_ fX _:=⟨PySem.W.mg_of X G nT,PySem.W.mg_of X G nRE,xo,xc,xn,xb,xf,xe,ec,exr,a_F (st:=d_l) lX cX (a_s lX)⟩
 have WA:WkA K cW:=⟨cls,na1,na2,na3,na4,na5⟩
 have DL:∀base:Heap,Df l.prog w K mg base "lots_after" 1 ["machine","rooms"] sp_lotsafter:=fun base=>⟨f5,_,PySem.W.mg_of X G a5,a_s l5,F5.binds (ps:=["machine","rooms"]) (fun _ _ _ _ _ _ us hl=>by obtain ⟨_,_,rfl⟩:=len2 hl;rfl),d_b F5 T⟩
 refine ⟨PySem.W.fnOf "law" "law" (a_h e_U) (a_g e_U) (a_c e_U) .none kV27 dc27 pm27 an27 (.ref cd27) ct27,fun s v=>.of_eq rfl,fun base _ _ hB hC=>?_⟩
 have hC1:PySem.W.CodeHd base cT P0:=hC (cT,P0) (List.mem_singleton.mpr rfl)
 have d_walked_rooms:Df l.prog w K mg base "walked_rooms" 6 ["machine","rooms","most"] (d_O cW P0 sites):=⟨fM,_,PySem.W.mg_of X G aM,a_s lM,bd_wrooms lR,ok_wrooms lM cM lV cV (a_s lV) (PySem.W.mg_of X G aV) lD WT (PySem.W.mg_none_of X G z_len) (PySem.W.mg_none_of X G z_zip) (PySem.W.mg_none_of X G z_tuple) hC1 hB DL⟩
 have d_is_whole:Df l.prog w K mg base "is_whole" 1 ["value"] sp_is_whole:=⟨f0,_,PySem.W.mg_of X G a0,a_s l0,F0.binds (ps:=["value"]) (fun _ _ _ _ _ _ us hl=>by obtain ⟨_,rfl⟩:=len1 hl;rfl),ok_is_whole F0 T ⟩
 have d_need_word:Df l.prog w K mg base "need_word" 1 ["letters","word"] sp_needword:=⟨f1,_,PySem.W.mg_of X G a1,a_s l1,F1.binds (ps:=["letters","word"]) (fun _ _ _ _ _ _ us hl=>by obtain ⟨_,_,rfl⟩:=len2 hl;rfl),ok_need_word F1 T ⟩
 have d_is_room:Df l.prog w K mg base "is_room" 2 ["number","many"] sp_isroom:=⟨f2,_,PySem.W.mg_of X G a2,a_s l2,F2.binds (ps:=["number","many"]) (fun _ _ _ _ _ _ us hl=>by obtain ⟨_,_,rfl⟩:=len2 hl;rfl),ok_is_room F2 T d_is_whole⟩
 have d_need_room:Df l.prog w K mg base "need_room" 3 ["machine","number"] sp_needroomP:=⟨f3,_,PySem.W.mg_of X G a3,a_s l3,F3.binds (ps:=["machine","number"]) (fun _ _ _ _ _ _ us hl=>by obtain ⟨_,_,rfl⟩:=len2 hl;rfl),ok_need_room F3 T d_is_room⟩
 have d_room_after:Df l.prog w K mg base "room_after" 4 ["machine","room","word"] sp_roomafterP:=⟨f4,_,PySem.W.mg_of X G a4,a_s l4,F4.binds (ps:=["machine","room","word"]) (fun _ _ _ _ _ _ us hl=>by obtain ⟨_,_,_,rfl⟩:=len3 hl;rfl),f_a F4 T d_need_room d_need_word⟩
 have d_lots_after:Df l.prog w K mg base "lots_after" 1 ["machine","rooms"] sp_lotsafter:=⟨f5,_,PySem.W.mg_of X G a5,a_s l5,F5.binds (ps:=["machine","rooms"]) (fun _ _ _ _ _ _ us hl=>by obtain ⟨_,_,rfl⟩:=len2 hl;rfl),d_b F5 T ⟩
 have d_walked_acts:DfX l.prog w K mg base "walked_acts" 7 ["machine"] (d_P cW cJ_ P0 sites):=⟨f6,_,PySem.W.mg_of X G a6,a_s l6,F6.binds (ps:=["machine"]) (fun _ _ _ _ _ _ us hl=>by obtain ⟨_,rfl⟩:=len1 hl;rfl),e_r F6 T WA TG d_walked_rooms⟩
 have d_table:DfX l.prog w K mg base "table" 8 ["machine"] (c_V cJ_ P0 sites):=⟨f7,_,PySem.W.mg_of X G a7,a_s l7,F7.binds (ps:=["machine"]) (fun _ _ _ _ _ _ us hl=>by obtain ⟨_,rfl⟩:=len1 hl;rfl),ok_table F7 T WA d_walked_acts d_room_after⟩
 have d_numbered:Df l.prog w K mg base "numbered" 1 ["values"] sp_numT:=⟨f8,_,PySem.W.mg_of X G a8,a_s l8,F8.binds (ps:=["values"]) (fun _ _ _ _ _ _ us hl=>by obtain ⟨_,rfl⟩:=len1 hl;rfl),ok_numbered F8 T ⟩
 have d_each_once:Df l.prog w K mg base "each_once" 1 ["lists"] (d_Q K):=⟨f9,_,PySem.W.mg_of X G a9,a_s l9,F9.binds (ps:=["lists"]) (fun _ _ _ _ _ _ us hl=>by obtain ⟨_,rfl⟩:=len1 hl;rfl),ok_each_once F9 T ⟩
 have d_right_below:Df l.prog w K mg base "right_below" 2 ["rows"] sp_right:=⟨f10,_,PySem.W.mg_of X G a10,a_s l10,F10.binds (ps:=["rows"]) (fun _ _ _ _ _ _ us hl=>by obtain ⟨_,rfl⟩:=len1 hl;rfl),e_s F10 T d_each_once⟩
 have d_left_below:Df l.prog w K mg base "left_below" 2 ["rows"] sp_left:=⟨f11,_,PySem.W.mg_of X G a11,a_s l11,F11.binds (ps:=["rows"]) (fun _ _ _ _ _ _ us hl=>by obtain ⟨_,rfl⟩:=len1 hl;rfl),f_c F11 T d_each_once⟩
 have d_below:Df l.prog w K mg base "below" 3 ["rows"] sp_below:=⟨f12,_,PySem.W.mg_of X G a12,a_s l12,F12.binds (ps:=["rows"]) (fun _ _ _ _ _ _ us hl=>by obtain ⟨_,rfl⟩:=len1 hl;rfl),ok_below F12 T d_left_below d_each_once⟩
 have d_lots_of_acts:DfX l.prog w K mg base "lots_of_acts" 9 ["machine"] (d_R cJ_ P0 sites):=⟨f13,_,PySem.W.mg_of X G a13,a_s l13,F13.binds (ps:=["machine"]) (fun _ _ _ _ _ _ us hl=>by obtain ⟨_,rfl⟩:=len1 hl;rfl),d_X F13 T d_table d_numbered d_right_below d_left_below d_below⟩
 have d_members_of:Df l.prog w K mg base "members_of" 1 ["rows","once"] sp_members:=⟨f14,_,PySem.W.mg_of X G a14,a_s l14,F14.binds (ps:=["rows","once"]) (fun _ _ _ _ _ _ us hl=>by obtain ⟨_,_,rfl⟩:=len2 hl;rfl),f_b F14 T ⟩
 have d_groups_of:DfX l.prog w K mg base "groups_of" 9 ["machine"] (d_S cJ_ P0 sites):=⟨f15,_,PySem.W.mg_of X G a15,a_s l15,F15.binds (ps:=["machine"]) (fun _ _ _ _ _ _ us hl=>by obtain ⟨_,rfl⟩:=len1 hl;rfl),ok_groups_of F15 T d_table d_members_of⟩
 have d__law_cell_at:Df l.prog w K mg base "_law_cell_at" 1 ["_law_script","_law_k"] (c_L K):=⟨f16,_,PySem.W.mg_of X G a16,a_s l16,F16.binds (ps:=["_law_script","_law_k"]) (fun _ _ _ _ _ _ us hl=>by obtain ⟨_,_,rfl⟩:=len2 hl;rfl),e_a F16 T ⟩
 have d__law_letters:Df l.prog w K mg base "_law_letters" 1 ["_law_cell"] sp_letters:=⟨f17,_,PySem.W.mg_of X G a17,a_s l17,F17.binds (ps:=["_law_cell"]) (fun _ _ _ _ _ _ us hl=>by obtain ⟨_,rfl⟩:=len1 hl;rfl),d_Z F17 T ⟩
 have d__law_machine:Df l.prog w K mg base "_law_machine" 2 ["_law_script","_law_at","_law_rooms","_law_letters_here"] (c_E K):=⟨f18,_,PySem.W.mg_of X G a18,a_s l18,F18.binds (ps:=["_law_script","_law_at","_law_rooms","_law_letters_here"]) (fun _ _ _ _ _ _ us hl=>by obtain ⟨_,_,_,_,rfl⟩:=len4 hl;rfl),d_Y F18 T d__law_cell_at⟩
 have d__law_turns:Df l.prog w K mg base "_law_turns" 2 ["_law_script","_law_letters_here"] (e_z K):=⟨f19,_,PySem.W.mg_of X G a19,a_s l19,F19.binds (ps:=["_law_script","_law_letters_here"]) (fun _ _ _ _ _ _ us hl=>by obtain ⟨_,_,rfl⟩:=len2 hl;rfl),f_d F19 T d__law_cell_at⟩
 have d__law_order:Df l.prog w K mg base "_law_order" 1 ["_law_cell","_law_many"] sp_order:=⟨f20,_,PySem.W.mg_of X G a20,a_s l20,F20.binds (ps:=["_law_cell","_law_many"]) (fun _ _ _ _ _ _ us hl=>by obtain ⟨_,_,rfl⟩:=len2 hl;rfl),f_f F20 T ⟩
 have d__law_third:Df l.prog w K mg base "_law_third" 1 ["_law_kind","_law_room"] sp_third:=⟨f21,_,PySem.W.mg_of X G a21,a_s l21,F21.binds (ps:=["_law_kind","_law_room"]) (fun _ _ _ _ _ _ us hl=>by obtain ⟨_,_,rfl⟩:=len2 hl;rfl),f_e F21 T ⟩
 have d__law_forty:Df l.prog w K mg base "_law_forty" 2 ["_law_script","_law_letters_here"] (e_z K):=⟨f22,_,PySem.W.mg_of X G a22,a_s l22,F22.binds (ps:=["_law_script","_law_letters_here"]) (fun _ _ _ _ _ _ us hl=>by obtain ⟨_,_,rfl⟩:=len2 hl;rfl),f_g F22 T d__law_cell_at d__law_order d__law_third⟩
 have d__law_acting:Df l.prog w K mg base "_law_acting" 3 ["_law_script","_law_letters_here"] (d_T K):=⟨f23,_,PySem.W.mg_of X G a23,a_s l23,F23.binds (ps:=["_law_script","_law_letters_here"]) (fun _ _ _ _ _ _ us hl=>by obtain ⟨_,_,rfl⟩:=len2 hl;rfl),e_t F23 T d__law_cell_at d__law_machine d__law_turns d__law_forty⟩
 have d__law_asked:Df l.prog w K mg base "_law_asked" 10 ["_law_machine_here"] (d_k cJ_ P0 sites):=⟨f24,_,PySem.W.mg_of X G a24,a_s l24,F24.binds (ps:=["_law_machine_here"]) (fun _ _ _ _ _ _ us hl=>by obtain ⟨_,rfl⟩:=len1 hl;rfl),f_i F24 T TG d_lots_of_acts d_groups_of⟩
 have d__law_cells:Df l.prog w K mg base "_law_cells" 1 ["_law_lots"] (e_P l.prog w):=⟨f25,_,PySem.W.mg_of X G a25,a_s l25,F25.binds (ps:=["_law_lots"]) (fun _ _ _ _ _ _ us hl=>by obtain ⟨_,rfl⟩:=len1 hl;rfl),f_h F25 T ⟩
 have d__law_even:Df l.prog w K mg base "_law_even" 2 ["_law_lots"] (sp_even l.prog w):=⟨f26,_,PySem.W.mg_of X G a26,a_s l26,F26.binds (ps:=["_law_lots"]) (fun _ _ _ _ _ _ us hl=>by obtain ⟨_,rfl⟩:=len1 hl;rfl),ok__law_even F26 T d__law_cells⟩
 exact ok_law F27 T d__law_cell_at d__law_letters d__law_acting d__law_asked d__law_even
end K64
end
namespace PySem.W.Fast
def tw10028293392762960775:=()
def tw10028566446498664384:=()
def tw10061769059257055212:=()
def tw10091880997127293184:=()
def tw10366912780229256507:=()
def tw10447965684457210900:=()
def tw10522190982763846178:=()
def tw10613204073722305164:=()
def tw10644623622776669425:=()
def tw1075988101059854761:=()
def tw10829125048750583093:=()
def tw10885915341068869808:=()
def tw10901791740944610705:=()
def tw11010268991206822304:=()
def tw11035578271354785912:=()
def tw1121372825718764122:=()
def tw1129527298928872073:=()
def tw11354676197050452024:=()
def tw113675799604458876:=()
def tw11444422170841332707:=()
def tw11506313971766756660:=()
def tw11528460304400407798:=()
def tw11631203020367773735:=()
def tw11631871611324925926:=()
def tw1169506055697783241:=()
def tw11738371718209340823:=()
def tw1175529179720601878:=()
def tw11821158153226637004:=()
def tw11834568782737489529:=()
def tw11837933837605115251:=()
def tw12022634774961109356:=()
def tw12090351592923688428:=()
def tw12091468589793681312:=()
def tw12156975299011077919:=()
def tw12241179215626864185:=()
def tw12282168930201141449:=()
def tw12288494982800369429:=()
def tw12319937788990110928:=()
def tw12431048129028483586:=()
def tw12485010772788335525:=()
def tw12528174839915287162:=()
def tw12591535201390714982:=()
def tw12666208190236907028:=()
def tw12820118988783586737:=()
def tw12821451970543368632:=()
def tw12831077608774358544:=()
def tw12901827707694796050:=()
def tw12967769448593777771:=()
def tw12985629747869658269:=()
def tw13020270252500487376:=()
def tw13063968723236644405:=()
def tw13072953625477563603:=()
def tw13100300891575615607:=()
def tw13138568597694608570:=()
def tw13205610541110198531:=()
def tw13331170324729911913:=()
def tw13420064675763642716:=()
def tw13558292918212054312:=()
def tw1357877344405943387:=()
def tw13591791269494227649:=()
def tw13596128767629284343:=()
def tw13637099822925742977:=()
def tw1377651999244712939:=()
def tw13854187971458373027:=()
def tw13927271611904842359:=()
def tw13930600665969572775:=()
def tw14158173707456569668:=()
def tw14229616920874568123:=()
def tw14343670475828523531:=()
def tw1442577689561493511:=()
def tw14500299288056443768:=()
def tw14843827341354215554:=()
def tw14847886206277342986:=()
def tw14895818236519779762:=()
def tw14896700218369675969:=()
def tw14986674158943732829:=()
def tw15008400606797604242:=()
def tw15026376277662511630:=()
def tw15049771942601771206:=()
def tw15096806073836113773:=()
def tw1509848069838809516:=()
def tw1531140063914890208:=()
def tw15476071194278979217:=()
def tw15522826733630364435:=()
def tw15536322195639558226:=()
def tw15537564395186971783:=()
def tw15625962469613719249:=()
def tw15644103740565233663:=()
def tw1578707796182052269:=()
def tw15896717013808720579:=()
def tw15960737094079454506:=()
def tw15997299315908163495:=()
def tw16071438012430089405:=()
def tw16082331470968996830:=()
def tw16106775692486315037:=()
def tw16210812301257251720:=()
def tw1631244629130254876:=()
def tw16313640469141334680:=()
def tw16354143669464271414:=()
def tw16442984892796069497:=()
def tw16451310574266734528:=()
def tw16520511111761578088:=()
def tw16600826201836479298:=()
def tw1660726162243760792:=()
def tw16635718495036389898:=()
def tw16798250904653172803:=()
def tw16800648881918190007:=()
def tw16810348967546839074:=()
def tw1690192920024955728:=()
def tw16951621328782087929:=()
def tw16999201277294301935:=()
def tw17021159750462237320:=()
def tw17030442583077205667:=()
def tw17054660005811362131:=()
def tw1708080154034003332:=()
def tw17322515519814756702:=()
def tw17421950081221665425:=()
def tw17596343354467292018:=()
def tw17637259040594906037:=()
def tw17695997882189223172:=()
def tw17854992490999745749:=()
def tw17928868768854185688:=()
def tw17956933932310316701:=()
def tw18000422586905399281:=()
def tw18069258232861780615:=()
def tw18148328878722942539:=()
def tw18204672848531488295:=()
def tw18270015263468632074:=()
def tw18375672410302164958:=()
def tw18385483983614785561:=()
def tw18423297414000567367:=()
def tw1984019451283226373:=()
def tw2022970203308820054:=()
def tw2122638770044238525:=()
def tw2283026893741663776:=()
def tw2290872136193791469:=()
def tw2477906178047427276:=()
def tw2499534839203418815:=()
def tw2598664098104832083:=()
def tw2688120262853439676:=()
def tw273966123316003061:=()
def tw2799579921469649842:=()
def tw2846964637682852723:=()
def tw3123258672333715577:=()
def tw3212078564843006759:=()
def tw3227149607154648164:=()
def tw3309150572655088758:=()
def tw3326250045350068084:=()
def tw3406000416084931837:=()
def tw3446483394274134045:=()
def tw3492419002712105785:=()
def tw3604524711238244285:=()
def tw361648509314279121:=()
def tw3625132882066636050:=()
def tw3640257229851026725:=()
def tw3673100071424941506:=()
def tw3817127072121624913:=()
def tw3915570386976186304:=()
def tw4006180656063743317:=()
def tw4067519057978978486:=()
def tw4079076195542858400:=()
def tw4096962837178545:=()
def tw4132515082926353931:=()
def tw418185087719207415:=()
def tw4203878899440337337:=()
def tw4379461940408387110:=()
def tw4466669697910579458:=()
def tw4486215313331733561:=()
def tw458868700249050840:=()
def tw4600850823526001889:=()
def tw4604777991875045360:=()
def tw4606457704669360888:=()
def tw470762630922224867:=()
def tw4750120088800458537:=()
def tw4801462533338142478:=()
def tw4855374987170526854:=()
def tw4885852772253952448:=()
def tw49561666130270722:=()
def tw5032416541733126480:=()
def tw5127300320391206104:=()
def tw5512460960297848742:=()
def tw5523033476200204087:=()
def tw5557493419861998669:=()
def tw5660062875038732605:=()
def tw5662169441276014701:=()
def tw5668077523015211930:=()
def tw5722027541361771215:=()
def tw5755820725347089798:=()
def tw5785886725513173837:=()
def tw5811828939238147381:=()
def tw5925491029982651304:=()
def tw5926148307785439145:=()
def tw5946389560742709996:=()
def tw6058534880428349824:=()
def tw6186251839857687647:=()
def tw6249458636278599837:=()
def tw6434725074214495048:=()
def tw6496357846463540362:=()
def tw6499267722150676371:=()
def tw6506645179783618563:=()
def tw6580016137689048513:=()
def tw6611678999659969466:=()
def tw6732160677628488295:=()
def tw6740221911495647631:=()
def tw7061460557364025477:=()
def tw7075824650867654166:=()
def tw7172528395792059862:=()
def tw7236192531927334072:=()
def tw7367551173732764933:=()
def tw7576287953921493130:=()
def tw7582059852137662666:=()
def tw7645448441642848101:=()
def tw7683317092650315517:=()
def tw7688255276156842031:=()
def tw7734139241502732392:=()
def tw7798851819807765549:=()
def tw7945623900433173702:=()
def tw7956536471733652592:=()
def tw7977110887424045859:=()
def tw8031404683105462221:=()
def tw8061147325383796952:=()
def tw8242304824074424894:=()
def tw8243052673092314195:=()
def tw8321328710684453233:=()
def tw8509587675240359180:=()
def tw8513905043210579134:=()
def tw8523242302115466467:=()
def tw8530708283521136591:=()
def tw8532563201684605030:=()
def tw8580278245557200252:=()
def tw8657592742768137193:=()
def tw8660817883459694288:=()
def tw8744962729241411076:=()
def tw8804393427805250137:=()
def tw9050997112318364868:=()
def tw917394804202579203:=()
def tw9213703473441171647:=()
def tw9233363220075672229:=()
def tw9370516503125311515:=()
def tw9433735608114914309:=()
def tw9510569698904346087:=()
def tw9520700723397895827:=()
def tw9530848858936819522:=()
def tw9533999931403444696:=()
def tw953495844569799824:=()
def tw9568936363863824434:=()
def tw9579003769694199811:=()
def tw9588780884572873444:=()
def tw9598432238911115310:=()
def tw9669645501678551140:=()
def tw96932619252378755:=()
def tw9777416887504694493:=()
def tw9827674707742500963:=()
def tw9833393333632457604:=()
def tw9837145645521743746:=()
def tw9852112033084558346:=()
def tw9895627594849270167:=()
end PySem.W.Fast
open PySem PySem.W PyProof.Rows
set_option maxRecDepth 100000 in
set_option maxHeartbeats 0 in
theorem PySem.Challenge.cw_roomalgebra_k64_lots_and_groups_holds : PySem.Challenge.rw_roomalgebra_k64_lots_and_groups.Holds := by
 w_on;o_law;z_head;(case hw=>w_witness2)
 k_fill
 intro w sa sb mg mb G ye fa ob pm cd dc dv kv e1 e2 e3 e4 e5 e6 gs vs bs La c1 c2 c3 c4 c5
 z_open ye La KX ZH ZN ZT
 clear ye La ZH ZN ZT
 refine L2.walk63t (k:=11) (x:="_law_script") (l:=PySem.Challenge.rw_roomalgebra_k64_lots_and_groups) (tabs:=[(151,147)]) rfl rfl ⟨rfl,by decide,by decide⟩ ?T ?F w sa sb mg mb G KX fa ob pm cd dc dv kv e1 e2 e3 e4 e5 e6 gs vs bs c1 c2 c3 c4 c5
 case T=>
  intro p q hq
  rw [List.mem_singleton.mp hq]
  exact ⟨by kernel_rfl,by kernel_rfl⟩
 case F=>
  intro w mg fa h KX G hmg
  refine' K64.all_mk rfl KX G hmg ?nW ?hI0 ?cls ?mk ?na1 ?na2 ?na3 ?na4 ?na5 ?lI ?cI ?nT ?nRE ?hX0 ?xo ?xc ?xn ?xb ?xf ?xe ?ec ?exr ?lX ?cX ?aV ?lV ?cV ?lD ?aM ?lM ?cM ?lR ?a0 ?l0 ?c0 ?a1 ?l1 ?c1 ?a2 ?l2 ?c2 ?a3 ?l3 ?c3 ?a4 ?l4 ?c4 ?a5 ?l5 ?c5 ?a6 ?l6 ?c6 ?a7 ?l7 ?c7 ?a8 ?l8 ?c8 ?a9 ?l9 ?c9 ?a10 ?l10 ?c10 ?a11 ?l11 ?c11 ?a12 ?l12 ?c12 ?a13 ?l13 ?c13 ?a14 ?l14 ?c14 ?a15 ?l15 ?c15 ?a16 ?l16 ?c16 ?a17 ?l17 ?c17 ?a18 ?l18 ?c18 ?a19 ?l19 ?c19 ?a20 ?l20 ?c20 ?a21 ?l21 ?c21 ?a22 ?l22 ?c22 ?a23 ?l23 ?c23 ?a24 ?l24 ?c24 ?a25 ?l25 ?c25 ?a26 ?l26 ?c26 ?a27 ?l27 ?c27 ?nC_ ?nE_ ?iJC_ ?iJE_ ?iJJ_ ?vJ_ ?z_len ?z_range ?z_isinst ?z_int ?z_bool ?z_tuple ?z_list ?z_str ?z_zip ?z_set ?z_sorted ?z_verr ?z_enumerate ?z_any ?z_most
  (case nW=>exact L2.nsD (by k_is) (by decide))
  (case hI0=>k_is)
  (case cls=>exact ⟨by kernel_rfl,by kernel_rfl,by kernel_rfl,by kernel_rfl⟩)
  (case mk=>exact ⟨by kernel_rfl,by kernel_rfl,by kernel_rfl,by kernel_rfl⟩)
  (case na1=>unfold L2.a_I;kernel_rfl)
  (case na2=>unfold L2.a_I;kernel_rfl)
  (case na3=>unfold L2.a_I;kernel_rfl)
  (case na4=>unfold L2.a_I;kernel_rfl)
  (case na5=>unfold L2.a_I;kernel_rfl)
  (case lI=>exact L2.lkD (by k_is) (by decide))
  (case cI=>exact L2.cdD (by k_is) (by decide))
  (case nT=>exact L2.nsD (by k_is) (by decide))
  (case nRE=>exact L2.nsD (by k_is) (by decide))
  (case hX0=>k_is)
  (case xo=>unfold L2.OwnI;kernel_rfl)
  (case xc=>exact ⟨by kernel_rfl,by kernel_rfl,by kernel_rfl⟩)
  (case xn=>unfold L2.a_I;kernel_rfl)
  (case xb=>exact ⟨by kernel_rfl,by kernel_rfl,by kernel_rfl⟩)
  (case xf=>kernel_rfl)
  (case xe=>kernel_rfl)
  (case ec=>exact ⟨by kernel_rfl,by kernel_rfl,by kernel_rfl,by kernel_rfl,by kernel_rfl,by kernel_rfl,by kernel_rfl,by kernel_rfl⟩)
  (case exr=>kernel_rfl)
  (case lX=>exact L2.lkD (by k_is) (by decide))
  (case cX=>exact L2.cdD (by k_is) (by decide))
  (case aV=>exact L2.nsD (by k_is) (by decide))
  (case lV=>exact L2.lkD (by k_is) (by decide))
  (case cV=>exact L2.cdD (by k_is) (by decide))
  (case lD=>exact L2.lkD (by k_is) (by decide))
  (case aM=>exact L2.nsD (by k_is) (by decide))
  (case lM=>exact L2.lkD (by k_is) (by decide))
  (case cM=>exact L2.cdD (by k_is) (by decide))
  (case lR=>exact L2.lkD (by k_is) (by decide))
  (case a0=>exact L2.nsD (by k_is) (by decide))
  (case l0=>exact L2.lkD (by k_is) (by decide))
  (case c0=>exact L2.cdD (by k_is) (by decide))
  (case a1=>exact L2.nsD (by k_is) (by decide))
  (case l1=>exact L2.lkD (by k_is) (by decide))
  (case c1=>exact L2.cdD (by k_is) (by decide))
  (case a2=>exact L2.nsD (by k_is) (by decide))
  (case l2=>exact L2.lkD (by k_is) (by decide))
  (case c2=>exact L2.cdD (by k_is) (by decide))
  (case a3=>exact L2.nsD (by k_is) (by decide))
  (case l3=>exact L2.lkD (by k_is) (by decide))
  (case c3=>exact L2.cdD (by k_is) (by decide))
  (case a4=>exact L2.nsD (by k_is) (by decide))
  (case l4=>exact L2.lkD (by k_is) (by decide))
  (case c4=>exact L2.cdD (by k_is) (by decide))
  (case a5=>exact L2.nsD (by k_is) (by decide))
  (case l5=>exact L2.lkD (by k_is) (by decide))
  (case c5=>exact L2.cdD (by k_is) (by decide))
  (case a6=>exact L2.nsD (by k_is) (by decide))
  (case l6=>exact L2.lkD (by k_is) (by decide))
  (case c6=>exact L2.cdD (by k_is) (by decide))
  (case a7=>exact L2.nsD (by k_is) (by decide))
  (case l7=>exact L2.lkD (by k_is) (by decide))
  (case c7=>exact L2.cdD (by k_is) (by decide))
  (case a8=>exact L2.nsD (by k_is) (by decide))
  (case l8=>exact L2.lkD (by k_is) (by decide))
  (case c8=>exact L2.cdD (by k_is) (by decide))
  (case a9=>exact L2.nsD (by k_is) (by decide))
  (case l9=>exact L2.lkD (by k_is) (by decide))
  (case c9=>exact L2.cdD (by k_is) (by decide))
  (case a10=>exact L2.nsD (by k_is) (by decide))
  (case l10=>exact L2.lkD (by k_is) (by decide))
  (case c10=>exact L2.cdD (by k_is) (by decide))
  (case a11=>exact L2.nsD (by k_is) (by decide))
  (case l11=>exact L2.lkD (by k_is) (by decide))
  (case c11=>exact L2.cdD (by k_is) (by decide))
  (case a12=>exact L2.nsD (by k_is) (by decide))
  (case l12=>exact L2.lkD (by k_is) (by decide))
  (case c12=>exact L2.cdD (by k_is) (by decide))
  (case a13=>exact L2.nsD (by k_is) (by decide))
  (case l13=>exact L2.lkD (by k_is) (by decide))
  (case c13=>exact L2.cdD (by k_is) (by decide))
  (case a14=>exact L2.nsD (by k_is) (by decide))
  (case l14=>exact L2.lkD (by k_is) (by decide))
  (case c14=>exact L2.cdD (by k_is) (by decide))
  (case a15=>exact L2.nsD (by k_is) (by decide))
  (case l15=>exact L2.lkD (by k_is) (by decide))
  (case c15=>exact L2.cdD (by k_is) (by decide))
  (case a16=>exact L2.nsD (by k_is) (by decide))
  (case l16=>exact L2.lkD (by k_is) (by decide))
  (case c16=>exact L2.cdD (by k_is) (by decide))
  (case a17=>exact L2.nsD (by k_is) (by decide))
  (case l17=>exact L2.lkD (by k_is) (by decide))
  (case c17=>exact L2.cdD (by k_is) (by decide))
  (case a18=>exact L2.nsD (by k_is) (by decide))
  (case l18=>exact L2.lkD (by k_is) (by decide))
  (case c18=>exact L2.cdD (by k_is) (by decide))
  (case a19=>exact L2.nsD (by k_is) (by decide))
  (case l19=>exact L2.lkD (by k_is) (by decide))
  (case c19=>exact L2.cdD (by k_is) (by decide))
  (case a20=>exact L2.nsD (by k_is) (by decide))
  (case l20=>exact L2.lkD (by k_is) (by decide))
  (case c20=>exact L2.cdD (by k_is) (by decide))
  (case a21=>exact L2.nsD (by k_is) (by decide))
  (case l21=>exact L2.lkD (by k_is) (by decide))
  (case c21=>exact L2.cdD (by k_is) (by decide))
  (case a22=>exact L2.nsD (by k_is) (by decide))
  (case l22=>exact L2.lkD (by k_is) (by decide))
  (case c22=>exact L2.cdD (by k_is) (by decide))
  (case a23=>exact L2.nsD (by k_is) (by decide))
  (case l23=>exact L2.lkD (by k_is) (by decide))
  (case c23=>exact L2.cdD (by k_is) (by decide))
  (case a24=>exact L2.nsD (by k_is) (by decide))
  (case l24=>exact L2.lkD (by k_is) (by decide))
  (case c24=>exact L2.cdD (by k_is) (by decide))
  (case a25=>exact L2.nsD (by k_is) (by decide))
  (case l25=>exact L2.lkD (by k_is) (by decide))
  (case c25=>exact L2.cdD (by k_is) (by decide))
  (case a26=>exact L2.nsD (by k_is) (by decide))
  (case l26=>exact L2.lkD (by k_is) (by decide))
  (case c26=>exact L2.cdD (by k_is) (by decide))
  (case a27=>exact L2.nsD (by k_is) (by decide))
  (case l27=>exact L2.lkD (by k_is) (by decide))
  (case c27=>exact L2.cdD (by k_is) (by decide))
  (case nC_=>exact L2.nsD (by k_is) (by decide))
  (case nE_=>exact L2.nsD (by k_is) (by decide))
  (case iJC_=>kernel_rfl)
  (case iJE_=>kernel_rfl)
  (case iJJ_=>kernel_rfl)
  (case vJ_=>kernel_rfl)
  (case z_len=>exact L2.nsD (by k_is) (by decide))
  (case z_range=>exact L2.nsD (by k_is) (by decide))
  (case z_isinst=>exact L2.nsD (by k_is) (by decide))
  (case z_int=>exact L2.nsD (by k_is) (by decide))
  (case z_bool=>exact L2.nsD (by k_is) (by decide))
  (case z_tuple=>exact L2.nsD (by k_is) (by decide))
  (case z_list=>exact L2.nsD (by k_is) (by decide))
  (case z_str=>exact L2.nsD (by k_is) (by decide))
  (case z_zip=>exact L2.nsD (by k_is) (by decide))
  (case z_set=>exact L2.nsD (by k_is) (by decide))
  (case z_sorted=>exact L2.nsD (by k_is) (by decide))
  (case z_verr=>exact L2.nsD (by k_is) (by decide))
  (case z_enumerate=>exact L2.nsD (by k_is) (by decide))
  (case z_any=>exact L2.nsD (by k_is) (by decide))
  (case z_most=>exact L2.nsD (by k_is) (by decide))
#print axioms PySem.Challenge.cw_roomalgebra_k64_lots_and_groups_holds
