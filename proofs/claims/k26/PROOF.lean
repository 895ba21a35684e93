import PyProof.Rows.All
import Wide.All
import OpenK.AllK
import Wide.FinOn
import Lean
import PyProof.EqAt
import PyProof.EqKinds
import PyProof.TupleCall
import PyProof.Draws
import PyProof.ZipIter
import PySem.Challenge.RW_roomalgebra_k26_joins_that_come_to_the_s
set_option Elab.async false
set_option linter.all false
set_option maxRecDepth 100000
local macro_rules|`(($a,$b,*))=>if b.elemsAndSeps.size%2==1 then `(⟨$a,$b,*⟩)else Lean.Macro.throwUnsupported
abbrev LN:=List Nat
abbrev LL:=List LN
open PySem.W (Frag fnOf nsIn codeIn mg_none_of mg_of CodeHd kitOne fnMade keepIn kla_obj kia_one kla_fn hideAll emptyDict hideAll_get envX Looks instObj hideAll_none tabObj takerIn of_hideAll isFn exmOne any_some hasDictIn callWith_K looks_clsIn lookIn plainGet set_plain methodObj)
open List (getElem?_eq_getElem length_map getD_eq_getElem?_getD getElem?_map mem_cons length_append mem_singleton mem_range mem_of_getElem? all_eq_true mem_append size_toArray mem_map getElem_mem map_append getElem?_append_left not_mem_nil getElem?_append_right length_range mem_append_right lookup_cons mem_cons_of_mem mem_iff_getElem? idxOf_lt_length_of_mem append_nil append_assoc length_cons map_cons forIn_cons find?_cons getElem_idxOf getElem?_range mem_filter forIn_nil take_of_length_le nodup_cons length_replicate cons_append mem_cons_self length_eq_zero_iff length_take getElem?_toArray getElem?_eq_none mem_append_left idxOf_cons getElem?_zip_eq_some take_length mem_flatMap replicate Perm reverse_reverse of_mem_zip nil_append mem_reverse getElem_inj contains_iff_mem any_eq_true)
open PySem.Heap (get?_push_of_some lt_size get?_push_size SameBut size_push get?_update_self DictOfH)
open Nat (le_trans le_refl ne_of_lt lt_of_lt_of_le zero_le lt_succ_self le_of_lt le_of_not_lt ne_of_gt lt_trans le_of_eq le_add_right lt_of_le_of_lt lt_irrefl not_lt le_succ sub_self lt_succ_of_lt le_antisymm sub_succ_lt_self)
open PyProof.Rows (boot_tuple boot_list boot_bool boot_zip boot_str boot_int)
open Option (map_eq_some_iff)
open PySem.F (called_set store_object excBase_ValueError plainAttrs_list)
open PySem.Obj (mapSeq)
open Bool (and_eq_true and_eq_true_iff not_eq_true' or_eq_true)
open PySem (boot_len)
open Array (length_toList getElem?_toList forIn_toList)
open PySem.Str (length)
theorem qa1{α:Type _}{l:List α}{i:Nat}{a:α}(h:l[i]?=some a):∃h:i<l.length,l[i]=a:=List.getElem?_eq_some_iff.mp h
theorem qa2{α:Type _}{l:List α}{i:Nat}(h:i<l.length):l[i]?=some l[i]:=List.getElem?_eq_getElem h
theorem qa3{α:Type _}{l:List α}{i:Nat}{a:α}:l.getD i a=l[i]?.getD a:=List.getD_eq_getElem?_getD
theorem qa4{α:Type _}{β:Type _}{l:List α}(f:α->β):(l.map f).length=l.length:=List.length_map f
theorem qa5{α:Type _}{l m:List α}:(l++m).length=l.length+m.length:=List.length_append
theorem qa6{α:Type _}{β:Type _}{f:α->β}{l:List α}{i:Nat}:(l.map f)[i]?=Option.map f l[i]?:=List.getElem?_map
abbrev qa7:=@PySem.wpAny_bind
abbrev qa8:=@PySem.wpAny_pure
abbrev qa9:=@PySem.Heap.get?_push_of_some
theorem qb1{α:Type _}{a b:α}:a∈[b]->a=b:=List.mem_singleton.mp
theorem qb2{α:Type _}{l:List α}{i:Nat}{a:α}(h:l[i]?=some a):a∈l:=List.mem_of_getElem? h
theorem qb3{α:Type _}{β:Type _}{f:α->β}{x:Option α}{b:β}(h:Option.map f x=some b):∃a,x=some a/\f a=b:=Option.map_eq_some_iff.mp h
namespace L2
open PySem PySem.Spec PyProof.Rows
abbrev Key:=Sum Int Str
def pE:Key->Value->Bool
 |.inl k,v=>Value.isInt k v
 |.inr x,v=>Value.isStrOf x v
def td(w:World):Key->Int
 |.inl k=>hashInt k
 |.inr x=>hashStr w x
theorem keyIs_shape:∀{k:Key}{v:Value},pE k v=true->(∃i t,k=Sum.inl i/\v=Value.int i t)\/(∃x t,k=Sum.inr x/\v=Value.str x t)
 |.inl i,v,h=>by
  obtain⟨t,e⟩:=Value.isInt_shape (k:=i) (v:=v) h;exact .inl (i,t,rfl,e)
 |.inr x,v,h=>by
  obtain⟨t,e⟩:=Value.isStrOf_shape (x:=x) (v:=v) h;exact .inr (x,t,rfl,e)
theorem qD(a b:Int):decide ((Sum.inl a:Key)=Sum.inl b)=(a==b):=by
 by_cases e:a=b
 .subst e;simp
 .have h:¬ (Sum.inl a:Key)=Sum.inl b:=λq=>e (Sum.inl.inj q);rw[decide_eq_false h];exact(beq_eq_false_iff_ne.mpr e).symm
theorem qA(a b:Str):decide ((Sum.inr a:Key)=Sum.inr b)=decide (a=b):=by
 by_cases e:a=b
 .subst e;simp
 .have h:¬ (Sum.inr a:Key)=Sum.inr b:=λq=>e (Sum.inr.inj q);rw[decide_eq_false h,decide_eq_false e]
theorem qC(a:Int)(b:Str):decide ((Sum.inl a:Key)=Sum.inr b)=false:=decide_eq_false (λq=>nomatch q)
theorem qB(a:Str)(b:Int):decide ((Sum.inr a:Key)=Sum.inl b)=false:=decide_eq_false (λq=>nomatch q)
def jf(prog:Program)(w:World):PySem.KeyKind prog w Key where
 is:=pE
 hash:=td w
 inj:=λv a b ha hb=>by
  rcases keyIs_shape ha with⟨i,t,rfl,rfl⟩|⟨x,t,rfl,rfl⟩
  .rcases keyIs_shape hb with⟨j,u,rfl,e⟩|⟨y,u,rfl,e⟩
   .injection e with e1 _;rw[e1]
   .exact nomatch e
  .rcases keyIs_shape hb with⟨j,u,rfl,e⟩|⟨y,u,rfl,e⟩
   .exact nomatch e
   .injection e with e1 _;rw[e1]
 byValue:=λk v h=>by
  rcases keyIs_shape h with⟨i,t,rfl,rfl⟩|⟨x,t,rfl,rfl⟩<;>rfl
 pyHash:=λhv h=>by
  rcases keyIs_shape hv with⟨i,t,rfl,rfl⟩|⟨x,t,rfl,rfl⟩
  .exact wpAny_pyHash_int h
  .exact wpAny_pyHash_str h
 eqBool:=λhu hv h=>by
  rcases keyIs_shape hu with⟨i,t,rfl,rfl⟩|⟨x,t,rfl,rfl⟩
  .rcases keyIs_shape hv with⟨j,u,rfl,rfl⟩|⟨y,u,rfl,rfl⟩
   .rw [qD]at h;exact wpAny_eqBool_int h
   .rw [qC]at h;exact SeqAt.EqAt.int_str i t y u _ _ _ _ h
  .rcases keyIs_shape hv with⟨j,u,rfl,rfl⟩|⟨y,u,rfl,rfl⟩
   .rw [qB]at h;exact SeqAt.EqAt.str_int x t j u _ _ _ _ h
   .rw [qA]at h;exact wpAny_eqBool_str h
 «strs»:=λk x t v h=>by
  rcases keyIs_shape h with⟨i,u,rfl,e⟩|⟨y,u,rfl,e⟩
  .exact nomatch e
  .injection e with e1 _
   subst e1
   cases v<;>rfl
inductive V where
 |non|bl (b:Bool)|int (i:Int)|str (x:Str)|byt (b:Array UInt8)|flt (b:UInt64)|ref (a:Addr)|ty (n:String)
 deriving DecidableEq
def ac:V->Value->Prop
 |.non,u=>u=Value.none
 |.bl b,u=>u=Value.bool b
 |.int i,u=>∃t,u=Value.int i t
 |.str x,u=>∃t,u=Value.str x t
 |.byt b,u=>∃t,u=Value.bytes b t
 |.flt b,u=>∃t,u=Value.float b t
 |.ref a,u=>u=Value.ref a
 |.ty n,u=>u=Value.type n
abbrev ad:List V->List Value->Prop:=Paired ac
theorem ad.length(r:ad xs us):xs.length=us.length:=Paired.length r
theorem ad.get:∀{xs:List V}{us:List Value}{i:Nat}{x:V},ad xs us->xs[i]?=some x->∃u,us[i]?=some u/\ac x u
 |_,_,_,_,.nil,e=>by simp at e
 |_,_,0,_,.cons r _,e=>by simp at e;subst e;exact(_,rfl,r)
 |_,_,i+1,x,.cons _ t,e=>by
  obtain⟨u,h1,h2⟩:=ad.get (i:=i) (x:=x) t (by simpa using e);exact(u,by simpa using h1,h2)
theorem ad.append:∀{xs ys:List V}{us ws:List Value},ad xs us->ad ys ws->ad (xs++ys) (us++ws)
 |_,_,_,_,.nil,s=>s
 |_,_,_,_,.cons r t,s=>.cons r (ad.append t s)
theorem ad.take:∀{xs:List V}{us:List Value}(n:Nat),ad xs us->ad (xs.take n) (us.take n)
 |_,_,0,_=>.nil
 |_,_,_+1,.nil=>.nil
 |_,_,n+1,.cons r t=>.cons r (ad.take n t)
theorem ad.drop:∀{xs:List V}{us:List Value}(n:Nat),ad xs us->ad (xs.drop n) (us.drop n)
 |_,_,0,r=>r
 |_,_,_+1,.nil=>.nil
 |_,_,n+1,.cons _ t=>ad.drop n t
def aq:Option V->Option Value->Prop
 |some v,some u=>ac v u
 |none,none=>True
 |_,_=>False
def KV{κ:Type}:List (κ×V)->List (κ×Value)->Prop:=Paired λ(p:κ×V)(q:κ×Value)=>p.1=q.1/\ac p.2 q.2
def kV:Key->V
 |.inl i=>.int i
 |.inr x=>.str x
inductive HO where
  |lst (xs:List V)
  |tup (xs:List V)
  |dK (kvs:List (Key×V))|dT (kvs:List (List Key×V))
  |set (S:Int->Bool) (n:Nat)
  |ins (C dx:Addr) (fs:List (Str×V))
  |own (x:Addr)
  |xd (fs:List (Str×V))
  |met (f x:Addr)
  |rng (lo hi:Int)
  |frz (o:Obj) (u:HO)
  |tbl (ps:Array Value)
  |ext (φ:Heap->Prop)
abbrev Hp:=Addr->Option HO
def upd(H:Hp)(a:Addr)(o:HO):Hp:=λb=>if b=a then some o else H b
theorem a_c:upd H a o a=some o:=by unfold upd;rw[if_pos rfl]
theorem upd_ne(h:b≠a):upd H a o b=H b:=by unfold upd;rw[if_neg h]
theorem g_g:upd (upd H a o) a u=upd H a u:=by
 funext b;unfold upd;split<;>rfl
theorem ne_of{H:Hp}(h:H a=some o)(h':H b=some u)(d:o≠u):a≠b:=by
 intro e;subst e;rw[h]at h';exact d (Option.some.inj h')
theorem ne_of_none{H:Hp}(h:H a=some o)(h':H b=none):a≠b:=by
 intro e;subst e;rw[h]at h';cases h'
section
variable(P:Program)(w:World)
def a_L(H:Hp)(h:Heap)(a:Addr):HO->Prop
 |.lst xs=>xs.length≤sizeLine/\∃(its:List Value)(n:Nat),ad xs its/\h.get? a=some {cls:=.type "list",data:=.seq its.toArray n}
 |.tup xs=>xs.length≤sizeLine/\∃its:List Value,ad xs its/\IsTup h a its.toArray
 |.dK kvs=>kvs.length≤sizeLine/\(a==sysModules)=false/\∃vs,KV kvs vs/\h.DictOf (jf P w) a vs
 |.dT kvs=>kvs.length≤sizeLine/\(a==sysModules)=false/\∃xs:List (List Key×Addr×Value),
   Paired (λ(p:List Key×V)(q:List Key×Addr×Value)=>p.1=q.1/\H q.2.1=some (.tup (p.1.map kV))/\ac p.2 q.2.2) kvs xs/\
   ∃o es ep,h.get? a=some o/\o.ExactDict/\o.data=.dict es ep/\es.toList=xs.map (entryOfKey (tupleKind (jf P w)))/\(xs.map (·.1)).Nodup
 |.set S n=>h.SetOf (intKind P w) a S n
 |.ins C dx fs=>H dx=some (.own a)/\fs.length≤1000/\dx≠a/\h.get? a=some (instObj C dx)/\
   ∃mA,h.Ns1 dx mA/\(∀f,aq (fs.lookup f) (mA f))/\PySem.Within mA (fs.map (·.1))
 |.own _=>∃o,h.get? a=some o
 |.xd fs=>∃mA,h.Ns1 a mA/\∀f,aq (fs.lookup f) (mA f)
 |.rng lo hi=>∃t u v,h.get? a=some {cls:=.type "range",data:=.fields #[.int lo t,.int hi u,.int 1 v]}
 |.frz o u=>h.get? a=some o/\a_L H h a u
 |.tbl ps=>h.get? a=some {cls:=.none,data:=.fields ps}
 |.met f x=>h.get? a=some (methodObj (.ref f) (.ref x))
 |.ext φ=>φ h/\(∃o,h.get? a=some o)/\∀h1 h2:Heap,φ h1->(∀o,h1.get? a=some o->h2.get? a=some o)->φ h2
def HOk(H:Hp)(h:Heap):Prop:=∀a o,H a=some o->a_L P w H h a o
end
section
variable{P:Program}{w:World}{H H':Hp}{h h':Heap}{a:Addr}{o:HO}
theorem a_L.lt(x:a_L P w H h a o):a<h.objs.size:=by
 cases o with
 |lst xs=>obtain⟨_,_,_,_,e⟩:=x;exact lt_size e
 |tup xs=>obtain⟨_,_,_,p⟩:=x;exact p.lt
 |dK kvs=>obtain⟨_,_,_,_,o,_,_,e,_⟩:=x;exact lt_size e
 |dT kvs=>obtain⟨_,_,_,_,o,_,_,e,_⟩:=x;exact lt_size e
 |set S n=>obtain⟨o,_,_,_,e,_⟩:=x;exact lt_size e
 |ins C dx fs=>obtain⟨_,_,_,e,_⟩:=x;exact lt_size e
 |own y=>obtain⟨_,e⟩:=x;exact lt_size e
 |xd fs=>obtain⟨_,⟨_,_,_,e,_⟩,_⟩:=x;exact lt_size e
 |rng lo hi=>obtain⟨_,_,_,e⟩:=x;exact lt_size e
 |frz ob u=>obtain⟨e,_⟩:=x;exact lt_size e
 |tbl ps=>exact lt_size (show h.get? a=some _ from x)
 |met f y=>exact lt_size (show h.get? a=some _ from x)
 |ext φ=>obtain⟨_,⟨_,e⟩,_⟩:=x;exact lt_size e
theorem Paired.mapP{α β:Type}{F G:α->β->Prop}:∀{l₁:List α}{l₂:List β},Paired F l₁ l₂->(∀a b,F a b->G a b)->Paired G l₁ l₂
 |_,_,.nil,_=>.nil
 |_,_,.cons r t,f=>.cons (f _ _ r) (Paired.mapP t f)
theorem a_L.stay(x:a_L P w H h a o)(k:∀b u,(b=a\/H b=some (.own a))->h.get? b=some u->h'.get? b=some u)(ho:∀b,H b=some (.own a)->H' b=some (.own a))(ht:∀b xs,H b=some (.tup xs)->H' b=some (.tup xs)):a_L P w H' h' a o:=by
 induction o with
 |lst xs=>obtain⟨z,its,n,r,e⟩:=x;exact(z,its,n,r,k _ _ (.inl rfl) e)
 |tup xs=>obtain⟨z,its,r,ob,e,c⟩:=x;exact(z,its,r,ob,k _ _ (.inl rfl) e,c)
 |dK kvs=>obtain⟨z,y,vs,r,ob,es,ep,e,c⟩:=x;exact(z,y,vs,r,ob,es,ep,k _ _ (.inl rfl) e,c)
 |dT kvs=>
  obtain⟨z,y,xs,r,ob,es,ep,e,c⟩:=x;exact(z,y,xs,Paired.mapP r λp q z=>(z.1,ht _ _ z.2.1,z.2.2),ob,es,ep,k _ _ (.inl rfl) e,c)
 |set S n=>obtain⟨ob,es,ep,t,e,c⟩:=x;exact(ob,es,ep,t,k _ _ (.inl rfl) e,c)
 |ins C dx fs=>
  obtain⟨d,z,ne,e,mA,⟨od,es,ep,e2,c⟩,r⟩:=x;exact(ho _ d,z,ne,k _ _ (.inl rfl) e,mA,(od,es,ep,k _ _ (.inr d) e2,c),r)
 |own y=>obtain⟨ob,e⟩:=x;exact(ob,k _ _ (.inl rfl) e)
 |xd fs=>obtain⟨mA,⟨od,es,ep,e,c⟩,r⟩:=x;exact(mA,(od,es,ep,k _ _ (.inl rfl) e,c),r)
 |rng lo hi=>obtain⟨t,u,v,e⟩:=x;exact(t,u,v,k _ _ (.inl rfl) e)
 |frz ob u ih=>obtain⟨e,q⟩:=x;exact(k _ _ (.inl rfl) e,ih q)
 |tbl ps=>
  have e:h.get? a=some {cls:=.none,data:=.fields ps}:=x;show h'.get? a=some {cls:=.none,data:=.fields ps};exact k a _ (.inl rfl) e
 |met f y=>
  have e:h.get? a=some (methodObj (.ref f) (.ref y)):=x;show h'.get? a=some (methodObj (.ref f) (.ref y));exact k a _ (.inl rfl) e
 |ext φ=>obtain⟨p,⟨o,e⟩,st⟩:=x;exact(st _ _ p λo q=>k _ _ (.inl rfl) q,(o,k _ _ (.inl rfl) e),st)
theorem HOk.lt(x:HOk P w H h)(e:H a=some o):a<h.objs.size:=(x a o e).lt
theorem HOk.fresh(x:HOk P w H h)(e:h.objs.size≤a):H a=none:=by
 cases q:H a with
 |none=>rfl
 |some u=>exact absurd (lt_of_lt_of_le (x.lt q) e) (lt_irrefl _)
theorem HOk.kept(x:HOk P w H h)(k:∀b u,h.get? b=some u->h'.get? b=some u):HOk P w H h':=λa o e=>
 (x a o e).stay (λb u _ q=>k b u q) (λ_ q=>q) λ_ _ q=>q
theorem HOk.laid(x:HOk P w H h)(k:∀b u,h.get? b=some u->h'.get? b=some u)(hp:h.objs.size≤a)(new:a_L P w (upd H a o) h' a o):HOk P w (upd H a o) h':=λb u e=>by
 have hn:=x.fresh hp;by_cases hb:b=a
 .subst hb;rw[a_c]at e;cases e;exact new
 .rw [upd_ne hb]at e;exact(x b u e).stay (λc v _ q=>k c v q) (λc q=>by rw[upd_ne (ne_of_none q hn)];exact q) λc xs q=>by rw[upd_ne (ne_of_none q hn)];exact q
end
def Rd(H:Hp)(a:Addr)(u:HO):Prop:=H a=some u\/∃o,H a=some (.frz o u)
theorem Rd.ok(r:Rd H a u)(x:HOk P w H h):a_L P w H h a u:=by
 rcases r with r|⟨o,r⟩
 .exact x a u r
 .obtain ⟨_,q⟩:=x a _ r;exact q
def Mut:Option HO->Prop
 |some (.lst _)=>True
 |some (.dK _)=>True
 |some (.dT _)=>True
 |some (.set _ _)=>True
 |some (.ins _ _ _)=>True
 |some (.ext _)=>True
 |_=>False
section
variable{P:Program}{w:World}{H:Hp}{h h':Heap}{x e:Addr}{o':HO}
theorem HOk.write(ok:HOk P w H h)(mu:Mut (H x))(he:e=x\/H e=some (.own x))(k:∀b u,b≠e->h.get? b=some u->h'.get? b=some u)(heo:∃u,h'.get? e=some u)(new:a_L P w (upd H x o') h' x o'):HOk P w (upd H x o') h':=λb u q=>by
 have nown:∀c y,H c=some (.own y)->c≠x:=λc y r z=>by subst z;rw[r]at mu;exact mu
 have ntup:∀c xs,H c=some (.tup xs)->c≠x:=λc xs r z=>by subst z;rw[r]at mu;exact mu
 by_cases hb:b=x
 .subst hb;rw[a_c]at q;cases q;exact new
 .rw [upd_ne hb]at q;by_cases hbe:b=e
  .have q':H b=some (.own x):=by
    rcases he with z|z
    .exact absurd (hbe.trans z) hb
    .rw [hbe];exact z
   rw[q]at q';cases q';obtain⟨v,hv⟩:=heo;exact(v,by rw[hbe];exact hv)
  .refine (ok b u q).stay (λc v hc r=>k c v ?_ r) (λc r=>by rw[upd_ne (nown c b r)];exact r) λc xs r=>by rw[upd_ne (ntup c xs r)];exact r
   rcases hc with rfl|hc
   .exact hbe
   .rintro rfl;rcases he with z|z
    .exact nown c b hc z
    .rw [hc]at z;cases z;exact hb rfl
end
structure Un(fs ex:List Addr)(H H':Hp)(h h':Heap):Prop where
 keep:∀b o,h.get? b=some o->H b=none->b∉fs->b∉ex->h'.get? b=some o
 slot:∀b o,h.get? b=some o->H b=none->b∈fs->b∉ex->∃sl,h'.get? b=some {o with slots:=sl}
 free:∀b o,h.get? b=some o->H b=none->b∉ex->H' b=none
 there:∀b o,h.get? b=some o->b∉ex->∃o',h'.get? b=some o'
 tups:∀b xs,H b=some (.tup xs)->H' b=some (.tup xs)
 frzs:∀b o u,H b=some (.frz o u)->H' b=some (.frz o u)
 tbls:∀b ps,H b=some (.tbl ps)->∃more,H' b=some (.tbl (ps++more))
section
variable{fs fs' ex ex':List Addr}{H H1 H2:Hp}{h h1 h2 h':Heap}{a x e:Addr}{o:HO}
theorem Un.any(u:Un fs ex H H1 h h1)(q:h.get? b=some ob)(n:H b=none)(hx:b∉ex):∃sl,h1.get? b=some {ob with slots:=sl}:=by
 by_cases hb:b∈fs
 .exact u.slot b ob q n hb hx
 .exact (ob.slots,u.keep b ob q n hb hx)
theorem Un.kept(k:∀b u,h.get? b=some u->h'.get? b=some u):Un fs ex H H h h':=
 (λb ob q _ _ _=>k b ob q,λb ob q _ _ _=>(ob.slots,k b ob q),λ_ _ _ n _=>n,λb ob q _=>(ob,k b ob q),λ_ _ q=>q,λ_ _ _ q=>q,λ_ ps q=>(#[],by rw[q];simp))
theorem Un.refl:Un fs ex H H h h:=Un.kept λ_ _ q=>q
theorem Un.laid(k:∀b u,h.get? b=some u->h'.get? b=some u)(hp:h.objs.size≤a)(hn:H a=none):Un fs ex H (upd H a o) h h' where
 keep:=λb u q _ _ _=>k b u q
 slot:=λb u q _ _ _=>(u.slots,k b u q)
 free:=λb u q n _=>by rw[upd_ne (ne_of_lt (lt_of_lt_of_le (lt_size q) hp))];exact n
 there:=λb u q _=>(u,k b u q)
 tups:=λb xs q=>by rw[upd_ne (ne_of_none q hn)];exact q
 frzs:=λb u xs q=>by rw[upd_ne (ne_of_none q hn)];exact q
 tbls:=λb ps q=>(#[],by rw[upd_ne (ne_of_none q hn),q];simp)
theorem Un.write(mu:Mut (H x))(he:e=x\/H e=some (.own x))(k:∀b u,b≠e->h.get? b=some u->h'.get? b=some u)(heo:∃u,h'.get? e=some u):Un fs ex H (upd H x o) h h':=by
 have hx:∀b,H b=none->b≠x:=λb n z=>by subst z;rw[n]at mu;exact mu
 have hb:∀b,H b=none->b≠e:=λb n z=>by
  subst z;rcases he with r|r
  .exact hx b n r
  .rw [n]at r;cases r
 have hm:∀b u,H b=some u->¬ Mut (some u)->b≠x:=λb u q nm z=>by subst z;rw[q]at mu;exact nm mu
 refine(λb u q n _ _=>k b u (hb b n) q,λb u q n _ _=>(u.slots,k b u (hb b n) q),λb u q n _=>by rw[upd_ne (hx b n)];exact n,λb u q _=>?_,
  λb xs q=>by rw[upd_ne (hm b _ q λz=>z)];exact q,λb u xs q=>by rw[upd_ne (hm b _ q λz=>z)];exact q,λb ps q=>(#[],by rw[upd_ne (hm b _ q λz=>z),q];simp))
 by_cases hbe:b=e
 .subst hbe;exact heo
 .exact (u,k b u hbe q)
end
def trk(h:Heap)(H:Hp):List Addr:=(List.range h.objs.size).filter λa=>(H a).isSome
def bJ(h:Heap)(H:Hp):Heap:=hideAll h (trk h H)
theorem kG(h:Heap)(H:Hp):(bJ h H).objs.size=h.objs.size:=PySem.W.hideAll_size _ _
theorem mU(e:h.get? b=some o)(n:H b=none):(bJ h H).get? b=some o:=
 hideAll_get _ e λhm=>by
  have q:(H b).isSome=true:=(mem_filter.mp hm).2;rw[n]at q;simp at q
theorem oJ(e:(bJ h H).get? b=some o):h.get? b=some o/\H b=none:=by
 have e':h.get? b=some o:=of_hideAll (trk h H) e;refine(e',?_);cases q:H b with
 |none=>rfl
 |some x=>
  have hm:b∈trk h H:=mem_filter.mpr (mem_range.mpr (lt_size e'),by simp[q]);have z:(bJ h H).get? b=none:=hideAll_none (trk h H) hm;rw[z]at e;cases e
structure Mod(K:Frag)(mg:Str->Option Value)(base:Heap):Prop where
 kin:K.In base
 glob:base.Ns mainGlobals mg
 blt:∃mb,base.Ns builtinsNs mb/\∀x:Str,x≠"__name__"->mb x=bootBuiltins x
 nolimit:base.NoLimit
structure Cx where
 prog:Program
 w:World
 K:Frag
 mg:Str->Option Value
 base:Heap
 A:Around
 N:List Str
 s₀:Shared
 H₀:Hp
 env:Env
 outer:List Env
 stack:List Env
 ex:List Addr
 fn:Str->Bool
 calm:Bool
 pn:List (Addr×Obj)
 xe:Value->Shared->Prop
def frs(l:List Env):List Addr:=l.filterMap (·.frame)
abbrev Cx.fs(X:Cx):List Addr:=frs X.outer
def Vis(sc:Scope)(x:Str):Prop:=sc.names.lookup x=some .local\/sc.names.lookup x=some .cell\/sc.names.lookup x=some .free
def Loc(sc:Scope)(x:Str):Prop:=sc.names.lookup x=some .local\/sc.names.lookup x=some .cell
def tN(env:Env)(h:Heap)(m:Str->Option Value)(x:Str)(u:Value):Prop:=
 (env.kindOf x=some .local/\m x=some u)\/((env.kindOf x=some .cell\/env.kindOf x=some .free)/\∃c,env.cells.lookup x=some c/\h.IsCell c (some u))
structure Cx.Ok(X:Cx):Prop where
 mod:Mod X.K X.mg X.base
 kind:X.env.scope.kind=.function
 glob:X.env.globals=mainGlobals
 blt:X.env.builtins=builtinsNs
 above:X.s₀.heap.objs.size≤X.env.locals
 inj:∀x y c,X.env.cells.lookup x=some c->X.env.cells.lookup y=some c->x=y
 has:∀x,(X.env.kindOf x=some .cell\/X.env.kindOf x=some .free)->∃c,X.env.cells.lookup x=some c
 cab:∀x c,X.fn x=true->X.env.cells.lookup x=some c->X.s₀.heap.objs.size≤c
 hd:X.calm=true->X.A.handled=none
 frames:X.A.frames=some X.stack
 stk:X.stack=X.outer\/(X.stack=X.env::X.outer/\X.env.frame=some X.env.locals)
 exf:∀b∈X.ex,b≠X.env.locals/\∀x c,X.env.cells.lookup x=some c->c≠b
 bs:∀b o,X.base.get? b=some o->X.s₀.heap.get? b=some o/\X.H₀ b=none
 bsz:X.base.objs.size≤X.s₀.heap.objs.size
 noex:∀b o,X.base.get? b=some o->b∉X.ex
 exfs:∀b∈X.ex,b∉X.fs
 funs:X.s₀.heap.FunFrames X.base X.outer
 frf:∀b∈X.fs,X.H₀ b=none
structure Inv(X:Cx)(pins:List (Addr×Obj))(σ:List (Option V))(H:Hp)(s:Shared):Prop where
 ok:X.Ok
 os:s.os=X.s₀.os
 bare:AllBare s.gens
 base:Un X.fs X.ex X.H₀ H X.s₀.heap s.heap
 loc:∃m,s.heap.Ns X.env.locals m/\∀(i:Nat)(x:Str)(v:V),X.N[i]?=some x->σ[i]?=some (some v)->Vis X.env.scope x->∃u,ac v u/\tN X.env s.heap m x u
 cell:∀x c,X.env.cells.lookup x=some c->∃v,s.heap.IsCell c v
 free:H X.env.locals=none
 freeC:∀x c,X.env.cells.lookup x=some c->H c=none
 pin:∀p∈X.pn++pins,s.heap.get? p.1=some p.2/\H p.1=none/\p.1≠X.env.locals/\p.1∉X.fs/\∀v,p.2.data≠.cell v
 hok:HOk X.prog X.w H s.heap
 len:σ.length=X.N.length
section
variable{X:Cx}{pins:List (Addr×Obj)}{σ:List (Option V)}{H H':Hp}{s:Shared}{h':Heap}
theorem Cx.Ok.nofr(ok:X.Ok)(e:X.base.get? b=some o):b∉X.fs:=λhb=>by
 have:=(ok.funs.mem hb).1;rw[e]at this;cases this
theorem Inv.bs(I:Inv X pins σ H s):∀b o,X.base.get? b=some o->s.heap.get? b=some o/\H b=none:=λb o e=>
 (I.base.keep b o (I.ok.bs b o e).1 (I.ok.bs b o e).2 (I.ok.nofr e) (I.ok.noex b o e),I.base.free b o (I.ok.bs b o e).1 (I.ok.bs b o e).2 (I.ok.noex b o e))
theorem Inv.bk(I:Inv X pins σ H s):∀b o,X.base.get? b=some o->s.heap.get? b=some o:=λb o e=>(I.bs b o e).1
theorem Inv.mod(I:Inv X pins σ H s):Mod X.K X.mg X.base:=I.ok.mod
theorem Inv.kIn(I:Inv X pins σ H s):X.K.In s.heap:=I.ok.mod.kin.keeps I.bk
theorem Inv.lt(I:Inv X pins σ H s):X.env.locals<s.heap.objs.size:=let⟨_,hn,_⟩:=I.loc;hn.lt
theorem Inv.sz(I:Inv X pins σ H s):X.s₀.heap.objs.size≤s.heap.objs.size:=le_trans I.ok.above (le_of_lt I.lt)
theorem Inv.nofs(I:Inv X pins σ H s){a:Addr}(h:s.heap.objs.size≤a):a∉X.fs:=λhb=>by
 obtain⟨_,o,ho,_⟩:=I.ok.funs.mem hb;exact absurd (lt_of_lt_of_le (lt_size ho) (le_trans I.sz h)) (lt_irrefl _)
theorem Inv.cne(I:Inv X pins σ H s):∀x c,X.env.cells.lookup x=some c->c≠X.env.locals:=λx c e z=>by
 obtain⟨v,o,ho,hd⟩:=I.cell x c e;obtain⟨m,⟨o',es,ep,ho',hd',_⟩,_⟩:=I.loc;rw[z,ho']at ho;cases ho;rw[hd']at hd;cases hd
theorem Inv.funs(I:Inv X pins σ H s):s.heap.FunFrames X.base X.outer:=by
 have all:∀(l:List Env),(∀b∈frs l,b∈X.fs)->X.s₀.heap.FunFrames X.base l->s.heap.FunFrames X.base l:=by
  intro l;induction l with
  |nil=>intro _ _;trivial
  |cons env r ih=>
   intro hs hl;obtain⟨hk,⟨L,o,hf,hn,ho,hd⟩,hr⟩:=hl;have hL:L∈X.fs:=hs L (by unfold frs;rw[List.filterMap_cons,hf];exact mem_cons_self);obtain⟨sl,e⟩:=I.base.slot L o ho (I.ok.frf L hL) hL λz=>I.ok.exfs L z hL;exact(hk,(L,_,hf,hn,e,hd),ih (λb hb=>hs b (by unfold frs;rw[List.filterMap_cons,hf];exact mem_cons_of_mem _ hb)) hr)
 exact all X.outer (λ_ hb=>hb) I.ok.funs
theorem Inv.stack(I:Inv X pins σ H s):s.heap.FunFrames X.base X.stack:=by
 rcases I.ok.stk with e|⟨e,hf⟩
 .rw [e];exact I.funs
 .rw [e];obtain⟨m,hn,_⟩:=I.loc;refine .cons (by rw[I.ok.kind];decide) hf hn ?_ I.funs;exact Heap.get?_none_of_le (le_trans I.ok.bsz I.ok.above)
theorem Inv.stkSub(I:Inv X pins σ H s):∀b∈frs X.stack,b∈X.env.locals::X.fs:=λb hb=>by
 rcases I.ok.stk with e|⟨e,hf⟩
 .rw [e]at hb;exact mem_cons_of_mem _ hb
 .rw [e]at hb;unfold frs at hb;rw[List.filterMap_cons,hf]at hb;exact hb
theorem Inv.stkFree(I:Inv X pins σ H s):∀b∈frs X.stack,H b=none:=λb hb=>by
 rcases mem_cons.mp (I.stkSub b hb)with e|hb
 .rw [e];exact I.free
 .obtain ⟨_,o,ho,_⟩:=I.ok.funs.mem hb;exact I.base.free b o ho (I.ok.frf b hb) λz=>I.ok.exfs b z hb
theorem Inv.step{ch:List Addr}(I:Inv X pins σ H s)(hch:∀b∈ch,(b∈X.ex\/X.s₀.heap.objs.size≤b)/\b≠X.env.locals/\(∀x c,X.env.cells.lookup x=some c->c≠b)/\∀p∈X.pn++pins,p.1≠b)(keep:∀b o,b≠X.env.locals->b∉X.fs->b∉ch->s.heap.get? b=some o->H b=none->h'.get? b=some o)(slot:∀b o,b≠X.env.locals->b∈X.fs->b∉ch->s.heap.get? b=some o->H b=none->∃sl,h'.get? b=some {o with slots:=sl})(free:∀b o,b∉ch->s.heap.get? b=some o->H b=none->H' b=none)(there:∀b o,b∉ch->s.heap.get? b=some o->∃o',h'.get? b=some o')(tups:∀b xs,H b=some (.tup xs)->H' b=some (.tup xs))(frzs:∀b o u,H b=some (.frz o u)->H' b=some (.frz o u))(tbls:∀b ps,H b=some (.tbl ps)->∃more,H' b=some (.tbl (ps++more)))(ns:∀m,s.heap.Ns X.env.locals m->h'.Ns X.env.locals m)(hok:HOk X.prog X.w H' h')(hg:AllBare g'):Inv X pins σ H' {s with heap:=h',gens:=g',drawn:=d',toks:=t'}:=by
 have neL:∀b o,X.s₀.heap.get? b=some o->b≠X.env.locals:=λb o e=>ne_of_lt (lt_of_lt_of_le (lt_size e) I.ok.above);have neC:∀b o,X.s₀.heap.get? b=some o->b∉X.ex->b∉ch:=λb o e hx hb=>by
  rcases(hch b hb).1 with z|z
  .exact hx z
  .exact absurd (lt_of_lt_of_le (lt_size e) z) (lt_irrefl _)
 have cellK:∀x c,X.env.cells.lookup x=some c->∀v,s.heap.IsCell c v->h'.IsCell c v:=λx c e v hZ0=>by
  obtain⟨o,ho,hd⟩:=hZ0;have nch:c∉ch:=λz=>(hch c z).2.2.1 x c e rfl;by_cases hc:c∈X.fs
  .obtain ⟨sl,q⟩:=slot c o (I.cne x c e) hc nch ho (I.freeC x c e);exact(_,q,hd)
  .exact (o,keep c o (I.cne x c e) hc nch ho (I.freeC x c e),hd)
 refine(I.ok,I.os,hg,(λb o e n hb hx=>?_,λb o e n hb hx=>?_,λb o e n hx=>?_,λb o e hx=>?_,λb xs e=>tups b xs (I.base.tups b xs e),λb o xs e=>frzs b o xs (I.base.frzs b o xs e),λb ps e=>?_),?_,λx c e=>?_,?_,λx c e=>?_,λp hp=>?_,hok,I.len)
 .exact keep b o (neL b o e) hb (neC b o e hx) (I.base.keep b o e n hb hx) (I.base.free b o e n hx)
 .obtain ⟨sl,e1⟩:=I.base.slot b o e n hb hx;obtain⟨sl',e2⟩:=slot b _ (neL b o e) hb (neC b o e hx) e1 (I.base.free b o e n hx);exact(sl',e2)
 .obtain ⟨o',e1⟩:=I.base.there b o e hx;exact free b o' (neC b o e hx) e1 (I.base.free b o e n hx)
 .obtain ⟨o',e1⟩:=I.base.there b o e hx;exact there b o' (neC b o e hx) e1
 .obtain ⟨m1,e1⟩:=I.base.tbls b ps e;obtain⟨m2,e2⟩:=tbls b _ e1;exact(m1++m2,by rw[e2,Array.append_assoc])
 .obtain ⟨m,hn,hl⟩:=I.loc;refine(m,ns m hn,λi x v e1 e2 e3=>?_);obtain⟨u,r,l⟩:=hl i x v e1 e2 e3;refine(u,r,?_);rcases l with l|⟨k,c,e,z⟩
  .exact .inl l
  .exact .inr (k,c,e,cellK x c e _ z)
 .obtain ⟨v,z⟩:=I.cell x c e;exact(v,cellK x c e v z)
 .obtain ⟨m,⟨o,_,_,ho,_⟩,_⟩:=I.loc;exact free _ o (λz=>(hch _ z).2.1 rfl) ho I.free
 .obtain ⟨v,o,ho,hd⟩:=I.cell x c e;exact free c o (λz=>(hch c z).2.2.1 x c e rfl) ho (I.freeC x c e)
 .obtain ⟨e,n,ne,nf,d⟩:=I.pin p hp;have nch:p.1∉ch:=λz=>(hch p.1 z).2.2.2 p hp rfl;exact(keep p.1 p.2 ne nf nch e n,free p.1 p.2 nch e n,ne,nf,d)
theorem Inv.un(I:Inv X pins σ H s)(u:Un X.fs [] H H' s.heap h')(hok:HOk X.prog X.w H' h'):Inv X pins σ H' {s with heap:=h',toks:=t'}:=by
 obtain⟨m,⟨o,es,ep,ho,r⟩,_⟩:=id I.loc;obtain⟨sl,hL⟩:=u.any ho I.free (by simp);exact I.step (g':=s.gens) (d':=s.drawn) (ch:=[]) (λ_ z=>nomatch z) (λb o _ hb _ e n=>u.keep b o e n hb (by simp)) (λb o _ hb _ e n=>u.slot b o e n hb (by simp)) (λb o _ e n=>u.free b o e n (by simp)) (λb o _ e=>u.there b o e (by simp)) u.tups u.frzs u.tbls (λm' hm=>by
  obtain⟨o',es',ep',ho',r'⟩:=hm;rw[ho]at ho';cases ho';exact(_,es',ep',hL,r')) hok I.bare
theorem Inv.call(I:Inv X pins σ H s)(u:Un (frs X.stack) ch H H' s.heap h')(hok:HOk X.prog X.w H' h')(hg:AllBare g')(hch:∀b∈ch,(b∈X.ex\/X.s₀.heap.objs.size≤b)/\b≠X.env.locals/\(∀x c,X.env.cells.lookup x=some c->c≠b)/\∀p∈X.pn++pins,p.1≠b):Inv X pins σ H' {s with heap:=h',gens:=g',drawn:=d',toks:=t'}:=by
 obtain⟨m,⟨o,es,ep,ho,r⟩,_⟩:=id I.loc;obtain⟨sl,hL⟩:=u.any ho I.free λz=>(hch _ z).2.1 rfl;exact I.step (ch:=ch) hch (λb o hL hb hc e n=>u.keep b o e n (λz=>(mem_cons.mp (I.stkSub b z)).elim hL hb) hc) (λb o _ _ hc e n=>u.any e n hc) (λb o hc e n=>u.free b o e n hc) (λb o hc e=>u.there b o e hc) u.tups u.frzs u.tbls (λm' hm=>by
  obtain⟨o',es',ep',ho',r'⟩:=hm;rw[ho]at ho';cases ho';exact(_,es',ep',hL,r')) hok hg
theorem Inv.turned(I:Inv X pins σ H s)(k:∀b o,b≠it->s.heap.get? b=some o->h'.get? b=some o)(hn:H it=none)(hL:it≠X.env.locals)(h1:it∈X.ex\/X.s₀.heap.objs.size≤it)(h2:∀x c,X.env.cells.lookup x=some c->c≠it)(h3:∀p∈X.pn++pins,p.1≠it):Inv X pins σ H {s with heap:=h',toks:=t'}:=by
 have nit:∀b u,H b=some u->b≠it:=λb u e z=>by rw[z,hn]at e;cases e
 refine I.step (g':=s.gens) (d':=s.drawn) (ch:=[it]) (λb hb=>?_) (λb o _ _ hc e _=>k b o (λz=>hc (by simp[z])) e) (λb o _ _ hc e _=>(o.slots,k b o (λz=>hc (by simp[z])) e)) (λ_ _ _ _ n=>n)
  (λb o hc e=>(o,k b o (λz=>hc (by simp[z])) e)) (λ_ _ e=>e) (λ_ _ _ e=>e) (λb ps e=>(#[],by rw[e];simp)) (λm hm=>?_) (λb u e=>?_) I.bare
 .have e:b=it:=by simpa using hb
  subst e;exact(h1,hL,h2,h3)
 .obtain ⟨o,es,ep,ho,r⟩:=hm;exact(o,es,ep,k _ o (Ne.symm hL) ho,r)
 .refine (I.hok b u e).stay (λc v hc q=>k c v ?_ q) (λ_ q=>q) λ_ _ q=>q;rcases hc with z|z
  .rw [z];exact nit b u e
  .exact nit c _ z
theorem Inv.tok(I:Inv X pins σ H s)(t:Nat):Inv X pins σ H {s with toks:=t}:=I.un (h':=s.heap) (t':=t) Un.refl I.hok
theorem Inv.kept(I:Inv X pins σ H s)(k:∀b u,s.heap.get? b=some u->h'.get? b=some u):Inv X pins σ H {s with heap:=h',toks:=t'}:=I.un (Un.kept k) (I.hok.kept k)
theorem Inv.laid{a:Addr}(I:Inv X pins σ H s)(k:∀b u,s.heap.get? b=some u->h'.get? b=some u)(hp:s.heap.objs.size≤a)(new:a_L X.prog X.w (upd H a o) h' a o):Inv X pins σ (upd H a o) {s with heap:=h',toks:=t'}:=I.un (Un.laid k hp (I.hok.fresh hp)) (I.hok.laid k hp new)
theorem Inv.write(I:Inv X pins σ H s)(mu:Mut (H x))(he:e=x\/H e=some (.own x))(k:∀b u,b≠e->s.heap.get? b=some u->h'.get? b=some u)(heo:∃u,h'.get? e=some u)(new:a_L X.prog X.w (upd H x o) h' x o):Inv X pins σ (upd H x o) {s with heap:=h',toks:=t'}:=I.un (Un.write mu he k heo) (I.hok.write mu he k heo new)
theorem Inv.pins_of(I:Inv X pins σ H s)(h:∀p∈pins',s.heap.get? p.1=some p.2/\H p.1=none/\p.1≠X.env.locals/\p.1∉X.fs/\∀v,p.2.data≠.cell v):Inv X pins' σ H s:=
 (I.ok,I.os,I.bare,I.base,I.loc,I.cell,I.free,I.freeC,λp hp=>(mem_append.mp hp).elim (λz=>I.pin p (mem_append_left _ z)) (h p),I.hok,I.len)
theorem nodup_ix{N:List Str}(hN:N.Nodup){i j:Nat}(a:N[i]?=some x)(b:N[j]?=some x):i=j:=by
 obtain⟨h1,e1⟩:=qa1 a;obtain⟨h2,e2⟩:=qa1 b;exact(getElem_inj hN).mp (e1.trans e2.symm)
theorem b7(I:Inv X pins σ H s)(hN:X.N.Nodup)(hi:X.N[i]?=some x)(hx:Loc X.env.scope x)(r:ac v u)(h:∀s',Inv X pins (σ.set i (some v)) H s'->(∃a,SameBut a s.heap s'.heap/\(a=X.env.locals\/X.env.cells.lookup x=some a))->Q () s')(hf:X.fn x=true\/X.env.scope.names.lookup x=some .local:=by first|exact .inl rfl|exact .inr rfl|assumption):wpAny M A (storeName X.env x u) Q E s:=by
 obtain⟨m,hn,hl⟩:=id I.loc;have hcls:(X.env.scope.kind==.class||(X.env.scope.kind==.module&&X.env.locals != X.env.globals))=false:=by rw[I.ok.kind];rfl
 have hiσ:i<σ.length:=by rw[I.len];exact(qa1 hi).1
 have cne:=I.cne;have tracked:∀{a:Addr}{h':Heap},(∃o,s.heap.get? a=some o/\H a=none)->SameBut a s.heap h'->HOk X.prog X.w H h':=λ{a h'}ha hs b ob e=>by
  obtain⟨_,_,hfree⟩:=ha;refine(I.hok b ob e).stay (λc w' hc q=>(hs.2 c ?_).trans q) (λ_ q=>q) λ_ _ q=>q;rintro rfl;rcases hc with rfl|hc
  .rw [hfree]at e;cases e
  .rw [hfree]at hc;cases hc
 rcases hx with hk|hk
 .refine wpAny_storeName_local hk hn (λh' hn' hs=>?_) hcls;obtain⟨oL,_,_,hoL,_⟩:=id hn;refine h _ (I.ok,I.os,I.bare,(λb o e n hb hx=>?_,λb o e n hb hx=>?_,I.base.free,λb o e hx=>?_,I.base.tups,I.base.frzs,I.base.tbls),(_,hn',λj y v' e1 e2 e3=>?_),λy c e=>?_,I.free,I.freeC,λp hp=>?_,tracked (oL,hoL,I.free) hs,by simpa using I.len) (_,hs,.inl rfl)
  .exact (hs.2 b (ne_of_lt (lt_of_lt_of_le (lt_size e) I.ok.above))).trans (I.base.keep b o e n hb hx)
  .obtain ⟨sl,e1⟩:=I.base.slot b o e n hb hx;exact(sl,(hs.2 b (ne_of_lt (lt_of_lt_of_le (lt_size e) I.ok.above))).trans e1)
  .obtain ⟨o',e1⟩:=I.base.there b o e hx;exact(o',(hs.2 b (ne_of_lt (lt_of_lt_of_le (lt_size e) I.ok.above))).trans e1)
  .by_cases hj:j=i
   .subst hj;rw[hi]at e1;cases e1;rw[List.getElem?_set_self hiσ]at e2;cases e2;exact(u,r,.inl (hk,by simp))
   .rw [List.getElem?_set_ne (Ne.symm hj)]at e2;obtain⟨u',r',q⟩:=hl j y v' e1 e2 e3;refine(u',r',?_);rcases q with⟨k,e⟩|⟨k,c,e,z⟩
    .refine .inl (k,?_);have:y≠x:=λe=>hj (nodup_ix hN e1 (e▸hi));simp[this,e]
    .exact .inr (k,c,e,z.sameBut hs (cne y c e))
  .obtain ⟨w',z⟩:=I.cell y c e;exact(w',z.sameBut hs (cne y c e))
  .obtain ⟨e,n,ne,nf,d⟩:=I.pin p hp;exact((hs.2 p.1 ne).trans e,n,ne,nf,d)
 .have hfn:X.fn x=true:=by
   rcases hf with z|z
   .exact z
   .rw [z]at hk;cases hk
  obtain⟨c,hc⟩:=I.ok.has x (.inl hk);obtain⟨w',z⟩:=I.cell x c hc;refine wpAny_storeName_cell I.ok.kind hk hc z (λh' hc' hs=>?_);obtain⟨oc,hoc,hocd⟩:=id z;refine h {s with heap:=h'} (I.ok,I.os,I.bare,(λb o e n hb hx=>?_,λb o e n hb hx=>?_,I.base.free,λb o e hx=>?_,I.base.tups,I.base.frzs,I.base.tbls),(m,hn.sameBut hs (Ne.symm (cne x c hc)),λj y v' e1 e2 e3=>?_),λy c' e=>?_,I.free,I.freeC,λp hp=>?_,tracked (oc,hoc,I.freeC x c hc) hs,by simpa using I.len) (c,hs,.inr hc)
  .exact (hs.2 b (ne_of_lt (lt_of_lt_of_le (lt_size e) (I.ok.cab x c hfn hc)))).trans (I.base.keep b o e n hb hx)
  .obtain ⟨sl,e1⟩:=I.base.slot b o e n hb hx;exact(sl,(hs.2 b (ne_of_lt (lt_of_lt_of_le (lt_size e) (I.ok.cab x c hfn hc)))).trans e1)
  .obtain ⟨o',e1⟩:=I.base.there b o e hx;exact(o',(hs.2 b (ne_of_lt (lt_of_lt_of_le (lt_size e) (I.ok.cab x c hfn hc)))).trans e1)
  .by_cases hj:j=i
   .subst hj;rw[hi]at e1;cases e1;rw[List.getElem?_set_self hiσ]at e2;cases e2;exact(u,r,.inr (.inl hk,c,hc,hc'))
   .rw [List.getElem?_set_ne (Ne.symm hj)]at e2;obtain⟨u',r',q⟩:=hl j y v' e1 e2 e3;refine(u',r',?_);rcases q with q|⟨k,c',e,z'⟩
    .exact .inl q
    .refine .inr (k,c',e,z'.sameBut hs ?_);rintro rfl;exact hj (nodup_ix hN e1 (I.ok.inj _ _ _ e hc▸hi))
  .by_cases hcc:c'=c
   .subst hcc;exact(_,hc')
   .obtain ⟨w2,z2⟩:=I.cell y c' e;exact(w2,z2.sameBut hs hcc)
  .obtain ⟨e,n,ne,nf,d⟩:=I.pin p hp;refine((hs.2 p.1 ?_).trans e,n,ne,nf,d);intro q;rw[q,hoc]at e;have q':oc=p.2:=Option.some.inj e;exact d w' (by rw[<-q'];exact hocd)
theorem store_ok(I:Inv X pins σ H s)(hN:X.N.Nodup)(hi:X.N[i]?=some x)(hx:Loc X.env.scope x)(r:ac v u)(h:∀s',Inv X pins (σ.set i (some v)) H s'->Q () s')(hf:X.fn x=true\/X.env.scope.names.lookup x=some .local:=by first|exact .inl rfl|exact .inr rfl|assumption):wpAny M A (storeName X.env x u) Q E s:=
 b7 I hN hi hx r (λs' I' _=>h s' I') hf
theorem Inv.call'(I:Inv X pins σ H s)(ho:s'.os=s.os)(u:Un (frs X.stack) ch H H' s.heap s'.heap)(hok:HOk X.prog X.w H' s'.heap)(hg:AllBare s'.gens)(hch:∀b∈ch,(b∈X.ex\/X.s₀.heap.objs.size≤b)/\b≠X.env.locals/\(∀x c,X.env.cells.lookup x=some c->c≠b)/\∀p∈X.pn++pins,p.1≠b):Inv X pins σ H' s':=by
 obtain⟨h',g',d',t',o'⟩:=s';have e:o'=s.os:=ho;subst e;exact I.call (g':=g') (t':=t') (d':=d') u hok hg hch
end
abbrev XK:=Value->Option Addr->Hp->Prop
abbrev St:=List (Option V)
abbrev VK:=V->Hp->Prop
abbrev TE:=St->Hp->VK->Prop
abbrev TT:=St->Hp->(Bool->Hp->Prop)->Prop
abbrev TA:=St->Hp->(List V->Hp->Prop)->Prop
structure Ends where
 nx:St->Hp->Prop
 rt:VK
 bk:St->Hp->Prop:=λ_ _=>False
 ct:St->Hp->Prop:=λ_ _=>False
abbrev TS:=Ends->St->Hp->Prop
def EP(X:Cx)(pins:List (Addr×Obj))(σ:St)(Q:VK)(u:Value)(s':Shared):Prop:=∃v H',Inv X pins σ H' s'/\ac v u/\Q v H'
def TP(X:Cx)(pins:List (Addr×Obj))(σ:St)(Q:Bool->Hp->Prop)(b:Bool)(s':Shared):Prop:=∃H',Inv X pins σ H' s'/\Q b H'
def AP(X:Cx)(pins:List (Addr×Obj))(σ:St)(Q:List V->Hp->Prop)(us:List Value)(s':Shared):Prop:=∃vs H',Inv X pins σ H' s'/\ad vs us/\Q vs H'
def SP(X:Cx)(pins:List (Addr×Obj))(D:Ends)(f:Flow)(s':Shared):Prop:=
 match f with
 |.next=>∃σ' H',Inv X pins σ' H' s'/\D.nx σ' H'
 |.brk=>∃σ' H',Inv X pins σ' H' s'/\D.bk σ' H'
 |.cont=>∃σ' H',Inv X pins σ' H' s'/\D.ct σ' H'
 |.ret u=>∃v σ' H',Inv X pins σ' H' s'/\ac v u/\D.rt v H'
def PE(X:Cx)(e:Expr)(t:TE):Prop:=
 ∀(pins:List (Addr×Obj))(s:Shared)(σ:St)(H:Hp)(Q:VK),Inv X pins σ H s->t σ H Q->wpAny (model X.prog X.w) X.A (eval e X.env) (EP X pins σ Q) X.xe s
def PT(X:Cx)(e:Expr)(t:TT):Prop:=
 ∀(pins:List (Addr×Obj))(s:Shared)(σ:St)(H:Hp)(Q:Bool->Hp->Prop),Inv X pins σ H s->t σ H Q->wpAny (model X.prog X.w) X.A (isTrue e X.env (eval e X.env)) (TP X pins σ Q) X.xe s
def PW(X:Cx)(e:Expr)(t:TT):Prop:=
 ∀(whole:Sem Value)(pins:List (Addr×Obj))(s:Shared)(σ:St)(H:Hp)(Q:Bool->Hp->Prop),Inv X pins σ H s->t σ H Q->wpAny (model X.prog X.w) X.A (isTrue e X.env whole) (TP X pins σ Q) X.xe s
theorem PW.pt(h:PW X e t):PT X e t:=h _
def PA(X:Cx)(es:List Expr)(t:TA):Prop:=
 ∀(pos:Pos)(pins:List (Addr×Obj))(s:Shared)(σ:St)(H:Hp)(Q:List V->Hp->Prop),Inv X pins σ H s->t σ H Q->wpAny (model X.prog X.w) X.A (spliced (backTo pos (starEach es X.env))) (AP X pins σ Q) X.xe s
def PS(X:Cx)(st:Stmt)(t:TS):Prop:=
 ∀(pins:List (Addr×Obj))(s:Shared)(σ:St)(H:Hp)(D:Ends),Inv X pins σ H s->t D σ H->wpAny (model X.prog X.w) X.A (exec st X.env) (SP X pins D) X.xe s
def PSs(X:Cx)(st:List Stmt)(t:TS):Prop:=
 ∀(pins:List (Addr×Obj))(s:Shared)(σ:St)(H:Hp)(D:Ends),Inv X pins σ H s->t D σ H->wpAny (model X.prog X.w) X.A (execs st X.env) (SP X pins D) X.xe s
theorem thn{t:Sem α}{Q Q':α->Shared->Prop}(h:wpAny M A t Q E s)(hQ:∀a s,Q a s->Q' a s):wpAny M A t Q' E s:=wpAny_mono h hQ λ_ _ x=>x
section
variable{X:Cx}
def gY(i:Nat):TE:=λσ H Q=>∃v,σ[i]?=some (some v)/\Q v H
def tC(v:V):TE:=λ_ H Q=>Q v H
theorem qd{pos:Pos}(hN:X.N[i]?=some x)(hv:Vis X.env.scope x)(hd:(x==("__debug__":Str))=false:=by decide)(hcd:(x==("__classdict__":Str))=false:=by decide):PE X (.Name x pos) (gY i):=by
 intro pins s σ H Q I h;obtain⟨v,e,h⟩:=h;obtain⟨m,hn,hl⟩:=I.loc;obtain⟨u,r,l⟩:=hl i x v hN e hv;have fin:EP X pins σ Q u s:=(v,H,I,r,h);rcases l with⟨hk,hm⟩|⟨hk,c,hc,hcell⟩
 .exact wpAny_Name (wpAny_loadName_local I.ok.kind hk hn hm fin) hd
 .rcases hk with hk|hk
  .exact wpAny_Name (wpAny_loadName_cell I.ok.kind hk hc hcell fin) hd
  .exact wpAny_Name (wpAny_loadName_free I.ok.kind hk hc hcell fin hcd) hd
theorem pe_int{i j pos}:PE X (.Constant (.int i) j pos) (tC (.int i)):=λ_ _ _ H _ I h=>wpAny_Constant_int (.int i,H,I.tok _,(_,rfl),h)
theorem d_t{b j pos}:PE X (.Constant (.bool b) j pos) (tC (.bl b)):=λ_ _ _ H _ I h=>Constant_bool (.bl b,H,I,rfl,h)
theorem f_Q{j pos}:PE X (.Constant .none j pos) (tC .non):=λ_ _ _ H _ I h=>Constant_none (.non,H,I,rfl,h)
theorem bB{x j pos}:PE X (.Constant (.str x) j pos) (tC (.str x)):=λ_ _ _ H _ I h=>Calls.Constant_str (.str x,H,I.tok _,(_,rfl),h)
def Gl(X:Cx)(x:Str):Prop:=X.env.kindOf x=some .globalImplicit
theorem ld_glob{σ:St}(I:Inv X pins σ H s)(hg:Gl X x)(hm:X.mg x=some u)(h:Q u s)(hd:(x==("__debug__":Str))=false:=by decide):wpAny (model X.prog X.w) X.A (eval (.Name x pos) X.env) Q E s:=
 Calls.Name_function_global I.ok.kind hg (Calls.loadGlobal_global (by rw[I.ok.glob];exact I.mod.glob.keeps I.bk) hm h) hd
theorem ld_blt{E:Value->Shared->Prop}{σ:St}{pos:Pos}(I:Inv X pins σ H s)(hg:Gl X x)(hm:X.mg x=none)(hv:bootBuiltins x=some u)(h:Q u s)(hn:x≠"__name__":=by decide)(hd:(x==("__debug__":Str))=false:=by decide):wpAny (model X.prog X.w) X.A (eval (.Name x pos) X.env) Q E s:=by
 obtain⟨mb,h1,h2⟩:=I.mod.blt;exact Calls.Name_function_global I.ok.kind hg (Calls.loadGlobal_builtin (by rw[I.ok.glob];exact I.mod.glob.keeps I.bk) hm (by rw[I.ok.blt];exact h1.keeps I.bk) ((h2 x hn).trans hv) h) hd
theorem pe_glob(hg:Gl X x)(hm:X.mg x=some u)(r:ac v u)(hd:(x==("__debug__":Str))=false:=by decide):PE X (.Name x pos) (tC v):=
 λ_ _ _ H _ I h=>ld_glob I hg hm (v,H,I,r,h) hd
theorem ja{pos:Pos}(hg:Gl X x)(hm:X.mg x=none)(hv:bootBuiltins x=some u)(r:ac v u)(hn:x≠"__name__":=by decide)(hd:(x==("__debug__":Str))=false:=by decide):PE X (.Name x pos) (tC v):=
 λ_ _ _ H _ I h=>ld_blt I hg hm hv (v,H,I,r,h) hn hd
variable{a b:Expr}{ta tb:TE}{pos:Pos}
def tB(t:TE):TT:=λσ H Q=>t σ H λx H1=>∃c,x=.bl c/\Q c H1
theorem b_r(h:PE X e t)(he:∀whole,isTrue e X.env whole=(do let v <-whole;standAt e.pos;holding [v] (truthy v)):=by intro _;rfl):PT X e (tB t):=by
 intro pins s σ H Q I hw;refine isTrue_plain (thn (h pins s σ H _ I hw) λv s1 hZ1=>?_) (he _);obtain⟨x,H1,I1,r1,q1⟩:=hZ1;obtain⟨d,rfl,q⟩:=q1;cases r1;exact wpAny_truthy_bool (H1,I1,q)
variable{tA tB':TT}{rest:List Expr}
def sQ(t u:TT):TT:=λσ H Q=>t σ H λc H1=>if c=true then u σ H1 Q else Q false H1
def tOr(t u:TT):TT:=λσ H Q=>t σ H λc H1=>if c=true then Q true H1 else u σ H1 Q
def sJ(t:TT):TT:=λσ H Q=>t σ H λc H1=>Q (!c) H1
theorem ou(ha:PT X a tA):PW X (.BoolOp .And [a] pos) tA:=by
 intro wh pins s σ H Q I h;refine isTrue_and (thn (ha pins s σ H Q I h) λc s1 e=>?_);cases c with
 |true=>exact isTrue_and_nil e
 |false=>exact e
theorem f_e(ha:PT X a tA):PW X (.BoolOp .Or [a] pos) tA:=by
 intro wh pins s σ H Q I h;refine isTrue_or (thn (ha pins s σ H Q I h) λc s1 e=>?_);cases c with
 |false=>exact isTrue_or_nil e
 |true=>exact e
theorem p9(ha:PT X a tA)(hb:PW X (.BoolOp .And (b::rest) pos) tB'):PW X (.BoolOp .And (a::b::rest) pos) (sQ tA tB'):=by
 intro wh pins s σ H Q I h;refine isTrue_and (thn (ha pins s σ H _ I h) λc s1 hZ2=>?_);obtain⟨H1,I1,q1⟩:=hZ2;cases c with
 |true=>exact hb wh pins s1 σ H1 Q I1 q1
 |false=>exact(H1,I1,q1)
theorem e_D(ha:PT X a tA)(hb:PW X (.BoolOp .Or (b::rest) pos) tB'):PW X (.BoolOp .Or (a::b::rest) pos) (tOr tA tB'):=by
 intro wh pins s σ H Q I h;refine isTrue_or (thn (ha pins s σ H _ I h) λc s1 hZ0=>?_);obtain⟨H1,I1,q1⟩:=hZ0;cases c with
 |true=>exact(H1,I1,q1)
 |false=>exact hb wh pins s1 σ H1 Q I1 q1
theorem d_J(ha:PT X a tA):PT X (.UnaryOp .Not a pos) (sJ tA):=by
 intro pins s σ H Q I h;exact isTrue_not (ha pins s σ H (λc H1=>Q (!c) H1) I h)
def rj(ta tb:TE):TE:=λσ H Q=>ta σ H λx H1=>∃c,x=.bl c/\if c=true then tb σ H1 Q else Q (.bl false) H1
def sI(ta tb:TE):TE:=λσ H Q=>ta σ H λx H1=>∃c,x=.bl c/\if c=true then Q (.bl true) H1 else tb σ H1 Q
def qY(ta:TE):TE:=λσ H Q=>ta σ H λx H1=>∃c,x=.bl c/\Q (.bl (!c)) H1
theorem f_g{op}(h:PE X a t):PE X (.BoolOp op [a] pos) t:=λpins s σ H Q I hw=>BoolOp_one (h pins s σ H Q I hw)
theorem f_h(ha:PE X a ta)(hb:PE X (.BoolOp .And (b::rest) pos) tb):PE X (.BoolOp .And (a::b::rest) pos) (rj ta tb):=by
 intro pins s σ H Q I h;refine BoolOp_and (thn (ha pins s σ H _ I h) λv s1 hZ1=>?_);obtain⟨x,H1,I1,r1,q1⟩:=hZ1;obtain⟨c,rfl,q1⟩:=q1;cases r1;refine wpAny_truthy_bool ?_;cases c with
 |true=>exact hb pins s1 σ H1 Q I1 q1
 |false=>exact(.bl false,H1,I1,rfl,q1)
theorem rP(ha:PE X a ta)(hb:PE X (.BoolOp .Or (b::rest) pos) tb):PE X (.BoolOp .Or (a::b::rest) pos) (sI ta tb):=by
 intro pins s σ H Q I h;refine BoolOp_or (thn (ha pins s σ H _ I h) λv s1 hZ2=>?_);obtain⟨x,H1,I1,r1,q1⟩:=hZ2;obtain⟨c,rfl,q1⟩:=q1;cases r1;refine wpAny_truthy_bool ?_;cases c with
 |false=>exact hb pins s1 σ H1 Q I1 q1
 |true=>exact(.bl true,H1,I1,rfl,q1)
theorem ib(ha:PE X a ta):PE X (.UnaryOp .Not a pos) (qY ta):=by
 intro pins s σ H Q I h;refine UnaryOp_ (thn (ha pins s σ H _ I h) λv s1 hZ0=>?_);obtain⟨x,H1,I1,r1,q1⟩:=hZ0;obtain⟨c,rfl,q1⟩:=q1;cases r1;exact not_of (wpAny_truthy_bool (.bl (!c),H1,I1,rfl,q1))
def tIf(t:TT)(ta tb:TE):TE:=λσ H Q=>t σ H λc H1=>if c=true then ta σ H1 Q else tb σ H1 Q
theorem lZ(hc:PT X c tA)(ha:PE X a ta)(hb:PE X b tb):PE X (.IfExp c a b pos) (tIf tA ta tb):=by
 intro pins s σ H Q I h;refine wpAny_IfExp (thn (hc pins s σ H _ I h) λd s1 hZ1=>?_);obtain⟨H1,I1,q1⟩:=hZ1;cases d with
 |true=>exact ha pins s1 σ H1 Q I1 q1
 |false=>exact hb pins s1 σ H1 Q I1 q1
end
def SqL(K:Frag)(H:Hp)(a:Addr)(xs:List V):Prop:=
 Rd H a (.lst xs) \/
  ∃(o:Obj)(its:Array Value)(n:Nat),K.lookup a=some o/\o.cls=.type "list"/\o.dict=none/\o.data=.seq its n/\its.size≤sizeLine/\ad xs its.toList
def SqT(K:Frag)(H:Hp)(a:Addr)(xs:List V):Prop:=
 Rd H a (.tup xs) \/
  ∃(o:Obj)(its:Array Value)(n:Nat),K.lookup a=some o/\o.cls=.type "tuple"/\o.data=.seq its n/\its.size≤sizeLine/\ad xs its.toList
def tK:Value->Option V
 |.none=>some .non
 |.bool b=>some (.bl b)
 |.int i _=>some (.int i)
 |.str x _=>some (.str x)
 |.bytes b _=>some (.byt b)
 |.float b _=>some (.flt b)
 |.ref a=>some (.ref a)
 |.type n=>some (.ty n)
 |_=>none
theorem ac.abs(r:ac x u):tK u=some x:=by
 cases x with
 |non=>cases r;rfl
 |bl _=>cases r;rfl
 |int _=>obtain⟨t,rfl⟩:=r;rfl
 |str _=>obtain⟨t,rfl⟩:=r;rfl
 |byt _=>obtain⟨t,rfl⟩:=r;rfl
 |flt _=>obtain⟨t,rfl⟩:=r;rfl
 |ref _=>cases r;rfl
 |ty _=>cases r;rfl
theorem ac.inj(r:ac x u)(q:ac y u):x=y:=Option.some.inj (r.abs.symm.trans q.abs)
theorem ad.inj:∀{xs ys:List V}{us:List Value},ad xs us->ad ys us->xs=ys
 |_,_,_,.nil,.nil=>rfl
 |_,_,_,.cons r t,.cons r' t'=>by rw[r.inj r',ad.inj t t']
section
variable{X:Cx}{pins:List (Addr×Obj)}{σ:St}{H:Hp}{s:Shared}{a:Addr}{xs ys:List V}
theorem SqL.of{K:Frag}(h:H a=some (.lst xs)):SqL K H a xs:=.inl (.inl h)
theorem SqT.of{K:Frag}(h:H a=some (.tup xs)):SqT K H a xs:=.inl (.inl h)
theorem Inv.list(I:Inv X pins σ H s)(h:SqL X.K H a xs):∃its:List Value,ad xs its/\PlainL s.heap a its.toArray/\xs.length≤sizeLine:=by
 rcases h with h|⟨o,its,n,hk,hc,hd,hs,hz,r⟩
 .obtain ⟨z,its,n,r,e⟩:=h.ok I.hok;exact(its,r,(_,n,e,rfl,rfl,rfl),z)
 .refine (its.toList,r,(o,n,I.kIn a o hk,hc,hd,by simpa using hs),?_);have e:=r.length;simp only[length_toList]at e;omega
theorem Inv.tuple(I:Inv X pins σ H s)(h:SqT X.K H a xs):∃its:List Value,ad xs its/\IsTup s.heap a its.toArray/\xs.length≤sizeLine:=by
 rcases h with h|⟨o,its,n,hk,hc,hs,hz,r⟩
 .obtain ⟨z,its,r,p⟩:=h.ok I.hok;exact(its,r,p,z)
 .refine (its.toList,r,(o,I.kIn a o hk,hc,n,by simpa using hs),?_);have e:=r.length;simp only[length_toList]at e;omega
theorem Inv.list_inj(I:Inv X pins σ H s)(h:SqL X.K H a xs)(h':SqL X.K H a ys):xs=ys:=by
 obtain⟨its,r,⟨o,n,e,_,_,d⟩,_⟩:=I.list h;obtain⟨its',r',⟨o',n',e',_,_,d'⟩,_⟩:=I.list h';rw[e]at e';cases e';rw[d]at d';injection d' with d1 _;have:its=its':=by simpa using congrArg Array.toList d1
 subst this;exact r.inj r'
theorem Inv.tuple_inj(I:Inv X pins σ H s)(h:SqT X.K H a xs)(h':SqT X.K H a ys):xs=ys:=by
 obtain⟨its,r,⟨o,e,_,n,d⟩,_⟩:=I.tuple h;obtain⟨its',r',⟨o',e',_,n',d'⟩,_⟩:=I.tuple h';rw[e]at e';cases e';rw[d]at d';injection d' with d1 _;have:its=its':=by simpa using congrArg Array.toList d1
 subst this;exact r.inj r'
end
abbrev Cx.wish(X:Cx)(E:Value->Shared->Prop):Cx:={X with xe:=E}
abbrev Cx.nox(X:Cx):Cx:=X.wish λ_ _=>False
theorem Cx.Ok.wish{X:Cx}(ok:X.Ok)(E:Value->Shared->Prop):(X.wish E).Ok:=
 (ok.mod,ok.kind,ok.glob,ok.blt,ok.above,ok.inj,ok.has,ok.cab,ok.hd,ok.frames,ok.stk,ok.exf,ok.bs,ok.bsz,ok.noex,ok.exfs,ok.funs,ok.frf)
theorem Cx.Ok.unwish{X:Cx}(ok:(X.wish E).Ok):X.Ok:=
 (ok.mod,ok.kind,ok.glob,ok.blt,ok.above,ok.inj,ok.has,ok.cab,ok.hd,ok.frames,ok.stk,ok.exf,ok.bs,ok.bsz,ok.noex,ok.exfs,ok.funs,ok.frf)
section
variable{X:Cx}{pins:List (Addr×Obj)}{σ:St}{H:Hp}{s:Shared}{E:Value->Shared->Prop}
theorem Inv.wish(I:Inv X pins σ H s)(E:Value->Shared->Prop):Inv (X.wish E) pins σ H s:=(I.ok.wish E,I.os,I.bare,I.base,I.loc,I.cell,I.free,I.freeC,I.pin,I.hok,I.len)
theorem Inv.unwish(I:Inv (X.wish E) pins σ H s):Inv X pins σ H s:=(I.ok.unwish,I.os,I.bare,I.base,I.loc,I.cell,I.free,I.freeC,I.pin,I.hok,I.len)
theorem SP.unwish(h:SP (X.wish E) pins D f s'):SP X pins D f s':=by
 cases f with
 |next=>obtain⟨σ',H',I,q⟩:=h;exact(σ',H',I.unwish,q)
 |brk=>obtain⟨σ',H',I,q⟩:=h;exact(σ',H',I.unwish,q)
 |cont=>obtain⟨σ',H',I,q⟩:=h;exact(σ',H',I.unwish,q)
 |ret u=>obtain⟨v,σ',H',I,r,q⟩:=h;exact(v,σ',H',I.unwish,r,q)
theorem PSs.nox{st:List Stmt}(h:PSs X.nox st t):PSs X st t:=λpins s σ H D I hw=>
 wpAny_mono (h pins s σ H D (I.wish _) hw) (λ_ _ q=>q.unwish) λ_ _ z=>False.elim z
end
section
variable{X:Cx}{st:Stmt}{rest:List Stmt}{t u:TS}{e:Expr}{te:TE}{pos:Pos}
def tNext:TS:=λD σ H=>D.nx σ H
def aO(t u:TS):TS:=λD σ H=>t {D with nx:=u D} σ H
theorem a_t:PSs X [] tNext:=λ_ _ σ H _ I h=>wpAny_execs_nil (σ,H,I,h)
theorem a_b(h1:PS X st t)(h2:PSs X rest u):PSs X (st::rest) (aO t u):=by
 intro pins s σ H D I h;refine wpAny_execs_cons (thn (h1 pins s σ H {D with nx:=u D} I h) λf s1 q=>?_);cases f with
 |next=>
  obtain⟨σ',H',I',q⟩:=q;exact h2 pins s1 σ' H' D I' q
 |ret v=>exact q
 |brk=>exact q
 |cont=>exact q
theorem a_f(h1:PS X st t):PSs X [st] t:=by
 intro pins s σ H D I h;refine wpAny_execs_cons (thn (h1 pins s σ H D I h) λf s1 q=>?_);cases f with
 |next=>exact wpAny_execs_nil q
 |ret v=>exact q
 |brk=>exact q
 |cont=>exact q
def tBreak:TS:=λD σ H=>D.bk σ H
theorem eZ:PS X (.Break pos) tBreak:=λ_ _ σ H _ I h=>wpAny_Break (σ,H,I,h)
theorem Inv.quiet{σ:St}(I:Inv X pins σ H s):interactive X.env=false:=by simp[interactive,I.ok.kind]
def re(te:TE):TS:=λD σ H=>te σ H λ_ H1=>D.nx σ H1
theorem b_j(he:PE X e te)(hs:swapsWith e none pos.line X.env=pure false:=by rfl):PS X (.Expr e pos) (re te):=by
 intro pins s σ H D I h;exact wpAny_Expr_any (thn (he pins s σ H _ I h) λv s1 hZ2=>by obtain⟨x,H1,I1,r1,q1⟩:=hZ2;exact(σ,H1,I1,q1)) I.quiet hs
def eR(te:TE):TS:=λD σ H=>te σ H D.rt
theorem a_k(he:PE X e te):PS X (.Return (some e) pos) (eR te):=by
 intro pins s σ H D I h;exact wpAny_Return_some (thn (he pins s σ H _ I h) λv s1 hZ0=>by obtain⟨x,H1,I1,r1,q1⟩:=hZ0;exact(x,σ,H1,I1,r1,q1))
def sN(c:TT)(t u:TS):TS:=λD σ H=>c σ H λb H1=>if b=true then t D σ H1 else u D σ H1
theorem a_W(hc:PT X c tc)(ha:PSs X a t)(hb:PSs X b u):PS X (.If c a b pos) (sN tc t u):=by
 intro pins s σ H D I h;refine wpAny_If (thn (hc pins s σ H _ I h) λd s1 hZ1=>?_);obtain⟨H1,I1,q1⟩:=hZ1;cases d with
 |true=>exact ha pins s1 σ H1 D I1 q1
 |false=>exact hb pins s1 σ H1 D I1 q1
def tNever:TS:=λ_ _ _=>False
theorem lO:PS X st tNever:=λ_ _ _ _ _ _ h=>h.elim
end
abbrev TG:=V->St->Hp->(St->Hp->Prop)->Prop
abbrev TGs:=List V->St->Hp->(St->Hp->Prop)->Prop
def PG(X:Cx)(target:Expr)(t:TG):Prop:=
 ∀(pins:List (Addr×Obj))(s:Shared)(σ:St)(H:Hp)(v:V)(u:Value)(Q:St->Hp->Prop),Inv X pins σ H s->ac v u->t v σ H Q->
  wpAny (model X.prog X.w) X.A (assign target X.env u) (λ_ s'=>∃σ' H',Inv X pins σ' H' s'/\Q σ' H') X.xe s
def PGs(X:Cx)(ts:List Expr)(t:TGs):Prop:=
 ∀(pins:List (Addr×Obj))(s:Shared)(σ:St)(H:Hp)(vs:List V)(us:List Value)(Q:St->Hp->Prop),Inv X pins σ H s->ad vs us->t vs σ H Q->
  wpAny (model X.prog X.w) X.A (assignInOrder ((assignEach ts X.env).map (·.2)) us) (λ_ s'=>∃σ' H',Inv X pins σ' H' s'/\Q σ' H') X.xe s
abbrev TSet:=V->V->V->Hp->(Hp->Prop)->Prop
def qO(X:Cx)(t:TSet):Prop:=
 ∀(pins:List (Addr×Obj))(s:Shared)(σ:St)(H:Hp)(o i v:V)(ov iv u:Value)(Q:Hp->Prop),Inv X pins σ H s->ac o ov->ac i iv->ac v u->t o i v H Q->
  wpAny (model X.prog X.w) X.A (setItem ov iv u) (λ_ s'=>∃H',Inv X pins σ H' s'/\Q H') X.xe s
section
variable{X:Cx}{pos:Pos}
def c_x(i:Nat):TG:=λv σ H Q=>Q (σ.set i (some v)) H
theorem f_f(hN:X.N.Nodup)(hi:X.N[i]?=some x)(hx:Loc X.env.scope x)(hf:X.fn x=true\/X.env.scope.names.lookup x=some .local:=by first|exact .inl rfl|exact .inr rfl|assumption):PG X (.Name x pos) (c_x i):=by
 intro pins s σ H v u Q I r h;exact wpAny_assign_Name (store_ok I hN hi hx r (λs' I'=>(_,H,I',h)) hf)
def gNil:TGs:=λvs σ H Q=>vs=[]/\Q σ H
def mZ(t:TG)(u:TGs):TGs:=λvs σ H Q=>∃v r,vs=v::r/\t v σ H λσ' H'=>u r σ' H' Q
theorem dA:PGs X [] gNil:=by
 intro pins s σ H vs us Q I r h;obtain⟨e,h⟩:=h;subst e;cases r;exact assignInOrder_nil (σ,H,I,h)
theorem c_T(h1:PG X e t)(h2:PGs X es u)(hs:(assignEach (e::es) X.env).map (·.2)=assign e X.env::(assignEach es X.env).map (·.2):=by rfl):PGs X (e::es) (mZ t u):=by
 intro pins s σ H vs us Q I r h;obtain⟨v,vr,e1,h⟩:=h;subst e1;cases r with
 |cons r rr=>
  rw[hs];refine assignInOrder_cons (thn (h1 pins s σ H _ _ _ I r h) λ_ s1 hZ2=>?_);obtain⟨σ1,H1,I1,q1⟩:=hZ2;exact h2 pins s1 σ1 H1 _ _ Q I1 rr q1
def si(K:Frag)(n:Nat)(t:TGs):TG:=λv σ H Q=>∃a xs,v=.ref a/\SqT K H a xs/\xs.length=n/\t xs σ H Q
theorem ia{k:Nat}(hc:X.calm=true)(h:PGs X es t)(hn:(assignEach es X.env).length=n:=by rfl)(hst:(assignEach es X.env).findIdx? (·.1)=none:=by rfl):PG X (.Tuple es k pos) (si X.K n t):=by
 intro pins s σ H v u Q I r hw;obtain⟨a,xs,e1,hq,hl,hw⟩:=hw;subst e1;cases r;obtain⟨its,rv,ht,hz⟩:=I.tuple hq;refine assign_Tuple_tuple (I.ok.hd hc) ht (by simp[hn,<-hl,rv.length]) hst λh' hx=>?_;have I1:Inv X pins σ H {s with heap:=h'}:=I.kept (t':=s.toks) λb o e=>hx b o (ne_of_lt (lt_size e)) e;exact h pins _ σ H xs _ Q I1 (by simpa using rv) hw
def tG(to ti:TE)(t:TSet):TG:=λv σ H Q=>to σ H λo H1=>ti σ H1 λi H2=>t o i v H2 λH3=>Q σ H3
theorem pg_sub(ho:PE X o to)(hi:PE X i ti)(hs:qO X t)(ha:∀v,assign (.Subscript o i pos) X.env v=(do
   let ov <-holding [v] (eval o X.env)
   let iv <-holding [v,ov] (eval i X.env)
   standAt pos
   holding [v,ov,iv] (setItem ov iv v)
   release [v,ov,iv] []):=by intro _;rfl):PG X (.Subscript o i pos) (tG to ti t):=by
 intro pins s σ H v u Q I r h;rw[ha];refine qa7 (wpAny_holding (thn (ho pins s σ H _ I h) λov s1 hZ0=>?_));obtain⟨x,H1,I1,r1,q1⟩:=hZ0;refine qa7 (wpAny_holding (thn (hi pins s1 σ H1 _ I1 q1) λiv s2 hZ1=>?_));obtain⟨y,H2,I2,r2,q2⟩:=hZ1;refine qa7 (wpAny_standAt (qa7 (wpAny_holding (thn (hs pins s2 σ H2 x y v ov iv u _ I2 r1 r2 r q2) λ_ s3 hZ2=>?_))));obtain⟨H3,I3,q3⟩:=hZ2;exact wpAny_release (σ,H3,I3,q3)
def aG(te:TE)(g:TG):TS:=λD σ H=>te σ H λx H1=>g x σ H1 D.nx
theorem ps_asg(he:PE X e te)(hg:PG X tg g)(hs:swapsWithSole [tg] e pos.line X.env=pure false:=by rfl)(hw:swappedStores [tg] e X.env=pure none:=by rfl)(h1:(assignEach [tg] X.env).map (·.2)=[assign tg X.env]:=by rfl):PS X (.Assign [tg] e pos) (aG te g):=by
 intro pins s σ H D I h;refine wpAny_Assign_stores (thn (he pins s σ H _ I h) λv s1 hZ0=>?_) hs hw;obtain⟨x,H1,I1,r1,q1⟩:=hZ0;rw[h1];exact thn (hg pins s1 σ H1 x v _ I1 r1 q1) λ_ s2 q=>q
theorem qa(hN:X.N.Nodup)(hi:X.N[i]?=some x)(hx:Loc X.env.scope x)(he:PE X e te)(hs:swapsWith e (some (.Name x pos')) pos.line X.env=pure false:=by rfl)(hf:X.fn x=true\/X.env.scope.names.lookup x=some .local:=by first|exact .inl rfl|exact .inr rfl|assumption):PS X (.Assign [.Name x pos'] e pos) (aG te (c_x i)):=by
 intro pins s σ H D I h;refine wpAny_Assign_Name (thn (he pins s σ H _ I h) λv s1 hZ1=>?_) hs;obtain⟨y,H1,I1,r1,q1⟩:=hZ1;exact store_ok I1 hN hi hx r1 (λs2 I2=>(_,H1,I2,q1)) hf
end
section
variable{X:Cx}{pos:Pos}
def pW(c:TT)(tb:TS):TS:=λD σ H=>∃W:Nat->St->Hp->Prop,(∃m,W m σ H)/\∀m σ H,W m σ H->
 c σ H λb H1=>if b=true then ∃N:St->Hp->Prop,(∀σ' H',N σ' H'->∃m',m'<m/\W m' σ' H')/\tb {D with nx:=N,ct:=N,bk:=D.nx} σ H1 else D.nx σ H1
theorem eY(hp:PassesOwn (model X.prog X.w) X.A X.env X.xe)(hc:PT X c tc)(hb:PSs X body tb):PS X (.While c body [] pos) (pW tc tb):=by
 intro pins s σ H D I h;obtain⟨W,⟨m0,w0⟩,turn⟩:=h;refine wpAny_While (codeAny_whileLoop (λn s'=>∃σ' H',Inv X pins σ' H' s'/\W n σ' H') ?_ m0 (σ,H,I,w0));rintro n s1⟨σ1,H1,I1,w1⟩;refine wpAny_passesOwn hp (thn (hc pins s1 σ1 H1 _ I1 (turn n σ1 H1 w1)) λb s2 hZ2=>?_);obtain⟨H2,I2,q2⟩:=hZ2;cases b with
 |true=>
  obtain⟨N,hN,q2⟩:=q2;rw[if_pos rfl];refine wpAny_passesOwn hp (thn (hb pins s2 σ1 H2 _ I2 q2) λf s3 q3=>?_);cases f with
  |next=>
   obtain⟨σ3,H3,I3,n3⟩:=q3;obtain⟨m',hm,w3⟩:=hN σ3 H3 n3;exact(m',hm,σ3,H3,I3,w3)
  |cont=>
   obtain⟨σ3,H3,I3,n3⟩:=q3;obtain⟨m',hm,w3⟩:=hN σ3 H3 n3;exact(m',hm,σ3,H3,I3,w3)
  |brk=>exact q3
  |ret v=>exact q3
 |false=>
  rw[if_neg Bool.false_ne_true];exact wpAny_execs_nil (σ1,H2,I2,q2)
end
structure It where
 go:Nat->Hp->Prop
 yld:Nat->Hp->V->Hp->Prop
 stop:Nat->Hp->Prop
def aZ(X:Cx)(pins:List (Addr×Obj))(H:Hp)(b:Addr):Prop:=
 H b=none/\b≠X.env.locals/\b∉X.fs/\(b∈X.ex\/X.s₀.heap.objs.size≤b)/\(∀x c,X.env.cells.lookup x=some c->c≠b)/\∀p∈X.pn++pins,p.1≠b
theorem Inv.fpOk{σ:St}{b:Addr}(I:Inv X pins σ H s)(hb:s.heap.objs.size≤b)(hn:H' b=none):aZ X pins H' b:=by
 refine(hn,ne_of_gt (lt_of_lt_of_le I.lt hb),I.nofs hb,.inr (le_trans I.sz hb),λx c e z=>?_,λp hp z=>?_)
 .obtain ⟨v,q⟩:=I.cell x c e;exact absurd (lt_of_lt_of_le q.lt (by rw[z];exact hb)) (lt_irrefl _)
 .exact absurd (lt_of_lt_of_le (lt_size (I.pin p hp).1) (by rw[z];exact hb)) (lt_irrefl _)
structure bU(P:Program)(w:World)(K:Frag)(tg:Expr)(J:It)(fp:List Addr)(it:Addr)(tn:Nat->Heap->Prop):Prop where
 mem:it∈fp
 obj:∀i h,tn i h->∀b∈fp,∃o,h.get? b=some o/\∀v,o.data≠.cell v
 keep:∀i h h',tn i h->(∀b∈fp,∀o,h.get? b=some o->h'.get? b=some o)->tn i h'
 item:∀(X:Cx),X.prog=P->X.w=w->X.K=K->X.calm=true->∀(i:Nat)(pins:List (Addr×Obj))(s:Shared)(σ:St)(H:Hp)(E:Value->Shared->Prop),Inv X pins σ H s->(∀b∈fp,aZ X pins H b)->tn i s.heap->J.go i H->
  wpAny (model P w) X.A (pyNext (.ref it)) (λr s1=>∃u,r=some u/\
   wpAny (model P w) X.A (letOwnedTupleGo tg (.ref it) u) (λ_ s2=>∃x H',Inv X pins σ H' s2/\ac x u/\J.yld i H x H'/\tn (i+1) s2.heap/\∀b∈fp,H' b=none) E s1) E s
 done:∀(X:Cx),X.prog=P->X.w=w->X.K=K->X.calm=true->∀(i:Nat)(pins:List (Addr×Obj))(s:Shared)(σ:St)(H:Hp)(E:Value->Shared->Prop),Inv X pins σ H s->(∀b∈fp,aZ X pins H b)->tn i s.heap->J.stop i H->
  wpAny (model P w) X.A (pyNext (.ref it)) (λr s1=>r=none/\Inv X pins σ H s1) E s
 self:∀(A:Around)(i:Nat)(s:Shared)(Q:Value->Shared->Prop)(E:Value->Shared->Prop),tn i s.heap->Q (.ref it) s->wpAny (model P w) A (pyIter (.ref it)) Q E s
abbrev TI:=St->Hp->(It->Hp->Prop)->Prop
def PIE(X:Cx)(pins:List (Addr×Obj))(σ:St)(tg:Expr)(R:It->Hp->Prop)(itv:Value)(s2:Shared):Prop:=
 ∃(it:Addr)(fp:List Addr)(tn:Nat->Heap->Prop)(J:It)(H':Hp),itv=.ref it/\Inv X pins σ H' s2/\bU X.prog X.w X.K tg J fp it tn/\tn 0 s2.heap/\(∀b∈fp,aZ X pins H' b)/\R J H'
def PI(X:Cx)(tg iter:Expr)(wi:TI):Prop:=
 ∀(pins:List (Addr×Obj))(s:Shared)(σ:St)(H:Hp)(R:It->Hp->Prop),Inv X pins σ H s->wi σ H R->
  wpAny (model X.prog X.w) X.A (eval iter X.env) (λv s1=>wpAny (model X.prog X.w) X.A (pyIter v) (PIE X pins σ tg R) X.xe s1) X.xe s
theorem cD{M:Model}{A:Around}(ho:s.heap.get? it=some o)(hc:o.cls=.type n)(hd:o.data=.fields vs)(hn:["enumerate","zip","dict_itemiterator","dict_reverseitemiterator","odict_iterator","itertools.zip_longest","itertools.pairwise"].contains n=false)(hQ:Q () s):wpAny M A (letOwnedTupleGo tg (.ref it) u) Q E s:=by
 unfold letOwnedTupleGo;cases tg<;>first
  |exact qa8 hQ
  | (cases u<;>first
    |exact qa8 hQ
    | (refine qa7 (wpAny_load ho ?_)
       rw[hc,hd];show wpAny M A (if (["enumerate","zip","dict_itemiterator","dict_reverseitemiterator","odict_iterator","itertools.zip_longest","itertools.pairwise"].contains n&&vs[0]?==some (rawInt _))=true then _ else _) Q E s;rw[if_neg (by intro h;rw[hn,Bool.false_and]at h;cases h)];exact qa8 hQ))
def Itl(K:Frag)(a:Addr):It:=
 ⟨λi H=>∃xs x,SqL K H a xs/\xs[i]?=some x,λi H x H'=>H'=H/\∀xs,SqL K H a xs->xs[i]?=some x,λi H=>∃xs,SqL K H a xs/\xs.length≤i⟩
def Itt(K:Frag)(a:Addr):It:=
 ⟨λi H=>∃xs x,SqT K H a xs/\xs[i]?=some x,λi H x H'=>H'=H/\∀xs,SqT K H a xs->xs[i]?=some x,λi H=>∃xs,SqT K H a xs/\xs.length≤i⟩
def Itr(lo:Int)(n:Nat):It:=(λi _=>i<n,λi H x H'=>H'=H/\x=.int (lo+i),λi _=>n≤i)
theorem jJ{K:Frag}(a it:Addr):bU P w K tg (Itl K a) [it] it (λi h=>h.IsListIter it a i)  where
 mem:=by simp
 obj:=λi h st b hb=>by
  have e:b=it:=by simpa using hb
  subst e;obtain⟨o,e,c,d⟩:=st;exact(o,e,λv z=>by rw[d]at z;cases z)
 keep:=λi h h' st k=>st.at λo e=>k it (by simp) o e
 item:=by
  intro X hP hw hK hc i pins s σ H E I hf st hg;subst hP hw hK;obtain⟨xs,x,hq,hx⟩:=hg;obtain⟨its,rv,p,hz⟩:=I.list hq;obtain⟨u,hu,ru⟩:=rv.get hx;obtain⟨f0,f1,f2,f3,f4,f5⟩:=hf it (by simp);refine wpAny_pyNext_list_item st p.isList (x:=u) (by simpa using hu) λh' st' sb=>?_;have I1:Inv X pins σ H {s with heap:=h'}:=I.turned (t':=s.toks) (λb o hb e=>(sb.2 b hb).trans e) f0 f1 f3 f4 f5;obtain⟨o,e,c,d⟩:=id st';exact(u,rfl,cD (s:={s with heap:=h'}) e c d (by decide) (x,H,I1,ru,(rfl,λys hy=>by rw[I.list_inj hy hq];exact hx),st',λb hb=>(hf b hb).1))
 done:=by
  intro X hP hw hK hc i pins s σ H E I hf st hg;subst hP hw hK;obtain⟨xs,hq,hx⟩:=hg;obtain⟨its,rv,p,hz⟩:=I.list hq;obtain⟨f0,f1,f2,f3,f4,f5⟩:=hf it (by simp);have hl:=rv.length;exact wpAny_pyNext_list_end (I.ok.hd hc) st p.isList (by simp;omega) λh' eb=>(rfl,I.turned (t':=s.toks) (λb o hb e=>eb b o hb e) f0 f1 f3 f4 f5)
 self:=λ_ _ _ _ _ st h=>wpAny_pyIter_listiter st h
theorem f_N{K:Frag}(a it:Addr):bU P w K tg (Itt K a) [it] it (λi h=>h.IsTupleIter it a i)  where
 mem:=by simp
 obj:=λi h st b hb=>by
  have e:b=it:=by simpa using hb
  subst e;obtain⟨o,e,c,d⟩:=st;exact(o,e,λv z=>by rw[d]at z;cases z)
 keep:=λi h h' st k=>st.at λo e=>k it (by simp) o e
 item:=by
  intro X hP hw hK hc i pins s σ H E I hf st hg;subst hP hw hK;obtain⟨xs,x,hq,hx⟩:=hg;obtain⟨its,rv,p,hz⟩:=I.tuple hq;obtain⟨u,hu,ru⟩:=rv.get hx;obtain⟨f0,f1,f2,f3,f4,f5⟩:=hf it (by simp);refine wpAny_pyNext_tuple_item st (show s.heap.IsTuple a its.toArray from p) (x:=u) (by simpa using hu) λh' st' sb=>?_;have I1:Inv X pins σ H {s with heap:=h'}:=I.turned (t':=s.toks) (λb o hb e=>(sb.2 b hb).trans e) f0 f1 f3 f4 f5;obtain⟨o,e,c,d⟩:=id st';exact(u,rfl,cD (s:={s with heap:=h'}) e c d (by decide) (x,H,I1,ru,(rfl,λys hy=>by rw[I.tuple_inj hy hq];exact hx),st',λb hb=>(hf b hb).1))
 done:=by
  intro X hP hw hK hc i pins s σ H E I hf st hg;subst hP hw hK;obtain⟨xs,hq,hx⟩:=hg;obtain⟨its,rv,p,hz⟩:=I.tuple hq;obtain⟨f0,f1,f2,f3,f4,f5⟩:=hf it (by simp);have hl:=rv.length;exact wpAny_pyNext_tuple_end (I.ok.hd hc) st (show s.heap.IsTuple a its.toArray from p) (by simp;omega) λh' eb=>(rfl,I.turned (t':=s.toks) (λb o hb e=>eb b o hb e) f0 f1 f3 f4 f5)
 self:=λ_ _ _ _ _ st h=>wpAny_pyIter_tupleiter st h
theorem gQ{K:Frag}(it:Addr)(lo:Int)(n:Nat):bU P w K tg (Itr lo n) [it] it (λi h=>IsRangeIter h it (lo+(i:Nat)*1) ((n:Int)-(i:Nat)) 1)  where
 mem:=by simp
 obj:=λi h st b hb=>by
  have e:b=it:=by simpa using hb
  subst e;exact(_,st,λv z=>by
   have z':Data.fields _=Data.cell v:=z;cases z')
 keep:=λi h h' st k=>k it (by simp) _ st
 item:=by
  intro X hP hw hK hc i pins s σ H E I hf st hg;subst hP hw hK;obtain⟨f0,f1,f2,f3,f4,f5⟩:=hf it (by simp);have W:=Walks.range (prog:=X.prog) (w:=X.w) (I.ok.hd hc) it lo 1 n;refine W.item i s _ _ hg st λv h' tk hv st' kk=>?_;obtain⟨t,rfl⟩:=hv;have I1:Inv X pins σ H {s with heap:=h',toks:=tk}:=I.turned (λb o hb e=>kk b o (by simpa using hb) e) f0 f1 f3 f4 f5;refine(_,rfl,cD (s:={s with heap:=h',toks:=tk}) (n:="range_iterator") st' rfl rfl (by decide) (.int (lo+i),H,I1,(t,?_),(rfl,rfl),st',λb hb=>(hf b hb).1));rw[Int.mul_one]
 done:=by
  intro X hP hw hK hc i pins s σ H E I hf st hg;subst hP hw hK;obtain⟨f0,f1,f2,f3,f4,f5⟩:=hf it (by simp);exact wpAny_pyNext_range_end (I.ok.hd hc) st (by have:n≤i:=hg;omega) λh' eb=>(rfl,I.turned (t':=s.toks) (λb o hb e=>eb b o hb e) f0 f1 f3 f4 f5)
 self:=λ_ _ _ _ _ st h=>wpAny_pyIter_rangeiter st h
section
variable{X:Cx}{tg:Expr}
def tz(K:Frag)(tl:TE):TI:=λσ H R=>tl σ H λx H1=>∃a,x=.ref a/\(∃xs,SqT K H1 a xs)/\R (Itt K a) H1
theorem lW(hl:PE X l tl):PI X tg l (tz X.K tl):=by
 intro pins s σ H R I h;refine thn (hl pins s σ H _ I h) λv s1 hZ0=>?_;obtain⟨x,H1,I1,r1,q1⟩:=hZ0;obtain⟨a,e,⟨xs,hq⟩,q⟩:=q1;subst e;cases r1;obtain⟨its,rv,p,hz⟩:=I1.tuple hq;refine wpAny_pyIter_tuple (show s1.heap.IsTuple a its.toArray from p) ?_;refine(s1.heap.objs.size,[s1.heap.objs.size],_,_,H1,rfl,I1.kept (t':=s1.toks) λb o e=>qa9 _ e,f_N a _,(_,get?_push_size _ rfl,rfl,rfl),λb hb=>?_,q);have e:b=s1.heap.objs.size:=by simpa using hb
 subst e;exact I1.fpOk (le_refl _) (I1.hok.fresh (le_refl _))
theorem eX{σ:St}{lo hi:Int}(I:Inv X pins σ H s)(h1:-(2^62)≤lo)(h2:lo<2^62)(h3:-(2^62)≤hi)(h4:hi<2^62)(q:R (Itr lo (hi-lo).toNat) H):wpAny (model X.prog X.w) X.A (pyIter (.ref s.heap.objs.size)) (PIE X pins σ tg R) E {s with heap:=s.heap.push {cls:=.type "range",data:=.fields #[.int lo t,.int hi u,.int 1 v]},toks:=tk}:=by
 refine wpAny_pyIter_range (IsRange.new ..) (small_one h1 h2 h3 h4) ?_;have I1:Inv X pins σ H {s with heap:=s.heap.push {cls:=.type "range",data:=.fields #[.int lo t,.int hi u,.int 1 v]},toks:=tk}:=I.kept λb o e=>qa9 _ e;refine((s.heap.push {cls:=.type "range",data:=.fields #[.int lo t,.int hi u,.int 1 v]}).objs.size,[(s.heap.push {cls:=.type "range",data:=.fields #[.int lo t,.int hi u,.int 1 v]}).objs.size],_,_,H,rfl,
  I1.kept (t':=tk) λb o e=>qa9 _ e,gQ _ lo (hi-lo).toNat,?_,λb hb=>?_,q)
 .have e1:lo+((0:Nat):Int)*1=lo:=by simp
  have e2:(((hi-lo).toNat:Nat):Int)-((0:Nat):Int)=Builtin.Range.rangeSize lo hi 1:=by rw[rangeSize_one];split<;>omega
  show IsRangeIter _ _ (lo+((0:Nat):Int)*1) ((((hi-lo).toNat:Nat):Int)-((0:Nat):Int)) 1;rw[e1,e2];exact get?_push_size _ rfl
 .have e:b=(s.heap.push {cls:=.type "range",data:=.fields #[.int lo t,.int hi u,.int 1 v]}).objs.size:=by simpa using hb
  subst e;exact I1.fpOk (le_refl _) (I1.hok.fresh (le_refl _))
def pG(ta:TA):TI:=λσ H R=>ta σ H λvs H1=>∃j:Int,vs=[.int j]/\-(2^62)≤j/\j<2^62/\R (Itr 0 j.toNat) H1
def sf(ta:TA):TI:=λσ H R=>ta σ H λvs H1=>∃i j:Int,vs=[.int i,.int j]/\(-(2^62)≤i/\i<2^62/\-(2^62)≤j/\j<2^62)/\R (Itr i (j-i).toNat) H1
theorem b_B(hg:Gl X "range")(hm:X.mg "range"=none)(ha:PA X [a] ta)(hs:starEach [a] X.env=[(false,eval a X.env,)]:=by rfl):PI X tg (.Call (.Name "range" p) [a] [] pos) (pG ta):=by
 intro pins s σ H R I h;refine Call_ (ld_blt I hg hm boot_range (PyProof.Rows.callWith_type1 (thn (ha pos pins s σ H _ I h) λus s1 hZ1=>?_) hs rfl));obtain⟨vs,H1,I1,r1,q1⟩:=hZ1;obtain⟨j,e,q1,q2,q⟩:=q1;subst e;cases r1 with
 |cons r rr=>
  cases rr;obtain⟨t,rfl⟩:=r;exact call_range_1 (eX I1 (by omega) (by omega) q1 q2 (by simpa using q))
theorem jZ{p pos:Pos}(hg:Gl X "range")(hm:X.mg "range"=none)(ha:PA X [a,b] ta)(hs:starEach [a,b] X.env=[(false,eval a X.env,),(false,eval b X.env,)]:=by rfl)(hs2:starEach [b] X.env=[(false,eval b X.env,)]:=by rfl):PI X tg (.Call (.Name "range" p) [a,b] [] pos) (sf ta):=by
 intro pins s σ H R I h;refine Call_ (ld_blt I hg hm boot_range (PyProof.Rows.callWith_type1 (thn (ha pos pins s σ H _ I h) λus s1 hZ2=>?_) (by rw[hs,hs2]) (by rw[hs2];rfl)));obtain⟨vs,H1,I1,r1,q1⟩:=hZ2;obtain⟨i,j,e,⟨q1,q2,q3,q4⟩,q⟩:=q1;subst e;cases r1 with
 |cons r rr=>
  cases rr with
  |cons r' rr=>
   cases rr;obtain⟨t,rfl⟩:=r;obtain⟨t',rfl⟩:=r';exact call_range_2 (eX I1 q1 q2 q3 q4 q)
def sO(wi:TI)(g:TG)(tb:TS):TS:=λD σ H=>wi σ H λJ H1=>∃W:Nat->Nat->St->Hp->Prop,(∃m,W 0 m σ H1)/\∀i m σ H,W i m σ H->
 (J.stop i H/\D.nx σ H)\/(J.go i H/\∃N:St->Hp->Prop,(∀σ' H',N σ' H'->∃m',m'<m/\W (i+1) m' σ' H')/\∀x H',J.yld i H x H'->g x σ H' λσ2 H2=>tb {D with nx:=N,ct:=N,bk:=D.nx} σ2 H2)
def bA(fp:List Addr)(h:Heap):List (Addr×Obj):=fp.filterMap λb=>(h.get? b).map λo=>(b,o,)
theorem b_e(hb:b∈fp)(e:h.get? b=some o):(b,o,)∈bA fp h:=List.mem_filterMap.mpr (b,hb,by rw[e];rfl)
theorem kh(hp:p∈bA fp h):p.1∈fp/\h.get? p.1=some p.2:=by
 obtain⟨b,hb,e⟩:=List.mem_filterMap.mp hp;cases q:h.get? b with
 |none=>rw[q]at e;cases e
 |some o=>
  rw[q]at e;have e':(b,o,)=p:=Option.some.inj e;subst e';exact(hb,q)
theorem Inv.pinned{σ:St}(I:Inv X pins σ H s)(hf:∀b∈fp,aZ X pins H b)(ho:∀b∈fp,∃o,s.heap.get? b=some o/\∀v,o.data≠.cell v):Inv X (pins++bA fp s.heap) σ H s:=
 I.pins_of λp hp=>(mem_append.mp hp).elim (λz=>I.pin p (mem_append_right _ z)) λz=>by
  obtain⟨hb,e⟩:=kh z;obtain⟨f0,f1,f2,_⟩:=hf p.1 hb;obtain⟨o,e',d⟩:=ho p.1 hb;rw[e]at e';cases e';exact(e,f0,f1,f2,d)
theorem Inv.unpinned{σ:St}(I:Inv X (pins++pl) σ H s):Inv X pins σ H s:=I.pins_of λp hp=>I.pin p (mem_append_right _ (mem_append_left _ hp))
theorem c_m(hp:PassesOwn (model X.prog X.w) X.A X.env X.xe)(hc:X.calm=true)(hi:PI X tg iter wi)(hg:PG X tg g)(hb:PSs X body tb)(hs:∀x,foldedSetIterable iter X.env x=pure x:=by intro _;rfl):PS X (.For tg iter body [] pos) (sO wi g tb):=by
 intro pins s σ H D I h;refine wpAny_For (thn (hi pins s σ H _ I h) λv s1 h1=>thn h1 λitv s2 h2=>?_) hs;obtain⟨it,fp,tn,J,H2,e,I2,T,st2,f2,W,⟨m0,w0⟩,turn⟩:=h2;subst e;have stat:∀{H':Hp},(∀b∈fp,H' b=none)->∀b∈fp,aZ X pins H' b:=λhn b hb=>(hn b hb,(f2 b hb).2);refine codeAny_forLoop_any (λn s'=>∃i σ' H',Inv X pins σ' H' s'/\tn i s'.heap/\(∀b∈fp,H' b=none)/\W i n σ' H') ?_ m0 (0,σ,H2,I2,st2,λb hb=>(f2 b hb).1,w0);rintro n s3⟨i,σ3,H3,I3,st3,fr3,w3⟩;rcases turn i n σ3 H3 w3 with⟨stop,qn⟩|⟨go,N,hN,step⟩
 .refine wpAny_passesOwn hp (thn (T.done X rfl rfl rfl hc i pins s3 σ3 H3 X.xe I3 (stat fr3) st3 stop) λr s4⟨hr,I4⟩=>?_);subst hr;exact wpAny_execs_nil (σ3,H3,I4,qn)
 .refine wpAny_passesOwn hp (thn (T.item X rfl rfl rfl hc i pins s3 σ3 H3 X.xe I3 (stat fr3) st3 go) λr s4⟨u,hr,h4⟩=>?_);subst hr;refine wpAny_passesOwn hp (thn h4 λ_ s5 hZ0=>?_);obtain⟨x,H5,I5,r5,y5,st5,fr5⟩:=hZ0;have I5':=I5.pinned (stat fr5) (T.obj _ _ st5);refine wpAny_passesOwn hp (thn (hg _ s5 σ3 H5 x u _ I5' r5 (step x H5 y5)) λ_ s6 hZ1=>?_);obtain⟨σ6,H6,I6,q6⟩:=hZ1;refine wpAny_passesOwn hp (thn (hb _ s6 σ6 H6 _ I6 q6) λf s7 q7=>?_);have again:∀{σ7:St}{H7:Hp},Inv X (pins++bA fp s5.heap) σ7 H7 s7->N σ7 H7->∃m,m<n/\∃i σ' H',Inv X pins σ' H' s7/\tn i s7.heap/\(∀b∈fp,H' b=none)/\W i m σ' H':=λ{σ7 H7}I7 n7=>by
   obtain⟨m',hm,w7⟩:=hN σ7 H7 n7;refine(m',hm,i+1,σ7,H7,I7.unpinned,T.keep _ _ _ st5 λb hb o e=>(I7.pin (b,o,) (mem_append_right _ (mem_append_right _ (b_e hb e)))).1,λb hb=>?_,w7);obtain⟨o,e,d⟩:=T.obj _ _ st5 b hb;exact(I7.pin (b,o,) (mem_append_right _ (mem_append_right _ (b_e hb e)))).2.1
  cases f with
  |next=>obtain⟨σ7,H7,I7,n7⟩:=q7;exact again I7 n7
  |cont=>obtain⟨σ7,H7,I7,n7⟩:=q7;exact again I7 n7
  |brk=>obtain⟨σ7,H7,I7,q7⟩:=q7;exact(σ7,H7,I7.unpinned,q7)
  |ret v=>obtain⟨x7,σ7,H7,I7,r7,q7⟩:=q7;exact(x7,σ7,H7,I7.unpinned,r7,q7)
end
theorem jq{K:Frag}{g:TG}{tb:TS}{D:Ends}(Pv:Nat->St->Hp->Prop)(h0:Pv 0 σ H)(hl:∀i σ H,i≤xs.length->Pv i σ H->SqT K H a xs)(hs:∀i x σ H,xs[i]?=some x->Pv i σ H->g x σ H λσ2 H2=>tb {D with nx:=Pv (i+1),ct:=Pv (i+1),bk:=D.nx} σ2 H2)(hd:∀σ H,Pv xs.length σ H->D.nx σ H):∃W:Nat->Nat->St->Hp->Prop,(∃m,W 0 m σ H)/\∀i m σ H,W i m σ H->
   ((Itt K a).stop i H/\D.nx σ H)\/((Itt K a).go i H/\∃N:St->Hp->Prop,(∀σ' H',N σ' H'->∃m',m'<m/\W (i+1) m' σ' H')/\∀x H',(Itt K a).yld i H x H'->g x σ H' λσ2 H2=>tb {D with nx:=N,ct:=N,bk:=D.nx} σ2 H2):=by
 refine(λi m σ H=>m=xs.length-i/\i≤xs.length/\Pv i σ H,(xs.length,by simp,zero_le _,h0),?_);rintro i m σ H⟨rfl,hi,p⟩;have q:=hl i σ H hi p;by_cases hlt:i<xs.length
 .refine .inr ((xs,xs[i],q,by simp[hlt]),Pv (i+1),λσ' H' p'=>(xs.length-(i+1),by omega,rfl,hlt,p'),λx H' y=>?_);obtain⟨e,y⟩:=y;subst e;exact hs i x σ _ (y xs q) p
 .have e:i=xs.length:=by omega
  subst e;exact .inl ((xs,q,le_refl _),hd σ H p)
theorem b_U{lo:Int}{g:TG}{tb:TS}{D:Ends}(Pv:Nat->St->Hp->Prop)(h0:Pv 0 σ H)(hs:∀i σ H,i<n->Pv i σ H->g (.int (lo+i)) σ H λσ2 H2=>tb {D with nx:=Pv (i+1),ct:=Pv (i+1),bk:=D.nx} σ2 H2)(hd:∀σ H,Pv n σ H->D.nx σ H):∃W:Nat->Nat->St->Hp->Prop,(∃m,W 0 m σ H)/\∀i m σ H,W i m σ H->
   ((Itr lo n).stop i H/\D.nx σ H)\/((Itr lo n).go i H/\∃N:St->Hp->Prop,(∀σ' H',N σ' H'->∃m',m'<m/\W (i+1) m' σ' H')/\∀x H',(Itr lo n).yld i H x H'->g x σ H' λσ2 H2=>tb {D with nx:=N,ct:=N,bk:=D.nx} σ2 H2):=by
 refine(λi m σ H=>m=n-i/\i≤n/\Pv i σ H,(n,by simp,zero_le _,h0),?_);rintro i m σ H⟨rfl,hi,p⟩;by_cases hlt:i<n
 .refine .inr (hlt,Pv (i+1),λσ' H' p'=>(n-(i+1),by omega,rfl,hlt,p'),λx H' y=>?_);obtain⟨e,y⟩:=y;subst e y;exact hs i σ _ hlt p
 .have e:i=n:=by omega
  subst e;exact .inl (le_refl _,hd σ H p)
abbrev R2:=V->V->Hp->VK->Prop
def OpR(X:Cx)(f:Value->Value->Sem Value)(r:R2):Prop:=
 ∀(pins:List (Addr×Obj))(s:Shared)(σ:St)(H:Hp)(x y:V)(v u:Value)(Q:VK),Inv X pins σ H s->ac x v->ac y u->r x y H Q->
  wpAny (model X.prog X.w) X.A (f v u) (EP X pins σ Q) X.xe s
def UnR(X:Cx)(f:Value->Sem Value)(r:V->Hp->VK->Prop):Prop:=
 ∀(pins:List (Addr×Obj))(s:Shared)(σ:St)(H:Hp)(x:V)(v:Value)(Q:VK),Inv X pins σ H s->ac x v->r x H Q->
  wpAny (model X.prog X.w) X.A (f v) (EP X pins σ Q) X.xe s
def d_f(X:Cx)(f:Value)(r:List V->Hp->VK->Prop):Prop:=
 ∀(pins:List (Addr×Obj))(s:Shared)(σ:St)(H:Hp)(xs:List V)(us:List Value)(Q:VK),Inv X pins σ H s->ad xs us->r xs H Q->
  wpAny (model X.prog X.w) X.A (call f us) (EP X pins σ Q) X.xe s
def tOp(r:R2)(ta tb:TE):TE:=λσ H Q=>ta σ H λx H1=>tb σ H1 λy H2=>r x y H2 Q
def tUn(r:V->Hp->VK->Prop)(ta:TE):TE:=λσ H Q=>ta σ H λx H1=>r x H1 Q
def rI(C:Int->Int->Prop)(g:Int->Int->V):R2:=λx y H Q=>∃i j,x=.int i/\y=.int j/\C i j/\Q (g i j) H
def rI0(g:Int->Int->V):R2:=λx y H Q=>∃i j,x=.int i/\y=.int j/\Q (g i j) H
def rU(g:Int->V):V->Hp->VK->Prop:=λx H Q=>∃i,x=.int i/\Q (g i) H
section
variable{X:Cx}{a b c:Expr}{ta tb tc:TE}{pos:Pos}
theorem binT(ha:PE X a ta)(hb:PE X b tb){σ:St}{R:V->V->Hp->Prop}(I:Inv X pins σ H s)(h:ta σ H λx H1=>tb σ H1 λy H2=>R x y H2){f:Value->Value->Sem Value}(hf:∀v u s2 x y H2,Inv X pins σ H2 s2->ac x v->ac y u->R x y H2->wpAny (model X.prog X.w) X.A (f v u) Q X.xe s2):wpAny (model X.prog X.w) X.A (eval a X.env) (λv s₁=>wpAny (model X.prog X.w) X.A (eval b X.env) (λu s₂=>wpAny (model X.prog X.w) X.A (f v u) Q X.xe s₂) X.xe s₁) X.xe s:=by
 refine thn (ha pins s σ H _ I h) λv s1 hZ2=>?_;obtain⟨x,H1,I1,r1,q1⟩:=hZ2;refine thn (hb pins s1 σ H1 _ I1 q1) λu s2 hZ0=>?_;obtain⟨y,H2,I2,r2,q2⟩:=hZ0;exact hf v u s2 x y H2 I2 r1 r2 q2
theorem a_K(ho:OpR X (binaryOp op) r)(ha:PE X a ta)(hb:PE X b tb):PE X (.BinOp a op b pos) (tOp r ta tb):=by
 intro pins s σ H Q I h;exact wpAny_BinOp (binT ha hb I h λv u s2 x y H2 I2 rx ry q=>ho pins s2 σ H2 x y v u Q I2 rx ry q)
theorem b9(ho:UnR X (unaryOp op) r)(ha:PE X a ta):PE X (.UnaryOp op a pos) (tUn r ta):=by
 intro pins s σ H Q I h;exact UnaryOp_ (thn (ha pins s σ H _ I h) λv s1 hZ1=>by obtain⟨x,H1,I1,r1,q1⟩:=hZ1;exact ho pins s1 σ H1 x v Q I1 r1 q1)
theorem opI{g:Int->Int->Int}(rule:∀(i j:Int)(t u:Tok)(s:Shared)(Q:Value->Shared->Prop)(E:Value->Shared->Prop),C i j->Q (.int (g i j) s.toks) {s with toks:=s.toks+1}->wpAny (model X.prog X.w) X.A (f (.int i t) (.int j u)) Q E s):OpR X f (rI C λi j=>.int (g i j)):=by
 intro pins s σ H x y v u Q I rx ry h;obtain⟨i,j,rfl,rfl,hc,q⟩:=h;obtain⟨t,rfl⟩:=rx;obtain⟨t',rfl⟩:=ry;exact rule i j t t' s _ _ hc (.int (g i j),H,I.tok _,(_,rfl),q)
theorem sX{g:Int->Int->Int}(rule:∀(i j:Int)(t u:Tok)(s:Shared)(Q:Value->Shared->Prop)(E:Value->Shared->Prop),Q (.int (g i j) s.toks) {s with toks:=s.toks+1}->wpAny (model X.prog X.w) X.A (f (.int i t) (.int j u)) Q E s):OpR X f (rI0 λi j=>.int (g i j)):=by
 intro pins s σ H x y v u Q I rx ry h;obtain⟨i,j,rfl,rfl,q⟩:=h;obtain⟨t,rfl⟩:=rx;obtain⟨t',rfl⟩:=ry;exact rule i j t t' s _ _ (.int (g i j),H,I.tok _,(_,rfl),q)
theorem oA{g:Int->Int->Bool}(rule:∀(i j:Int)(t u:Tok)(s:Shared)(Q:Value->Shared->Prop)(E:Value->Shared->Prop),Q (.bool (g i j)) s->wpAny (model X.prog X.w) X.A (f (.int i t) (.int j u)) Q E s):OpR X f (rI0 λi j=>.bl (g i j)):=by
 intro pins s σ H x y v u Q I rx ry h;obtain⟨i,j,rfl,rfl,q⟩:=h;obtain⟨t,rfl⟩:=rx;obtain⟨t',rfl⟩:=ry;exact rule i j t t' s _ _ (.bl (g i j),H,I,rfl,q)
def sD(i j:Int):Prop:=0<j/\j<1073741824
def tP(i j:Int):Prop:=0≤j/\j≤1000000/\i.natAbs<2^64
def qP(i j:Int):Prop:=(-(2^64)<i/\i<2^64)\/(-(2^64)<j/\j<2^64)
theorem qP.ok(h:qP i j):IntMulOk i j:=by
 rcases h with⟨h1,h2⟩|⟨h1,h2⟩
 .exact .of_left (intBits_le_64 h1 h2)
 .exact .of_right (intBits_le_64 h1 h2)
theorem ie:OpR X (binaryOp .Add) (rI0 λi j=>.int (i+j)):=sX λ_ _ _ _ _ _ _ q=>add_int q
theorem op_mul:OpR X (binaryOp .Mult) (rI qP λi j=>.int (i*j)):=opI λ_ _ _ _ _ _ _ hc q=>mul_int q hc.ok
theorem dD:OpR X (binaryOp .FloorDiv) (rI sD λi j=>.int (i/j)):=opI λi j _ _ _ _ _ hc q=>by
 have h1:(0:Int)<j:=hc.1;have h2:j<1073741824:=hc.2;exact floordiv_int (by omega) (by rw[Int.fdiv_eq_ediv_of_nonneg i (by omega)];exact q) (.inl (PyProof.noPylong_small (by omega)))
theorem bC:OpR X (binaryOp .Mod) (rI (λ_ j=>0<j) λi j=>.int (i%j)):=opI λi j _ _ _ _ _ hc q=>by
 have h1:(0:Int)<j:=hc;exact mod_int' (by omega) (by rw[Int.fmod_eq_emod_of_nonneg i (by omega)];exact q)
theorem qj:OpR X (binaryOp .Pow) (rI tP λi j=>.int (i^j.toNat)):=opI λ_ _ _ _ _ _ _ hc q=>pow_int_small hc.1 hc.2.1 hc.2.2 q
theorem unI{g:Int->Int}(rule:∀(i:Int)(t:Tok)(s:Shared)(Q:Value->Shared->Prop)(E:Value->Shared->Prop),Q (.int (g i) s.toks) {s with toks:=s.toks+1}->wpAny (model X.prog X.w) X.A (f (.int i t)) Q E s):UnR X f (rU λi=>.int (g i)):=by
 intro pins s σ H x v Q I rx h;obtain⟨i,rfl,q⟩:=h;obtain⟨t,rfl⟩:=rx;exact rule i t s _ _ (.int (g i),H,I.tok _,(_,rfl),q)
theorem f_M:UnR X (unaryOp .USub) (rU λi=>.int (-i)):=unI λ_ _ _ _ _ q=>neg_int q
end
def rz:V->V->Bool
 |.non,.non=>true|.non,.int _=>true|.int _,.non=>true|.non,.bl _=>true|.bl _,.non=>true|.non,.str _=>true|.str _,.non=>true
 |.int _,.int _=>true|.bl _,.bl _=>true|.str _,.str _=>true|.byt _,.byt _=>true
 |.int _,.str _=>true|.str _,.int _=>true|.bl _,.str _=>true|.str _,.bl _=>true
 |_,_=>false
def rEq:R2:=λx y H Q=>rz x y=true/\Q (.bl (decide (x=y))) H
def rNe:R2:=λx y H Q=>rz x y=true/\Q (.bl (!decide (x=y))) H
theorem jx:decide (V.int i=V.int j)=(i==j):=by
 rw[Bool.eq_iff_iff];simp
theorem ny:decide (V.bl i=V.bl j)=(i==j):=by
 rw[Bool.eq_iff_iff];simp
theorem jw:decide (V.str i=V.str j)=(i==j):=by
 rw[Bool.eq_iff_iff];simp
theorem jy:decide (V.byt i=V.byt j)=(i.toList==j.toList):=by
 rw[Bool.eq_iff_iff];cases i;cases j;simp
section
variable{X:Cx}{a b c:Expr}{ta tb tc:TE}{pos:Pos}
theorem a_z{σ:St}(I:Inv X pins σ H s)(q:Q (.bl k) H)(e:k=k'):EP X pins σ Q (.bool k') s:=by
 subst e;exact(.bl k,H,I,rfl,q)
theorem be:OpR X (compareOp .Eq) rEq:=by
 intro pins s σ H x y v u Q I rx ry h;obtain⟨hs,q⟩:=h;cases x with
 |non=>
  cases rx;cases y with
  |non=>cases ry;exact PySem.EqNone.eq_none_none (a_z I q (by simp))
  |bl j=>cases ry;exact PySem.EqNone.eq_none_bool (a_z I q (by simp))
  |int j=>obtain⟨t',rfl⟩:=ry;exact PySem.EqNone.eq_none_int (a_z I q (by simp))
  |str j=>obtain⟨t',rfl⟩:=ry;exact PySem.EqNone.eq_none_str (a_z I q (by simp))
  |_=>exact absurd (show false=true from hs) Bool.false_ne_true
 |bl i=>
  cases rx;cases y with
  |non=>cases ry;exact PySem.EqNone.eq_bool_none (a_z I q (by simp))
  |bl j=>cases ry;exact eq_bool (a_z I q ny)
  |str j=>obtain⟨t',rfl⟩:=ry;exact PySem.EqMixed.eq_bool_str (a_z I q (by simp))
  |_=>exact absurd (show false=true from hs) Bool.false_ne_true
 |int i=>
  obtain⟨t,rfl⟩:=rx;cases y with
  |non=>cases ry;exact PySem.EqNone.eq_int_none (a_z I q (by simp))
  |int j=>obtain⟨t',rfl⟩:=ry;exact eq_int (a_z I q jx)
  |str j=>obtain⟨t',rfl⟩:=ry;exact PySem.EqMixed.eq_int_str (a_z I q (by simp))
  |_=>exact absurd (show false=true from hs) Bool.false_ne_true
 |str i=>
  obtain⟨t,rfl⟩:=rx;cases y with
  |non=>cases ry;exact PySem.EqNone.eq_str_none (a_z I q (by simp))
  |bl j=>cases ry;exact PySem.EqMixed.eq_str_bool (a_z I q (by simp))
  |int j=>obtain⟨t',rfl⟩:=ry;exact PySem.EqMixed.eq_str_int (a_z I q (by simp))
  |str j=>obtain⟨t',rfl⟩:=ry;exact eq_str (a_z I q jw)
  |_=>exact absurd (show false=true from hs) Bool.false_ne_true
 |byt i=>
  obtain⟨t,rfl⟩:=rx;cases y with
  |byt j=>obtain⟨t',rfl⟩:=ry;exact PySem.W.eq_bytes (a_z I q jy)
  |_=>exact absurd (show false=true from hs) Bool.false_ne_true
 |_=>cases y<;>exact absurd (show false=true from hs) Bool.false_ne_true
theorem rR:OpR X (compareOp .NotEq) rNe:=by
 intro pins s σ H x y v u Q I rx ry h;obtain⟨hs,q⟩:=h;cases x with
 |non=>
  cases rx;cases y with
  |non=>cases ry;exact PySem.EqNone.ne_none_none (a_z I q (by simp))
  |bl j=>cases ry;exact PySem.EqNone.ne_none_bool (a_z I q (by simp))
  |int j=>obtain⟨t',rfl⟩:=ry;exact PySem.EqNone.ne_none_int (a_z I q (by simp))
  |str j=>obtain⟨t',rfl⟩:=ry;exact PySem.EqNone.ne_none_str (a_z I q (by simp))
  |_=>exact absurd (show false=true from hs) Bool.false_ne_true
 |bl i=>
  cases rx;cases y with
  |non=>cases ry;exact PySem.EqNone.ne_bool_none (a_z I q (by simp))
  |bl j=>cases ry;exact ne_bool (a_z I q (congrArg not ny))
  |str j=>obtain⟨t',rfl⟩:=ry;exact PySem.EqMixed.ne_bool_str (a_z I q (by simp))
  |_=>exact absurd (show false=true from hs) Bool.false_ne_true
 |int i=>
  obtain⟨t,rfl⟩:=rx;cases y with
  |non=>cases ry;exact PySem.EqNone.ne_int_none (a_z I q (by simp))
  |int j=>obtain⟨t',rfl⟩:=ry;exact ne_int (a_z I q (congrArg not jx))
  |str j=>obtain⟨t',rfl⟩:=ry;exact PySem.EqMixed.ne_int_str (a_z I q (by simp))
  |_=>exact absurd (show false=true from hs) Bool.false_ne_true
 |str i=>
  obtain⟨t,rfl⟩:=rx;cases y with
  |non=>cases ry;exact PySem.EqNone.ne_str_none (a_z I q (by simp))
  |bl j=>cases ry;exact PySem.EqMixed.ne_str_bool (a_z I q (by simp))
  |int j=>obtain⟨t',rfl⟩:=ry;exact PySem.EqMixed.ne_str_int (a_z I q (by simp))
  |str j=>obtain⟨t',rfl⟩:=ry;exact ne_str (a_z I q (congrArg not jw))
  |_=>exact absurd (show false=true from hs) Bool.false_ne_true
 |byt i=>
  obtain⟨t,rfl⟩:=rx;cases y with
  |byt j=>obtain⟨t',rfl⟩:=ry;exact PySem.W.ne_bytes (a_z I q (congrArg not jy))
  |_=>exact absurd (show false=true from hs) Bool.false_ne_true
 |_=>cases y<;>exact absurd (show false=true from hs) Bool.false_ne_true
theorem jd:OpR X (compareOp .Lt) (rI0 λi j=>.bl (decide (i<j))):=oA λ_ _ _ _ _ _ _ q=>lt_int q
theorem pC:OpR X (compareOp .LtE) (rI0 λi j=>.bl (decide (i≤j))):=oA λ_ _ _ _ _ _ _ q=>le_int q
theorem rS:OpR X (compareOp .Gt) (rI0 λi j=>.bl (decide (j<i))):=oA λ_ _ _ _ _ _ _ q=>gt_int q
theorem rT:OpR X (compareOp .GtE) (rI0 λi j=>.bl (decide (j≤i))):=oA λ_ _ _ _ _ _ _ q=>ge_int q
theorem op_notN:OpR X (compareOp .IsNot) (λx y H Q=>y=.non/\Q (.bl (!decide (x=.non))) H):=by
 intro pins s σ H x y v u Q I rx ry h;obtain⟨rfl,q⟩:=h;cases ry;refine isnot_none_gen (a_z I q ?_);cases x<;>first
  |(cases rx;rfl)
  |(obtain⟨t,rfl⟩:=rx;rfl)
theorem b_d(b:Expr)(h:op≠.In:=by decide)(h2:op≠.NotIn:=by decide):behindInMarks op b=false:=by
 have e1:(op==CmpOp.In)=false:=by cases op<;>first|rfl|exact absurd rfl h
 have e2:(op==CmpOp.NotIn)=false:=by cases op<;>first|rfl|exact absurd rfl h2
 cases b<;>simp[behindInMarks,e1,e2]
theorem c_K(ho:OpR X (compareOp op) r)(ha:PE X a ta)(hb:PE X b tb)(hm:behindInMarks op b=false):PE X (.Compare a [op] [b] pos) (tOp r ta tb):=by
 intro pins s σ H Q I h;exact wpAny_Compare1 (binT ha hb I h λv u s2 x y H2 I2 rx ry q=>ho pins s2 σ H2 x y v u Q I2 rx ry q) hm
def ln(t:TE):TT:=λσ H Q=>t σ H λx H'=>∃k,x=.bl k/\Q k H'
theorem a_S(ho:OpR X (compareOp op) r)(ha:PE X a ta)(hb:PE X b tb)(hm:behindInMarks op b=false):PT X (.Compare a [op] [b] pos) (ln (tOp r ta tb)):=by
 intro pins s σ H Q I h;refine wpAny_isTrue_Compare1 (thn (ha pins s σ H _ I h) λv s1⟨x,H1,I1,r1,q1⟩=>thn (hb pins s1 σ H1 _ I1 q1) λu s2⟨y,H2,I2,r2,q2⟩=>
  thn (ho pins s2 σ H2 x y v u _ I2 r1 r2 q2) λc s3⟨z,H3,I3,r3,k,e,q3⟩=>?_) hm
 subst e;cases r3;exact wpAny_truthy_bool (H3,I3,q3)
theorem bG:(sizeLine:Nat)<2^63:=by rw[sizeLine_eq];decide
theorem c_U:OpR X (binaryOp .Add) (λx y H Q=>∃i j,x=.str i/\y=.str j/\i.length+j.length≤sizeLine/\Q (.str (i++j)) H):=by
 intro pins s σ H x y v u Q I rx ry h;obtain⟨i,j,rfl,rfl,hz,q⟩:=h;obtain⟨t,rfl⟩:=rx;obtain⟨t',rfl⟩:=ry;exact add_str (λt' tk=>(.str (i++j),H,I.tok _,(_,rfl),q)) hz
theorem e_h(r:ad [x] us):∃u,us=[u]/\ac x u:=by
 cases r with
 |cons r1 r2=>cases r2;exact(_,rfl,r1)
theorem bp(r:ad [x,y] us):∃u w',us=[u,w']/\ac x u/\ac y w':=by
 cases r with
 |cons r1 r2=>
  cases r2 with
  |cons r3 r4=>cases r4;exact(_,_,rfl,r1,r3)
end
structure kZ(h:Heap)(x dx C:Addr)(mA:Str->Option Value):Prop where
 obj:h.get? x=some (instObj C dx)
 ns:h.Ns1 dx mA
 ne:dx≠x
theorem cm{h:Heap}(n:h.Ns1 dx mA):∃od,h.get? dx=some od/\∀name,lookIn name od=some (mA name):=by
 obtain⟨o,es,ep,ho,hd,hk,_,hm⟩:=n;refine(o,ho,λname=>?_);have e:=hm name;unfold nsFind findBy at e;rw[<-Array.find?_toList]at e;unfold lookIn;rw[hd];dsimp only;split
 .rename_i y q;rw[q]at e;exact congrArg some e
 .rename_i q;rw[q]at e;have a:es.toList.any (·.refKey)=false:=by
   rw[List.any_eq_false];intro y hy;obtain⟨z,t,hkey⟩:=hk y (Array.mem_toList_iff.mp hy);simp[DictEntry.refKey,hkey]
  have a':¬ es.toList.any (·.refKey)=true:=by rw[a];exact Bool.false_ne_true
  rw[if_neg a'];exact congrArg some e
theorem kZ.look(I:kZ h x dx C mA):∃od,PySem.W.InstAt h x (instObj C dx) C (some od)/\∀name,lookIn name od=some (mA name):=
 let⟨od,ho,hl⟩:=cm I.ns
 (od,(I.obj,rfl,rfl,ho),hl)
section
variable{prog:Program}{w:World}{A:Around}{E:Value->Shared->Prop}{s:Shared}{K:Frag}{x dx C f:Addr}{mA:Str->Option Value}{name:Str}{v:Value}
theorem oW(X:K.In s.heap)(I:kZ s.heap x dx C mA)(hg:plainGet K C name=true)(hh:hasDictIn K C=true)(ha:PySem.W.findIn K (.ref C) name=some none)(hv:mA name=some v)(hv':PySem.W.handedIn v=true)(h:Q v {s with toks:=s.toks+1}):wpAny (model prog w) A (getAttr (.ref x) name expr) Q E s:=by
 obtain⟨od,J,hl⟩:=I.look;exact PySem.W.get_value X J (PySem.W.plainGet_of hg).1 (PySem.W.findObj_own hh ha rfl (by rw[hl,hv])) hv' h
theorem oa(X:K.In s.heap)(I:kZ s.heap x dx C mA)(hs:PySem.W.findIn K (.ref C) "__setattr__"=some (some (.builtin "object.__setattr__")))(hp:PySem.W.plainOver K C=true)(ht:takerIn K C name=some none)(hh:hasDictIn K C=true)(hw:PySem.Within mA ns)(hsz:ns.length≤sizeLine)(h:∀h',kZ h' x dx C (λy=>if y=name then some v else mA y)->SameBut dx s.heap h'->Q () {s with heap:=h',toks:=s.toks+2}):wpAny (model prog w) A (setAttr (.ref x) name v) Q E s:=by
 obtain⟨od,J,hl⟩:=I.look;refine set_plain X J hs (PySem.W.osa_open (s:={s with toks:=s.toks+1}) (r:=none) X J hp ht λb=>?_);obtain⟨cd,hc,hd'⟩:=any_some hh;have hx:s.heap.get? x=some (.ref C,some dx,.plain,#[]):=I.obj;refine qa7 (qa8 (qa7 (qa7 (wpAny_loadPart hx (qa7 (Looks.here (s:={s with toks:=s.toks+1}) (looks_clsIn X hc) ?_))))));rw[hd'];refine qa8 (a:=some dx) (qa7 (qa8 (qa7 ?_)));refine wpAny_nsSet1 (s:={s with toks:=s.toks+1}) I.ns λh' hn2 hs2=>?_;obtain⟨oD,esD,epD,hoD,hdD,hcD⟩:=hn2.count (PySem.Within.cons name v hw);refine qa7 (wpAny_lookBehind hoD (by rw[hdD];exact pastItsLine_dict (le_trans hcD (by rw[length_cons];omega))) ?_);exact qa8 (h _ ((hs2.2 _ (Ne.symm I.ne)).trans I.obj,hn2,I.ne) hs2)
theorem mH(X:K.In s.heap)(hm:PySem.W.makesIn K C=true)(hi:PySem.W.findIn K (.ref C) "__init__"=some (some (.ref f)))(hf:PySem.W.typeIn K (.ref f)=some (.type "function"))(h:codeAny (model prog w) (A.under (.builtin "type.__call__" (.ref C::vs,kw))) (.call (.ref f) (.ref (s.heap.objs.size+1)::vs,kw)) (PySem.W.InitBack (s.heap.objs.size+1) R)
   {s with heap:=(s.heap.push emptyDict).push (instObj C s.heap.objs.size)}):codeAny (model prog w) A (.call (.ref C) (vs,kw)) R s:=by
 obtain⟨hh,g,d,t,os⟩:=s;exact PySem.W.make_core (PySem.W.makes_of X hm) (PySem.W.looks_findIn X hi) (λself=>PySem.W.bind_fn X self hf) (.inl rfl) h
end
def aj(f:Str)(v:V):List (Str×V)->List (Str×V)
 |[]=>[(f,v,)]
 |(g,x)::r=>if g=f then(g,v,)::r else(g,x,)::aj f v r
theorem d_v(f g:Str)(v:V):∀fs:List (Str×V),(aj f v fs).lookup g=if g=f then some v else fs.lookup g
 |[]=>by
  show List.lookup g [(f,v,)]=_;by_cases h:g=f
  .have hb:(g==f)=true:=beq_iff_eq.mpr h;simp only[List.lookup,hb,if_pos h]
  .have hb:(g==f)=false:=beq_eq_false_iff_ne.mpr h;simp only[List.lookup,hb,if_neg h]
 |(k,x)::r=>by
  have ih:=d_v f g v r;rw[show aj f v ((k,x,)::r)=(if k=f then(k,v,)::r else(k,x,)::aj f v r)from rfl];by_cases hk:k=f
  .rw [if_pos hk];by_cases h:g=k
   .have hb:(g==k)=true:=beq_iff_eq.mpr h;simp only[List.lookup,hb,if_pos (h.trans hk)]
   .have hb:(g==k)=false:=beq_eq_false_iff_ne.mpr h;simp only[List.lookup,hb,if_neg (λe:g=f=>h (e.trans hk.symm))]
  .rw [if_neg hk];by_cases h:g=k
   .have hb:(g==k)=true:=beq_iff_eq.mpr h;simp only[List.lookup,hb,if_neg (λe:g=f=>hk (h.symm.trans e))]
   .have hb:(g==k)=false:=beq_eq_false_iff_ne.mpr h;simp only[List.lookup,hb];exact ih
theorem c_L(f:Str)(v:V):∀fs:List (Str×V),f∈(aj f v fs).map (·.1)/\∀g,g∈fs.map (·.1)->g∈(aj f v fs).map (·.1)
 |[]=>(by simp[aj],λg h=>by simp at h)
 |(k,x)::r=>by
  obtain⟨i1,i2⟩:=c_L f v r;rw[show aj f v ((k,x,)::r)=(if k=f then(k,v,)::r else(k,x,)::aj f v r)from rfl];by_cases hk:k=f
  .rw [if_pos hk];subst hk;exact(by simp,λg h=>by simpa using h)
  .rw [if_neg hk];refine(?_,λg h=>?_)
   .rw [map_cons];exact mem_cons_of_mem _ i1
   .rw [map_cons]at h⊢;rcases mem_cons.mp h with e|e
    .exact mem_cons.mpr (.inl e)
    .exact mem_cons_of_mem _ (i2 g e)
theorem length_putF(f:Str)(v:V):∀fs:List (Str×V),(aj f v fs).length≤fs.length+1
 |[]=>by simp[aj]
 |(k,x)::r=>by
  have ih:=length_putF f v r;rw[show aj f v ((k,x,)::r)=(if k=f then(k,v,)::r else(k,x,)::aj f v r)from rfl];by_cases hk:k=f
  .rw [if_pos hk,length_cons,length_cons];omega
  .rw [if_neg hk,length_cons,length_cons];omega
theorem aq.some_of(r:aq (some v) o):∃u,o=some u/\ac v u:=by
 cases o with
 |none=>exact(show False from r).elim
 |some u=>exact(u,rfl,r)
theorem aq.none_of(r:aq none o):o=none:=by
 cases o with
 |none=>rfl
 |some u=>exact(show False from r).elim
theorem kI(r:ac v u):PySem.W.handedIn u=true:=by
 cases v with
 |non=>cases(show u=Value.none from r);rfl
 |bl b=>cases(show u=Value.bool b from r);rfl
 |int i=>obtain⟨t,e⟩:=(show ∃t,u=Value.int i t from r);cases e;rfl
 |str x=>obtain⟨t,e⟩:=(show ∃t,u=Value.str x t from r);cases e;rfl
 |byt b=>obtain⟨t,e⟩:=(show ∃t,u=Value.bytes b t from r);cases e;rfl
 |flt b=>obtain⟨t,e⟩:=(show ∃t,u=Value.float b t from r);cases e;rfl
 |ref a=>cases(show u=Value.ref a from r);rfl
 |ty n=>cases(show u=Value.type n from r);rfl
section
variable{P:Program}{w:World}{H H':Hp}{h h':Heap}{a C dx:Addr}{fs fs':List (Str×V)}
theorem dO(hok:HOk P w H h)(e:H a=some (.ins C dx fs)):∃mA,kZ h a dx C mA/\(∀f,aq (fs.lookup f) (mA f))/\PySem.Within mA (fs.map (·.1))/\fs.length≤1000/\H dx=some (.own a):=by
 obtain⟨d,z,ne,ob,mA,n,r,q⟩:=(show a_L P w H h a (.ins C dx fs)from hok a _ e);exact(mA,(ob,n,ne),r,q,z,d)
end
structure Cls(K:Frag)(C:Addr):Prop where
 pg:plainGet K C Str.empty=true
 hd:hasDictIn K C=true
 po:PySem.W.plainOver K C=true
 sa:PySem.W.findIn K (.ref C) "__setattr__"=some (some (.builtin "object.__setattr__"))
theorem Cls.get{K:Frag}(c:Cls K C)(f:Str):plainGet K C f=true:=c.pg
def a_A(K:Frag)(C:Addr)(f:Str):Prop:=PySem.W.findIn K (.ref C) f=some none
theorem a_A.taker{K:Frag}(n:a_A K C f):takerIn K C f=some none:=by
 unfold takerIn;rw[show PySem.W.findIn K (.ref C) f=some none from n];rfl
section
variable{X:Cx}{pins:List (Addr×Obj)}{σ:St}{H:Hp}{s:Shared}{a C dx:Addr}{fs:List (Str×V)}{f:Str}{v:V}{A:Around}{E:Value->Shared->Prop}
theorem iD(I:Inv X pins σ H s)(e:H a=some (.ins C dx fs))(c:Cls X.K C)(n:a_A X.K C f)(l:fs.lookup f=some v)(h:∀u s',Inv X pins σ H s'->ac v u->Q u s'):wpAny (model X.prog X.w) A (getAttr (.ref a) f b) Q E s:=by
 obtain⟨mA,O,r,_,_,_⟩:=dO I.hok e;obtain⟨u,hu,ru⟩:=aq.some_of (v:=v) (o:=mA f) (by rw[<-l];exact r f);exact oW I.kIn O (c.get f) c.hd n hu (kI ru) (h u _ (I.tok _) ru)
theorem hJ(I:Inv X pins σ H s)(e:H a=some (.ins C dx fs))(c:Cls X.K C)(n:a_A X.K C f)(hl:fs.length<1000)(ry:ac y u)(h:∀s',Inv X pins σ (upd H a (.ins C dx (aj f y fs))) s'->Q () s'):wpAny (model X.prog X.w) A (setAttr (.ref a) f u) Q E s:=by
 obtain⟨mA,O,r,wi,_,ho⟩:=dO I.hok e;have hz:(fs.map (·.1)).length≤sizeLine:=by rw[qa4,sizeLine_eq];omega
 refine oa I.kIn O c.sa c.po n.taker c.hd wi hz λh' O' sb=>h _ ?_;have hd:∃o,h'.get? dx=some o:=let⟨o,_,_,e',_⟩:=O'.ns;(o,e');refine I.write (x:=a) (e:=dx) (by rw[e];exact True.intro) (.inr ho) (λb q hb z=>(sb.2 b hb).trans z) hd ?_;refine(by rw[upd_ne O.ne];exact ho,?_,O.ne,O'.obj,_,O'.ns,λg=>?_,λg hg=>?_)
 .have:=length_putF f y fs;omega
 .show aq ((aj f y fs).lookup g) (if g=f then some u else mA g);rw[d_v];by_cases q:g=f
  .rw [if_pos q,if_pos q];exact ry
  .rw [if_neg q,if_neg q];exact r g
 .by_cases q:g=f
  .rw [q];exact(c_L f y fs).1
  .refine (c_L f y fs).2 g (wi g λz=>hg ?_);show(if g=f then some u else mA g)=none;rw[if_neg q];exact z
theorem Inv.made(I:Inv X pins σ H s):Inv X pins σ (upd (upd H s.heap.objs.size (.own (s.heap.objs.size+1))) (s.heap.objs.size+1) (.ins C s.heap.objs.size []))
  {s with heap:=(s.heap.push emptyDict).push (instObj C s.heap.objs.size)}:=by
 have e1:(s.heap.push emptyDict).get? s.heap.objs.size=some emptyDict:=get?_push_size s.heap rfl;have e2:((s.heap.push emptyDict).push (instObj C s.heap.objs.size)).get? (s.heap.objs.size+1)=some (instObj C s.heap.objs.size):=by
  have:=get?_push_size (s.heap.push emptyDict) (o:=instObj C s.heap.objs.size) rfl
  rwa [size_push]at this
 have e3:(s.heap.push emptyDict).Ns s.heap.objs.size (λ_=>none):=(emptyDict,#[],_,e1,rfl,(λe he=>absurd he (by simp)),λ_=>rfl);have I1:=I.laid (a:=s.heap.objs.size) (o:=.own (s.heap.objs.size+1)) (h':=s.heap.push emptyDict) (t':=s.toks) (λb u q=>qa9 _ q) (le_refl _) (_,e1);refine I1.laid (a:=s.heap.objs.size+1) (o:=.ins C s.heap.objs.size []) (t':=s.toks) (λb u q=>qa9 _ q) (le_of_eq (size_push _ _)) ?_;have ne:s.heap.objs.size≠s.heap.objs.size+1:=ne_of_lt (lt_succ_self _);refine(by rw[upd_ne ne,a_c],zero_le _,ne,e2,λ_=>none,(Heap.Ns1.of_empty e3).at λo q=>qa9 _ q,λ_=>True.intro,λy hy=>absurd rfl hy)
theorem attr_of(hb:attributeBase e f env (eval e env)=eval e env)(h:wpAny (model prog w) A (eval e env) (λo s₁=>wpAny (model prog w) A (getAttr o f true) Q E s₁) E s):wpAny (model prog w) A (eval (.Attribute e f pos) env) Q E s:=
 Attribute_any_ h (by rw[arm_eval_Attribute,hb])
end
def rc(K:Frag)(ta:TE)(f:Str):TE:=λσ H Q=>ta σ H λx H1=>∃a C dx fs v,x=.ref a/\H1 a=some (.ins C dx fs)/\Cls K C/\a_A K C f/\fs.lookup f=some v/\Q v H1
def sS(K:Frag)(ta tv:TE)(f:Str):TS:=λD σ H=>tv σ H λy H1=>ta σ H1 λx H2=>∃a C dx fs,x=.ref a/\H2 a=some (.ins C dx fs)/\Cls K C/\a_A K C f/\fs.length<1000/\
 D.nx σ (upd H2 a (.ins C dx (aj f y fs)))
section
variable{X:Cx}{o e value:Expr}{f:Str}{pos pos' tpos:Pos}{ta tv:TE}
theorem a_X(he:PE X e ta)(hb:attributeBase e f X.env (eval e X.env)=eval e X.env):PE X (.Attribute e f pos) (rc X.K ta f):=by
 intro pins s σ H Q I h;refine attr_of hb (thn (he pins s σ H _ I h) λu s1 hZ2=>?_);obtain⟨x,H1,I1,rx,a,C,dx,fs,v,ex,ea,c,n,l,q⟩:=hZ2;subst ex;obtain rfl:u=Value.ref a:=rx;exact iD I1 ea c n l λu' s2 I2 ru=>(v,H1,I2,ru,q)
theorem bz(ha:PE X o ta)(hv:PE X value tv)(hs:swapsWith value (some (.Attribute o f pos')) pos.line X.env=pure false):PS X (.Assign [.Attribute o f pos'] value pos) (sS X.K ta tv f):=by
 intro pins s σ H D I h;refine plainObj_wpAny_Assign_Attribute (thn (hv pins s σ H _ I h) λu s1⟨y,H1,I1,ry,q⟩=>thn (ha pins s1 σ H1 _ I1 q) λov s2 hZ0=>?_) hs;obtain⟨x,H2,I2,rx,a,C,dx,fs,ex,ea,c,n,l,q2⟩:=hZ0;subst ex;obtain rfl:ov=Value.ref a:=rx;exact hJ I2 ea c n l ry λs3 I3=>(σ,_,I3,q2)
end
section
variable{X:Cx}{pins:List (Addr×Obj)}{σ:St}{H:Hp}{s:Shared}{A:Around}{E:Value->Shared->Prop}{Q:Value->Shared->Prop}{c:Value}{b:Bool}
inductive ae(K:Frag)(H:Hp):V->Value->Prop where
 |non:ae K H .non (.type "NoneType")
 |bl (x:Bool):ae K H (.bl x) (.type "bool")
 |int (i:Int):ae K H (.int i) (.type "int")
 |str (x:Str):ae K H (.str x) (.type "str")
 |flt (x:UInt64):ae K H (.flt x) (.type "float")
 |lst {a:Addr} {xs:List V} (e:H a=some (.lst xs)):ae K H (.ref a) (.type "list")
 |frz {a:Addr} {o:Obj} {xs:List V} (e:H a=some (.frz o (.lst xs))):ae K H (.ref a) (.type "list")
 |tup {a:Addr} {xs:List V} (e:H a=some (.tup xs)):ae K H (.ref a) (.type "tuple")
 |dK {a:Addr} {kvs:List (Key×V)} (e:H a=some (.dK kvs)):ae K H (.ref a) (.type "dict")
 |dT {a:Addr} {kvs:List (List Key×V)} (e:H a=some (.dT kvs)):ae K H (.ref a) (.type "dict")
 |ins {a C dx:Addr} {fs:List (Str×V)} (e:H a=some (.ins C dx fs)) (cl:Cls K C) (ha:PySem.W.findIn K (.ref C) "__class__"=some (some (.builtin "object.__class__")))
   (hn:PySem.W.specialIn K (.builtin "object.__class__") "__get__"=some (some (.builtin "getset_descriptor.__get__"))) (htk:PySem.W.takesIn K (.builtin "object.__class__")=some true)
   (hm:PySem.W.mroIn K C (.type "object")=some true):ae K H (.ref a) (.ref C)
theorem kC(I:Inv X pins σ H s)(rx:ac x u)(ty:ae X.K H x t)(e:kitOne X.K t c=some b)(h:∀tk,Q (.bool b) {s with toks:=tk}):wpAny (model X.prog X.w) A (call (.builtin "isinstance") [u,c]) Q E s:=by
 cases ty with
 |non=>cases(show u=Value.none from rx);exact kia_one PySem.W.kitx_none I.kIn True.intro e (λz=>nomatch z) h
 |bl y=>cases(show u=Value.bool y from rx);exact kia_one PySem.W.kitx_bool I.kIn True.intro e (λz=>nomatch z) h
 |int i=>obtain⟨t,q⟩:=(show ∃t,u=Value.int i t from rx);cases q;exact kia_one PySem.W.kitx_int I.kIn True.intro e (λz=>nomatch z) h
 |str y=>obtain⟨t,q⟩:=(show ∃t,u=Value.str y t from rx);cases q;exact kia_one PySem.W.kitx_str I.kIn True.intro e (λz=>nomatch z) h
 |flt y=>obtain⟨t,q⟩:=(show ∃t,u=Value.float y t from rx);cases q;exact kia_one PySem.W.kitx_float I.kIn True.intro e (λz=>nomatch z) h
 |@lst a xs ea=>
  cases(show u=Value.ref a from rx);obtain⟨_,_,n,_,h1⟩:=(show a_L X.prog X.w H s.heap a (.lst xs)from I.hok a _ ea);exact kia_one PySem.W.kitx_list I.kIn (_,h1,rfl) e (λz=>nomatch z) h
 |@frz a ob xs ea=>
  cases(show u=Value.ref a from rx);obtain⟨_,_,_,n,_,h1⟩:=(show a_L X.prog X.w H s.heap a (.frz ob (.lst xs))from I.hok a _ ea);exact kia_one PySem.W.kitx_list I.kIn (_,h1,rfl) e (λz=>nomatch z) h
 |@tup a xs ea=>
  cases(show u=Value.ref a from rx);obtain⟨_,_,_,p⟩:=(show a_L X.prog X.w H s.heap a (.tup xs)from I.hok a _ ea);obtain⟨o,h1,h2,_⟩:=p;exact kia_one PySem.W.kitx_tuple I.kIn (o,h1,h2) e (λz=>nomatch z) h
 |@dK a kvs ea=>
  cases(show u=Value.ref a from rx);obtain⟨_,_,vs,_,p⟩:=(show a_L X.prog X.w H s.heap a (.dK kvs)from I.hok a _ ea);obtain⟨o,es,ep,h1,h2,_⟩:=p;exact kia_one PySem.W.kitx_dict I.kIn (o,h1,h2.1) e (λz=>nomatch z) h
 |@dT a kvs ea=>
  cases(show u=Value.ref a from rx);obtain⟨_,_,xs,_,o,es,ep,h1,h2,_⟩:=(show a_L X.prog X.w H s.heap a (.dT kvs)from I.hok a _ ea);exact kia_one PySem.W.kitx_dict I.kIn (o,h1,h2.1) e (λz=>nomatch z) h
 |@ins a C dx fs ea cl ha hn htk hm=>
  cases(show u=Value.ref a from rx);obtain⟨mA,O,_⟩:=dO I.hok ea;obtain⟨od,J,_⟩:=O.look;exact kia_one (PySem.W.kitx_own (cl.get _) cl.hd ha hn htk hm) I.kIn J e (λz=>nomatch z) h
end
structure af(k:Nat)(A:Around):Prop where
 hd:A.handled=none
 dp:A.depth+3*k+5<recursionLimit
 un:A.units+16*k+200<cLine
theorem af.mono(r:af k A)(h:j≤k):af j A:=(r.hd,by have:=r.dp;omega,by have:=r.un;omega)
theorem af.deeper(r:af (k+1) A)(env:Env):af k (A.deeper env):=
 (r.hd,by have:=r.dp;show A.depth+1+3*k+5<_;omega,by have:=r.un;show A.units+3+16*k+200<_;omega)
theorem im{A:Around}:(A.under (.builtin "type.__call__" (.ref C::us,kw))).depth=A.depth+1:=by
 first|rfl|simp[Around.under,Code.weight,Code.isCreation,Code.isGuard,Code.isCaller,Code.frames,Code.isFrame,guardIds]
theorem il{A:Around}:(A.under (.builtin "type.__call__" (.ref C::us,kw))).units=A.units+1:=by
 first|rfl|simp[Around.under,Code.cUnits,Code.frames,Code.isFrame]
theorem af.make(r:af (k+1) A)(C:Addr)(us:List Value)(kw:List (Str×Value)):af k (A.under (.builtin "type.__call__" (.ref C::us,kw))):=
 (r.hd,by have:=r.dp;rw[im];omega,by have:=r.un;rw[il];omega)
theorem af.depth(r:af k A):A.depth<recursionLimit:=by have:=r.dp;omega
theorem af.units(r:af k A):A.units+64<cLine:=by have:=r.un;omega
theorem af.units0(r:af k A):A.units<cLine:=by have:=r.un;omega
def tNil:TA:=λ_ H Q=>Q [] H
def b_o(ta:TE)(tr:TA):TA:=λσ H Q=>ta σ H λx H1=>tr σ H1 λxs H2=>Q (x::xs) H2
section
variable{X:Cx}{e:Expr}{es:List Expr}{te:TE}{t:TA}{pos:Pos}
theorem d_i:PA X [] tNil:=λ_ _ _ _ H Q I h=>Calls.spliced_nil ([],H,I,.nil,h)
theorem a_T(ha:PE X e te)(hr:PA X es t)(hs:starEach (e::es) X.env=(false,eval e X.env,)::starEach es X.env:=by rfl):PA X (e::es) (b_o te t):=by
 intro pos pins s σ H Q I h;rw[hs];show wpAny _ _ (spliced ((false,eval e X.env,)::backTo pos (starEach es X.env))) _ _ s;refine Calls.spliced_cons (thn (ha pins s σ H _ I h) λu s1 hZ1=>?_);obtain⟨x,H1,I1,r1,q1⟩:=hZ1;exact thn (hr pos pins s1 σ H1 _ I1 q1) λus s2 hZ2=>by obtain⟨xs,H2,I2,r2,q2⟩:=hZ2;exact(x::xs,H2,I2,.cons r1 r2,q2)
def sH(t:TA):TE:=λσ H Q=>t σ H λxs H1=>xs.length≤sizeLine/\∀p,H1 p=none->Q (.ref p) (upd H1 p (.tup xs))
def sL(t:TA):TE:=λσ H Q=>t σ H λxs H1=>xs.length≤sizeLine/\∀p,H1 p=none->Q (.ref p) (upd H1 p (.lst xs))
theorem c_J{x1}(h:PA X es t):PE X (.Tuple es x1 pos) (sH t):=by
 intro pins s σ H Q I hq;refine wpAny_Tuple_spliced (thn (h pos pins s σ H _ I hq) λus s1⟨xs,H1,I1,r,z,q⟩=>(by rw[<-r.length];exact z,?_));have hf:H1 s1.heap.objs.size=none:=I1.hok.fresh (le_refl _);refine(.ref s1.heap.objs.size,upd H1 s1.heap.objs.size (.tup xs),I1.laid (t':=s1.toks) (λb u e=>qa9 _ e) (le_refl _) ?_,rfl,q _ hf);exact(z,us,r,(_,get?_push_size _ rfl,rfl,_,rfl))
theorem a_D(h:PA X es t):PE X (.List es pos) (sL t):=by
 intro pins s σ H Q I hq;refine wpAny_List_spliced (thn (h pos pins s σ H _ I hq) λus s1⟨xs,H1,I1,r,z,q⟩=>(by rw[<-r.length];exact z,?_));have hf:H1 s1.heap.objs.size=none:=I1.hok.fresh (le_refl _);refine(.ref s1.heap.objs.size,upd H1 s1.heap.objs.size (.lst xs),I1.laid (t':=s1.toks) (λb u e=>qa9 _ e) (le_refl _) ?_,rfl,q _ hf);exact(z,us,0,r,get?_push_size _ rfl)
end
abbrev Sp:=List V->Hp->VK->XK->Prop
abbrev CXT:=List Env->Hp->Shared->XK->Value->Shared->Prop
structure bn(P:Program)(w:World)(K:Frag)(mg:Str->Option Value)(base:Heap)(A:Around)(outer:List Env)(s:Shared)(H:Hp):Prop where
 frames:A.frames=some outer
 mod:Mod K mg base
 bs:∀b o,base.get? b=some o->s.heap.get? b=some o/\H b=none
 bsz:base.objs.size≤s.heap.objs.size
 funs:s.heap.FunFrames base outer
 frf:∀b∈frs outer,H b=none
 hok:HOk P w H s.heap
 bare:AllBare s.gens
def CE(outer:List Env)(P:Program)(w:World)(H:Hp)(s:Shared)(Q:VK)(u:Value)(s':Shared):Prop:=
 ∃v H',s'.os=s.os/\AllBare s'.gens/\Un (frs outer) [] H H' s.heap s'.heap/\HOk P w H' s'.heap/\ac v u/\Q v H'
def CR(CX:CXT)(outer:List Env)(P:Program)(w:World)(H:Hp)(s:Shared)(Q:VK)(E:XK)(r:Result)(s':Shared):Prop:=
 match r with
 |.ok (.ret u)=>CE outer P w H s Q u s'
 |.ok _=>False
 |.error e=>CX outer H s E e s'
structure aa(P:Program)(w:World)(K:Frag)(mg:Str->Option Value)(base:Heap)(CX:CXT)(k:Nat)(f:Addr)(fd:FuncData)(ps:List Str)(sp:Sp):Prop where
 len:∀vs H Q E,sp vs H Q E->vs.length=ps.length
 run:∀(A:Around)(outer:List Env)(s:Shared)(H:Hp)(args:Args)(us:List Value)(vs:List V)(Q:VK)(E:XK),af k A->bn P w K mg base A outer s H->BindsTo s fd args (ps.zip us)->ad vs us->sp vs H Q E->
  codeAny (model P w) A (.call (.ref f) args) (CR CX outer P w H s Q E) s
theorem aa.mono{P:Program}{w:World}{K:Frag}(F:aa P w K mg base CX j f fd ps sp)(h:j≤k):aa P w K mg base CX k f fd ps sp:=(F.len,λA outer s H args us vs Q E hr=>F.run A outer s H args us vs Q E (hr.mono h))
theorem bn.make{K:Frag}(e:bn P w K mg base A outer s H)(C:Addr)(us:List Value)(kw:List (Str×Value)):bn P w K mg base (A.under (.builtin "type.__call__" (.ref C::us,kw))) outer s H:=(by first|exact e.frames|(simpa[Around.under,Code.envs,Code.isFrame,pushEnvs]using e.frames),e.mod,e.bs,e.bsz,e.funs,e.frf,e.hok,e.bare)
section
variable{X:Cx}{pins:List (Addr×Obj)}{σ:St}{H:Hp}{s s':Shared}
theorem Inv.env0(I:Inv X pins σ H s):bn X.prog X.w X.K X.mg X.base X.A X.stack s H:=
 (I.ok.frames,I.ok.mod,I.bs,le_trans I.ok.bsz I.sz,I.stack,I.stkFree,I.hok,I.bare)
theorem Inv.after(I:Inv X pins σ H s)(h:CE X.stack X.prog X.w H s Q u s'):EP X pins σ Q u s':=by
 obtain⟨v,H',os,bare,un,hok,r,q⟩:=h;obtain⟨hh,g,d,t,os'⟩:=s';obtain rfl:os'=s.os:=os;exact(v,H',I.call (h':=hh) (g':=g) (d':=d) (t':=t) (ch:=[]) un hok bare (λb z=>absurd z (by simp)),r,q)
end
def d_b(sp:Sp)(dvs:List V)(E:XK)(t:TA):TE:=λσ H Q=>t σ H λvs H1=>sp (vs++dvs) H1 Q E
def q9(C:Addr)(sp:Sp)(dvs:List V)(E:XK)(t:TA):TE:=λσ H Q=>t σ H λvs H1=>∀x dx,H1 x=none->H1 dx=none->dx≠x->
 sp (.ref x::(vs++dvs)) (upd (upd H1 dx (.own x)) x (.ins C dx [])) (λv H2=>v=.non/\Q (.ref x) H2) E
def b_q(K:Frag)(fd:FuncData)(ps:List Str)(ds:List Value):Prop:=
 ∀(s:Shared)(us:List Value),K.In s.heap->(us++ds).length=ps.length->BindsTo s fd (us,[]) (ps.zip (us++ds))
theorem b_q.all{K:Frag}(h:∀us:List Value,us.length=ps.length->bindArgs fd (us,[])=pure (ps.zip us)):b_q K fd ps []:=λs us _ hl=>by
 rw[append_nil]at hl⊢;exact .of_eq (h us hl)
def e_f(CX:CXT)(X:Cx)(E:XK):Prop:=∀(pins:List (Addr×Obj))(σ:St)(H:Hp)(s:Shared)(e:Value)(s':Shared),Inv X pins σ H s->CX X.stack H s E e s'->X.xe e s'
section
variable{X:Cx}{CX:CXT}{k:Nat}{f C:Addr}{fd:FuncData}{ps:List Str}{sp:Sp}{dvs:List V}{ds:List Value}{E:XK}{x m:Str}{p pos apos:Pos}{e o:Expr}{es:List Expr}{ta:TE}{t:TA}
theorem lF{σ:St}(F:aa X.prog X.w X.K X.mg X.base CX k f fd ps sp)(hr:af k X.A)(hb:b_q X.K fd ps ds)(hd:ad dvs ds)(hx:e_f CX X E)(I:Inv X pins σ H s)(r:ad vs us)(h:sp (vs++dvs) H Q E):wpAny (model X.prog X.w) X.A (call (.ref f) us) (EP X pins σ Q) X.xe s:=by
 have r2:ad (vs++dvs) (us++ds):=r.append hd;have hl:(us++ds).length=ps.length:=by rw[<-r2.length];exact F.len _ _ _ _ h
 refine wpAny_call (codeAny_mono (F.run X.A X.stack s H (us,[]) (us++ds) (vs++dvs) Q E hr I.env0 (hb s us I.kIn hl) r2 h) λr s' hq=>?_);cases r with
 |error e=>exact hx pins σ H s e s' I hq
 |ok fl=>
  cases fl with
  |ret u=>exact I.after hq
  |next=>exact False.elim hq
  |brk=>exact False.elim hq
  |cont=>exact False.elim hq
theorem i8(F:aa X.prog X.w X.K X.mg X.base CX k f fd ps sp)(hr:af k X.A)(hg:Gl X x)(hm:X.mg x=some (.ref f))(hk:keepIn X.K (.ref f)=true)(hb:b_q X.K fd ps ds)(hd:ad dvs ds)(hx:e_f CX X E)(ha:PA X (e::es) t)(hdb:(x==("__debug__":Str))=false:=by decide)(he:starEach (e::es) X.env=(false,eval e X.env,)::starEach es X.env:=by rfl)(hpl:(backTo pos (starEach es X.env)).any (·.1)=false:=by rfl):PE X (.Call (.Name x p) (e::es) [] pos) (d_b sp dvs E t):=by
 intro pins s σ H Q I h;refine wpAny_Call_Name_kw (ld_glob I hg hm ?_ hdb);refine callWith_K (h₀:=X.base) I.ok.mod.kin hk (thn (ha pos pins s σ H _ I h) λus s1⟨vs,H1,I1,r,q⟩=>(I1.kIn,?_)) he hpl;exact lF F hr hb hd hx I1 r q
structure Mk(K:Frag)(C f:Addr):Prop where
 makes:PySem.W.makesIn K C=true
 init:PySem.W.findIn K (.ref C) "__init__"=some (some (.ref f))
 fn:isFn K (.ref f)=true
 kp:keepIn K (.ref C)=true
theorem lE{σ:St}(M:Mk X.K C f)(F:aa X.prog X.w X.K X.mg X.base CX k f fd ps sp)(hr:af (k+1) X.A)(hb:b_q X.K fd ps ds)(hd:ad dvs ds)(hx:e_f CX X E)(I:Inv X pins σ H s)(r:ad vs us)(h:∀x dx,H x=none->H dx=none->dx≠x->sp (.ref x::(vs++dvs)) (upd (upd H dx (.own x)) x (.ins C dx [])) (λv H2=>v=.non/\Q (.ref x) H2) E):wpAny (model X.prog X.w) X.A (call (.ref C) us) (EP X pins σ Q) X.xe s:=by
 have hq:=h (s.heap.objs.size+1) s.heap.objs.size (I.hok.fresh (le_succ _)) (I.hok.fresh (le_refl _)) (ne_of_lt (lt_succ_self _));have I2:=Inv.made (C:=C) I;have r2:ad (V.ref (s.heap.objs.size+1)::(vs++dvs)) (Value.ref (s.heap.objs.size+1)::(us++ds)):=.cons rfl (r.append hd);have hl:(Value.ref (s.heap.objs.size+1)::us++ds).length=ps.length:=by
  have e:=r2.length;rw[F.len _ _ _ _ hq]at e;exact e.symm
 refine wpAny_call (mH (f:=f) I.kIn M.makes M.init (beq_iff_eq.mp M.fn) (codeAny_mono (F.run _ X.stack _ _ (Value.ref (s.heap.objs.size+1)::us,[]) (Value.ref (s.heap.objs.size+1)::(us++ds)) _ _ E (hr.make C us [])
  (I2.env0.make C us []) (hb _ (Value.ref (s.heap.objs.size+1)::us) I2.kIn hl) r2 hq) λr s' hq'=>?_))
 cases r with
 |error e=>exact hx pins σ _ _ e s' I2 hq'
 |ok fl=>
  cases fl with
  |ret u=>
   obtain⟨v,H',I3,rv,ev,q3⟩:=I2.after hq';subst ev;exact(rv,(V.ref (s.heap.objs.size+1),H',I3,rfl,q3))
  |next=>exact False.elim hq'
  |brk=>exact False.elim hq'
  |cont=>exact False.elim hq'
theorem oy(M:Mk X.K C f)(F:aa X.prog X.w X.K X.mg X.base CX k f fd ps sp)(hr:af (k+1) X.A)(hg:Gl X x)(hm:X.mg x=some (.ref C))(hb:b_q X.K fd ps ds)(hd:ad dvs ds)(hx:e_f CX X E)(ha:PA X (e::es) t)(hdb:(x==("__debug__":Str))=false:=by decide)(he:starEach (e::es) X.env=(false,eval e X.env,)::starEach es X.env:=by rfl)(hpl:(backTo pos (starEach es X.env)).any (·.1)=false:=by rfl):PE X (.Call (.Name x p) (e::es) [] pos) (q9 C sp dvs E t):=by
 intro pins s σ H Q I h;refine wpAny_Call_Name_kw (ld_glob I hg hm ?_ hdb);refine callWith_K (h₀:=X.base) I.ok.mod.kin M.kp (thn (ha pos pins s σ H _ I h) λus s1⟨vs,H1,I1,r,q⟩=>(I1.kIn,?_)) he hpl;exact lE M F hr hb hd hx I1 r q
end
section
variable{X:Cx}{CX:CXT}{k:Nat}{f C:Addr}{fd:FuncData}{ps ks:List Str}{sp:Sp}{E:XK}{x m:Str}{p pos apos kpos:Pos}{e o:Expr}{es:List Expr}{kws:List Keyword}{te ta:TE}{t tk:TA}{nm:Option Str}
variable{g:List Value->List Value->List Value}{gV:List V->List V->List V}
end
structure a_m(N P:List Str)(sc:Scope):Prop where
 kind:sc.kind=.function
 co:sc.isCoroutine=false
 gen:sc.isGenerator=false
 nd:N.Nodup
 pre:N.take P.length=P
 par:∀x∈P,sc.names.lookup x=some .local\/sc.names.lookup x=some .cell
 nofree:∀y∈sc.names,y.2≠.free
theorem cQ{kindOf:Str->Option NameKind}{x:Str}:∀{binds:List (Str×Value)}{m:Str->Option Value},(∀v,(x,v,)∉binds)->bindL kindOf binds m x=m x
 |[],_,_=>rfl
 |(n,v)::r,m,h=>by
  unfold bindL;rw[cQ λw hw=>h w (mem_cons_of_mem _ hw)];split
  .have:x≠n:=by rintro rfl;exact h v mem_cons_self
   simp[this]
  .rfl
theorem bindC_out{kindOf:Str->Option NameKind}{x:Str}:∀{binds:List (Str×Value)}{m:Str->Option Value},(∀v,(x,v,)∉binds)->bindC kindOf binds m x=m x
 |[],_,_=>rfl
 |(n,v)::r,m,h=>by
  unfold bindC;rw[bindC_out λw hw=>h w (mem_cons_of_mem _ hw)];split
  .rfl
  .have:x≠n:=by rintro rfl;exact h v mem_cons_self
   simp[this]
theorem bindL_get{kindOf:Str->Option NameKind}{x:Str}{v:Value}:∀{P:List Str}{vs:List Value}{i:Nat}{m:Str->Option Value},P.Nodup->P[i]?=some x->vs[i]?=some v->kindOf x=some .local->
  bindL kindOf (P.zip vs) m x=some v
 |[],_,_,_,_,h,_,_=>by simp at h
 |_::_,[],_,_,_,_,h,_=>by simp at h
 |p::P,w::vs,0,m,nd,h1,h2,hk=>by
  simp at h1 h2;subst h1;subst h2;show bindL kindOf ((p,w,)::P.zip vs) m p=_;unfold bindL;rw[cQ λv hv=>(nodup_cons.mp nd).1 (of_mem_zip hv).1,if_pos hk];simp
 |p::P,w::vs,i+1,m,nd,h1,h2,hk=>by
  show bindL kindOf ((p,w,)::P.zip vs) m x=_;unfold bindL;exact bindL_get (i:=i) (nodup_cons.mp nd).2 (by simpa using h1) (by simpa using h2) hk
theorem cR{kindOf:Str->Option NameKind}{x:Str}{v:Value}:∀{P:List Str}{vs:List Value}{i:Nat}{m:Str->Option Value},P.Nodup->P[i]?=some x->vs[i]?=some v->kindOf x≠some .local->
  bindC kindOf (P.zip vs) m x=some v
 |[],_,_,_,_,h,_,_=>by simp at h
 |_::_,[],_,_,_,_,h,_=>by simp at h
 |p::P,w::vs,0,m,nd,h1,h2,hk=>by
  simp at h1 h2;subst h1;subst h2;show bindC kindOf ((p,w,)::P.zip vs) m p=_;unfold bindC;rw[bindC_out λv hv=>(nodup_cons.mp nd).1 (of_mem_zip hv).1,if_neg hk];simp
 |p::P,w::vs,i+1,m,nd,h1,h2,hk=>by
  show bindC kindOf ((p,w,)::P.zip vs) m x=_;unfold bindC;exact cR (i:=i) (nodup_cons.mp nd).2 (by simpa using h1) (by simpa using h2) hk
def start(N:List Str)(vs:List V):St:=vs.map some++replicate (N.length-vs.length) none
def aJ(CX:CXT)(P:Program)(w:World)(K:Frag)(mg:Str->Option Value)(base:Heap)(N:List Str)(qual:Str)(scope:Scope)(f:Addr)(cd:Value)(A:Around)(outer:List Env)(s:Shared)(H:Hp)(E:XK):Cx where
 prog:=P
 w:=w
 K:=K
 mg:=mg
 base:=base
 A:=A.deeper (envOfC qual scope s.heap.objs.size f cd)
 N:=N
 s₀:=s
 H₀:=H
 env:=envOfC qual scope s.heap.objs.size f cd
 outer:=outer
 stack:=envOfC qual scope s.heap.objs.size f cd::outer
 ex:=[]
 calm:=true
 fn:=λ_=>true
 pn:=[]
 xe:=λe s'=>wpAny (model P w) (A.deeper (envOfC qual scope s.heap.objs.size f cd)) (leaving (envOfC qual scope s.heap.objs.size f cd) e) (λ_ s''=>CX outer H s E e s'') (λe' s''=>CX outer H s E e' s'') s'
theorem cell_has{sc:Scope}(h:sc.names.lookup x=some .cell):∃c,(cellsFrom n sc.names []).lookup x=some c:=by
 have q:=PySem.W.cellsFrom_some sc.names n [] (.inl h);exact Option.isSome_iff_exists.mp q
theorem kD{CX:CXT}{P:Program}{w:World}{K:Frag}{mg:Str->Option Value}{base:Heap}{N ps:List Str}{qual:Str}{scope:Scope}{f:Addr}{cd:Value}{A:Around}{outer:List Env}{s s1:Shared}{H:Hp}{E:XK}{us:List Value}{vs:List V}(S:a_m N ps scope)(hd:A.handled=none)(e0:bn P w K mg base A outer s H)(hl:vs.length=ps.length)(r:ad vs us)(x:InCallC s s.heap.objs.size (bindL (envOfC qual scope s.heap.objs.size f cd).kindOf (ps.zip us) λ_=>none) (cellsFrom (s.heap.objs.size+1) scope.names []) (bindC (envOfC qual scope s.heap.objs.size f cd).kindOf (ps.zip us) λ_=>none) s1):Inv (aJ CX P w K mg base N qual scope f cd A outer s H E) [] (start N vs) H s1:=by
 have hpl:ps.length≤N.length:=by have:=congrArg List.length S.pre;rw[length_take]at this;omega
 obtain⟨h1,tk,rfl,hk⟩:=x.done;have noA:∀b:Addr,b∉(aJ CX P w K mg base N qual scope f cd A outer s H E).ex:=λb z=>absurd (show b∈([]:List Addr)from z) (by simp);refine((e0.mod,S.kind,rfl,rfl,le_refl _,λy z c h1 h2=>?_,λy hy=>?_,λy c _ h=>?_,λ_=>hd,Around.frames_deeper e0.frames,.inr (rfl,rfl),λb z=>absurd z (noA b),e0.bs,e0.bsz,λb _ _=>noA b,λb z=>absurd z (noA b),e0.funs,e0.frf),
  rfl,e0.bare,Un.kept hk,(_,x.toInCall.ns,λi y v h1 h2 h3=>?_),λy c h=>(_,x.cell y c h),e0.hok.fresh (le_refl _),λy c h=>?_,λp hp=>absurd (show p∈([]:List (Addr×Obj))from hp) (by simp),e0.hok.kept hk,?_)
 .exact name_of_addr x.apart (PySem.mem_of_lookup h1) (PySem.mem_of_lookup h2)
 .have hy:scope.names.lookup y=some .cell\/scope.names.lookup y=some .free:=hy;rcases hy with hy|hy
  .exact cell_has hy
  .exact absurd rfl (S.nofree _ (PySem.mem_of_lookup hy))
 .exact le_of_lt (x.above y c (PySem.mem_of_lookup h))
 .have hi:i<vs.length:=by
   unfold start at h2;by_cases hi:i<vs.length
   .exact hi
   .rw [getElem?_append_right (by simpa using hi)]at h2;rw[List.getElem?_replicate]at h2;split at h2<;>cases h2
  have ha:vs[i]?=some v:=by
   unfold start at h2;rw[getElem?_append_left (by simpa using hi),qa6]at h2;cases e:vs[i]? with
   |none=>rw[e]at h2;cases h2
   |some a=>rw[e]at h2;cases h2;rfl
  obtain⟨u,hu,rv⟩:=r.get ha;have hp:ps[i]?=some y:=by
   rw[<-S.pre,List.getElem?_take_of_lt (by omega)];exact h1
  have ndP:ps.Nodup:=by rw[<-S.pre];exact S.nd.sublist (List.take_sublist _ _)
  refine(u,rv,?_);rcases S.par y (qb2 hp)with k|k
  .exact .inl (k,bindL_get ndP hp hu k)
  .obtain ⟨c,e⟩:=cell_has (n:=s.heap.objs.size+1) k;refine .inr (.inl k,c,e,?_);have q:=x.cell y c e;rw[cR ndP hp hu (by show scope.names.lookup y≠_;rw[k];decide)]at q;exact q
 .exact e0.hok.fresh (le_of_lt (x.above y c (PySem.mem_of_lookup h)))
 .unfold start;show _=N.length;rw[qa5,qa4,length_replicate];omega
theorem fY{CX:CXT}{P:Program}{w:World}{K:Frag}{mg:Str->Option Value}{base:Heap}{k:Nat}{f:Addr}{name qual:Str}{params:Arguments}{body:List Stmt}{scope:Scope}{dV kV doc pm cdv ct oc:Value}{an od:Option Addr}{osl:Array (Option Value)}{N ps:List Str}{sp:Sp}(lk:K.lookup f=some (oc,od,.func (fnOf name qual params body scope dV kV doc pm an cdv ct),osl))(hcd:codeIn K cdv qual=true)(S:a_m N ps scope)(len:∀vs H Q E,sp vs H Q E->vs.length=ps.length)(hbody:∀(A:Around)(outer:List Env)(s:Shared)(H:Hp)(vs:List V)(Q:VK)(E:XK),af k (A.deeper (envOfC qual scope s.heap.objs.size f cdv))->sp vs H Q E->
   ∃t,PSs (aJ CX P w K mg base N qual scope f cdv A outer s H E) body t/\t {nx:=λ_ H'=>Q .non H',rt:=Q} (start N vs) H):aa P w K mg base CX (k+1) f (fnOf name qual params body scope dV kV doc pm an cdv ct) ps sp:=by
 refine(len,λA outer s H args us vs Q E hr e0 hb r hsp=>?_);have hl:=len _ _ _ _ hsp;have KX:K.In s.heap:=e0.mod.kin.keeps λb o e=>(e0.bs b o e).1;have lim:s.heap.NoLimit:=e0.mod.nolimit.keeps λb o e=>(e0.bs b o e).1;have hkind:∀y∈ps.zip us,scope.names.lookup y.1=some .local\/(scope.names.lookup y.1=some .cell/\((cellsFrom (s.heap.objs.size+1) scope.names []).lookup y.1).isSome=true):=λhZ0 hy=>by
  obtain⟨n,v⟩:=hZ0;rcases S.par n (of_mem_zip hy).1 with q|q
  .exact .inl q
  .exact .inr (q,PySem.W.cellsFrom_some _ _ _ (.inl q))
 refine codeAny_call_function hr.depth (KX _ _ lk) rfl S.co S.gen rfl (PySem.W.codeRec_of KX hcd) (hb _ _ _ _ ?_);refine wpAny_newFunctionEnv_cells S.kind hkind λenv he s1 x=>?_;subst he;refine(lim.keeps x.toInCall.keep,codeAny_func ?_);obtain⟨t,ht,hq⟩:=hbody A outer s H vs Q E (hr.deeper _) hsp;have I:Inv (aJ CX P w K mg base N qual scope f cdv A outer s H E) [] (start N vs) H s1:=kD S hr.hd e0 hl r x;refine wpAny_mono (ht [] s1 (start N vs) H _ I hq) (λfl s' hs=>?_) λe s' hs=>hs;have fin:∀{σ':St}{H':Hp}{v:V}{u:Value},Inv (aJ CX P w K mg base N qual scope f cdv A outer s H E) [] σ' H' s'->ac v u->Q v H'->CE outer P w H s Q u s':=
  λ{σ' H' v u}J rv q=>(v,H',J.os,J.bare,J.base,J.hok,rv,q)
 cases fl with
 |ret u=>
  obtain⟨v,σ',H',J,rv,q⟩:=hs;exact fin J rv q
 |next=>
  obtain⟨σ',H',J,q⟩:=hs;exact fin (v:=V.non) (u:=Value.none) J rfl q
 |brk=>
  obtain⟨_,_,_,q⟩:=hs;exact False.elim q
 |cont=>
  obtain⟨_,_,_,q⟩:=hs;exact False.elim q
section
variable{X:Cx}{x:Str}{p pos:Pos}{e:Expr}{es:List Expr}{t:TA}{id T:String}{r:List V->Hp->VK->Prop}
def tCB(r:List V->Hp->VK->Prop)(t:TA):TE:=λσ H Q=>t σ H λvs H1=>r vs H1 Q
theorem a_I(hc:d_f X (.builtin id) r)(hg:Gl X x)(hm:X.mg x=none)(hv:bootBuiltins x=some (.builtin id))(ha:PA X (e::es) t)(hn:x≠"__name__":=by decide)(hdb:(x==("__debug__":Str))=false:=by decide)(he:starEach (e::es) X.env=(false,eval e X.env,)::starEach es X.env:=by rfl)(hpl:(backTo pos (starEach es X.env)).any (·.1)=false:=by rfl):PE X (.Call (.Name x p) (e::es) [] pos) (tCB r t):=by
 intro pins s σ H Q I h;refine wpAny_Call_Name_kw (ld_blt I hg hm hv ?_ hn hdb);exact PyProof.Rows.callWith_builtin1 (thn (ha pos pins s σ H _ I h) λus s1 hZ1=>by obtain⟨vs,H1,I1,r1,q1⟩:=hZ1;exact hc pins s1 σ H1 vs us Q I1 r1 q1) he hpl
theorem a_E(hc:d_f X (.type T) r)(hg:Gl X x)(hm:X.mg x=none)(hv:bootBuiltins x=some (.type T))(ha:PA X (e::es) t)(hn:x≠"__name__":=by decide)(hdb:(x==("__debug__":Str))=false:=by decide)(he:starEach (e::es) X.env=(false,eval e X.env,)::starEach es X.env:=by rfl)(hpl:(backTo pos (starEach es X.env)).any (·.1)=false:=by rfl):PE X (.Call (.Name x p) (e::es) [] pos) (tCB r t):=by
 intro pins s σ H Q I h;refine wpAny_Call_Name_kw (ld_blt I hg hm hv ?_ hn hdb);exact PyProof.Rows.callWith_type1 (thn (ha pos pins s σ H _ I h) λus s1 hZ2=>by obtain⟨vs,H1,I1,r1,q1⟩:=hZ2;exact hc pins s1 σ H1 vs us Q I1 r1 q1) he hpl
end
end L2
namespace HT
open PySem PyProof.Rows
section
open PySem.SeqAt
open PySem.AutoSeq1 (wpAny_loadPart')
open PySem.MeetsSeq PySem.MeetsSeq2 PySem.MeetsSeq3
end
section
variable{prog:Program}{w:World}{A:Around}{E:Value->Shared->Prop}{s:Shared}
def sIx(n d:Nat):Option Int->Nat
 |none=>d
 |some v=>if v<0 then(v+(n:Int)).toNat else min v.toNat n
theorem sIx_none(n d:Nat):sIx n d none=d:=rfl
theorem sIx_nat(n d k:Nat):sIx n d (some (k:Int))=min k n:=by
 show(if (k:Int)<0 then((k:Int)+(n:Int)).toNat else min (k:Int).toNat n)=min k n;rw[if_neg (by omega),Int.toNat_natCast]
end
end HT
namespace L2
open PySem PySem.Spec PyProof.Rows
abbrev TO:=St->Hp->(Option Int->Hp->Prop)->Prop
def PO(X:Cx)(e:Option Expr)(t:TO):Prop:=
 ∀(pins:List (Addr×Obj))(s:Shared)(σ:St)(H:Hp)(Q:Option Int->Hp->Prop),Inv X pins σ H s->t σ H Q->
  wpAny (model X.prog X.w) X.A (evalPart e X.env) (λu s'=>∃o H',Inv X pins σ H' s'/\IsPart u o/\Q o H') X.xe s
def tNoPart:TO:=λ_ H Q=>Q none H
def qX(t:TE):TO:=λσ H Q=>t σ H λx H1=>∃i,x=.int i/\Q (some i) H1
section
variable{X:Cx}{e:Expr}{te:TE}{lo hi:Option Expr}{tl th:TO}{pos p2:Pos}
theorem g_u:PO X none tNoPart:=by
 intro pins s σ H Q I h;rw[evalPart_none];exact qa8 (none,H,I,.none,h)
theorem g_t(h:PE X e te):PO X (some e) (qX te):=by
 intro pins s σ H Q I hw;rw[evalPart_some];refine thn (h pins s σ H _ I hw) λu s1 hZ0=>?_;obtain⟨x,H1,I1,r1,q1⟩:=hZ0;obtain⟨i,rfl,q⟩:=q1;obtain⟨t,rfl⟩:=r1;exact(some i,H1,I1,.int i t,q)
def SlR(X:Cx)(r:V->Option Int->Option Int->Hp->VK->Prop):Prop:=
 ∀(pins:List (Addr×Obj))(s:Shared)(σ:St)(H:Hp)(x:V)(v vl vu:Value)(lo hi:Option Int)(sl:Addr)(Q:VK),Inv X pins σ H s->ac x v->s.heap.IsSliceOf sl vl vu .none->IsPart vl lo->IsPart vu hi->r x lo hi H Q->
  ∃T id,typeLookup (.type T) "__getitem__"=pure (some (.builtin id))/\s.TypeIs v T/\wpAny (model X.prog X.w) X.A (getItem v (.ref sl)) (EP X pins σ Q) X.xe s
def tSl(r:V->Option Int->Option Int->Hp->VK->Prop)(te:TE)(tl th:TO):TE:=λσ H Q=>te σ H λx H1=>tl σ H1 λl H2=>th σ H2 λu H3=>r x l u H3 Q
theorem e_L(hr:SlR X r)(he:PE X e te)(hl:PO X lo tl)(hu:PO X hi th):PE X (.Subscript e (.Slice lo hi none p2) pos) (tSl r te tl th):=by
 intro pins s σ H Q I h;refine Subscript_ (thn (he pins s σ H _ I h) λv s1 hZ1=>?_);obtain⟨x,H1,I1,r1,q1⟩:=hZ1;refine wpAny_Slice (thn (hl pins s1 σ H1 _ I1 q1) λvl s2⟨l,H2,I2,pl,q2⟩=>thn (hu pins s2 σ H2 _ I2 q2) λvu s3 hZ2=>?_);obtain⟨u,H3,I3,pu,q3⟩:=hZ2;rw[evalPart_none];refine qa8 ?_;have I4:Inv X pins σ H3 {s3 with heap:=s3.heap.push {cls:=.type "slice",data:=.fields #[vl,vu,.none]} }:=I3.kept (t':=s3.toks) λb ob q=>qa9 _ q;obtain⟨T,id,hT,ht,hg⟩:=hr pins {s3 with heap:=s3.heap.push {cls:=.type "slice",data:=.fields #[vl,vu,.none]} } σ H3 x v vl vu l u s3.heap.objs.size Q I4 r1 (Heap.IsSliceOf.new ..) pl pu q3;show wpAny (model X.prog X.w) X.A (subscriptTail e (.Slice lo hi none p2) v (.ref s3.heap.objs.size)) (EP X pins σ Q) X.xe {s3 with heap:=s3.heap.push {cls:=.type "slice",data:=.fields #[vl,vu,.none]} };exact tail_any (ops:=[.ref s3.heap.objs.size,v]) ht hT hg (by with_unfolding_all rfl)
def cutV(xs:List V)(lo hi:Option Int):List V:=(xs.drop (HT.sIx xs.length 0 lo)).take (HT.sIx xs.length xs.length hi-HT.sIx xs.length 0 lo)
theorem gq(xs:List V)(lo hi:Option Int):(cutV xs lo hi).length≤xs.length:=by
 unfold cutV;rw[length_take,List.length_drop];omega
end
def ixN(n:Nat)(i:Int):Option Nat:=if 0≤i then(if i<n then some i.toNat else none)else if -(n:Int)≤i then some (i+n).toNat else none
def atI{α:Type}(xs:List α)(i:Int):Option α:=(ixN xs.length i).bind λj=>xs[j]?
theorem oV(h:ixN n i=some j):seqIndex? i n=some j/\j<n/\-(n:Int)≤i/\i<n:=by
 unfold ixN at h;by_cases h0:0≤i
 .rw [if_pos h0]at h;by_cases h1:i<n
  .rw [if_pos h1]at h;have e:i.toNat=j:=Option.some.inj h;exact(by rw[seqIndex_of h0 h1,e],by omega,by omega,h1)
  .rw [if_neg h1]at h;cases h
 .rw [if_neg h0]at h;by_cases h1:-(n:Int)≤i
  .rw [if_pos h1]at h;have e:(i+n).toNat=j:=Option.some.inj h;exact(by rw[seqIndex_neg (by omega) h1,e],by omega,h1,by omega)
  .rw [if_neg h1]at h;cases h
theorem d8{xs:List α}{v:α}(h:atI xs i=some v):∃j,seqIndex? i xs.length=some j/\xs[j]?=some v/\j<xs.length/\-(xs.length:Int)≤i/\i<xs.length:=by
 unfold atI at h;cases e:ixN xs.length i with
 |none=>rw[e]at h;cases h
 |some j=>
  rw[e]at h;obtain⟨h1,h2,h3,h4⟩:=oV e;exact(j,h1,h,h2,h3,h4)
theorem a_G{xs:List α}{j:Nat}{v:α}(h:xs[j]?=some v):atI xs (j:Int)=some v:=by
 have hj:j<xs.length:=(qa1 h).1;have e:ixN xs.length (j:Int)=some j:=by
  unfold ixN;rw[if_pos (by omega),if_pos (by omega)];simp
 unfold atI;rw[e];exact h
theorem nH(xs:List α)(v:α):atI (xs++[v]) (-1)=some v:=by
 have hl:(xs++[v]).length=xs.length+1:=by simp
 have e:ixN (xs++[v]).length (-1)=some xs.length:=by
  unfold ixN;rw[hl,if_neg (by decide),if_pos (by omega)];congr 1;omega
 unfold atI;rw[e];show(xs++[v])[xs.length]?=some v;simp
def eA(b:Expr):Prop:=∀o i,subscripted b false o i=operate [o,i] (getItem o i)
def IxR(X:Cx)(r:R2):Prop:=
 ∀(value slice:Expr)(pins:List (Addr×Obj))(s:Shared)(σ:St)(H:Hp)(x y:V)(v u:Value)(Q:VK),Inv X pins σ H s->ac x v->ac y u->r x y H Q->
  subscripted slice false v u=operate [v,u] (getItem v u)->wpAny (model X.prog X.w) X.A (subscriptTail value slice v u) (EP X pins σ Q) X.xe s
def MtR(X:Cx)(id:String)(r:V->List V->Hp->VK->Prop):Prop:=
 ∀(pins:List (Addr×Obj))(s:Shared)(σ:St)(H:Hp)(x:V)(xs:List V)(v:Value)(us:List Value)(Q:VK),Inv X pins σ H s->ac x v->ad xs us->r x xs H Q->
  wpAny (model X.prog X.w) X.A (call (.builtin id) (v::us)) (EP X pins σ Q) X.xe s
section
variable{X:Cx}{a b:Expr}{ta tb:TE}{pos:Pos}
theorem IxR.or(h:IxR X r)(h':IxR X r'):IxR X (λx y H Q=>r x y H Q\/r' x y H Q):=by
 intro value slice pins s σ H x y v u Q I rx ry q hs;rcases q with q|q
 .exact h value slice pins s σ H x y v u Q I rx ry q hs
 .exact h' value slice pins s σ H x y v u Q I rx ry q hs
theorem pe_ix(hr:IxR X r)(ha:PE X a ta)(hb:PE X b tb)(hs:eA b):PE X (.Subscript a b pos) (tOp r ta tb):=by
 intro pins s σ H Q I h;exact Subscript_ (binT ha hb I h λv u s2 x y H2 I2 rx ry q=>hr a b pins s2 σ H2 x y v u Q I2 rx ry q (hs _ _))
def lG(K:Frag):R2:=λx y H Q=>∃p xs i v,x=.ref p/\y=.int i/\SqL K H p xs/\atI xs i=some v/\Q v H
def hZ(K:Frag):R2:=λx y H Q=>∃p xs i v,x=.ref p/\y=.int i/\SqT K H p xs/\atI xs i=some v/\Q v H
def rIxS:R2:=λx y H Q=>∃z i c,x=.str z/\y=.int i/\z.length≤sizeLine/\atI z.cps.toList i=some c/\Q (.str ⟨#[c]⟩) H
theorem dN:IxR X (lG X.K):=by
 intro value slice pins s σ H x y v u Q I rx ry h hs;obtain⟨p,xs,i,z,rfl,rfl,hq,he,q⟩:=h;cases rx;obtain⟨t,rfl⟩:=ry;obtain⟨its,r,pl,hz⟩:=I.list hq;obtain⟨j,h1,h2,h3,h4,h5⟩:=d8 he;obtain⟨w,ew,rw'⟩:=r.get h2;have hl:=r.length;have hn:=bG;have fin:EP X pins σ Q w s:=(z,H,I,rw',q);by_cases h0:0≤i
 .have hj:i.toNat=j:=by
   rw[seqIndex_of h0 h5]at h1;exact Option.some.inj h1
  exact item_listR pl.isList h0 (by omega) (by rw[hj];simpa using ew) fin hs
 .have hj:(i+(its.toArray.size:Int)).toNat=j:=by
   rw[seqIndex_neg (by omega) h4]at h1;rw[size_toArray,<-hl];exact Option.some.inj h1
  exact subscriptTail_builtinR (x:=w) pl.isList.typeIs slot_list_getitem.lookup
   (wpAny_getItem_list_neg (Q:=λr s'=>r=w/\EP X pins σ Q r s') pl.isList (by omega) (by rw[size_toArray]<;>omega) (by omega) (by rw[hj];simpa using ew) (rfl,fin)) hs
theorem dM:IxR X (hZ X.K):=by
 intro value slice pins s σ H x y v u Q I rx ry h hs;obtain⟨p,xs,i,z,rfl,rfl,hq,he,q⟩:=h;cases rx;obtain⟨t,rfl⟩:=ry;obtain⟨its,r,pl,hz⟩:=I.tuple hq;obtain⟨j,h1,h2,h3,h4,h5⟩:=d8 he;obtain⟨w,ew,rw'⟩:=r.get h2;have hl:=r.length;have hn:=bG;have fin:EP X pins σ Q w s:=(z,H,I,rw',q);exact subscriptTail_builtinR (x:=w) pl.typeIs slot_tuple_getitem.lookup
  (getItem_tuple (j:=j) (Q:=λr s'=>r=w/\EP X pins σ Q r s') pl (by omega) (by omega) (by rw[size_toArray,<-hl];exact h1) (by simpa using ew) (rfl,fin)) hs
theorem iz:IxR X rIxS:=by
 intro value slice pins s σ H x y v u Q I rx ry h hs;obtain⟨z,i,c,rfl,rfl,hz,he,q⟩:=h;obtain⟨t,rfl⟩:=rx;obtain⟨t',rfl⟩:=ry;obtain⟨j,h1,h2,h3,h4,h5⟩:=d8 he;have hl:z.cps.toList.length=z.length:=by simp[length]
 rw[hl]at h1 h4 h5;have hn:=bG;exact tail_any (typeIs_str s z t) slot_str_getitem.lookup (getItem_str (c:=c) (by
  have e1:decide (i < -(2^63:Int))=false:=decide_eq_false (by omega);have e2:decide (i≥2^63)=false:=decide_eq_false (by omega);rw[e1,e2,Bool.or_false]) (by rw[h1];simpa using h2) (.str ⟨#[c]⟩,H,I.tok _,(_,rfl),q)) hs
def rIx(K:Frag):R2:=λx y H Q=>lG K x y H Q\/hZ K x y H Q\/rIxS x y H Q
theorem mM:IxR X (rIx X.K):=dN.or (dM.or iz)
theorem Inv.lst{σ:St}(I:Inv X pins σ H s)(h:H p=some (.lst xs)):∃(its:List Value)(n:Nat),ad xs its/\s.heap.get? p=some {cls:=.type "list",data:=.seq its.toArray n}/\xs.length≤sizeLine:=by
 obtain⟨z,its,n,r,e⟩:=I.hok p _ h;exact(its,n,r,e,z)
theorem dq(lo hi:Option Int)(n:Nat):(sliceBounds lo hi none n).1=((HT.sIx n 0 lo:Nat):Int)/\(sliceBounds lo hi none n).2.1=((HT.sIx n n hi:Nat):Int)/\(sliceBounds lo hi none n).2.2=1:=by
 refine(?_,?_,rfl)
 .cases lo with
  |none=>simp[sliceBounds,HT.sIx]
  |some i=>
   simp only[sliceBounds,HT.sIx,Option.getD_none,show(1:Int)>0 by decide,if_true];by_cases h:i<0
   .simp only[h,if_true]<;>omega
   .simp only[h,if_false]<;>omega
 .cases hi with
  |none=>simp[sliceBounds,HT.sIx]
  |some i=>
   simp only[sliceBounds,HT.sIx,Option.getD_none,show(1:Int)>0 by decide,if_true];by_cases h:i<0
   .simp only[h,if_true]<;>omega
   .simp only[h,if_false]<;>omega
theorem g_j(its:List Value)(lo hi:Option Int):slicePick its.toArray lo hi none=((its.drop (HT.sIx its.length 0 lo)).take (HT.sIx its.length its.length hi-HT.sIx its.length 0 lo)).toArray:=by
 obtain⟨h1,h2,h3⟩:=dq lo hi its.toArray.size;unfold slicePick;rw[h1,h2,h3];simp only[sliceRange_one,pick_run,size_toArray]<;>rfl
def sU(K:Frag):V->Option Int->Option Int->Hp->VK->Prop:=λx lo hi H Q=>∃a xs,x=.ref a/\SqL K H a xs/\∀p,H p=none->Q (.ref p) (upd H p (.lst (cutV xs lo hi)))
theorem iV:SlR X (sU X.K):=by
 intro pins s σ H x v vl vu lo hi sl Q I rx hs pl pu h;obtain⟨a,xs,rfl,hx,q⟩:=h;cases rx;obtain⟨its,r,ht,hz⟩:=I.list hx;have hlen:=r.length;refine("list",_,slot_list_getitem.lookup,ht.isList.typeIs,?_);refine wpAny_getItem_list_slice ht.isList hs pl pu .none (by simp) ?_ (by rw[size_toArray]<;>omega);rw[g_j,<-hlen];refine(.ref s.heap.objs.size,_,I.laid (t':=s.toks) (o:=.lst (cutV xs lo hi)) (λb ob q=>qa9 _ q) (le_refl _) ?_,rfl,q _ (I.hok.fresh (le_refl _)));exact(le_trans (gq xs lo hi) hz,_,0,(r.drop (HT.sIx xs.length 0 lo)).take (HT.sIx xs.length xs.length hi-HT.sIx xs.length 0 lo),get?_push_size _ rfl)
def g_J:V->Bool
 |.non=>true
 |.bl _=>true
 |.int _=>true
 |.str _=>true
 |_=>false
def eqV:V->V->Bool
 |.non,.non=>true
 |.bl a,.bl b=>a==b
 |.bl a,.int b=>(if a then 1 else 0)==b
 |.int a,.bl b=>a==(if b then 1 else 0)
 |.int a,.int b=>a==b
 |.str a,.str b=>a==b
 |_,_=>false
theorem eqAt_V(ry:ac y u)(rx:ac x v)(fy:g_J y=true)(fx:g_J x=true):SeqAt.EqAt A s u v (eqV y x):=by
 cases y with
 |non=>
  cases ry;cases x with
  |non=>cases rx;exact SeqAt.EqAt.same _
  |bl b=>cases rx;exact SeqAt.EqAt.none_bool b
  |int b=>obtain⟨t,rfl⟩:=rx;exact SeqAt.EqAt.none_int b t
  |str b=>obtain⟨t,rfl⟩:=rx;exact SeqAt.EqAt.none_str b t
  |_=>exact absurd (show false=true from fx) Bool.false_ne_true
 |bl a=>
  cases ry;cases x with
  |non=>cases rx;exact SeqAt.EqAt.bool_none a
  |bl b=>cases rx;exact SeqAt.EqAt.bool_bool a b
  |int b=>obtain⟨t,rfl⟩:=rx;exact SeqAt.EqAt.bool_int a b t
  |str b=>obtain⟨t,rfl⟩:=rx;exact SeqAt.EqAt.bool_str a b t
  |_=>exact absurd (show false=true from fx) Bool.false_ne_true
 |int a=>
  obtain⟨t',rfl⟩:=ry;cases x with
  |non=>cases rx;exact SeqAt.EqAt.int_none a t'
  |bl b=>cases rx;exact SeqAt.EqAt.int_bool a t' b
  |int b=>obtain⟨t,rfl⟩:=rx;exact SeqAt.EqAt.int_int a t' b t
  |str b=>obtain⟨t,rfl⟩:=rx;exact SeqAt.EqAt.int_str a t' b t
  |_=>exact absurd (show false=true from fx) Bool.false_ne_true
 |str a=>
  obtain⟨t',rfl⟩:=ry;cases x with
  |non=>cases rx;exact SeqAt.EqAt.str_none a t'
  |bl b=>cases rx;exact SeqAt.EqAt.str_bool a t' b
  |int b=>obtain⟨t,rfl⟩:=rx;exact SeqAt.EqAt.str_int a t' b t
  |str b=>obtain⟨t,rfl⟩:=rx;exact SeqAt.EqAt.str_str a t' b t
  |_=>exact absurd (show false=true from fx) Bool.false_ne_true
 |_=>exact absurd (show false=true from fy) Bool.false_ne_true
def eqU(x:V)(u:Value):Bool:=match u with
 |.none=>eqV .non x
 |.bool b=>eqV (.bl b) x
 |.int i _=>eqV (.int i) x
 |.str z _=>eqV (.str z) x
 |_=>false
theorem eqU_of(r:ac y u)(f:g_J y=true):eqU x u=eqV y x:=by
 cases y with
 |non=>cases r;rfl
 |bl b=>cases r;rfl
 |int i=>obtain⟨t,rfl⟩:=r;rfl
 |str z=>obtain⟨t,rfl⟩:=r;rfl
 |_=>exact absurd (show false=true from f) Bool.false_ne_true
theorem ef{x:V}:∀{xs:List V}{us:List Value},ad xs us->xs.all g_J=true->us.any (eqU x)=xs.any λy=>eqV y x
 |_,_,.nil,_=>rfl
 |y::xs,u::us,.cons r t,f=>by
  rw[List.all_cons,and_eq_true]at f;rw[List.any_cons,List.any_cons,eqU_of r f.1,ef t f.2]
theorem mem_eqAt{A:Around}{s:Shared}{x:V}{v:Value}(rx:ac x v)(fx:g_J x=true):∀{xs:List V}{us:List Value},ad xs us->xs.all g_J=true->∀u∈us,SeqAt.EqAt A s u v (eqU x u)
 |_,_,.nil,_=>λu hu=>by cases hu
 |y::xs,u::us,.cons r t,f=>λu' hu=>by
  rw[List.all_cons,and_eq_true]at f;rcases mem_cons.mp hu with rfl|hu
  .rw [eqU_of r f.1];exact eqAt_V r rx f.1 fx
  .exact mem_eqAt rx fx t f.2 u' hu
def inV(x:V)(xs:List V):Bool:=xs.any λy=>eqV y x
def rIn(K:Frag)(neg:Bool):R2:=λx y H Q=>∃p xs,y=.ref p/\(SqL K H p xs\/SqT K H p xs)/\g_J x=true/\xs.all g_J=true/\Q (.bl (if neg then !inV x xs else inV x xs)) H
theorem cc:OpR X (compareOp .In) (rIn X.K false):=by
 intro pins s σ H x y v u Q I rx ry h;obtain⟨p,xs,rfl,hq,fx,fs,q⟩:=h;cases ry;rcases hq with hq|hq
 .obtain ⟨its,r,pl,hz⟩:=I.list hq;refine SeqAt.in_listAt (eqU x) pl.isList (λw hw=>mem_eqAt rx fx r fs w (by simpa using hw)) (.bl _,H,I,rfl,?_);rw[show its.toArray.any (eqU x)=its.any (eqU x) by simp,ef r fs];exact q
 .obtain ⟨its,r,pl,hz⟩:=I.tuple hq;refine SeqAt.in_tupleAt (eqU x) pl (λw hw=>mem_eqAt rx fx r fs w (by simpa using hw)) (.bl _,H,I,rfl,?_);rw[show its.toArray.any (eqU x)=its.any (eqU x) by simp,ef r fs];exact q
theorem b_f:d_f X (.builtin "len") (λxs H Q=>∃p ys,xs=[.ref p]/\(SqL X.K H p ys\/SqT X.K H p ys)/\Q (.int ys.length) H):=by
 intro pins s σ H xs us Q I r h;obtain⟨p,ys,rfl,hq,q⟩:=h;obtain⟨u,rfl,rx⟩:=e_h r;cases rx;have hn:=bG;rcases hq with hq|hq
 .obtain ⟨its,r',pl,hz⟩:=I.list hq;have hlen:=r'.length;exact Calls.call_len_list pl.isList (by simp only[size_toArray]<;>omega) (.int ys.length,H,I.tok _,(s.toks+1,by rw[size_toArray,hlen]),q)
 .obtain ⟨its,r',pl,hz⟩:=I.tuple hq;have hlen:=r'.length;exact len_tuple pl (by simp only[size_toArray]<;>omega) (.int ys.length,H,I.tok _,(s.toks+1,by rw[size_toArray,hlen]),q)
theorem e_A:d_f X (.builtin "len") (λxs H Q=>∃z,xs=[.str z]/\z.length≤sizeLine/\Q (.int z.length) H):=by
 intro pins s σ H xs us Q I r h;obtain⟨z,rfl,hz,q⟩:=h;obtain⟨u,rfl,t,rfl⟩:=e_h r;have hn:=bG;exact len_str (by omega) (.int z.length,H,I.tok _,(_,rfl),q)
theorem e_z:d_f X (.type "list") (λxs H Q=>∃p ys,xs=[.ref p]/\(SqL X.K H p ys\/SqT X.K H p ys)/\∀l,H l=none->Q (.ref l) (upd H l (.lst ys))):=by
 intro pins s σ H xs us Q I r h;obtain⟨p,ys,rfl,hq,q⟩:=h;obtain⟨u,rfl,rx⟩:=e_h r;cases rx;have fin:∀(its:List Value),ad ys its->ys.length≤sizeLine->∀(h':Heap)(c':Nat),(∀b o',s.heap.get? b=some o'->h'.get? b=some o')->
   h'.get? s.heap.objs.size=some {cls:=.type "list",dict:=none,data:=.seq its.toArray c',slots:=#[]}->EP X pins σ Q (.ref s.heap.objs.size) {s with heap:=h'}:=λits r' hz h' c' kp e=>
  (.ref s.heap.objs.size,_,I.laid (t':=s.toks) kp (le_refl _) (show a_L X.prog X.w _ h' _ (.lst ys)from(hz,its,c',r',e)),rfl,q _ (I.hok.fresh (le_refl _)))
 rcases hq with hq|hq
 .obtain ⟨its,r',pl,hz⟩:=I.list hq;have hlen:=r'.length;obtain⟨o,ho,hc,n,hd⟩:=pl.isList;exact call_list_seq p (.inl rfl) ho hc hd (λh' c' kp e=>fin its r' hz h' c' kp e) (by simp only[size_toArray]<;>omega)
 .obtain ⟨its,r',pl,hz⟩:=I.tuple hq;have hlen:=r'.length;obtain⟨o,ho,hc,n,hd⟩:=pl;exact call_list_seq p (.inr rfl) ho hc hd (λh' c' kp e=>fin its r' hz h' c' kp e) (by simp only[size_toArray]<;>omega)
theorem a_x:d_f X (.type "tuple") (λxs H Q=>∃p ys,xs=[.ref p]/\((SqL X.K H p ys/\∀l,H l=none->Q (.ref l) (upd H l (.tup ys)))\/(SqT X.K H p ys/\Q (.ref p) H))):=by
 intro pins s σ H xs us Q I r h;obtain⟨p,ys,rfl,h⟩:=h;obtain⟨u,rfl,rx⟩:=e_h r;cases rx;rcases h with⟨hq,q⟩|⟨hq,q⟩
 .obtain ⟨its,r',pl,hz⟩:=I.list hq;have hlen:=r'.length;refine call_tuple_list pl.isList (λh' kp=>?_) (by simp only[size_toArray]<;>omega);have I1:Inv X pins σ H {s with heap:=h'}:=I.kept (t':=s.toks) kp;have I2:Inv X pins σ (upd H h'.objs.size (.tup ys)) {s with heap:=h'.push {cls:=.type "tuple",data:=.seq its.toArray} }:=
   I1.laid (t':=s.toks) (λb o e=>qa9 _ e) (le_refl _) (show a_L X.prog X.w _ _ _ (.tup ys)from(hz,its,r',IsTup.new _ _))
  exact(.ref h'.objs.size,_,I2,rfl,q _ (I1.hok.fresh (le_refl _)))
 .obtain ⟨its,r',pl,hz⟩:=I.tuple hq;exact call_tuple_same pl (.ref p,H,I,rfl,q)
def tyV(K:Frag)(T:String)(x:V)(H:Hp):Prop:=match x with
 |.str _=>T="str"
 |.int _=>T="int"
 |.ref p=>(T="list"/\∃xs,SqL K H p xs)\/(T="tuple"/\∃o,K.lookup p=some o/\o.cls=.type "tuple"/\o.dict=none) \/
   (T="dict"/\((∃kvs,H p=some (.dK kvs))\/∃kvs,H p=some (.dT kvs)))\/(T="set"/\∃S n,H p=some (.set S n))
 |_=>False
theorem pR{σ:St}(I:Inv X pins σ H s)(r:ac x v)(ty:tyV X.K T x H):s.TypeIs v T/\∀a,v=.ref a->∃ob,s.heap.get? a=some ob/\ob.dict=none:=by
 cases x with
 |str z=>
  obtain⟨t,rfl⟩:=r;cases(show T="str" from ty);exact(typeIs_str s z t,λ_ e=>nomatch e)
 |int i=>
  obtain⟨t,rfl⟩:=r;cases(show T="int" from ty);exact(typeIs_int s i t,λ_ e=>nomatch e)
 |ref p=>
  cases r;rcases ty with⟨rfl,xs,hq⟩|⟨rfl,o,hk,hc,hd⟩|⟨rfl,hk⟩|⟨rfl,S,n,hk⟩
  .obtain ⟨its,_,pl,_⟩:=I.list hq;refine(pl.isList.typeIs,λa e=>?_);cases e;obtain⟨o,n,e,c,hd,_⟩:=pl;exact(o,e,hd)
  .refine ((o,I.kIn p o hk,hc),λa e=>?_);cases e;exact(o,I.kIn _ o hk,hd)
  .have z:∃o,s.heap.get? p=some o/\o.ExactDict:=by
    rcases hk with⟨kvs,hk⟩|⟨kvs,hk⟩
    .obtain ⟨_,_,_,_,o,_,_,e,ex,_⟩:=I.hok p _ hk;exact(o,e,ex)
    .obtain ⟨_,_,_,_,o,_,_,e,ex,_⟩:=I.hok p _ hk;exact(o,e,ex)
   obtain⟨o,e,ex⟩:=z;refine((o,e,ex.1),λa e2=>?_);cases e2;exact(o,e,ex.2.1)
  .obtain ⟨o,_,_,_,e,ex,_⟩:=I.hok p _ hk;refine((o,e,ex.1),λa e2=>?_);cases e2;exact(o,e,ex.2.1)
 |_=>exact False.elim ty
def tBM(K:Frag)(T:String)(r:V->List V->Hp->VK->Prop)(to:TE)(t:TA):TE:=λσ H Q=>to σ H λx H1=>tyV K T x H1/\t σ H1 λxs H2=>r x xs H2 Q
variable{o e:Expr}{es:List Expr}{to:TE}{t:TA}{name:Str}{apos cpos:Pos}{T id:String}{r:V->List V->Hp->VK->Prop}
theorem i9(pa:PlainAttrs T)(slot:Slot T name id)(hty:typeOf (.builtin id)=pure (.type "method_descriptor"))(hm:MtR X id r)(ho:PE X o to)(ha:PA X (e::es) t)(hbase:attributeBase o name X.env (eval o X.env)=eval o X.env:=by rfl)(hfew:((backTo cpos (starEach (e::es) X.env)).all (λx=>!x.1)&&(backToKw cpos (keywordEach [] X.env)).all (λx=>x.1.isSome)
   && decide ((e::es).length+([]:List Keyword).length+(if ([]:List Keyword).isEmpty then 0 else 1)<30))=true:=by rfl)(hline:(apos.endLine==cpos.line)=true:=by rfl)(hs:starEach (e::es) X.env=(false,eval e X.env,)::starEach es X.env:=by rfl)(hplain:(backTo cpos (starEach es X.env)).any (·.1)=false:=by rfl):PE X (.Call (.Attribute o name apos) (e::es) [] cpos) (tBM X.K T r to t):=by
 intro pins s σ H Q I h;refine wpAny_Call_method_late hbase hfew hline rfl (thn (ho pins s σ H _ I h) λv s1 hZ0=>?_);obtain⟨x,H1,I1,r1,ty,q1⟩:=hZ0;obtain⟨h1,h2⟩:=pR I1 r1 ty;refine(T,id,pa,slot,hty,h1,h2,?_);have hA:=ha cpos pins s1 σ H1 _ I1 q1;rw[hs]at hA⊢;refine Calls.callWith_builtin (by show(false||(backTo cpos (starEach es X.env)).any (·.1))=false;rw[hplain]<;>rfl) (Calls.evalArgs_plain ?_);exact thn hA λus s2 hZ1=>by obtain⟨vs,H2,I2,r2,q2⟩:=hZ1;exact hm pins s2 σ H2 x vs v us Q I2 r1 r2 q2
end
def MtM(X:Cx)(id:String)(r:V->List V->Hp->VK->Prop):Prop:=
 ∀(pins:List (Addr×Obj))(s:Shared)(σ:St)(H:Hp)(x:V)(xs:List V)(v:Value)(us:List Value)(Q:VK),Inv X pins σ H s->ac x v->ad xs us->r x xs H Q->
  wpAny (model X.prog X.w) X.A (call (.builtin id) (v::us)) (EP X pins σ Q) X.xe s
theorem ad.one:∀{x:V}{us:List Value},ad [x] us->∃u,us=[u]/\ac x u
 |_,_,.cons r .nil=>(_,rfl,r)
section
variable{X:Cx}{pins:List (Addr×Obj)}{σ:St}{H:Hp}{s:Shared}{l b:Addr}{xs ys zs:List V}
theorem Inv.lset{its its':List Value}(I:Inv X pins σ H s)(hH:H l=some (.lst xs))(e:s.heap.get? l=some {cls:=.type "list",data:=.seq its.toArray n})(hf:f its.toArray=its'.toArray)(hv:ad ys its')(hz:ys.length≤sizeLine):Inv X pins σ (upd H l (.lst ys)) {s with heap:=s.heap.update l (mapSeq f),toks:=t'}:=by
 have q:=PySem.IsL.update e f;rw[hf]at q;refine I.write (x:=l) (e:=l) (by rw[hH];exact trivial) (.inl rfl) (λb' u hb hu=>(Heap.get?_update_other s.heap (mapSeq f) (Ne.symm hb)).trans hu) (_,q) ?_;exact(hz,its',_,hv,q)
theorem Inv.lnew(I:Inv X pins σ H s)(hv:ad ys its)(hz:ys.length≤sizeLine):Inv X pins σ (upd H s.heap.objs.size (.lst ys)) {s with heap:=s.heap.push {cls:=.type "list",data:=.seq its.toArray},toks:=t'}:=
 I.laid (λ_ _ q=>qa9 _ q) (le_refl _) (hz,its,0,hv,get?_push_size _ rfl)
theorem Inv.fresh(I:Inv X pins σ H s):H s.heap.objs.size=none:=I.hok.fresh (le_refl _)
theorem Inv.lstM(I:Inv X pins σ H s)(hH:H l=some (.lst xs)):xs.length≤sizeLine/\∃(its:List Value)(n:Nat),ad xs its/\xs.length=its.length/\s.heap.get? l=some {cls:=.type "list",data:=.seq its.toArray n}:=by
 obtain⟨z,its,n,r,e⟩:=I.hok l _ hH;exact(z,its,n,r,r.length,e)
end
section
variable{X:Cx}
def rAppend:V->List V->Hp->VK->Prop:=λx vs H Q=>∃l xs y,x=.ref l/\vs=[y]/\H l=some (.lst xs)/\xs.length<sizeLine/\Q .non (upd H l (.lst (xs++[y])))
theorem f_o:MtM X "list.append" rAppend:=by
 intro pins s σ H x vs v us Q I rx rv h;obtain⟨l,xs,y,rfl,rfl,hH,hz,q⟩:=h;cases rx;obtain⟨u,rfl,ru⟩:=rv.one;obtain⟨z,its,n,r,hl,e⟩:=I.lstM hH;refine call_meets F.slot_list_append (_,e,rfl) F.entry_list_append (F.args_list_append_2 _ _) (PySem.list_append l its.toArray n u (by rw[size_toArray];omega)) (e,?_);refine(.non,_,I.lset (its':=its++[u]) hH e (by simp) (r.append (.cons ru .nil)) ?_,rfl,q);rw[qa5,List.length_singleton];omega
def rCat:R2:=λx y H Q=>∃l b xs zs,x=.ref l/\y=.ref b/\H l=some (.lst xs)/\H b=some (.lst zs)/\xs.length+zs.length≤sizeLine/\∀p,H p=none->Q (.ref p) (upd H p (.lst (xs++zs)))
theorem mq:OpR X (binaryOp .Add) rCat:=by
 intro pins s σ H x y v u Q I rx ry h;obtain⟨l,b,xs,zs,rfl,rfl,hH,hB,hz,q⟩:=h;cases rx;cases ry;obtain⟨z,its,n,r,hl,e⟩:=I.lstM hH;obtain⟨z2,its2,n2,r2,hl2,e2⟩:=I.lstM hB;refine PySem.P.add_list e e2 ?_ (by rw[size_toArray,size_toArray];omega);have ea:its.toArray++its2.toArray=(its++its2).toArray:=by simp
 rw[ea];exact(.ref _,_,I.lnew (t':=s.toks) (r.append r2) (by rw[qa5];omega),rfl,q _ I.fresh)
end
section
variable{prog:Program}{w:World}{A:Around}{E:Value->Shared->Prop}{s:Shared}
end
section
variable{X:Cx}
end
end L2
namespace Att
open PySem PySem.W PySem.Calls PyProof.Rows
theorem f_u:∀(ns:List Int)(vs:List Value),WellAll P h vs (ns.map WData.int)->IntsAre vs ns:=by
 intro ns;induction ns with
 |nil=>
  intro vs w;rw[List.map_nil]at w;cases w;exact .nil
 |cons n ns ih=>
  intro vs w;rw[map_cons]at w;cases w with
  |cons a b=>
   cases a;exact .cons _ _ (ih _ b)
theorem jP{l:OpenLaw}(hn:l.most=some n)(hpre:l.row.toRowW.claim.pre args=true)(hwl:WellAll P h vals args):∃a vs ns,vals=[Value.ref a]/\args=[WData.list (ns.map WData.int)]/\h.get? a=some {cls:=.type "list",data:=.seq vs.toArray}/\IntsAre vs ns/\ns.length≤n:=by
 have hsh:WShape.hasAll [] args [.list .int]=true:=(pre_splitW hpre).1;have hc:l.pre.holds [] {args:=args}=true:=(pre_splitW hpre).2;obtain⟨d,r,rfl,h1,h2⟩:=hasAllW_cons hsh;obtain rfl:=hasAllW_nil h2;obtain⟨xs,rfl,h3⟩:=hasW_list h1;obtain⟨ns,rfl⟩:=items_int h3;have hlen:ns.length≤n:=by
  unfold OpenLaw.pre at hc;have h4:(WTm.not (.lt (.lit (.int (n:Int))) (.len (.arg 0)))).holds [] {args:=[.list (ns.map .int)]}=true:=by
   have h4:=(holds_andW hc).1;rw[hn]at h4;exact h4
  have h5:=condW_of h4 (w_not (w_lt w_lit (w_len_list (w_arg rfl))));rw[qa4]at h5;refine le_of_not_lt λq=>?_;have q':(n:Int)<((ns.length:Nat):Int):=by omega
  first
   |(rw[decide_eq_true q']at h5;exact absurd h5 (by decide))
   |(simp at h5;omega)
 cases hwl with
 |cons w1 w2=>
  cases w2;cases w1 with
  |list ho hall=>exact(_,_,ns,rfl,rfl,ho,f_u ns _ hall,hlen)
theorem jX(l:OpenLaw)(args:List WData):l.row.toRowW.claim.post args (.bool true) args=true:=
 postW_of (r:=l.row.toRowW) (X:=(true==true))
  (show WShape.has [] (.bool true) .bool=true by first|rfl|decide|simp[WShape.has,WShape.arms,WShape.armsAll])
  (show(WTm.eq .res (.lit (.bool true))).value [] {args:=args,res:=some (.bool true),after:=args}=some (.bool (true==true))from w_eq_bool (w_res rfl) w_lit) rfl
theorem attach_call{l:OpenLaw}(hn:l.most=some n)(hdf:d.params.defaults=[])(call:∀(w:World)(s₀ s₁:Shared)(mg mb:Str->Option Value)(fa:Addr)(o:Obj)(pm cd doc:Value)(a:Addr)(vs:List Value)(ns:List Int),
   Ground q loose [] XP w s₀ mg mb s₁.heap->YP w s₁.heap->
   s₁.heap.get? fa=some o->o.data=.func (docDef d.name d.params d.body d.scope pm cd doc)->s₁.heap.CodeRec cd d.name->mg d.name=some (.ref fa)->
   s₁.heap.get? a=some {cls:=.type "list",data:=.seq vs.toArray}->IntsAre vs ns->ns.length≤n->s₁.gens=#[]->
   codeAny (model l.prog w) callerA (.call (.ref fa) ([.ref a],[])) (λr s'=>r=.ok (.ret (.bool true))/\OldK s₁.heap s'.heap/\s'.os=s₁.os/\AllBare s'.gens) s₁):WalkO q loose XP YP l.row.toRowW d [] (λf vs=>PySem.call f vs):=by
 intro w s₀ s₁ mg mb G Y fa o pm cd doc dV kV ho hd hcd hD hmg hg args vals as hpre hlay hrd hwl hlo;obtain rfl:dV=.none:=Dflts.none hD hdf;obtain rfl:kV=.none:=Dflts.noKw hD;obtain⟨a,vs,ns,rfl,rfl,hobj,hints,hlen⟩:=jP hn hpre hwl;refine enter_call (codeAny_mono (call w s₀ s₁ mg mb fa o pm cd doc a vs ns G Y ho (fd_plain hd) hcd hmg hobj hints hlen hg) λr s' hq=>?_);obtain⟨rfl,h2,h3,h4⟩:=hq;exact(.inl (.bool true,.bool true,[],rfl,λ_=>rfl,.bool true,jX l _,λ_=>(List.Pairwise.nil,λ_ hm=>(nomatch hm))),h2,h3,h4)
section
variable{prog:Program}{w:World}{A:Around}{E:Value->Shared->Prop}{s:Shared}{K:Frag}
end
end Att
namespace L2
open PySem PySem.Spec PyProof.Rows
theorem c_E:∀{vs:List Value}{ns:List Int},IntsAre vs ns->ad (ns.map V.int) vs
 |_,_,.nil=>.nil
 |_,_,.cons n t h=>.cons (t,rfl) (c_E h)
def jn(s:Stmt)(j:Nat):Stmt:=match s with
 |.ClassDef _ _ _ body _ _ _ _ _ _ _=>body.getD j (.Pass (0,0,0,0))
 |_=>.Pass (0,0,0,0)
def a_g(s:Stmt):Arguments:=match s with
 |.FunctionDef _ a _ _ _ _ _ _ _ _=>a
 |_=>{posonlyargs:=[],args:=[],vararg:=none,kwonlyargs:=[],kw_defaults:=[],kwarg:=none,defaults:=[]}
def a_e(s:Stmt):List Stmt:=match s with
 |.FunctionDef _ _ b _ _ _ _ _ _ _=>b
 |_=>[]
def a_a(s:Stmt):Scope:=match s with
 |.FunctionDef _ _ _ _ _ _ sc _ _ _=>sc
 |_=>{kind:=.function,names:=[],isGenerator:=false,isCoroutine:=false}
abbrev CX0:CXT:=λ_ _ _ _ _ _=>False
abbrev E0:XK:=λ_ _ _=>False
theorem jb:e_f CX0 X E0:=λ_ _ _ _ _ _ _ h=>h.elim
structure Fun(K:Frag)(x qual:Str)(st:Stmt)(f:Addr)(fd:FuncData):Prop where
 ex:∃(oc:Value)(od:Option Addr)(kV doc pm:Value)(an:Option Addr)(cdv ct:Value)(osl:Array (Option Value)),
  fd=fnOf x qual (a_g st) (a_e st) (a_a st) .none kV doc pm an cdv ct/\K.lookup f=some (oc,od,.func fd,osl)/\codeIn K cdv qual=true
 kp:keepIn K (.ref f)=true
section
variable{P:Program}{w:World}{K:Frag}{mg:Str->Option Value}{base:Heap}
theorem Fun.ok{st:Stmt}(F:Fun K x qual st f fd)(S:a_m N ps (a_a st))(len:∀vs H Q E,sp vs H Q E->vs.length=ps.length)(hbody:∀(cdv:Value)(A:Around)(outer:List Env)(s:Shared)(H:Hp)(vs:List V)(Q:VK)(E:XK),af k (A.deeper (envOfC qual (a_a st) s.heap.objs.size f cdv))->sp vs H Q E->
   ∃t,PSs (aJ CX0 P w K mg base N qual (a_a st) f cdv A outer s H E).nox (a_e st) t/\t {nx:=λ_ H'=>Q .non H',rt:=Q} (start N vs) H):aa P w K mg base CX0 (k+1) f fd ps sp:=by
 obtain⟨oc,od,kV,doc,pm,an,cdv,ct,osl,rfl,lk,hcd⟩:=F.ex;refine fY lk hcd S len λA outer s H vs Q E hr hsp=>?_;obtain⟨t,h,q⟩:=hbody cdv A outer s H vs Q E hr hsp;exact(t,h.nox,q)
theorem Fun.binds{st:Stmt}(F:Fun K x qual st f fd)(h:∀(kV doc pm:Value)(an:Option Addr)(cdv ct:Value)(us:List Value),us.length=ps.length->bindArgs (fnOf x qual (a_g st) (a_e st) (a_a st) .none kV doc pm an cdv ct) (us,[])=pure (ps.zip us)):b_q K fd ps []:=by
 obtain⟨oc,od,kV,doc,pm,an,cdv,ct,osl,rfl,lk,hcd⟩:=F.ex;exact .all (h kV doc pm an cdv ct)
theorem c_o{st:Stmt}{kV doc pm cdv ct:Value}(l:K.lookup f=some (oc,od,.func (fnOf x qual (a_g st) (a_e st) (a_a st) .none kV doc pm an cdv ct),osl))(c:codeIn K cdv qual=true)(k:keepIn K (.ref f)=true):Fun K x qual st f (fnOf x qual (a_g st) (a_e st) (a_a st) .none kV doc pm an cdv ct):=((oc,od,kV,doc,pm,an,cdv,ct,osl,rfl,l,c),k)
end
theorem e_Y(h:n≤1000):n<sizeLine:=lt_of_le_of_lt h (by decide)
section
variable{X:Cx}
theorem pv(i:Nat){pos:Pos}(hN:X.N[i]?=some x:=by rfl)(hv:Vis X.env.scope x:=by first|exact Or.inl rfl|exact Or.inr (Or.inl rfl)|exact Or.inr (Or.inr rfl))(hd:(x==("__debug__":Str))=false:=by decide)(hcd:(x==("__classdict__":Str))=false:=by decide):PE X (.Name x pos) (gY i):=qd hN hv hd hcd
end
theorem ag{A B:Prop}(h:B):if false=true then A else B:=by
 rw[if_neg Bool.false_ne_true];exact h
theorem au{A B:Prop}(h:A):if true=true then A else B:=by
 rw[if_pos rfl];exact h
theorem f_t{c A B:Prop}[Decidable c](hc:c)(h:B):if (!decide c)=true then A else B:=by
 rw[decide_eq_true hc];exact ag h
def Same(H H':Hp):Prop:=∀b o,H b=some o->H' b=some o
theorem Same.refl(H:Hp):Same H H:=λ_ _ h=>h
theorem Same.trans(a:Same H H1)(b:Same H1 H2):Same H H2:=λc o h=>b c o (a c o h)
theorem Same.seq{K:Frag}(e:Same H H')(h:SqL K H a xs):SqL K H' a xs:=by
 rcases h with(h|⟨o,h⟩)|h
 .exact .inl (.inl (e _ _ h))
 .exact .inl (.inr (o,e _ _ h))
 .exact .inr h
end L2
set_option Elab.async false
set_option maxRecDepth 100000
set_option maxHeartbeats 4000000
namespace L2
open PySem PySem.Spec PyProof.Rows
def Its(x:Str):It:=(λi _=>i<x.length,λi H v H'=>H'=H/\∃c,x.cps[i]?=some c/\v=.str ⟨#[c]⟩,λi _=>x.length≤i)
theorem jI{K:Frag}(x:Str)(t:Tok)(it:Addr):bU P w K tg (Its x) [it] it (λi h=>h.IsStrIter it "str_ascii_iterator" x t i)  where
 mem:=by simp
 obj:=λi h st b hb=>by
  have e:b=it:=by simpa using hb
  subst e;obtain⟨o,e,c,d⟩:=st;exact(o,e,λv z=>by rw[d]at z;cases z)
 keep:=λi h h' st k=>by
  obtain⟨o,e,r⟩:=st;exact(o,k it (by simp) o e,r)
 item:=by
  intro X hP hw hK hc i pins s σ H E I hf st hg;subst hP hw hK;have hg:i<x.cps.size:=hg;obtain⟨f0,f1,f2,f3,f4,f5⟩:=hf it (by simp);refine wpAny_pyNext_ascii_item st (c:=x.cps[i]) (by simp[hg]) λh' st' sb=>?_;have I1:Inv X pins σ H {s with heap:=h',toks:=s.toks+1}:=I.turned (t':=s.toks+1) (λb o hb e=>(sb.2 b hb).trans e) f0 f1 f3 f4 f5;obtain⟨o,e,c,d⟩:=id st';exact(_,rfl,cD (s:={s with heap:=h',toks:=s.toks+1}) e c d (by decide) (.str ⟨#[x.cps[i]]⟩,H,I1,(_,rfl),(rfl,_,by simp[hg],rfl),st',λb hb=>(hf b hb).1))
 done:=by
  intro X hP hw hK hc i pins s σ H E I hf st hg;subst hP hw hK;have hg:x.cps.size≤i:=hg;obtain⟨f0,f1,f2,f3,f4,f5⟩:=hf it (by simp);exact wpAny_pyNext_ascii_end (I.ok.hd hc) st (by simp[hg]) λh' eb=>(rfl,I.turned (t':=s.toks) (λb o hb e=>eb b o hb e) f0 f1 f3 f4 f5)
 self:=λ_ _ _ _ _ st h=>wpAny_pyIter_striter_ascii st h
theorem jH{K:Frag}(x:Str)(t:Tok)(it:Addr):bU P w K tg (Its x) [it] it (λi h=>h.IsStrIter it "str_iterator" x t i)  where
 mem:=by simp
 obj:=λi h st b hb=>by
  have e:b=it:=by simpa using hb
  subst e;obtain⟨o,e,c,d⟩:=st;exact(o,e,λv z=>by rw[d]at z;cases z)
 keep:=λi h h' st k=>by
  obtain⟨o,e,r⟩:=st;exact(o,k it (by simp) o e,r)
 item:=by
  intro X hP hw hK hc i pins s σ H E I hf st hg;subst hP hw hK;have hg:i<x.cps.size:=hg;obtain⟨f0,f1,f2,f3,f4,f5⟩:=hf it (by simp);refine wpAny_pyNext_wide_item st (c:=x.cps[i]) (by simp[hg]) λh' st' sb=>?_;have I1:Inv X pins σ H {s with heap:=h',toks:=s.toks+1}:=I.turned (t':=s.toks+1) (λb o hb e=>(sb.2 b hb).trans e) f0 f1 f3 f4 f5;obtain⟨o,e,c,d⟩:=id st';exact(_,rfl,cD (s:={s with heap:=h',toks:=s.toks+1}) e c d (by decide) (.str ⟨#[x.cps[i]]⟩,H,I1,(_,rfl),(rfl,_,by simp[hg],rfl),st',λb hb=>(hf b hb).1))
 done:=by
  intro X hP hw hK hc i pins s σ H E I hf st hg;subst hP hw hK;have hg:x.cps.size≤i:=hg;obtain⟨f0,f1,f2,f3,f4,f5⟩:=hf it (by simp);exact wpAny_pyNext_wide_end (I.ok.hd hc) st (by simp[hg]) λh' eb=>(rfl,I.turned (t':=s.toks) (λb o hb e=>eb b o hb e) f0 f1 f3 f4 f5)
 self:=λ_ _ _ _ _ st h=>wpAny_pyIter_striter_wide st h
def tE(tl:TE):TI:=λσ H R=>tl σ H λv H1=>∃x,v=.str x/\R (Its x) H1
theorem qb(hl:PE X l tl):PI X tg l (tE tl):=by
 intro pins s σ H R I h;refine thn (hl pins s σ H _ I h) λv s1 hZ2=>?_;obtain⟨y,H1,I1,r1,q1⟩:=hZ2;obtain⟨x,rfl,q⟩:=q1;obtain⟨t,rfl⟩:=r1;cases ha:x.cps.all (· < 128)
 .refine wpAny_pyIter_wide ha ?_;refine(s1.heap.objs.size,[s1.heap.objs.size],_,_,H1,rfl,I1.kept (t':=s1.toks) λb o e=>qa9 _ e,jH x t _,(_,get?_push_size _ rfl,rfl,rfl),λb hb=>?_,q);have e:b=s1.heap.objs.size:=by simpa using hb
  subst e;exact I1.fpOk (le_refl _) (I1.hok.fresh (le_refl _))
 .refine wpAny_pyIter_ascii ha ?_;refine(s1.heap.objs.size,[s1.heap.objs.size],_,_,H1,rfl,I1.kept (t':=s1.toks) λb o e=>qa9 _ e,jI x t _,(_,get?_push_size _ rfl,rfl,rfl),λb hb=>?_,q);have e:b=s1.heap.objs.size:=by simpa using hb
  subst e;exact I1.fpOk (le_refl _) (I1.hok.fresh (le_refl _))
theorem oZ{g:TG}{tb:TS}{D:Ends}(Pv:Nat->St->Hp->Prop)(h0:Pv 0 σ H)(hs:∀i c σ H,x.cps[i]?=some c->Pv i σ H->g (.str ⟨#[c]⟩) σ H λσ2 H2=>tb {D with nx:=Pv (i+1),ct:=Pv (i+1),bk:=D.nx} σ2 H2)(hd:∀σ H,Pv x.length σ H->D.nx σ H):∃W:Nat->Nat->St->Hp->Prop,(∃m,W 0 m σ H)/\∀i m σ H,W i m σ H->
   ((Its x).stop i H/\D.nx σ H)\/((Its x).go i H/\∃N:St->Hp->Prop,(∀σ' H',N σ' H'->∃m',m'<m/\W (i+1) m' σ' H')/\∀y H',(Its x).yld i H y H'->g y σ H' λσ2 H2=>tb {D with nx:=N,ct:=N,bk:=D.nx} σ2 H2):=by
 refine(λi m σ H=>m=x.length-i/\i≤x.length/\Pv i σ H,(x.length,by simp,zero_le _,h0),?_);rintro i m σ H⟨rfl,hi,p⟩;by_cases hlt:i<x.length
 .refine .inr (hlt,Pv (i+1),λσ' H' p'=>(x.length-(i+1),by omega,rfl,hlt,p'),λy H' q=>?_);obtain⟨e,c,hc,e2⟩:=q;subst e e2;exact hs i c σ _ hc p
 .have e:i=x.length:=by omega
  subst e;exact .inl (le_refl _,hd σ H p)
section
variable{X:Cx}
def rSlS:V->Option Int->Option Int->Hp->VK->Prop:=λx lo hi H Q=>∃z,x=.str z/\z.length≤sizeLine/\Q (.str (Txt.slice z lo hi)) H
theorem lr:SlR X rSlS:=by
 intro pins s σ H x v vl vu lo hi sl Q I rx hs pl pu h;obtain⟨z,rfl,hz,q⟩:=h;obtain⟨t,rfl⟩:=rx;refine("str",_,PySem.F.slot_str_getitem.lookup,typeIs_str _ _ _,?_);have fin:∀t' k,EP X pins σ Q (.str (Txt.slice z lo hi) t') {s with toks:=k}:=λt' k=>(.str _,H,I.tok k,(t',rfl),q);obtain⟨o,ho,hc,hd⟩:=hs;cases pl with
 |none=>
  cases pu with
  |none=>exact wpAny_getItem_str_slice (l:=none) (u:=none) (st:=none) (o,ho,hc,hd) rfl (post_val_or_str (le_trans (Txt.slice_le z _ _) hz,λt' k=>fin t' k))
  |int j uj=>exact wpAny_getItem_str_slice (l:=none) (u:=some (j,uj,)) (st:=none) (o,ho,hc,hd) rfl (post_val_or_str (le_trans (Txt.slice_le z _ _) hz,λt' k=>fin t' k))
 |int i ui=>
  cases pu with
  |none=>exact wpAny_getItem_str_slice (l:=some (i,ui,)) (u:=none) (st:=none) (o,ho,hc,hd) rfl (post_val_or_str (le_trans (Txt.slice_le z _ _) hz,λt' k=>fin t' k))
  |int j uj=>exact wpAny_getItem_str_slice (l:=some (i,ui,)) (u:=some (j,uj,)) (st:=none) (o,ho,hc,hd) rfl (post_val_or_str (le_trans (Txt.slice_le z _ _) hz,λt' k=>fin t' k))
theorem gy:d_f X (.builtin "isinstance") (λxs H Q=>∃x t,xs=[x,.ty T]/\ae X.K H x t/\kitOne X.K t (.type T)=some b/\Q (.bl b) H):=by
 intro pins s σ H xs us Q I r h;obtain⟨x,t,rfl,ty,e,q⟩:=h;obtain⟨u,w',rfl,rx,ry⟩:=bp r;cases ry;exact kC I rx ty e λtk=>(.bl b,H,I.tok tk,rfl,q)
end
def cxComp(X:Cx)(x:Str)(sc:Scope)(cl:List (Str×Addr))(C:Addr)(fp:List Addr)(s:Shared)(H:Hp):Cx where
 prog:=X.prog
 w:=X.w
 K:=X.K
 mg:=X.mg
 base:=X.base
 A:=X.A
 N:=x::X.N
 s₀:=s
 H₀:=H
 env:=compEnvC sc cl C X.env
 outer:=X.stack
 stack:=X.stack
 ex:=fp
 fn:=λ_=>false
 calm:=X.calm
 pn:=[]
 xe:=λ_ _=>False
def PTs(X:Cx)(ifs:List Expr)(t:TT):Prop:=
 ∀(pins:List (Addr×Obj))(s:Shared)(σ:St)(H:Hp)(Q:Bool->Hp->Prop),Inv X pins σ H s->t σ H Q->
  wpAny (model X.prog X.w) X.A (forIn ifs true λc r=>if r=true then do let ok <-isTrue c X.env (eval c X.env);pure (ForInStep.yield ok)else pure (ForInStep.yield r)) (TP X pins σ Q) X.xe s
def tAlways:TT:=λ_ H Q=>Q true H
theorem tAlways_if{A B:Hp->Prop}(h:A H):tAlways σ H (λb H4=>if b=true then A H4 else B H4):=au (A:=A H) (B:=B H) h
theorem a_M:PTs X [] tAlways:=λ_ _ _ H _ I h=>wpAny_tests_nil (H,I,h)
theorem iY(h:PT X c t):PTs X [c] t:=λpins s σ H Q I hw=>wpAny_tests_one (h pins s σ H Q I hw)
def bZ(wi:TI)(tt:TT)(te:TE):TE:=λσ H Q=>wi σ H λJ H1=>∀D,H1 D=none->∃W:Nat->Nat->List V->Hp->Prop,
 (∃m,W 0 m [] (upd H1 D (.lst [])))/\∀i m ys H2,W i m ys H2->H2 D=some (.lst ys)/\((J.stop i H2/\Q (.ref D) H2)\/(J.go i H2/\ys.length<sizeLine/\∀x H3,J.yld i H2 x H3->
  tt (some x::σ) H3 λb H4=>if b=true then te (some x::σ) H4 λy H5=>H5 D=some (.lst ys)/\∃m',m'<m/\W (i+1) m' (ys++[y]) (upd H5 D (.lst (ys++[y])))
   else ∃m',m'<m/\W (i+1) m' ys H4))
theorem neA{a b:Nat}(h:a≠b):(show Addr from a)≠(show Addr from b):=h
theorem d_a(hf:∀y∈sc.names,y.2=.free->∃c,env.cells.lookup y.1=some c):∃cl,closureFor sc env=pure cl/\(∀y c,cl.lookup y=some c->env.cells.lookup y=some c)/\∀y∈sc.names,y.2=.free->∃c,cl.lookup y.1=some c:=by
 have go:∀(l:List (Str×NameKind))(acc:List (Str×Addr)),(∀y∈l,y.2=.free->∃c,env.cells.lookup y.1=some c)->(∀y c,acc.lookup y=some c->env.cells.lookup y=some c)->
   ∃cl,(forIn l acc λ(p:Str×NameKind)r=>if (p.2==.free)=true then do let a <-cellOf env p.1;pure (ForInStep.yield ((p.1,a,)::r))else pure (ForInStep.yield r):Sem (List (Str×Addr)))=pure cl/\
    (∀y c,cl.lookup y=some c->env.cells.lookup y=some c)/\(∀y c,acc.lookup y=some c->∃c',cl.lookup y=some c')/\∀y∈l,y.2=.free->∃c,cl.lookup y.1=some c:=by
  intro l;induction l with
  |nil=>intro acc _ ha;exact(acc,rfl,ha,λy c e=>(c,e),λy hy=>by simp at hy)
  |cons p r ih=>
   intro acc hl ha;obtain⟨n,k⟩:=p;by_cases hk:k=.free
   .subst hk;obtain⟨c,hc⟩:=hl (n,.free,) mem_cons_self rfl;have e1:cellOf env n=pure c:=by unfold cellOf;rw[hc]
    have ha':∀y c',((n,c,)::acc).lookup y=some c'->env.cells.lookup y=some c':=λy c' e=>by
     by_cases hy:(y==n)=true
     .rw [lookup_cons,hy]at e;cases e;rw[eq_of_beq hy];exact hc
     .rw [lookup_cons,Bool.eq_false_iff.mpr hy]at e;exact ha y c' e
    obtain⟨cl,h1,h2,h3,h4⟩:=ih ((n,c,)::acc) (λy hy=>hl y (mem_cons_of_mem _ hy)) ha';have kept:∀y c',acc.lookup y=some c'->∃c'',((n,c,)::acc).lookup y=some c'':=λy c' e=>by
     by_cases hy:(y==n)=true
     .exact (c,by rw[lookup_cons,hy])
     .exact (c',by rw[lookup_cons,Bool.eq_false_iff.mpr hy];exact e)
    refine(cl,?_,h2,λy c' e=>?_,λy hy hyf=>?_)
    .rw [forIn_cons];simp only[beq_self_eq_true,if_true,e1,pure_bind];exact h1
    .obtain ⟨c'',e'⟩:=kept y c' e;exact h3 y c'' e'
    .rcases mem_cons.mp hy with rfl|hy
     .exact h3 n c (by rw[lookup_cons,beq_self_eq_true])
     .exact h4 y hy hyf
   .have hb:(k==NameKind.free)=false:=by simpa using hk
    obtain⟨cl,h1,h2,h3,h4⟩:=ih acc (λy hy=>hl y (mem_cons_of_mem _ hy)) ha;refine(cl,?_,h2,h3,λy hy hyf=>?_)
    .rw [forIn_cons];simp only[hb,Bool.false_eq_true,if_false,pure_bind];exact h1
    .rcases mem_cons.mp hy with rfl|hy
     .exact absurd hyf hk
     .exact h4 y hy hyf
 obtain⟨cl,h1,h2,_,h4⟩:=go sc.names [] hf (λy c e=>by simp at e);refine(cl,?_,h2,h4);show((forIn sc.names [] λ(p:Str×NameKind)r=>if (p.2==.free)=true then do let a <-cellOf env p.1;pure (ForInStep.yield ((p.1,a,)::r))else pure (ForInStep.yield r):Sem (List (Str×Addr)))>>=λs=>pure s)=pure cl;rw[bind_pure,h1]
theorem relabel_lookup(h:(relabel sc env).names.lookup y=some k):sc.names.lookup y=some k\/(k=.cell/\sc.names.lookup y=some .free/\env.kindOf y=some .cell):=by
 have go:∀(l:List (Str×NameKind)),(l.map λ(n,k)=>if (k==.free&&env.scope.kind==.function&&env.kindOf n==some .cell)then(n,NameKind.cell,)else(n,k,)).lookup y=some k->
   l.lookup y=some k\/(k=.cell/\l.lookup y=some .free/\env.kindOf y=some .cell):=by
  intro l;induction l with
  |nil=>intro h;simp at h
  |cons p r ih=>
   obtain⟨n,kk⟩:=p;intro h;simp only[map_cons]at h;by_cases hc:(kk==NameKind.free&&env.scope.kind==.function&&env.kindOf n==some .cell)=true
   .rw [if_pos hc]at h;rw[lookup_cons]at h⊢;cases hy:y==n with
    |true=>
     rw[hy]at h;have e:k=.cell:=(Option.some.inj h).symm;have e1:kk=.free:=by
      have:=(and_eq_true_iff.mp (and_eq_true_iff.mp hc).1).1;simpa using this
     have e2:env.kindOf n=some .cell:=by
      have:=(and_eq_true_iff.mp hc).2;simpa using this
     rw[eq_of_beq hy];exact .inr (e,by rw[e1],e2)
    |false=>
     rw[hy]at h;exact ih h
   .rw [if_neg hc]at h;rw[lookup_cons]at h⊢;cases hy:y==n with
    |true=>rw[hy]at h;exact .inl h
    |false=>rw[hy]at h;exact ih h
 exact go sc.names h
section
variable{X:Cx}{elt iter:Expr}{x:Str}{px pos:Pos}{ifs:List Expr}{sc:Scope}{wi:TI}{tt:TT}{te:TE}
end
def Df(P:Program)(w:World)(K:Frag)(mg:Str->Option Value)(base:Heap)(x:Str)(k:Nat)(ps:List Str)(sp:Sp):Prop:=
 ∃(f:Addr)(fd:FuncData),mg x=some (.ref f)/\keepIn K (.ref f)=true/\b_q K fd ps []/\aa P w K mg base CX0 k f fd ps sp
theorem a_H{p pos:Pos}(D:Df X.prog X.w X.K X.mg X.base x k ps sp)(hr:af k X.A)(ha:PA X (e::es) t)(hg:Gl X x:=by rfl)(hdb:(x==("__debug__":Str))=false:=by decide)(he:starEach (e::es) X.env=(false,eval e X.env,)::starEach es X.env:=by rfl)(hpl:(backTo pos (starEach es X.env)).any (·.1)=false:=by rfl):PE X (.Call (.Name x p) (e::es) [] pos) (d_b sp [] E0 t):=by
 obtain⟨f,fd,h1,h2,h3,F⟩:=D;exact i8 F hr hg h1 h2 h3 .nil jb ha hdb he hpl
theorem tq{c A B:Prop}[Decidable c](hc:c)(h:A):if decide c=true then A else B:=by
 rw[decide_eq_true hc];exact au h
theorem tj{c A B:Prop}[Decidable c](hc:¬ c)(h:B):if decide c=true then A else B:=by
 rw[decide_eq_false hc];exact ag h
theorem aE{c A B:Prop}[Decidable c](h1:c->A)(h2:¬ c->B):if decide c=true then A else B:=by
 by_cases h:c
 .exact tq h (h1 h)
 .exact tj h (h2 h)
theorem Same.upd(n:H D=none):Same H (upd H D o):=λb u e=>by rw[upd_ne (ne_of_none e n)];exact e
theorem a_j(h:n≤16777216):n≤sizeLine:=by rw[sizeLine_eq];exact h
theorem nI{xs:List α}{i:Int}(h0:0≤i)(h1:i<xs.length):∃v,atI xs i=some v/\xs[i.toNat]?=some v:=by
 obtain⟨j,rfl⟩:=Int.eq_ofNat_of_zero_le h0;have hj:j<xs.length:=by omega
 exact(xs[j],a_G (by simp[hj]),by simp[hj])
def sP(t u:TS):TS:=λD σ H=>∃M:St->Hp->Prop,t {D with nx:=M} σ H/\∀σ' H',M σ' H'->u D σ' H'
theorem dw{st:Stmt}(h1:PS X st t)(h2:PSs X rest u):PSs X (st::rest) (sP t u):=by
 intro pins s σ H D I h;obtain⟨M,h,hM⟩:=h;refine wpAny_execs_cons (thn (h1 pins s σ H {D with nx:=M} I h) λf s1 q=>?_);cases f with
 |next=>
  obtain⟨σ',H',I',q⟩:=q;exact h2 pins s1 σ' H' D I' (hM σ' H' q)
 |ret v=>exact q
 |brk=>exact q
 |cont=>exact q
section
variable{X:Cx}
theorem op_m:OpR X (binaryOp .Mod) (λx y H Q=>∃i j,x=.int i/\y=.int j/\0<j/\Q (.int (i%j)) H):=bC
theorem op_a:OpR X (binaryOp .Add) (λx y H Q=>∃i j,x=.int i/\y=.int j/\Q (.int (i+j)) H):=ie
theorem rQ:OpR X (binaryOp .Mult) (λx y H Q=>∃i j,x=.int i/\y=.int j/\((-(2^64)<i/\i<2^64)\/(-(2^64)<j/\j<2^64))/\Q (.int (i*j)) H):=op_mul
end
end L2
namespace RA
open PySem PySem.StrLaws Builtin Builtin.Str
def tx(l:LN):Str:=⟨l.toArray⟩
theorem e_t(l:LN):(tx l).cps.toList=l:=by simp[tx]
theorem b_b(l:LN):(tx l).length=l.length:=by simp[tx,length]
theorem db(a b:LN):tx a++tx b=tx (a++b):=by
 apply Str.ext';show a.toArray++b.toArray=(a++b).toArray;simp
theorem pS(h:tx a=tx b):a=b:=by
 have:=congrArg (λs:Str=>s.cps.toList) h;simpa[tx]using this
theorem fK:∀{l:LN}{c i:Nat},l[i]?=some c->l.idxOf c≤i
 |[],_,_,h=>by simp at h
 |a::l,c,0,h=>by
  have e:a=c:=by simpa using h
  subst e;simp
 |a::l,c,i+1,h=>by
  rw[idxOf_cons];cases e:a==c with
  |true=>simp
  |false=>
   have:=fK (l:=l) (c:=c) (i:=i) (by simpa using h);simp;omega
theorem lq(x:Str)(h:0≤j):Txt.slice x none (some j)=tx (x.cps.toList.take j.toNat):=by
 have go:∀j:Int,0≤j->j≤x.cps.toList.length->Txt.slice x none (some j)=tx (x.cps.toList.take j.toNat):=λj h0 h1=>by
  have e:Txt.slice x none (some j)=sliceText x none (some j):=rfl;rw[e,sliceText_to (h0,h1)];simp[tx]
 by_cases hj:j≤x.cps.toList.length
 .exact go j h hj
 .have e:Txt.slice x none (some j)=Txt.slice x none (some (x.length:Int)):=by
   have hl:x.length=x.cps.toList.length:=by simp[length]
   have e1:strSliceIndices none (some j) 1 x.length=strSliceIndices none (some (x.length:Int)) 1 x.length:=by
    have a:¬ (j<0):=by omega
    have b:¬ ((x.length:Int)<0):=by omega
    have m:min j (x.length:Int)=(x.length:Int):=by omega
    simp[strSliceIndices,a,b,m]
   unfold Txt.slice;rw[e1]
  rw[e,go _ (by omega) (by simp[length])];have hl:x.length=x.cps.toList.length:=by simp[length]
  rw[take_of_length_le (i:=j.toNat) (by omega),take_of_length_le (by omega)]
theorem g9(x:Str){i:Int}(h:0≤i)(h1:i≤x.cps.toList.length):Txt.slice x (some i) none=tx (x.cps.toList.drop i.toNat):=by
 have e:Txt.slice x (some i) none=sliceText x (some i) none:=rfl;rw[e,sliceText_from (h,h1)];have e2:((x.cps.toList.length:Int)-i).toNat=(x.cps.toList.drop i.toNat).length:=by rw[List.length_drop];omega
 rw[e2,take_length];rfl
structure Let(L:LN):Prop where
 lo:1≤L.length
 hi:L.length≤3
 nd:L.Nodup
 az:∀c∈L,97≤c/\c≤122
theorem f_v{L:LN}(nd:L.Nodup)(h:i<L.length):L.idxOf L[i]=i:=by
 have h1:=fK (l:=L) (c:=L[i]) (i:=i) (by simp[h]);have hlt:L.idxOf L[i]<L.length:=by omega
 have e:=getElem_idxOf hlt;by_cases hh:L.idxOf L[i]<i
 .exact absurd e (List.pairwise_iff_getElem.mp nd _ _ hlt h hh)
 .omega
theorem nn{f l:LN}(hi:i<l.length)(nd:(f++l).Nodup):((f++[l[i]])++(l.take i++l.drop (i+1))).Nodup/\∀c,c∈(f++[l[i]])++(l.take i++l.drop (i+1))->c∈f++l:=by
 have e:l=l.take i++l[i]::l.drop (i+1):=by
  conv=>lhs;rw[<-List.take_append_drop i l,List.drop_eq_getElem_cons hi]
 have p:(f++l).Perm ((f++[l[i]])++(l.take i++l.drop (i+1))):=by
  conv=>lhs;rw[e]
  rw[append_assoc];refine Perm.append_left f ?_;show(l.take i++l[i]::l.drop (i+1)).Perm (l[i]::(l.take i++l.drop (i+1)));exact List.perm_middle
 exact(p.nodup_iff.mp nd,λc hc=>p.mem_iff.mpr hc)
end RA
namespace RA
open PySem L2
theorem qL:(Str.ofString "abcdefghijklmnopqrstuvwxyz")=tx (List.range' 97 26):=by decide +kernel
theorem g_L:(Str.ofString "")=tx []:=by decide +kernel
end RA
namespace RA
open PySem L2 Builtin Builtin.Str
end RA
namespace L2
open PySem PySem.Spec PyProof.Rows
section
variable{X:Cx}
theorem g_w:OpR X (binaryOp .Mod) (λx y H Q=>∃i j,x=.int i/\y=.int j/\0<j/\∀r,0≤r->r<j->Q (.int r) H):=by
 intro pins s σ H x y v u Q I rx ry h;obtain⟨i,j,e1,e2,hj,q⟩:=h;exact bC pins s σ H x y v u Q I rx ry (i,j,e1,e2,hj,q _ (Int.emod_nonneg _ (by omega)) (Int.emod_lt_of_pos _ hj))
theorem mo:OpR X (binaryOp .FloorDiv) (λx y H Q=>∃i j,x=.int i/\y=.int j/\sD i j/\0≤i/\∀r,0≤r->Q (.int r) H):=by
 intro pins s σ H x y v u Q I rx ry h;obtain⟨i,j,e1,e2,hj,hi,q⟩:=h;exact dD pins s σ H x y v u Q I rx ry (i,j,e1,e2,hj,q _ (Int.ediv_nonneg hi (by have:=hj.1;omega)))
end
theorem a_i(h:H a=some o)(n:H b=none):upd H b u a=some o:=by
 rw[upd_ne (ne_of_none h n)];exact h
theorem upd_keep2(h:H a=some o)(n:H b=some v)(d:o≠v):upd H b u a=some o:=by
 rw[upd_ne (ne_of h n d)];exact h
theorem ix(K:Frag):kitOne K (.type "int") (.type "bool")=some false:=by kernel_rfl
theorem iw(K:Frag):kitOne K (.type "int") (.type "int")=some true:=by with_unfolding_all rfl
theorem kit_bb(K:Frag):kitOne K (.type "bool") (.type "bool")=some true:=by with_unfolding_all rfl
theorem kit_ss(K:Frag):kitOne K (.type "str") (.type "str")=some true:=by with_unfolding_all rfl
end L2
namespace RA
open PySem L2
structure Mach(L:LN)(W:LL)(B:List Bool):Prop where
 lt:Let L
 n1:1≤W.length
 n60:W.length≤2100
 bl:B.length=W.length
 row:∀ws∈W,ws.length=L.length/\∀x∈ws,x<W.length
def nxt(L:LN)(W:LL)(r c:Nat):Nat:=(W.getD r []).getD (L.idxOf c) 0
def run(L:LN)(W:LL)(r:Nat)(w:LN):Nat:=w.foldl (nxt L W) r
theorem Mach.at(h:Mach L W B)(hr:r<W.length)(hc:c∈L):∃ws x,W[r]?=some ws/\ws[L.idxOf c]?=some x/\nxt L W r c=x/\x<W.length:=by
 have hw:W[r]?=some W[r]:=by simp[hr]
 obtain⟨h1,h2⟩:=h.row W[r] (getElem_mem hr);have hi:L.idxOf c<W[r].length:=by rw[h1];exact idxOf_lt_length_of_mem hc
 have hx:W[r][L.idxOf c]?=some W[r][L.idxOf c]:=by simp[hi]
 refine(W[r],W[r][L.idxOf c],hw,hx,?_,h2 _ (getElem_mem hi));unfold nxt;have e1:W.getD r []=W[r]:=by
  rw[qa3,hw];rfl
 rw[e1,qa3,hx];rfl
theorem b_i(L:LN)(W:LL)(r:Nat)(w:LN)(c:Nat):run L W r (w++[c])=nxt L W (run L W r w) c:=by
 unfold run;rw[List.foldl_append];rfl
theorem b_A{L:LN}{W:LL}{B:List Bool}(h:Mach L W B):∀{w:LN}{r:Nat},r<W.length->(∀c∈w,c∈L)->run L W r w<W.length
 |[],_,hr,_=>hr
 |c::w,r,hr,hw=>by
  obtain⟨ws,x,_,_,e,hx⟩:=h.at hr (hw c (by simp));exact b_A h (w:=w) (r:=nxt L W r c) (by rw[e];exact hx) λd hd=>hw d (by simp[hd])
def intsV(ws:LN):List V:=ws.map λ(n:Nat)=>V.int (n:Int)
def e_C(H:Hp)(rows:List Addr)(W:LL):Prop:=∀(i:Nat)(r:Addr),rows[i]?=some r->∃ws,W[i]?=some ws/\H r=some (.tup (intsV ws))
def a_n(H:Hp)(m:Addr)(L:LN)(W:LL)(B:List Bool):Prop:=
 ∃(wy mk:Addr)(rows:List Addr),H m=some (.tup [.str (tx L),.ref wy,.ref mk])/\H wy=some (.tup (rows.map V.ref))/\H mk=some (.tup (B.map V.bl))/\rows.length=W.length/\e_C H rows W
theorem e_C.same(h:e_C H rows W)(s:Same H H'):e_C H' rows W:=λi r e=>by
 obtain⟨ws,h1,h2⟩:=h i r e;exact(ws,h1,s _ _ h2)
theorem a_n.same(h:a_n H m L W B)(s:Same H H'):a_n H' m L W B:=by
 obtain⟨wy,mk,rows,h1,h2,h3,h4,h5⟩:=h;exact(wy,mk,rows,s _ _ h1,s _ _ h2,s _ _ h3,h4,h5.same s)
theorem b_a{α β:Type}{xs:List α}(f:α->β){x:α}(h:xs[i]?=some x):atI (xs.map f) ((i:Nat):Int)=some (f x):=a_G (by rw[qa6,h];rfl)
end RA
namespace RA
end RA
namespace L2
open PySem
namespace RV
section
variable{prog:Program}{w:World}{A:Around}{E:Value->Shared->Prop}{s:Shared}
end
end RV
end L2
namespace L2
open PySem PySem.Spec PyProof.Rows
section
variable{X:Cx}
end
end L2
namespace L2
open PySem
namespace ZP
def aR(S:List Addr)(h h':Heap):Prop:=h'.objs.size=h.objs.size/\∀c o,c∉S->h.get? c=some o->h'.get? c=some o
theorem aR.one(x:SameBut a h h')(m:a∈S):aR S h h':=(x.1,λc o hc e=>(x.2 c λq=>hc (q▸m)).trans e)
theorem aR.trans(x:aR S h h1)(y:aR S h1 h2):aR S h h2:=(y.1.trans x.1,λc o hc e=>y.2 c o hc (x.2 c o hc e))
section
variable{prog:Program}{w:World}{A:Around}{E:Value->Shared->Prop}{s:Shared}{z TI TO i1 i2:Addr}{f1 f2:List Addr}{n1 n2 k:Nat}{P1 P2:Nat->Value->Prop}{S1 S2:Nat->Heap->Prop}{a b:Value}
theorem toldL{Q:Value->Shared->Prop}(D1:Draws prog w A i1 f1 n1 P1 S1)(D2:Draws prog w A i2 f2 n2 P2 S2)(m1:∀c∈f1,c=i1\/c∉[z,TO,i1,i2])(m2:∀c∈f2,c=i2\/c∉[z,TO,i1,i2])(ap:ZipApart z TI TO i1 i2 TI TI)(hz:IsZip s.heap z TI TO .none)(hTI:IsPair s.heap TI (.ref i1) (.ref i2))(hTO:IsPair s.heap TO a b)(h1:S1 k s.heap)(h2:S2 k s.heap)(l1:k<n1)(l2:k<n2)(hQ:∀x y h' tk,P1 k x->P2 k y->IsZip h' z TI TO (rawInt s.heap.objs.size)->IsPair h' TI (.ref i1) (.ref i2)->IsPair h' TO x y->S1 (k+1) h'->S2 (k+1) h'->IsPair h' s.heap.objs.size x y->
   (∀c o,c∉[z,TO,i1,i2]->s.heap.get? c=some o->h'.get? c=some o)->Q (.ref s.heap.objs.size) {s with heap:=h',toks:=tk}):wpAny (model prog w) A (Builtin.«zip.__next__» ([.ref z],[])) (λfin s'=>∃v,fin=.done (.ret v)/\Q v s') E s:=by
 unfold Builtin.«zip.__next__»;refine qa7 (wpAny_of_eq (a:=(Value.ref z,[],)) rfl (qa7 (wpAny_field hz rfl (x:=.bool false) rfl (qa7 (wpAny_field hz rfl (x:=.ref TI) rfl (qa7 (wpAny_seqItems hTI rfl ?_)))))));refine wpAny_ite_false (by simp) (qa7 ?_);unfold Builtin.SmallTypes.ownedTupleIsFree;refine qa7 (wpAny_field hz rfl (x:=.none) rfl (qa8 (wpAny_ite_true (by decide) (qa7 (wpAny_rule (qa7 (wpAny_field hz rfl (x:=.ref TO) rfl (qa7 (wpAny_setField_rec hz (by simp) λg1 z1 c1=>?_)))))))));have k1:aR [z,TO,i1,i2] s.heap g1:=.one c1 (by simp);have S1f:∀{j:Nat}{g g':Heap},(∀c o,c∉[z,TO,i1,i2]->g.get? c=some o->g'.get? c=some o)->S1 j g->(∀o,g.get? i1=some o->g'.get? i1=some o)->S1 j g':=λk st e=>D1.frame _ _ _ st λc hc=>by
  rcases m1 c hc with rfl|hn
  .exact e
  .exact λo q=>k c o hn q
 have S2f:∀{j:Nat}{g g':Heap},(∀c o,c∉[z,TO,i1,i2]->g.get? c=some o->g'.get? c=some o)->S2 j g->(∀o,g.get? i2=some o->g'.get? i2=some o)->S2 j g':=λk st e=>D2.frame _ _ _ st λc hc=>by
  rcases m2 c hc with rfl|hn
  .exact e
  .exact λo q=>k c o hn q
 simp only[List.zipIdx_cons,List.zipIdx_nil,forIn_cons,forIn_nil];refine qa7 (qa7 (qa7 (wpAny_onRaise (qa7 (m:=Builtin.SmallTypes.nextOf (.ref i1)) (D1.item k _ _ _ l1 (S1f k1.2 h1 λo e=>(c1.2 i1 ap.i1z).trans e) λx g2 t2 p1 d1 c2=>qa8 ?_)))));have o2:IsPair g2 TO a b:=(c2.2 TO ap.TOi1).trans ((c1.2 TO ap.TOz).trans hTO);refine qa7 (wpAny_seqItems o2 rfl (qa7 (wpAny_updateSeq_pair o2 λg3 o3 c3=>qa7 (wpAny_letGo (qa8 (qa7 (qa7 (wpAny_onRaise (qa7 (m:=Builtin.SmallTypes.nextOf (.ref i2)) (D2.item k _ _ _ l2 (S2f ((k1.trans (.one c2 (by simp))).trans (.one c3 (by simp))).2 h2 λo e=>?_) λy g4 t4 p2 d2 c4=>qa8 ?_))))))))))
 .exact (c3.2 i2 ap.TOi2.symm).trans ((c2.2 i2 ap.i12.symm).trans ((c1.2 i2 ap.i2z).trans e))
 have o4:IsPair g4 TO x b:=(c4.2 TO ap.TOi2).trans o3;refine qa7 (wpAny_seqItems o4 rfl (qa7 (wpAny_updateSeq_pair o4 λg5 o5 c5=>qa7 (wpAny_letGo (qa8 (qa8 ?_))))));replace o5:IsPair g5 TO x y:=o5;have k5:aR [z,TO,i1,i2] s.heap g5:=(((k1.trans (.one c2 (by simp))).trans (.one c3 (by simp))).trans (.one c4 (by simp))).trans (.one c5 (by simp));have z5:IsZip g5 z TI TO .ellipsis:=(c5.2 z ap.TOz.symm).trans ((c4.2 z ap.i2z.symm).trans ((c3.2 z ap.TOz.symm).trans ((c2.2 z ap.i1z.symm).trans z1)));have st1:S1 (k+1) g5:=S1f (((aR.one (S:=[z,TO,i1,i2]) c3 (by simp)).trans (.one c4 (by simp))).trans (.one c5 (by simp))).2 d1 λo e=>(c5.2 i1 ap.TOi1.symm).trans ((c4.2 i1 ap.i12).trans ((c3.2 i1 ap.TOi1.symm).trans e));have st2:S2 (k+1) g5:=S2f (aR.one (S:=[z,TO,i1,i2]) c5 (by simp)).2 d2 λo e=>(c5.2 i2 ap.TOi2.symm).trans e;refine qa7 (wpAny_seqItems o5 rfl (qa7 (wpAny_newTuple ?_)));unfold Builtin.SmallTypes.ownedTupleHandOut;have z6:IsZip (g5.push {cls:=.type "tuple",data:=.seq #[x,y]}) z TI TO .ellipsis:=qa9 _ z5;refine qa7 (qa7 (wpAny_setField_rec z6 (by simp) λg7 z7 c7=>?_));replace z7:IsZip g7 z TI TO (rawInt g5.objs.size):=z7;refine wpAny_setField_rec z7 (by simp) λg8 z8 c8=>qa8 (_,rfl,?_);replace z8:IsZip g8 z TI TO (rawInt g5.objs.size):=z8;have up:∀c o,c≠z->g5.get? c=some o->g8.get? c=some o:=λc o hc e=>(c8.2 c hc).trans ((c7.2 c hc).trans (qa9 _ e));have zlt:g5.objs.size≠z:=ne_of_gt (lt_size z5);have new:IsPair g8 g5.objs.size x y:=(c8.2 _ zlt).trans ((c7.2 _ zlt).trans (get?_push_size _ rfl));have sz:g5.objs.size=s.heap.objs.size:=k5.1;have ti5:IsPair g5 TI (.ref i1) (.ref i2):=k5.2 TI _ (by simp[ap.TIz,ap.TITO,ap.TIi1,ap.TIi2]) hTI;show Q (.ref g5.objs.size) _;rw[sz]at z8 new⊢;exact hQ x y g8 t4 p1 p2 z8 (up _ _ ap.TIz ti5) (up _ _ ap.TOz o5) (S1f (λc o hc e=>up c o (λq=>hc (by simp[q])) e) st1 λo e=>up _ o ap.i1z e) (S2f (λc o hc e=>up c o (λq=>hc (by simp[q])) e) st2 λo e=>up _ o ap.i2z e) new λc o hc e=>up c o (λq=>hc (by simp[q])) (k5.2 c o hc e)
theorem endedL(D1:Draws prog w A i1 f1 n1 P1 S1)(D2:Draws prog w A i2 f2 n2 P2 S2)(m1:∀c∈f1,c=i1\/c∉[z,TO,i1,i2])(m2:∀c∈f2,c=i2\/c∉[z,TO,i1,i2])(ap:ZipApart z TI TO i1 i2 TI TI)(hz:IsZip s.heap z TI TO .none)(hTI:IsPair s.heap TI (.ref i1) (.ref i2))(hTO:IsPair s.heap TO a b)(h1:S1 k s.heap)(h2:S2 k s.heap)(hend:k=n1\/(k<n1/\k=n2))(hE:∀h' e tk,(∀c o,c∉[z,TO,i1,i2]->s.heap.get? c=some o->h'.get? c=some o)->(∃o,h'.get? e=some o/\o.cls=.type "StopIteration")->E (.ref e) {s with heap:=h',toks:=tk}):wpAny (model prog w) A (Builtin.«zip.__next__» ([.ref z],[])) Q E s:=by
 unfold Builtin.«zip.__next__»;refine qa7 (wpAny_of_eq (a:=(Value.ref z,[],)) rfl (qa7 (wpAny_field hz rfl (x:=.bool false) rfl (qa7 (wpAny_field hz rfl (x:=.ref TI) rfl (qa7 (wpAny_seqItems hTI rfl (wpAny_ite_false (by simp) (qa7 ?_)))))))));unfold Builtin.SmallTypes.ownedTupleIsFree;refine qa7 (wpAny_field hz rfl (x:=.none) rfl (qa8 (wpAny_ite_true (by decide) (qa7 (wpAny_rule (qa7 (wpAny_field hz rfl (x:=.ref TO) rfl (qa7 (wpAny_setField_rec hz (by simp) λg1 z1 c1=>?_)))))))));have k1:aR [z,TO,i1,i2] s.heap g1:=.one c1 (by simp);have S1f:∀{j:Nat}{g g':Heap},(∀c o,c∉[z,TO,i1,i2]->g.get? c=some o->g'.get? c=some o)->S1 j g->(∀o,g.get? i1=some o->g'.get? i1=some o)->S1 j g':=λk st e=>D1.frame _ _ _ st λc hc=>by
  rcases m1 c hc with rfl|hn
  .exact e
  .exact λo q=>k c o hn q
 have S2f:∀{j:Nat}{g g':Heap},(∀c o,c∉[z,TO,i1,i2]->g.get? c=some o->g'.get? c=some o)->S2 j g->(∀o,g.get? i2=some o->g'.get? i2=some o)->S2 j g':=λk st e=>D2.frame _ _ _ st λc hc=>by
  rcases m2 c hc with rfl|hn
  .exact e
  .exact λo q=>k c o hn q
 have s1:S1 k g1:=S1f k1.2 h1 λo e=>(c1.2 i1 ap.i1z).trans e;have out:∀(it:Addr)(g g':Heap)(e:Addr)(tk:Nat),it=i1\/it=i2->aR [z,TO,i1,i2] s.heap g->IsZip g z TI TO .ellipsis->Heap.ExtBut it g g'->(∃o,g'.get? e=some o/\o.cls=.type "StopIteration")->
   wpAny (model prog w) A (setField (.ref z) 0 .none) (λ_ s'=>E (.ref e) s') E {s with heap:=g',toks:=tk}:=λit g g' e tk hit hk hg hx he=>by
  obtain⟨oe,he,ce⟩:=he;have zit:z≠it:=by rcases hit with q|q<;>rw[q];exact ap.i1z.symm;exact ap.i2z.symm
  have zg:IsZip g' z TI TO .ellipsis:=hx z _ zit hg;have ez:e≠z:=λq=>by
   rw[q]at he;have:=congrArg (Option.map Obj.cls) (he.symm.trans zg);rw[Option.map_some,Option.map_some,ce]at this;exact absurd (show Value.type "StopIteration"=Value.type "zip" from Option.some.inj this) (by decide)
  refine wpAny_setField_rec (s:={s with heap:=g',toks:=tk}) zg (by simp) λg2 _ c2=>hE g2 e tk (λc o hc q=>?_) (oe,(c2.2 e ez).trans he,ce);refine(c2.2 c λr=>hc (by simp[r])).trans (hx c o (λr=>hc ?_) (hk.2 c o hc q));rcases hit with q|q<;>rw[r,q]<;>simp
 simp only[List.zipIdx_cons,List.zipIdx_nil,forIn_cons,forIn_nil];rcases hend with rfl|⟨hlt,rfl⟩
 .refine qa7 (qa7 (qa7 (wpAny_onRaise (qa7 (m:=Builtin.SmallTypes.nextOf (.ref i1)) (D1.done _ _ _ s1 λg2 e x2 he=>?_)))));exact out i1 g1 g2 e s.toks (.inl rfl) k1 z1 x2 he
 .refine qa7 (qa7 (qa7 (wpAny_onRaise (qa7 (m:=Builtin.SmallTypes.nextOf (.ref i1)) (D1.item k _ _ _ hlt s1 λx g2 t2 p1 d1 c2=>qa8 ?_)))));have o2:IsPair g2 TO a b:=(c2.2 TO ap.TOi1).trans ((c1.2 TO ap.TOz).trans hTO);refine qa7 (wpAny_seqItems o2 rfl (qa7 (wpAny_updateSeq_pair o2 λg3 o3 c3=>qa7 (wpAny_letGo (qa8 (qa7 (qa7 (wpAny_onRaise (qa7 (m:=Builtin.SmallTypes.nextOf (.ref i2)) (D2.done _ _ _ (S2f ((k1.trans (.one c2 (by simp))).trans (.one c3 (by simp))).2 h2 λo e=>?_) λg4 e x4 he=>?_))))))))))
  .exact (c3.2 i2 ap.TOi2.symm).trans ((c2.2 i2 ap.i12.symm).trans ((c1.2 i2 ap.i2z).trans e))
  .exact out i2 g3 g4 e t2 (.inr rfl) ((k1.trans (.one c2 (by simp))).trans (.one c3 (by simp))) ((c3.2 z ap.TOz.symm).trans ((c2.2 z ap.i1z.symm).trans z1)) x4 he
end
section
variable{prog:Program}{w:World}{A:Around}{E:Value->Shared->Prop}{s:Shared}{z TI TO i1 i2:Addr}{n1 n2 k:Nat}{P1 P2:Nat->Value->Prop}{S1 S2:Nat->Heap->Prop}{a b:Value}
def strIt(x:Str)(t:Tok):Obj:={cls:=.type (if x.cps.all (· < 128)then "str_ascii_iterator" else "str_iterator"),data:=.fields #[.str x t,.int 0 0]}
theorem kz(h:Q (.ref s.heap.objs.size) {s with heap:=s.heap.push (strIt x t)}):wpAny (model prog w) A (pyIter (.str x t)) Q E s:=by
 unfold strIt at h;cases e:x.cps.all (· < 128)<;>rw[e]at h
 .exact wpAny_pyIter_wide e h
 .exact wpAny_pyIter_ascii e h
def strAt(x:Str)(t:Tok)(it:Addr)(i:Nat)(h:Heap):Prop:=h.IsStrIter it (if x.cps.all (· < 128)then "str_ascii_iterator" else "str_iterator") x t i
theorem draws(hh:A.handled=none)(it:Addr)(x:Str)(t:Tok):Draws prog w A it [it] x.cps.size (λi v=>∃c u,x.cps[i]?=some c/\v=.str ⟨#[c]⟩ u) (strAt x t it):=by
 unfold strAt;cases x.cps.all (· < 128)
 .exact Draws.strWide hh it x t
 .exact Draws.strAscii hh it x t
end
end ZP
end L2
namespace L2
open PySem PySem.Spec PyProof.Rows
section
variable{X:Cx}{pins:List (Addr×Obj)}{σ:St}{H:Hp}{s:Shared}{h':Heap}
theorem tracked_off{S:List Addr}(f:∀b∈S,H b=none)(e:H b=some u):b∉S:=λhb=>by rw[f b hb]at e;cases e
theorem Inv.turnedL{S:List Addr}(I:Inv X pins σ H s)(k:∀b o,b∉S->s.heap.get? b=some o->h'.get? b=some o)(f:∀b∈S,aZ X pins H b):Inv X pins σ H {s with heap:=h',toks:=t'}:=by
 refine I.call (g':=s.gens) (d':=s.drawn) (ch:=S) (λb o e _ _ hc=>k b o hc e,λb o e _ _ hc=>(o.slots,k b o hc e),λ_ _ _ n _=>n,λb o e hc=>(o,k b o hc e),λ_ _ e=>e,λ_ _ _ e=>e,λ_ ps e=>(#[],by rw[e];simp))
  (λb u e=>(I.hok b u e).stay (λc v hc q=>k c v ?_ q) (λ_ q=>q) λ_ _ q=>q) I.bare λb hb=>((f b hb).2.2.2.1,(f b hb).2.1,(f b hb).2.2.2.2.1,(f b hb).2.2.2.2.2)
 rcases hc with z|z
 .rw [z];exact tracked_off (λb hb=>(f b hb).1) e
 .exact tracked_off (λb hb=>(f b hb).1) z
theorem Inv.turnedNew{S:List Addr}{t':Nat}{o:HO}(I:Inv X pins σ H s)(k:∀b o,b∉S->s.heap.get? b=some o->h'.get? b=some o)(f:∀b∈S,aZ X pins H b)(new:a_L X.prog X.w (upd H s.heap.objs.size o) h' s.heap.objs.size o):Inv X pins σ (upd H s.heap.objs.size o) {s with heap:=h',toks:=t'}:=by
 have fr:H s.heap.objs.size=none:=I.hok.fresh (le_refl _);have ne:∀b u,H b=some u->b≠s.heap.objs.size:=λb u e=>ne_of_none e fr;refine I.call (g':=s.gens) (d':=s.drawn) (ch:=S) (λb o e _ _ hc=>k b o hc e,λb o e _ _ hc=>(o.slots,k b o hc e),λb o e n _=>?_,λb o e hc=>(o,k b o hc e),λb xs e=>by rw[upd_ne (ne b _ e)];exact e,λb o u e=>by rw[upd_ne (ne b _ e)];exact e,λb ps e=>(#[],by rw[upd_ne (ne b _ e),e];simp))
  (λb u e=>?_) I.bare λb hb=>((f b hb).2.2.2.1,(f b hb).2.1,(f b hb).2.2.2.2.1,(f b hb).2.2.2.2.2)
 .rw [upd_ne (ne_of_lt (lt_size e))];exact n
 .by_cases hb:b=s.heap.objs.size
  .subst hb;rw[a_c]at e;cases e;exact new
  .rw [upd_ne hb]at e;refine(I.hok b u e).stay (λc v hc q=>k c v ?_ q) (λc q=>by rw[upd_ne (ne c _ q)];exact q) λc xs q=>by rw[upd_ne (ne c _ q)];exact q
   rcases hc with z|z
   .rw [z];exact tracked_off (λb hb=>(f b hb).1) e
   .exact tracked_off (λb hb=>(f b hb).1) z
end
def Fly(h:Heap)(e T:Addr)(cls a0:Value):Prop:=
 ∃oe vs oT ts,h.get? e=some oe/\(oe.cls=cls/\vs[0]?=some a0)/\oe.data=.fields vs/\vs[1]?=some (.ref T)/\T≠e/\h.get? T=some oT/\oT.data=.fields ts/\ts[3]?=some .none
theorem Fly.traced(x:Fly h e T cls a0)(n:base.get? T=none):h.TracedW base e cls a0:=by
 obtain⟨oe,vs,oT,ts,h1,h2,h3,h4,h5,h6,h7,h8⟩:=x;exact(oe,vs,T,oT,ts,h1,h2,h3,h4,n,h5,h6,h7,h8)
theorem iE(x:h.TracedW base e cls a0):∃T,base.get? T=none/\Fly h e T cls a0:=by
 obtain⟨oe,vs,T,oT,ts,h1,h2,h3,h4,n,h5,h6,h7,h8⟩:=x;exact(T,n,oe,vs,oT,ts,h1,h2,h3,h4,h5,h6,h7,h8)
def CXE(P:Program)(w:World):CXT:=λouter H s E ev s'=>∃(e T:Addr)(C a0:Value)(H':Hp),ev=.ref e/\s'.os=s.os/\AllBare s'.gens/\Un (frs outer) [] H H' s.heap s'.heap/\HOk P w H' s'.heap/\
 s.heap.get? e=none/\s.heap.get? T=none/\H' e=none/\H' T=none/\Fly s'.heap e T C a0/\E C none H'
theorem b_J{h base:Heap}{hid:List Addr}:∀{l:List Env},h.FunFrames base l->(∀b∈frs l,b∈hid)->h.FunFrames (hideAll h hid) l
 |[],_,_=>trivial
 |env::r,hl,hs=>by
  obtain⟨hk,⟨L,o,hf,hn,ho,hd⟩,hr⟩:=hl;have e:frs (env::r)=L::frs r:=by unfold frs;rw[List.filterMap_cons,hf]
  exact(hk,(L,o,hf,hideAll_none _ (hs L (by rw[e];exact mem_cons_self)),ho,hd),b_J hr λb hb=>hs b (by rw[e];exact mem_cons_of_mem _ hb))
theorem c_y{h base:Heap}:∀{l:List Env},h.FunFrames base l->∀b∈frs l,∃o,h.get? b=some o/\∀vs,o.data≠.fields vs
 |env::r,hl,b,hb=>by
  obtain⟨hk,⟨L,o,hf,hn,ho,hd⟩,hr⟩:=hl;have e:frs (env::r)=L::frs r:=by unfold frs;rw[List.filterMap_cons,hf]
  rw[e]at hb;rcases mem_cons.mp hb with rfl|hb
  .exact (o,ho,hd)
  .exact c_y hr b hb
section
variable{X:Cx}{pins:List (Addr×Obj)}{σ:St}{H H':Hp}{s:Shared}{h1 h2:Heap}
theorem Inv.flown{S:List Addr}(I:Inv X pins σ H s)(un:Un (frs X.stack) [] H H' s.heap h1)(hok:HOk X.prog X.w H' h1)(dead:∀b∈S,s.heap.get? b=none)(off:∀b∈S,H' b=none)(keep:∀b o,h1.get? b=some o->b∉S->b∉frs X.stack->h2.get? b=some o)(up:h1.UpToSlots h2)(hg:AllBare g'):Inv X pins σ H' {s with heap:=h2,gens:=g',drawn:=d',toks:=t'}/\Un (frs X.stack) [] H H' s.heap h2/\HOk X.prog X.w H' h2:=by
 have live:∀b o,s.heap.get? b=some o->b∉S:=λb o e hb=>by rw[dead b hb]at e;cases e
 have fr:∀b∈frs X.stack,∃o,s.heap.get? b=some o/\∀vs,o.data≠.fields vs:=c_y I.stack;have frH:∀b∈frs X.stack,H' b=none:=λb hb=>by
  obtain⟨o,ho,_⟩:=fr b hb;exact un.free b o ho (I.stkFree b hb) (by simp)
 have un2:Un (frs X.stack) [] H H' s.heap h2:=by
  refine(λb o e n hb hx=>keep b o (un.keep b o e n hb hx) (live b o e) hb,λb o e n hb hx=>?_,un.free,λb o e hx=>?_,un.tups,un.frzs,un.tbls)
  .obtain ⟨sl,e1⟩:=un.slot b o e n hb hx;obtain⟨o',ho',hd⟩:=fr b hb;rw[e]at ho';cases ho';obtain⟨sl',e2⟩:=up b _ e1 hd;exact(sl',e2)
  .obtain ⟨o1,e1⟩:=un.there b o e hx;by_cases hb:b∈frs X.stack
   .obtain ⟨o',ho',hd⟩:=fr b hb;rw[e]at ho';cases ho';obtain⟨sl,e2⟩:=un.slot b o e (I.stkFree b hb) hb hx;obtain⟨sl',e3⟩:=up b _ e2 hd;exact(_,e3)
   .exact (o1,keep b o1 e1 (live b o e) hb)
 have hok2:HOk X.prog X.w H' h2:=λb u e=>(hok b u e).stay (λc v hc q=>keep c v q (λhm=>?_) λhm=>?_) (λ_ q=>q) λ_ _ q=>q
 .exact (I.call (g':=g') (d':=d') (t':=t') (ch:=[]) un2 hok2 hg (λ_ z=>nomatch z),un2,hok2)
 .rcases hc with rfl|hc
  .rw [off c hm]at e;cases e
  .rw [off c hm]at hc;cases hc
 .rcases hc with rfl|hc
  .rw [frH c hm]at e;cases e
  .rw [frH c hm]at hc;cases hc
theorem dead0(I:Inv X pins σ H s)(hx:X.ex=[])(d:s.heap.get? b=none):X.s₀.heap.get? b=none:=by
 cases e:X.s₀.heap.get? b with
 |none=>rfl
 |some o=>
  obtain⟨o',q⟩:=I.base.there b o e (by rw[hx];simp);rw[d]at q;cases q
theorem e_M(hok:HOk P w H h)(d:h.get? b=none):H b=none:=by
 cases e:H b with
 |none=>rfl
 |some u=>
  obtain⟨o,q⟩:∃o,h.get? b=some o:=by
   have z:=hok b u e;cases u with
   |lst=>obtain⟨_,its,n,_,q⟩:=z;exact(_,q)
   |tup=>obtain⟨_,its,_,o,q,_⟩:=z;exact(_,q)
   |dK=>obtain⟨_,_,vs,_,o,es,ep,q,_⟩:=z;exact(_,q)
   |dT=>obtain⟨_,_,xs,_,o,es,ep,q,_⟩:=z;exact(_,q)
   |set=>obtain⟨o,es,ep,t,q,_⟩:=z;exact(o,q)
   |ins=>obtain⟨_,_,_,q,_⟩:=z;exact(_,q)
   |own=>exact z
   |xd=>obtain⟨mA,⟨o,es,ep,q,_⟩,_⟩:=z;exact(o,q)
   |rng=>obtain⟨t,u,v,q⟩:=z;exact(_,q)
   |frz=>exact(_,z.1)
   |tbl=>exact(_,z)
   |met=>exact(_,z)
   |ext=>exact z.2.1
  rw[d]at q;cases q
theorem d_z(fl:Fly h e T cls a0)(hl:h.FunFrames base l):T∉frs l:=λhm=>by
 obtain⟨oe,vs,oT,ts,_,_,_,_,_,hT,hdT,_⟩:=fl;obtain⟨o,ho,hd⟩:=c_y hl T hm;rw[hT]at ho;cases ho;exact hd ts hdT
end
section
variable{X:Cx}{E:XK}
theorem ku(hx:X.ex=[])(hst:X.stack=X.env::X.outer)(hfr:X.env.frame=some X.env.locals){σ:St}(I:Inv X pins σ H s)(mk:Heap.MadeExcOf s.heap h1 e C vs)(q:E C none H):wpAny (model X.prog X.w) X.A (leaving X.env (.ref e)) (λ_ s''=>CXE X.prog X.w X.outer X.H₀ X.s₀ E (.ref e) s'') (λe' s''=>CXE X.prog X.w X.outer X.H₀ X.s₀ E e' s'') {s with heap:=h1}:=by
 have stk:s.heap.FunFrames X.base (X.env::X.outer):=hst▸I.stack;refine wpAny_leaves_madeW (s:={s with heap:=h1}) (base:=hideAll s.heap (frs X.stack)) (h:=s.heap) (by rw[<-hst];exact I.ok.frames) hfr (λb o z=>of_hideAll _ z) (b_J stk (by rw[hst];exact λ_ z=>z)) mk λh' t fl tup nt up=>?_;obtain⟨I2,un2,hok2⟩:=I.flown (H':=H) (h1:=s.heap) (h2:=h') (g':=s.gens) (d':=s.drawn) (t':=s.toks) (S:=[]) Un.refl I.hok (λ_ z=>nomatch z) (λ_ z=>nomatch z) (λb o z _ hb=>fl.1 b o (hideAll_get _ z hb))
  (λb o z hd=>up b o (mk.keeps b o z) hd) I.bare
 obtain⟨T,nT,fT⟩:=iE fl.2.2.2;have dT:s.heap.get? T=none:=by
  cases z:s.heap.get? T with
  |none=>rfl
  |some o=>
   have hT:=d_z fT I2.stack;rw[hideAll_get _ z hT]at nT;cases nT
 have ub:=I2.base;rw[hx]at ub;exact(e,T,C,.ref t,H,rfl,I2.os,I.bare,ub,hok2,dead0 I hx mk.new,dead0 I hx dT,e_M I.hok mk.new,e_M I.hok dT,fT,q)
theorem mK(hx:X.ex=[])(hst:X.stack=X.env::X.outer)(hfr:X.env.frame=some X.env.locals)(hE:∀C d H,E' C d H->E C d H){σ:St}(I:Inv X pins σ H s)(cx:CXE X.prog X.w X.stack H s E' ev s'):wpAny (model X.prog X.w) X.A (leaving X.env ev) (λ_ s''=>CXE X.prog X.w X.outer X.H₀ X.s₀ E ev s'') (λe' s''=>CXE X.prog X.w X.outer X.H₀ X.s₀ E e' s'') s':=by
 obtain⟨e,T,C,a0,H',rfl,os,bare,un,hok,de,dT,he,hT,fT,q⟩:=cx;obtain⟨hh,g,d,tk,os'⟩:=s';obtain rfl:os'=s.os:=os;have I1:Inv X pins σ H' {s with heap:=hh,gens:=g,drawn:=d,toks:=tk}:=I.call (g':=g) (d':=d) (t':=tk) (ch:=[]) un hok bare (λ_ z=>nomatch z);have stk:hh.FunFrames X.base (X.env::X.outer):=hst▸I1.stack;have fl:Heap.FlyingW (hideAll hh (e::T::frs X.stack)) (X.env::X.outer) e C a0 hh:=
  (λb o z=>of_hideAll _ z,hideAll_none _ (by simp),b_J stk (by rw[<-hst];exact λb z=>mem_cons_of_mem _ (mem_cons_of_mem _ z)),fT.traced (hideAll_none _ (by simp)))
 refine wpAny_leaves_onW (s:=(hh,g,d,tk,s.os)) (by rw[<-hst];exact I.ok.frames) hfr fl λh' fl' up=>?_;have kept:∀b o,hh.get? b=some o->b∉[e,T]->b∉frs X.stack->h'.get? b=some o:=λb o z hS hb=>fl'.1 b o (hideAll_get _ z λhm=>by
  rcases mem_cons.mp hm with y|hm
  .exact hS (by rw[y];simp)
  .rcases mem_cons.mp hm with y|hm
   .exact hS (by rw[y];simp)
   .exact hb hm)
 obtain⟨I2,un2,hok2⟩:=I.flown (H':=H') (h1:=hh) (h2:=h') (g':=g) (d':=d) (t':=tk) (S:=[e,T]) un hok (λb hb=>by rcases mem_cons.mp hb with z|z;rw[z];exact de;rw[qb1 z];exact dT)
  (λb hb=>by rcases mem_cons.mp hb with z|z;rw[z];exact he;rw[qb1 z];exact hT) kept up bare
 obtain⟨T',nT,fT'⟩:=iE fl'.2.2.2;have dT':s.heap.get? T'=none/\H' T'=none:=by
  cases z:hh.get? T' with
  |none=>
   refine(?_,e_M hok z);cases y:s.heap.get? T' with
   |none=>rfl
   |some o=>
    obtain⟨o',r⟩:=un.there T' o y (by simp);rw[z]at r;cases r
  |some o=>
   by_cases hTT:T'=T
   .rw [hTT];exact(dT,hT)
   .have hTe:T'≠e:=by obtain⟨_,_,_,_,_,_,_,_,z,_⟩:=fT';exact z
    have hTf:=d_z fT' I2.stack;rw[hideAll_get _ z (by simp[hTT,hTe,hTf])]at nT;cases nT
 have ub:=I2.base;rw[hx]at ub;exact(e,T',C,a0,H',rfl,I2.os,bare,ub,hok2,dead0 I hx de,dead0 I hx dT'.1,he,dT'.2,fT',hE _ _ _ q)
end
section
variable{X:Cx}
def nU(X:Cx)(e:Expr)(c:St->Prop):Prop:=∀(pins:List (Addr×Obj))(s:Shared)(σ:St)(H:Hp)(Q:Value->Shared->Prop),Inv X pins σ H s->c σ->(∀y t s',Inv X pins σ H s'->y.length≤100000->Q (.str y t) s')->
 wpAny (model X.prog X.w) X.A (eval e X.env) Q X.xe s
def iP(X:Cx):List Expr->(St->Prop)->Prop
 |[],_=>True
 |e::es,c=>nU X e c/\iP X es c
theorem fQ(h:x.length≤100000:=by decide):nU X (.Constant (.str x) j pos) c:=λ_ _ _ _ _ I _ q=>Calls.Constant_str (q x _ _ (I.tok _) h)
def pf(i:Nat)(σ:St):Prop:=∃x:Str,σ[i]?=some (some (.str x))/\x.length≤5000/\∀c∈x.cps.toList,c<1000000
theorem p6(h:n≤100000):n≤sizeLine:=by rw[sizeLine_eq];omega
theorem fP(i:Nat)(hv:PE X v (gY i))(k:∀σ,c σ->pf i σ):nU X (.FormattedValue v (-1) none pos) c:=λpins s σ H Q I hc q=>by
 obtain⟨x,e,hl,_⟩:=k σ hc;refine PyProof.Rows.FormattedValue_plain (thn (hv pins s σ H (λw H1=>w=.str x/\H1=H) I (_,e,rfl,rfl)) λu s1 hZ0=>?_);obtain⟨w,H1,I1,r1,e1,e2⟩:=hZ0;subst e1 e2;obtain⟨t,rfl⟩:=r1;exact PyProof.Rows.formatField_str (λt' tk=>q x t' _ (I1.tok tk) (by omega)) (p6 (by omega))
theorem f_s{c:St->Prop}{pins:List (Addr×Obj)}{σ:St}{H:Hp}{Q:Str->Shared->Prop}(hc:c σ)(q:∀out s,Inv X pins σ H s->out.length≤3000000->Q out s):∀{es:List Expr}{acc:Str}{s:Shared},iP X es c->es.length≤20->acc.length+es.length*100000≤3000000->Inv X pins σ H s->
  Joins (model X.prog X.w) X.A X.xe (evalEach es X.env) acc Q s
 |[],acc,s,_,_,hz,I=>by
  rw[show evalEach [] X.env=[] by rfl];exact q acc s I (by simpa using hz)
 |e::es,acc,s,h,hl,hz,I=>by
  rw[show evalEach (e::es) X.env=eval e X.env::evalEach es X.env by rfl];refine h.1 pins s σ H _ I hc λy t s' I' hy=>(y,t,rfl,?_,?_)
  .rw [Str.length_append,sizeLine_eq];simp at hz;omega
  .refine f_s hc q h.2 (by simp at hl;omega) ?_ I';rw[Str.length_append];simp at hz;omega
def sK(c:St->Prop):TE:=λσ H Q=>c σ/\∀x,Q (.str x) H
theorem qe(h:iP X (v1::v2::rest) c)(hl:(v1::v2::rest).length≤20:=by decide):PE X (.JoinedStr (v1::v2::rest) pos) (sK c):=by
 intro pins s σ H Q I ⟨hc,q⟩;refine wpAny_JoinedStr (f_s hc (λout s' I' hz=>(?_,.str out,H,I'.tok _,(_,rfl),q out)) h hl ?_ I)
 .have:Str.empty.length=0:=rfl;simp at hl⊢;omega
 .rw [sizeLine_eq];omega
end
def OwnX(K:Frag)(C:Addr):Prop:=PySem.W.excIn K C [.type "ValueError",.type "Exception",.type "BaseException",.type "object"] "ValueError.__new__"=true
theorem OwnX.obj{K:Frag}(q:OwnX K C)(X:K.In h):∃bm N nm qn bs hdct sn sub ab col dd k0 k1 k2 k3 k5 mN,h.get? C=some (excClassObj nm qn C N bs bm hdct sn sub ab col dd k0 k1 k2 k3 k5 "ValueError.__new__")/\h.Ns N mN/\mN "__init__"=none/\
  OwnTail h [.type "ValueError",.type "Exception",.type "BaseException",.type "object"] bm:=by
 unfold OwnX PySem.W.excIn at q;split at q;case h_2=>cases q
 case h_1 ob dd cd sl there=>
  split at q;case h_2=>cases q
  case h_1 D bm k0 k1 k2 k3 mk k5 hm hs=>
   obtain⟨q,noInit⟩:=and_eq_true_iff.mp q;obtain⟨q,nsOk⟩:=and_eq_true_iff.mp q;obtain⟨q,tl⟩:=and_eq_true_iff.mp q;obtain⟨q,nodel⟩:=and_eq_true_iff.mp q;obtain⟨isC,isMk⟩:=and_eq_true_iff.mp q;cases beq_iff_eq.mp isC;cases beq_iff_eq.mp isMk;obtain⟨l⟩:=sl;cases hs;cases cd;cases hm;cases not_eq_true' _▸nodel;exact(bm,_,_,_,_,_,_,_,_,_,dd,k0,k1,k2,k3,k5,_,X _ _ there,.of_isNs (PySem.W.isNs_of_in X nsOk),PySem.W.nsMap_none_of_in X nsOk (beq_iff_eq.mp noInit),PySem.W.tail_of_in X tl)
def nN(X:Cx)(E:XK):Prop:=∀(pins:List (Addr×Obj))(σ:St)(H:Hp)(s:Shared)(h1:Heap)(e:Addr)(C:Value)(vs:List Value),Inv X pins σ H s->Heap.MadeExcOf s.heap h1 e C vs->E C none H->X.xe (.ref e) {s with heap:=h1}
def pY(C:Addr)(E:XK)(t:TA):TS:=λ_ σ H=>t σ H λvs H1=>vs.length≤sizeLine/\E (.ref C) none H1
theorem lL{np cpos pos:Pos}(hc:X.calm=true)(hT:nN X E)(hC:OwnX X.K C)(hm:X.mg x=some (.ref C))(ha:PA X (e0::rest) t)(hg:Gl X x:=by rfl)(hd:(x==("__debug__":Str))=false:=by decide)(he:starEach (e0::rest) X.env=(false,eval e0 X.env,)::starEach rest X.env:=by rfl)(hpl:(backTo cpos (starEach rest X.env)).any (·.1)=false:=by rfl):PS X (.Raise (some (.Call (.Name x np) (e0::rest) [] cpos)) none pos) (pY C E t):=by
 intro pins s σ H D I h;obtain⟨bm,N,nm,qn,bs,hdct,sn,sub,ab,col,dd,k0,k1,k2,k3,k5,mN,hCo,hN,hni,TL⟩:=hC.obj I.ok.mod.kin;refine wpAny_Raise_call_subT (C:=C) (nm:=nm) (q:=qn) (N:=N) (bs:=bs) (bm:=bm) (hdct:=hdct) (sn:=sn) (sub:=sub) (ab:=ab) (col:=col) (dd:=dd) (k0:=k0) (k1:=k1) (k2:=k2) (k3:=k3) (k5:=k5) excBase_ValueError (mN:=mN)
  (TL.hasType excBase_ValueError.hasBase) (I.ok.hd hc) (by rw[he];show(false||(backTo cpos (starEach rest X.env)).any (·.1))=false;rw[hpl];rfl) hni (ld_glob I hg hm (rfl,?_) hd)
 have hA:=ha cpos pins s σ H _ I h;rw[he]at hA⊢;exact Calls.evalArgs_plain (thn hA λus s2 hZ1=>by obtain⟨vs,H2,I2,r2,hl,q⟩:=hZ1;exact(rfl,by rw[<-r2.length];exact hl,I2.bk _ _ hCo,hN.keeps I2.bk,TL.keeps I2.bk,λh' e mk=>hT pins σ H2 s2 h' e _ _ I2 mk q))
section
variable{P:Program}{w:World}{K:Frag}{mg:Str->Option Value}{base:Heap}{N:List Str}{qual:Str}{scope:Scope}{f:Addr}{cd:Value}{A:Around}{outer:List Env}{s:Shared}{H:Hp}{E:XK}
theorem gX:nN (aJ (CXE P w) P w K mg base N qual scope f cd A outer s H E) E:=λpins σ H1 s1 h1 e C vs I mk q=>ku (X:=aJ (CXE P w) P w K mg base N qual scope f cd A outer s H E) rfl rfl rfl I mk q
theorem a_d(hE:∀C d H,E' C d H->E C d H):e_f (CXE P w) (aJ (CXE P w) P w K mg base N qual scope f cd A outer s H E) E':=λpins σ H1 s1 ev s' I cx=>mK (X:=aJ (CXE P w) P w K mg base N qual scope f cd A outer s H E) rfl rfl rfl hE I cx
end
theorem Fun.okX{P:Program}{w:World}{K:Frag}{st:Stmt}(F:Fun K x qual st f fd)(S:a_m N ps (a_a st))(len:∀vs H Q E,sp vs H Q E->vs.length=ps.length)(hbody:∀(cdv:Value)(A:Around)(outer:List Env)(s:Shared)(H:Hp)(vs:List V)(Q:VK)(E:XK),af k (A.deeper (envOfC qual (a_a st) s.heap.objs.size f cdv))->sp vs H Q E->
   ∃t,PSs (aJ (CXE P w) P w K mg base N qual (a_a st) f cdv A outer s H E) (a_e st) t/\t {nx:=λ_ H'=>Q .non H',rt:=Q} (start N vs) H):aa P w K mg base (CXE P w) (k+1) f fd ps sp:=by
 obtain⟨oc,od,kV,doc,pm,an,cdv,ct,osl,rfl,lk,hcd⟩:=F.ex;exact fY lk hcd S len λA outer s H vs Q E hr hsp=>hbody cdv A outer s H vs Q E hr hsp
def DfX(P:Program)(w:World)(K:Frag)(mg:Str->Option Value)(base:Heap)(x:Str)(k:Nat)(ps:List Str)(sp:Sp):Prop:=
 ∃(f:Addr)(fd:FuncData),mg x=some (.ref f)/\keepIn K (.ref f)=true/\b_q K fd ps []/\aa P w K mg base (CXE P w) k f fd ps sp
theorem a_l{X:Cx}{p pos:Pos}(D:DfX X.prog X.w X.K X.mg X.base x k ps sp)(hr:af k X.A)(hp:e_f (CXE X.prog X.w) X E)(ha:PA X (e::es) t)(hg:Gl X x:=by rfl)(hdb:(x==("__debug__":Str))=false:=by decide)(he:starEach (e::es) X.env=(false,eval e X.env,)::starEach es X.env:=by rfl)(hpl:(backTo pos (starEach es X.env)).any (·.1)=false:=by rfl):PE X (.Call (.Name x p) (e::es) [] pos) (d_b sp [] E t):=by
 obtain⟨f,fd,h1,h2,h3,F⟩:=D;exact i8 F hr hg h1 h2 h3 .nil hp ha hdb he hpl
abbrev Cx.held(X:Cx)(v:Value):Cx:={X with A:=X.A.mark (some v),calm:=false,xe:=λ_ _=>False}
section
variable{X:Cx}{pins:List (Addr×Obj)}{σ:St}{H:Hp}{s:Shared}
theorem Inv.held(I:Inv X pins σ H s)(v:Value):Inv (X.held v) pins σ H s:=
 ((I.ok.mod,I.ok.kind,I.ok.glob,I.ok.blt,I.ok.above,I.ok.inj,I.ok.has,I.ok.cab,λz=>Bool.noConfusion z,I.ok.frames,I.ok.stk,I.ok.exf,I.ok.bs,I.ok.bsz,I.ok.noex,I.ok.exfs,I.ok.funs,I.ok.frf),I.os,I.bare,I.base,I.loc,I.cell,I.free,I.freeC,I.pin,I.hok,I.len)
theorem Inv.unheld(I:Inv (X.held v) pins σ H s)(ok:X.Ok):Inv X pins σ H s:=(ok,I.os,I.bare,I.base,I.loc,I.cell,I.free,I.freeC,I.pin,I.hok,I.len)
theorem Inv.track(I:Inv X pins σ H s)(hn:H e=none)(d0:X.s₀.heap.get? e=none)(nL:X.env.locals≠e)(nC:∀x c,X.env.cells.lookup x=some c->c≠e)(nP:∀p∈X.pn++pins,p.1≠e)(hx:φ s.heap)(there:∃o,s.heap.get? e=some o)(st:∀h1 h2:Heap,φ h1->(∀o,h1.get? e=some o->h2.get? e=some o)->φ h2):Inv X pins σ (upd H e (.ext φ)) s:=by
 have ne:∀b u,H b=some u->b≠e:=λb u q=>ne_of_none q hn;have old:∀b o,X.s₀.heap.get? b=some o->b≠e:=λb o q z=>by rw[z,d0]at q;cases q
 refine(I.ok,I.os,I.bare,(I.base.keep,I.base.slot,λb o q n hb=>?_,I.base.there,λb xs q=>?_,λb o u q=>?_,λb ps q=>?_),I.loc,I.cell,?_,λx c q=>?_,λp hp=>?_,λb u q=>?_,I.len)
 .rw [upd_ne (old b o q)];exact I.base.free b o q n hb
 .have z:=I.base.tups b xs q;rw[upd_ne (ne b _ z)];exact z
 .have z:=I.base.frzs b o u q;rw[upd_ne (ne b _ z)];exact z
 .obtain ⟨more,z⟩:=I.base.tbls b ps q;exact(more,by rw[upd_ne (ne b _ z)];exact z)
 .rw [upd_ne nL];exact I.free
 .rw [upd_ne (nC x c q)];exact I.freeC x c q
 .obtain ⟨a1,a2,a3⟩:=I.pin p hp;exact(a1,by rw[upd_ne (nP p hp)];exact a2,a3)
 .by_cases hb:b=e
  .subst hb;rw[a_c]at q;cases q;exact(hx,there,st)
  .rw [upd_ne hb]at q;exact(I.hok b u q).stay (λ_ _ _ r=>r) (λc r=>by rw[upd_ne (ne c _ r)];exact r) λc xs r=>by rw[upd_ne (ne c _ r)];exact r
end
section
variable{X:Cx}{pins:List (Addr×Obj)}{σ:St}{H:Hp}{s:Shared}{x n y fx:Str}{R:Addr}{i j k:Nat}{np hpos pos p cp yp ap:Pos}{b0:Stmt}{suite:List Stmt}{ts:TS}{D:Ends}{ps:List Str}{sp:Sp}{e:Expr}{es:List Expr}{t:TA}
end
end L2
namespace L2
open PySem PySem.Spec PySem.W PyProof.Rows Builtin Builtin.ObjectAttr Builtin.Getset_descriptor
structure nV(K:Frag)(C:Addr):Prop where
 ga:findIn K (.ref C) "__getattribute__"=some (some (.builtin "BaseException.__getattribute__"))
 noHook:findIn K (.ref C) "__getattr__"=some none
 cls:findIn K (.ref C) "__class__"=some (some (.builtin "object.__class__"))
 get:specialIn K (.builtin "object.__class__") "__get__"=some (some (.builtin "getset_descriptor.__get__"))
 tk:takesIn K (.builtin "object.__class__")=some true
 obj:mroIn K C (.type "object")=some true
 exc:mroIn K C (.type "BaseException")=some true
 isC:isClsIn K C=true
section
variable{prog:Program}{w:World}{A:Around}{E:Value->Shared->Prop}{s:Shared}{K:Frag}{e C:Addr}
end
end L2
namespace RA
end RA
namespace RA
open PySem L2
structure Sm(w:LN):Prop where
 len:w.length≤4000
 cod:∀c∈w,c<1000000
theorem Let.sm(h:Let L):Sm L:=(by have:=h.hi;omega,λc hc=>by have:=(h.az c hc).2;omega)
theorem Sm.txt(h:Sm w)(e:σ[i]?=some (some (.str (tx w)))):pf i σ:=(tx w,e,by rw[b_b];have:=h.len;omega,by rw[e_t];exact h.cod)
end RA
namespace RA
def ak(L:LN):LN->LN->Bool
 |c::a,d::b=>if c=d then ak L a b else decide (L.idxOf c<L.idxOf d)
 |_,_=>false
def ear(L a b:LN):Bool:=if a.length≠b.length then decide (a.length<b.length)else ak L a b
end RA
namespace L2
open PySem PySem.Spec PyProof.Rows
theorem Same.set(s:Same H H')(n:H a=none):Same H (L2.upd H' a o):=λb u e=>by
 rw[upd_ne (ne_of_none e n)];exact s b u e
end L2
namespace RA
open PySem L2
end RA
namespace L2
end L2
namespace L2
open PySem PySem.Spec PyProof.Rows
section
variable{K:Frag}{tl:TE}{a:Addr}{xs:List V}{tt:TT}{te:TE}{σ:St}{H:Hp}{Q:VK}
end
theorem c_i(K:Frag):kitOne K (.type "tuple") (.type "tuple")=some true/\kitOne K (.type "list") (.type "list")=some true/\kitOne K (.type "str") (.type "str")=some true:=
 (by with_unfolding_all rfl,by with_unfolding_all rfl,by with_unfolding_all rfl)
theorem mL(K:Frag):kitOne K (.type "tuple") (.type "list")=some false:=by kernel_rfl
theorem iu(K:Frag):kitOne K (.type "list") (.type "tuple")=some false:=by kernel_rfl
theorem qw(K:Frag):kitOne K (.type "int") (.type "tuple")=some false:=by kernel_rfl
theorem qx(K:Frag):kitOne K (.type "int") (.type "list")=some false:=by kernel_rfl
theorem qy(K:Frag):kitOne K (.type "bool") (.type "tuple")=some false:=by kernel_rfl
theorem qz(K:Frag):kitOne K (.type "bool") (.type "list")=some false:=by kernel_rfl
theorem qr(K:Frag):kitOne K (.type "str") (.type "tuple")=some false:=by kernel_rfl
theorem qt(K:Frag):kitOne K (.type "str") (.type "list")=some false:=by kernel_rfl
theorem qv(K:Frag):kitOne K (.type "str") (.type "bool")=some false:=by kernel_rfl
theorem qu(K:Frag):kitOne K (.type "str") (.type "int")=some false:=by kernel_rfl
theorem gB:d_f X (.builtin "isinstance") (λxs H Q=>∃x t b,xs=[x,.ty T]/\ae X.K H x t/\kitOne X.K t (.type T)=some b/\Q (.bl b) H):=by
 intro pins s σ H xs us Q I r h;obtain⟨x,t,b,h1,h2,h3,q⟩:=h;exact gy (b:=b) pins s σ H xs us Q I r (x,t,h1,h2,h3,q)
section
variable{X:Cx}{elt iter:Expr}{x:Str}{px pos:Pos}{ifs:List Expr}{sc:Scope}{wi:TI}{tt:TT}{te:TE}
theorem comp_used(hsw:swapsWith (.ListComp elt [(.Name x px,iter,ifs,0)] sc pos) (some (.Name y py)) spos.line env=pure true)(h:∀p,wpAny M A (comprehension (.ListComp elt [(.Name x px,iter,ifs,0)] sc pos) sc env p (newList []) false (eval iter env) (some (assign (.Name y py) env))) (λ_ s'=>Q .next s') E s):wpAny M A (exec (.Assign [.Name y py] (.ListComp elt [(.Name x px,iter,ifs,0)] sc pos) spos) env) Q E s:=by
 have used:wpAny M A (evalThenUse (.ListComp elt [(.Name x px,iter,ifs,0)] sc pos) env (assign (.Name y py) env)) (λ_ s'=>Q .next s') E s:=
  qa7 (wpAny_mono (h iter.pos) (λ_ _ q=>qa8 q) λ_ _ e=>e)
 have one:=exec_Assign_Name_used (env:=env) y py (.ListComp elt [(.Name x px,iter,ifs,0)] sc pos) spos hsw;exact one▸qa7 (wpAny_standAt (qa7 (wpAny_mono used (λ_ _ q=>qa8 q) λ_ _ e=>e)))
end
theorem nB(K:Frag)(hK:X.K=K:=by rfl):d_f X (.builtin "isinstance") (λxs H Q=>∃x t b,xs=[x,.ty T]/\ae K H x t/\kitOne K t (.type T)=some b/\Q (.bl b) H):=by
 subst hK;exact gB
theorem f_B(K:Frag)(hK:X.K=K:=by rfl):d_f X (.type "tuple") (λxs H Q=>∃p ys,xs=[.ref p]/\((SqL K H p ys/\∀l,H l=none->Q (.ref l) (upd H l (.tup ys)))\/(SqT K H p ys/\Q (.ref p) H))):=by
 subst hK;exact a_x
section
variable{X:Cx}{elt iter:Expr}{x:Str}{px pos:Pos}{ifs:List Expr}{sc:Scope}{wi:TI}{tt:TT}{te:TE}
end
end L2
namespace RA
open PySem L2
def gE(H:Hp)(rows:List Addr)(Rs:List (List Int)):Prop:=rows.length=Rs.length/\∀(i:Nat)(r:Addr),rows[i]?=some r->∃R,Rs[i]?=some R/\H r=some (.tup (R.map V.int))
theorem gE.at(h:gE H rows Rs){i:Nat}(e:(rows.map V.ref)[i]?=some x):∃r R,x=.ref r/\rows[i]?=some r/\Rs[i]?=some R/\H r=some (.tup (R.map V.int)):=by
 rw[qa6]at e;cases e2:rows[i]? with
 |none=>rw[e2]at e;cases e
 |some r=>
  rw[e2]at e;obtain⟨R,h1,h2⟩:=h.2 i r e2;exact(r,R,(Option.some.inj e).symm,rfl,h1,h2)
def nR(H:Hp)(m:Addr)(L:LN)(Rs:List (List Int))(Bs:List Bool):Prop:=
 ∃(wy mk:Addr)(rows:List Addr),H m=some (.tup [.str (tx L),.ref wy,.ref mk])/\H wy=some (.tup (rows.map V.ref))/\H mk=some (.tup (Bs.map V.bl))/\gE H rows Rs
def bL:V->Bool
 |.bl _=>true
 |.int _=>true
 |.str _=>true
 |_=>false
def eB(H:Hp):Nat->V->V->Prop
 |0,x,y=>x=y/\bL x=true
 |d+1,x,y=>(x=y/\bL x=true)\/∃p q xs ys,x=.ref p/\y=.ref q/\((H p=some (.tup xs)/\H q=some (.tup ys))\/(H p=some (.lst xs)/\H q=some (.lst ys)))/\xs.length=ys.length/\xs.length≤2100/\
   ∀(i:Nat)(x y:V),xs[i]?=some x->ys[i]?=some y->eB H d x y
theorem cn(h:bL x=true):eB H d x x:=by
 cases d with
 |zero=>exact(rfl,h)
 |succ d=>exact Or.inl (rfl,h)
theorem f_X{xs:List V}(h:xs.all bL=true):∀(i:Nat)(x y:V),xs[i]?=some x->xs[i]?=some y->eB H d x y:=λi x y hx hy=>by
 rw[hx]at hy;cases hy;exact cn (all_eq_true.mp h x (qb2 hx))
theorem kF(R:List Int):(R.map V.int).all bL=true:=by
 rw[all_eq_true];intro x hx;obtain⟨z,_,rfl⟩:=mem_map.mp hx;rfl
theorem nE(R:List Bool):(R.map V.bl).all bL=true:=by
 rw[all_eq_true];intro x hx;obtain⟨z,_,rfl⟩:=mem_map.mp hx;rfl
theorem iq(h1:gE H r1 Rs)(h2:gE H r2 Rs)(hz:∀R∈Rs,R.length≤2100):∀(i:Nat)(x y:V),(r1.map V.ref)[i]?=some x->(r2.map V.ref)[i]?=some y->eB H (d+1) x y:=λi x y hx hy=>by
 obtain⟨a,R,rfl,_,e1,e2⟩:=h1.at hx;obtain⟨b,R',rfl,_,e3,e4⟩:=h2.at hy;rw[e1]at e3;cases e3;exact Or.inr (a,b,_,_,rfl,rfl,.inl (e2,e4),rfl,by rw[qa4];exact hz R (qb2 e1),f_X (kF R))
theorem kr(h1:nR H m1 L Rs Bs)(h2:nR H m2 L Rs Bs)(hR:Rs.length≤2100)(hB:Bs.length≤2100)(hz:∀R∈Rs,R.length≤2100):eB H 3 (.ref m1) (.ref m2):=by
 obtain⟨wy,mk,rows,a1,a2,a3,a4⟩:=h1;obtain⟨wy2,mk2,rows2,b1,b2,b3,b4⟩:=h2;refine Or.inr (m1,m2,_,_,rfl,rfl,.inl (a1,b1),rfl,by show 3≤2100;decide,λi x y hx hy=>?_);match i,hx,hy with
 |0,hx,hy=>cases hx;cases hy;exact cn rfl
 |1,hx,hy=>cases hx;cases hy;exact Or.inr (wy,wy2,_,_,rfl,rfl,.inl (a2,b2),by rw[qa4,qa4,a4.1,b4.1],by rw[qa4,a4.1];exact hR,iq a4 b4 hz)
 |2,hx,hy=>cases hx;cases hy;exact Or.inr (mk,mk2,_,_,rfl,rfl,.inl (a3,b3),rfl,by rw[qa4];exact hB,f_X (nE Bs))
 |n+3,hx,hy=>cases hx
end RA
namespace L2
end L2
namespace RA
open PySem L2
end RA
namespace L2
open PySem PySem.Spec PyProof.Rows
section
variable{κ:Type}[DecidableEq κ]
def aW(kvs:List (κ×V))(k:κ):Option V:=(kvs.find? λkv=>decide (kv.1=k)).map (·.2)
theorem eJ{p:κ×V}{r:List (κ×V)}{k:κ}(e:p.1=k):aW (p::r) k=some p.2:=by simp[aW,find?_cons,e]
theorem eK{p:κ×V}{r:List (κ×V)}{k:κ}(e:¬ p.1=k):aW (p::r) k=aW r k:=by simp[aW,find?_cons,e]
theorem KV.val{kvs:List (κ×V)}{vs:List (κ×Value)}(r:KV kvs vs)(k:κ):aq (aW kvs k) (valueAt vs k):=by
 unfold KV at r;induction r with
 |nil=>exact True.intro
 |@cons p q ps qs h t ih=>
  obtain⟨h1,h2⟩:=h;by_cases e:p.1=k
  .have e':q.1=k:=h1.symm.trans e;have b:valueAt (q::qs) k=some q.2:=by simp[valueAt,find?_cons,e']
   rw[eJ e,b];exact h2
  .have e':¬ q.1=k:=λz=>e (h1.trans z);have b:valueAt (q::qs) k=valueAt qs k:=by simp[valueAt,find?_cons,e']
   rw[eK e,b];exact ih
end
section
variable{X:Cx}{d:Addr}{kvs:List (Key×V)}
end
end L2
namespace RA
section
variable{κ:Type}[DecidableEq κ]
def ay(acc:List κ):List κ->List κ
 |[]=>acc
 |k::ks=>ay (if k∈acc then acc else acc++[k]) ks
def dis(ks:List κ):List κ:=ay [] ks
def ao(ks:List κ):LN:=ks.map λk=>(dis ks).idxOf k
theorem cJ(k:κ):∀(ks acc:List κ),ay acc (ks++[k])=if k∈ay acc ks then ay acc ks else ay acc ks++[k]
 |[],_=>rfl
 |_::ks,_=>cJ k ks _
theorem gh:∀(ks acc:List κ)(k:κ),k∈acc\/k∈ks↔k∈ay acc ks
 |[],acc,k=>by simp[ay]
 |a::ks,acc,k=>by
  show _↔k∈ay (if a∈acc then acc else acc++[a]) ks;rw[<-gh ks];by_cases h:a∈acc
  .rw [if_pos h,mem_cons];constructor
   .rintro (x|rfl|x)
    .exact .inl x
    .exact .inl h
    .exact .inr x
   .rintro (x|x)
    .exact .inl x
    .exact .inr (.inr x)
  .rw [if_neg h,mem_cons,mem_append,mem_singleton];constructor
   .rintro (x|x|x)
    .exact .inl (.inl x)
    .exact .inl (.inr x)
    .exact .inr x
   .rintro ((x|x)|x)
    .exact .inl x
    .exact .inr (.inl x)
    .exact .inr (.inr x)
theorem mem_dis{ks:List κ}{k:κ}:k∈dis ks↔k∈ks:=by
 rw[dis,<-gh];simp
theorem dis_snoc(ks:List κ)(k:κ):dis (ks++[k])=if k∈dis ks then dis ks else dis ks++[k]:=cJ k ks []
theorem gj:∀(ks acc:List κ),(ay acc ks).length≤acc.length+ks.length
 |[],_=>by simp[ay]
 |a::ks,acc=>by
  have h:=gj ks (if a∈acc then acc else acc++[a]);have h2:(if a∈acc then acc else acc++[a]).length≤acc.length+1:=by
   split
   .omega
   .simp
  show(ay (if a∈acc then acc else acc++[a]) ks).length≤_;rw[length_cons];omega
theorem jv(ks:List κ):(dis ks).length≤ks.length:=by
 have:=gj ks [];simpa[dis]using this
theorem idx_inj{l:List κ}{a b:κ}(ha:a∈l)(h:l.idxOf a=l.idxOf b):a=b:=by
 have h1:l.idxOf a<l.length:=idxOf_lt_length_of_mem ha;have h2:l.idxOf b<l.length:=by omega
 have e1:=getElem_idxOf h1;have e2:=getElem_idxOf h2;rw[<-e1,<-e2];congr 1
theorem d_Y{l:List κ}{c:κ}:∀{i:Nat},l[i]?=some c->l.idxOf c≤i:=by
 induction l with
 |nil=>intro i e;simp at e
 |cons a l ih=>
  intro i e;by_cases hac:a=c
  .subst hac;rw[List.idxOf_cons_self];exact zero_le _
  .cases i with
   |zero=>simp at e;exact absurd e hac
   |succ i=>
    have h1:=ih (i:=i) (by simpa using e);have h2:(a::l).idxOf c=l.idxOf c+1:=by
     rw[idxOf_cons,beq_eq_false_iff_ne.mpr hac];rfl
    omega
theorem d_T(ks:List κ):(ao ks).length=ks.length:=by simp[ao]
theorem d_U{ks:List κ}{i:Nat}{k:κ}(h:ks[i]?=some k):(ao ks).getD i 0=(dis ks).idxOf k:=by
 rw[qa3,ao,qa6,h];rfl
theorem f_n{ks:List κ}{x:Nat}(h:x∈ao ks):x<ks.length:=by
 obtain⟨k,hk,rfl⟩:=mem_map.mp h;exact lt_of_lt_of_le (idxOf_lt_length_of_mem (mem_dis.mpr hk)) (jv ks)
theorem e_o{ks:List κ}{i j:Nat}{a b:κ}(ha:ks[i]?=some a)(hb:ks[j]?=some b):(ao ks).getD i 0=(ao ks).getD j 0↔a=b:=by
 rw[d_U ha,d_U hb];constructor
 .exact idx_inj (mem_dis.mpr (qb2 ha))
 .rintro rfl;rfl
theorem idx_app{l m:List κ}{a:κ}(h:a∈l):(l++m).idxOf a=l.idxOf a:=by
 rw[List.idxOf_append,if_pos h]
theorem jo{l:List κ}{a:κ}(h:a∉l):(l++[a]).idxOf a=l.length:=by
 rw[List.idxOf_append,if_neg h];simp
theorem ki{κ':Type}[DecidableEq κ']:∀(n:Nat)(ks:List κ)(ks':List κ'),ks.length=n->ks'.length=n->
  (∀(i j:Nat)(a b:κ)(a' b':κ'),ks[i]?=some a->ks[j]?=some b->ks'[i]?=some a'->ks'[j]?=some b'->(a=b↔a'=b'))->
  (dis ks).length=(dis ks').length/\∀(i:Nat)(a:κ)(a':κ'),ks[i]?=some a->ks'[i]?=some a'->(dis ks).idxOf a=(dis ks').idxOf a':=by
 intro n;induction n with
 |zero=>
  intro ks ks' h1 h2 _;rw[length_eq_zero_iff]at h1 h2;subst h1 h2;exact(rfl,λi a a' h=>by simp at h)
 |succ n ih=>
  intro ks ks' h1 h2 hp;obtain⟨k,l,rfl⟩:∃k l,ks=l++[k]:=(ks.getLast (by intro z;rw[z]at h1;cases h1),ks.dropLast,(List.dropLast_concat_getLast _).symm);obtain⟨k',l',rfl⟩:∃k l,ks'=l++[k]:=(ks'.getLast (by intro z;rw[z]at h2;cases h2),ks'.dropLast,(List.dropLast_concat_getLast _).symm);have l1:l.length=n:=by simpa using h1
  have l2:l'.length=n:=by simpa using h2
  have up:∀{α:Type}{l:List α}{k:α}{i:Nat}{a:α},l[i]?=some a->(l++[k])[i]?=some a:=λ{α l k i a}e=>by
   rw[getElem?_append_left (qa1 e).1];exact e
  have last:(l++[k])[n]?=some k:=by rw[getElem?_append_right (by omega),l1];simp
  have last':(l'++[k'])[n]?=some k':=by rw[getElem?_append_right (by omega),l2];simp
  obtain⟨q1,q2⟩:=ih l l' l1 l2 λi j a b a' b' e1 e2 e3 e4=>hp i j a b a' b' (up e1) (up e2) (up e3) (up e4);have mm:k∈dis l↔k'∈dis l':=by
   rw[mem_dis,mem_dis];constructor
   .intro hm;obtain⟨i,hi⟩:=mem_iff_getElem?.mp hm;have hlt:i<l'.length:=by have:=(qa1 hi).1;omega
    have e:=(hp i n k k l'[i] k' (up hi) last (up (qa2 hlt)) last').mp rfl;rw[<-e];exact getElem_mem hlt
   .intro hm;obtain⟨i,hi⟩:=mem_iff_getElem?.mp hm;have hlt:i<l.length:=by have:=(qa1 hi).1;omega
    have e:=(hp i n l[i] k k' k' (up (qa2 hlt)) last (up hi) last').mpr rfl;rw[<-e];exact getElem_mem hlt
  have split:∀{i:Nat}{a:κ}{a':κ'},(l++[k])[i]?=some a->(l'++[k'])[i]?=some a'->(l[i]?=some a/\l'[i]?=some a')\/(i=n/\a=k/\a'=k'):=λ{i a a'}e1 e2=>by
   by_cases hi:i<n
   .rw [getElem?_append_left (by omega)]at e1 e2;exact .inl (e1,e2)
   .have:i=n:=by
     have:=(qa1 e1).1;simp at this;omega
    subst this;rw[last]at e1;rw[last']at e2;exact .inr (rfl,(Option.some.inj e1).symm,(Option.some.inj e2).symm)
  rw[dis_snoc,dis_snoc];by_cases hm:k∈dis l
  .have hm':=mm.mp hm;rw[if_pos hm,if_pos hm'];refine(q1,λi a a' e1 e2=>?_);rcases split e1 e2 with⟨e1,e2⟩|⟨rfl,rfl,rfl⟩
   .exact q2 i a a' e1 e2
   .obtain ⟨j,hj⟩:=mem_iff_getElem?.mp (mem_dis.mp hm);have hlt:j<l'.length:=by have:=(qa1 hj).1;omega
    have e:=(hp j i a a l'[j] a' (up hj) last (up (qa2 hlt)) last').mp rfl;exact q2 j a a' hj (by rw[<-e];exact qa2 hlt)
  .have hm':k'∉dis l':=λz=>hm (mm.mpr z);rw[if_neg hm,if_neg hm'];refine(by simp[q1],λi a a' e1 e2=>?_);rcases split e1 e2 with⟨e1,e2⟩|⟨rfl,rfl,rfl⟩
   .rw [idx_app (mem_dis.mpr (qb2 e1)),idx_app (mem_dis.mpr (qb2 e2))];exact q2 i a a' e1 e2
   .rw [jo hm,jo hm',q1]
theorem c_W{κ':Type}[DecidableEq κ']{ks:List κ}{ks':List κ'}(hl:ks.length=ks'.length)(hp:∀(i j:Nat)(a b:κ)(a' b':κ'),ks[i]?=some a->ks[j]?=some b->ks'[i]?=some a'->ks'[j]?=some b'->(a=b↔a'=b')):ao ks=ao ks':=by
 obtain⟨_,h⟩:=ki ks'.length ks ks' hl rfl hp;refine List.ext_getElem? λi=>?_;by_cases hi:i<ks.length
 .have e1:ks[i]?=some ks[i]:=qa2 hi;have e2:ks'[i]?=some (ks'[i]'(by omega)):=qa2 (by omega);rw[ao,ao,qa6,qa6,e1,e2];exact congrArg some (h i _ _ e1 e2)
 .rw [getElem?_eq_none (by rw[d_T];omega),getElem?_eq_none (by rw[d_T];omega)]
end
def cy(W:LL)(lots:LN)(i:Nat):Nat×LN:=(lots.getD i 0,(W.getD i []).map λg=>lots.getD g 0,)
def d_W(W:LL)(lots:LN):List (Nat×LN):=(List.range W.length).map (cy W lots)
def Rd(W:LL)(B:List Bool):Nat->LN
 |0=>ao B
 |k+1=>ao (d_W W (Rd W B k))
theorem e_p(h:i<W.length):(d_W W lots)[i]?=some (cy W lots i):=by
 rw[d_W,qa6,getElem?_range h];rfl
theorem a_v(W:LL)(lots:LN):(d_W W lots).length=W.length:=by simp[d_W]
theorem c_d{L:LN}{W:LL}{B:List Bool}(h:Mach L W B):∀k,(Rd W B k).length=W.length
 |0=>by rw[Rd,d_T,h.bl]
 |k+1=>by rw[Rd,d_T,a_v]
theorem bQ(h:Mach L W B)(hx:x∈Rd W B k):x<W.length:=by
 cases k with
 |zero=>rw[<-h.bl];exact f_n hx
 |succ k=>rw[<-a_v W (Rd W B k)];exact f_n hx
def lot(W:LL)(B:List Bool)(k r:Nat):Nat:=(Rd W B k).getD r 0
theorem fq(h:Mach L W B)(hr:r<W.length)(hs:s<W.length):lot W B 0 r=lot W B 0 s↔B.getD r false=B.getD s false:=by
 have e1:B[r]?=some (B[r]'(by rw[h.bl];exact hr)):=qa2 _;have e2:B[s]?=some (B[s]'(by rw[h.bl];exact hs)):=qa2 _;rw[lot,lot,Rd,e_o e1 e2,qa3,qa3,e1,e2];rfl
theorem c_l(h:Mach L W B)(hr:r<W.length):(W.getD r []).length=L.length/\∀x∈W.getD r [],x<W.length:=by
 have e:W.getD r []=W[r]:=by rw[qa3,qa2 hr];rfl
 rw[e];exact h.row _ (getElem_mem hr)
def goal(W:LL)(r i:Nat):Nat:=(W.getD r []).getD i 0
theorem b_E(h:Mach L W B)(hr:r<W.length)(hi:i<L.length):goal W r i<W.length:=by
 obtain⟨h1,h2⟩:=c_l h hr;rw[goal,qa3,qa2 (by omega)];exact h2 _ (getElem_mem _)
theorem c_V(L:LN)(W:LL)(r c:Nat):nxt L W r c=goal W r (L.idxOf c):=rfl
theorem c_v(h:Mach L W B)(hr:r<W.length)(hs:s<W.length):lot W B (k+1) r=lot W B (k+1) s↔lot W B k r=lot W B k s/\∀i<L.length,lot W B k (goal W r i)=lot W B k (goal W s i):=by
 rw[lot,lot,Rd,e_o (e_p hr) (e_p hs),cy,cy,Prod.mk.injEq];obtain⟨a1,_⟩:=c_l h hr;obtain⟨b1,_⟩:=c_l h hs;refine and_congr Iff.rfl (λe i hi=>?_,λe=>List.ext_getElem? λi=>?_)
 .have:=congrArg (λl=>l[i]?) e;simp only[qa6]at this;rw[qa2 (by omega),qa2 (by omega)]at this;rw[goal,goal,qa3 (l:=W.getD r []),qa3 (l:=W.getD s []),qa2 (by omega),qa2 (by omega)];exact Option.some.inj this
 .by_cases hi:i<L.length
  .have:=e i hi;rw[goal,goal,qa3 (l:=W.getD r []),qa3 (l:=W.getD s []),qa2 (by omega),qa2 (by omega)]at this;rw[qa6,qa6,qa2 (by omega),qa2 (by omega)];exact congrArg some this
  .rw [qa6,qa6,getElem?_eq_none (by omega),getElem?_eq_none (by omega)]
theorem mJ(h:Mach L W B)(hr:r<W.length)(hs:s<W.length):∀{j:Nat},j≤k->lot W B k r=lot W B k s->lot W B j r=lot W B j s:=by
 induction k with
 |zero=>intro j hj e;rw[Nat.le_zero.mp hj];exact e
 |succ k ih=>
  intro j hj e;by_cases hjk:j=k+1
  .subst hjk;exact e
  .exact ih (by omega) ((c_v h hr hs).mp e).1
def eM(n:Nat)(lots:LN):Nat:=(List.range (n*n)).countP λx=>decide (lots.getD (x/n) 0=lots.getD (x%n) 0)
theorem f_x{α:Type}{p q:α->Bool}:∀{l:List α},(∀x∈l,p x=true->q x=true)->(∃x∈l,q x=true/\p x=false)->l.countP p<l.countP q
 |[],_,⟨x,hx,_⟩=>by simp at hx
 |a::l,hi,⟨x,hx,hq,hp⟩=>by
  have le:l.countP p≤l.countP q:=List.countP_mono_left λy hy=>hi y (by simp[hy]);rw[List.countP_cons,List.countP_cons];rcases mem_cons.mp hx with rfl|hx
  .rw [hq,hp];simp;omega
  .have:=f_x (l:=l) (λy hy=>hi y (by simp[hy])) (x,hx,hq,hp);have h1:=hi a (by simp);cases hpa:p a with
   |false=>simp;omega
   |true=>rw[h1 hpa];simp;omega
theorem eL(h:Mach L W B)(e:Rd W B (k+1)≠Rd W B k):eM W.length (Rd W B (k+1))<eM W.length (Rd W B k):=by
 have hn:=h.n1;have cell:∀x∈List.range (W.length*W.length),x/W.length<W.length/\x%W.length<W.length:=λx hx=>by
  have hx:=mem_range.mp hx;exact(Nat.div_lt_of_lt_mul hx,Nat.mod_lt _ (by omega))
 refine f_x (λx hx hp=>?_) ?_
 .obtain ⟨c1,c2⟩:=cell x hx;have q:lot W B (k+1) (x/W.length)=lot W B (k+1) (x%W.length):=of_decide_eq_true hp;exact decide_eq_true ((c_v h c1 c2).mp q).1
 .refine Classical.byContradiction λno=>e ?_;have pat:∀r s,r<W.length->s<W.length->(lot W B (k+1) r=lot W B (k+1) s↔lot W B k r=lot W B k s):=λr s hr hs=>by
   refine(λq=>((c_v h hr hs).mp q).1,λq=>Classical.byContradiction λnq=>no (r*W.length+s,?_,?_,?_))
   .rw [mem_range]
    calc r*W.length+s<r*W.length+W.length:=by omega
     _=(r+1)*W.length:=by rw[Nat.succ_mul]
     _≤W.length*W.length:=Nat.mul_le_mul_right _ hr
   .have d1:(r*W.length+s)/W.length=r:=by rw[Nat.mul_comm,Nat.mul_add_div (by omega),Nat.div_eq_of_lt hs];omega
    have d2:(r*W.length+s)%W.length=s:=by rw[Nat.mul_comm,Nat.mul_add_mod,Nat.mod_eq_of_lt hs]
    simp only[d1,d2];exact decide_eq_true q
   .have d1:(r*W.length+s)/W.length=r:=by rw[Nat.mul_comm,Nat.mul_add_div (by omega),Nat.div_eq_of_lt hs];omega
    have d2:(r*W.length+s)%W.length=s:=by rw[Nat.mul_comm,Nat.mul_add_mod,Nat.mod_eq_of_lt hs]
    simp only[d1,d2];exact decide_eq_false nq
  cases k with
  |zero=>
   show ao (d_W W (Rd W B 0))=ao B;refine c_W (by rw[a_v,h.bl]) λi j a b a' b' e1 e2 e3 e4=>?_;have hi:i<W.length:=by have:=(qa1 e1).1;rwa [a_v]at this
   have hj:j<W.length:=by have:=(qa1 e2).1;rwa [a_v]at this
   rw[<-e_o e1 e2,<-e_o e3 e4];exact pat i j hi hj
  |succ k=>
   show ao (d_W W (Rd W B (k+1)))=ao (d_W W (Rd W B k));refine c_W (by rw[a_v,a_v]) λi j a b a' b' e1 e2 e3 e4=>?_;have hi:i<W.length:=by have:=(qa1 e1).1;rwa [a_v]at this
   have hj:j<W.length:=by have:=(qa1 e2).1;rwa [a_v]at this
   rw[<-e_o e1 e2,<-e_o e3 e4];exact pat i j hi hj
def f_G(W:LL)(B:List Bool)(k r s:Nat):List Bool:=((W.getD r []).zip (W.getD s [])).map λp=>decide (lot W B k p.1=lot W B k p.2)
def place(W:LL)(B:List Bool)(k r s:Nat):Nat:=(f_G W B k r s).idxOf false
def pw(L:LN)(W:LL)(B:List Bool):Nat->Nat->Nat->LN
 |0,_,_=>[]
 |k+1,r,s=>L.getD (place W B k r s) 0::pw L W B k (goal W r (place W B k r s)) (goal W s (place W B k r s))
theorem d_N(h:Mach L W B)(hr:r<W.length)(hs:s<W.length)(hi:i<L.length):(f_G W B k r s)[i]?=some (decide (lot W B k (goal W r i)=lot W B k (goal W s i))):=by
 obtain⟨a1,_⟩:=c_l h hr;obtain⟨b1,_⟩:=c_l h hs;rw[f_G,qa6,goal,goal,qa3 (l:=W.getD r []),qa3 (l:=W.getD s [])];have e:((W.getD r []).zip (W.getD s []))[i]?=some ((W.getD r [])[i]'(by omega),(W.getD s [])[i]'(by omega),):=by
  rw[getElem?_zip_eq_some];exact(qa2 _,qa2 _)
 rw[e,qa2 (by omega),qa2 (by omega)];rfl
theorem f_i(h:Mach L W B)(hr:r<W.length)(hs:s<W.length):(f_G W B k r s).length=L.length:=by
 obtain⟨a1,_⟩:=c_l h hr;obtain⟨b1,_⟩:=c_l h hs;rw[f_G,qa4,List.length_zip];omega
theorem lP(h:Mach L W B)(hr:r<W.length)(hs:s<W.length)(ne:lot W B (k+1) r≠lot W B (k+1) s)(eq:lot W B k r=lot W B k s):place W B k r s<L.length/\lot W B k (goal W r (place W B k r s))≠lot W B k (goal W s (place W B k r s))/\∀i<place W B k r s,lot W B k (goal W r i)=lot W B k (goal W s i):=by
 have hm:false∈f_G W B k r s:=by
  refine Classical.byContradiction λno=>ne ((c_v h hr hs).mpr (eq,λi hi=>Classical.byContradiction λq=>no ?_));have:=d_N h (k:=k) hr hs hi;rw[decide_eq_false q]at this;exact qb2 this
 have hlt:place W B k r s<(f_G W B k r s).length:=idxOf_lt_length_of_mem hm;have hL:place W B k r s<L.length:=by rw[f_i h hr hs]at hlt;exact hlt
 refine(hL,?_,λi hi=>?_)
 .have e1:=getElem_idxOf hlt;have e2:=d_N h (k:=k) hr hs hL;rw[qa2 hlt]at e2;have e3:decide (lot W B k (goal W r (place W B k r s))=lot W B k (goal W s (place W B k r s)))=false:=by
   rw[<-Option.some.inj e2];exact e1
  exact of_decide_eq_false e3
 .have e2:=d_N h (k:=k) hr hs (i:=i) (by omega);refine Classical.byContradiction λq=>?_;rw[decide_eq_false q]at e2;have:(f_G W B k r s).idxOf false≤i:=by
   have hi2:=(qa1 e2);obtain⟨h1,h2⟩:=hi2;exact d_Y e2
  have h9:place W B k r s≤i:=this;omega
theorem bX{L:LN}{W:LL}{B:List Bool}(h:Mach L W B){k:Nat}(e:∀i<k,Rd W B (i+1)≠Rd W B i):∀j≤k,eM W.length (Rd W B j)+j≤W.length*W.length
 |0,_=>by
  have:=List.countP_le_length (p:=λx=>decide ((Rd W B 0).getD (x/W.length) 0=(Rd W B 0).getD (x%W.length) 0)) (l:=List.range (W.length*W.length));rw[length_range]at this;exact this
 |j+1,hj=>by
  have h1:=bX h e j (by omega);have h2:=eL h (e j (by omega));omega
theorem iF(h:Mach L W B)(e:∀i<k,Rd W B (i+1)≠Rd W B i):k≤4410000:=by
 have h1:=bX h e k (le_refl _);have h2:W.length*W.length≤2100*2100:=Nat.mul_le_mul h.n60 h.n60;omega
end RA
namespace L2
open PySem PySem.Spec PyProof.Rows
def mS(b:Bool):Value->Bool
 |.bool c=>c==b
 |_=>false
theorem b_I(h:mS b v=true):v=.bool b:=by
 cases v with
 |bool c=>rw[eq_of_beq (show(c==b)=true from h)]
 |_=>exact absurd (show false=true from h) Bool.false_ne_true
def b_m(P:Program)(w:World):PySem.KeyKind P w Bool where
 is:=mS
 hash:=λb=>reduceHash (if b then 1 else 0)
 inj:=λv a b ha hb=>by
  have e:=(b_I ha).symm.trans (b_I hb)
  cases e
  rfl
 byValue:=λk v h=>by rw[b_I h];rfl
 pyHash:=λ{A E s k v Q}h q=>by
  cases b_I h
  refine PySem.W.pyHash_slot (T:="bool") rfl F.slot_bool_hash entry_int_hash (args_int_hash _) (beq_builtin_none _) (.inl rfl) ?_
  cases k
  .exact (show wpAny _ _ (do ret (<-mkInt 0)) _ _ s from qa7 (wpAny_mkInt (qa8 (_,_,rfl,q))))
  .exact (show wpAny _ _ (do ret (<-mkInt 1)) _ _ s from qa7 (wpAny_mkInt (qa8 (_,_,rfl,q))))
 eqBool:=λ{A E s a b u v Q}ha hb q=>by
  cases b_I ha
  cases b_I hb
  have e:(a==b)=decide (a=b):=by cases a<;>cases b<;>rfl
  exact SeqAt.EqAt.bool_bool a b _ _ _ _ (by rw[e];exact q)
 «strs»:=λk x t v h=>absurd (show false=true from h) Bool.false_ne_true
abbrev NK:=Nat×LN
def zs(ks:LN):List Int:=ks.map λ(n:Nat)=>(n:Int)
theorem cZ(h:zs a=zs b):a=b:=by
 induction a generalizing b with
 |nil=>cases b with
  |nil=>rfl
  |cons y b=>cases h
 |cons x a ih=>cases b with
  |nil=>cases h
  |cons y b=>
   have h:((x:Int)::zs a)=((y:Int)::zs b):=h;injection h with h1 h2;rw[ih h2,Int.ofNat.inj h1]
section
variable(P:Program)(w:World)
def NestAt(h:Heap)(k:NK)(a:Addr):Prop:=∃(o:Obj)(n:Nat)(t:Tok)(b:Addr),h.get? a=some o/\o.cls=.type "tuple"/\o.data=.seq #[.int (k.1:Int) t,.ref b] n/\IsTupleKey (intKind P w) h (zs k.2) b
def g_B(k:NK):Int:=reduceHash (Builtin.Tuple.tupleHashOf [hashInt (k.1:Int),tupleKeyHash (intKind P w) (zs k.2)])
end
section
variable{P:Program}{w:World}
theorem NestAt.inj(hx:NestAt P w h x a)(hy:NestAt P w h y a):x=y:=by
 obtain⟨o,n,t,b,h1,_,h3,h4⟩:=hx;obtain⟨o',n',t',b',g1,_,g3,g4⟩:=hy;rw[h1]at g1;cases g1;rw[h3]at g3;injection g3 with e1 _;have e2:[Value.int (x.1:Int) t,.ref b]=[Value.int (y.1:Int) t',.ref b']:=congrArg Array.toList e1;injection e2 with e3 e4;injection e3 with e5 _;injection e4 with e6 _;injection e6 with e7;subst e7;have e8:=cZ (h4.inj g4);have e9:x.1=y.1:=Int.ofNat.inj e5;obtain⟨x1,x2⟩:=x;obtain⟨y1,y2⟩:=y;simp only at e8 e9;rw[e8,e9]
theorem NestAt.keeps{es ep}(x:NestAt P w h k a)(ho:h.get? d=some o)(hd:o.data=.dict es ep)(hs:SameBut d h h'):NestAt P w h' k a:=by
 obtain⟨o',n,t,b,h1,h2,h3,h4⟩:=x;refine(o',n,t,b,(hs.2 a ?_).trans h1,h2,h3,h4.keeps ho hd hs);rintro rfl;rw[h1]at ho;cases ho;rw[h3]at hd;cases hd
theorem NestAt.tup(x:NestAt P w h k a):∃t b,h.IsTuple a #[.int (k.1:Int) t,.ref b]/\IsTupleKey (intKind P w) h (zs k.2) b:=by
 obtain⟨o,n,t,b,h1,h2,h3,h4⟩:=x;exact(t,b,(o,h1,h2,n,h3),h4)
theorem km(hu:A.units+1<cLine)(x:NestAt P w s.heap k a)(q:Q (g_B P w k) {s with toks:=s.toks+(k.2.length+3)}):wpAny (model P w) A (pyHash (.ref a)) Q E s:=by
 obtain⟨o,n,t,b,h1,h2,h3,h4⟩:=x;refine PySem.W.pyHash_slot (T:="tuple") (o,h1,h2) F.slot_tuple_hash F.entry_tuple_hash (F.args_tuple_hash_1 _) (beq_builtin_none _) (.inr (by omega)) ?_;refine qa7 (m:=Builtin.Tuple.tupleItemsOf (.ref a)) (wpAny_tupleItemsOf h1 h3 (qa7 ?_));rw[<-forIn_toList];show wpAny _ _ (forIn [Value.int (k.1:Int) t,.ref b] _ _) _ _ _;rw[forIn_cons];refine qa7 (qa7 (wpAny_pyHash_int (qa7 (qa8 (qa8 ?_)))));dsimp only;rw[forIn_cons];refine qa7 (qa7 (wpAny_pyHash_tuple (knd:=intKind P w) (by show A.in1.units<cLine;rw[Around.in1_units];exact hu) h4 (qa7 (qa8 (qa8 ?_)))));dsimp only;rw[forIn_nil];refine qa8 ?_;refine qa7 (wpAny_mkInt (qa8 (_,_,rfl,?_)));have e:s.toks+1+((zs k.2).length+1)+1=s.toks+(k.2.length+3):=by
  have:(zs k.2).length=k.2.length:=by simp[zs]
  omega
 simpa[e,g_B]using q
theorem dg(x:IsTupleKey (intKind P w) h ks b):IsTupleKey (intKind P' w') h ks b:=by
 obtain⟨o,its,n,h1,h2,h3,h4⟩:=x;refine(o,its,n,h1,h2,h3,?_);generalize its.toList=l at h4⊢;induction h4 with
 |nil=>exact .nil
 |cons a _ ih=>exact .cons a ih
theorem oQ(hu:A.units+1<cLine)(hx:NestAt P w s.heap x a)(hy:NestAt P w s.heap y b)(E:Value->Shared->Prop)(Q:Bool->Shared->Prop)(q:Q (decide (x=y)) s):wpAny (model P w) A (eqBool (.ref a) (.ref b)) Q E s:=by
 by_cases hab:a=b
 .subst hab;have e:=hx.inj hy;rw[decide_eq_true e]at q;exact SeqAt.EqAt.same (.ref a) P w E Q q
 .obtain ⟨t,c,h1,h2⟩:=hx.tup;obtain⟨u,d,g1,g2⟩:=hy.tup;have hu1:A.in1.units<cLine:=by rw[Around.in1_units];exact hu
  have inner:SeqAt.EqAt A.in1 s (.ref c) (.ref d) (decide (zs x.2=zs y.2)):=λP' w' E' Q' q'=>wpAny_eqBool_tuple (knd:=intKind P' w') hu1 (dg h2) (dg g2) q';have all:=SeqAt.EqAt.of_refs (A:=A) hab (SeqAt.RcAt.tuples (s:=s) (e:=λj=>if j=0 then((x.1:Int)==(y.1:Int))else decide (zs x.2=zs y.2)) h1 g1 (by omega) (λj l1 l2=>by
   match j,l1,l2 with
   |0,_,_=>exact SeqAt.EqAt.int_int _ t _ u
   |1,_,_=>exact inner
   | n+2,l1,_=>exact absurd l1 (by show ¬ (n+2<2);omega)))
  refine all P w E Q ?_;have e:((List.range (min (#[Value.int (x.1:Int) t,.ref c]:Array Value).size (#[Value.int (y.1:Int) u,.ref d]:Array Value).size)).all (λj=>if j=0 then((x.1:Int)==(y.1:Int))else decide (zs x.2=zs y.2))&&(#[Value.int (x.1:Int) t,.ref c]:Array Value).size==(#[Value.int (y.1:Int) u,.ref d]:Array Value).size)=decide (x=y):=by
   show(((x.1:Int)==(y.1:Int))&&(decide (zs x.2=zs y.2)&&true)&&true)=_;obtain⟨x1,x2⟩:=x;obtain⟨y1,y2⟩:=y;by_cases e1:x1=y1
   .by_cases e2:x2=y2
    .subst e1 e2;simp
    .have:zs x2≠zs y2:=λz=>e2 (cZ z);simp[e1,e2,this]
   .have:¬ ((x1:Int)=(y1:Int)):=λz=>e1 (Int.ofNat.inj z);simp[e1,this]
  rw[e];exact q
theorem e_J(x:s.heap.IsTuple a items)(hi:∀v∈items.toList,∀(R:Bool->Shared->Prop),R true s->wpAny (model P w) A (eqIsQuiet n v) R E s)(q:Q true s):wpAny (model P w) A (eqIsQuiet (n+1) (.ref a)) Q E s:=by
 obtain⟨o,h1,h2,m,h3⟩:=x;have hT:s.TypeIs (.ref a) "tuple":=(o,h1,h2);unfold eqIsQuiet;refine qa7 (wpAny_specialOf hT F.slot_tuple_eq.lookup (qa7 (m:=isInstance (.ref a) (.type "tuple")) (wpAny_isInstance hT isSubtype_tuple_tuple ?_)));simp only[Bool.not_true,Bool.false_eq_true,if_false];refine qa7 (wpAny_seqItems h1 h3 (qa7 ?_));show wpAny _ _ (forIn items _ _) _ _ _;rw[<-forIn_toList];refine wpAny_forIn_list _ (λrest r s'=>r.1=none/\s'=s/\∀v∈rest,v∈items.toList) _ ?_ ?_ _ _ (rfl,rfl,λv hv=>hv)
 .rintro v rest r s'⟨hr,rfl,all⟩;refine qa7 (hi v (all v mem_cons_self) _ ?_);simp only[Bool.not_true,Bool.false_eq_true,if_false];exact qa8 (rfl,rfl,λu hu=>all u (mem_cons_of_mem _ hu))
 .rintro⟨r1,r2⟩s'⟨hr,rfl,_⟩;simp only at hr;subst hr;exact qa8 q
theorem ik(x:NestAt P w s.heap k a)(q:Q true s):wpAny (model P w) A (eqIsQuiet 8 (.ref a)) Q E s:=by
 obtain⟨t,b,h1,h2⟩:=x.tup;refine e_J (n:=7) h1 (λv hv R r=>?_) q;have hv:v∈[Value.int (k.1:Int) t,.ref b]:=hv;rcases mem_cons.mp hv with rfl|hv
 .rw [eqIsQuiet_byValue _ rfl];exact qa8 r
 .rw [qb1 hv];obtain⟨o,its,n,g1,g2,g3,g4⟩:=h2;refine e_J (n:=6) (o,g1,g2,n,g3) (λv hv R r=>?_) r;rw[eqIsQuiet_byValue _ (g4.byValue v hv)];exact qa8 r
end
def mF(P:Program)(w:World):HeapKind P w NK where
 is:=NestAt P w
 hash:=g_B P w
 draws:=λk=>k.2.length+3
 room:=λA=>A.units+1<cLine
 inj:=λa b=>a.inj b
 keeps:=λx ho hd hs=>x.keeps ho hd hs
 pyHash:=λhu hk h=>km hu hk h
 eqBool:=λhu hx hy h=>oQ hu hx hy _ _ h
 quiet:=λhk h=>ik hk h
structure HKd(P:Program)(w:World)(κ:Type)[DecidableEq κ] where
 knd:HeapKind P w κ
 kin:Hp->κ->Addr->Prop
 ok:∀{H:Hp}{h:Heap}{k:κ}{a:Addr},kin H k a->HOk P w H h->knd.is h k a
 room:∀{A:Around},A.units+64<cLine->knd.room A.in1/\knd.room A
 stay:∀{H H':Hp}{k:κ}{a:Addr},(∀b xs,H b=some (.tup xs)->H' b=some (.tup xs))->kin H k a->kin H' k a
def TIn(H:Hp)(k:List Int)(a:Addr):Prop:=H a=some (.tup (k.map V.int))
def NIn(H:Hp)(k:NK)(a:Addr):Prop:=∃b,H a=some (.tup [.int (k.1:Int),.ref b])/\H b=some (.tup ((zs k.2).map V.int))
theorem items_int{P:Program}{w:World}:∀{ks:List Int}{us:List Value},ad (ks.map V.int) us->ItemsAre (intKind P w) ks us
 |[],_,r=>by rw[List.map_nil]at r;cases r;exact .nil
 |k::ks,_,r=>by
  rw[map_cons]at r;cases r with
  |cons h t=>
   obtain⟨u,rfl⟩:=(show ∃t,_=Value.int k t from h);exact .cons (by show Value.isInt k (.int k u)=true;simp[Value.isInt]) (items_int t)
theorem gU(e:TIn H k a)(ok:HOk P w H h):IsTupleKey (intKind P w) h k a:=by
 obtain⟨_,its,r,o,h1,h2,n,h3⟩:=(show a_L P w H h a (.tup (k.map V.int))from ok a _ e);exact(o,its.toArray,n,h1,h2,h3,by simpa using items_int r)
def f_H(P:Program)(w:World):HKd P w (List Int) where
 knd:=tupleKind (intKind P w)
 kin:=TIn
 ok:=λe ok=>gU e ok
 room:=λ{A}hu=>(by show A.in1.units<cLine;rw[Around.in1_units];omega,by show A.units<cLine;omega)
 stay:=λs e=>s _ _ e
def e_F(P:Program)(w:World):HKd P w NK where
 knd:=mF P w
 kin:=NIn
 ok:=λ{H h k a}e ok=>by
  obtain⟨b,e1,e2⟩:=e
  obtain⟨_,its,r,o,h1,h2,n,h3⟩:=(show a_L P w H h a (.tup [.int (k.1:Int),.ref b])from ok a _ e1)
  obtain⟨u1,u2,rfl,r1,r2⟩:=bp r
  obtain⟨t,rfl⟩:=(show ∃t,u1=Value.int (k.1:Int) t from r1)
  cases(show u2=Value.ref b from r2)
  exact(o,n,t,b,h1,h2,h3,gU e2 ok)
 room:=λ{A}hu=>(by show A.in1.units+1<cLine;rw[Around.in1_units];omega,by show A.units+1<cLine;omega)
 stay:=λs hZ2=>by obtain⟨b,e1,e2⟩:=hZ2;exact(b,s _ _ e1,s _ _ e2)
def kdO{P:Program}{w:World}{κ:Type}[DecidableEq κ](knd:PySem.KeyKind P w κ)(d:Addr)(kvs:List (κ×V)):HO:=.ext λh=>(d==sysModules)=false/\kvs.length≤sizeLine/\∃vs,KV kvs vs/\h.DictOf knd d vs
abbrev KHr(κ:Type):(κ×Addr×V)->(κ×Addr×Value)->Prop:=λp q=>p.1=q.1/\p.2.1=q.2.1/\ac p.2.2 q.2.2
def hdO{P:Program}{w:World}{κ:Type}[DecidableEq κ](D:HKd P w κ)(d:Addr)(kvs:List (κ×Addr×V)):HO:=.ext λh=>(d==sysModules)=false/\kvs.length≤sizeLine/\∃xs,Paired (KHr κ) kvs xs/\
 ∃o es ep,h.get? d=some o/\o.ExactDict/\o.data=.dict es ep/\es.toList=xs.map (entryOfKey D.knd)/\(xs.map (·.1)).Nodup
section
variable{P:Program}{w:World}{κ:Type}[DecidableEq κ]
theorem fE{knd:PySem.KeyKind P w κ}{H:Hp}{h:Heap}{d:Addr}{kvs:List (κ×V)}{vs:List (κ×Value)}(ns:(d==sysModules)=false)(hl:kvs.length≤sizeLine)(r:KV kvs vs)(dd:h.DictOf knd d vs):a_L P w H h d (kdO knd d kvs):=by
 refine((ns,hl,vs,r,dd),let⟨o,_,_,e,_⟩:=dd;(o,e),λh1 h2 a b=>?_);obtain⟨a1,a2,vs,r,o,es,ep,e,q⟩:=a;exact(a1,a2,vs,r,o,es,ep,b o e,q)
theorem cz{D:HKd P w κ}{H:Hp}{h:Heap}{d:Addr}{kvs:List (κ×Addr×V)}{xs:List (κ×Addr×Value)}(ns:(d==sysModules)=false)(hl:kvs.length≤sizeLine)(r:Paired (KHr κ) kvs xs)(dd:h.DictOfH D.knd d xs):a_L P w H h d (hdO D d kvs):=by
 obtain⟨o,es,ep,e,q1,q2,q3,_,q5⟩:=dd;refine((ns,hl,xs,r,o,es,ep,e,q1,q2,q3,q5),(o,e),λh1 h2 a b=>?_);obtain⟨a1,a2,vs,r,o,es,ep,e,q⟩:=a;exact(a1,a2,vs,r,o,es,ep,b o e,q)
theorem f_J{knd:PySem.KeyKind P w κ}{H:Hp}{h:Heap}{d:Addr}{kvs:List (κ×V)}(ok:HOk P w H h)(e:H d=some (kdO knd d kvs)):(d==sysModules)=false/\kvs.length≤sizeLine/\∃vs,KV kvs vs/\h.DictOf knd d vs:=(ok d _ e).1
theorem bK{D:HKd P w κ}{H:Hp}{h:Heap}{d:Addr}{kvs:List (κ×Addr×V)}(ok:HOk P w H h)(e:H d=some (hdO D d kvs))(hk:∀x∈kvs,D.kin H x.1 x.2.1):(d==sysModules)=false/\kvs.length≤sizeLine/\∃xs,Paired (KHr κ) kvs xs/\h.DictOfH D.knd d xs:=by
 obtain⟨a1,a2,xs,r,o,es,ep,e1,q1,q2,q3,q5⟩:=(ok d _ e).1;refine(a1,a2,xs,r,o,es,ep,e1,q1,q2,q3,?_,q5);clear q3 q5 e a2;induction r with
 |nil=>intro x hx;simp at hx
 |@cons p q ps qs h t ih=>
  intro x hx;rcases mem_cons.mp hx with rfl|hx
  .have:=D.ok (hk p (by simp)) ok;rw[<-h.1,<-h.2.1];exact this
  .exact ih (λy hy=>hk y (by simp[hy])) x hx
def av(kvs:List (κ×Addr×V))(k:κ):Option V:=(kvs.find? λx=>decide (x.1=k)).map (·.2.2)
theorem iy{kvs:List (κ×Addr×V)}{xs:List (κ×Addr×Value)}(r:Paired (KHr κ) kvs xs)(k:κ):aq (av kvs k) ((atKey xs k).map (·.2)):=by
 induction r with
 |nil=>exact True.intro
 |@cons p q ps qs h t ih=>
  by_cases e:p.1=k
  .have e':q.1=k:=h.1.symm.trans e;have a1:av (p::ps) k=some p.2.2:=by simp[av,find?_cons,e]
   have b:atKey (q::qs) k=some q.2:=by simp[atKey,find?_cons,e']
   rw[a1,b];exact h.2.2
  .have e':¬ q.1=k:=λz=>e (h.1.trans z);have a1:av (p::ps) k=av ps k:=by simp[av,find?_cons,e]
   have b:atKey (q::qs) k=atKey qs k:=by simp[atKey,find?_cons,e']
   rw[a1,b];exact ih
theorem dC{α β:Type}{F:α->β->Prop}{a:α}{b:β}(h:F a b):∀{l:List α}{m:List β},Paired F l m->Paired F (l++[a]) (m++[b])
 |_,_,.nil=>.cons h .nil
 |_,_,.cons r t=>.cons r (dC h t)
theorem d_r(r:aq o u):o.isSome=u.isSome:=by
 cases o<;>cases u<;>first|rfl|exact(show False from r).elim
end
section
variable{X:Cx}{pins:List (Addr×Obj)}{σ:St}{H:Hp}{s:Shared}{d:Addr}
theorem Inv.bigS(I:Inv X pins σ H s):sysModules<s.heap.objs.size:=by
 have h:mainGlobals<s.heap.objs.size:=(I.mod.glob.keeps I.bk).lt;exact lt_trans (by decide) h
def pi(P:Program)(w:World)(H:Hp)(d:Addr)(y:V)(r:Option V):Prop:=
 (∃kvs k,H d=some (kdO (b_m P w) d kvs)/\y=.bl k/\r=aW kvs k) \/
 (∃kvs k b,H d=some (hdO (e_F P w) d kvs)/\(∀x∈kvs,NIn H x.1 x.2.1)/\y=.ref b/\NIn H k b/\r=av kvs k) \/
 ∃kvs k b,H d=some (hdO (f_H P w) d kvs)/\(∀x∈kvs,TIn H x.1 x.2.1)/\y=.ref b/\TIn H k b/\r=av kvs k
def sB(P:Program)(w:World)(H:Hp)(d:Addr)(y v:V)(H':Hp):Prop:=
 (∃kvs k,H d=some (kdO (b_m P w) d kvs)/\y=.bl k/\aW kvs k=none/\kvs.length<sizeLine/\H'=upd H d (kdO (b_m P w) d (kvs++[(k,v,)]))) \/
 (∃kvs k b,H d=some (hdO (e_F P w) d kvs)/\(∀x∈kvs,NIn H x.1 x.2.1)/\y=.ref b/\NIn H k b/\av kvs k=none/\kvs.length<sizeLine/\H'=upd H d (hdO (e_F P w) d (kvs++[(k,b,v,)]))) \/
 ∃kvs k b,H d=some (hdO (f_H P w) d kvs)/\(∀x∈kvs,TIn H x.1 x.2.1)/\y=.ref b/\TIn H k b/\av kvs k=none/\kvs.length<sizeLine/\H'=upd H d (hdO (f_H P w) d (kvs++[(k,b,v,)]))
def sC(P:Program)(w:World)(H:Hp)(d:Addr)(n:Nat):Prop:=
 (∃kvs,H d=some (kdO (b_m P w) d kvs)/\n=kvs.length)\/∃kvs,H d=some (hdO (e_F P w) d kvs)/\n=kvs.length
theorem mY{κ:Type}[DecidableEq κ]{D:HKd X.prog X.w κ}{kvs:List (κ×Addr×V)}{k:κ}{b:Addr}{v:V}{A:Around}{E:Value->Shared->Prop}{Q:Value->Shared->Prop}(hu:A.units+64<cLine)(I:Inv X pins σ H s)(e:H d=some (hdO D d kvs))(hk:∀x∈kvs,D.kin H x.1 x.2.1)(kb:D.kin H k b)(l:some v=av kvs k)(h:∀w' s',Inv X pins σ H s'->ac v w'->Q w' s'):wpAny (model X.prog X.w) A (getItem (.ref d) (.ref b)) Q E s:=by
 obtain⟨_,_,xs,rel,dd⟩:=bK I.hok e hk;obtain⟨w',hw,rw'⟩:=aq.some_of (v:=v) (o:=(atKey xs k).map (·.2)) (by rw[l];exact iy rel k);obtain⟨p,hp,hp2⟩:=qb3 hw;refine wpAny_getItem_heap (D.room hu).1 (D.ok kb I.hok) dd hp ?_;rw[hp2];exact h w' _ (I.tok _) rw'
theorem dP{κ:Type}[DecidableEq κ]{D:HKd X.prog X.w κ}{kvs:List (κ×Addr×V)}{k:κ}{b:Addr}{A:Around}{E:Value->Shared->Prop}{Q:Value->Shared->Prop}(hu:A.units+64<cLine)(I:Inv X pins σ H s)(e:H d=some (hdO D d kvs))(hk:∀x∈kvs,D.kin H x.1 x.2.1)(kb:D.kin H k b)(h:∀s',Inv X pins σ H s'->Q (.bool (!(av kvs k).isSome)) s'):wpAny (model X.prog X.w) A (compareOp .NotIn (.ref b) (.ref d)) Q E s:=by
 obtain⟨ns,_,xs,rel,dd⟩:=bK I.hok e hk;refine wpAny_notIn_heap (D.room hu).1 (D.ok kb I.hok) ns dd ?_;have q:=d_r (iy rel k);rw[Option.isSome_map]at q;rw[<-q];exact h _ (I.tok _)
theorem e_a(I:Inv X pins σ H s)(mu:Mut (H d))(hs:SameBut d s.heap h')(he:∃q,h'.get? d=some q)(new:a_L X.prog X.w (upd H d ob) h' d ob):Inv X pins σ (upd H d ob) {s with heap:=h',toks:=t'}:=
 I.write (x:=d) (e:=d) mu (.inl rfl) (λb q hb z=>(hs.2 b hb).trans z) he new
theorem pH{κ:Type}[DecidableEq κ]{D:HKd X.prog X.w κ}{kvs:List (κ×Addr×V)}{xs:List (κ×Addr×Value)}{k:κ}{b:Addr}{v:V}{r:Value}{h':Heap}{t':Nat}(I:Inv X pins σ H s)(e:H d=some (hdO D d kvs))(ns:(d==sysModules)=false)(hl:kvs.length<sizeLine)(rel:Paired (KHr κ) kvs xs)(hn:av kvs k=none)(rv:ac v r)(dd:h'.DictOfH D.knd d (storedH xs k b r))(hs:SameBut d s.heap h'):Inv X pins σ (upd H d (hdO D d (kvs++[(k,b,v,)]))) {s with heap:=h',toks:=t'}:=by
 have q:=aq.none_of (show aq none ((atKey xs k).map (·.2)) by rw[<-hn];exact iy rel k);rw[storedH_new (Option.map_eq_none_iff.mp q)]at dd;exact e_a I (by rw[e];exact True.intro) hs (let⟨o,_,_,q,_⟩:=dd;(o,q)) (cz ns (by rw[qa5];exact hl) (dC (F:=KHr κ) (rfl,rfl,rv) rel) dd)
theorem mX{κ:Type}[DecidableEq κ]{D:HKd X.prog X.w κ}{kvs:List (κ×Addr×V)}{k:κ}{b:Addr}{v:V}{r:Value}{A:Around}{E:Value->Shared->Prop}{Q:Unit->Shared->Prop}(hu:A.units+64<cLine)(I:Inv X pins σ H s)(e:H d=some (hdO D d kvs))(hk:∀x∈kvs,D.kin H x.1 x.2.1)(kb:D.kin H k b)(hn:av kvs k=none)(hl:kvs.length<sizeLine)(rv:ac v r)(h:∀s',Inv X pins σ (upd H d (hdO D d (kvs++[(k,b,v,)]))) s'->Q () s'):wpAny (model X.prog X.w) A (setItem (.ref d) (.ref b) r) Q E s:=by
 obtain⟨ns,hz,xs,rel,dd⟩:=bK I.hok e hk;exact wpAny_setItem_heap (hsz:=by rw[<-Paired.length rel];exact hz) (D.room hu).1 (D.ok kb I.hok) dd λh' dd' hs=>h _ (pH I e ns hl rel hn rv dd' hs)
theorem dJ{kvs:List (κ×V)}{vs:List (κ×Value)}{k:κ}(rel:KV kvs vs)(rv:ac v r):KV (kvs++[(k,v,)]) (vs++[(k,r,)]):=dC (F:=λ(p:κ×V)(q:κ×Value)=>p.1=q.1/\ac p.2 q.2) (rfl,rv) rel
theorem e_i{κ:Type}[DecidableEq κ]{vs:List (κ×Value)}{k:κ}{r:Value}(h:valueAt vs k=none):stored vs k r=vs++[(k,r,)]:=by
 unfold stored;rw[if_neg];intro q;rw[any_eq_true]at q;obtain⟨x,hx,e⟩:=q;unfold valueAt at h;rw[Option.map_eq_none_iff,List.find?_eq_none]at h;exact h x hx e
theorem jj(ns:(d==sysModules)=false)(ho:s.heap.get? d=some o)(hc:o.ExactDict)(hd:o.data=.dict es ep)(hz:es.size≤sizeLine)(h:∀t t',Q (.int (es.size:Nat) t) {s with toks:=t'}):wpAny (model X.prog X.w) A (call (.builtin "len") [.ref d]) Q E s:=by
 have hT:s.TypeIs (.ref d) "dict":=(o,ho,hc.1);have hb:(es.size:Int)<2^63:=by rw[sizeLine_eq]at hz;omega
 refine Calls.call_function_entry kind_len plain_len entry_len (args_len1 _) ?_;unfold Builtin.«len»;refine qa7 (m:=oneArg "len" _) (qa8 (qa7 (m:=callSpecial? (.ref d) (Str.ofString "__len__")) (wpAny_callSpecial?_slot (name:=Str.ofString "__len__") hT F.slot_dict_len (wpAny_call_entry F.slot_dict_len hT F.entry_dict_len ?_ (F.args_dict_len_1 _)))));refine qa7 (m:=dictSize d) ?_;unfold dictSize;refine qa7 (wpAny_dictEntries ho hd (qa8 (qa7 (m:=Builtin.Dict.pendingCount d) (wpAny_pendingCount_other ns (qa7 (wpAny_mkInt (qa8 (_,rfl,qa7 (wpAny_holding (qa8 (qa7 (wpAny_letGo ?_))))))))))));refine wpAny_ite_false (by simp) (wpAny_ite_false (by simp;omega) (qa7 (wpAny_mkInt (qa8 (_,rfl,?_)))));simpa using h _ _
end
section
variable{X:Cx}
def ot(P:Program)(w:World):R2:=λx y H Q=>∃d o,y=.ref d/\pi P w H d x o/\Q (.bl (!o.isSome)) H
theorem j8(hu:X.A.units+64<cLine):OpR X (compareOp .NotIn) (ot X.prog X.w):=by
 intro pins s σ H x y v u Q I rx ry h;obtain⟨d,o,rfl,g,q⟩:=h;cases ry;rcases g with⟨kvs,k,e,rfl,rfl⟩|⟨kvs,k,b,e,hk,rfl,kb,rfl⟩|⟨kvs,k,b,e,hk,rfl,kb,rfl⟩
 .cases rx;obtain⟨ns,_,vs,rel,dd⟩:=f_J I.hok e;refine wpAny_notIn_of (knd:=b_m X.prog X.w) (k:=k) (show mS k (.bool k)=true by cases k<;>rfl) ns dd.mapOf ?_;rw[<-d_r (rel.val k)];exact(.bl _,H,I.tok _,rfl,q)
 .cases rx;exact dP (D:=e_F X.prog X.w) hu I e hk kb λs' I'=>(.bl _,H,I',rfl,q)
 .cases rx;exact dP (D:=f_H X.prog X.w) hu I e hk kb λs' I'=>(.bl _,H,I',rfl,q)
theorem o7{σ:St}(I:Inv X pins σ H s)(g:pi X.prog X.w H d y o):s.TypeIs (.ref d) "dict":=by
 rcases g with⟨kvs,k,e,_⟩|⟨kvs,k,b,e,hk,_⟩|⟨kvs,k,b,e,hk,_⟩
 .obtain ⟨_,_,vs,_,dd⟩:=f_J I.hok e;exact dd.typeIs
 .obtain ⟨_,_,vs,_,dd⟩:=bK (D:=e_F X.prog X.w) I.hok e hk;exact dd.typeIs
 .obtain ⟨_,_,vs,_,dd⟩:=bK (D:=f_H X.prog X.w) I.hok e hk;exact dd.typeIs
def rN(P:Program)(w:World):R2:=λx y H Q=>∃d v,x=.ref d/\pi P w H d y (some v)/\Q v H
theorem mP(hu:X.A.units+64<cLine):IxR X (rN X.prog X.w):=by
 intro value slice pins s σ H x y v u Q I rx ry h hs;obtain⟨d,z,rfl,g,q⟩:=h;cases rx;refine tail_any (ops:=[.ref d,u]) (o7 I g) PySem.F.slot_dict_getitem.lookup ?_ hs;rcases g with⟨kvs,k,e,rfl,l⟩|⟨kvs,k,b,e,hk,rfl,kb,l⟩|⟨kvs,k,b,e,hk,rfl,kb,l⟩
 .cases ry;obtain⟨ns,_,vs,rel,dd⟩:=f_J I.hok e;obtain⟨w',hw,rw'⟩:=aq.some_of (v:=z) (o:=valueAt vs k) (by rw[l];exact rel.val k);exact wpAny_getItem_of (knd:=b_m X.prog X.w) (k:=k) (show mS k (.bool k)=true by cases k<;>rfl) dd.mapOf hw (z,H,I.tok _,rw',q)
 .cases ry;exact mY (D:=e_F X.prog X.w) hu I e hk kb l λw' s' I' rw'=>(z,H,I',rw',q)
 .cases ry;exact mY (D:=f_H X.prog X.w) hu I e hk kb l λw' s' I' rw'=>(z,H,I',rw',q)
def rM(P:Program)(w:World):TSet:=λo i v H Q=>∃d H',o=.ref d/\sB P w H d i v H'/\Q H'
theorem set_dictG(hu:X.A.units+64<cLine):qO X (rM X.prog X.w):=by
 intro pins s σ H o i v ov iv u Q I ro ri rv h;obtain⟨d,H',rfl,g,q⟩:=h;cases ro;rcases g with⟨kvs,k,e,rfl,hn,hl,rfl⟩|⟨kvs,k,b,e,hk,rfl,kb,hn,hl,rfl⟩|⟨kvs,k,b,e,hk,rfl,kb,hn,hl,rfl⟩
 .cases ri;obtain⟨ns,hz,vs,rel,dd⟩:=f_J I.hok e;refine wpAny_setItem_pairs (knd:=b_m X.prog X.w) (k:=k) (hsz:=by rw[<-rel.length];exact hz) (show mS k (.bool k)=true by cases k<;>rfl) dd λh' dd' hs=>(_,?_,q);have qn:=aq.none_of (show aq none (valueAt vs k) by rw[<-hn];exact rel.val k);rw[e_i qn]at dd';exact e_a I (by rw[e];exact True.intro) hs (let⟨o,_,_,q,_⟩:=dd';(o,q)) (fE ns (by rw[qa5];exact hl) (dJ rel rv) dd')
 .cases ri;exact mX (D:=e_F X.prog X.w) hu I e hk kb hn hl rv λs' I'=>(_,I',q)
 .cases ri;exact mX (D:=f_H X.prog X.w) hu I e hk kb hn hl rv λs' I'=>(_,I',q)
theorem call_lenD:d_f X (.builtin "len") (λxs H Q=>∃d n,xs=[V.ref d]/\sC X.prog X.w H d n/\Q (.int (n:Nat)) H):=by
 intro pins s σ H xs us Q I r h;obtain⟨d,n,rfl,g,q⟩:=h;obtain⟨u1,rfl,r1⟩:=e_h r;cases r1;rcases g with⟨kvs,e,rfl⟩|⟨kvs,e,rfl⟩
 .obtain ⟨ns,hz,vs,rel,o,es,ep,h1,h2,h3,_,hp,_⟩:=f_J I.hok e;have hs:es.size=kvs.length:=by rw[rel.length,<-hp.length];simp
  refine jj (X:=X) ns h1 h2 h3 (by omega) λt t'=>(.int (kvs.length:Nat),H,I.tok _,(t,by rw[hs]),q)
 .obtain ⟨ns,hz,xs,rel,o,es,ep,h1,h2,h3,he,_⟩:=(I.hok d _ e).1;have hs:es.size=kvs.length:=by rw[Paired.length rel,<-length_toList,he,qa4]
  refine jj (X:=X) ns h1 h2 h3 (by omega) λt t'=>(.int (kvs.length:Nat),H,I.tok _,(t,by rw[hs]),q)
inductive DKd where
 |bl|nest|pair
def oP(P:Program)(w:World)(d:Addr):DKd->HO
 |.bl=>kdO (b_m P w) d []
 |.nest=>hdO (e_F P w) d []
 |.pair=>hdO (f_H P w) d []
theorem qo(h:Heap)(hb:sysModules<h.objs.size)(k:DKd):a_L P w H (h.push {cls:=.type "dict",data:=.dict #[]}) h.objs.size (oP P w h.objs.size k):=by
 have ns:(h.objs.size==sysModules)=false:=beq_eq_false_iff_ne.mpr (Ne.symm (ne_of_lt hb));cases k with
 |bl=>exact fE (knd:=b_m P w) ns (zero_le _) .nil (Heap.DictOf.new h)
 |nest=>exact cz (D:=e_F P w) ns (zero_le _) .nil (DictOfH.new h)
 |pair=>exact cz (D:=f_H P w) ns (zero_le _) .nil (DictOfH.new h)
def rh(P:Program)(w:World):TE:=λ_ H Q=>∃k,∀p,H p=none->Q (.ref p) (upd H p (oP P w p k))
theorem oz:PE X (.Dict [] [] pos) (rh X.prog X.w):=λpins s σ H Q I⟨k,h⟩=>
 wpAny_Dict_empty (.ref s.heap.objs.size,_,I.laid (a:=s.heap.objs.size) (o:=oP X.prog X.w s.heap.objs.size k) (t':=s.toks) (λ_ _ q=>qa9 _ q) (le_refl _) (qo s.heap I.bigS k),rfl,h _ (I.hok.fresh (le_refl _)))
end
section
variable{X:Cx}{elt iter:Expr}{x y:Str}{px py pt pos:Pos}{kt:Nat}{sc:Scope}{wi:TI}{te:TE}
def gZ(K:Frag)(wi:TI)(te:TE):TE:=λσ H Q=>wi σ H λJ H1=>∀D,H1 D=none->∃W:Nat->Nat->List V->Hp->Prop,
 (∃m,W 0 m [] (upd H1 D (.lst [])))/\∀i m ys H2,W i m ys H2->H2 D=some (.lst ys)/\((J.stop i H2/\Q (.ref D) H2)\/(J.go i H2/\ys.length<sizeLine/\∀x H3,J.yld i H2 x H3->
  ∃p a b,x=.ref p/\SqT K H3 p [a,b]/\te (some a::some b::σ) H3 λy H5=>H5 D=some (.lst ys)/\∃m',m'<m/\W (i+1) m' (ys++[y]) (upd H5 D (.lst (ys++[y])))))
end
section
variable{prog:Program}{w:World}{A:Around}{E:Value->Shared->Prop}{s:Shared}{it t:Addr}{i:Nat}{items:Array Value}
theorem ij(hit:s.heap.IsTupleIter it t i)(ht:s.heap.IsTuple t items)(hx:items[i]?=some x)(hQ:∀h',h'.IsTupleIter it t (i+1)->SameBut it s.heap h'->Q x {s with heap:=h'}):wpAny (model prog w) A (Builtin.SmallTypes.nextOf (.ref it)) Q E s:=by
 obtain⟨o,ho,hc,hd⟩:=id hit;obtain⟨ol,hol,_,nl,hdl⟩:=ht;unfold Builtin.SmallTypes.nextOf;refine qa7 (wpAny_callSpecial?_slot (name:=Str.ofString "__next__") hit.typeIs F.slot_tuple_iterator_next (wpAny_call_entry F.slot_tuple_iterator_next hit.typeIs F.entry_tuple_iterator_next ?_ (F.args_tuple_iterator_next_1 _)));refine qa7 (m:=field (.ref it) 0) (wpAny_field ho hd (x:=.ref t) rfl (wpAny_ite_false rfl (qa7 (m:=field (.ref it) 1) (wpAny_field ho hd (x:=.int i 0) rfl (qa7 (m:=seqItems? (.ref t)) (wpAny_seqItems hol hdl ?_))))));simp only[Int.toNat_natCast,hx];refine qa7 (wpAny_setField ho hd (by simp) (qa8 (x,rfl,qa8 (hQ _ (_,get?_update_self _ ho (Obj.isFreed_of_fields (Obj.data_mapFields hd _)),(Obj.cls_mapFields ..).trans hc,?_) (SameBut.update ..)))));rw[Obj.data_mapFields hd];simp[rawInt]
theorem kj(hh:A.handled=none)(hit:s.heap.IsTupleIter it t i)(ht:s.heap.IsTuple t items)(hx:items[i]?=none)(hE:∀h' e,Heap.ExtBut it s.heap h'->(∃o,h'.get? e=some o/\o.cls=.type "StopIteration")->E (.ref e) {s with heap:=h'}):wpAny (model prog w) A (Builtin.SmallTypes.nextOf (.ref it)) Q E s:=by
 obtain⟨o,ho,hc,hd⟩:=id hit;obtain⟨ol,hol,_,nl,hdl⟩:=ht;unfold Builtin.SmallTypes.nextOf;refine qa7 (wpAny_callSpecial?_slot (name:=Str.ofString "__next__") hit.typeIs F.slot_tuple_iterator_next (wpAny_call_entry F.slot_tuple_iterator_next hit.typeIs F.entry_tuple_iterator_next ?_ (F.args_tuple_iterator_next_1 _)));refine qa7 (m:=field (.ref it) 0) (wpAny_field ho hd (x:=.ref t) rfl (wpAny_ite_false rfl (qa7 (m:=field (.ref it) 1) (wpAny_field ho hd (x:=.int i 0) rfl (qa7 (m:=seqItems? (.ref t)) (wpAny_seqItems hol hdl ?_))))));simp only[Int.toNat_natCast,hx];refine qa7 (wpAny_rule (qa7 (wpAny_setField ho hd (by simp) (qa7 (m:=newExc (.type "StopIteration") []) ?_))));simp only[newExc,newTuple];refine qa7 (wpAny_newObj_type (qa7 (m:=firstArgMember _ _) (wpAny_of_eq (a:=Value.none) (by first|rfl|(simp only[firstArgMember];rfl)) (wpAny_newObj_type ?_ (by size_fits)))) (by size_fits));simp only[raiseNew];refine qa7 (wpAny_handled ?_);first|rw[show A.in1.handled=none from hh]|rw[hh]
 exact qa7 (qa8 (wpAny_throw (hE _ _ (((SameBut.update ..).extBut.push _).push _) (_,get?_push_size _ rfl,rfl))))
end
theorem IsTup.keeps{h h':Heap}(x:h.IsTuple t items)(k:∀o,h.get? t=some o->h'.get? t=some o):h'.IsTuple t items:=let⟨o,e,r⟩:=x;(o,k o e,r)
theorem bN(hh:A.handled=none)(it t:Addr)(hne:t≠it)(items:Array Value):Draws prog w A it [it,t] items.size (λi v=>items[i]?=some v) (λi h=>h.IsTupleIter it t i/\h.IsTuple t items)  where
 live:=λ_ _ st=>let⟨o,ho,_⟩:=st.1;(o,ho)
 frame:=λ_ _ _ st hk=>(st.1.at λo e=>hk it (by simp) o e,IsTup.keeps st.2 λo e=>hk t (by simp) o e)
 item:=λi s Q E hi st hQ=>ij st.1 st.2 (x:=items[i]) (by simp[hi]) λh' hit' hs'=>hQ _ h' s.toks (by simp[hi]) (hit',IsTup.keeps st.2 λo e=>(hs'.2 t hne).trans e) hs'
 done:=λs Q E st hE=>kj hh st.1 st.2 (by simp) hE
theorem jL:isSubtype (.type "enumerate") (.type "enumerate")=pure true:=by rw[isSubtype_type];kernel_rfl
set_option maxHeartbeats 1000000 in
theorem fj(l:Addr)(items:Array Value)(n:Nat)(dct:Option Addr)(sl:Array (Option Value)):Meets (Builtin.«enumerate.__new__» ([.type "enumerate",.ref l],[])) (λ_ R s=>s.heap.get? l=some {cls:=.type "tuple",dict:=dct,data:=.seq items n,slots:=sl}/\
   R (.ok (.ret (.ref (s.heap.push {cls:=.type "tuple_iterator",data:=.fields #[.ref l,.int 0 0]}).objs.size)))
    {s with heap:=(s.heap.push {cls:=.type "tuple_iterator",data:=.fields #[.ref l,.int 0 0]}).push {cls:=.type "enumerate",data:=.fields #[.none,.bool false,.ref s.heap.objs.size,rawInt 0,.none,.none]} }):=
 .of_wp λprog w A R s h=>by
  obtain⟨hp,g,d,tk,os⟩:=s;obtain⟨hl,h⟩:=h;have hsub:=jL;have hT:hp.IsTuple l items:=(_,hl,rfl,n,rfl)
  wp_walk using wpAny_pyIter_tuple hT
  refine wpAny_stack_any λst=>qa8 ?_;split
  .rename_i c _ _ _ _ _;cases(c==Value.type "enumerate")<;>(wp_walk using wpAny_pyIter_tuple hT;exact(_,rfl,h))
  .wp_walk using wpAny_pyIter_tuple hT
   exact(_,rfl,h)
theorem iL(hL:s.heap.IsTuple l items)(h:∀h',IsEnum h' (s.heap.objs.size+1) s.heap.objs.size 0 .none->h'.IsTupleIter s.heap.objs.size l 0->(∀b o,s.heap.get? b=some o->h'.get? b=some o)->Q (.ref (s.heap.objs.size+1)) {s with heap:=h'}):wpAny (model prog w) A (call (.type "enumerate") [.ref l]) Q E s:=by
 obtain⟨⟨c,dct,dt,sl⟩,hl,hc,n,hd⟩:=hL;simp only at hc hd;subst hc hd;refine callType_new F.called_enumerate (by decide) (F.typeCall_enumerate_1 _) (F.newCall_enumerate_1 _) (λobj=>F.args_object_init_2 obj _) F.entry_enumerate_new (fj l items n dct sl) (hl,?_);generalize hG:s.heap.push {cls:=.type "tuple_iterator",data:=.fields #[.ref l,.int 0 0]}=G;have hz:G.objs.size=s.heap.objs.size+1:=by rw[<-hG];exact size_push ..
 have he:IsEnum (G.push {cls:=.type "enumerate",data:=.fields #[.none,.bool false,.ref s.heap.objs.size,rawInt 0,.none,.none]}) (s.heap.objs.size+1) s.heap.objs.size 0 .none:=by
  have q:=get?_push_size G (o:={cls:=.type "enumerate",data:=.fields #[.none,.bool false,.ref s.heap.objs.size,rawInt 0,.none,.none]}) rfl;rw[hz]at q;exact q
 show _/\_;rw[hz];exact((_,he,rfl),h _ he (_,qa9 _ (by rw[<-hG];exact get?_push_size _ rfl),rfl,rfl) λb o x=>qa9 _ (by rw[<-hG];exact qa9 _ x))
def ph(a:Addr):It:=⟨λi H=>∃xs x,H a=some (.tup xs)/\xs[i]?=some x,λi H v H'=>∃p x xs,H a=some (.tup xs)/\xs[i]?=some x/\v=.ref p/\H p=none/\H'=upd H p (.tup [.int (i:Int),x]),λi H=>∃xs,H a=some (.tup xs)/\i=xs.length⟩
theorem gR{K:Frag}(a e it:Addr)(hne:e≠it):bU P w K (.Tuple es kt pt) (ph a) [e,it] e (λi h=>(∃old,IsEnum h e it i old)/\h.IsTupleIter it a i)  where
 mem:=by simp
 obj:=λi h hZ0 c hc=>by
  obtain⟨⟨old,he⟩,⟨o1,e1,_,d1⟩⟩:=hZ0;simp only[mem_cons,not_mem_nil,or_false]at hc;rcases hc with rfl|rfl
  .exact (_,he,λv q=>by cases q)
  .exact (o1,e1,λv q=>by rw[d1]at q;cases q)
 keep:=λi h h' hZ1 k=>by obtain⟨⟨old,he⟩,⟨o1,e1,r1⟩⟩:=hZ1;exact((old,k e (by simp) _ he),(o1,k it (by simp) _ e1,r1))
 item:=by
  rintro X hP hw hK hc i pins s σ H E I hf⟨⟨old,he⟩,s1⟩hg;subst hP hw hK;obtain⟨xs,x,hq,hx⟩:=hg;obtain⟨its,rv,p,hz⟩:=I.tuple (SqT.of hq);obtain⟨u,hu,ru⟩:=rv.get hx;have p':s.heap.IsTuple a its.toArray:=p;have hlt:i<its.toArray.size:=by
   have:=(qa1 hu).1;simpa using this
  have hat:a≠it:=by
   obtain⟨o,e1,c1,_⟩:=p';obtain⟨o2,e2,c2,_⟩:=s1;rintro rfl;rw[e1]at e2;cases e2;rw[c1]at c2;exact absurd c2 (by decide)
  have hae:e≠a:=by
   obtain⟨o,e1,c1,_⟩:=p';rintro rfl;have he':s.heap.get? e=some _:=he;rw[e1]at he';cases he';exact absurd (show Value.type "enumerate"=Value.type "tuple" from c1) (by decide)
  refine wpAny_pyNext_enum_itemD (bN (A:=X.A.in1) (I.ok.hd hc) it a hat its.toArray) he (s1,p') hlt hne (by simp[hne,hae]) λv g tk pv ho st new hsz gk=>(_,rfl,?_);have ev:v=u:=by
   have:its.toArray[i]?=some v:=pv;rw[getElem?_toArray,hu]at this;exact(Option.some.inj this).symm
  subst ev;refine wpAny_letOwnedTupleGo_enum (s:={s with heap:=g,toks:=tk+1}) ho λg' ge gs=>?_;have up:∀b o,b≠e->g.get? b=some o->g'.get? b=some o:=λb o hb q=>(gs.2 b hb).trans q;have ne:s.heap.objs.size≠e:=ne_of_gt (lt_size he);have tup:a_L X.prog X.w (upd H s.heap.objs.size (.tup [.int (i:Int),x])) g' s.heap.objs.size (.tup [.int (i:Int),x]):=
   (a_j (by show 2≤16777216;decide),[.int i tk,v],.cons (_,rfl) (.cons ru .nil),(_,up _ _ ne new,rfl,0,rfl))
  refine(.ref s.heap.objs.size,_,I.turnedNew (S:=[e,it]) (h':=g') (t':=tk+1) (λb o hb q=>up b o (λz=>hb (by simp[z])) (gk b o (λz=>hb (by simp[z])) (λz=>hb (by simp[z])) q)) hf tup,rfl,
   (_,x,xs,hq,hx,rfl,I.hok.fresh (le_refl _),rfl),((_,by rw[Int.natCast_succ];exact ge),st.1.at λo q=>up _ o (λz=>hne z.symm) q),λb hb=>?_)
  have lt:b<s.heap.objs.size:=by
   obtain⟨o1,e1,_⟩:=s1;simp only[mem_cons,not_mem_nil,or_false]at hb;rcases hb with rfl|rfl
   .exact lt_size he
   .exact lt_size e1
  rw[upd_ne (ne_of_lt lt)];exact(hf b hb).1
 done:=by
  rintro X hP hw hK hc i pins s σ H E I hf⟨⟨old,he⟩,s1⟩hstop;subst hP hw hK;obtain⟨xs,hq,rfl⟩:=hstop;obtain⟨its,rv,p,hz⟩:=I.tuple (SqT.of hq);have p':s.heap.IsTuple a its.toArray:=p;have hat:a≠it:=by
   obtain⟨o,e1,c1,_⟩:=p';obtain⟨o2,e2,c2,_⟩:=s1;rintro rfl;rw[e1]at e2;cases e2;rw[c1]at c2;exact absurd c2 (by decide)
  have hsz:xs.length=its.toArray.size:=by rw[rv.length];simp
  refine wpAny_pyNext_enum_endD (bN (A:=X.A.in1) (I.ok.hd hc) it a hat its.toArray) he (by rw[<-hsz];exact s1,p') λg gs=>(rfl,?_);exact I.turnedL (S:=[e,it]) (λb o hb q=>gs b o (λz=>hb (by simp[z])) q) hf
 self:=λ_ _ _ _ _ st h=>by
  obtain⟨⟨old,he⟩,_⟩:=st;exact wpAny_pyIter_enum he h
namespace ZP
section
variable{prog:Program}{w:World}{A:Around}{E:Value->Shared->Prop}{s:Shared}{z TI TO i1 i2:Addr}{f1 f2:List Addr}{n1 n2 k:Nat}{P1 P2:Nat->Value->Prop}{S1 S2:Nat->Heap->Prop}{a b:Value}
def tupIt(a:Addr):Obj:={cls:=.type "tuple_iterator",data:=.fields #[.ref a,.int 0 0]}
theorem mQ{a:Addr}(ht:s.heap.IsTuple a items)(h:Q (.ref s.heap.objs.size) {s with heap:=s.heap.push (tupIt a)}):wpAny (model prog w) A (pyIter (.ref a)) Q E s:=wpAny_pyIter_tuple ht h
end
end ZP
end L2
namespace L2
open PySem PySem.Spec PyProof.Rows
theorem fJ:∀{ns:List Int}{us:List Value},ad (ns.map V.int) us->IntsAre us ns
 |[],_,r=>by rw[List.map_nil]at r;cases r;exact .nil
 |n::ns,_,r=>by
  rw[map_cons]at r;cases r with
  |cons h t=>
   obtain⟨u,rfl⟩:=(show ∃t,_=Value.int n t from h);exact .cons n u (fJ t)
section
variable{X:Cx}
def rIndexB:V->List V->Hp->VK->Prop:=λx vs H Q=>∃(l:Addr)(bs:List Bool),x=.ref l/\vs=[.bl false]/\H l=some (.lst (bs.map V.bl))/\false∈bs/\Q (.int (bs.idxOf false:Nat)) H
theorem cj:MtM X "list.index" rIndexB:=by
 intro pins s σ H x vs v us Q I rx rv h;obtain⟨l,bs,rfl,rfl,hH,hm,q⟩:=h;cases rx;obtain⟨u,rfl,ru⟩:=rv.one;cases ru;obtain⟨z,its,n,r,hl,e⟩:=I.lstM hH;have hlen:its.length=bs.length:=by rw[<-r.length,qa4]
 have hlt:bs.idxOf false<bs.length:=idxOf_lt_length_of_mem hm;have at_:∀(j:Nat)(hj:j<its.toArray.size),∃hb:j<bs.length,its.toArray[j]=.bool bs[j]:=λj hj=>by
  have hb:j<bs.length:=by simpa[hlen]using hj
  refine(hb,?_);obtain⟨a,ea,ra⟩:=r.get (i:=j) (x:=.bl bs[j]) (by rw[qa6,qa2 hb];rfl);cases ra;obtain⟨_,q⟩:=qa1 ea;simpa using q
 have hsm:((bs.idxOf false:Nat):Int)<2^63-1:=by
  have h9:(bs.map V.bl).length≤sizeLine:=(I.lst hH).choose_spec.choose_spec.2.2;rw[qa4,sizeLine_eq]at h9;omega
 refine call_meets F.slot_list_index (_,e,rfl) F.entry_list_index (F.args_list_index_2 _ _) (SeqAt.list_indexAt l its.toArray n none #[] (.bool false) (λy=>match y with|.bool b=>b==false|_=>false) (bs.idxOf false) (by simpa[hlen]using hlt) hsm ?_ ?_) (e,?_,(.int _,H,I.tok _,(_,rfl),q))
 .obtain ⟨hb,e1⟩:=at_ (bs.idxOf false) (by simpa[hlen]using hlt);rw[e1];have:=getElem_idxOf hb;rw[this];rfl
 .intro m hm2 hlt2;obtain⟨hb,e1⟩:=at_ m hm2;rw[e1];show(bs[m]==false)=false;cases hbm:bs[m]with
  |true=>rfl
  |false=>
   have:=RA.d_Y (l:=bs) (c:=false) (i:=m) (by rw[qa2 hb,hbm]);omega
 .intro y hy;obtain⟨j,hj,rfl⟩:=Array.mem_iff_getElem.mp hy;obtain⟨hb,e1⟩:=at_ j hj;rw[e1];exact SeqAt.EqAt.bool_bool _ _
def sW(K:Frag):R2:=λx y H Q=>∃(p q:Addr)(xs ys:List Int),x=.ref p/\y=.ref q/\H p=some (.lst (xs.map V.int))/\H q=some (.lst (ys.map V.int))/\xs.length=ys.length/\Q (.bl (decide (xs=ys))) H
theorem qk(hu:X.A.units<cLine):OpR X (compareOp .Eq) (sW X.K):=by
 intro pins s σ H x y v u Q I rx ry h;obtain⟨p,q,xs,ys,rfl,rfl,hp,hq,hl,k⟩:=h;cases rx;cases ry;obtain⟨its,r1,pl1,hz1⟩:=I.list (SqL.of hp);obtain⟨its2,r2,pl2,hz2⟩:=I.list (SqL.of hq);have l1:=r1.length;have l2:=r2.length;rw[qa4]at l1 l2;refine SeqAt.eq_listAt (e:=λj=>decide (xs.getD j 0=ys.getD j 0)) pl1.isList pl2.isList (by simp;omega) hu (λj h1 h2=>?_) (.bl _,H,I,rfl,?_)
 .have hj:j<xs.length:=by simp at h1;omega
  have hj2:j<ys.length:=by omega
  obtain⟨a,ea,ra⟩:=r1.get (i:=j) (x:=.int xs[j]) (by rw[qa6,qa2 hj];rfl);obtain⟨b,eb,rb⟩:=r2.get (i:=j) (x:=.int ys[j]) (by rw[qa6,qa2 hj2];rfl);obtain⟨t,rfl⟩:=ra;obtain⟨t',rfl⟩:=rb;have e1:its.toArray[j]=.int xs[j] t:=by
   obtain⟨_,e⟩:=qa1 ea;simpa using e
  have e2:its2.toArray[j]=.int ys[j] t':=by
   obtain⟨_,e⟩:=qa1 eb;simpa using e
  rw[e1,e2];have e3:decide (xs.getD j 0=ys.getD j 0)=(xs[j]==ys[j]):=by
   rw[qa3,qa3,qa2 hj,qa2 hj2];by_cases z:xs[j]=ys[j]<;>simp[z]
  show SeqAt.EqAt _ _ _ _ (decide (xs.getD j 0=ys.getD j 0));rw[e3];exact SeqAt.EqAt.int_int _ t _ t'
 .have e:((List.range its.toArray.size).all λj=>decide (xs.getD j 0=ys.getD j 0))=decide (xs=ys):=by
   have hs:its.toArray.size=xs.length:=by simp;omega
   rw[hs];by_cases z:xs=ys
   .subst z;simp
   .rw [decide_eq_false z,Bool.eq_false_iff];intro all;refine z (List.ext_getElem? λi=>?_);rw[all_eq_true]at all;by_cases hi:i<xs.length
    .have:=of_decide_eq_true (all i (mem_range.mpr hi));rw[qa3,qa3,qa2 hi,qa2 (by omega)]at this;rw[qa2 hi,qa2 (by omega)];exact congrArg some this
    .rw [getElem?_eq_none (by omega),getElem?_eq_none (by omega)]
  rw[e];exact k
end
def Itv(a:Addr)(n:Nat):It:=⟨λi H=>∃xs,H a=some (.lst xs)/\xs.length=n/\i<n,λi H v H'=>H'=H/\∃xs,H a=some (.lst xs)/\xs[n-1-i]?=some v,λi _=>i=n⟩
theorem lj{K:Frag}(a it:Addr)(n:Nat):bU P w K tg (Itv a n) [it] it (λi h=>h.IsRevIter it a ((n:Int)-1-(i:Int)))  where
 mem:=by simp
 obj:=λi h st b hb=>by
  have e:b=it:=by simpa using hb
  subst e;obtain⟨o,e,c,d⟩:=st;exact(o,e,λv z=>by rw[d]at z;cases z)
 keep:=λi h h' st k=>st.at λo e=>k it (by simp) o e
 item:=by
  intro X hP hw hK hc i pins s σ H E I hf st hg;subst hP hw hK;obtain⟨xs,hq,hl,hi⟩:=hg;have e0:(n:Int)-1-(i:Int)=((n-1-i:Nat):Int):=by omega
  rw[e0]at st;have hx:xs[n-1-i]?=some (xs[n-1-i]'(by omega)):=qa2 _;obtain⟨its,rv,p,hz⟩:=I.list (SqL.of hq);obtain⟨u,hu,ru⟩:=rv.get hx;obtain⟨f0,f1,f2,f3,f4,f5⟩:=hf it (by simp);refine wpAny_pyNext_rev_item st p.isList (x:=u) (by simpa using hu) λh' st' sb=>?_;have I1:Inv X pins σ H {s with heap:=h'}:=I.turned (t':=s.toks) (λb o hb e=>(sb.2 b hb).trans e) f0 f1 f3 f4 f5;have e2:((n-1-i:Nat):Int)-1=(n:Int)-1-((i+1:Nat):Int):=by omega
  rw[e2]at st';obtain⟨o,ho,hcl,hd⟩:=id st';refine(u,rfl,cD (s:={s with heap:=h'}) ho hcl hd (by decide) (_,H,I1,ru,(rfl,xs,hq,hx),st',λb hb=>?_));have e:b=it:=by simpa using hb
  subst e;exact f0
 done:=by
  intro X hP hw hK hc i pins s σ H E I hf st hg;subst hP hw hK;have hg:i=n:=hg;have e0:(n:Int)-1-(i:Int)=-1:=by omega
  rw[e0]at st;obtain⟨f0,f1,f2,f3,f4,f5⟩:=hf it (by simp);exact wpAny_pyNext_rev_end (I.ok.hd hc) st λh' sb=>(rfl,I.turned (t':=s.toks) (λb o hb e=>sb b o hb e) f0 f1 f3 f4 f5)
 self:=λ_ _ _ _ _ st h=>wpAny_pyIter_revIter st h
def tF(t:TA):TI:=λσ H R=>t σ H λvs H1=>∃a xs,vs=[.ref a]/\H1 a=some (.lst xs)/\R (Itv a xs.length) H1
theorem qc{tg a:Expr}{p pos:Pos}(hg:Gl X "reversed")(hm:X.mg "reversed"=none)(ha:PA X [a] ta)(hs:starEach [a] X.env=(false,eval a X.env,)::starEach [] X.env:=by rfl)(hpl:(backTo pos (starEach [] X.env)).any (·.1)=false:=by rfl):PI X tg (.Call (.Name "reversed" p) [a] [] pos) (tF ta):=by
 intro pins s σ H R I h;refine wpAny_Call_Name_kw (ld_blt I hg hm PyProof.Rows.boot_reversed (PyProof.Rows.callWith_type1 (thn (ha pos pins s σ H _ I h) λus s1 z=>?_) hs hpl));obtain⟨vs,H1,I1,r1,b,xs,rfl,hq,q⟩:=z;obtain⟨u1,rfl,r2⟩:=e_h r1;cases r2;obtain⟨its,rv,pp,hz⟩:=I1.list (SqL.of hq);have hsz:its.toArray.size=xs.length:=by rw[rv.length];simp
 refine call_reversed_list pp.isList ?_;have hn:(s1.heap.push (revObj b ((its.toArray.size:Int)-1))).IsRevIter s1.heap.objs.size b ((xs.length:Int)-1-((0:Nat):Int)):=(_,get?_push_size _ rfl,rfl,by rw[hsz];simp[revObj]);refine wpAny_pyIter_revIter (s:={s1 with heap:=s1.heap.push (revObj b ((its.toArray.size:Int)-1))}) hn ?_;refine(_,[s1.heap.objs.size],_,Itv b xs.length,H1,rfl,I1.kept (t':=s1.toks) λb o e=>qa9 _ e,lj b _ _,hn,λc hc=>?_,q);have e:c=s1.heap.objs.size:=by simpa using hc
 subst e;exact I1.fpOk (le_refl _) (I1.hok.fresh (le_refl _))
def kY(J:It)(a:Addr)(o:HO)(xs:List V):Prop:=∀H2:Hp,H2 a=some o->(∀i,i<xs.length->J.go i H2)/\(∀i x H3,i<xs.length->J.yld i H2 x H3->H3=H2/\xs[i]?=some x)/\J.stop xs.length H2
theorem qi{K:Frag}:kY (Itl K a) a (.lst xs) xs:=λH2 e=>
 (λi h=>(xs,xs[i],SqL.of e,qa2 h),λi x H3 _ hZ2=>by obtain⟨e1,h⟩:=hZ2;exact(e1,h xs (SqL.of e)),(xs,SqL.of e,le_refl _))
theorem qh{K:Frag}:kY (Itt K a) a (.tup xs) xs:=λH2 e=>
 (λi h=>(xs,xs[i],SqT.of e,qa2 h),λi x H3 _ hZ0=>by obtain⟨e1,h⟩:=hZ0;exact(e1,h xs (SqT.of e)),(xs,SqT.of e,le_refl _))
def iSq(tl:TE):TI:=λσ H R=>tl σ H λx H1=>∃a o xs,x=.ref a/\(o=.lst xs\/o=.tup xs)/\H1 a=some o/\∀J,kY J a o xs->R J H1
theorem d_K(hl:PE X l tl):PI X tg l (iSq tl):=by
 intro pins s σ H R I h;refine thn (hl pins s σ H _ I h) λv s1 hZ1=>?_;obtain⟨x,H1,I1,r1,q1⟩:=hZ1;obtain⟨a,o,xs,e,ho,hq,q⟩:=q1;subst e;cases r1;have tail:∀b∈[s1.heap.objs.size],aZ X pins H1 b:=λb hb=>by
  have e:b=s1.heap.objs.size:=by simpa using hb
  subst e;exact I1.fpOk (le_refl _) (I1.hok.fresh (le_refl _))
 rcases ho with rfl|rfl
 .obtain ⟨its,rv,p,hz⟩:=I1.list (SqL.of hq);refine wpAny_pyIter_list p.isList ?_;exact(s1.heap.objs.size,[s1.heap.objs.size],_,_,H1,rfl,I1.kept (t':=s1.toks) λb o e=>qa9 _ e,jJ a _,(_,get?_push_size _ rfl,rfl,rfl),tail,q _ qi)
 .obtain ⟨its,rv,p,hz⟩:=I1.tuple (SqT.of hq);refine wpAny_pyIter_tuple (show s1.heap.IsTuple a its.toArray from p) ?_;exact(s1.heap.objs.size,[s1.heap.objs.size],_,_,H1,rfl,I1.kept (t':=s1.toks) λb o e=>qa9 _ e,f_N a _,(_,get?_push_size _ rfl,rfl,rfl),tail,q _ qh)
theorem fR{g:TG}{tb:TS}{D:Ends}(ov:kY J a o xs)(Pv:Nat->St->Hp->Prop)(h0:Pv 0 σ H)(hl:∀i σ H,Pv i σ H->H a=some o)(hs:∀i x σ H,xs[i]?=some x->Pv i σ H->g x σ H λσ2 H2=>tb {D with nx:=Pv (i+1),ct:=Pv (i+1),bk:=D.nx} σ2 H2)(hd:∀σ H,Pv xs.length σ H->D.nx σ H):∃W:Nat->Nat->St->Hp->Prop,(∃m,W 0 m σ H)/\∀i m σ H,W i m σ H->
   (J.stop i H/\D.nx σ H)\/(J.go i H/\∃N:St->Hp->Prop,(∀σ' H',N σ' H'->∃m',m'<m/\W (i+1) m' σ' H')/\∀x H',J.yld i H x H'->g x σ H' λσ2 H2=>tb {D with nx:=N,ct:=N,bk:=D.nx} σ2 H2):=by
 refine(λi m σ H=>m=xs.length-i/\i≤xs.length/\Pv i σ H,(xs.length,by simp,zero_le _,h0),?_);rintro i m σ H⟨rfl,hi,p⟩;obtain⟨q1,q2,q3⟩:=ov H (hl i σ H p);by_cases hlt:i<xs.length
 .refine .inr (q1 i hlt,Pv (i+1),λσ' H' p'=>(xs.length-(i+1),sub_succ_lt_self _ _ hlt,rfl,hlt,p'),λx H' y=>?_);obtain⟨e,y2⟩:=q2 i x H' hlt y;subst e;exact hs i x σ _ y2 p
 .have e:i=xs.length:=le_antisymm hi (le_of_not_lt hlt);subst e;exact .inl (q3,hd σ H p)
theorem f_z{tt:TT}{te:TE}{σ:St}{Q:VK}(ov:kY J a o xs)(hH:H a=some o)(Pv:Addr->Nat->List V->Hp->Prop)(hz:xs.length≤sizeLine)(h0:∀D,H D=none->Pv D 0 [] (upd H D (.lst [])))(hs:∀(D:Addr)(i:Nat)(x:V)(ys:List V)(H':Hp)(R1:VK)(R2:Hp->Prop),H D=none->xs[i]?=some x->Same H H'->H' D=some (.lst ys)->Pv D i ys H'->
   (∀y H5,H5 D=some (.lst ys)->Same H (upd H5 D (.lst (ys++[y])))->Pv D (i+1) (ys++[y]) (upd H5 D (.lst (ys++[y])))->R1 y H5)->(∀H4,Same H H4->H4 D=some (.lst ys)->Pv D (i+1) ys H4->R2 H4)->
   tt (some x::σ) H' λb H4=>if b=true then te (some x::σ) H4 R1 else R2 H4)(hq:∀D ys H',H D=none->Same H H'->H' D=some (.lst ys)->Pv D xs.length ys H'->Q (.ref D) H'):∀D,H D=none->∃W:Nat->Nat->List V->Hp->Prop,
 (∃m,W 0 m [] (upd H D (.lst [])))/\∀i m ys H2,W i m ys H2->H2 D=some (.lst ys)/\((J.stop i H2/\Q (.ref D) H2)\/(J.go i H2/\ys.length<sizeLine/\∀x H3,J.yld i H2 x H3->
  tt (some x::σ) H3 λb H4=>if b=true then te (some x::σ) H4 λy H5=>H5 D=some (.lst ys)/\∃m',m'<m/\W (i+1) m' (ys++[y]) (upd H5 D (.lst (ys++[y])))
   else ∃m',m'<m/\W (i+1) m' ys H4)):=by
 intro D hD;refine(λi m ys H2=>m=xs.length-i/\i≤xs.length/\ys.length≤i/\Same H H2/\H2 D=some (.lst ys)/\Pv D i ys H2,(xs.length,by simp,zero_le _,by simp,Same.upd hD,a_c,h0 D hD),?_);rintro i m ys H2⟨rfl,hi,hy,hsm,hDl,hp⟩;refine(hDl,?_);obtain⟨q1,q2,q3⟩:=ov H2 (hsm _ _ hH);by_cases hlt:i<xs.length
 .refine .inr (q1 i hlt,lt_of_le_of_lt hy (lt_of_lt_of_le hlt hz),λx H3 hyl=>?_);obtain⟨e,hx⟩:=q2 i x H3 hlt hyl;subst e;exact hs D i x ys H3 _ _ hD hx hsm hDl hp (λy H5 a b c=>(a,xs.length-(i+1),sub_succ_lt_self _ _ hlt,rfl,hlt,by rw[qa5];exact Nat.succ_le_succ hy,b,a_c,c)) (λH4 a b c=>(xs.length-(i+1),sub_succ_lt_self _ _ hlt,rfl,hlt,Nat.le_succ_of_le hy,a,b,c))
 .have e:i=xs.length:=le_antisymm hi (le_of_not_lt hlt);subst e;exact .inl (q3,hq D ys H2 hD hsm hDl hp)
def iQ(K:Frag)(J:It)(te:TE)(σ:St)(H1:Hp)(Q:VK):Prop:=∀D,H1 D=none->∃W:Nat->Nat->List V->Hp->Prop,
 (∃m,W 0 m [] (upd H1 D (.lst [])))/\∀i m ys H2,W i m ys H2->H2 D=some (.lst ys)/\((J.stop i H2/\Q (.ref D) H2)\/(J.go i H2/\ys.length<sizeLine/\∀x H3,J.yld i H2 x H3->
  ∃p a b,x=.ref p/\SqT K H3 p [a,b]/\te (some a::some b::σ) H3 λy H5=>H5 D=some (.lst ys)/\∃m',m'<m/\W (i+1) m' (ys++[y]) (upd H5 D (.lst (ys++[y])))))
theorem e_s{K:Frag}{σ:St}(Pr:Nat->V->V->Prop)(Pv:Addr->Nat->List V->Hp->Prop)(hz:n≤sizeLine)(j1:∀i H2,Same H H2->i<n->J.go i H2)(j2:∀i H2 x H3,Same H H2->i<n->J.yld i H2 x H3->∃p a b,x=.ref p/\Pr i a b/\H2 p=none/\H3=upd H2 p (.tup [a,b]))(j3:∀H2,Same H H2->J.stop n H2)(h0:∀D,H D=none->Pv D 0 [] (upd H D (.lst [])))(hs:∀(D:Addr)(i:Nat)(a b:V)(ys:List V)(H' H3:Hp)(R1:VK),H D=none->i<n->Pr i a b->Same H H'->H' D=some (.lst ys)->Pv D i ys H'->Same H' H3->
   (∀y H5,H5 D=some (.lst ys)->Same H (upd H5 D (.lst (ys++[y])))->Pv D (i+1) (ys++[y]) (upd H5 D (.lst (ys++[y])))->R1 y H5)->te (some a::some b::σ) H3 R1)(hq:∀D ys H',H D=none->Same H H'->H' D=some (.lst ys)->Pv D n ys H'->Q (.ref D) H'):iQ K J te σ H Q:=by
 intro D hD;refine(λi m ys H2=>m=n-i/\i≤n/\ys.length≤i/\Same H H2/\H2 D=some (.lst ys)/\Pv D i ys H2,(n,by simp,zero_le _,by simp,Same.upd hD,a_c,h0 D hD),?_);rintro i m ys H2⟨rfl,hi,hy,hsm,hDl,hp⟩;refine(hDl,?_);by_cases hlt:i<n
 .refine .inr (j1 i H2 hsm hlt,lt_of_le_of_lt hy (lt_of_lt_of_le hlt hz),λx H3 hyl=>?_);obtain⟨p,a,b,rfl,hab,hpn,rfl⟩:=j2 i H2 x H3 hsm hlt hyl;refine(p,a,b,rfl,SqT.of a_c,hs D i a b ys H2 _ _ hD hlt hab hsm hDl hp (Same.upd hpn) λy H5 e1 e2 e3=>(e1,n-(i+1),sub_succ_lt_self _ _ hlt,rfl,hlt,by rw[qa5];exact Nat.succ_le_succ hy,e2,a_c,e3))
 .have e:i=n:=le_antisymm hi (le_of_not_lt hlt);subst e;exact .inl (j3 H2 hsm,hq D ys H2 hD hsm hDl hp)
theorem iI{K:Frag}{σ:St}(hH:H c=some (.tup xs))(Pv:Addr->Nat->List V->Hp->Prop)(hz:xs.length≤sizeLine)(h0:∀D,H D=none->Pv D 0 [] (upd H D (.lst [])))(hs:∀(D:Addr)(i:Nat)(x:V)(ys:List V)(H' H3:Hp)(R1:VK),H D=none->xs[i]?=some x->Same H H'->H' D=some (.lst ys)->Pv D i ys H'->Same H' H3->
   (∀y H5,H5 D=some (.lst ys)->Same H (upd H5 D (.lst (ys++[y])))->Pv D (i+1) (ys++[y]) (upd H5 D (.lst (ys++[y])))->R1 y H5)->te (some (.int (i:Int))::some x::σ) H3 R1)(hq:∀D ys H',H D=none->Same H H'->H' D=some (.lst ys)->Pv D xs.length ys H'->Q (.ref D) H'):iQ K (ph c) te σ H Q:=by
 refine e_s (n:=xs.length) (λi a b=>a=.int (i:Int)/\xs[i]?=some b) Pv hz (λi H2 s h=>(xs,xs[i],s _ _ hH,qa2 h)) ?_ (λH2 s=>(xs,s _ _ hH,rfl)) h0 ?_ hq
 .rintro i H2 x H3 s h⟨p,y,zs,e1,e2,e3,e4,e5⟩;rw[s _ _ hH]at e1;cases e1;exact(p,_,y,e3,(rfl,e2),e4,e5)
 .rintro D i a b ys H' H3 R1 hD hi⟨rfl,hb⟩a1 a2 a3 a4 a5;exact hs D i b ys H' H3 R1 hD hb a1 a2 a3 a4 a5
end L2
namespace RA
open PySem L2
inductive KS where
 |inl (b:Bool)
 |inr (k:NK)
instance:DecidableEq KS:=λa b=>match a,b with
 |.inl a,.inl b=>if h:a=b then isTrue (by rw[h])else isFalse λz=>h (KS.inl.inj z)
 |.inr a,.inr b=>if h:a=b then isTrue (by rw[h])else isFalse λz=>h (KS.inr.inj z)
 |.inl _,.inr _=>isFalse λz=>by cases z
 |.inr _,.inl _=>isFalse λz=>by cases z
def isN:KS->Bool
 |.inl _=>false
 |.inr _=>true
def gF(H:Hp):KS->V->Prop
 |.inl b,x=>x=.bl b
 |.inr k,x=>∃p,x=.ref p/\NIn H k p
theorem nin_stay(s:∀b xs,H b=some (.tup xs)->H' b=some (.tup xs))(h:NIn H k a):NIn H' k a:=by
 obtain⟨b,e1,e2⟩:=h;exact(b,s _ _ e1,s _ _ e2)
theorem gF.stay(s:∀b xs,H b=some (.tup xs)->H' b=some (.tup xs))(h:gF H k x):gF H' k x:=by
 cases k with
 |inl b=>exact h
 |inr k=>
  obtain⟨p,e,h⟩:=h;exact(p,e,nin_stay s h)
theorem d_Z{α κ:Type}[DecidableEq κ](key:α->κ)(val:α->V)(k:κ):∀(kvs:List α)(n:Nat),(∀i x,kvs[i]?=some x->val x=.int ((n+i:Nat):Int))->
  (kvs.find? λx=>decide (key x=k)).map val=if k∈kvs.map key then some (.int ((n+(kvs.map key).idxOf k:Nat):Int))else none
 |[],n,_=>by simp
 |a::kvs,n,h=>by
  by_cases e:key a=k
  .have h0:=h 0 a rfl;rw[if_pos (by simp[e])];subst e;simp[find?_cons,h0]
  .have ih:=d_Z key val k kvs (n+1) λi x hx=>by
    have:=h (i+1) x (by simpa using hx);rw[this];congr 2;omega
   have e1:(kvs.map key).idxOf k+1=((a::kvs).map key).idxOf k:=by
    rw[map_cons,idxOf_cons,beq_eq_false_iff_ne.mpr e];rfl
   rw[find?_cons,decide_eq_false e];show(kvs.find? λx=>decide (key x=k)).map val=_;rw[ih];by_cases hm:k∈kvs.map key
   .rw [if_pos hm,if_pos (by rw[map_cons];exact mem_cons_of_mem _ hm),<-e1];congr 3;omega
   .rw [if_neg hm,if_neg (by rw[map_cons,mem_cons];rintro(z|z);exact e z.symm;exact hm z)]
def NumAt(P:Program)(w:World)(H:Hp)(d:Addr)(nest:Bool)(ks:List KS):Prop:=
 (nest=false/\∃kvs:List (Bool×V),H d=some (kdO (b_m P w) d kvs)/\(kvs.map λx=>(KS.inl x.1:KS))=dis ks/\∀(i:Nat)(x:Bool×V),kvs[i]?=some x->x.2=V.int (i:Int)) \/
 (nest=true/\∃kvs:List (NK×Addr×V),H d=some (hdO (e_F P w) d kvs)/\(∀x∈kvs,NIn H x.1 x.2.1)/\(kvs.map λx=>(KS.inr x.1:KS))=dis ks/\∀(i:Nat)(x:NK×Addr×V),kvs[i]?=some x->x.2.2=V.int (i:Int))
section
variable{P:Program}{w:World}{H:Hp}{d:Addr}{nest:Bool}{ks:List KS}
def dE(ks:List KS)(k:KS):Option V:=if k∈dis ks then some (.int ((dis ks).idxOf k:Nat))else none
theorem NumAt.get(h:NumAt P w H d nest ks)(hk:gF H k x)(hn:isN k=nest):pi P w H d x (dE ks k):=by
 rcases h with⟨rfl,kvs,e,hm,hv⟩|⟨rfl,kvs,e,hN,hm,hv⟩
 .cases k with
  |inr k=>cases hn
  |inl b=>
   refine .inl (kvs,b,e,hk,?_);have:=d_Z (λx:Bool×V=>(KS.inl x.1:KS)) (·.2) (KS.inl b) kvs 0 (λi x hx=>by rw[hv i x hx,Nat.zero_add]);rw[hm]at this;unfold dE aW;rw[Nat.zero_add]at this;rw[<-this];congr 2;funext x;exact decide_eq_decide.mpr (λz=>KS.inl.inj z,λz=>by rw[z])
 .cases k with
  |inl k=>cases hn
  |inr b=>
   obtain⟨p,e1,e2⟩:=hk;refine .inr (.inl (kvs,b,p,e,hN,e1,e2,?_));have:=d_Z (λx:NK×Addr×V=>(KS.inr x.1:KS)) (·.2.2) (KS.inr b) kvs 0 (λi x hx=>by rw[hv i x hx,Nat.zero_add]);rw[hm]at this;unfold dE av;rw[Nat.zero_add]at this;rw[<-this];congr 2;funext x;exact decide_eq_decide.mpr (λz=>KS.inr.inj z,λz=>by rw[z])
theorem NumAt.len(h:NumAt P w H d nest ks):sC P w H d (dis ks).length:=by
 rcases h with⟨_,kvs,e,hm,_⟩|⟨_,kvs,e,_,hm,_⟩
 .exact .inl (kvs,e,by rw[<-hm,qa4])
 .exact .inr (kvs,e,by rw[<-hm,qa4])
theorem NumAt.same(h:NumAt P w H d nest ks)(hk:k∈dis ks):NumAt P w H d nest (ks++[k]):=by
 unfold NumAt at h⊢;rw[dis_snoc,if_pos hk];exact h
theorem NumAt.mono(h:NumAt P w H d nest ks)(s:Same H H'):NumAt P w H' d nest ks:=by
 rcases h with⟨a,kvs,e,hm⟩|⟨a,kvs,e,hN,hm⟩
 .exact .inl (a,kvs,s _ _ e,hm)
 .exact .inr (a,kvs,s _ _ e,λx hx=>nin_stay (λb xs z=>s _ _ z) (hN x hx),hm)
theorem NumAt.tups(h:NumAt P w H d nest ks)(e:H'=upd H d ob):∀b xs,H b=some (.tup xs)->H' b=some (.tup xs):=λb xs z=>by
 rw[e,upd_ne (λq=>?_)]
 .exact z
 .subst q;rcases h with⟨_,kvs,e1,_⟩|⟨_,kvs,e1,_⟩
  .rw [e1]at z;cases z
  .rw [e1]at z;cases z
theorem ii(h:¬ j<n)(h2:j-n<1):j=n:=by omega
theorem NumAt.put(h:NumAt P w H d nest ks)(hk:gF H k x)(hn:isN k=nest)(hnew:k∉dis ks)(hl:(dis ks).length<sizeLine):∃ob,sB P w H d x (.int ((dis ks).length:Nat)) (upd H d ob)/\NumAt P w (upd H d ob) d nest (ks++[k]):=by
 have hnone:dE ks k=none:=if_neg hnew;have hget:=h.get hk hn;rw[hnone]at hget;have h0:=h;rcases h with⟨rfl,kvs,e,hm,hv⟩|⟨rfl,kvs,e,hN,hm,hv⟩
 .cases k with
  |inr k=>cases hn
  |inl b=>
   have hlen:(dis ks).length=kvs.length:=by rw[<-hm,qa4]
   have hval:aW kvs b=none:=by
    have:=d_Z (λx:Bool×V=>(KS.inl x.1:KS)) (·.2) (KS.inl b) kvs 0 (λi x hx=>by rw[hv i x hx,Nat.zero_add]);rw[hm,if_neg hnew]at this;unfold aW;rw[<-this];congr 2;funext x;exact decide_eq_decide.mpr (λz=>by rw[z],λz=>KS.inl.inj z)
   refine(_,.inl (kvs,b,e,hk,hval,by rw[<-hlen];exact hl,rfl),.inl (rfl,kvs++[(b,.int ((dis ks).length:Nat),)],a_c,?_,λi y hy=>?_))
   .rw [dis_snoc,if_neg hnew,map_append,hm];rfl
   .by_cases hi:i<kvs.length
    .rw [getElem?_append_left hi]at hy;exact hv i y hy
    .rw [getElem?_append_right (le_of_not_lt hi)]at hy;have h9:=ii hi (qa1 hy).1;rw[h9,sub_self]at hy;cases hy;show V.int ((dis ks).length:Nat)=_;rw[hlen,h9]
 .cases k with
  |inl k=>cases hn
  |inr b=>
   have hlen:(dis ks).length=kvs.length:=by rw[<-hm,qa4]
   obtain⟨p,e1,e2⟩:=hk;have hval:av kvs b=none:=by
    have:=d_Z (λx:NK×Addr×V=>(KS.inr x.1:KS)) (·.2.2) (KS.inr b) kvs 0 (λi x hx=>by rw[hv i x hx,Nat.zero_add]);rw[hm,if_neg hnew]at this;unfold av;rw[<-this];congr 2;funext x;exact decide_eq_decide.mpr (λz=>by rw[z],λz=>KS.inr.inj z)
   have keep:=h0.tups (H':=upd H d (hdO (e_F P w) d (kvs++[(b,p,.int ((dis ks).length:Nat),)]))) rfl;refine(_,.inr (.inl (kvs,b,p,e,hN,e1,e2,hval,by rw[<-hlen];exact hl,rfl)),.inr (rfl,kvs++[(b,p,.int ((dis ks).length:Nat),)],a_c,λy hy=>?_,?_,λi y hy=>?_))
   .rcases mem_append.mp hy with hy|hy
    .exact nin_stay keep (hN y hy)
    .rw [qb1 hy];exact nin_stay keep e2
   .rw [dis_snoc,if_neg hnew,map_append,hm];rfl
   .by_cases hi:i<kvs.length
    .rw [getElem?_append_left hi]at hy;exact hv i y hy
    .rw [getElem?_append_right (le_of_not_lt hi)]at hy;have h9:=ii hi (qa1 hy).1;rw[h9,sub_self]at hy;cases hy;show V.int ((dis ks).length:Nat)=_;rw[hlen,h9]
theorem NumAt.new(P:Program)(w:World)(H:Hp)(p:Addr)(nest:Bool):NumAt P w (upd H p (oP P w p (if nest=true then .nest else .bl))) p nest []:=by
 cases nest with
 |false=>exact .inl (rfl,[],a_c,rfl,λi x h=>by simp at h)
 |true=>exact .inr (rfl,[],a_c,λx h=>by simp at h,rfl,λi x h=>by simp at h)
end
theorem mB(bs:List Bool):ao (bs.map λb=>(KS.inl b:KS))=ao bs:=c_W (by rw[qa4]) λi j a b a' b' h1 h2 h3 h4=>by
 rw[qa6,h3]at h1;rw[qa6,h4]at h2;cases h1;cases h2;exact(λz=>KS.inl.inj z,λz=>by rw[z])
theorem mz(bs:List NK):ao (bs.map λb=>(KS.inr b:KS))=ao bs:=c_W (by rw[qa4]) λi j a b a' b' h1 h2 h3 h4=>by
 rw[qa6,h3]at h1;rw[qa6,h4]at h2;cases h1;cases h2;exact(λz=>KS.inr.inj z,λz=>by rw[z])
end RA
namespace L2
open PySem PySem.Spec PyProof.Rows
section
variable{X:Cx}{elt iter:Expr}{x:Str}{px pos:Pos}{ifs:List Expr}{sc:Scope}{wi:TI}{tt:TT}{te:TE}
end
theorem b_x(K:Frag)(hK:X.K=K:=by rfl):IxR X (lG K):=by
 subst hK;exact dN
theorem e_q(K:Frag)(hK:X.K=K:=by rfl):IxR X (hZ K):=by
 subst hK;exact dM
theorem ky{X:Cx}(P:Program)(w:World)(hu:X.A.units+64<cLine)(hP:X.prog=P:=by rfl)(hw:X.w=w:=by rfl):IxR X (rN P w):=by
 subst hP hw;exact mP hu
theorem ml:kY (Itv a ys.length) a (.lst ys) ys.reverse:=λH2 e=>by
 refine(λi h=>(ys,e,rfl,by simpa using h),λi x H3 hi h=>?_,?_)
 .obtain ⟨e1,xs,e2,e3⟩:=h;rw[e]at e2;cases e2;refine(e1,?_);rw[List.getElem?_reverse (by simpa using hi)];exact e3
 .show ys.reverse.length=ys.length;rw[List.length_reverse]
theorem cL{xs:List V}(h:t≤xs.length):cutV xs none (some (t:Int))=xs.take t:=by
 unfold cutV;rw[HT.sIx_none,HT.sIx_nat,List.drop_zero,Nat.sub_zero,Nat.min_eq_left h]
end L2
namespace RA
open PySem L2
theorem ee{a b x:Nat}(h:a=b)(hx:x<b):x<a:=Nat.lt_of_lt_of_eq hx h.symm
theorem sr(h:i<j+1)(n:¬ i=j):i<j:=Nat.lt_of_le_of_ne (Nat.le_of_lt_succ h) n
theorem ec{n:Nat}(h:n≤2100):-(2^62)≤(n:Int)/\(n:Int)<2^62:=by omega
theorem ar_toNat{r:Int}{n:Nat}(h0:0≤r)(h1:r<n):r.toNat<n:=(Int.toNat_lt h0).mpr h1
theorem pL(h:¬ j<n)(h2:j-n<1):j=n:=by omega
theorem su(h0:0≤n)(h1:n<2147483647):-(2^64)<n/\n<2^64:=by omega
theorem jz{n:Nat}(h:1≤n):(0:Int)<(n:Int):=Int.ofNat_lt.mpr h
theorem ss{n:Nat}(h1:1≤n)(h:n≤2100):(0:Int)<(n:Int)/\(n:Int)<1073741824:=by omega
theorem pc(h:i<t):t-1-i<t:=by omega
theorem qH(h:i<t):∃u,t-i=u+1/\t-1-i=u/\t-(i+1)=u:=(t-i-1,by omega,by omega,by omega)
theorem sq(h1:w=i)(h2:i<t)(h3:t<k+1)(h4:k≤4410000):w+1≤16777216:=by omega
theorem tI(h:k≤4410000):k+1<sizeLine:=by
 have:16777216≤sizeLine:=a_j (by decide);omega
theorem pd(z:Int)(b m:Nat)(hm:0<m):∃n:Nat,(n:Int)=(b:Int)+z%(m:Int)/\b≤n/\n<b+m:=by
 have h0:=Int.emod_nonneg z (show(m:Int)≠0 by omega);have h1:=Int.emod_lt_of_pos z (show(0:Int)<(m:Int) by omega);exact(b+(z%(m:Int)).toNat,by omega,by omega,by omega)
theorem tH(h:0≤p)(i:Nat):0≤p+(0+(i:Int)):=by omega
theorem qI(h:l+i=26)(hi:i≤3):1≤l/\l≤26:=by omega
theorem sw{n:Nat}(h:n≤26):(n:Int)<1073741824:=by omega
theorem qG(h1:a≤n)(h2:b≤n)(hn:n≤26):a+b≤16777216:=by omega
theorem pb{x:Int}(h:0≤x):(x+1).toNat=x.toNat+1:=by omega
theorem pe(h:k<l)(hl:l+i=26):min k l+(l-(k+1))+(i+1)=26:=by omega
theorem d_X(ws:LN):intsV ws=(zs ws).map V.int:=by
 unfold intsV zs;rw[List.map_map];rfl
theorem cY(ws:LN):(zs ws).length=ws.length:=by simp[zs]
theorem intsV_len(ws:LN):(intsV ws).length=ws.length:=by simp[intsV]
theorem a_u(h:i<ws.length):(intsV ws)[i]?=some (.int ((ws.getD i 0:Nat):Int)):=by
 unfold intsV;rw[qa6,qa3,qa2 h];rfl
theorem a_P{ns:LN}(h:r<ns.length):atI (intsV ns) (r:Int)=some (.int ((ns.getD r 0:Nat):Int)):=a_G (a_u h)
theorem a_U{α:Type}{l:List α}{x:α}(h:l[i]?=some x):l.take (i+1)=l.take i++[x]:=by
 rw[List.take_add_one,h];rfl
theorem g_M{a b:Nat}:decide (V.int (a:Int)=V.int (b:Int))=decide (a=b):=by
 by_cases h:a=b
 .subst h;simp
 .have:¬ V.int (a:Int)=V.int (b:Int):=λz=>h (by injection z with z;exact Int.ofNat.inj z);rw[decide_eq_false h,decide_eq_false this]
def f_E(H:Hp)(lots:List Addr)(W:LL)(B:List Bool):Prop:=∀(i:Nat)(r:Addr),lots[i]?=some r->H r=some (.lst (intsV (Rd W B i)))
theorem f_E.same(h:f_E H lots W B)(s:Same H H'):f_E H' lots W B:=λi r e=>s _ _ (h i r e)
theorem fZ(hj:j<n)(hf:f j=false):false∈(List.range n).map f/\((List.range n).map f).idxOf false<n/\f (((List.range n).map f).idxOf false)=false/\∀i<((List.range n).map f).idxOf false,f i=true:=by
 have get:∀i,i<n->((List.range n).map f)[i]?=some (f i):=λi hi=>by rw[qa6,getElem?_range hi];rfl
 have hm:false∈(List.range n).map f:=mem_map.mpr (j,mem_range.mpr hj,hf);have hlt:=idxOf_lt_length_of_mem hm;have hlt2:((List.range n).map f).idxOf false<n:=by simpa using hlt
 refine(hm,hlt2,?_,λi hi=>?_)
 .have e:=get _ hlt2;rw[qa2 hlt,getElem_idxOf hlt]at e;exact(Option.some.inj e).symm
 .have e:=get i (by omega);cases h:f i with
  |true=>rfl
  |false=>
   rw[h]at e;have:=d_Y e;omega
theorem a_n.row(hl:rows.length=W.length)(h:e_C H rows W)(hr:r<W.length):∃ra,rows[r]?=some ra/\H ra=some (.tup (intsV (W.getD r []))):=by
 have e:rows[r]?=some (rows[r]'(by omega)):=qa2 _;obtain⟨ws,h1,h2⟩:=h r _ e;refine(_,e,?_);rw[h2,qa3,h1];rfl
theorem b_R(s:Same H H')(h:H' p=none):H p=none:=by
 cases e:H p with
 |none=>rfl
 |some o=>rw[s _ _ e]at h;cases h
theorem iH{tt:TT}{te:TE}{σ:St}{Q:VK}(Pv:Addr->Nat->List V->Hp->Prop)(hz:n≤sizeLine)(h0:∀D,H D=none->Pv D 0 [] (L2.upd H D (.lst [])))(hs:∀(D:Addr)(i:Nat)(ys:List V)(H':Hp)(R1:VK)(R2:Hp->Prop),H D=none->i<n->Same H H'->H' D=some (.lst ys)->Pv D i ys H'->
   (∀y H5,H5 D=some (.lst ys)->Same H (L2.upd H5 D (.lst (ys++[y])))->Pv D (i+1) (ys++[y]) (L2.upd H5 D (.lst (ys++[y])))->R1 y H5)->(∀H4,Same H H4->H4 D=some (.lst ys)->Pv D (i+1) ys H4->R2 H4)->
   tt (some (.int (lo+(i:Int)))::σ) H' λb H4=>if b=true then te (some (.int (lo+(i:Int)))::σ) H4 R1 else R2 H4)(hq:∀D ys H',H D=none->Same H H'->H' D=some (.lst ys)->Pv D n ys H'->Q (.ref D) H'):∀D,H D=none->∃W:Nat->Nat->List V->Hp->Prop,
 (∃m,W 0 m [] (L2.upd H D (.lst [])))/\∀i m ys H2,W i m ys H2->H2 D=some (.lst ys)/\(((Itr lo n).stop i H2/\Q (.ref D) H2)\/((Itr lo n).go i H2/\ys.length<sizeLine/\∀x H3,(Itr lo n).yld i H2 x H3->
  tt (some x::σ) H3 λb H4=>if b=true then te (some x::σ) H4 λy H5=>H5 D=some (.lst ys)/\∃m',m'<m/\W (i+1) m' (ys++[y]) (L2.upd H5 D (.lst (ys++[y])))
   else ∃m',m'<m/\W (i+1) m' ys H4)):=by
 intro D hD;refine(λi m ys H2=>m=n-i/\i≤n/\ys.length≤i/\Same H H2/\H2 D=some (.lst ys)/\Pv D i ys H2,(n,by simp,zero_le _,by simp,Same.upd hD,a_c,h0 D hD),?_);rintro i m ys H2⟨rfl,hi,hy,hsm,hDl,hp⟩;refine(hDl,?_);by_cases hlt:i<n
 .refine .inr (hlt,lt_of_le_of_lt hy (lt_of_lt_of_le hlt hz),λx H3 hyl=>?_);obtain⟨e,hx⟩:=hyl;subst e hx;exact hs D i ys H3 _ _ hD hlt hsm hDl hp (λy H5 a b c=>(a,n-(i+1),sub_succ_lt_self _ _ hlt,rfl,hlt,by rw[qa5];exact Nat.succ_le_succ hy,b,a_c,c)) (λH4 a b c=>(n-(i+1),sub_succ_lt_self _ _ hlt,rfl,hlt,Nat.le_succ_of_le hy,a,b,c))
 .have e:i=n:=le_antisymm hi (le_of_not_lt hlt);subst e;exact .inl (le_refl _,hq D ys H2 hD hsm hDl hp)
theorem e_d{lots:List Addr}(hl:lots.length=k+1)(h:lots[k]?=some la):atI (lots.map V.ref) (-1)=some (.ref la):=by
 have e:lots=lots.take k++[la]:=by rw[<-a_U h,take_of_length_le (by omega)]
 rw[e,map_append];exact nH _ _
theorem g_D{ws:LN}(h:j<ws.length):(ws.map f).getD j 0=f (ws.getD j 0):=by
 rw[qa3,qa3,qa6,qa2 h];rfl
theorem d_y{ws:LN}(h:j<ws.length):ws.getD j 0∈ws:=by
 rw[qa3,qa2 h];exact getElem_mem h
theorem jh{H:Hp}(h1:H r=some (.lst (intsV ns)))(h2:H p=some (.lst (ls.map V.ref)))(h3:ls≠[]):r≠p:=by
 rintro rfl;rw[h1]at h2;injection h2 with h2;injection h2 with h2;cases ls with
 |nil=>exact h3 rfl
 |cons a l=>
  cases ns with
  |nil=>cases h2
  |cons n ns=>
   rw[map_cons,intsV,map_cons]at h2;injection h2 with h4 _;cases h4
section
variable{K:Frag}{te:TE}{tt:TT}{σ:St}{H:Hp}{Q:VK}{a c d:Addr}{o:HO}{xs zs:List V}
theorem b_W(htl:∀R:VK,R (.ref a) H->tl σ H R)(ho:o=.lst xs\/o=.tup xs)(hH:H a=some o)(Pv:Addr->Nat->List V->Hp->Prop)(hz:xs.length≤sizeLine)(h0:∀D,H D=none->Pv D 0 [] (L2.upd H D (.lst [])))(hs:∀(D:Addr)(i:Nat)(x:V)(ys:List V)(H':Hp)(R1:VK)(R2:Hp->Prop),H D=none->xs[i]?=some x->Same H H'->H' D=some (.lst ys)->Pv D i ys H'->
   (∀y H5,H5 D=some (.lst ys)->Same H (L2.upd H5 D (.lst (ys++[y])))->Pv D (i+1) (ys++[y]) (L2.upd H5 D (.lst (ys++[y])))->R1 y H5)->(∀H4,Same H H4->H4 D=some (.lst ys)->Pv D (i+1) ys H4->R2 H4)->
   tt (some x::σ) H' λb H4=>if b=true then te (some x::σ) H4 R1 else R2 H4)(hq:∀D ys H',H D=none->Same H H'->H' D=some (.lst ys)->Pv D xs.length ys H'->Q (.ref D) H'):bZ (iSq tl) tt te σ H Q:=
 htl _ (a,o,xs,rfl,ho,hH,λJ ov=>f_z ov hH Pv hz h0 hs hq)
theorem f_y{n:Nat}(ht:∀R:List V->Hp->Prop,R [.int (n:Int)] H->t σ H R)(hn:n≤2100)(Pv:Addr->Nat->List V->Hp->Prop)(h0:∀D,H D=none->Pv D 0 [] (L2.upd H D (.lst [])))(hs:∀(D:Addr)(i:Nat)(ys:List V)(H':Hp)(R1:VK)(R2:Hp->Prop),H D=none->i<n->Same H H'->H' D=some (.lst ys)->Pv D i ys H'->
   (∀y H5,H5 D=some (.lst ys)->Same H (L2.upd H5 D (.lst (ys++[y])))->Pv D (i+1) (ys++[y]) (L2.upd H5 D (.lst (ys++[y])))->R1 y H5)->(∀H4,Same H H4->H4 D=some (.lst ys)->Pv D (i+1) ys H4->R2 H4)->
   tt (some (.int (0+(i:Int)))::σ) H' λb H4=>if b=true then te (some (.int (0+(i:Int)))::σ) H4 R1 else R2 H4)(hq:∀D ys H',H D=none->Same H H'->H' D=some (.lst ys)->Pv D n ys H'->Q (.ref D) H'):bZ (pG t) tt te σ H Q:=
 ht _ ((n:Int),rfl,by omega,by omega,iH (n:=n) Pv (a_j (by omega)) h0 hs hq)
end
theorem run_cons(L:LN)(W:LL)(r c:Nat)(u:LN):run L W r (c::u)=run L W (nxt L W r c) u:=rfl
section
variable{P:Program}{w:World}{H:Hp}{d q:Addr}{ps:List (Nat×Nat)}
end
theorem f_p{B:List Bool}(h:r<B.length):atI (B.map V.bl) ((r:Nat):Int)=some (.bl (B.getD r false)):=b_a V.bl (by rw[qa3,qa2 h];rfl)
theorem jV(h:e_C H rows W)(hl:rows.length=W.length)(keep:∀b xs,H b=some (.tup xs)->H' b=some (.tup xs))(ht:H' t=some (.tup (intsV ws))):e_C H' (rows++[t]) (W++[ws]):=λj r e=>by
 by_cases hj:j<rows.length
 .rw [getElem?_append_left hj]at e;obtain⟨v,e1,e2⟩:=h j r e;exact(v,by rw[getElem?_append_left (by rw[<-hl];exact hj)];exact e1,keep _ _ e2)
 .rw [getElem?_append_right (le_of_not_lt hj)]at e;have hj0:=ii hj (qa1 e).1;rw[hj0,sub_self]at e;have et:t=r:=by simpa using e
  subst et;exact(ws,by rw[hj0,hl,getElem?_append_right (le_refl _),sub_self];rfl,ht)
theorem sZ{α:Type}{l:List α}(h:l.length=4):∃a b c d,l=[a,b,c,d]:=match l,h with|[a,b,c,d],_=>(a,b,c,d,rfl)
end RA
namespace RA
theorem cq(L:LN)(c d:Nat):∀{a b:LN},ak L a b=true->ak L (a++[c]) (b++[d])=true
 |[],_,h=>by simp[ak]at h
 |_::_,[],h=>by simp[ak]at h
 |x::a,y::b,h=>by
  rw[cons_append,cons_append,ak];rw[ak]at h;by_cases e:x=y
  .rw [if_pos e]at h⊢;exact cq L c d h
  .rw [if_neg e]at h⊢;exact h
theorem f_r(L:LN)(c:Nat):∀{a b:LN},a.length=b.length->ak L (a++[c]) (b++[c])=true->ak L a b=true
 |[],[],_,h=>by simp[ak]at h
 |[],_::_,e,_=>by simp at e
 |_::_,[],e,_=>by simp at e
 |x::a,y::b,e,h=>by
  rw[cons_append,cons_append,ak]at h;rw[ak];by_cases q:x=y
  .rw [if_pos q]at h⊢;exact f_r L c (by simpa using e) h
  .rw [if_neg q]at h⊢;exact h
theorem cr(L:LN){c d:Nat}(hcd:L.idxOf c<L.idxOf d):∀a:LN,ak L (a++[c]) (a++[d])=true
 |[]=>by
  rw[nil_append,nil_append,ak,if_neg (λe=>by rw[e]at hcd;omega)];exact decide_eq_true hcd
 |x::a=>by
  rw[cons_append,cons_append,ak,if_pos rfl];exact cr L hcd a
theorem g_a(L:LN):∀{a b:LN},ak L a b=true->ak L b a=false
 |[],_,h=>by simp[ak]at h
 |_::_,[],h=>by simp[ak]at h
 |x::a,y::b,h=>by
  rw[ak]at h⊢;by_cases e:x=y
  .rw [if_pos e]at h;rw[if_pos e.symm];exact g_a L h
  .rw [if_neg e]at h;rw[if_neg (Ne.symm e)];have:=of_decide_eq_true h;exact decide_eq_false (by omega)
theorem f_Y(L:LN):∀{a b c:LN},ak L a b=true->ak L b c=true->ak L a c=true
 |[],_,_,h,_=>by simp[ak]at h
 |_::_,[],_,h,_=>by simp[ak]at h
 |_::_,_::_,[],_,h=>by simp[ak]at h
 |x::a,y::b,z::c,h,k=>by
  rw[ak]at h k⊢;by_cases e:x=y
  .subst e;rw[if_pos rfl]at h;by_cases f:x=z
   .rw [if_pos f]at k⊢;exact f_Y L h k
   .rw [if_neg f]at k⊢;exact k
  .rw [if_neg e]at h;have h1:=of_decide_eq_true h;by_cases f:y=z
   .subst f;rw[if_neg e];exact h
   .rw [if_neg f]at k;have k1:=of_decide_eq_true k;rw[if_neg (λg=>by rw[g]at h1;omega)];exact decide_eq_true (by omega)
theorem f_Z{L:LN}:∀{a b:LN},a.length=b.length->(∀c∈a,c∈L)->(∀c∈b,c∈L)->ak L a b=true\/a=b\/ak L b a=true
 |[],[],_,_,_=>.inr (.inl rfl)
 |[],_::_,e,_,_=>by simp at e
 |_::_,[],e,_,_=>by simp at e
 |x::a,y::b,e,ha,hb=>by
  rw[ak,ak];by_cases q:x=y
  .subst q;rw[if_pos rfl,if_pos rfl];rcases f_Z (a:=a) (b:=b) (by simpa using e) (λc hc=>ha c (by simp[hc])) (λc hc=>hb c (by simp[hc]))with h|h|h
   .exact .inl h
   .exact .inr (.inl (by rw[h]))
   .exact .inr (.inr h)
  .rw [if_neg q,if_neg (Ne.symm q)];rcases Nat.lt_trichotomy (L.idxOf x) (L.idxOf y)with h|h|h
   .exact .inl (decide_eq_true h)
   .exact absurd (idx_inj (ha x (by simp)) h) q
   .exact .inr (.inr (decide_eq_true h))
section
variable{L a b c:LN}
theorem e_r(h:a.length<b.length):ear L a b=true:=by
 unfold ear;rw[if_pos (by omega)];exact decide_eq_true h
theorem c_O(h:a.length=b.length):ear L a b=ak L a b:=by
 unfold ear;rw[if_neg (by simpa using h)]
theorem bM(h:ear L a b=true):a.length≤b.length:=by
 by_cases e:a.length=b.length
 .omega
 .unfold ear at h;rw[if_pos e]at h;have:=of_decide_eq_true h;omega
theorem ni(x y:Nat)(h:ear L a b=true):ear L (a++[x]) (b++[y])=true:=by
 have hl:=bM h;by_cases e:a.length=b.length
 .rw [c_O (by simp[e])];rw[c_O e]at h;exact cq L x y h
 .exact e_r (by simp;omega)
theorem nj(h:L.idxOf x<L.idxOf y):ear L (a++[x]) (a++[y])=true:=by
 rw[c_O (by simp)];exact cr L h a
theorem e_c(h:ear L a b=true):ear L b a=false:=by
 have hl:=bM h;by_cases e:a.length=b.length
 .rw [c_O e]at h;rw[c_O e.symm];exact g_a L h
 .unfold ear;rw[if_pos (Ne.symm e)];exact decide_eq_false (by omega)
theorem ear_trans(h:ear L a b=true)(k:ear L b c=true):ear L a c=true:=by
 have h1:=bM h;have h2:=bM k;by_cases e:a.length=c.length
 .rw [c_O (by omega)]at h k;rw[c_O e];exact f_Y L h k
 .exact e_r (by omega)
theorem o0:ear L a []=false:=by
 unfold ear;by_cases e:a.length=([]:LN).length
 .rw [if_neg (by simpa using e)];cases a<;>simp[ak]
 .rw [if_pos e];simp
theorem cG(ha:∀x∈a,x∈L)(hb:∀x∈b,x∈L):ear L a b=true\/a=b\/ear L b a=true:=by
 by_cases e:a.length=b.length
 .rw [c_O e,c_O e.symm];exact f_Z e ha hb
 .by_cases h:a.length<b.length
  .exact .inl (e_r h)
  .exact .inr (.inr (e_r (by omega)))
theorem dS(ha:∀x∈a,x∈L)(hb:∀x∈b,x∈L)(h:ear L b a=false)(k:ear L c b=false):ear L c a=false:=by
 cases q:ear L c a with
 |false=>rfl
 |true=>
  rcases cG ha hb with t|t|t
  .rw [ear_trans q t]at k;cases k
  .rw [<-t,q]at k;cases k
  .rw [t]at h;cases h
theorem gg(x:Nat)(h:ear L b a=false):ear L (b++[x]) (a++[x])=false:=by
 cases q:ear L (b++[x]) (a++[x])with
 |false=>rfl
 |true=>
  have hl:=bM q;by_cases e:b.length=a.length
  .rw [c_O (by simp[e])]at q;rw[c_O e,f_r L x e q]at h;cases h
  .rw [e_r (by simp at hl;omega)]at h;cases h
end
section
variable{κ:Type}[DecidableEq κ]
def aD(g:κ->Nat->κ)(L:LN)(s:κ)(w:LN):κ:=w.foldl (λt c=>g t (L.idxOf c)) s
theorem f_d(g:κ->Nat->κ)(L:LN)(s:κ)(w:LN)(c:Nat):aD g L s (w++[c])=g (aD g L s w) (L.idxOf c):=by
 unfold aD;rw[List.foldl_append];rfl
structure Bf(g:κ->Nat->κ)(L:LN)(s:κ)(ts:List κ)(ws:LL)(n k:Nat):Prop where
 len:ts.length=ws.length
 nd:ts.Nodup
 t0:ts[0]?=some s
 w0:ws[0]?=some []
 srt:∀(i j:Nat)(a b:LN),i<j->ws[i]?=some a->ws[j]?=some b->ear L a b=true
 lead:∀(i:Nat)(t:κ)(a:LN),ts[i]?=some t->ws[i]?=some a->(∀c∈a,c∈L)/\aD g L s a=t
 par:∀(j:Nat)(b:LN),ws[j]?=some b->b=[]\/∃(p q:Nat)(a:LN),ws[p]?=some a/\q<L.length/\b=a++[L.getD q 0]/\(p<n\/(p=n/\q<k))
 fin:∀(r q:Nat)(t:κ)(a:LN),(r<n\/(r=n/\q<k))->q<L.length->ts[r]?=some t->ws[r]?=some a->∃(j:Nat)(b:LN),ts[j]?=some (g t q)/\ws[j]?=some b/\ear L (a++[L.getD q 0]) b=false
variable{g:κ->Nat->κ}{L:LN}{s:κ}{ts:List κ}{ws:LL}{n k:Nat}
theorem Bf.start(g:κ->Nat->κ)(L:LN)(s:κ):Bf g L s [s] [[]] 0 0 where
 len:=rfl
 nd:=by simp
 t0:=rfl
 w0:=rfl
 srt:=λi j a b hij ha hb=>by
  have:=(qa1 hb).1;simp at this;omega
 lead:=λi t a ht ha=>by
  match i,ht,ha with
  |0,ht,ha=>cases ht;cases ha;exact(λc hc=>by simp at hc,rfl)
  |i+1,ht,_=>simp at ht
 par:=λj b hb=>by
  match j,hb with
  |0,hb=>cases hb;exact .inl rfl
  |j+1,hb=>simp at hb
 fin:=λr q t a h=>by omega
theorem Bf.behind(h:Bf g L s ts ws n k)(nd:L.Nodup){a:LN}(ha:ws[n]?=some a)(hk:k<L.length){j:Nat}{b:LN}(hb:ws[j]?=some b):ear L b (a++[L.getD k 0])=true:=by
 rcases h.par j b hb with rfl|⟨p,q,a',hp,hq,rfl,lt⟩
 .exact e_r (by simp)
 .rcases lt with lt|⟨rfl,lt⟩
  .exact ni _ _ (h.srt p n a' a lt hp ha)
  .rw [ha]at hp;cases hp;refine nj ?_;have e1:L.idxOf (L.getD q 0)=q:=by rw[qa3,qa2 hq];exact f_v nd hq
   have e2:L.idxOf (L.getD k 0)=k:=by rw[qa3,qa2 hk];exact f_v nd hk
   rw[e1,e2];exact lt
theorem jg(h:r<n\/(r=n/\q<k+1)):(r<n\/(r=n/\q<k))\/(r=n/\q=k):=by omega
theorem Bf.old(h:Bf g L s ts ws n k)(nd:L.Nodup){t:κ}{a:LN}(ht:ts[n]?=some t)(ha:ws[n]?=some a)(hk:k<L.length)(hm:g t k∈ts):Bf g L s ts ws n (k+1):=
 {h with
  par:=λj b hb=>by
   rcases h.par j b hb with e|⟨p,q,a',h1,h2,h3,h4⟩
   .exact .inl e
   .exact .inr (p,q,a',h1,h2,h3,by omega)
  fin:=λr q t' a' hr hq ht' ha'=>by
   rcases jg hr with hr|⟨rfl,rfl⟩
   .exact h.fin r q t' a' hr hq ht' ha'
   .rw [ht]at ht';rw[ha]at ha';cases ht';cases ha';obtain⟨j,hj⟩:=mem_iff_getElem?.mp hm;have hl:j<ws.length:=by rw[<-h.len];exact(qa1 hj).1
    exact(j,ws[j],hj,qa2 hl,e_c (h.behind nd ha hk (qa2 hl)))}
theorem Bf.new(h:Bf g L s ts ws n k)(nd:L.Nodup){t:κ}{a:LN}(ht:ts[n]?=some t)(ha:ws[n]?=some a)(hk:k<L.length)(hm:g t k∉ts):Bf g L s (ts++[g t k]) (ws++[a++[L.getD k 0]]) n (k+1):=by
 have gk:L.getD k 0=L[k]:=by rw[qa3,qa2 hk];rfl
 have up:∀{α:Type}{l:List α}{x y:α}{i:Nat},l[i]?=some y->(l++[x])[i]?=some y:=λ{α l x y i}e=>by
  rw[getElem?_append_left (qa1 e).1];exact e
 have split:∀{α:Type}{l:List α}{x y:α}{i:Nat},(l++[x])[i]?=some y->l[i]?=some y\/(i=l.length/\y=x):=λ{α l x y i}e=>by
  by_cases hi:i<l.length
  .rw [getElem?_append_left hi]at e;exact .inl e
  .rw [getElem?_append_right (by omega)]at e;have:i-l.length=0:=by
    have:=(qa1 e).1;simp at this;omega
   rw[this]at e;exact .inr (by omega,(Option.some.inj e).symm)
 have last:(ts++[g t k])[ts.length]?=some (g t k):=by rw[getElem?_append_right (le_refl _),sub_self];rfl
 have lastw:(ws++[a++[L.getD k 0]])[ws.length]?=some (a++[L.getD k 0]):=by rw[getElem?_append_right (le_refl _),sub_self];rfl
 obtain⟨hin,hrun⟩:=h.lead n t a ht ha;refine(by simp[h.len],?_,up h.t0,up h.w0,λi j x y hij hx hy=>?_,λi t' x ht' hx=>?_,λj b hb=>?_,λr q t' x hr hq ht' hx=>?_)
 .rw [List.nodup_append];exact(h.nd,by simp,λx hx y hy e=>hm (by rw[qb1 hy]at e;rw[<-e];exact hx))
 .rcases split hy with hy|⟨rfl,rfl⟩
  .rcases split hx with hx|⟨rfl,rfl⟩
   .exact h.srt i j x y hij hx hy
   .have:=(qa1 hy).1;omega
  .rcases split hx with hx|⟨rfl,rfl⟩
   .exact h.behind nd ha hk hx
   .omega
 .rcases split ht' with ht'|⟨rfl,rfl⟩
  .rcases split hx with hx|⟨rfl,rfl⟩
   .exact h.lead i t' x ht' hx
   .have:=(qa1 ht').1;rw[h.len]at this;omega
  .rcases split hx with hx|⟨_,rfl⟩
   .have:=(qa1 hx).1;rw[h.len]at this;omega
   .refine (λc hc=>?_,?_)
    .rcases mem_append.mp hc with hc|hc
     .exact hin c hc
     .rw [qb1 hc,gk];exact getElem_mem hk
    .rw [f_d,hrun,gk,f_v nd hk]
 .rcases split hb with hb|⟨rfl,rfl⟩
  .rcases h.par j b hb with e|⟨p,q,a',h1,h2,h3,h4⟩
   .exact .inl e
   .exact .inr (p,q,a',up h1,h2,h3,by omega)
  .exact .inr (n,k,a,up ha,hk,rfl,.inr (rfl,lt_succ_self k))
 .have hrn:r≤n:=by omega
  have hn:=(qa1 ht).1;have ht'':ts[r]?=some t':=by rw[getElem?_append_left (by omega)]at ht';exact ht'
  have hx':ws[r]?=some x:=by rw[getElem?_append_left (by rw[<-h.len];omega)]at hx;exact hx
  rcases jg hr with hr|⟨rfl,rfl⟩
  .obtain ⟨j,b,e1,e2,e3⟩:=h.fin r q t' x hr hq ht'' hx';exact(j,b,up e1,up e2,e3)
  .rw [ht]at ht'';rw[ha]at hx';cases ht'';cases hx';refine(ts.length,_,last,by rw[h.len];exact lastw,?_);cases q':ear L (a++[L.getD q 0]) (a++[L.getD q 0])with
   |false=>rfl
   |true=>exact q'.symm.trans (e_c q')
theorem Bf.next(h:Bf g L s ts ws n L.length):Bf g L s ts ws (n+1) 0:=
 {h with
  par:=λj b hb=>by
   rcases h.par j b hb with e|⟨p,q,a',h1,h2,h3,h4⟩
   .exact .inl e
   .exact .inr (p,q,a',h1,h2,h3,by omega)
  fin:=λr q t a hr hq ht ha=>h.fin r q t a (by omega) hq ht ha}
theorem Bf.told(h:Bf g L s ts ws ts.length 0)(nd:L.Nodup):∀(w:LN)(m:Nat),w.length=m->(∀c∈w,c∈L)->∃(j:Nat)(b:LN),ts[j]?=some (aD g L s w)/\ws[j]?=some b/\ear L w b=false:=by
 intro w m;induction m generalizing w with
 |zero=>
  intro hm _;rw[length_eq_zero_iff.mp hm];exact(0,[],h.t0,h.w0,o0)
 |succ m ih=>
  intro hm hw;obtain⟨c,v,rfl⟩:∃c v,w=v++[c]:=(w.getLast (by intro z;rw[z]at hm;cases hm),w.dropLast,(List.dropLast_concat_getLast _).symm);have hv:∀x∈v,x∈L:=λx hx=>hw x (by simp[hx]);have hc:c∈L:=hw c (by simp);obtain⟨r,a,e1,e2,e3⟩:=ih v (by simpa using hm) hv;have hr:=(qa1 e1).1;have hi:L.idxOf c<L.length:=idxOf_lt_length_of_mem hc;obtain⟨j,b,f1,f2,f3⟩:=h.fin r (L.idxOf c) _ a (.inl hr) hi e1 e2;have gc:L.getD (L.idxOf c) 0=c:=by rw[qa3,qa2 hi];exact getElem_idxOf hi
  rw[gc]at f3;obtain⟨ha,_⟩:=h.lead r _ a e1 e2;refine(j,b,by rw[f_d];exact f1,f2,?_);obtain⟨hb,_⟩:=h.lead j _ b f1 f2;refine dS (b:=a++[c]) hb (λx hx=>?_) f3 (gg c e3);rcases mem_append.mp hx with hx|hx
  .exact ha x hx
  .rw [qb1 hx];exact hc
def leftOf(U ts:List κ):Nat:=U.countP λx=>!decide (x∈ts)
theorem cu{U ts:List κ}{x:κ}(hU:x∈U)(hx:x∉ts):leftOf U (ts++[x])<leftOf U ts:=by
 refine f_x (λz hz h=>?_) (x,hU,?_,?_)
 .simp only[not_eq_true',decide_eq_false_iff_not]at h⊢;exact λq=>h (mem_append_left _ q)
 .simp only[not_eq_true',decide_eq_false_iff_not];exact hx
 .simp only[Bool.not_eq_false',decide_eq_true_eq];exact mem_append_right _ (mem_singleton.mpr rfl)
end
end RA
namespace L2
open PySem PySem.Spec PyProof.Rows
structure a_B(N ps fr:List Str)(sc:Scope):Prop where
 kind:sc.kind=.function
 co:sc.isCoroutine=false
 gen:sc.isGenerator=false
 nd:N.Nodup
 pre:N.take ps.length=ps
 suf:N.drop (N.length-fr.length)=fr
 fit:ps.length+fr.length≤N.length
 par:∀x∈ps,sc.names.lookup x=some .local
 nocell:∀y∈sc.names,y.2≠.cell
structure a_w(h:Heap)(clos:List (Str×Addr))(sc:Scope)(fr:List Str)(fvs:List V):Prop where
 inj:∀y z c,clos.lookup y=some c->clos.lookup z=some c->y=z
 has:∀y∈sc.names,y.2=.free->∃c,clos.lookup y.1=some c
 cell:∀y c,clos.lookup y=some c->∃v,h.IsCell c v
 len:fvs.length=fr.length
 val:∀(i:Nat)(y:Str)(v:V),fr[i]?=some y->fvs[i]?=some v->(sc.names.lookup y=some .free)/\∃c u,clos.lookup y=some c/\h.IsCell c (some u)/\ac v u
def bj(CX:CXT)(P:Program)(w:World)(K:Frag)(mg:Str->Option Value)(base:Heap)(N:List Str)(qual:Str)(scope:Scope)(f:Addr)(cd:Value)(clos:List (Str×Addr))(A:Around)(outer:List Env)(s:Shared)(H:Hp)(E:XK):Cx where
 prog:=P
 w:=w
 K:=K
 mg:=mg
 base:=base
 A:=A.deeper (envX qual scope s.heap.objs.size f cd clos)
 N:=N
 s₀:=s
 H₀:=H
 env:=envX qual scope s.heap.objs.size f cd clos
 outer:=outer
 stack:=envX qual scope s.heap.objs.size f cd clos::outer
 ex:=[]
 calm:=true
 fn:=λ_=>false
 pn:=[]
 xe:=λe s'=>wpAny (model P w) (A.deeper (envX qual scope s.heap.objs.size f cd clos)) (leaving (envX qual scope s.heap.objs.size f cd clos) e) (λ_ s''=>CX outer H s E e s'') (λe' s''=>CX outer H s E e' s'') s'
def b_N(N:List Str)(vs fvs:List V):St:=vs.map some++(replicate (N.length-vs.length-fvs.length) none++fvs.map some)
theorem oo:∀{ps:List Str}{us:List Value}{i:Nat},ps.Nodup->ps[i]?=some x->us[i]?=some v->(ps.zip us).reverse.lookup x=some v:=by
 intro ps us i nd h1 h2;have hm:(x,v,)∈(ps.zip us).reverse:=by
  rw[mem_reverse];have hz:(ps.zip us)[i]?=some (x,v,):=by rw[getElem?_zip_eq_some];exact(h1,h2)
  exact qb2 hz
 have uniq:∀v',(x,v',)∈(ps.zip us).reverse->v'=v:=λv' hm'=>by
  rw[mem_reverse]at hm';obtain⟨j,hj⟩:=mem_iff_getElem?.mp hm';rw[getElem?_zip_eq_some]at hj;have e:j=i:=nodup_ix nd hj.1 h1;subst e;have:=hj.2;rw[h2]at this;exact(Option.some.inj this).symm
 cases e:(ps.zip us).reverse.lookup x with
 |none=>
  have:=List.lookup_eq_none_iff.mp e _ hm;simp at this
 |some v'=>rw[uniq v' (PySem.mem_of_lookup e)]
section
variable{CX:CXT}{P:Program}{w:World}{K:Frag}{mg:Str->Option Value}{base:Heap}{N ps fr:List Str}{qual:Str}{scope:Scope}{f:Addr}{cd:Value}{clos:List (Str×Addr)}{A:Around}{outer:List Env}{s:Shared}{H:Hp}{E:XK}{us:List Value}{vs fvs:List V}
theorem g_b(S:a_B N ps fr scope)(C:a_w base clos scope fr fvs)(hd:A.handled=none)(e0:bn P w K mg base A outer s H)(hl:vs.length=ps.length)(r:ad vs us)(hns:h'.Ns s.heap.objs.size (λx=>(ps.zip us).reverse.lookup x))(hsb:SameBut s.heap.objs.size (s.heap.push {cls:=.type "frame",data:=.dict #[]}) h'):Inv (bj CX P w K mg base N qual scope f cd clos A outer s H E) [] (b_N N vs fvs) H {s with heap:=h',toks:=tk}:=by
 have hk:∀b o,s.heap.get? b=some o->h'.get? b=some o:=λb o e=>hsb.extBut b o (ne_of_lt (lt_size e)) (qa9 _ e);have noA:∀b:Addr,b∉(bj CX P w K mg base N qual scope f cd clos A outer s H E).ex:=λb z=>absurd (show b∈([]:List Addr)from z) (by simp);have cellK:∀c v,base.IsCell c v->h'.IsCell c v:=λc v hZ2=>by obtain⟨o,ho,hd⟩:=hZ2;exact(o,hk c o (e0.bs c o ho).1,hd)
 have hus:us.length=ps.length:=by rw[<-r.length];exact hl
 have hfit:=S.fit;have hfl:=C.len;refine((e0.mod,S.kind,rfl,rfl,le_refl _,λy z c h1 h2=>C.inj y z c h1 h2,λy hy=>?_,λy c h=>absurd (show false=true from h) Bool.false_ne_true,λ_=>hd,Around.frames_deeper e0.frames,.inr (rfl,rfl),λb z=>absurd z (noA b),e0.bs,e0.bsz,λb _ _=>noA b,λb z=>absurd z (noA b),e0.funs,e0.frf),
  rfl,e0.bare,Un.kept hk,(_,hns,λi y v h1 h2 h3=>?_),λy c h=>?_,e0.hok.fresh (le_refl _),λy c h=>?_,λp hp=>absurd (show p∈([]:List (Addr×Obj))from hp) (by simp),e0.hok.kept hk,?_)
 .have hy:scope.names.lookup y=some .cell\/scope.names.lookup y=some .free:=hy;rcases hy with hy|hy
  .exact absurd rfl (S.nocell _ (PySem.mem_of_lookup hy))
  .exact C.has _ (PySem.mem_of_lookup hy) rfl
 .have h1:N[i]?=some y:=h1;have hi:i<N.length:=(qa1 h1).1;unfold b_N at h2;by_cases hiv:i<vs.length
  .have ha:vs[i]?=some v:=by
    rw[getElem?_append_left (by simpa using hiv),qa6]at h2;cases e:vs[i]? with
    |none=>rw[e]at h2;cases h2
    |some a=>rw[e]at h2;cases h2;rfl
   obtain⟨u,hu,rv⟩:=r.get ha;have hp:ps[i]?=some y:=by
    rw[<-S.pre,List.getElem?_take_of_lt (by omega)];exact h1
   have ndP:ps.Nodup:=by rw[<-S.pre];exact S.nd.sublist (List.take_sublist _ _)
   exact(u,rv,.inl (S.par y (qb2 hp),oo ndP hp hu))
  .rw [getElem?_append_right (by simpa using hiv)]at h2;rw[qa4]at h2;by_cases hir:i-vs.length<N.length-vs.length-fvs.length
   .rw [getElem?_append_left (by simpa using hir),List.getElem?_replicate,if_pos hir]at h2;cases h2
   .rw [getElem?_append_right (by simpa using hir),length_replicate,qa6]at h2;have ej:i-vs.length-(N.length-vs.length-fvs.length)=i-(N.length-fr.length):=by omega
    rw[ej]at h2;cases e:fvs[i-(N.length-fr.length)]? with
    |none=>rw[e]at h2;cases h2
    |some a=>
     rw[e]at h2;cases h2;have hf:fr[i-(N.length-fr.length)]?=some y:=by
      have q:(N.drop (N.length-fr.length))[i-(N.length-fr.length)]?=some y:=by
       rw[List.getElem?_drop,show N.length-fr.length+(i-(N.length-fr.length))=i by omega];exact h1
      rw[S.suf]at q;exact q
     obtain⟨k1,c,u,k2,k3,k4⟩:=C.val _ _ _ hf e;exact(u,k4,.inr (.inr k1,c,k2,cellK c _ k3))
 .obtain ⟨v,z⟩:=C.cell y c h;exact(v,cellK c v z)
 .obtain ⟨v,o,ho,_⟩:=C.cell y c h;exact(e0.bs c o ho).2
 .unfold b_N;show _=N.length;simp only[qa5,qa4,length_replicate];omega
theorem d_j(ho:base.get? f=some o)(hd:o.data=.func (PySem.W.fnX name qual params body scope clos .none .none doc pm none (.ref c') ctv))(hcd:base.CodeRec (.ref c') qual)(S:a_B N ps fr scope)(C:a_w base clos scope fr fvs)(len:∀vs H Q E,sp vs H Q E->vs.length=ps.length)(hbody:∀(A:Around)(outer:List Env)(s:Shared)(H:Hp)(vs:List V)(Q:VK)(E:XK),af k (A.deeper (envX qual scope s.heap.objs.size f (.ref c') clos))->sp vs H Q E->
   ∃t,PSs (bj CX0 P w K mg base N qual scope f (.ref c') clos A outer s H E).nox body t/\t {nx:=λ_ H'=>Q .non H',rt:=Q} (b_N N vs fvs) H):aa P w K mg base CX0 (k+1) f (PySem.W.fnX name qual params body scope clos .none .none doc pm none (.ref c') ctv) ps sp:=by
 refine(len,λA outer s H args us vs Q E hr e0 hb r hsp=>?_);have hl:=len _ _ _ _ hsp;have lim:s.heap.NoLimit:=e0.mod.nolimit.keeps λb o e=>(e0.bs b o e).1;have hus:us.length=ps.length:=by rw[<-r.length];exact hl
 have hkind:∀y∈ps.zip us,scope.names.lookup y.1=some .local:=λhZ0 hy=>by obtain⟨n,v⟩:=hZ0;exact S.par n (of_mem_zip hy).1
 have hcd':s.heap.CodeRec (.ref c') qual:=by
  obtain⟨c,oc,ws,t,e1,e2,e3,e4⟩:=hcd;exact(c,oc,ws,t,e1,(e0.bs c oc e2).1,e3,e4)
 refine codeAny_call_function hr.depth (e0.bs f o ho).1 hd S.co S.gen rfl hcd' (hb _ _ _ _ ?_);refine wpAny_newFunctionEnv (closure:=clos) (around:=none) S.nocell hkind (λh' hns hsb=>?_) S.kind;have hkp:∀b o,s.heap.get? b=some o->h'.get? b=some o:=λb o e=>hsb.extBut b o (ne_of_lt (lt_size e)) (qa9 _ e);refine(lim.keeps hkp,codeAny_func ?_);obtain⟨t,ht,hq⟩:=hbody A outer s H vs Q E (hr.deeper _) hsp;have I:Inv (bj CX0 P w K mg base N qual scope f (.ref c') clos A outer s H E) [] (b_N N vs fvs) H {s with heap:=h',toks:=s.toks+(ps.zip us).length}:=g_b S C hr.hd e0 hl r hns hsb;refine wpAny_mono (ht.nox [] _ (b_N N vs fvs) H _ I hq) (λfl s' hs=>?_) λe s' hs=>hs;have fin:∀{σ':St}{H':Hp}{v:V}{u:Value},Inv (bj CX0 P w K mg base N qual scope f (.ref c') clos A outer s H E) [] σ' H' s'->ac v u->Q v H'->CE outer P w H s Q u s':=
  λ{σ' H' v u}J rv q=>(v,H',J.os,J.bare,J.base,J.hok,rv,q)
 cases fl with
 |ret u=>
  obtain⟨v,σ',H',J,rv,q⟩:=hs;exact fin J rv q
 |next=>
  obtain⟨σ',H',J,q⟩:=hs;exact fin (v:=V.non) (u:=Value.none) J rfl q
 |brk=>
  obtain⟨_,_,_,q⟩:=hs;exact False.elim q
 |cont=>
  obtain⟨_,_,_,q⟩:=hs;exact False.elim q
end
def pZ(i:Nat)(f:Addr)(sp:Sp)(t:TA):TE:=λσ H Q=>σ[i]?=some (some (.ref f))/\t σ H λvs H1=>sp vs H1 Q E0
theorem d_M{X:Cx}{k i:Nat}{f:Addr}{fd fd':FuncData}{oc:Value}{p pos:Pos}(F:aa X.prog X.w X.K X.mg X.base CX0 k f fd ps sp)(hr:af k X.A)(ho:X.base.get? f=some (oc,od,.func fd',sl))(hb:b_q X.K fd ps [])(hv:PE X (.Name x p) (gY i))(ha:PA X (e::es) t)(he:starEach (e::es) X.env=(false,eval e X.env,)::starEach es X.env:=by rfl)(hpl:(backTo pos (starEach es X.env)).any (·.1)=false:=by rfl):PE X (.Call (.Name x p) (e::es) [] pos) (pZ i f sp t):=by
 intro pins s σ H Q I h;refine wpAny_Call_Name_kw (thn (hv pins s σ H (λv H1=>v=.ref f/\H1=H) I (_,h.1,rfl,rfl)) λfv s1 hq=>?_);obtain⟨v,H1,I1,rv,rfl,rfl⟩:=hq;obtain rfl:fv=.ref f:=rv;refine PySem.W.callWith_F (oc,od,fd',sl,(I1.bs f _ ho).1) (thn (ha pos pins s1 σ H1 _ I1 h.2) λus s2⟨vs,H2,I2,r,q⟩=>((oc,od,fd',sl,(I2.bs f _ ho).1),?_)) he hpl;exact lF F hr hb .nil jb I2 r (by rw[append_nil];exact q)
theorem cT(q:Pos)(r:List Value)(l:List Value)(h:TriplesOk l):codeAmong q (l++r)=(codeAmong q l).or (codeAmong q r):=by
 induction l using TriplesOk.induct with
 |case1=>simp[codeAmong]
 |case2 a t b u c rest ih=>
  have h:TriplesOk rest:=h;simp only[cons_append,codeAmong];split
  .rfl
  .exact ih h
 |case3 l h1 h2=>
  exfalso;unfold TriplesOk at h;split at h
  .exact h1 rfl
  .exact h2 _ _ _ _ _ _ rfl
  .exact h
theorem e_T(x y:Int)(t u:Tok)(c:Value)(l:List Value)(h:TriplesOk l):TriplesOk (l++[.int x t,.int y u,c]):=by
 induction l using TriplesOk.induct with
 |case1=>exact True.intro
 |case2 a t b u c rest ih=>exact ih h
 |case3 l h1 h2=>
  exfalso;unfold TriplesOk at h;split at h
  .exact h1 rfl
  .exact h2 _ _ _ _ _ _ rfl
  .exact h
def codeHO(c:Addr)(q:Str):HO:=.ext λh=>h.CodeRec (.ref c) q
def fnHO(f:Addr)(name qual:Str)(params:Arguments)(body:List Stmt)(scope:Scope)(clos:List (Str×Addr))(c:Addr):HO:=.ext λh=>∃doc pm ctv,h.get? f=some (fnMade name qual params body scope clos doc pm c ctv)
def b_G(H:Hp)(P0:Addr)(sites:List (Pos×Str)):Prop:=
 ∃ps,H P0=some (.tbl ps)/\TriplesOk ps.toList/\∀q∈sites,codeAmong q.1 ps.toList=none\/∃c,codeAmong q.1 ps.toList=some (.ref c)/\H c=some (codeHO c q.2)
def c_A(P0:Addr)(H H':Hp):Prop:=∀b o,b≠P0->H b=some o->H' b=some o
structure d_g(h:Heap)(mg:Str->Option Value):Prop where
 ex:∃bm o,mg "__builtins__"=some (.ref bm)/\bm≠builtinsNs/\bm≠mainGlobals/\h.get? bm=some o/\o.cls=.type "module"/\o.dict=some builtinsNs/\o.data=.plain
def qZ(X:Cx)(P0:Addr)(sites:List (Pos×Str))(i:Nat)(name qual:Str)(params:Arguments)(body:List Stmt)(sc:Scope):TS:=λD σ H=>b_G H P0 sites/\
 ∀(clos:List (Str×Addr))(f c:Addr)(H1:Hp),(∀y a,clos.lookup y=some a->X.env.cells.lookup y=some a)->(∀y∈sc.names,y.2=.free->∃a,clos.lookup y.1=some a)->H f=none->f≠c->c_A P0 H H1->b_G H1 P0 sites->
  H1 c=some (codeHO c qual)->H1 f=some (fnHO f name qual params body sc clos c)->D.nx (σ.set i (some (.ref f))) H1
theorem cP(x:h.CodeRec (.ref c) q):a_L P w H h c (codeHO c q):=by
 obtain⟨c2,oc,vs,t,e,e1,e2,e3⟩:=id x;cases e;refine(x,(oc,e1),λh1 h2 y k=>?_);obtain⟨c2,oc,vs,t,e,e1,e2,e3⟩:=y;cases e;exact(_,oc,vs,t,rfl,k _ e1,e2,e3)
theorem jr{P:Program}{w:World}(x:h.get? f=some (fnMade name qual params body scope clos doc pm c ctv)):a_L P w H h f (fnHO f name qual params body scope clos c):=
 ((doc,pm,ctv,x),(_,x),λ_ _ hZ1 k=>by obtain⟨d,p,v,e⟩:=hZ1;exact(d,p,v,k _ e))
theorem b_S{X:Cx}{params:Arguments}{body:List Stmt}{sc:Scope}(hN:X.N.Nodup)(hi:X.N[i]?=some name)(hx:Loc X.env.scope name)(hcode:X.env.code=.ref c)(hC:CodeHd X.base c P0)(hB:d_g X.base X.mg)(hsite:(pos,qual,)∈sites)(hsites:∀q∈sites,q.1.line=pos.line->q.1.col=pos.col->q.2=qual)(hq:qualnameIn X.env name name=qual:=by rfl)(hd0:params.defaults=[]:=by rfl)(hk0:params.kw_defaults=[]:=by rfl)(ha:annTrees params none X.env=[]:=by rfl)(hfree:(sc.names.all λy=>y.2 != .free||X.env.scope.names.lookup y.1==some .cell)=true:=by rfl)(hf:X.fn name=true\/X.env.scope.names.lookup name=some .local:=by first|exact .inl rfl|exact .inr rfl):PS X (.FunctionDef name params body [] none [] sc none name pos) (qZ X P0 sites i name qual params body sc):=by
 intro pins s σ H D I h;obtain⟨⟨ps,hP,ht,hall⟩,h⟩:=h;have hfr:∀y∈sc.names,y.2=.free->X.env.kindOf y.1=some .cell:=λy hy e=>by
  have q:=all_eq_true.mp hfree y hy;rw[e]at q;simpa[Env.kindOf]using q
 obtain⟨cl,hclos,hsub,hhas⟩:=d_a (env:=X.env) (sc:=sc) λy hy e=>I.ok.has y.1 (.inl (hfr y hy e));have hPh:s.heap.get? P0=some (tabObj ps):=I.hok P0 _ hP;have hPlt:P0<s.heap.objs.size:=I.hok.lt hP;have hbP:s.heap.BuiltinsAt X.mg P0:=by
  obtain⟨bm,o,e1,e2,e3,e4,e5,e6,e7⟩:=hB.ex;refine(bm,o,e1,e2,e3,λz=>?_,(I.bs bm o e4).1,e5,e6,e7);have n:=(I.bs bm o e4).2;rw[z,hP]at n;cases n
 have hgs:s.heap.Ns mainGlobals X.mg:=I.mod.glob.keeps I.bk;have hgP:mainGlobals≠P0:=λz=>by
  obtain⟨o,es,ep,e,hd,_⟩:=hgs;rw[z,hPh]at e;cases e;cases hd
 have hC':=hC.keeps I.bk;refine PySem.W.nestDef_K hd0 hk0 ha ?_;rw[hq];have fin:∀{f:Addr}{s1:Shared}{H1:Hp},Inv X pins σ H1 s1->D.nx (σ.set i (some (.ref f))) H1->wpAny (model X.prog X.w) X.A (storeName X.env name (.ref f)) (λ_ s''=>SP X pins D .next s'') X.xe s1:=λ{f s1 H1}I1 q=>
  store_ok I1 hN hi hx (v:=.ref f) rfl (λs' I'=>(_,H1,I',q)) hf
 have old:∀{b:Addr}{u:HO},H b=some u->b<s.heap.objs.size:=λe=>I.hok.lt e;rcases hall _ hsite with hnf|⟨c0,hhit,hc0⟩
 .refine PySem.W.makeFunction_K (mg:=X.mg) hclos I.ok.glob hgs hcode hC' hPh ht hnf hgP hbP λc' ctv doc h' tk hxx hge hlt hrec htb=>?_;have hPc:P0≠c':=ne_of_lt (lt_of_lt_of_le hPlt hge);have hszh:s.heap.objs.size<h'.objs.size:=lt_of_le_of_lt hge hlt;have hPf:P0≠h'.objs.size:=ne_of_lt (lt_trans hPlt hszh);have hcf:c'≠h'.objs.size:=ne_of_lt hlt;generalize hfe:h'.objs.size=f at hPf hcf hszh⊢;have kp:∀b o,b≠P0->s.heap.get? b=some o->(h'.push (fnMade name qual params body sc cl doc ((X.mg "__name__").getD .none) c' ctv)).get? b=some o:=λb o hb e=>qa9 _ (hxx b o hb e);have hof:(h'.push (fnMade name qual params body sc cl doc ((X.mg "__name__").getD .none) c' ctv)).get? f=some (fnMade name qual params body sc cl doc ((X.mg "__name__").getD .none) c' ctv):=by rw[<-hfe];exact get?_push_size _ rfl
  have hoc:(h'.push (fnMade name qual params body sc cl doc ((X.mg "__name__").getD .none) c' ctv)).CodeRec (.ref c') qual:=by
   obtain⟨c2,oc,vs,t,e,e1,e2,e3⟩:=hrec;exact(c2,oc,vs,t,e,qa9 _ e1,e2,e3)
  have hoP:(h'.push (fnMade name qual params body sc cl doc ((X.mg "__name__").getD .none) c' ctv)).get? P0=some (tabObj (ps++#[rawInt pos.line,rawInt pos.col,.ref c'])):=qa9 _ htb;generalize h'.push (fnMade name qual params body sc cl doc ((X.mg "__name__").getD .none) c' ctv)=hh at kp hof hoc hoP⊢;generalize hps:ps++#[rawInt pos.line,rawInt pos.col,.ref c']=ps' at hoP;have nlt:∀{b:Addr},b<s.heap.objs.size->b≠c'/\b≠f:=λhb=>(ne_of_lt (lt_of_lt_of_le hb hge),ne_of_lt (lt_trans hb hszh));have get1:∀{b:Addr},b<s.heap.objs.size->b≠P0->upd (upd (upd H P0 (.tbl ps')) c' (codeHO c' qual)) f (fnHO f name qual params body sc cl c') b=H b:=λhb hbP=>by
   rw[upd_ne (nlt hb).2,upd_ne (nlt hb).1,upd_ne hbP]
  have getO:∀{b:Addr},b≠P0->b≠c'->b≠f->upd (upd (upd H P0 (.tbl ps')) c' (codeHO c' qual)) f (fnHO f name qual params body sc cl c') b=H b:=λh1 h2 h3=>by
   rw[upd_ne h3,upd_ne h2,upd_ne h1]
  have getP:upd (upd (upd H P0 (.tbl ps')) c' (codeHO c' qual)) f (fnHO f name qual params body sc cl c') P0=some (.tbl ps'):=by rw[upd_ne hPf,upd_ne hPc,a_c]
  have getc:upd (upd (upd H P0 (.tbl ps')) c' (codeHO c' qual)) f (fnHO f name qual params body sc cl c') c'=some (codeHO c' qual):=by rw[upd_ne hcf,a_c]
  have getf:upd (upd (upd H P0 (.tbl ps')) c' (codeHO c' qual)) f (fnHO f name qual params body sc cl c') f=some (fnHO f name qual params body sc cl c'):=a_c;generalize upd (upd (upd H P0 (.tbl ps')) c' (codeHO c' qual)) f (fnHO f name qual params body sc cl c')=H1 at get1 getO getP getc getf;have nP:∀{b:Addr},H b=none->b≠P0:=λn z=>by rw[z,hP]at n;cases n
  have keepH:∀{b:Addr}{u:HO},H b=some u->b≠P0->H1 b=some u:=λe hb=>by rw[get1 (old e) hb];exact e
  have notT:∀{b:Addr}{u:HO},H b=some u->(∀ps,u≠.tbl ps)->H1 b=some u:=λe hu=>keepH e λz=>by
   rw[z,hP]at e;cases e;exact hu _ rfl
  have un:Un X.fs [] H H1 s.heap hh:=by
   refine(λb o e n _ _=>kp b o (nP n) e,λb o e n _ _=>(o.slots,kp b o (nP n) e),λb o e n _=>by rw[get1 (lt_size e) (nP n)];exact n,λb o e _=>?_,λb xs e=>notT e (λ_ z=>nomatch z),λb o u e=>notT e (λ_ z=>nomatch z),λb qs e=>?_)
   .by_cases hb:b=P0
    .rw [hb];exact(_,hoP)
    .exact (o,kp b o hb e)
   .by_cases hb:b=P0
    .rw [hb,hP]at e;cases e;rw[hb];exact(_,by rw[getP,hps])
    .exact (#[],by rw[keepH e hb];simp)
  have hok1:HOk X.prog X.w H1 hh:=λa o e=>by
   by_cases haf:a=f
   .rw [haf]at e⊢;rw[getf]at e;cases e;exact jr hof
   by_cases hac:a=c'
   .rw [hac]at e⊢;rw[getc]at e;cases e;exact cP hoc
   by_cases haP:a=P0
   .rw [haP]at e⊢;rw[getP]at e;cases e;exact hoP
   rw[getO haP hac haf]at e;refine(I.hok a o e).stay (λb u hb q=>kp b u (λz=>?_) q) (λb q=>notT q (λ_ z=>nomatch z)) λb xs q=>notT q (λ_ z=>nomatch z);rcases hb with hb|hb
   .exact haP (hb▸z)
   .rw [z,hP]at hb;cases hb
  have I1:Inv X pins σ H1 {s with heap:=hh,toks:=tk}:=I.un un hok1;refine fin I1 (h cl f c' H1 hsub hhas (I.hok.fresh (le_of_lt hszh)) (Ne.symm hcf) (λb o hb e=>keepH e hb) (ps',getP,?_,λq hqs=>?_) getc getf)
  .rw [<-hps,Array.toList_append];exact e_T _ _ _ _ _ _ ht
  .rw [<-hps,Array.toList_append,cT _ _ _ ht];rcases hall q hqs with hn|⟨c1,h1,h2⟩
   .rw [hn,Option.none_or];by_cases hsame:q.1.line=pos.line/\q.1.col=pos.col
    .refine .inr (c',?_,?_)
     .show codeAmong q.1 [rawInt pos.line,rawInt pos.col,.ref c']=_;simp[codeAmong,rawInt,hsame.1,hsame.2]
     .rw [hsites q hqs hsame.1 hsame.2];exact getc
    .refine .inl ?_;show codeAmong q.1 [rawInt pos.line,rawInt pos.col,.ref c']=_;simp only[codeAmong,rawInt];rw[if_neg];intro z;simp at z;exact hsame (by omega,by omega)
   .rw [h1,Option.some_or];exact .inr (c1,rfl,notT h2 (λ_ z=>nomatch z))
 .refine PySem.W.makeFunction_hit (mg:=X.mg) hclos I.ok.glob hgs hcode hC' hPh ht hhit hbP λctv doc h' tk hk hsz=>?_;have I1:Inv X pins σ (upd H h'.objs.size (fnHO h'.objs.size name qual params body sc cl c0)) {s with heap:=h'.push (fnMade name qual params body sc cl doc ((X.mg "__name__").getD .none) c0 ctv),toks:=tk}:=
   I.laid (λb u e=>qa9 _ (hk b u e)) hsz (jr (get?_push_size _ rfl))
  have hfn:H h'.objs.size=none:=I.hok.fresh hsz;have kH:∀{b:Addr}{u:HO},H b=some u->upd H h'.objs.size (fnHO h'.objs.size name qual params body sc cl c0) b=some u:=λe=>by rw[upd_ne (ne_of_none e hfn)];exact e
  refine fin I1 (h cl _ c0 _ hsub hhas hfn (Ne.symm (ne_of_none hc0 hfn)) (λb o _ e=>kH e) (ps,kH hP,ht,λq hqs=>?_) (kH hc0) a_c);rcases hall q hqs with hn|⟨c1,h1,h2⟩
  .exact .inl hn
  .exact .inr (c1,h1,kH h2)
def untr(U:List Addr)(H:Hp):Hp:=λb=>if b∈U then none else H b
def retr(U:List Addr)(H H':Hp):Hp:=λb=>if b∈U then H b else H' b
theorem e_S(h:b∈U):untr U H b=none:=if_pos h
theorem a_q(h:b∉U):untr U H b=H b:=if_neg h
theorem c_I(h:b∈U):retr U H H' b=H b:=if_pos h
theorem a_O(h:b∉U):retr U H H' b=H' b:=if_neg h
theorem Mod.keeps{K:Frag}(M:Mod K mg h)(k:∀b o,h.get? b=some o->h'.get? b=some o):Mod K mg h':=
 (M.kin.keeps k,M.glob.keeps k,let⟨mb,a,b⟩:=M.blt;(mb,a.keeps k,b),M.nolimit.keeps k)
section
variable{P:Program}{w:World}{K:Frag}{mg:Str->Option Value}{base:Heap}{A:Around}{outer:List Env}{s:Shared}{H:Hp}{U:List Addr}
theorem eG(e0:bn P w K mg base A outer s H)(hU:∀u∈U,∃φ,H u=some (.ext φ)):∃base',bn P w K mg base' A outer s (untr U H)/\(∀b o,base.get? b=some o->base'.get? b=some o)/\∀b o,s.heap.get? b=some o->b∉frs outer->untr U H b=none->base'.get? b=some o:=by
 have hget:∀b o,s.heap.get? b=some o->b∉frs outer->untr U H b=none->(hideAll s.heap (trk s.heap (untr U H)++frs outer)).get? b=some o:=λb o e hf hn=>hideAll_get _ e λhm=>by
  rcases mem_append.mp hm with z|z
  .have q:((untr U H) b).isSome=true:=(mem_filter.mp z).2;rw[hn]at q;cases q
  .exact hf z
 have notU:∀b,H b=none->b∉U:=λb n z=>by
  obtain⟨φ,e⟩:=hU b z;rw[n]at e;cases e
 have sub:∀b o,base.get? b=some o->(hideAll s.heap (trk s.heap (untr U H)++frs outer)).get? b=some o:=λb o e=>by
  obtain⟨e1,n⟩:=e0.bs b o e;refine hget b o e1 (λz=>?_) (by rw[a_q (notU b n)];exact n);have:=(e0.funs.mem z).1;rw[e]at this;cases this
 have keepO:∀{b:Addr}{u:HO},H b=some u->(∀φ,u≠.ext φ)->untr U H b=some u:=λ{b u}e hu=>by
  rw[a_q λz=>?_]
  .exact e
  .obtain ⟨φ,e'⟩:=hU b z;rw[e]at e';exact hu φ (Option.some.inj e')
 refine(hideAll s.heap (trk s.heap (untr U H)++frs outer),(e0.frames,e0.mod.keeps sub,λb o e=>?_,le_of_eq (PySem.W.hideAll_size _ _),b_J e0.funs λb hb=>mem_append_right _ hb,λb hb=>?_,λa o e=>?_,e0.bare),sub,hget)
 .have e1:=of_hideAll _ e;refine(e1,?_);cases q:untr U H b with
  |none=>rfl
  |some u=>
   have hm:b∈trk s.heap (untr U H)++frs outer:=mem_append_left _ (mem_filter.mpr (mem_range.mpr (lt_size e1),by simp[q]));rw[hideAll_none _ hm]at e;cases e
 .rw [a_q (notU b (e0.frf b hb))];exact e0.frf b hb
 .have ha:a∉U:=λz=>by rw[e_S z]at e;cases e
  rw[a_q ha]at e;exact(e0.hok a o e).stay (λ_ _ _ q=>q) (λb q=>keepO q (λ_ z=>nomatch z)) λb xs q=>keepO q (λ_ z=>nomatch z)
theorem bW(e0:bn P w K mg base A outer s H)(hU:∀u∈U,∃φ,H u=some (.ext φ))(h:CE outer P w (untr U H) s (λv H2=>(∀u∈U,H2 u=none)->Q v (retr U H H2)) u s'):CE outer P w H s Q u s':=by
 obtain⟨v,H',os,bare,un,hok,r,q⟩:=h;have notU:∀b,H b=none->b∉U:=λb n z=>by
  obtain⟨φ,e⟩:=hU b z;rw[n]at e;cases e
 have notF:∀b∈U,b∉frs outer:=λb hb z=>notU b (e0.frf b z) hb;have stays:∀b∈U,∃o,s.heap.get? b=some o/\s'.heap.get? b=some o/\H' b=none:=λb hb=>by
  obtain⟨φ,e⟩:=hU b hb;obtain⟨_,⟨o,ho⟩,_⟩:=e0.hok b _ e;exact(o,ho,un.keep b o ho (e_S hb) (notF b hb) (by simp),un.free b o ho (e_S hb) (by simp))
 have keepT:∀{b:Addr}{x:HO},H b=some x->(∀φ,x≠.ext φ)->b∉U:=λ{b x}e hx z=>by
  obtain⟨φ,e'⟩:=hU b z;rw[e]at e';exact hx φ (Option.some.inj e')
 have keepH:∀{b:Addr}{x:HO},H' b=some x->retr U H H' b=some x:=λ{b x}e=>by
  rw[a_O λz=>?_]
  .exact e
  .obtain ⟨_,_,_,n⟩:=stays b z;rw[e]at n;cases n
 refine(v,retr U H H',os,bare,(λb o e n hb hx=>?_,λb o e n hb hx=>?_,λb o e n hx=>?_,un.there,λb xs e=>?_,λb o x e=>?_,λb ps e=>?_),λa o e=>?_,r,q λb hb=>(stays b hb).choose_spec.2.2)
 .exact un.keep b o e (by rw[a_q (notU b n)];exact n) hb hx
 .exact un.slot b o e (by rw[a_q (notU b n)];exact n) hb hx
 .rw [a_O (notU b n)];exact un.free b o e (by rw[a_q (notU b n)];exact n) hx
 .have hb:=keepT e (λ_ z=>nomatch z);rw[a_O hb];exact un.tups b xs (by rw[a_q hb];exact e)
 .have hb:=keepT e (λ_ z=>nomatch z);rw[a_O hb];exact un.frzs b o x (by rw[a_q hb];exact e)
 .have hb:=keepT e (λ_ z=>nomatch z);rw[a_O hb];exact un.tbls b ps (by rw[a_q hb];exact e)
 .by_cases ha:a∈U
  .rw [c_I ha]at e;obtain⟨φ,e'⟩:=hU a ha;rw[e']at e;cases e;obtain⟨o,ho,ho',_⟩:=stays a ha;obtain⟨p1,_,p3⟩:=e0.hok a _ e';exact(p3 _ _ p1 (λo2 z=>by rw[ho]at z;cases z;exact ho'),(o,ho'),p3)
  .rw [a_O ha]at e;exact(hok a o e).stay (λ_ _ _ z=>z) (λb z=>keepH z) λb xs z=>keepH z
end
structure f_C(X:Cx)(U:List Addr)(σ:St)(H:Hp)(base':Heap):Prop where
 sub:∀b o,X.base.get? b=some o->base'.get? b=some o
 mod:Mod X.K X.mg base'
 ext:∀u φ,u∈U->H u=some (.ext φ)->φ base'
 inj:∀y z c,X.env.cells.lookup y=some c->X.env.cells.lookup z=some c->y=z
 cell:∀y c,X.env.cells.lookup y=some c->∃v,base'.IsCell c v
 val:∀(i:Nat)(y:Str)(v:V),X.N[i]?=some y->σ[i]?=some (some v)->X.env.scope.names.lookup y=some .cell->∃c u,X.env.cells.lookup y=some c/\base'.IsCell c (some u)/\ac v u
def qV(X:Cx)(f:Addr)(fd:FuncData)(ps:List Str)(dvs:List V)(t:TA):TE:=λσ H Q=>t σ H λvs H1=>∃U:List Addr,(∀u∈U,∃φ,H1 u=some (.ext φ))/\∀base':Heap,f_C X U σ H1 base'->
 ∃(k:Nat)(sp:Sp),af k X.A/\aa X.prog X.w X.K X.mg base' CX0 k f fd ps sp/\sp (vs++dvs) (untr U H1) (λv H2=>(∀u∈U,H2 u=none)->Q v (retr U H1 H2)) E0
theorem e_n{X:Cx}{f:Addr}{p pos:Pos}(hg:Gl X x)(hm:X.mg x=some (.ref f))(hk:keepIn X.K (.ref f)=true)(hb:b_q X.K fd ps ds)(hd:ad dvs ds)(ha:PA X (e::es) t)(hfn:∀y,X.fn y=true)(hdb:(x==("__debug__":Str))=false:=by decide)(he:starEach (e::es) X.env=(false,eval e X.env,)::starEach es X.env:=by rfl)(hpl:(backTo pos (starEach es X.env)).any (·.1)=false:=by rfl):PE X (.Call (.Name x p) (e::es) [] pos) (qV X f fd ps dvs t):=by
 intro pins s σ H Q I h;refine wpAny_Call_Name_kw (ld_glob I hg hm ?_ hdb);refine callWith_K (h₀:=X.base) I.ok.mod.kin hk (thn (ha pos pins s σ H _ I h) λus s1⟨vs,H1,I1,r,q⟩=>(I1.kIn,?_)) he hpl;obtain⟨U,hU,q⟩:=q;obtain⟨base',e0,hsub,hget⟩:=eG I1.env0 hU;have cellB:∀y c v,X.env.cells.lookup y=some c->s1.heap.IsCell c v->base'.IsCell c v:=λy c v hc hZ2=>by
  obtain⟨o,ho,hdd⟩:=hZ2;have hn:=I1.freeC y c hc;refine(o,hget c o ho (λz=>?_) ?_,hdd)
  .rcases mem_cons.mp (I1.stkSub c z)with z|z
   .exact I1.cne y c hc z
   .obtain ⟨_,o',ho',_⟩:=I1.ok.funs.mem z;exact absurd (lt_size ho') (not_lt.mpr (I1.ok.cab y c (hfn y) hc))
  .unfold untr;split
   .rfl
   .exact hn
 have W:f_C X U σ H1 base':=by
  refine(hsub,e0.mod,λu φ hu e=>?_,I1.ok.inj,λy c hc=>?_,λi y v e1 e2 e3=>?_)
  .obtain ⟨p1,⟨o,ho⟩,p3⟩:=I1.hok u _ e;refine p3 _ _ p1 λo2 z=>hget u o2 z (λy=>?_) (e_S hu);rw[I1.stkFree u y]at e;cases e
  .obtain ⟨v,z⟩:=I1.cell y c hc;exact(v,cellB y c v hc z)
  .obtain ⟨m,hn,hl⟩:=I1.loc;obtain⟨u,ru,lk⟩:=hl i y v e1 e2 (.inr (.inl e3));rcases lk with⟨k1,_⟩|⟨_,c,hc,z⟩
   .have:X.env.scope.names.lookup y=some .local:=k1;rw[e3]at this;cases this
   .exact (c,u,hc,cellB y c _ hc z,ru)
 obtain⟨k,sp,hr,F,hsp⟩:=q base' W;have r2:ad (vs++dvs) (us++ds):=r.append hd;have hl:(us++ds).length=ps.length:=by rw[<-r2.length];exact F.len _ _ _ _ hsp
 refine wpAny_call (codeAny_mono (F.run X.A X.stack s1 (untr U H1) (us,[]) (us++ds) (vs++dvs) _ E0 hr e0 (hb s1 us I1.kIn hl) r2 hsp) λr s' hq=>?_);cases r with
 |error e=>exact False.elim hq
 |ok fl=>
  cases fl with
  |ret u=>exact I1.after (bW I1.env0 hU hq)
  |next=>exact False.elim hq
  |brk=>exact False.elim hq
  |cont=>exact False.elim hq
def a_F(ts:List Addr)(K:Frag):Frag:=K.filter λq=>!ts.contains q.1
theorem c_w{ts:List Addr}{a:Addr}(hn:ts.contains a=false):∀{K:Frag},(a_F ts K).lookup a=K.lookup a
 |[]=>rfl
 |(b,x)::r=>by
  unfold a_F;rw[List.filter_cons];by_cases hb:a=b
  .subst hb;rw[if_pos (by simpa using hn),lookup_cons,lookup_cons];simp
  .have hb':(a==b)=false:=beq_eq_false_iff_ne.mpr hb;split
   .rw [lookup_cons,lookup_cons,hb'];exact c_w (K:=r) hn
   .rw [lookup_cons,hb'];exact c_w (K:=r) hn
theorem g_z{ts:List Addr}{a:Addr}{o:Obj}:∀{K:Frag},(a_F ts K).lookup a=some o->ts.contains a=false
 |[],e=>by cases e
 |(b,x)::r,e=>by
  unfold a_F at e;rw[List.filter_cons]at e;split at e
  .rename_i hc;rw[lookup_cons]at e;by_cases hb:a=b
   .subst hb;simpa using hc
   .rw [beq_eq_false_iff_ne.mpr hb]at e;exact g_z (K:=r) e
  .exact g_z (K:=r) e
theorem lkD{K:Frag}(e:K.lookup a=some o)(hn:ts.contains a=false):(a_F ts K).lookup a=some o:=(c_w hn).trans e
theorem nsD{K:Frag}(e:nsIn K a x=r)(hn:ts.contains a=false):nsIn (a_F ts K) a x=r:=by
 unfold nsIn at e⊢;rw[c_w hn];exact e
theorem cdD{K:Frag}(e:codeIn K (.ref c) x=true)(hn:ts.contains c=false):codeIn (a_F ts K) (.ref c) x=true:=by
 unfold codeIn at e⊢;dsimp only at e⊢;rw[c_w hn];exact e
def dZ(K:Frag)(c P:Addr):Bool:=match K.lookup c with
 | some ⟨.type n,_,.fields vs,_⟩=>n=="code"&&c != P&&(match (vs[11]?:Option Value),(vs[18]?:Option Value),(vs[7]?:Option Value),(vs[9]?:Option Value),(vs[10]?:Option Value)with
   |some (.ref Q),some (.str _ _),some (.int _ _),some (.bool _),some (.int _ _)=>Q==P
   | _,_,_,_,_=>false)
 |_=>false
theorem iJ{K:Frag}(X:K.In h)(e:dZ K c P=true):CodeHd h c P:=by
 unfold dZ at e;split at e
 .rename_i n dd vs sl hl;have ho:=X _ _ hl;rw[and_eq_true,and_eq_true]at e;obtain⟨⟨e1,e2⟩,e3⟩:=e;split at e3
  .rename_i Q s t i u b j v h1 h2 h3 h4 h5;have hQ:Q=P:=eq_of_beq e3;subst hQ;have gd:∀{k:Nat}{x:Value},vs[k]?=some x->vs.getD k .none=x:=λ{k x}z=>by
    rw[Array.getD_eq_getD_getElem?,z];rfl
   exact(_,vs,s,t,i,u,b,j,v,ho,by rw[eq_of_beq e1],rfl,h1,gd h1,gd h2,gd h3,gd h4,gd h5,by simpa using e2)
  .cases e3
 .cases e
structure pM(K:Frag)(q:Addr×Addr):Prop where
 code:dZ K q.1 q.2=true
 tab:K.lookup q.2=some (tabObj #[])
def dk(K:Frag)(tabs:List (Addr×Addr)):Sp:=λvs H Q _=>∃(a:Addr)(ns:List Int),vs=[.ref a]/\SqL K H a (ns.map V.int)/\ns.length≤63/\(∀q∈tabs,H q.2=some (.tbl #[]))/\∀H',Q (.bl true) H'
theorem gv(x:CodeHd h c P)(k:∀o,o.cls=.type "code"->h.get? c=some o->h'.get? c=some o):CodeHd h' c P:=by
 obtain⟨o,vs,file,tf,flags,tg,inF,text,tt,e,r1,r⟩:=x;exact(o,vs,file,tf,flags,tg,inF,text,tt,k o r1 e,r1,r)
theorem kx{P:Program}{w:World}{K:Frag}(KX:K.In s₁.heap)(hT:∀q∈tabs,pM K q)(hns:s₁.heap.Ns mainGlobals mg)(hB:d_g s₁.heap mg)(hb:s₁.heap.Ns builtinsNs mb)(hbb:∀x:Str,x≠"__name__"->mb x=bootBuiltins x)(hlim:s₁.heap.NoLimit)(hg:s₁.gens=#[])(ha:s₁.heap.get? a=some {cls:=.type "list",data:=.seq vs.toArray})(hi:IntsAre vs ns)(hl:ns.length≤63)(hr:af k callerA)(F:∀base:Heap,(a_F (tabs.map (·.2)) K).In base->base.Ns mainGlobals mg->d_g base mg->(∀q∈tabs,CodeHd base q.1 q.2)->aa P w (a_F (tabs.map (·.2)) K) mg base CX0 k fa fd [x] (dk (a_F (tabs.map (·.2)) K) tabs))(hbind:∀(s:Shared)(u:Value),BindsTo s fd ([u],[]) [(x,u,)]):codeAny (model P w) callerA (.call (.ref fa) ([.ref a],[])) (λr s'=>r=.ok (.ret (.bool true))/\OldK s₁.heap s'.heap/\s'.os=s₁.os/\AllBare s'.gens) s₁:=by
 have rv:=c_E hi;have lenV:=hi.length;have hls:ns.length≤sizeLine:=le_trans hl (by rw[sizeLine_eq];decide);have tabH:∀q∈tabs,s₁.heap.get? q.2=some (tabObj #[]):=λq hq=>KX _ _ (hT q hq).tab;have hd:∀q∈tabs,CodeHd s₁.heap q.1 q.2:=λq hq=>iJ KX (hT q hq).code;have inT:∀{b:Addr},(tabs.map (·.2)).contains b=true->∃q∈tabs,q.2=b:=λ{b}hb=>by
  rw[contains_iff_mem]at hb;obtain⟨q,hq,e⟩:=mem_map.mp hb;exact(q,hq,e)
 have memT:∀{q:Addr×Addr},q∈tabs->(tabs.map (·.2)).contains q.2=true:=λ{q}hq=>by
  rw[contains_iff_mem];exact List.mem_map_of_mem hq
 have aT:(tabs.map (·.2)).contains a=false:=by
  cases z:(tabs.map (·.2)).contains a with
  |false=>rfl
  |true=>
   obtain⟨q,hq,e⟩:=inT z;have e1:=tabH q hq;rw[e,ha]at e1;cases e1
 have core:∀H:Hp,SqL (a_F (tabs.map (·.2)) K) H a (ns.map V.int)->HOk P w H s₁.heap->(∀b,H b=none\/(b=a/\K.lookup a=none/\H b=some (.frz {cls:=.type "list",data:=.seq vs.toArray} (.lst (ns.map V.int))))\/((tabs.map (·.2)).contains b=true/\H b=some (.tbl #[])))->
   (∀q∈tabs,H q.2=some (.tbl #[]))->
   codeAny (model P w) callerA (.call (.ref fa) ([.ref a],[])) (λr s'=>r=.ok (.ret (.bool true))/\OldK s₁.heap s'.heap/\s'.os=s₁.os/\AllBare s'.gens) s₁:=by
  intro H hS hok hO hTH;have base_of:∀{b:Addr}{o:Obj},s₁.heap.get? b=some o->H b=none->(bJ s₁.heap H).get? b=some o:=λe n=>mU e n;have freeOf:∀{b:Addr}{o:Obj},s₁.heap.get? b=some o->b≠a->o≠tabObj #[]->H b=none:=λ{b o}e hne hno=>by
   rcases hO b with z|⟨z,_⟩|⟨z,_⟩
   .exact z
   .exact absurd z hne
   .obtain ⟨q,hq,e2⟩:=inT z;have e1:=tabH q hq;rw[e2,e]at e1;exact absurd (Option.some.inj e1) hno
  have nsK:∀{b:Addr}{m:Str->Option Value},s₁.heap.Ns b m->(bJ s₁.heap H).Ns b m:=λ{b m}hZ0=>by obtain⟨o,es,ep,e,d,r⟩:=hZ0;exact(o,es,ep,base_of e (freeOf e (λz=>by rw[z,ha]at e;cases e;cases d) (λz=>by rw[z]at d;cases d)),d,r)
  have hKb:(a_F (tabs.map (·.2)) K).In (bJ s₁.heap H):=λb o e=>by
   have hn:=g_z e;have e1:=KX b o ((c_w hn).symm.trans e);refine base_of e1 ?_;rcases hO b with z|⟨z,z2,_⟩|⟨z,_⟩
   .exact z
   .rw [c_w hn,z,z2]at e;cases e
   .rw [hn]at z;cases z
  have hBb:d_g (bJ s₁.heap H) mg:=by
   obtain⟨bm,o,e1,e2,e3,e4,e5,e6,e7⟩:=hB.ex;exact(bm,o,e1,e2,e3,base_of e4 (freeOf e4 (λz=>by rw[z,ha]at e4;cases e4;cases e7) (λz=>by rw[z]at e7;cases e7)),e5,e6,e7)
  have hCb:∀q∈tabs,CodeHd (bJ s₁.heap H) q.1 q.2:=λq hq=>gv (hd q hq) λo hc e=>base_of e (freeOf e (λz=>by rw[z,ha]at e;cases e;injection hc with hc;exact absurd hc (by decide)) (λz=>by rw[z]at hc;cases hc));have hM:Mod (a_F (tabs.map (·.2)) K) mg (bJ s₁.heap H):=(hKb,nsK hns,(mb,nsK hb,hbb),let⟨mc,h1,h2⟩:=hlim;(mc,nsK h1,h2));have e0:bn P w (a_F (tabs.map (·.2)) K) mg (bJ s₁.heap H) callerA [] s₁ H:=(rfl,hM,λb o e=>oJ e,le_of_eq (kG _ _),trivial,λb hb=>absurd (show b∈([]:List Addr)from hb) (by simp),hok,.of_eq hg);refine codeAny_mono ((F _ hKb (nsK hns) hBb hCb).run callerA [] s₁ H ([.ref a],[]) [.ref a] [.ref a] (λv _=>v=.bl true) (λ_ _ _=>False) hr e0 (hbind s₁ (.ref a)) (.cons rfl .nil) (a,ns,rfl,hS,hl,hTH,λ_=>rfl)) λr s' h=>?_;cases r with
  |error e=>exact False.elim h
  |ok fl=>
   cases fl with
   |next=>exact False.elim h
   |brk=>exact False.elim h
   |cont=>exact False.elim h
   |ret u=>
    obtain⟨v,H',os,bare,un,hok',r',q⟩:=h;have q':v=.bl true:=q;subst q';obtain rfl:u=Value.bool true:=r';refine(rfl,(λb o e=>?_,λb o e=>un.there b o e (by simp)),os,bare);rcases hO b with z|⟨z1,_,z⟩|⟨z1,z⟩
    .exact .inl (un.keep b o e z (by intro y;exact absurd (show b∈([]:List Addr)from y) (by simp)) (by simp))
    .obtain ⟨e1,_⟩:=hok b _ z;obtain⟨e2,_⟩:=hok' b _ (un.frzs b _ _ z);rw[e]at e1;cases e1;exact .inl e2
    .obtain ⟨q,hq,e2⟩:=inT z1;obtain⟨more,z3⟩:=un.tbls b _ z;have e3:s'.heap.get? b=some {cls:=.none,data:=.fields (#[]++more)}:=hok' b _ z3;have e4:=tabH q hq;rw[e2,e]at e4;cases e4;refine .inr (.inl (?_,rfl,#[],more,rfl,e3));have:=((hd q hq).tab (tabH q hq)).isCodeTable;rw[e2]at this;exact this
 have aOk:∀{H:Hp}{b:Addr},(tabs.map (·.2)).contains b=true->a_L P w H s₁.heap b (.tbl #[]):=λ{H b}z=>by
  obtain⟨q,hq,e⟩:=inT z;have e1:=tabH q hq;rw[e]at e1;exact e1
 cases hk:K.lookup a with
 |some o=>
  have e:=KX a o hk;rw[ha]at e;cases e;refine core (λb=>if (tabs.map (·.2)).contains b=true then some (.tbl #[])else none) (.inr (_,vs.toArray,_,(c_w aT).trans hk,rfl,rfl,rfl,by rw[size_toArray,lenV];exact hls,by simpa using rv)) (λb u z=>?_) (λb=>?_) (λq hq=>if_pos (memT hq))
  .by_cases hb:(tabs.map (·.2)).contains b=true
   .have z':=(if_pos hb).symm.trans z;cases z';exact aOk hb
   .have z':=(if_neg hb).symm.trans z;cases z'
  .by_cases hb:(tabs.map (·.2)).contains b=true
   .exact .inr (.inr (hb,if_pos hb))
   .exact .inl (if_neg hb)
 |none=>
  refine core (λb=>if b=a then some (.frz {cls:=.type "list",data:=.seq vs.toArray} (.lst (ns.map V.int)))else if (tabs.map (·.2)).contains b=true then some (.tbl #[])else none) (.inl (.inr ({cls:=.type "list",data:=.seq vs.toArray},if_pos rfl))) (λb u z=>?_) (λb=>?_) (λq hq=>?_)
  .by_cases hb:b=a
   .have z':=(if_pos hb).symm.trans z;cases z';subst hb;exact(ha,by rw[qa4];exact hls,vs,_,rv,ha)
   .have z':=(if_neg hb).symm.trans z;by_cases hb2:(tabs.map (·.2)).contains b=true
    .have z2:=(if_pos hb2).symm.trans z';cases z2;exact aOk hb2
    .have z2:=(if_neg hb2).symm.trans z';cases z2
  .by_cases hb:b=a
   .exact .inr (.inl (hb,hk,if_pos hb))
   .by_cases hb2:(tabs.map (·.2)).contains b=true
    .exact .inr (.inr (hb2,(if_neg hb).trans (if_pos hb2)))
    .exact .inl ((if_neg hb).trans (if_neg hb2))
  .have hne:q.2≠a:=λz=>by
    have:=memT hq;rw[z,aT]at this;cases this
   exact(if_neg hne).trans (if_pos (memT hq))
theorem walk63t{l:PySem.W.OpenLaw}{K:Params->Frag}(hn:l.most=some 63)(hdf:d.params.defaults=[])(hr:af k callerA)(hT:∀p,∀q∈tabs,pM (K p) q)(F:∀(w:World)(mg:Str->Option Value)(fa:Addr)(h:Heap),(a_F (tabs.map (·.2)) (K w.params)).In h->h.Ns mainGlobals mg->mg d.name=some (.ref fa)->
   ∃fd:FuncData,(∀(s:Shared)(u:Value),BindsTo s fd ([u],[]) [(x,u,)])/\∀base:Heap,(a_F (tabs.map (·.2)) (K w.params)).In base->base.Ns mainGlobals mg->d_g base mg->(∀q∈tabs,CodeHd base q.1 q.2)->
    aa l.prog w (a_F (tabs.map (·.2)) (K w.params)) mg base CX0 k fa fd [x] (dk (a_F (tabs.map (·.2)) (K w.params)) tabs)):PySem.W.WalkO q loose XP (λw h=>(K w.params).In h) l.row.toRowW d [] (λf vs=>PySem.call f vs):=by
 refine Att.attach_call hn hdf λw s₀ s₁ mg mb fa o pm cd doc a vs ns G Y ho hd hcd hmg hobj hints hlen hg=>?_;have KX:(K w.params).In s₁.heap:=Y;have KD:(a_F (tabs.map (·.2)) (K w.params)).In s₁.heap:=λb o e=>KX b o ((c_w (g_z e)).symm.trans e);obtain⟨fd,hb,hF⟩:=F w mg fa _ KD G.T.g hmg;obtain⟨bm,ob,b1,b2,b3,b4,b5,b6⟩:=G.T.bmain;have hbG:bm≠mainGlobals:=λz=>by
  obtain⟨o,es,ep,e,hd,_⟩:=G.T.g;rw[z,e]at b3;cases b3;rw[hd]at b6;cases b6
 exact kx KX (hT w.params) G.T.g (bm,ob,b1,b2,hbG,b3,b4,b5,b6) G.T.b G.T.builtins G.T.nolimit hg hobj hints hlen hr hF hb
inductive Sd where
 |tx (x:Str) (k:Tok)|tp (a:Addr)|ls (a:Addr)
namespace Sd
def vu:Sd->Value
 |.tx x t=>.str x t
 |.tp a=>.ref a
 |.ls a=>.ref a
def pl:Sd->Addr->Nat->Heap->Prop
 |.tx x t,it,i,h=>ZP.strAt x t it i h
 |.tp a,it,i,h=>h.IsTupleIter it a i
 |.ls a,it,i,h=>h.IsListIter it a i
def it0:Sd->Obj
 |.tx x t=>ZP.strIt x t
 |.tp a=>ZP.tupIt a
 |.ls a=>{cls:=.type "list_iterator",data:=.fields #[.ref a,.int 0 0]}
def hp:Sd->Array Value->Heap->Prop
 |.tx _ _,_,_=>True
 |.tp a,its,h=>h.IsTuple a its
 |.ls a,its,h=>h.IsList a its
def has:Sd->Hp->List V->Prop
 |.tx x _,_,xs=>xs=x.cps.toList.map λc=>V.str ⟨#[c]⟩
 |.tp a,H,xs=>H a=some (.tup xs)
 |.ls a,H,xs=>H a=some (.lst xs)
end Sd
theorem mR{d:Sd}(e:h.get? it=some d.it0):d.pl it 0 h:=by
 cases d with
 |tx x t=>exact(_,e,rfl,rfl)
 |tp a=>exact(_,e,rfl,rfl)
 |ls a=>exact(_,e,rfl,rfl)
theorem fG(d:Sd):d.it0.isFreed=false:=by cases d<;>rfl
namespace ZP
def bE(h:Heap)(o1 o2:Obj):Heap:=
 ((((h.push o1).push o2).push {cls:=.type "tuple",data:=.seq #[.ref h.objs.size,.ref (h.objs.size+1)]}).push {cls:=.type "tuple",data:=.seq #[.none,.none]}).push
  {cls:=.type "zip",data:=.fields #[.none,.bool false,.bool false,.ref (h.objs.size+2),.ref (h.objs.size+3)]}
section
variable{prog:Program}{w:World}{A:Around}{E:Value->Shared->Prop}{s:Shared}
theorem e_N(ht:s.heap.IsList a items)(h:Q (.ref s.heap.objs.size) {s with heap:=s.heap.push (Sd.ls a).it0}):wpAny (model prog w) A (pyIter (.ref a)) Q E s:=wpAny_pyIter_list ht h
theorem jl(h:Q (.ref s.heap.objs.size) {s with heap:=s.heap.push (Sd.tx x t).it0}):wpAny (model prog w) A (pyIter (.str x t)) Q E s:=kz h
theorem g_E(ht:s.heap.IsTuple a items)(h:Q (.ref s.heap.objs.size) {s with heap:=s.heap.push (Sd.tp a).it0}):wpAny (model prog w) A (pyIter (.ref a)) Q E s:=mQ ht h
end
abbrev MeetG(d1 d2:Sd):Prop:=∀xs ys:Array Value,Meets (Builtin.«zip.__new__» ([.type "zip",d1.vu,d2.vu],[])) (λ_ R s=>d1.hp xs s.heap/\d2.hp ys s.heap/\R (.ok (.ret (.ref (s.heap.objs.size+4)))) {s with heap:=bE s.heap d1.it0 d2.it0})
theorem meet_st(x:Str)(t:Tok)(b:Addr):MeetG (.tx x t) (.tp b):=λxs ys=>.of_wp λprog w A R s h=>by
 obtain⟨hp,g,d,tk,os⟩:=s;obtain⟨hx,hy,h⟩:=h;have hsub:=sub_zip;have hy:(hp.push (Sd.tx x t).it0).IsTuple b ys:=IsTup.keeps hy λo e=>qa9 _ e;show wpAny _ _ (Builtin.«zip.__new__» ([.type "zip",.str x t,.ref b],[])) _ _ _
 wp_walk using jl,g_E hy
 refine(_,rfl,?_);simp only[bE]at h;simpa[size_push,Builtin.SmallTypes.ownedTupleFields,Nat.add_assoc]using h
theorem meet_sl(x:Str)(t:Tok)(b:Addr):MeetG (.tx x t) (.ls b):=λxs ys=>.of_wp λprog w A R s h=>by
 obtain⟨hp,g,d,tk,os⟩:=s;obtain⟨hx,hy,h⟩:=h;have hsub:=sub_zip;have hy:(hp.push (Sd.tx x t).it0).IsList b ys:=Heap.IsList.push hy _;show wpAny _ _ (Builtin.«zip.__new__» ([.type "zip",.str x t,.ref b],[])) _ _ _
 wp_walk using jl,e_N hy
 refine(_,rfl,?_);simp only[bE]at h;simpa[size_push,Builtin.SmallTypes.ownedTupleFields,Nat.add_assoc]using h
theorem meet_ll(a b:Addr):MeetG (.ls a) (.ls b):=λxs ys=>.of_wp λprog w A R s h=>by
 obtain⟨hp,g,d,tk,os⟩:=s;obtain⟨hx,hy,h⟩:=h;have hsub:=sub_zip;have hx:hp.IsList a xs:=hx;have hy:(hp.push (Sd.ls a).it0).IsList b ys:=Heap.IsList.push hy _;show wpAny _ _ (Builtin.«zip.__new__» ([.type "zip",.ref a,.ref b],[])) _ _ _
 wp_walk using e_N hx,e_N hy
 refine(_,rfl,?_);simp only[bE]at h;simpa[size_push,Builtin.SmallTypes.ownedTupleFields,Nat.add_assoc]using h
section
variable{prog:Program}{w:World}{A:Around}{E:Value->Shared->Prop}{s:Shared}
theorem call_sd(M:MeetG d1 d2)(hx:d1.hp xs s.heap)(hy:d2.hp ys s.heap)(h:∀h',IsZip h' (s.heap.objs.size+4) (s.heap.objs.size+2) (s.heap.objs.size+3) .none->IsPair h' (s.heap.objs.size+2) (.ref s.heap.objs.size) (.ref (s.heap.objs.size+1))->IsPair h' (s.heap.objs.size+3) .none .none->
   d1.pl s.heap.objs.size 0 h'->d2.pl (s.heap.objs.size+1) 0 h'->(∀c o,s.heap.get? c=some o->h'.get? c=some o)->Q (.ref (s.heap.objs.size+4)) {s with heap:=h'}):wpAny (model prog w) A (call (.type "zip") [d1.vu,d2.vu]) Q E s:=by
 refine callType_new F.called_zip (by decide) (F.typeCall_zip_2 _ _) (F.newCall_zip_2 _ _) (λobj=>F.args_object_init_3 obj _ _) F.entry_zip_new (M xs ys) (hx,hy,?_);have at1:∀(g:Heap)(o:Obj)(n:Nat),g.objs.size=n->o.isFreed=false->(g.push o).get? n=some o:=λg o n e f=>by rw[<-e];exact get?_push_size g f
 have z5:IsZip (bE s.heap d1.it0 d2.it0) (s.heap.objs.size+4) (s.heap.objs.size+2) (s.heap.objs.size+3) .none:=at1 _ _ _ (by simp[size_push]) rfl;exact((_,z5,rfl),h _ z5 (qa9 _ (qa9 _ (at1 _ _ _ (by simp[size_push]) rfl))) (qa9 _ (at1 _ _ _ (by simp[size_push]) rfl))
  (mR (qa9 _ (qa9 _ (qa9 _ (qa9 _ (at1 _ _ _ rfl (fG _))))))) (mR (qa9 _ (qa9 _ (qa9 _ (at1 _ _ _ (by simp[size_push]) (fG _))))))
  λc o e=>qa9 _ (qa9 _ (qa9 _ (qa9 _ (qa9 _ e)))))
end
end ZP
def Itg(d1 d2:Sd):It:=⟨λi H=>∃xs ys a b,d1.has H xs/\d2.has H ys/\xs[i]?=some a/\ys[i]?=some b,λi H v H'=>∃p xs ys a b,d1.has H xs/\d2.has H ys/\xs[i]?=some a/\ys[i]?=some b/\v=.ref p/\H p=none/\H'=upd H p (.tup [a,b]),
 λi H=>∃xs ys,d1.has H xs/\d2.has H ys/\xs.length=ys.length/\i=xs.length⟩
theorem dz{d:Sd}(x:d.pl it i h):∃o,h.get? it=some o/\∀v,o.data≠.cell v:=by
 cases d with
 |tx y t=>obtain⟨o,e,_,dd⟩:=x;exact(o,e,λv q=>by rw[dd]at q;cases q)
 |tp a=>obtain⟨o,e,_,dd⟩:=x;exact(o,e,λv q=>by rw[dd]at q;cases q)
 |ls a=>obtain⟨o,e,_,dd⟩:=x;exact(o,e,λv q=>by rw[dd]at q;cases q)
theorem g_v{d:Sd}(x:d.pl it i h)(k:∀o,h.get? it=some o->h'.get? it=some o):d.pl it i h':=by
 cases d with
 |tx y t=>obtain⟨o,e,r⟩:=x;exact(o,k o e,r)
 |tp a=>obtain⟨o,e,r⟩:=x;exact(o,k o e,r)
 |ls a=>obtain⟨o,e,r⟩:=x;exact(o,k o e,r)
theorem iW{σ:St}{d:Sd}(I:Inv X pins σ H s)(h:d.has H xs):∃its,d.hp its s.heap:=by
 cases d with
 |tx y t=>exact(#[],True.intro)
 |tp a=>
  obtain⟨its,_,p,_⟩:=I.tuple (SqT.of (show H a=_ from h));exact(_,p)
 |ls a=>
  obtain⟨its,_,⟨o,n,e,c,_,dd⟩,_⟩:=I.list (SqL.of (show H a=_ from h));exact(its.toArray,o,e,c,n,dd)
theorem e_H{X:Cx}{σ:St}{d:Sd}(I:Inv X pins σ H s)(hh:A.handled=none)(h:d.has H xs)(hit:H it=none)(hp:d.pl it i s.heap):∃f P S,Draws X.prog X.w A it f xs.length P S/\(∀c∈f,c=it\/∃u,H c=some u)/\S i s.heap/\(∀j g,S j g->d.pl it j g)/\∀j v x,P j v->xs[j]?=some x->ac x v:=by
 cases d with
 |tx y t=>
  have h:xs=y.cps.toList.map λc=>V.str ⟨#[c]⟩:=h;refine([it],λi v=>∃c u,y.cps[i]?=some c/\v=.str ⟨#[c]⟩ u,ZP.strAt y t it,?_,λc hc=>.inl (qb1 hc),hp,λj g z=>z,λj v x hP hx=>?_)
  .have e:xs.length=y.cps.size:=by rw[h];simp
   rw[e];exact ZP.draws hh it y t
  .obtain ⟨c,u,e1,rfl⟩:=hP;rw[h,qa6,getElem?_toList,e1]at hx;cases hx;exact(u,rfl)
 |tp a=>
  obtain⟨its,r,p,_⟩:=I.tuple (SqT.of (show H a=_ from h));have p':s.heap.IsTuple a its.toArray:=p;have hne:a≠it:=λz=>by rw[<-z,show H a=_ from h]at hit;cases hit
  have e:xs.length=its.toArray.size:=by rw[r.length];simp
  refine([it,a],λi v=>its.toArray[i]?=some v,λi h=>h.IsTupleIter it a i/\h.IsTuple a its.toArray,by rw[e];exact bN hh it a hne its.toArray,λc hc=>?_,(hp,p'),λj g z=>z.1,λj v x hP hx=>?_)
  .rcases mem_cons.mp hc with z|z
   .exact .inl z
   .rw [qb1 z];exact .inr (_,h)
  .obtain ⟨u,hu,ru⟩:=r.get hx;have hP:its.toArray[j]?=some v:=hP;rw[getElem?_toArray,hu]at hP;cases hP;exact ru
 |ls a=>
  obtain⟨its,r,⟨o,n,eo,co,_,dd⟩,_⟩:=I.list (SqL.of (show H a=_ from h));have p':s.heap.IsList a its.toArray:=(o,eo,co,n,dd);have hne:a≠it:=λz=>by rw[<-z,show H a=_ from h]at hit;cases hit
  have e:xs.length=its.toArray.size:=by rw[r.length];simp
  refine([it,a],λi v=>its.toArray[i]?=some v,λi h=>h.IsListIter it a i/\h.IsList a its.toArray,by rw[e];exact Draws.list hh it a hne its.toArray,λc hc=>?_,(hp,p'),λj g z=>z.1,λj v x hP hx=>?_)
  .rcases mem_cons.mp hc with z|z
   .exact .inl z
   .rw [qb1 z];exact .inr (_,h)
  .obtain ⟨u,hu,ru⟩:=r.get hx;have hP:its.toArray[j]?=some v:=hP;rw[getElem?_toArray,hu]at hP;cases hP;exact ru
theorem bY{K:Frag}(d1 d2:Sd)(z TI TO i1 i2:Addr)(ap:ZipApart z TI TO i1 i2 TI TI):bU P w K (.Tuple es kt pt) (Itg d1 d2) [z,TI,TO,i1,i2] z (λi h=>IsZip h z TI TO .none/\IsPair h TI (.ref i1) (.ref i2)/\(∃a b,IsPair h TO a b)/\d1.pl i1 i h/\d2.pl i2 i h)  where
 mem:=by simp
 obj:=λi h hZ1 c hc=>by
  obtain⟨hz,hTI,⟨a,b,hTO⟩,s1,s2⟩:=hZ1;simp only[mem_cons,not_mem_nil,or_false]at hc;rcases hc with rfl|rfl|rfl|rfl|rfl
  .exact (_,hz,λv q=>by cases q)
  .exact (_,hTI,λv q=>by cases q)
  .exact (_,hTO,λv q=>by cases q)
  .exact dz s1
  .exact dz s2
 keep:=λi h h'⟨hz,hTI,⟨a,b,hTO⟩,s1,s2⟩k=>
  (k z (by simp) _ hz,k TI (by simp) _ hTI,(a,b,k TO (by simp) _ hTO),g_v s1 (k i1 (by simp)),g_v s2 (k i2 (by simp)))
 item:=by
  rintro X hP hw hK hc i pins s σ H E I hf⟨hz,hTI,⟨a,b,hTO⟩,s1,s2⟩⟨xs,ys,va,vb,hqx,hqy,hxa,hyb⟩;subst hP hw hK;have l1:i<xs.length:=(qa1 hxa).1;have l2:i<ys.length:=(qa1 hyb).1;obtain⟨f1,P1,S1,D1,m1,st1,b1,r1⟩:=e_H (A:=X.A.in1) I (I.ok.hd hc) hqx (hf i1 (by simp)).1 s1;obtain⟨f2,P2,S2,D2,m2,st2,b2,r2⟩:=e_H (A:=X.A.in1) I (I.ok.hd hc) hqy (hf i2 (by simp)).1 s2;have off:∀{c:Addr}{u:HO},H c=some u->c∉[z,TO,i1,i2]:=λ{c u}e hm=>by
   have:c∈[z,TI,TO,i1,i2]:=by simp at hm⊢;rcases hm with q|q|q|q<;>simp[q]
   rw[(hf c this).1]at e;cases e
  have hT:s.TypeIs (.ref z) "zip":=(_,hz,rfl);unfold pyNext;refine qa7 (wpAny_attempt (wpAny_callSpecial?_slot (name:=Str.ofString "__next__") hT F.slot_zip_next (wpAny_call_entry F.slot_zip_next hT F.entry_zip_next (ZP.toldL D1 D2
   (λc hc=>(m1 c hc).imp id λhZ0=>by obtain⟨u,e⟩:=hZ0;exact off e) (λc hc=>(m2 c hc).imp id λhZ2=>by obtain⟨u,e⟩:=hZ2;exact off e)
   ap hz hTI hTO st1 st2 l1 l2 λv1 v2 g tk p1 p2 gz gTI gTO g1 g2 new gk=>qa8 (_,rfl,?_)) (F.args_zip_next_1 _))))
  have ra:=r1 i v1 va p1 hxa;have rb:=r2 i v2 vb p2 hyb;refine wpAny_letOwnedTupleGo_zip (s:={s with heap:=g,toks:=tk}) gz λg' gz' gs=>?_;have up:∀b o,b≠z->g.get? b=some o->g'.get? b=some o:=λb o hb e=>(gs.2 b hb).trans e;have nz:s.heap.objs.size≠z:=ne_of_gt (lt_size hz);have tup:a_L X.prog X.w (upd H s.heap.objs.size (.tup [va,vb])) g' s.heap.objs.size (.tup [va,vb]):=
   (a_j (by show 2≤16777216;decide),[v1,v2],.cons ra (.cons rb .nil),(_,up _ _ nz new,rfl,0,rfl))
  refine(.ref s.heap.objs.size,_,I.turnedNew (S:=[z,TO,i1,i2]) (h':=g') (t':=tk) (λb o hb e=>up b o (λq=>hb (by simp[q])) (gk b o hb e)) (λb hb=>hf b (by simp at hb⊢;rcases hb with q|q|q|q<;>simp[q])) tup,rfl,
   (_,xs,ys,va,vb,hqx,hqy,hxa,hyb,rfl,I.hok.fresh (le_refl _),rfl),(gz',up _ _ ap.TIz gTI,(_,_,up _ _ ap.TOz gTO),g_v (b1 _ _ g1) λo e=>up _ o ap.i1z e,g_v (b2 _ _ g2) λo e=>up _ o ap.i2z e),λb hb=>?_)
  have lt:b<s.heap.objs.size:=by
   obtain⟨o1,e1,_⟩:=dz s1;obtain⟨o2,e2,_⟩:=dz s2;simp only[mem_cons,not_mem_nil,or_false]at hb;rcases hb with rfl|rfl|rfl|rfl|rfl
   .exact lt_size hz
   .exact lt_size hTI
   .exact lt_size hTO
   .exact lt_size e1
   .exact lt_size e2
  rw[upd_ne (ne_of_lt lt)];exact(hf b hb).1
 done:=by
  rintro X hP hw hK hc i pins s σ H E I hf⟨hz,hTI,⟨a,b,hTO⟩,s1,s2⟩⟨xs,ys,hqx,hqy,hl,hi⟩;subst hP hw hK;obtain⟨f1,P1,S1,D1,m1,st1,b1,r1⟩:=e_H (A:=X.A.in1) I (I.ok.hd hc) hqx (hf i1 (by simp)).1 s1;obtain⟨f2,P2,S2,D2,m2,st2,b2,r2⟩:=e_H (A:=X.A.in1) I (I.ok.hd hc) hqy (hf i2 (by simp)).1 s2;have off:∀{c:Addr}{u:HO},H c=some u->c∉[z,TO,i1,i2]:=λ{c u}e hm=>by
   have:c∈[z,TI,TO,i1,i2]:=by simp at hm⊢;rcases hm with q|q|q|q<;>simp[q]
   rw[(hf c this).1]at e;cases e
  have hT:s.TypeIs (.ref z) "zip":=(_,hz,rfl);unfold pyNext;refine qa7 (wpAny_attempt (wpAny_callSpecial?_slot (name:=Str.ofString "__next__") hT F.slot_zip_next (wpAny_call_entry F.slot_zip_next hT F.entry_zip_next (ZP.endedL D1 D2
   (λc hc=>(m1 c hc).imp id λhZ2=>by obtain⟨u,e⟩:=hZ2;exact off e) (λc hc=>(m2 c hc).imp id λhZ1=>by obtain⟨u,e⟩:=hZ1;exact off e)
   ap hz hTI hTO st1 st2 (.inl hi) λg e tk gk he=>?_) (F.args_zip_next_1 _))))
  obtain⟨o,ho,hcl⟩:=he;refine qa7 (wpAny_isInstance (s:={s with heap:=g,toks:=tk}) (T:="StopIteration") (b:=true) (o,ho,hcl) isSubtype_stop (qa8 (rfl,?_)));exact I.turnedL (S:=[z,TO,i1,i2]) (λb o hb e=>gk b o hb e) λb hb=>hf b (by simp at hb⊢;rcases hb with q|q|q|q<;>simp[q])
 self:=λ_ _ _ _ _ st h=>wpAny_pyIter_zip st.1 h
def sy(H:Hp)(v1 v2:V)(R:(Tok->Sd)->Sd->Prop):Prop:=
 (∃x b xs,v1=.str x/\v2=.ref b/\H b=some (.tup xs)/\R (.tx x) (.tp b))\/(∃x b xs,v1=.str x/\v2=.ref b/\H b=some (.lst xs)/\R (.tx x) (.ls b))\/∃a b xs ys,v1=.ref a/\v2=.ref b/\H a=some (.lst xs)/\H b=some (.lst ys)/\R (λ_=>.ls a) (.ls b)
def pF(t:TA):TI:=λσ H R=>t σ H λvs H1=>∃v1 v2,vs=[v1,v2]/\sy H1 v1 v2 λd1 d2=>∀k,R (Itg (d1 k) d2) H1
theorem iZ{es:List Expr}{kt:Nat}{pt:Pos}{p pos:Pos}(hg:Gl X "zip")(hm:X.mg "zip"=none)(ha:PA X [a,b] ta)(hs:starEach [a,b] X.env=(false,eval a X.env,)::starEach [b] X.env:=by rfl)(hpl:(backTo pos (starEach [b] X.env)).any (·.1)=false:=by rfl):PI X (.Tuple es kt pt) (.Call (.Name "zip" p) [a,b] [] pos) (pF ta):=by
 intro pins s σ H R I h;refine wpAny_Call_Name_kw (ld_blt I hg hm boot_zip (PyProof.Rows.callWith_type1 (thn (ha pos pins s σ H _ I h) λus s1 hZ0=>?_) hs hpl));obtain⟨vs,H1,I1,r1,v1,v2,ev,hz⟩:=hZ0;subst ev;obtain⟨u1,u2,rfl,e1,e2⟩:=bp r1;have go:∀(d1 d2:Sd)(xs ys:List V),ZP.MeetG d1 d2->u1=d1.vu->u2=d2.vu->d1.has H1 xs->d2.has H1 ys->R (Itg d1 d2) H1->wpAny (model X.prog X.w) X.A (call (.type "zip") [u1,u2]) (λv s2=>wpAny (model X.prog X.w) X.A (pyIter v) (PIE X pins σ (.Tuple es kt pt) R) X.xe s2) X.xe s1:=by
  rintro d1 d2 xs ys M rfl rfl hx hy q;obtain⟨itx,px⟩:=iW I1 hx;obtain⟨ity,py⟩:=iW I1 hy;refine ZP.call_sd M px py λg gz gTI gTO g1 g2 gk=>wpAny_pyIter_zip (s:={s1 with heap:=g}) gz ?_;have ap:ZipApart (s1.heap.objs.size+4) (s1.heap.objs.size+2) (s1.heap.objs.size+3) s1.heap.objs.size (s1.heap.objs.size+1) (s1.heap.objs.size+2) (s1.heap.objs.size+2):=by
   constructor<;>exact neA (by omega)
  refine(_,[s1.heap.objs.size+4,s1.heap.objs.size+2,s1.heap.objs.size+3,s1.heap.objs.size,s1.heap.objs.size+1],_,Itg d1 d2,H1,rfl,I1.kept (t':=s1.toks) gk,bY d1 d2 _ _ _ _ _ ap,
   (gz,gTI,(_,_,gTO),g1,g2),λc hc=>?_,q)
  have hge:s1.heap.objs.size≤c:=by
   simp only[mem_cons,not_mem_nil,or_false]at hc;rcases hc with rfl|rfl|rfl|rfl|rfl
   .exact le_add_right _ _
   .exact le_add_right _ _
   .exact le_add_right _ _
   .exact le_refl _
   .exact le_add_right _ _
  exact I1.fpOk hge (I1.hok.fresh hge)
 rcases hz with⟨x,b,xs,rfl,rfl,hb,q⟩|⟨x,b,xs,rfl,rfl,hb,q⟩|⟨a,b,xs,ys,rfl,rfl,ha',hb,q⟩
 .obtain ⟨t,rfl⟩:=(show ∃t,u1=Value.str x t from e1);cases e2;exact go (.tx x t) (.tp b) _ _ (ZP.meet_st x t b) rfl rfl rfl hb (q t)
 .obtain ⟨t,rfl⟩:=(show ∃t,u1=Value.str x t from e1);cases e2;exact go (.tx x t) (.ls b) _ _ (ZP.meet_sl x t b) rfl rfl rfl hb (q t)
 .cases e1;cases e2;exact go (.ls a) (.ls b) _ _ (ZP.meet_ll a b) rfl rfl ha' hb (q 0)
end L2
namespace L2
open PySem PySem.Spec PyProof.Rows
def HdV(fv:Bool)(x:Int)(v:Value):Prop:=(fv=true/\∃b:Bool,v=.bool b/\x=if b then 1 else 0)\/(fv=false/\∃t,v=.int x t)
def hdH(P:Program)(w:World)(fv:Bool)(x:Int):Int:=if fv=true then reduceHash x else(intKind P w).hash x
section
variable{P:Program}{w:World}{fv:Bool}
theorem HdV.inj(a:HdV fv x v)(b:HdV fv y v):x=y:=by
 rcases a with⟨rfl,c,rfl,rfl⟩|⟨rfl,t,rfl⟩
 .rcases b with⟨_,c',e,rfl⟩|⟨e,_⟩
  .cases e;rfl
  .cases e
 .rcases b with⟨e,_⟩|⟨_,t',e⟩
  .cases e
  .cases e;rfl
theorem HdV.pyHash(a:HdV fv x v)(q:Q (hdH P w fv x) {s with toks:=s.toks+1}):wpAny (model P w) A (pyHash v) Q E s:=by
 rcases a with⟨rfl,b,rfl,rfl⟩|⟨rfl,t,rfl⟩
 .exact (b_m P w).pyHash (k:=b) (by cases b<;>rfl) q
 .exact (intKind P w).pyHash (k:=x) (intKind_is _ _ _ _) q
theorem HdV.eq(a:HdV fv x u)(b:HdV fv y v):SeqAt.EqAt A s u v (decide (x=y)):=by
 rcases a with⟨rfl,c,rfl,rfl⟩|⟨rfl,t,rfl⟩
 .rcases b with⟨_,c',rfl,rfl⟩|⟨e,_⟩
  .have h:=SeqAt.EqAt.bool_bool (A:=A) (s:=s) c c';rw[show(c==c')=decide ((if c then(1:Int)else 0)=if c' then 1 else 0) by cases c<;>cases c'<;>rfl]at h;exact h
  .cases e
 .rcases b with⟨e,_⟩|⟨_,t',rfl⟩
  .cases e
  .have h:=SeqAt.EqAt.int_int (A:=A) (s:=s) x t y t';rw[show(x==y)=decide (x=y) by rw[Bool.eq_iff_iff];simp]at h;exact h
theorem HdV.byValue(a:HdV fv x v):carriedByValue v=true:=by
 rcases a with⟨rfl,c,rfl,rfl⟩|⟨rfl,t,rfl⟩<;>rfl
end
section
variable(P:Program)(w:World)(fv:Bool)
def f_D(h:Heap)(k:List Int)(a:Addr):Prop:=∃(o:Obj)(n:Nat)(v:Value)(b:Addr)(x:Int)(ks:List Int),k=x::ks/\h.get? a=some o/\o.cls=.type "tuple"/\o.data=.seq #[v,.ref b] n/\HdV fv x v/\IsTupleKey (intKind P w) h ks b
def df:List Int->Int
 |[]=>0
 |x::ks=>reduceHash (Builtin.Tuple.tupleHashOf [hdH P w fv x,tupleKeyHash (intKind P w) ks])
end
section
variable{P:Program}{w:World}{fv:Bool}
theorem f_D.inj(hx:f_D P w fv h x a)(hy:f_D P w fv h y a):x=y:=by
 obtain⟨o,n,v,b,x1,xs,rfl,h1,_,h3,h4,h5⟩:=hx;obtain⟨o',n',v',b',y1,ys,rfl,g1,_,g3,g4,g5⟩:=hy;rw[h1]at g1;cases g1;rw[h3]at g3;injection g3 with e1 _;have e2:[v,Value.ref b]=[v',.ref b']:=congrArg Array.toList e1;injection e2 with e3 e4;injection e4 with e5 _;cases e5;subst e3;rw[h4.inj g4,h5.inj g5]
theorem f_D.keeps{es ep}(x:f_D P w fv h k a)(ho:h.get? d=some o)(hd:o.data=.dict es ep)(hs:SameBut d h h'):f_D P w fv h' k a:=by
 obtain⟨o',n,v,b,x1,xs,rfl,h1,h2,h3,h4,h5⟩:=x;refine(o',n,v,b,x1,xs,rfl,(hs.2 a ?_).trans h1,h2,h3,h4,h5.keeps ho hd hs);rintro rfl;rw[h1]at ho;cases ho;rw[h3]at hd;cases hd
theorem two_hash(hu:A.units+1<cLine)(x:f_D P w fv s.heap k a)(q:Q (df P w fv k) {s with toks:=s.toks+(k.length+2)}):wpAny (model P w) A (pyHash (.ref a)) Q E s:=by
 obtain⟨o,n,v,b,x1,xs,rfl,h1,h2,h3,h4,h5⟩:=x;refine PySem.W.pyHash_slot (T:="tuple") (o,h1,h2) F.slot_tuple_hash F.entry_tuple_hash (F.args_tuple_hash_1 _) (beq_builtin_none _) (.inr (by omega)) ?_;refine qa7 (m:=Builtin.Tuple.tupleItemsOf (.ref a)) (wpAny_tupleItemsOf h1 h3 (qa7 ?_));rw[<-forIn_toList];show wpAny _ _ (forIn [v,Value.ref b] _ _) _ _ _;rw[forIn_cons];refine qa7 (qa7 (h4.pyHash (qa7 (qa8 (qa8 ?_)))));dsimp only;rw[forIn_cons];refine qa7 (qa7 (wpAny_pyHash_tuple (knd:=intKind P w) (by show A.in1.units<cLine;rw[Around.in1_units];exact hu) h5 (qa7 (qa8 (qa8 ?_)))));dsimp only;rw[forIn_nil];refine qa8 (qa7 (wpAny_mkInt (qa8 (_,_,rfl,?_))));have e:s.toks+1+(xs.length+1)+1=s.toks+((x1::xs).length+2):=by rw[length_cons];omega
 simpa[e,df]using q
theorem pT(hu:A.units+1<cLine)(hx:f_D P w fv s.heap x a)(hy:f_D P w fv s.heap y b)(E:Value->Shared->Prop)(Q:Bool->Shared->Prop)(q:Q (decide (x=y)) s):wpAny (model P w) A (eqBool (.ref a) (.ref b)) Q E s:=by
 by_cases hab:a=b
 .subst hab;rw[decide_eq_true (hx.inj hy)]at q;exact SeqAt.EqAt.same (.ref a) P w E Q q
 .obtain ⟨o,n,v,c,x1,xs,rfl,h1,h2,h3,h4,h5⟩:=hx;obtain⟨o',n',v',c',y1,ys,rfl,g1,g2,g3,g4,g5⟩:=hy;have hu1:A.in1.units<cLine:=by rw[Around.in1_units];exact hu
  have inner:SeqAt.EqAt A.in1 s (.ref c) (.ref c') (decide (xs=ys)):=λP' w' E' Q' q'=>wpAny_eqBool_tuple (knd:=intKind P' w') hu1 (dg h5) (dg g5) q';have all:=SeqAt.EqAt.of_refs (A:=A) hab (SeqAt.RcAt.tuples (s:=s) (e:=λj=>if j=0 then decide (x1=y1)else decide (xs=ys)) (o,h1,h2,n,h3) (o',g1,g2,n',g3) (by omega) (λj l1 l2=>by
   match j,l1,l2 with
   |0,_,_=>exact h4.eq g4
   |1,_,_=>exact inner
   | n+2,l1,_=>exact absurd l1 (by show ¬ (n+2<2);omega)))
  refine all P w E Q ?_;have e:((List.range (min (#[v,.ref c]:Array Value).size (#[v',.ref c']:Array Value).size)).all (λj=>if j=0 then decide (x1=y1)else decide (xs=ys))&&(#[v,.ref c]:Array Value).size==(#[v',.ref c']:Array Value).size)=decide (x1::xs=y1::ys):=by
   show(decide (x1=y1)&&(decide (xs=ys)&&true)&&true)=_;by_cases e1:x1=y1<;>by_cases e2:xs=ys<;>simp[e1,e2]
  rw[e];exact q
theorem jG(x:f_D P w fv s.heap k a)(q:Q true s):wpAny (model P w) A (eqIsQuiet 8 (.ref a)) Q E s:=by
 obtain⟨o,n,v,b,x1,xs,rfl,h1,h2,h3,h4,h5⟩:=x;refine e_J (n:=7) (o,h1,h2,n,h3) (λu hv R r=>?_) q;rcases mem_cons.mp (show u∈[v,.ref b]from hv)with rfl|hv
 .rw [eqIsQuiet_byValue _ h4.byValue];exact qa8 r
 .rw [qb1 hv];obtain⟨o,its,n,g1,g2,g3,g4⟩:=h5;refine e_J (n:=6) (o,g1,g2,n,g3) (λv hv R r=>?_) r;rw[eqIsQuiet_byValue _ (g4.byValue v hv)];exact qa8 r
end
def n6(P:Program)(w:World)(fv:Bool):HeapKind P w (List Int) where
 is:=f_D P w fv
 hash:=df P w fv
 draws:=λk=>k.length+2
 room:=λA=>A.units+1<cLine
 inj:=λa b=>a.inj b
 keeps:=λx ho hd hs=>x.keeps ho hd hs
 pyHash:=λhu hk h=>two_hash hu hk h
 eqBool:=λhu hx hy h=>pT hu hx hy _ _ h
 quiet:=λhk h=>jG hk h
def mV(fv:Bool)(x:Int):V:=if fv=true then .bl (decide (x=1))else .int x
def tL(fv:Bool)(H:Hp)(k:List Int)(a:Addr):Prop:=∃(b:Addr)(x:Int)(ks:List Int),k=x::ks/\(fv=true->x=0\/x=1)/\H a=some (.tup [mV fv x,.ref b])/\TIn H ks b
def qS(P:Program)(w:World)(fv:Bool):HKd P w (List Int) where
 knd:=n6 P w fv
 kin:=tL fv
 ok:=λ{H h k a}e ok=>by
  obtain⟨b,x,ks,rfl,e0,e1,e2⟩:=e
  obtain⟨_,its,r,o,h1,h2,n,h3⟩:=(show a_L P w H h a (.tup [mV fv x,.ref b])from ok a _ e1)
  obtain⟨u1,u2,rfl,r1,r2⟩:=bp r
  cases(show u2=Value.ref b from r2)
  refine(o,n,u1,b,x,ks,rfl,h1,h2,h3,?_,gU e2 ok)
  cases fv with
  |true=>
   cases(show u1=Value.bool (decide (x=1))from r1)
   rcases e0 rfl with rfl|rfl
   .exact .inl (rfl,false,rfl,rfl)
   .exact .inl (rfl,true,rfl,rfl)
  |false=>
   obtain⟨t,rfl⟩:=(show ∃t,u1=Value.int x t from r1)
   exact .inr (rfl,t,rfl)
 room:=λ{A}hu=>(by show A.in1.units+1<cLine;rw[Around.in1_units];omega,by show A.units+1<cLine;omega)
 stay:=λs hZ1=>by obtain⟨b,x,ks,e,e0,e1,e2⟩:=hZ1;exact(b,x,ks,e,e0,s _ _ e1,s _ _ e2)
inductive TK where
 |i|t|q|p
 deriving DecidableEq
def dK(P:Program)(w:World):TK->HKd P w (List Int)
 |.q=>qS P w true
 |.p=>qS P w false
 |_=>f_H P w
theorem c_X(k:Int)(t:Tok):Value.isInt k (.int k t)=true:=by simp[Value.isInt]
def jC(P:Program)(w:World)(H:Hp)(d:Addr)(y:V)(r:Option V):Prop:=
 (∃kvs k,H d=some (kdO (intKind P w) d kvs)/\y=.int k/\r=aW kvs k) \/
 ∃ti kvs k b,H d=some (hdO (dK P w ti) d kvs)/\(∀x∈kvs,(dK P w ti).kin H x.1 x.2.1)/\y=.ref b/\(dK P w ti).kin H k b/\r=av kvs k
def pP(P:Program)(w:World)(H:Hp)(d:Addr)(y v:V)(H':Hp):Prop:=
 (∃kvs k,H d=some (kdO (intKind P w) d kvs)/\y=.int k/\aW kvs k=none/\kvs.length<sizeLine/\H'=upd H d (kdO (intKind P w) d (kvs++[(k,v,)]))) \/
 ∃ti kvs k b,H d=some (hdO (dK P w ti) d kvs)/\(∀x∈kvs,(dK P w ti).kin H x.1 x.2.1)/\y=.ref b/\(dK P w ti).kin H k b/\av kvs k=none/\kvs.length<sizeLine/\H'=upd H d (hdO (dK P w ti) d (kvs++[(k,b,v,)]))
section
variable{X:Cx}
def oq(P:Program)(w:World):R2:=λx y H Q=>∃d o,y=.ref d/\jC P w H d x o/\Q (.bl (!o.isSome)) H
theorem j7(hu:X.A.units+64<cLine):OpR X (compareOp .NotIn) (oq X.prog X.w):=by
 intro pins s σ H x y v u Q I rx ry h;obtain⟨d,o,rfl,g,q⟩:=h;cases ry;rcases g with⟨kvs,k,e,rfl,rfl⟩|⟨ti,kvs,k,b,e,hk,rfl,kb,rfl⟩
 .obtain ⟨t,rfl⟩:=(show ∃t,v=Value.int k t from rx);obtain⟨ns,_,vs,rel,dd⟩:=f_J I.hok e;refine wpAny_notIn_of (knd:=intKind X.prog X.w) (k:=k) (c_X k t) ns dd.mapOf ?_;rw[<-d_r (rel.val k)];exact(.bl _,H,I.tok _,rfl,q)
 .cases rx;exact dP (D:=dK X.prog X.w ti) hu I e hk kb λs' I'=>(.bl _,H,I',rfl,q)
theorem nv{σ:St}(I:Inv X pins σ H s)(g:jC X.prog X.w H d y o):s.TypeIs (.ref d) "dict":=by
 rcases g with⟨kvs,k,e,_⟩|⟨ti,kvs,k,b,e,hk,_⟩
 .obtain ⟨_,_,vs,_,dd⟩:=f_J I.hok e;exact dd.typeIs
 .obtain ⟨_,_,vs,_,dd⟩:=bK (D:=dK X.prog X.w ti) I.hok e hk;exact dd.typeIs
def sV(P:Program)(w:World):R2:=λx y H Q=>∃d v,x=.ref d/\jC P w H d y (some v)/\Q v H
theorem mO(hu:X.A.units+64<cLine):IxR X (sV X.prog X.w):=by
 intro value slice pins s σ H x y v u Q I rx ry h hs;obtain⟨d,z,rfl,g,q⟩:=h;cases rx;refine tail_any (ops:=[.ref d,u]) (nv I g) PySem.F.slot_dict_getitem.lookup ?_ hs;rcases g with⟨kvs,k,e,rfl,l⟩|⟨ti,kvs,k,b,e,hk,rfl,kb,l⟩
 .obtain ⟨t,rfl⟩:=(show ∃t,u=Value.int k t from ry);obtain⟨ns,_,vs,rel,dd⟩:=f_J I.hok e;obtain⟨w',hw,rw'⟩:=aq.some_of (v:=z) (o:=valueAt vs k) (by rw[l];exact rel.val k);exact wpAny_getItem_of (knd:=intKind X.prog X.w) (k:=k) (c_X k t) dd.mapOf hw (z,H,I.tok _,rw',q)
 .cases ry;exact mY (D:=dK X.prog X.w ti) hu I e hk kb l λw' s' I' rw'=>(z,H,I',rw',q)
def rL(P:Program)(w:World):TSet:=λo i v H Q=>∃d H',o=.ref d/\pP P w H d i v H'/\Q H'
theorem jO(hu:X.A.units+64<cLine):qO X (rL X.prog X.w):=by
 intro pins s σ H o i v ov iv u Q I ro ri rv h;obtain⟨d,H',rfl,g,q⟩:=h;cases ro;rcases g with⟨kvs,k,e,rfl,hn,hl,rfl⟩|⟨ti,kvs,k,b,e,hk,rfl,kb,hn,hl,rfl⟩
 .obtain ⟨t,rfl⟩:=(show ∃t,iv=Value.int k t from ri);obtain⟨ns,hz,vs,rel,dd⟩:=f_J I.hok e;refine wpAny_setItem_pairs (knd:=intKind X.prog X.w) (k:=k) (hsz:=by rw[<-rel.length];exact hz) (c_X k t) dd λh' dd' hs=>(_,?_,q);have qn:=aq.none_of (show aq none (valueAt vs k) by rw[<-hn];exact rel.val k);rw[e_i qn]at dd';exact e_a I (by rw[e];exact True.intro) hs (let⟨o,_,_,q,_⟩:=dd';(o,q)) (fE ns (by rw[qa5];exact hl) (dJ rel rv) dd')
 .cases ri;exact mX (D:=dK X.prog X.w ti) hu I e hk kb hn hl rv λs' I'=>(_,I',q)
def mE(P:Program)(w:World)(d:Addr):TK->HO
 |.i=>kdO (intKind P w) d []
 |k=>hdO (dK P w k) d []
theorem oN(h:Heap)(hb:sysModules<h.objs.size)(k:TK):a_L P w H (h.push {cls:=.type "dict",data:=.dict #[]}) h.objs.size (mE P w h.objs.size k):=by
 have ns:(h.objs.size==sysModules)=false:=beq_eq_false_iff_ne.mpr (Ne.symm (ne_of_lt hb));cases k with
 |i=>exact fE (knd:=intKind P w) ns (zero_le _) .nil (Heap.DictOf.new h)
 |t=>exact cz (D:=dK P w .t) ns (zero_le _) .nil (DictOfH.new h)
 |q=>exact cz (D:=dK P w .q) ns (zero_le _) .nil (DictOfH.new h)
 |p=>exact cz (D:=dK P w .p) ns (zero_le _) .nil (DictOfH.new h)
theorem oO(h:k≠.i):mE P w d k=hdO (dK P w k) d []:=by
 cases k with
 |i=>exact absurd rfl h
 |_=>rfl
def qW(P:Program)(w:World)(tk tv:TE):TE:=λσ H Q=>∃ti:TK,∀p,H p=none->tk σ (upd H p (mE P w p ti)) λx H1=>tv σ H1 λy H2=>H2 p=some (mE P w p ti)/\
 ((ti=.i/\∃k,x=.int k/\Q (.ref p) (upd H2 p (kdO (intKind P w) p [(k,y,)])))\/(ti≠.i/\∃b k,x=.ref b/\(dK P w ti).kin H2 k b/\Q (.ref p) (upd H2 p (hdO (dK P w ti) p [(k,b,y,)]))))
theorem ow(hu:X.A.units+64<cLine)(hk:PE X k tk)(hv:PE X v tv):PE X (.Dict [some k] [v] pos) (qW X.prog X.w tk tv):=by
 intro pins s σ H Q I h;obtain⟨ti,h⟩:=h;have hn:=I.hok.fresh (le_refl s.heap.objs.size);have I1:=I.laid (a:=s.heap.objs.size) (o:=mE X.prog X.w s.heap.objs.size ti) (t':=s.toks) (λ_ _ q=>qa9 {cls:=.type "dict",data:=.dict #[]} q) (le_refl _) (oN s.heap I.bigS ti);have hsh:=zip_pairTrees [some k] [v] X.env pos rfl rfl;rw[arm_eval_Dict,hsh,dictDisplay_pairs (pairTrees [some k] [v] X.env pos) (by intro z;cases z) (by show 1<17;decide)];refine qa7 (wpAny_standAt (qa7 ?_));unfold subDict;refine qa7 (wpAny_alloc (qa7 (wpAny_holding ?_)));rw[if_pos (show(pairTrees [some k] [v] X.env pos).length≤15 by show 1≤15;decide)];refine qa7 (pairTrees_cons_walk (thn (hk pins _ σ _ _ I1 (h _ hn)) λu s1⟨x,H1,I2,rx,q1⟩=>thn (hv pins s1 σ H1 _ I2 q1) λr s2⟨y,H2,I3,ry,hp,q2⟩=>pairTrees_nil_walk (wpAny_holding (qa7 ?_))));rw[forIn_cons];rcases q2 with⟨rfl,k,rfl,q2⟩|⟨ht,b,k,rfl,kb,q2⟩
 .obtain ⟨t,rfl⟩:=(show ∃t,u=Value.int k t from rx);obtain⟨ns,hz,vs,rel,dd⟩:=f_J (knd:=intKind X.prog X.w) (kvs:=[]) I3.hok hp;refine qa7 (qa7 (wpAny_dictSet_pairs (knd:=intKind X.prog X.w) (k:=k) (hsz:=by rw[<-rel.length];exact hz) (c_X k t) dd λh' dd' hs=>qa8 ?_));dsimp only;rw[forIn_nil];refine qa8 (qa8 (qa8 (qa8 (.ref s.heap.objs.size,_,?_,rfl,q2))));have qn:=aq.none_of (show aq none (valueAt vs k)from rel.val k);rw[e_i qn]at dd';exact e_a I3 (by rw[hp];exact True.intro) hs (let⟨o,_,_,q,_⟩:=dd';(o,q)) (fE ns (a_j (by show 1≤16777216;decide)) (dJ (kvs:=[]) rel ry) dd')
 .cases rx;rw[oO ht]at hp;obtain⟨ns,hz,xs,rel,dd⟩:=bK (D:=dK X.prog X.w ti) (kvs:=[]) I3.hok hp (λx hx=>by simp at hx);refine qa7 (qa7 (wpAny_dictSet_heap (knd:=(dK X.prog X.w ti).knd) (hsz:=by rw[<-Paired.length rel];exact hz) ((dK X.prog X.w ti).room hu).2 ((dK X.prog X.w ti).ok kb I3.hok) dd λh' dd' hs=>qa8 ?_));dsimp only;rw[forIn_nil];refine qa8 (qa8 (qa8 (qa8 (.ref s.heap.objs.size,_,?_,rfl,q2))));exact pH (D:=dK X.prog X.w ti) (kvs:=[]) I3 hp ns (a_j (by show 1≤16777216;decide)) rel rfl ry dd' hs
end
end L2
namespace RA
open PySem L2
def aY:TK->Hp->LN->Addr->Prop
 |.q,H,k,b=>∃(c:Addr)(x:Nat)(ks:LN),k=x::ks/\x≤1/\H b=some (.tup [.bl (decide (x=1)),.ref c])/\H c=some (.tup (intsV ks))
 |.p,H,k,b=>∃(c:Addr)(x:Nat)(ks:LN),k=x::ks/\H b=some (.tup [.int (x:Int),.ref c])/\H c=some (.tup (intsV ks))
 |_,H,k,b=>H b=some (.tup (intsV k))
def ThV(ti:TK)(H:Hp)(k:LN)(v:V):Prop:=if ti=.i then ∃n:Nat,k=[n]/\v=.int (n:Int)else ∃b,v=.ref b/\aY ti H k b
theorem aY.same(h:aY ti H k b)(s:∀b xs,H b=some (.tup xs)->H' b=some (.tup xs)):aY ti H' k b:=by
 cases ti with
 |q=>
  obtain⟨c,x,ks,e,e0,e1,e2⟩:=h;exact(c,x,ks,e,e0,s _ _ e1,s _ _ e2)
 |p=>
  obtain⟨c,x,ks,e,e1,e2⟩:=h;exact(c,x,ks,e,s _ _ e1,s _ _ e2)
 |_=>exact s _ _ h
theorem eD(k:LN):(zs k).map V.int=intsV k:=by rw[zs,intsV,List.map_map];rfl
theorem aY.kin(h:aY ti H k b):(dK P w ti).kin H (zs k) b:=by
 have tin:∀{ks:LN}{c:Addr},H c=some (.tup (intsV ks))->TIn H (zs ks) c:=λe=>by unfold TIn;rw[eD];exact e
 cases ti with
 |q=>
  obtain⟨c,x,ks,rfl,e0,e1,e2⟩:=h;refine(c,(x:Int),zs ks,rfl,λ_=>?_,?_,tin e2)
  .omega
  .rw [e1,show mV true (x:Int)=.bl (decide ((x:Int)=1))from rfl,show decide ((x:Int)=1)=decide (x=1) by rw[Bool.eq_iff_iff];simp;omega]
 |p=>
  obtain⟨c,x,ks,rfl,e1,e2⟩:=h;exact(c,(x:Int),zs ks,rfl,λz=>(by cases z),e1,tin e2)
 |_=>exact tin h
theorem ThV.same(h:ThV ti H k v)(s:∀b xs,H b=some (.tup xs)->H' b=some (.tup xs)):ThV ti H' k v:=by
 unfold ThV at h⊢;split
 .rename_i c;rw[if_pos c]at h;exact h
 .rename_i c;rw[if_neg c]at h;obtain⟨b,e1,e2⟩:=h;exact(b,e1,e2.same s)
def kvI:LL->Nat->List (Int×V)
 |[],_=>[]
 |k::r,n=>(((k.headD 0:Nat):Int),.int (n:Int),)::kvI r (n+1)
theorem jk:∀(ts:LL)(n:Nat),(kvI ts n).length=ts.length
 |[],_=>rfl
 |k::r,n=>by rw[kvI,length_cons,length_cons,jk r]
theorem fD(k:LN):∀(ts:LL)(n:Nat),kvI (ts++[k]) n=kvI ts n++[(((k.headD 0:Nat):Int),.int ((n+ts.length:Nat):Int),)]
 |[],n=>rfl
 |t::r,n=>by
  rw[cons_append,kvI,fD k r (n+1),kvI,cons_append,length_cons,show n+1+r.length=n+(r.length+1) by omega]
def ixO(ts:LL)(k:LN):Option Nat:=if k∈ts then some (ts.idxOf k)else none
theorem fF(h:t≠k):ixO (t::r) k=(ixO r k).map (·+1):=by
 unfold ixO;by_cases hk:k∈r
 .rw [if_pos (mem_cons_of_mem _ hk),if_pos hk,idxOf_cons,show(t==k)=false from beq_eq_false_iff_ne.mpr h];rfl
 .rw [if_neg (λz=>(mem_cons.mp z).elim (λy=>h y.symm) hk),if_neg hk];rfl
theorem dL{m:Nat}:∀{ts:LL}{n:Nat},(∀t∈ts,∃a,t=[a])->aW (kvI ts n) (m:Int)=(ixO ts [m]).map λ(i:Nat)=>V.int ((n+i:Nat):Int)
 |[],_,_=>rfl
 |t::r,n,h=>by
  obtain⟨a,rfl⟩:=h t (by simp);by_cases e:a=m
  .subst e;rw[kvI,eJ (k:=(a:Int)) (show((([a]:LN).headD 0:Nat):Int)=(a:Int)from rfl),ixO,if_pos (by simp),List.idxOf_cons_self];rfl
  .rw [kvI,eK (λz=>e (Int.ofNat.inj z)),dL (n:=n+1) (λt ht=>h t (by simp[ht])),fF (λz=>e (by injection z))];cases ixO r [m]with
   |none=>rfl
   |some i=>
    show some (V.int ((n+1+i:Nat):Int))=some (V.int ((n+(i+1):Nat):Int));rw[show n+1+i=n+(i+1) by omega]
def RmAt(P:Program)(w:World)(H:Hp)(d:Addr)(ti:TK)(ts:LL):Prop:=
 if ti=.i then H d=some (kdO (intKind P w) d (kvI ts 0))/\∀t∈ts,∃a,t=[a]
 else ∃kvs:List (List Int×Addr×V),H d=some (hdO (dK P w ti) d kvs)/\(∀x∈kvs,(dK P w ti).kin H x.1 x.2.1)/\kvs.length=ts.length/\∀(i:Nat)(k:LN)(x:List Int×Addr×V),ts[i]?=some k->kvs[i]?=some x->x.1=zs k/\x.2.2=.int (i:Int)
theorem iR:∀{n:Nat},kvs.length=ts.length->(∀(i:Nat)(k:LN)(x:List Int×Addr×V),ts[i]?=some k->kvs[i]?=some x->x.1=zs k/\x.2.2=.int ((n+i:Nat):Int))->av kvs (zs k)=(ixO ts k).map λ(i:Nat)=>V.int ((n+i:Nat):Int):=by
 induction kvs generalizing ts with
 |nil=>
  intro n hl h;cases ts with
  |nil=>rfl
  |cons t r=>cases hl
 |cons x xs ih=>
  intro n hl h;cases ts with
  |nil=>cases hl
  |cons t r=>
   obtain⟨e1,e2⟩:=h 0 t x rfl rfl;by_cases e:t=k
   .subst e;rw[ixO,if_pos (by simp),List.idxOf_cons_self];simp[av,find?_cons,e1,e2]
   .have e':¬ x.1=zs k:=λz=>e (cZ (e1.symm.trans z));have a1:av (x::xs) (zs k)=av xs (zs k):=by simp[av,find?_cons,e']
    rw[a1,ih (n:=n+1) (by simpa using hl) (λi k' x' h1 h2=>by
     obtain⟨g1,g2⟩:=h (i+1) k' x' h1 h2;exact(g1,by rw[g2,show n+(i+1)=n+1+i by omega])),fF e]
    cases ixO r k with
    |none=>rfl
    |some i=>
     show some (V.int ((n+1+i:Nat):Int))=some (V.int ((n+(i+1):Nat):Int));rw[show n+1+i=n+(i+1) by omega]
section
variable{P:Program}{w:World}{H:Hp}{d:Addr}{ti:TK}{ts:LL}{k:LN}{v:V}
theorem RmAt.get(h:RmAt P w H d ti ts)(hv:ThV ti H k v):jC P w H d v ((ixO ts k).map λ(i:Nat)=>V.int (i:Int)):=by
 unfold RmAt at h;unfold ThV at hv;by_cases c:ti=.i
 .subst c;rw[if_pos rfl]at h hv;obtain⟨n,rfl,rfl⟩:=hv;refine .inl (_,_,h.1,rfl,?_);rw[dL h.2];simp
 .rw [if_neg c]at h hv;obtain⟨kvs,h1,h2,h3,h4⟩:=h;obtain⟨b,rfl,hb⟩:=hv;refine .inr (ti,kvs,zs k,b,h1,h2,rfl,hb.kin,?_);rw[iR (n:=0) h3 (λi k x a b=>by rw[Nat.zero_add];exact h4 i k x a b)];simp
theorem RmAt.put(h:RmAt P w H d ti ts)(hv:ThV ti H k v)(hn:k∉ts)(hl:ts.length<sizeLine):∃ob,pP P w H d v (.int (ts.length:Int)) (L2.upd H d ob)/\RmAt P w (L2.upd H d ob) d ti (ts++[k]):=by
 have hno:ixO ts k=none:=if_neg hn;have hd:∀b xs,H b=some (.tup xs)->∀φ,H d=some (.ext φ)->∀ob,L2.upd H d ob b=some (.tup xs):=λb xs e φ e2 ob=>by
  rw[upd_ne (ne_of e e2 (by intro z;cases z))];exact e
 unfold RmAt at h;unfold ThV at hv;by_cases c:ti=.i
 .subst c;rw[if_pos rfl]at h hv;obtain⟨n,rfl,rfl⟩:=hv;refine(kdO (intKind P w) d (kvI (ts++[[n]]) 0),.inl (_,_,h.1,rfl,?_,by rw[jk];exact hl,?_),?_)
  .rw [dL h.2,hno];rfl
  .rw [fD,Nat.zero_add];rfl
  .unfold RmAt;rw[if_pos rfl];refine(a_c,λt ht=>?_);rcases mem_append.mp ht with z|z
   .exact h.2 t z
   .exact (n,qb1 z)
 .rw [if_neg c]at h hv;obtain⟨kvs,h1,h2,h3,h4⟩:=h;obtain⟨b,rfl,hb⟩:=hv;have hb':(dK P w ti).kin H (zs k) b:=hb.kin;have hst:∀ob b xs,H b=some (.tup xs)->L2.upd H d ob b=some (.tup xs):=λob b xs e=>hd b xs e _ h1 ob;refine(hdO (dK P w ti) d (kvs++[(zs k,b,.int (ts.length:Int),)]),.inr (ti,kvs,zs k,b,h1,h2,rfl,hb',?_,by rw[h3];exact hl,rfl),?_)
  .rw [iR (n:=0) h3 (λi k x a b=>by rw[Nat.zero_add];exact h4 i k x a b),hno];rfl
  .unfold RmAt;rw[if_neg c];refine(_,a_c,λx hx=>?_,by rw[qa5,qa5,h3];rfl,λi k' x hk hx=>?_)
   .rcases mem_append.mp hx with z|z
    .exact (dK P w ti).stay (hst _) (h2 x z)
    .rw [qb1 z];exact(dK P w ti).stay (hst _) hb'
   .by_cases hi:i<ts.length
    .rw [getElem?_append_left hi]at hk;rw[getElem?_append_left (by rw[h3];exact hi)]at hx;exact h4 i k' x hk hx
    .rw [getElem?_append_right (le_of_not_lt hi)]at hk;rw[getElem?_append_right (by rw[h3];exact le_of_not_lt hi),h3]at hx;have hz:i-ts.length=0:=by
      have:=(qa1 hk).1;simp at this;omega
     rw[hz]at hk hx;cases hk;cases hx;exact(rfl,by rw[show i=ts.length by omega])
theorem RmAt.same(h:RmAt P w H d ti ts)(s:∀b o,H b=some o->(b=d\/∃xs,o=.tup xs)->H' b=some o):RmAt P w H' d ti ts:=by
 unfold RmAt at h⊢;by_cases c:ti=.i
 .subst c;rw[if_pos rfl]at h⊢;exact(s _ _ h.1 (.inl rfl),h.2)
 .rw [if_neg c]at h⊢;obtain⟨kvs,h1,h2,h3,h4⟩:=h;exact(kvs,s _ _ h1 (.inl rfl),λx hx=>(dK P w ti).stay (λb xs e=>s _ _ e (.inr (_,rfl))) (h2 x hx),h3,h4)
end
end RA
namespace L2
open PySem PySem.Spec PyProof.Rows
namespace ZP
def eF(T:Addr)(b:Bool)(TI TO:Addr):Obj:={cls:=.type "zip",dict:=none,data:=.fields #[rawInt T,.bool b,.bool false,.ref TI,.ref TO],slots:=#[]}
section
variable{prog:Program}{w:World}{A:Around}{E:Value->Shared->Prop}{s:Shared}{z TI TO i1 i2 T:Addr}{f1 f2:List Addr}{n1 n2 k:Nat}{P1 P2:Nat->Value->Prop}{S1 S2:Nat->Heap->Prop}{b1:Bool}{oT:Obj}
theorem je(hz:s.heap.get? z=some (eF T b1 TI TO))(hT:s.heap.get? T=some oT)(h:∀h',h'.get? z=some (eF T true TI TO)->SameBut z s.heap h'->Q false {s with heap:=h'}):wpAny (model prog w) A (Builtin.SmallTypes.ownedTupleIsFree (.ref z)) Q E s:=by
 unfold Builtin.SmallTypes.ownedTupleIsFree;refine qa7 (wpAny_field hz rfl (x:=rawInt T) rfl ?_);show wpAny _ _ (loadIfAlive ((T:Int).toNat)>>=_) _ _ _;rw[Int.toNat_natCast];refine qa7 (PySem.W.kdx_alive hT ?_);refine wpAny_ite_false (by simp) (qa7 (wpAny_field hz rfl (x:=.bool b1) rfl ?_));cases b1 with
 |true=>exact wpAny_ite_false (by decide) (qa8 (h _ hz (rfl,λ_ _=>rfl)))
 |false=>exact wpAny_ite_true (by decide) (qa7 (wpAny_setField_rec hz (by simp) λh' e c=>qa8 (h h' e c)))
theorem qT{Q:Value->Shared->Prop}(D1:Draws prog w A i1 f1 n1 P1 S1)(D2:Draws prog w A i2 f2 n2 P2 S2)(m1:∀c∈f1,c=i1\/c∉[z,TO,i1,i2])(m2:∀c∈f2,c=i2\/c∉[z,TO,i1,i2])(ap:ZipApart z TI TO i1 i2 TI TI)(hz:s.heap.get? z=some (eF T b1 TI TO))(hT:s.heap.get? T=some oT)(hTI:IsPair s.heap TI (.ref i1) (.ref i2))(h1:S1 k s.heap)(h2:S2 k s.heap)(l1:k<n1)(l2:k<n2)(hQ:∀x y h' tk,P1 k x->P2 k y->h'.get? z=some (eF T true TI TO)->IsPair h' TI (.ref i1) (.ref i2)->S1 (k+1) h'->S2 (k+1) h'->IsPair h' s.heap.objs.size x y->
   (∀c o,c∉[z,TO,i1,i2]->s.heap.get? c=some o->h'.get? c=some o)->Q (.ref s.heap.objs.size) {s with heap:=h',toks:=tk}):wpAny (model prog w) A (Builtin.«zip.__next__» ([.ref z],[])) (λfin s'=>∃v,fin=.done (.ret v)/\Q v s') E s:=by
 unfold Builtin.«zip.__next__»;refine qa7 (wpAny_of_eq (a:=(Value.ref z,[],)) rfl (qa7 (wpAny_field hz rfl (x:=.bool false) rfl (qa7 (wpAny_field hz rfl (x:=.ref TI) rfl (qa7 (wpAny_seqItems hTI rfl (wpAny_ite_false (by simp) (qa7 (je hz hT λg1 z1 c1=>wpAny_ite_false (by decide) ?_))))))))));dsimp only;have k1:aR [z,TO,i1,i2] s.heap g1:=.one c1 (by simp);have S1f:∀{j:Nat}{g g':Heap},(∀c o,c∉[z,TO,i1,i2]->g.get? c=some o->g'.get? c=some o)->S1 j g->(∀o,g.get? i1=some o->g'.get? i1=some o)->S1 j g':=λk st e=>D1.frame _ _ _ st λc hc=>by
  rcases m1 c hc with rfl|hn
  .exact e
  .exact λo q=>k c o hn q
 have S2f:∀{j:Nat}{g g':Heap},(∀c o,c∉[z,TO,i1,i2]->g.get? c=some o->g'.get? c=some o)->S2 j g->(∀o,g.get? i2=some o->g'.get? i2=some o)->S2 j g':=λk st e=>D2.frame _ _ _ st λc hc=>by
  rcases m2 c hc with rfl|hn
  .exact e
  .exact λo q=>k c o hn q
 rw[<-forIn_toList];show wpAny _ _ (forIn [Value.ref i1,.ref i2] _ _>>=_) _ _ _;simp only[forIn_cons,forIn_nil];refine qa7 (qa7 (qa7 (wpAny_holding (qa7 (m:=Builtin.SmallTypes.nextOf (.ref i1)) (D1.item k _ _ _ l1 (S1f k1.2 h1 λo e=>(c1.2 i1 ap.i1z).trans e) λx g2 t2 p1 d1 c2=>qa8 ?_)))));dsimp only;refine qa8 (qa7 (qa7 (wpAny_holding (qa7 (m:=Builtin.SmallTypes.nextOf (.ref i2)) (D2.item k _ _ _ l2 (S2f (k1.trans (.one c2 (by simp))).2 h2 λo e=>(c2.2 i2 ap.i12.symm).trans ((c1.2 i2 ap.i2z).trans e)) λy g3 t3 p2 d2 c3=>qa8 ?_)))));dsimp only;refine qa8 (qa8 (qa7 (wpAny_newTuple (hsz:=a_j (by show 2≤16777216;decide)) (qa8 (_,rfl,?_)))));have k3:aR [z,TO,i1,i2] s.heap g3:=(k1.trans (.one c2 (by simp))).trans (.one c3 (by simp));have z3:g3.get? z=some (eF T true TI TO):=(c3.2 z ap.i2z.symm).trans ((c2.2 z ap.i1z.symm).trans z1);have ti3:IsPair g3 TI (.ref i1) (.ref i2):=k3.2 TI _ (by simp[ap.TIz,ap.TITO,ap.TIi1,ap.TIi2]) hTI;have sz:g3.objs.size=s.heap.objs.size:=k3.1;have st1:S1 (k+1) g3:=S1f (aR.one (S:=[z,TO,i1,i2]) c3 (by simp)).2 d1 λo e=>(c3.2 i1 ap.i12).trans e;have new:IsPair (g3.push {cls:=.type "tuple",data:=.seq #[x,y]}) g3.objs.size x y:=get?_push_size _ rfl;show Q (.ref g3.objs.size) _;rw[sz]at new⊢;exact hQ x y _ t3 p1 p2 (qa9 _ z3) (qa9 _ ti3) (D1.frame _ _ _ st1 λc _ o e=>qa9 _ e) (D2.frame _ _ _ d2 λc _ o e=>qa9 _ e) new λc o hc e=>qa9 _ (k3.2 c o hc e)
theorem qF(D1:Draws prog w A i1 f1 n1 P1 S1)(m1:∀c∈f1,c=i1\/c∉[z,TO,i1,i2])(ap:ZipApart z TI TO i1 i2 TI TI)(hz:s.heap.get? z=some (eF T b1 TI TO))(hT:s.heap.get? T=some oT)(hTI:IsPair s.heap TI (.ref i1) (.ref i2))(h1:S1 n1 s.heap)(hE:∀h' e tk,(∀c o,c∉[z,TO,i1,i2]->s.heap.get? c=some o->h'.get? c=some o)->(∃o,h'.get? e=some o/\o.cls=.type "StopIteration")->E (.ref e) {s with heap:=h',toks:=tk}):wpAny (model prog w) A (Builtin.«zip.__next__» ([.ref z],[])) Q E s:=by
 unfold Builtin.«zip.__next__»;refine qa7 (wpAny_of_eq (a:=(Value.ref z,[],)) rfl (qa7 (wpAny_field hz rfl (x:=.bool false) rfl (qa7 (wpAny_field hz rfl (x:=.ref TI) rfl (qa7 (wpAny_seqItems hTI rfl (wpAny_ite_false (by simp) (qa7 (je hz hT λg1 z1 c1=>wpAny_ite_false (by decide) ?_))))))))));dsimp only;rw[<-forIn_toList];show wpAny _ _ (forIn [Value.ref i1,.ref i2] _ _>>=_) _ _ _;simp only[forIn_cons,forIn_nil];have s1:S1 n1 g1:=D1.frame _ _ _ h1 λc hc o e=>by
  rcases m1 c hc with rfl|hn
  .exact (c1.2 _ ap.i1z).trans e
  .exact (c1.2 c λq=>hn (by simp[q])).trans e
 refine qa7 (qa7 (qa7 (wpAny_holding (qa7 (m:=Builtin.SmallTypes.nextOf (.ref i1)) (D1.done _ _ _ s1 λg2 e x2 he=>?_)))));exact hE g2 e s.toks (λc o hc q=>x2 c o (λr=>hc (by simp[r])) ((c1.2 c λr=>hc (by simp[r])).trans q)) he
end
section
variable{prog:Program}{w:World}{A:Around}{R:Result->Shared->Prop}{z TI TO i1 i2 S:Addr}{f1 f2:List Addr}{n:Nat}{P1 P2:Nat->Value->Prop}{S1 S2:Nat->Heap->Prop}
structure LZ(h0:Heap)(z TI TO i1 i2 S:Addr)(P1 P2:Nat->Value->Prop)(S1 S2:Nat->Heap->Prop)(k:Nat)(h:Heap)(acc:Array Value):Prop where
 zip:(k=0/\IsZip h z TI TO .none/\∃a b,IsPair h TO a b)\/(0<k/\∃b1 T oT,h.get? z=some (eF T b1 TI TO)/\h.get? T=some oT/\h0.objs.size≤T)
 ti:IsPair h TI (.ref i1) (.ref i2)
 s1:S1 k h
 s2:S2 k h
 sz:h0.objs.size≤h.objs.size
 len:acc.size=k
 items:∀(j:Nat)(v:Value),acc[j]?=some v->∃t x y,v=.ref t/\P1 j x/\P2 j y/\IsPair h t x y/\h0.objs.size≤t
 inj:∀(i j:Nat)(t:Addr),acc[i]?=some (.ref t)->acc[j]?=some (.ref t)->i=j
 keep:∀c o,c∉[z,TO,i1,i2,S]->h0.get? c=some o->h.get? c=some o
theorem d_D(hT:s.TypeIs (.ref z) "zip")(h:wpAny (model prog w) A.in1 (Builtin.«zip.__next__» ([.ref z],[])) (λfin s'=>∃v,fin=.done (.ret v)/\Q (some v) s') (λe s'=>∃o e',e=.ref e'/\s'.heap.get? e'=some o/\o.cls=.type "StopIteration"/\Q none s') s):wpAny (model prog w) A (pyNext (.ref z)) Q E s:=by
 unfold pyNext;refine qa7 (wpAny_attempt (wpAny_callSpecial?_slot (name:=Str.ofString "__next__") hT F.slot_zip_next (wpAny_call_entry F.slot_zip_next hT F.entry_zip_next (wpAny_mono h (λfin s' hq=>?_) λe s' hq=>?_) (F.args_zip_next_1 _))))
 .obtain ⟨v,rfl,q⟩:=hq;exact(v,rfl,qa8 q)
 .obtain ⟨o,e',rfl,ho,hc,q⟩:=hq;exact qa7 (wpAny_isInstance (T:="StopIteration") (b:=true) (o,ho,hc) isSubtype_stop (qa8 q))
theorem lf(D1:Draws prog w A.in1.in1 i1 f1 n P1 S1)(D2:Draws prog w A.in1.in1 i2 f2 n P2 S2)(ap:ZipApart z TI TO i1 i2 TI TI)(hn:n≤1000000)(m1:∀c∈f1,c=i1\/c∉[z,TO,i1,i2,S])(m2:∀c∈f2,c=i2\/c∉[z,TO,i1,i2,S])(lt:∀c∈[z,TI,TO,i1,i2,S],c<h0.objs.size)(hS:S∉[z,TI,TO,i1,i2])(res:Value)(base:Shared)(hR:∀h tk acc c,LZ h0 z TI TO i1 i2 S P1 P2 S1 S2 n h acc->h.get? S=some {cls:=.type "list",dict:=none,data:=.seq acc c,slots:=#[]}->∀h',(∀c o,c∉[z,TO,i1,i2]->h.get? c=some o->h'.get? c=some o)->R (.ok (.ret res)) {base with heap:=h',toks:=tk}):∀(m k:Nat)(h:Heap)(tk:Nat)(acc:Array Value)(c:Nat),n-k=m->k≤n->LZ h0 z TI TO i1 i2 S P1 P2 S1 S2 k h acc->h.get? S=some {cls:=.type "list",dict:=none,data:=.seq acc c,slots:=#[]}->
   codeAny (model prog w) A (.builtin "list.extend.loop" ([.ref S,.ref z,res],[])) R {base with heap:=h,toks:=tk}:=by
 have m1':∀c∈f1,c=i1\/c∉[z,TO,i1,i2]:=λc hc=>(m1 c hc).imp id λq z=>q (by simp at z⊢;rcases z with y|y|y|y<;>simp[y]);have m2':∀c∈f2,c=i2\/c∉[z,TO,i1,i2]:=λc hc=>(m2 c hc).imp id λq z=>q (by simp at z⊢;rcases z with y|y|y|y<;>simp[y]);have hSz:S≠z:=λq=>hS (by simp[q]);have hSTI:S≠TI:=λq=>hS (by simp[q]);have hSTO:S≠TO:=λq=>hS (by simp[q]);have hS1:S≠i1:=λq=>hS (by simp[q]);have hS2:S≠i2:=λq=>hS (by simp[q]);have hSn:S∉[z,TO,i1,i2]:=by simp[hSz,hSTO,hS1,hS2]
 have hSlt:S<h0.objs.size:=lt S (by simp);intro m;induction m with
 |zero=>
  intro k h tk acc c hm hk L hSo;have e:k=n:=by omega
  subst e;refine codeAny_builtin F.entry_extend_loop ?_;rw[Around.under_plainId F.plain_extend_loop _];show wpAny _ A.in1 (pyNext (.ref z)>>=_) _ _ _;have fin:∀h' e tk',(∀c o,c∉[z,TO,i1,i2]->h.get? c=some o->h'.get? c=some o)->(∃o,h'.get? e=some o/\o.cls=.type "StopIteration")->
    ∃o e',(Value.ref e)=.ref e'/\({base with heap:=h',toks:=tk'}:Shared).heap.get? e'=some o/\o.cls=.type "StopIteration"/\wpAny (model prog w) A.in1 (ret res) (λfin s'=>match fin with|.done f=>R (.ok f) s'|.again c'=>c'.quiet=true/\codeAny (model prog w) A c' R s') (λe s'=>R (.error e) s') {base with heap:=h',toks:=tk'}:=λh' e tk' kp⟨o,ho,hc⟩=>
   (o,e,rfl,ho,hc,qa8 (hR h tk' acc c L hSo h' kp))
  rcases L.zip with⟨hk0,hz,a,b,hTO⟩|⟨hk0,b1,T,oT,hz,hT,_⟩
  .refine qa7 (d_D (s:={base with heap:=h,toks:=tk}) (_,hz,rfl) (endedL (s:={base with heap:=h,toks:=tk}) D1 D2 m1' m2' ap hz L.ti hTO L.s1 L.s2 (.inl rfl) λh' e tk' kp he=>fin h' e tk' kp he))
  .refine qa7 (d_D (s:={base with heap:=h,toks:=tk}) (_,hz,rfl) (qF (s:={base with heap:=h,toks:=tk}) D1 m1' ap hz hT L.ti L.s1 λh' e tk' kp he=>fin h' e tk' kp he))
 |succ m ih=>
  intro k h tk acc c hm hk L hSo;have hlt:k<n:=by omega
  refine codeAny_builtin F.entry_extend_loop ?_;rw[Around.under_plainId F.plain_extend_loop _];show wpAny _ A.in1 (pyNext (.ref z)>>=_) _ _ _;have go:∀x y h' tk'(zs:∃b1 T oT,h'.get? z=some (eF T b1 TI TO)/\h'.get? T=some oT/\h0.objs.size≤T),P1 k x->P2 k y->IsPair h' TI (.ref i1) (.ref i2)->S1 (k+1) h'->S2 (k+1) h'->IsPair h' h.objs.size x y->(∀c o,c∉[z,TO,i1,i2]->h.get? c=some o->h'.get? c=some o)->
    wpAny (model prog w) A.in1 (Builtin.List.listUpdate (.ref S) (·.push (.ref h.objs.size))>>=λ_=>again (.builtin "list.extend.loop" ([.ref S,.ref z,res],[]))) (λfin s'=>match fin with|.done f=>R (.ok f) s'|.again c'=>c'.quiet=true/\codeAny (model prog w) A c' R s') (λe s'=>R (.error e) s') {base with heap:=h',toks:=tk'}:=by
   intro x y h' tk' zs p1 p2 ti st1 st2 new kp;have hS':=kp S _ hSn hSo;refine qa7 ?_;show wpAny _ A.in1 (updateSeq S (·.push (.ref h.objs.size))) _ _ _;have hacc:acc.size=k:=L.len;refine wpAny_updateSeq (s:={base with heap:=h',toks:=tk'}) hS' rfl (qa8 (plainId_quiet F.plain_extend_loop _,?_)) (by rw[hacc,sizeLine_eq];omega) (by show(acc.push _).size≤sizeLine+1;rw[Array.size_push,hacc,sizeLine_eq];omega);have up:∀c o,c≠S->h'.get? c=some o->(h'.update S (mapSeq (·.push (.ref h.objs.size)))).get? c=some o:=λc o hc e=>(Heap.get?_update_other _ _ (Ne.symm hc)).trans e;have hnew:h.objs.size≠S:=ne_of_gt (lt_of_lt_of_le hSlt L.sz);have hlt':h.objs.size<h'.objs.size:=lt_size new;have f1S:∀c∈f1,c≠S:=λc hc q=>by
    rcases m1 c hc with r|r
    .exact hS1 (q.symm.trans r)
    .exact r (by simp[q])
   have f2S:∀c∈f2,c≠S:=λc hc q=>by
    rcases m2 c hc with r|r
    .exact hS2 (q.symm.trans r)
    .exact r (by simp[q])
   refine ih (k+1) _ tk' (acc.push (.ref h.objs.size)) _ (by omega) hlt (?_,up TI _ (Ne.symm hSTI) ti,D1.frame _ _ _ st1 λc hc o e=>up c o (f1S c hc) e,D2.frame _ _ _ st2 λc hc o e=>up c o (f2S c hc) e,?_,by rw[Array.size_push,hacc],λj v hj=>?_,λi j t hi hj=>?_,λc o hc e=>?_) (get?_update_self _ hS' rfl)
   .obtain ⟨b1,T,oT,e1,e2,e3⟩:=zs;exact .inr (Nat.succ_pos k,b1,T,oT,up z _ (Ne.symm hSz) e1,up T _ (ne_of_gt (lt_of_lt_of_le hSlt e3)) e2,e3)
   .rw [Heap.size_update];exact le_trans L.sz (le_of_lt hlt')
   .rw [Array.getElem?_push]at hj;split at hj
    .rename_i ej;cases hj;rw[hacc]at ej;rw[ej];exact(_,x,y,rfl,p1,p2,up _ _ hnew new,L.sz)
    .obtain ⟨t,x',y',rfl,q1,q2,q3,q4⟩:=L.items j v hj;refine(t,x',y',rfl,q1,q2,up t _ (ne_of_gt (lt_of_lt_of_le hSlt q4)) (kp t _ (λhm=>?_) q3),q4);exact absurd (lt t (by simp at hm⊢;rcases hm with y|y|y|y<;>simp[y])) (not_lt.mpr q4)
   .have old:∀(a:Nat),acc[a]?=some (.ref h.objs.size)->False:=λa e=>by
     obtain⟨t,x',y',e1,_,_,q3,_⟩:=L.items a _ e;cases e1;exact absurd (lt_size q3) (lt_irrefl _)
    rw[Array.getElem?_push]at hi hj;split at hi
    .rename_i ei;cases hi;split at hj
     .rename_i ej;omega
     .exact (old _ hj).elim
    .split at hj
     .cases hj;exact(old _ hi).elim
     .exact L.inj i j t hi hj
   .have hcS:c≠S:=λq=>hc (by simp[q]);exact up c o hcS (kp c o (λhm=>hc (by simp at hm⊢;rcases hm with y|y|y|y<;>simp[y])) (L.keep c o hc e))
  rcases L.zip with⟨hk0,hz,a,b,hTO⟩|⟨hk0,b1,T,oT,hz,hT,hT0⟩
  .refine qa7 (d_D (s:={base with heap:=h,toks:=tk}) (_,hz,rfl) (toldL (s:={base with heap:=h,toks:=tk}) D1 D2 m1' m2' ap hz L.ti hTO L.s1 L.s2 hlt hlt λx y h' tk' p1 p2 gz gTI gTO g1 g2 new kp=>?_));exact go x y h' tk' (false,h.objs.size,_,gz,new,L.sz) p1 p2 gTI g1 g2 new kp
  .refine qa7 (d_D (s:={base with heap:=h,toks:=tk}) (_,hz,rfl) (qT (s:={base with heap:=h,toks:=tk}) D1 D2 m1' m2' ap hz hT L.ti L.s1 L.s2 hlt hlt λx y h' tk' p1 p2 gz gTI g1 g2 new kp=>?_));refine go x y h' tk' (true,T,oT,gz,kp T _ (λhm=>?_) hT,hT0) p1 p2 gTI g1 g2 new kp;exact absurd (lt T (by simp at hm⊢;rcases hm with y|y|y|y<;>simp[y])) (not_lt.mpr hT0)
end
section
variable{prog:Program}{w:World}{A:Around}{E:Value->Shared->Prop}{z TI TO i1 i2:Addr}{f1 f2:List Addr}{n:Nat}{P1 P2:Nat->Value->Prop}{S1 S2:Nat->Heap->Prop}
theorem gH:typeLookup (.type "zip") "__len__"=pure none:=by rw[typeLookup_type,builtinLookup_eq_fast];kernel_rfl
theorem eE:typeLookup (.type "zip") "__length_hint__"=pure none:=by rw[typeLookup_type,builtinLookup_eq_fast];kernel_rfl
theorem list_zip(D1:Draws prog w A.in1.in1.in1 i1 f1 n P1 S1)(D2:Draws prog w A.in1.in1.in1 i2 f2 n P2 S2)(ap:ZipApart z TI TO i1 i2 TI TI)(hn:n≤1000000)(m1:∀c∈f1,c=i1\/(c∉[z,TO,i1,i2]/\c<s.heap.objs.size))(m2:∀c∈f2,c=i2\/(c∉[z,TO,i1,i2]/\c<s.heap.objs.size))(hz:IsZip s.heap z TI TO .none)(hTI:IsPair s.heap TI (.ref i1) (.ref i2))(hTO:IsPair s.heap TO a b)(h1:S1 0 s.heap)(h2:S2 0 s.heap)(l1:i1<s.heap.objs.size)(l2:i2<s.heap.objs.size)(hQ:∀h' tk(acc:Array Value)c,(∀b o,b∉[z,TO,i1,i2]->s.heap.get? b=some o->h'.get? b=some o)->h'.get? s.heap.objs.size=some {cls:=.type "list",dict:=none,data:=.seq acc c,slots:=#[]}->acc.size=n->
   (∀(j:Nat)(v:Value),acc[j]?=some v->∃t x y,v=.ref t/\P1 j x/\P2 j y/\IsPair h' t x y/\s.heap.objs.size<t)->(∀(i j:Nat)(t:Addr),acc[i]?=some (.ref t)->acc[j]?=some (.ref t)->i=j)->Q (.ref s.heap.objs.size) {s with heap:=h',toks:=tk}):wpAny (model prog w) A (call (.type "list") [.ref z]) Q E s:=by
 refine callType_codes (Q₁:=λobj s₁=>obj=.ref s.heap.objs.size/\s₁={s with heap:=s.heap.push {cls:=.type "list",data:=.seq #[]} }) F.called_list (F.typeCall_list_1 _) F.entry_list_init
  (code_list_new _ (rfl,rfl)) λobj s₁ h₁=>?_
 obtain⟨rfl,rfl⟩:=h₁;have hS:(s.heap.push {cls:=.type "list",data:=.seq #[]}).get? s.heap.objs.size=some {cls:=.type "list",data:=.seq #[]}:=get?_push_size _ rfl;refine((_,hS,rfl),F.args_list_init_2 _ _,?_);have ltz:z<s.heap.objs.size:=lt_size hz;have ltI:TI<s.heap.objs.size:=lt_size hTI;have ltO:TO<s.heap.objs.size:=lt_size hTO;have hne:∀c,c<s.heap.objs.size->c≠s.heap.objs.size:=λc hc=>ne_of_lt hc;generalize hSe:s.heap.objs.size=S at *;show wpAny _ _ (do let old <-Builtin.List.listItems (.ref S);Builtin.List.listUpdate (.ref S) (λ_=>#[]);letGo old.toList.reverse;Builtin.List.listExtendWith (.ref S) (.ref z) .none) _ _ _;refine qa7 ?_;unfold Builtin.List.listItems;refine qa7 (wpAny_seqItems hS rfl (qa8 ?_));show wpAny _ _ (updateSeq S (λ_=>#[])>>=λ_=>letGo (#[]:Array Value).toList.reverse>>=λ_=>Builtin.List.listExtendWith (.ref S) (.ref z) .none) _ _ _;refine qa7 (wpAny_updateSeq hS rfl ?_);have hS2:=get?_update_self (mapSeq (λ_=>(#[]:Array Value))) hS rfl;have oth:∀b o,b≠S->s.heap.get? b=some o->((s.heap.push {cls:=.type "list",data:=.seq #[]}).update S (mapSeq (λ_=>(#[]:Array Value)))).get? b=some o:=
  λb o hb e=>(Heap.get?_update_other _ _ (Ne.symm hb)).trans (qa9 _ e)
 have hsz2:((s.heap.push {cls:=.type "list",data:=.seq #[]}).update S (mapSeq (λ_=>(#[]:Array Value)))).objs.size=S+1:=by rw[Heap.size_update,size_push,hSe]
 refine qa7 (wpAny_letGo ?_);generalize (s.heap.push {cls:=.type "list",data:=.seq #[]}).update S (mapSeq (λ_=>(#[]:Array Value)))=h0 at hS2 oth hsz2;have zz:IsZip h0 z TI TO .none:=oth z _ (hne z ltz) hz;have hT:({s with heap:=h0}:Shared).TypeIs (.ref z) "zip":=(_,zz,rfl);have hSz:S≠z:=Ne.symm (hne z ltz);unfold Builtin.List.listExtendWith;refine qa7 (wpAny_typeOf hT ?_);have e1:Builtin.List.listSameRef (.ref S) (.ref z)=false:=by simp[Builtin.List.listSameRef,hSz]
 have e2:(Value.type "zip"==Value.type "list")=false:=by decide
 have e3:(Value.type "zip"==Value.type "tuple")=false:=by decide
 simp only[e1,e2,e3,Bool.or_false,Bool.false_eq_true,if_false];refine qa7 (wpAny_pyIter_zip (s:={s with heap:=h0}) zz ?_);refine qa7 (wpAny_holding ?_);unfold Builtin.List.listLengthHint;refine qa7 (wpAny_specialOf hT gH ?_);show wpAny _ _ (specialOf (Value.ref z) (Str.ofString "__length_hint__")>>=_) _ _ _;refine qa7 (wpAny_specialOf hT eE ?_);refine qa8 ?_;show wpAny _ _ (rule "list.extend.makes-room" >>= λ_=>Builtin.List.listTouch (.ref S)>>=λ_=>again (.builtin "list.extend.loop" ([.ref S,.ref z,.none],[]))) _ _ _;refine qa7 (wpAny_rule ?_);refine qa7 ?_;show wpAny _ _ (updateSeq S (·.push .none)>>=λ_=>updateSeq S (·.pop)) _ _ _;refine qa7 (wpAny_updateSeq (s:={s with heap:=h0}) hS2 rfl ?_);have hS3:=get?_update_self (mapSeq (·.push Value.none)) hS2 rfl;refine wpAny_updateSeq (hz:=by seq_fits) hS3 rfl ?_;have hS4:=get?_update_self (mapSeq (·.pop)) hS3 rfl;have oth2:∀b o,b≠S->s.heap.get? b=some o->((h0.update S (mapSeq (·.push Value.none))).update S (mapSeq (·.pop))).get? b=some o:=
  λb o hb e=>(Heap.get?_update_other _ _ (Ne.symm hb)).trans ((Heap.get?_update_other _ _ (Ne.symm hb)).trans (oth b o hb e))
 have hsz4:((h0.update S (mapSeq (·.push Value.none))).update S (mapSeq (·.pop))).objs.size=S+1:=by rw[Heap.size_update,Heap.size_update];exact hsz2
 generalize ((h0.update S (mapSeq (·.push Value.none))).update S (mapSeq (·.pop)))=h1' at hS4 oth2 hsz4;have f1n:∀c∈f1,c<S:=λc hc=>(m1 c hc).elim (λq=>q▸l1) λq=>q.2;have f2n:∀c∈f2,c<S:=λc hc=>(m2 c hc).elim (λq=>q▸l2) λq=>q.2;have off:∀c:Addr,c∉[z,TO,i1,i2]->c<S->c∉[z,TO,i1,i2,S]:=λc h1 h2 hm=>by
  simp at hm h1;rcases hm with y|y|y|y|y
  .exact h1.1 y
  .exact h1.2.1 y
  .exact h1.2.2.1 y
  .exact h1.2.2.2 y
  .exact absurd h2 (by rw[y];exact lt_irrefl _)
 refine qa8 (plainId_quiet F.plain_extend_loop _,lf (S:=S) (h0:=h1') (n:=n) (base:=s) D1 D2 ap hn (λc hc=>(m1 c hc).imp id λq=>off c q.1 q.2) (λc hc=>(m2 c hc).imp id λq=>off c q.1 q.2) (λc hc=>?_) ?_ .none ?_ n 0 h1' _ #[] _ (by omega) (zero_le _)
  (.inl (rfl,oth2 z _ (hne z ltz) hz,a,b,oth2 TO _ (hne TO ltO) hTO),oth2 TI _ (hne TI ltI) hTI,D1.frame _ _ _ h1 λc hc o e=>oth2 c o (hne c (f1n c hc)) e,D2.frame _ _ _ h2 λc hc o e=>oth2 c o (hne c (f2n c hc)) e,le_refl _,rfl,λj v hj=>by simp at hj,λi j t hi=>by simp at hi,λc o _ e=>e) hS4)
 .rw [hsz4];simp only[mem_cons,not_mem_nil,or_false]at hc;rcases hc with y|y|y|y|y|y
  .rw [y];exact lt_succ_of_lt ltz
  .rw [y];exact lt_succ_of_lt ltI
  .rw [y];exact lt_succ_of_lt ltO
  .rw [y];exact lt_succ_of_lt l1
  .rw [y];exact lt_succ_of_lt l2
  .rw [y];exact lt_succ_self _
 .simp [hSz,Ne.symm (hne TI ltI),Ne.symm (hne TO ltO),Ne.symm (hne i1 l1),Ne.symm (hne i2 l2)]
 .intro h tk acc c L hSo h' kp;have hSn:S∉[z,TO,i1,i2]:=by simp[hSz,Ne.symm (hne TO ltO),Ne.symm (hne i1 l1),Ne.symm (hne i2 l2)]
  refine(rfl,hQ h' tk acc c (λb o hb e=>kp b o hb (L.keep b o (λhm=>?_) (oth2 b o (hne b (by rw[<-hSe];exact lt_size e)) e))) (kp S _ hSn hSo) L.len (λj v hj=>?_) L.inj)
  .simp at hm hb;rcases hm with y|y|y|y|y
   .exact hb.1 y
   .exact hb.2.1 y
   .exact hb.2.2.1 y
   .exact hb.2.2.2 y
   .exact absurd (lt_size e) (by rw[hSe,y];exact lt_irrefl _)
  .obtain ⟨t,x,y,rfl,p1,p2,q,q2⟩:=L.items j v hj;rw[hsz4]at q2;refine(t,x,y,rfl,p1,p2,kp t _ (λhm=>?_) q,q2);have hlt:t<S:=by
    simp at hm;rcases hm with y|y|y|y
    .rw [y];exact ltz
    .rw [y];exact ltO
    .rw [y];exact l1
    .rw [y];exact l2
   exact absurd (lt_of_lt_of_le hlt (le_succ S)) (not_lt.mpr q2)
end
end ZP
end L2
namespace L2
open PySem PySem.Spec PyProof.Rows
section
variable{X:Cx}{pins:List (Addr×Obj)}{σ:St}{H H':Hp}{s:Shared}{h':Heap}
theorem Inv.many(I:Inv X pins σ H s)(k:∀b o,s.heap.get? b=some o->h'.get? b=some o)(old:∀b,b<s.heap.objs.size->H' b=H b)(new:∀b o,s.heap.objs.size≤b->H' b=some o->a_L X.prog X.w H' h' b o):Inv X pins σ H' {s with heap:=h',toks:=t'}:=by
 have up:∀{b:Addr}{u:HO},H b=some u->H' b=some u:=λ{b u}e=>by rw[old b (I.hok.lt e)];exact e
 refine I.un (H':=H') (λb o e _ _ _=>k b o e,λb o e _ _ _=>(o.slots,k b o e),λb o e n _=>by rw[old b (lt_size e)];exact n,λb o e _=>(o,k b o e),λb xs e=>up e,λb o u e=>up e,λb ps e=>(#[],by rw[up e];simp)) λb o e=>?_;by_cases hb:s.heap.objs.size≤b
 .exact new b o hb e
 .have hb':b<s.heap.objs.size:=Nat.lt_of_not_le hb;rw[old b hb']at e;exact(I.hok b o e).stay (λc u _ q=>k c u q) (λc q=>up q) λc xs q=>up q
end
def kl(ts:List Addr)(xs ys:List V)(b:Addr):Option HO:=((ts.zip (xs.zip ys)).lookup b).map λq=>HO.tup [q.1,q.2]
theorem f_q{α:Type}{b:Addr}{v:α}:∀{ts:List Addr}{vs:List α}{i:Nat},ts.Nodup->ts[i]?=some b->vs[i]?=some v->(ts.zip vs).lookup b=some v
 |[],_,_,_,h,_=>by simp at h
 |_::_,[],_,_,_,h=>by simp at h
 |t::ts,w::vs,0,nd,h1,h2=>by
  simp at h1 h2;subst h1 h2;simp[lookup_cons]
 |t::ts,w::vs,i+1,nd,h1,h2=>by
  have hne:b≠t:=λz=>(nodup_cons.mp nd).1 (by rw[<-z];exact qb2 (by simpa using h1));rw[List.zip_cons_cons,lookup_cons,beq_eq_false_iff_ne.mpr hne];exact f_q (i:=i) (nodup_cons.mp nd).2 (by simpa using h1) (by simpa using h2)
theorem e_v{α:Type}:∀{l:List α},(∀(i j:Nat)(t:α),l[i]?=some t->l[j]?=some t->i=j)->l.Nodup
 |[],_=>List.nodup_nil
 |a::r,h=>by
  rw[nodup_cons];refine(λhm=>?_,e_v λi j t h1 h2=>?_)
  .obtain ⟨j,hj⟩:=mem_iff_getElem?.mp hm;have:=h 0 (j+1) a rfl (by simpa using hj);omega
  .have:=h (i+1) (j+1) t (by simpa using h1) (by simpa using h2);omega
theorem ck{α:Type}{b:Addr}{v:α}:∀{l:List (Addr×α)},l.lookup b=some v->(b,v,)∈l
 |[],e=>by cases e
 |(c,x)::r,e=>by
  rw[lookup_cons]at e;by_cases hb:b=c
  .subst hb;simp at e;simp[e]
  .rw [beq_eq_false_iff_ne.mpr hb]at e;exact mem_cons_of_mem _ (ck e)
theorem fL{d:Sd}(a:d.has H xs)(b:d.has H ys):xs=ys:=by
 cases d with
 |tx x k=>exact(show xs=_ from a).trans (show ys=_ from b).symm
 |tp c=>
  have a:H c=_:=a;have b:H c=_:=b;rw[a]at b;cases b;rfl
 |ls c=>
  have a:H c=_:=a;have b:H c=_:=b;rw[a]at b;cases b;rfl
theorem m4{g:TG}{tb:TS}{D:Ends}(hl:xs.length=ys.length)(Pv:Nat->St->Hp->Prop)(h0:Pv 0 σ H)(hh:∀i σ H,Pv i σ H->d1.has H xs/\d2.has H ys)(hs:∀i x y p σ H,xs[i]?=some x->ys[i]?=some y->H p=none->Pv i σ H->g (.ref p) σ (upd H p (.tup [x,y])) λσ2 H2=>tb {D with nx:=Pv (i+1),ct:=Pv (i+1),bk:=D.nx} σ2 H2)(hd:∀σ H,Pv xs.length σ H->D.nx σ H):∃W:Nat->Nat->St->Hp->Prop,(∃m,W 0 m σ H)/\∀i m σ H,W i m σ H->
   ((Itg d1 d2).stop i H/\D.nx σ H)\/((Itg d1 d2).go i H/\∃N:St->Hp->Prop,(∀σ' H',N σ' H'->∃m',m'<m/\W (i+1) m' σ' H')/\∀v H',(Itg d1 d2).yld i H v H'->g v σ H' λσ2 H2=>tb {D with nx:=N,ct:=N,bk:=D.nx} σ2 H2):=by
 refine(λi m σ H=>m=xs.length-i/\i≤xs.length/\Pv i σ H,(xs.length,by simp,zero_le _,h0),?_);rintro i m σ H⟨rfl,hi,p⟩;obtain⟨h1,h2⟩:=hh i σ H p;by_cases hlt:i<xs.length
 .refine .inr ((xs,ys,xs[i],ys[i]'(by omega),h1,h2,qa2 _,qa2 _),Pv (i+1),λσ' H' p'=>(xs.length-(i+1),by omega,rfl,hlt,p'),λv H' q=>?_);obtain⟨a,xs',ys',x,y,e1,e2,e3,e4,rfl,e5,rfl⟩:=q;have:=fL e1 h1;have:=fL e2 h2;subst xs' ys';exact hs i x y a σ H e3 e4 e5 p
 .have e:i=xs.length:=by omega
  subst e;exact .inl ((xs,ys,h1,h2,hl,rfl),hd σ H p)
theorem nY(h:H gs=some (.tup xs)\/H gs=some (.lst xs))(hR:∀d2:Sd,(∀H':Hp,H' gs=H gs->d2.has H' xs)->R (.tx x) d2):sy H (.str x) (.ref gs) R:=by
 rcases h with h|h
 .exact .inl (x,gs,xs,rfl,rfl,h,hR (.tp gs) λH' e=>show H' gs=_ from e.trans h)
 .exact .inr (.inl (x,gs,xs,rfl,rfl,h,hR (.ls gs) λH' e=>show H' gs=_ from e.trans h))
structure eC(K:Frag)(x qual:Str)(st:Stmt)(f:Addr)(fd:FuncData):Prop where
 ex:∃(oc:Value)(od:Option Addr)(dV kV doc pm:Value)(an:Option Addr)(cdv ct:Value)(osl:Array (Option Value)),
  fd=fnOf x qual (a_g st) (a_e st) (a_a st) dV kV doc pm an cdv ct/\K.lookup f=some (oc,od,.func fd,osl)/\codeIn K cdv qual=true
 kp:keepIn K (.ref f)=true
theorem eC.ok{P:Program}{w:World}{K:Frag}{st:Stmt}(F:eC K x qual st f fd)(S:a_m N ps (a_a st))(len:∀vs H Q E,sp vs H Q E->vs.length=ps.length)(hbody:∀(cdv:Value)(A:Around)(outer:List Env)(s:Shared)(H:Hp)(vs:List V)(Q:VK)(E:XK),af k (A.deeper (envOfC qual (a_a st) s.heap.objs.size f cdv))->sp vs H Q E->
   ∃t,PSs (aJ CX0 P w K mg base N qual (a_a st) f cdv A outer s H E).nox (a_e st) t/\t {nx:=λ_ H'=>Q .non H',rt:=Q} (start N vs) H):aa P w K mg base CX0 (k+1) f fd ps sp:=by
 obtain⟨oc,od,dV,kV,doc,pm,an,cdv,ct,osl,rfl,lk,hcd⟩:=F.ex;refine fY lk hcd S len λA outer s H vs Q E hr hsp=>?_;obtain⟨t,h,q⟩:=hbody cdv A outer s H vs Q E hr hsp;exact(t,h.nox,q)
theorem dQ{P:Program}{w:World}{K:Frag}{mg:Str->Option Value}{base:Heap}{st:Stmt}{oc dV kV doc pm ct:Value}(lk:K.lookup f=some (oc,od,.func (fnOf x qual (a_g st) (a_e st) (a_a st) dV kV doc pm an (.ref c) ct),osl))(hcd:codeIn K (.ref c) qual=true)(S:a_m N ps (a_a st))(len:∀vs H Q E,sp vs H Q E->vs.length=ps.length)(hbody:∀(A:Around)(outer:List Env)(s:Shared)(H:Hp)(vs:List V)(Q:VK)(E:XK),af k (A.deeper (envOfC qual (a_a st) s.heap.objs.size f (.ref c)))->sp vs H Q E->
   ∃t,PSs (aJ CX0 P w K mg base N qual (a_a st) f (.ref c) A outer s H E) (a_e st) t/\t {nx:=λ_ H'=>Q .non H',rt:=Q} (start N vs) H):aa P w K mg base CX0 (k+1) f (fnOf x qual (a_g st) (a_e st) (a_a st) dV kV doc pm an (.ref c) ct) ps sp:=fY lk hcd S len hbody
end L2
namespace RA
open PySem L2
structure e_e(H:Hp)(cW wk:Addr)(L:LN)(t wd y m:Addr):Prop where
 ex:∃dx,H wk=some (.ins cW dx [("letters",.str (tx L),),("things",.ref t,),("words",.ref wd,),("ways",.ref y,),("marks",.ref m,)])
def b_L(ws:LL):List V:=ws.map λw=>V.str (tx w)
def f_K(ti:TK)(H:Hp)(ks:LL)(vs:List V):Prop:=vs.length=ks.length/\∀(i:Nat)(k:LN)(v:V),ks[i]?=some k->vs[i]?=some v->ThV ti H k v
theorem f_K.same(h:f_K ti H ks vs)(s:∀b xs,H b=some (.tup xs)->H' b=some (.tup xs)):f_K ti H' ks vs:=(h.1,λi k v a b=>(h.2 i k v a b).same s)
theorem f_K.snoc(h:f_K ti H ks vs)(hv:ThV ti H k v):f_K ti H (ks++[k]) (vs++[v]):=by
 refine(by rw[qa5,qa5,h.1];rfl,λi k' v' a b=>?_);by_cases hi:i<ks.length
 .rw [getElem?_append_left hi]at a;rw[getElem?_append_left (by rw[h.1];exact hi)]at b;exact h.2 i k' v' a b
 .rw [getElem?_append_right (le_of_not_lt hi)]at a;rw[getElem?_append_right (by rw[h.1];exact le_of_not_lt hi),h.1]at b;have hz:i-ks.length=0:=by
   have:=(qa1 a).1;simp at this;omega
  rw[hz]at a b;cases a;cases b;exact hv
def d_e(H:Hp)(rows:List Addr)(R:LL):Prop:=rows.length=R.length/\∀(i:Nat)(a:Addr)(r:LN),rows[i]?=some a->R[i]?=some r->H a=some (.lst (intsV r))
structure b_C(g:LN->Nat->LN)(nL:Nat)(ks:LL)(R:LL):Prop where
 row:∀(r:Nat)(row:LN)(k:LN),R[r]?=some row->ks[r]?=some k->row.length=nL/\∀(q x:Nat),row[q]?=some x->ks[x]?=some (g k q)
def d_k(ti:TK)(L:LN)(g:LN->Nat->LN)(U:LL)(Rest:Hp->Prop):Sp:=λvs H Q _=>∃k v,vs=[v]/\ThV ti H k v/\k∈U/\Rest H/\
 ∀gs xs H',Same H H'->(H' gs=some (.tup xs)\/(H gs=none/\H' gs=some (.lst xs)))->xs.length=L.length->(∀(q:Nat)(x:V),xs[q]?=some x->ThV ti H' (g k q) x)->Q (.ref gs) H'
def e_X(ti:TK)(mk:LN->Bool)(U:LL)(Rest:Hp->Prop):Sp:=λvs H Q _=>∃k v,vs=[v]/\ThV ti H k v/\k∈U/\Rest H/\∀H',Same H H'->Q (.bl (mk k)) H'
def bD:Option Nat->V
 |none=>.non
 |some n=>.int (n:Int)
def lp(cW:Addr):Sp:=λvs H Q _=>∃x dx L v,vs=[.ref x,.str (tx L),v]/\H x=some (.ins cW dx [])/\
 ∀t wd y m H',t≠wd->t≠y->t≠m->wd≠y->wd≠m->y≠m->H t=none->H wd=none->H y=none->H m=none->(∀b o,b≠x->H b=some o->H' b=some o)->e_e H' cW x L t wd y m->H' t=some (.lst [v])->H' wd=some (.lst [.str (tx [])])->H' y=some (.lst [])->H' m=some (.lst [])->Q .non H'
def b_O(cW:Addr)(ti:TK)(L:LN)(g:LN->Nat->LN)(mk:LN->Bool)(U:LL)(Rest:Hp->Prop)(fg fm:Addr):Sp:=λvs H Q _=>∃(s:LN)(sv:V)(most:Option Nat),vs=[.str (tx L),sv,.ref fg,.ref fm,bD most]/\Let L/\ThV ti H s sv/\s∈U/\(∀k∈U,∀q,q<L.length->g k q∈U)/\U.length≤100000/\Rest H/\
 ∀(wk t wd y m:Addr)(ks:LL)(vks:List V)(ws:LL)(rows:List Addr)(R:LL)(B:List Bool)(H':Hp),Same H H'->e_e H' cW wk L t wd y m->H' t=some (.lst vks)->f_K ti H' ks vks->H' wd=some (.lst (b_L ws))->H' y=some (.lst (rows.map V.ref))->d_e H' rows R->H' m=some (.lst (B.map V.bl))->
  Bf g L s ks ws R.length 0->b_C g L.length ks R->B.length=R.length->(∀(r:Nat)(k:LN)(b:Bool),ks[r]?=some k->B[r]?=some b->b=mk k)->(∀k∈ks,k∈U)->ks.length≤U.length->(R.length=ks.length\/∃n,most=some n/\n<ks.length)->Q (.ref wk) H'
theorem d_w(h:n≤100000):n<sizeLine:=by rw[sizeLine_eq];omega
theorem se{A B:Prop}(h:A):if (!decide (V.int n=V.non))=true then A else B:=by
 rw[decide_eq_false (λz=>by cases z)];exact au h
structure WI(P:Program)(w:World)(H0 H:Hp)(cW:Addr)(ti:TK)(L:LN)(wk t wd y m d:Addr)(ks:LL)(vks:List V)(ws:LL)(rows:List Addr)(R:LL)(B:List Bool):Prop where
 sm:Same H0 H
 obj:e_e H cW wk L t wd y m
 ht:H t=some (.lst vks)
 th:f_K ti H ks vks
 hw:H wd=some (.lst (b_L ws))
 hy:H y=some (.lst (rows.map V.ref))
 wr:d_e H rows R
 hm:H m=some (.lst (B.map V.bl))
 rm:RmAt P w H d ti ks
 n1:H0 t=none
 n2:H0 wd=none
 n3:H0 y=none
 n4:H0 m=none
 n5:H0 d=none
 d1:t≠wd
 d2:t≠y
 d3:t≠m
 d4:wd≠y
 d5:wd≠m
 d6:y≠m
 e1:d≠t
 e2:d≠wd
 e3:d≠y
 e4:d≠m
 e5:d≠wk
 nr:∀a∈rows,a≠t/\a≠wd/\a≠y/\a≠m/\a≠d
section
variable{P:Program}{w:World}{H0 H:Hp}{cW:Addr}{ti:TK}{L:LN}{wk t wd y m d:Addr}{ks:LL}{vks:List V}{ws:LL}{rows:List Addr}{R:LL}{B:List Bool}
theorem WI.any(h:WI P w H0 H cW ti L wk t wd y m d ks vks ws rows R B)(s:Same H H'):WI P w H0 H' cW ti L wk t wd y m d ks vks ws rows R B:=
 {h with
  sm:=h.sm.trans s
  obj:=let⟨dx,e⟩:=h.obj.ex;(dx,s _ _ e)
  ht:=s _ _ h.ht
  th:=h.th.same λb xs e=>s _ _ e
  hw:=s _ _ h.hw
  hy:=s _ _ h.hy
  wr:=(h.wr.1,λi a r h1 h2=>s _ _ (h.wr.2 i a r h1 h2))
  hm:=s _ _ h.hm
  rm:=h.rm.same λb o e _=>s _ _ e}
theorem WI.beside(h:WI P w H0 H cW ti L wk t wd y m d ks vks ws rows R B)(ha:H a=some (.lst xs))(h0:H0 a=none)(a1:a≠t)(a2:a≠wd)(a3:a≠y)(a4:a≠m)(a5:a≠d)(a6:a∉rows):WI P w H0 (upd H a o) cW ti L wk t wd y m d ks vks ws rows R B:=by
 have kp:∀{b:Addr}{u:HO},H b=some u->b≠a->upd H a o b=some u:=λe hb=>by rw[upd_ne hb];exact e
 have ktup:∀b zs,H b=some (.tup zs)->upd H a o b=some (.tup zs):=λb zs e=>kp e (ne_of e ha (by intro z;cases z));exact {h with
  sm:=Same.set h.sm h0
  obj:=let⟨dx,e⟩:=h.obj.ex;(dx,kp e (ne_of e ha (by intro z;cases z)))
  ht:=kp h.ht (Ne.symm a1)
  th:=h.th.same ktup
  hw:=kp h.hw (Ne.symm a2)
  hy:=kp h.hy (Ne.symm a3)
  wr:=(h.wr.1,λi b r h1 h2=>kp (h.wr.2 i b r h1 h2) λz=>a6 (by rw[<-z];exact qb2 h1))
  hm:=kp h.hm (Ne.symm a4)
  rm:=h.rm.same λb u e hb=>by
   rcases hb with rfl|⟨zs,rfl⟩
   .exact kp e (Ne.symm a5)
   .exact ktup b zs e}
theorem WI.new(h:WI P w H0 H cW ti L wk t wd y m d ks vks ws rows R B)(hv:ThV ti H k v)(hr:RmAt P w (upd H d ob) d ti (ks++[k])):WI P w H0 (upd (upd (upd H d ob) t (.lst (vks++[v]))) wd (.lst (b_L ws++[.str (tx a)]))) cW ti L wk t wd y m d (ks++[k]) (vks++[v]) (ws++[a]) rows R B:=by
 have hd:∃φ,H d=some (.ext φ):=by
  have hr0:=h.rm;unfold RmAt at hr0;by_cases c:ti=.i
  .rw [if_pos c]at hr0;exact(_,hr0.1)
  .rw [if_neg c]at hr0;obtain⟨kvs,e,_⟩:=hr0;exact(_,e)
 obtain⟨φ,hd⟩:=hd;have kp:∀{b:Addr}{u:HO},H b=some u->b≠d->b≠t->b≠wd->upd (upd (upd H d ob) t (.lst (vks++[v]))) wd (.lst (b_L ws++[.str (tx a)])) b=some u:=λe h1 h2 h3=>by rw[upd_ne h3,upd_ne h2,upd_ne h1];exact e
 have ktup:∀b zs,H b=some (.tup zs)->upd (upd (upd H d ob) t (.lst (vks++[v]))) wd (.lst (b_L ws++[.str (tx a)])) b=some (.tup zs):=λb zs e=>kp e (ne_of e hd (by intro z;cases z)) (ne_of e h.ht (by intro z;cases z)) (ne_of e h.hw (by intro z;cases z));have e0:=h.obj.ex;obtain⟨dx,ew⟩:=e0;exact {h with
  sm:=Same.set (Same.set (Same.set h.sm h.n5) h.n1) h.n2
  obj:=(dx,kp ew (Ne.symm h.e5) (ne_of ew h.ht (by intro z;cases z)) (ne_of ew h.hw (by intro z;cases z)))
  ht:=by rw[upd_ne h.d1,a_c]
  th:=(h.th.same ktup).snoc (hv.same ktup)
  hw:=by rw[a_c,b_L,b_L,map_append];rfl
  hy:=kp h.hy (Ne.symm h.e3) (Ne.symm h.d2) (Ne.symm h.d4)
  wr:=(h.wr.1,λi b r h1 h2=>kp (h.wr.2 i b r h1 h2) (h.nr b (qb2 h1)).2.2.2.2 (h.nr b (qb2 h1)).1 (h.nr b (qb2 h1)).2.1)
  hm:=kp h.hm (Ne.symm h.e4) (Ne.symm h.d3) (Ne.symm h.d5)
  rm:=hr.same λb u e hb=>by
   rcases hb with rfl|⟨zs,rfl⟩
   .rw [upd_ne h.e2,upd_ne h.e1];exact e
   .have hbd:b≠d:=λz=>by
     rw[z,a_c]at e;have hr1:=hr;unfold RmAt at hr1;by_cases c:ti=.i
     .rw [if_pos c,a_c]at hr1;rw[e]at hr1;cases hr1.1
     .rw [if_neg c]at hr1;obtain⟨kvs,e2,_⟩:=hr1;rw[a_c,e]at e2;cases e2
    rw[upd_ne hbd]at e;exact ktup b zs e}
theorem WI.row(h:WI P w H0 H cW ti L wk t wd y m d ks vks ws rows R B)(ha:H a=some (.lst (intsV r)))(a1:a≠t)(a2:a≠wd)(a3:a≠y)(a4:a≠m)(a5:a≠d):WI P w H0 (upd H y (.lst (rows.map V.ref++[.ref a]))) cW ti L wk t wd y m d ks vks ws (rows++[a]) (R++[r]) B:=by
 have kp:∀{b:Addr}{u:HO},H b=some u->b≠y->upd H y (.lst (rows.map V.ref++[.ref a])) b=some u:=λe hb=>by rw[upd_ne hb];exact e
 have ktup:∀b zs,H b=some (.tup zs)->upd H y (.lst (rows.map V.ref++[.ref a])) b=some (.tup zs):=λb zs e=>kp e (ne_of e h.hy (by intro z;cases z));have e0:=h.obj.ex;obtain⟨dx,ew⟩:=e0;exact {h with
  sm:=Same.set h.sm h.n3
  obj:=(dx,kp ew (ne_of ew h.hy (by intro z;cases z)))
  ht:=kp h.ht h.d2
  th:=h.th.same ktup
  hw:=kp h.hw h.d4
  hy:=by rw[a_c,map_append];rfl
  wr:=by
   refine(by rw[qa5,qa5,h.wr.1];rfl,λi b r' h1 h2=>?_);by_cases hi:i<rows.length
   .rw [getElem?_append_left hi]at h1;rw[getElem?_append_left (by rw[<-h.wr.1];exact hi)]at h2;exact kp (h.wr.2 i b r' h1 h2) (h.nr b (qb2 h1)).2.2.1
   .rw [getElem?_append_right (le_of_not_lt hi)]at h1;rw[getElem?_append_right (by rw[<-h.wr.1];exact le_of_not_lt hi),<-h.wr.1]at h2;have hz:i-rows.length=0:=by
     have:=(qa1 h1).1;simp at this;omega
    rw[hz]at h1 h2;cases h1;cases h2;exact kp ha a3
  hm:=kp h.hm (Ne.symm h.d6)
  rm:=h.rm.same λb u e hb=>by
   rcases hb with rfl|⟨zs,rfl⟩
   .exact kp e h.e3
   .exact ktup b zs e
  nr:=λb hb=>by
   rcases mem_append.mp hb with z|z
   .exact h.nr b z
   .rw [qb1 z];exact(a1,a2,a3,a4,a5)}
theorem WI.mark(h:WI P w H0 H cW ti L wk t wd y m d ks vks ws rows R B):WI P w H0 (upd H m (.lst (B.map V.bl++[.bl b]))) cW ti L wk t wd y m d ks vks ws rows R (B++[b]):=by
 have kp:∀{c:Addr}{u:HO},H c=some u->c≠m->upd H m (.lst (B.map V.bl++[.bl b])) c=some u:=λe hb=>by rw[upd_ne hb];exact e
 have ktup:∀c zs,H c=some (.tup zs)->upd H m (.lst (B.map V.bl++[.bl b])) c=some (.tup zs):=λc zs e=>kp e (ne_of e h.hm (by intro z;cases z));have e0:=h.obj.ex;obtain⟨dx,ew⟩:=e0;exact {h with
  sm:=Same.set h.sm h.n4
  obj:=(dx,kp ew (ne_of ew h.hm (by intro z;cases z)))
  ht:=kp h.ht h.d3
  th:=h.th.same ktup
  hw:=kp h.hw h.d5
  hy:=kp h.hy h.d6
  wr:=(h.wr.1,λi c r h1 h2=>kp (h.wr.2 i c r h1 h2) (h.nr c (qb2 h1)).2.2.2.1)
  hm:=by rw[a_c,map_append];rfl
  rm:=h.rm.same λc u e hb=>by
   rcases hb with rfl|⟨zs,rfl⟩
   .exact kp e h.e4
   .exact ktup c zs e}
end
theorem c_Y(l:LN)(x:Nat):intsV (l++[x])=intsV l++[V.int (x:Int)]:=by simp[intsV]
theorem g_H{α:Type}{l:List α}{x y:α}{i:Nat}(h:l[i]?=some y):(l++[x])[i]?=some y:=by
 rw[getElem?_append_left (qa1 h).1];exact h
theorem f_w{α:Type}{l:List α}{x y:α}(hi:i<l.length)(h:(l++[x])[i]?=some y):l[i]?=some y:=by
 rw[getElem?_append_left hi]at h;exact h
theorem b_l{α:Type}{l:List α}{x y:α}(e:(l++[x])[i]?=some y):l[i]?=some y\/(i=l.length/\y=x):=by
 by_cases hi:i<l.length
 .rw [getElem?_append_left hi]at e;exact .inl e
 .rw [getElem?_append_right (by omega)]at e;have:i-l.length=0:=by
   have:=(qa1 e).1;simp at this;omega
  rw[this]at e;exact .inr (by omega,(Option.some.inj e).symm)
theorem iA(h:k∈ts):ixO ts k=some (ts.idxOf k)/\ts[ts.idxOf k]?=some k:=(if_pos h,by rw[qa2 (idxOf_lt_length_of_mem h),getElem_idxOf])
structure WPu(g:LN->Nat->LN)(L s0:LN)(mk:LN->Bool)(U ks ws R:LL)(B:List Bool)(q:Nat):Prop where
 bf:Bf g L s0 ks ws R.length q
 le:R.length≤ks.length
 ways:b_C g L.length ks R
 bl:B.length=R.length
 mks:∀(r:Nat)(k:LN)(b:Bool),ks[r]?=some k->B[r]?=some b->b=mk k
 sub:∀k∈ks,k∈U
 left:leftOf U ks+ks.length≤U.length
 wl:∀a∈ws,a.length≤ks.length
def e_G(g:LN->Nat->LN)(ks:LL)(n:Nat)(r:LN)(q:Nat):Prop:=r.length=q/\∀(q' x:Nat)(k:LN),ks[n]?=some k->r[q']?=some x->ks[x]?=some (g k q')
section
variable{g:LN->Nat->LN}{L s0:LN}{mk:LN->Bool}{U ks ws R:LL}{B:List Bool}{q n:Nat}{r a k0:LN}
theorem WPu.start(hs:s0∈U):WPu g L s0 mk U [s0] [[]] [] [] 0 where
 bf:=Bf.start g L s0
 le:=zero_le _
 ways:=⟨λr row k h=>by simp at h⟩
 bl:=rfl
 mks:=λr k b _ h=>by simp at h
 sub:=λk hk=>by rw[qb1 hk];exact hs
 left:=by
  have h1:=cu (U:=U) (ts:=[]) hs (by simp);have h2:leftOf U ([]:LL)≤U.length:=List.countP_le_length;simp at h1⊢;omega
 wl:=λa ha=>by rw[qb1 ha];exact zero_le _
theorem WPu.old(h:WPu g L s0 mk U ks ws R B q)(nd:L.Nodup)(hk:ks[R.length]?=some k0)(ha:ws[R.length]?=some a)(hq:q<L.length)(hm:g k0 q∈ks):WPu g L s0 mk U ks ws R B (q+1):=
 {h with bf:=h.bf.old nd hk ha hq hm}
theorem WPu.new(h:WPu g L s0 mk U ks ws R B q)(nd:L.Nodup)(hk:ks[R.length]?=some k0)(ha:ws[R.length]?=some a)(hq:q<L.length)(hm:g k0 q∉ks)(hU:g k0 q∈U):WPu g L s0 mk U (ks++[g k0 q]) (ws++[a++[L.getD q 0]]) R B (q+1) where
 bf:=h.bf.new nd hk ha hq hm
 le:=by rw[qa5];exact le_trans h.le (le_add_right _ _)
 ways:=⟨λr row k h1 h2=>by
  have hr:r<ks.length:=lt_of_lt_of_le (qa1 h1).1 h.le;obtain⟨e1,e2⟩:=h.ways.row r row k h1 (f_w hr h2);exact(e1,λq x hx=>g_H (e2 q x hx))⟩
 bl:=h.bl
 mks:=λr k b h1 h2=>h.mks r k b (f_w (lt_of_lt_of_le (by rw[<-h.bl];exact(qa1 h2).1) h.le) h1) h2
 sub:=λk hk=>by
  rcases mem_append.mp hk with z|z
  .exact h.sub k z
  .rw [qb1 z];exact hU
 left:=by
  have h1:=cu (U:=U) (ts:=ks) hU hm;have h2:=h.left;rw[qa5];show leftOf U (ks++[g k0 q])+(ks.length+1)≤U.length;omega
 wl:=λb hb=>by
  rw[qa5];rcases mem_append.mp hb with z|z
  .exact le_trans (h.wl b z) (le_add_right _ _)
  .rw [qb1 z,qa5];exact Nat.add_le_add_right (h.wl a (qb2 ha)) 1
theorem WPu.next(h:WPu g L s0 mk U ks ws R B L.length)(hk:ks[R.length]?=some k0)(hr:e_G g ks R.length r L.length):WPu g L s0 mk U ks ws (R++[r]) (B++[mk k0]) 0 where
 bf:=by rw[qa5];exact h.bf.next
 le:=by rw[qa5];exact(qa1 hk).1
 ways:=⟨λi row k h1 h2=>by
  rcases b_l h1 with z|⟨rfl,rfl⟩
  .exact h.ways.row i row k z h2
  .exact (hr.1,λq x hx=>hr.2 q x k h2 hx)⟩
 bl:=by rw[qa5,qa5,h.bl];rfl
 mks:=λi k b h1 h2=>by
  rcases b_l h2 with z|⟨rfl,rfl⟩
  .exact h.mks i k b h1 z
  .rw [h.bl,hk]at h1;cases h1;rfl
 sub:=h.sub
 left:=h.left
 wl:=h.wl
theorem e_G.nil:e_G g ks n [] 0:=(rfl,λq x k _ h=>by simp at h)
theorem e_G.grow(h:e_G g ks n r q)(hn:n<ks.length):e_G g (ks++[x]) n r q:=(h.1,λq' y k h1 h2=>g_H (h.2 q' y k (f_w hn h1) h2))
theorem e_G.snoc(h:e_G g ks n r q)(hk:ks[n]?=some k0)(hm:g k0 q∈ks):e_G g ks n (r++[ks.idxOf (g k0 q)]) (q+1):=by
 refine(by rw[qa5,h.1];rfl,λq' x k h1 h2=>?_);rcases b_l h2 with z|⟨rfl,rfl⟩
 .exact h.2 q' x k h1 z
 .rw [hk]at h1;cases h1;rw[h.1];exact(iA hm).2
end
def gW(W:LL)(k:LN)(q:Nat):LN:=[(W.getD (k.headD 0) []).getD q 0]
def uW(W:LL):LL:=(List.range W.length).map λn=>[n]
def mkW(B:List Bool)(k:LN):Bool:=B.getD (k.headD 0) false
theorem gL:[n]∈uW W↔n<W.length:=by
 unfold uW;rw[mem_map];constructor
 .rintro⟨m,hm,e⟩;injection e with e;rw[<-e];exact mem_range.mp hm
 .exact λh=>(n,mem_range.mpr h,rfl)
theorem c9(W:LL):(uW W).length=W.length:=by rw[uW,qa4,length_range]
theorem bq(h:k∈uW W):∃n,k=[n]/\n<W.length:=by
 unfold uW at h;obtain⟨n,hn,e⟩:=mem_map.mp h;exact(n,e.symm,mem_range.mp hn)
theorem pj(hM:Mach L W B):∀k∈uW W,∀q,q<L.length->gW W k q∈uW W:=λk hk q hq=>by
 obtain⟨n,rfl,hn⟩:=bq hk;refine gL.mpr ?_;show(W.getD n []).getD q 0<W.length;have e:W.getD n []=W[n]:=by rw[qa3,qa2 hn];rfl
 rw[e];obtain⟨h1,h2⟩:=hM.row W[n] (getElem_mem hn);have e2:W[n].getD q 0=W[n][q]'(by rw[h1];exact hq):=by rw[qa3,qa2 (by rw[h1];exact hq)];rfl
 rw[e2];exact h2 _ (getElem_mem _)
theorem g_s(r:Nat):∀(m:Nat)(w:LN),w.length=m->aD (gW W) L [r] w=[run L W r w]:=by
 intro m;induction m with
 |zero=>
  intro w hw;rw[length_eq_zero_iff.mp hw];rfl
 |succ m ih=>
  intro w hw;obtain⟨c,v,rfl⟩:∃c v,w=v++[c]:=(w.getLast (by intro z;rw[z]at hw;cases hw),w.dropLast,(List.dropLast_concat_getLast _).symm);rw[f_d,ih v (by simpa using hw),b_i];rfl
theorem a_n.tups(h:a_n H m L W B)(s:∀b xs,H b=some (.tup xs)->H' b=some (.tup xs)):a_n H' m L W B:=by
 obtain⟨wy,mk,rows,h1,h2,h3,h4,h5⟩:=h;exact(wy,mk,rows,s _ _ h1,s _ _ h2,s _ _ h3,h4,λi r e=>let⟨ws,a,b⟩:=h5 i r e;(ws,a,s _ _ b))
theorem a_V(s:c_A P0 H H')(hT:b_G H P0 sites):∀b xs,H b=some (.tup xs)->H' b=some (.tup xs):=λb xs e=>s b _ (λz=>by
 obtain⟨ps,hP,_⟩:=hT;rw[z,hP]at e;cases e) e
theorem b_s(a:c_A P0 H H1)(b:c_A P0 H1 H2):c_A P0 H H2:=λc o hc e=>b c o hc (a c o hc e)
theorem lz(s:Same H H'):c_A P0 H H':=λb o _ e=>s b o e
def g_h(cW P0:Addr)(sites:List (Pos×Str)):Sp:=λvs H Q _=>∃(m:Addr)(L:LN)(W:LL)(B:List Bool),vs=[.ref m]/\a_n H m L W B/\Mach L W B/\b_G H P0 sites/\
 ∀(wk t wd y md:Addr)(ks:LL)(vks:List V)(ws:LL)(rows:List Addr)(R:LL)(Bm:List Bool)(H':Hp),c_A P0 H H'->b_G H' P0 sites->e_e H' cW wk L t wd y md->H' t=some (.lst vks)->f_K .i H' ks vks->H' wd=some (.lst (b_L ws))->H' y=some (.lst (rows.map V.ref))->d_e H' rows R->H' md=some (.lst (Bm.map V.bl))->
  Bf (gW W) L [0] ks ws ks.length 0->b_C (gW W) L.length ks R->R.length=ks.length->Bm.length=R.length->(∀(r:Nat)(k:LN)(b:Bool),ks[r]?=some k->Bm[r]?=some b->b=mkW B k)->(∀k∈ks,k∈uW W)->ks.length≤W.length->Q (.ref wk) H'
end RA
namespace L2
open PySem PySem.Spec PyProof.Rows
section
variable{X:Cx}
end
end L2
namespace RA
open PySem L2
theorem nw{n:Nat}(h:n≠0):decide (V.int (n:Int)=V.int 0)=false:=decide_eq_false λz=>h (Int.ofNat_inj.mp (V.int.inj z))
theorem eP:TriplesOk (#[]:Array Value).toList:=trivial
theorem b_X(h:b_G H P0 sites)(s:Same H H'):b_G H' P0 sites:=by
 obtain⟨ps,hP,h2,h3⟩:=h;exact(ps,s _ _ hP,h2,λx hx=>(h3 x hx).imp id λhZ2=>by obtain⟨c',e1,e2⟩:=hZ2;exact(c',e1,s _ _ e2))
end RA
namespace L2
open PySem PySem.Spec PyProof.Rows
def iN(a:Addr):It:=⟨λi H=>∃xs x,H a=some (.lst xs)/\xs[i]?=some x,λi H v H'=>∃p x xs,H a=some (.lst xs)/\xs[i]?=some x/\v=.ref p/\H p=none/\H'=upd H p (.tup [.int (i:Int),x]),λi H=>∃xs,H a=some (.lst xs)/\i=xs.length⟩
theorem gT{K:Frag}(a e it:Addr)(hne:e≠it):bU P w K (.Tuple es kt pt) (iN a) [e,it] e (λi h=>(∃old,IsEnum h e it i old)/\h.IsListIter it a i)  where
 mem:=by simp
 obj:=λi h hZ0 c hc=>by
  obtain⟨⟨old,he⟩,⟨o1,e1,_,d1⟩⟩:=hZ0;simp only[mem_cons,not_mem_nil,or_false]at hc;rcases hc with rfl|rfl
  .exact (_,he,λv q=>by cases q)
  .exact (o1,e1,λv q=>by rw[d1]at q;cases q)
 keep:=λi h h' hZ1 k=>by obtain⟨⟨old,he⟩,⟨o1,e1,r1⟩⟩:=hZ1;exact((old,k e (by simp) _ he),(o1,k it (by simp) _ e1,r1))
 item:=by
  rintro X hP hw hK hc i pins s σ H E I hf⟨⟨old,he⟩,s1⟩hg;subst hP hw hK;obtain⟨xs,x,hq,hx⟩:=hg;obtain⟨its,rv,p,hz⟩:=I.list (SqL.of hq);obtain⟨u,hu,ru⟩:=rv.get hx;have p':s.heap.IsList a its.toArray:=p.isList;have hlt:i<its.toArray.size:=by
   have:=(qa1 hu).1;simpa using this
  have hat:a≠it:=by
   obtain⟨o,e1,c1,_⟩:=p';obtain⟨o2,e2,c2,_⟩:=s1;rintro rfl;rw[e1]at e2;cases e2;rw[c1]at c2;exact absurd c2 (by decide)
  have hae:e≠a:=by
   obtain⟨o,e1,c1,_⟩:=p';rintro rfl;have he':s.heap.get? e=some _:=he;rw[e1]at he';cases he';exact absurd (show Value.type "enumerate"=Value.type "list" from c1) (by decide)
  refine wpAny_pyNext_enum_itemD (Draws.list (prog:=X.prog) (w:=X.w) (A:=X.A.in1) (I.ok.hd hc) it a hat its.toArray) he (s1,p') hlt hne (by simp[hne,hae]) λv g tk pv ho st new hsz gk=>(_,rfl,?_);have ev:v=u:=by
   have:its.toArray[i]?=some v:=pv;rw[getElem?_toArray,hu]at this;exact(Option.some.inj this).symm
  subst ev;refine wpAny_letOwnedTupleGo_enum (s:={s with heap:=g,toks:=tk+1}) ho λg' ge gs=>?_;have up:∀b o,b≠e->g.get? b=some o->g'.get? b=some o:=λb o hb q=>(gs.2 b hb).trans q;have ne:s.heap.objs.size≠e:=ne_of_gt (lt_size he);have tup:a_L X.prog X.w (upd H s.heap.objs.size (.tup [.int (i:Int),x])) g' s.heap.objs.size (.tup [.int (i:Int),x]):=
   (a_j (by show 2≤16777216;decide),[.int i tk,v],.cons (_,rfl) (.cons ru .nil),(_,up _ _ ne new,rfl,0,rfl))
  refine(.ref s.heap.objs.size,_,I.turnedNew (S:=[e,it]) (h':=g') (t':=tk+1) (λb o hb q=>up b o (λz=>hb (by simp[z])) (gk b o (λz=>hb (by simp[z])) (λz=>hb (by simp[z])) q)) hf tup,rfl,
   (_,x,xs,hq,hx,rfl,I.hok.fresh (le_refl _),rfl),((_,by rw[Int.natCast_succ];exact ge),st.1.at λo q=>up _ o (λz=>hne z.symm) q),λb hb=>?_)
  have lt:b<s.heap.objs.size:=by
   obtain⟨o1,e1,_⟩:=s1;simp only[mem_cons,not_mem_nil,or_false]at hb;rcases hb with rfl|rfl
   .exact lt_size he
   .exact lt_size e1
  rw[upd_ne (ne_of_lt lt)];exact(hf b hb).1
 done:=by
  rintro X hP hw hK hc i pins s σ H E I hf⟨⟨old,he⟩,s1⟩hstop;subst hP hw hK;obtain⟨xs,hq,rfl⟩:=hstop;obtain⟨its,rv,p,hz⟩:=I.list (SqL.of hq);have p':s.heap.IsList a its.toArray:=p.isList;have hat:a≠it:=by
   obtain⟨o,e1,c1,_⟩:=p';obtain⟨o2,e2,c2,_⟩:=s1;rintro rfl;rw[e1]at e2;cases e2;rw[c1]at c2;exact absurd c2 (by decide)
  have hsz:xs.length=its.toArray.size:=by rw[rv.length];simp
  refine wpAny_pyNext_enum_endD (Draws.list (prog:=X.prog) (w:=X.w) (A:=X.A.in1) (I.ok.hd hc) it a hat its.toArray) he (by rw[<-hsz];exact s1,p') λg gs=>(rfl,?_);exact I.turnedL (S:=[e,it]) (λb o hb q=>gs b o (λz=>hb (by simp[z])) q) hf
 self:=λ_ _ _ _ _ st h=>by
  obtain⟨⟨old,he⟩,_⟩:=st;exact wpAny_pyIter_enum he h
def iC(t:TA):TI:=λσ H R=>t σ H λvs H1=>∃a xs,vs=[.ref a]/\((H1 a=some (.tup xs)/\R (ph a) H1)\/(H1 a=some (.lst xs)/\R (iN a) H1))
theorem e_K{es:List Expr}{kt:Nat}{pt:Pos}{p pos:Pos}(hg:Gl X "enumerate")(hm:X.mg "enumerate"=none)(ha:PA X [a] ta)(hs:starEach [a] X.env=(false,eval a X.env,)::starEach [] X.env:=by rfl)(hpl:(backTo pos (starEach [] X.env)).any (·.1)=false:=by rfl):PI X (.Tuple es kt pt) (.Call (.Name "enumerate" p) [a] [] pos) (iC ta):=by
 intro pins s σ H R I h;refine wpAny_Call_Name_kw (ld_blt I hg hm PyProof.Rows.boot_enumerate (PyProof.Rows.callWith_type1 (thn (ha pos pins s σ H _ I h) λus s1 z=>?_) hs hpl));obtain⟨vs,H1,I1,r1,b,xs,rfl,z⟩:=z;obtain⟨u1,rfl,r2⟩:=e_h r1;cases r2;have fp:∀c∈[s1.heap.objs.size+1,s1.heap.objs.size],aZ X pins H1 c:=λc hc=>by
  have hge:s1.heap.objs.size≤c:=by
   simp only[mem_cons,not_mem_nil,or_false]at hc;rcases hc with rfl|rfl
   .exact le_add_right _ _
   .exact le_refl _
  exact I1.fpOk hge (I1.hok.fresh hge)
 rcases z with⟨hq,q⟩|⟨hq,q⟩
 .obtain ⟨its,rv,pp,hz⟩:=I1.tuple (SqT.of hq);refine iL (show s1.heap.IsTuple b its.toArray from pp) λg ge gi gk=>wpAny_pyIter_enum (s:={s1 with heap:=g}) ge ?_;exact(_,[s1.heap.objs.size+1,s1.heap.objs.size],_,ph b,H1,rfl,I1.kept (t':=s1.toks) gk,gR b _ _ (neA (by omega)),((_,ge),gi),fp,q)
 .obtain ⟨its,rv,pp,hz⟩:=I1.list (SqL.of hq);refine call_enumerate_list pp.isList λg ge gi gz gk=>wpAny_pyIter_enum (s:={s1 with heap:=g}) ge ?_;exact(_,[s1.heap.objs.size+1,s1.heap.objs.size],_,iN b,H1,rfl,I1.kept (t':=s1.toks) gk,gT b _ _ (neA (by omega)),((_,ge),gi),fp,q)
theorem gu{K:Frag}{σ:St}(hH:H c=some (.lst xs))(Pv:Addr->Nat->List V->Hp->Prop)(hz:xs.length≤sizeLine)(h0:∀D,H D=none->Pv D 0 [] (upd H D (.lst [])))(hs:∀(D:Addr)(i:Nat)(x:V)(ys:List V)(H' H3:Hp)(R1:VK),H D=none->xs[i]?=some x->Same H H'->H' D=some (.lst ys)->Pv D i ys H'->Same H' H3->
   (∀y H5,H5 D=some (.lst ys)->Same H (upd H5 D (.lst (ys++[y])))->Pv D (i+1) (ys++[y]) (upd H5 D (.lst (ys++[y])))->R1 y H5)->te (some (.int (i:Int))::some x::σ) H3 R1)(hq:∀D ys H',H D=none->Same H H'->H' D=some (.lst ys)->Pv D xs.length ys H'->Q (.ref D) H'):iQ K (iN c) te σ H Q:=by
 refine e_s (n:=xs.length) (λi a b=>a=.int (i:Int)/\xs[i]?=some b) Pv hz (λi H2 s h=>(xs,xs[i],s _ _ hH,qa2 h)) ?_ (λH2 s=>(xs,s _ _ hH,rfl)) h0 ?_ hq
 .rintro i H2 x H3 s h⟨p,y,zs,e1,e2,e3,e4,e5⟩;rw[s _ _ hH]at e1;cases e1;exact(p,_,y,e3,(rfl,e2),e4,e5)
 .rintro D i a b ys H' H3 R1 hD hi⟨rfl,hb⟩a1 a2 a3 a4 a5;exact hs D i b ys H' H3 R1 hD hb a1 a2 a3 a4 a5
end L2
namespace RA
open PySem L2
theorem gt{σ:St}(ht:∀R:List V->Hp->Prop,R [.ref c] H->t σ H R)(ho:o=.lst xs\/o=.tup xs)(hH:H c=some o)(Pv:Addr->Nat->List V->Hp->Prop)(hz:xs.length≤sizeLine)(h0:∀D,H D=none->Pv D 0 [] (L2.upd H D (.lst [])))(hs:∀(D:Addr)(i:Nat)(x:V)(ys:List V)(H' H3:Hp)(R1:VK),H D=none->xs[i]?=some x->Same H H'->H' D=some (.lst ys)->Pv D i ys H'->Same H' H3->
   (∀y H5,H5 D=some (.lst ys)->Same H (L2.upd H5 D (.lst (ys++[y])))->Pv D (i+1) (ys++[y]) (L2.upd H5 D (.lst (ys++[y])))->R1 y H5)->te (some (.int (i:Int))::some x::σ) H3 R1)(hq:∀D ys H',H D=none->Same H H'->H' D=some (.lst ys)->Pv D xs.length ys H'->Q (.ref D) H'):gZ K (iC t) te σ H Q:=by
 refine ht _ (c,xs,rfl,?_);rcases ho with rfl|rfl
 .exact .inr (hH,gu (K:=K) hH Pv hz h0 hs hq)
 .exact .inl (hH,iI (K:=K) hH Pv hz h0 hs hq)
end RA
namespace L2
open PySem PySem.Spec PyProof.Rows
section
variable{X:Cx}
theorem kP(hc:X.calm=true):d_f X (.builtin "max") (λxs H Q=>∃(a:Addr)(ns:List Int),xs=[V.ref a]/\H a=some (.lst (ns.map V.int))/\0<ns.length/\∀M∈ns,(∀x∈ns,x≤M)->Q (.int M) H):=by
 intro pins s σ H xs us Q I r h;obtain⟨a,ns,rfl,ha,hn,q⟩:=h;obtain⟨u1,rfl,r1⟩:=e_h r;cases r1;obtain⟨its,rv,p,hz⟩:=I.list (SqL.of ha);have hi:=fJ rv;have hl:s.heap.IsList a its.toArray:=p.isList;obtain⟨xs,e⟩:=hi.allInts.items;have hns:ns=xs.toList.map (·.1):=by rw[<-hi.numsOf,<-nums_intItems,<-e]
 have hsz:0<xs.size:=by
  rw[hns,qa4,length_toList]at hn;exact hn
 rw[e]at hl;refine max_intList (I.ok.hd hc) hl hsz λv h' tk hv hk=>?_;obtain⟨t,rfl⟩:=intItems_at hv;obtain⟨h1,h2⟩:=argBest_gt (numAt xs) (xs.size-1);refine(.int _,H,I.kept hk,(t,rfl),q _ ?_ λx hx=>?_)
 .rw [hns,numAt_eq];exact PySem.getD_mem (by rw[qa4,length_toList];omega)
 .rw [hns]at hx;obtain⟨j,hj⟩:=mem_iff_getElem?.mp hx;have hjl:=(qa1 hj).1;rw[qa4,length_toList]at hjl;have:=h2 j (by omega);have e2:numAt xs j=x:=by
   rw[numAt_eq,qa3,hj];rfl
  rw[<-e2];exact this
def rIndexI:V->List V->Hp->VK->Prop:=λx vs H Q=>∃(l:Addr)(ns:List Int)(n:Int),x=.ref l/\vs=[.int n]/\H l=some (.lst (ns.map V.int))/\n∈ns/\Q (.int (ns.idxOf n:Nat)) H
theorem kn:MtM X "list.index" rIndexI:=by
 intro pins s σ H x vs v us Q I rx rv h;obtain⟨l,bs,n0,rfl,rfl,hH,hm,q⟩:=h;cases rx;obtain⟨u,rfl,ru⟩:=rv.one;obtain⟨t0,rfl⟩:=(show ∃t,u=Value.int n0 t from ru);obtain⟨z,its,n,r,hl,e⟩:=I.lstM hH;have hlen:its.length=bs.length:=by rw[<-r.length,qa4]
 have hlt:bs.idxOf n0<bs.length:=idxOf_lt_length_of_mem hm;have at_:∀(j:Nat)(hj:j<its.toArray.size),∃(hb:j<bs.length)(t:Tok),its.toArray[j]=.int bs[j] t:=λj hj=>by
  have hb:j<bs.length:=by simpa[hlen]using hj
  refine(hb,?_);obtain⟨a,ea,ra⟩:=r.get (i:=j) (x:=.int bs[j]) (by rw[qa6,qa2 hb];rfl);obtain⟨t,rfl⟩:=(show ∃t,a=Value.int bs[j] t from ra);obtain⟨_,q⟩:=qa1 ea;exact(t,by simpa using q)
 have hsm:((bs.idxOf n0:Nat):Int)<2^63-1:=by
  have h9:(bs.map V.int).length≤sizeLine:=(I.lst hH).choose_spec.choose_spec.2.2;rw[qa4,sizeLine_eq]at h9;omega
 refine call_meets F.slot_list_index (_,e,rfl) F.entry_list_index (F.args_list_index_2 _ _) (SeqAt.list_indexAt l its.toArray n none #[] (.int n0 t0) (λy=>match y with|.int b _=>b==n0|_=>false) (bs.idxOf n0) (by simpa[hlen]using hlt) hsm ?_ ?_) (e,?_,(.int _,H,I.tok _,(_,rfl),q))
 .obtain ⟨hb,t,e1⟩:=at_ (bs.idxOf n0) (by simpa[hlen]using hlt);rw[e1];show(bs[bs.idxOf n0]==n0)=true;rw[getElem_idxOf hb];exact beq_self_eq_true n0
 .intro m hm2 hlt2;obtain⟨hb,t,e1⟩:=at_ m hm2;rw[e1];show(bs[m]==n0)=false;by_cases hbm:bs[m]=n0
  .have:=RA.d_Y (l:=bs) (c:=n0) (i:=m) (by rw[qa2 hb,hbm]);omega
  .exact beq_eq_false_iff_ne.mpr hbm
 .intro y hy;obtain⟨j,hj,rfl⟩:=Array.mem_iff_getElem.mp hy;obtain⟨hb,t,e1⟩:=at_ j hj;rw[e1];exact SeqAt.EqAt.int_int _ _ _ _
theorem dB(K:Frag)(he:PE X e ta)(hb:attributeBase e f X.env (eval e X.env)=eval e X.env)(hK:X.K=K:=by rfl):PE X (.Attribute e f pos) (rc K ta f):=by
 subst hK;exact a_X he hb
theorem j0{apos cpos:Pos}(K:Frag)(ho:PE X o to)(ha:PA X [e] t)(hK:X.K=K:=by rfl)(hbase:attributeBase o "index" X.env (eval o X.env)=eval o X.env:=by rfl)(hfew:((backTo cpos (starEach [e] X.env)).all (λx=>!x.1)&&(backToKw cpos (keywordEach [] X.env)).all (λx=>x.1.isSome)
   && decide ([e].length+([]:List Keyword).length+(if ([]:List Keyword).isEmpty then 0 else 1)<30))=true:=by rfl)(hline:(apos.endLine==cpos.line)=true:=by rfl)(hs:starEach [e] X.env=(false,eval e X.env,)::starEach [] X.env:=by rfl)(hplain:(backTo cpos (starEach [] X.env)).any (·.1)=false:=by rfl):PE X (.Call (.Attribute o "index" apos) [e] [] cpos) (tBM K "list" rIndexI to t):=by
 subst hK;exact i9 plainAttrs_list PySem.F.slot_list_index PySem.F.type_list_index kn ho ha hbase hfew hline hs hplain
end
end L2
namespace RA
open PySem L2
def pN(H:Hp)(rows:List Addr)(W:LL):Prop:=∀(i:Nat)(r:Addr),rows[i]?=some r->∃ws,W[i]?=some ws/\∃o,(o=.lst (intsV ws)\/o=.tup (intsV ws))/\H r=some o
theorem mG:∀{ns:LN},0<ns.length->∃M∈ns,∀x∈ns,x≤M
 |[],h=>by simp at h
 |[a],_=>(a,by simp,λx hx=>by rw[qb1 hx];exact le_refl _)
 |a::b::r,_=>by
  obtain⟨M,h1,h2⟩:=mG (ns:=b::r) (by simp);by_cases h:a≤M
  .exact (M,mem_cons_of_mem _ h1,λx hx=>by
    rcases mem_cons.mp hx with rfl|z
    .exact h
    .exact h2 x z)
  .exact (a,by simp,λx hx=>by
    rcases mem_cons.mp hx with rfl|z
    .exact le_refl _
    .have:=h2 x z;omega)
theorem lc(n:Nat):∀(l:LN),(zs l).idxOf (n:Int)=l.idxOf n
 |[]=>rfl
 |x::l=>by
  show((x:Int)::zs l).idxOf (n:Int)=_;rw[idxOf_cons,idxOf_cons,lc n l];by_cases h:x=n
  .rw [h];simp
  .rw [beq_eq_false_iff_ne.mpr h,beq_eq_false_iff_ne.mpr (λe=>h (Int.ofNat_inj.mp e))]
end RA
namespace RA
section
variable{κ:Type}[DecidableEq κ]
theorem e_P:∀(ks acc:List κ),∃r,ay acc ks=acc++r
 |[],acc=>([],(append_nil acc).symm)
 |a::ks,acc=>by
  show ∃r,ay (if a∈acc then acc else acc++[a]) ks=acc++r;by_cases h:a∈acc
  .rw [if_pos h];exact e_P ks acc
  .rw [if_neg h];obtain⟨r,e⟩:=e_P ks (acc++[a]);exact([a]++r,by rw[e,append_assoc])
theorem dY:∀(ks acc:List κ),acc.Nodup->(ay acc ks).Nodup
 |[],_,h=>h
 |a::ks,acc,h=>by
  show(ay (if a∈acc then acc else acc++[a]) ks).Nodup;by_cases hm:a∈acc
  .rw [if_pos hm];exact dY ks acc h
  .rw [if_neg hm];refine dY ks _ ?_;rw[List.nodup_append];refine(h,by simp,λx hx y hy e=>?_);rw[qb1 hy]at e;rw[e]at hx;exact hm hx
theorem nu(ks:List κ):(dis ks).Nodup:=dY ks [] List.nodup_nil
theorem mD{ks:List κ}(h:0<ks.length):(ao ks).getD 0 0=0:=by
 cases ks with
 |nil=>simp at h
 |cons k ks=>
  rw[d_U (k:=k) rfl];obtain⟨r,e⟩:=e_P ks [k];have:dis (k::ks)=[k]++r:=by
   show ay (if k∈[]then[]else[]++[k]) ks=_;rw[if_neg (by simp)];exact e
  rw[this];simp
theorem ci{ks:List κ}{M j:Nat}(h:M∈ao ks)(hj:j≤M):j∈ao ks:=by
 obtain⟨k,hk,rfl⟩:=mem_map.mp h;have hl:j<(dis ks).length:=lt_of_le_of_lt hj (idxOf_lt_length_of_mem (mem_dis.mpr hk));have hm:(dis ks)[j]∈ks:=mem_dis.mp (getElem_mem hl);refine mem_map.mpr ((dis ks)[j],hm,?_);have nd:=nu ks;have h2:(dis ks).idxOf (dis ks)[j]<(dis ks).length:=idxOf_lt_length_of_mem (getElem_mem hl);exact(getElem_inj nd).mp (getElem_idxOf h2)
end
section
variable{L:LN}{W:LL}{B:List Bool}{k:Nat}
theorem qN(h:Mach L W B):(Rd W B k).getD 0 0=0:=by
 cases k with
 |zero=>exact mD (by rw[h.bl];exact h.n1)
 |succ k=>exact mD (by rw[a_v];exact h.n1)
theorem jB(h:M∈Rd W B k)(hj:j≤M):j∈Rd W B k:=by
 cases k with
 |zero=>exact ci h hj
 |succ k=>exact ci h hj
end
def a_N(R:LL)(lots:LN)(m:Nat):LL:=(List.range m).map λj=>(R.getD (lots.idxOf j) []).map λg=>lots.getD g 0
def d_d(Bm:List Bool)(lots:LN)(m:Nat):List Bool:=(List.range m).map λj=>Bm.getD (lots.idxOf j) false
theorem cF(h:j<m):(a_N R lots m).getD j []=(R.getD (lots.idxOf j) []).map λg=>lots.getD g 0:=by
 rw[a_N,qa3,qa6,getElem?_range h];rfl
theorem kL(h:j<m):(d_d Bm lots m).getD j false=Bm.getD (lots.idxOf j) false:=by
 rw[d_d,qa3,qa6,getElem?_range h];rfl
structure aL(lots:LN)(m:Nat):Prop where
 pos:0<m
 lt:∀x∈lots,x<m
 has:∀j<m,j∈lots
section
variable{L:LN}{R:LL}{Bm:List Bool}{k m:Nat}
theorem kJ{l:LN}(h:i<l.length):l.getD i 0∈l:=by
 rw[qa3,qa2 h];exact getElem_mem h
theorem c_p(hm:aL (Rd R Bm k) m)(hMa:Mach L R Bm)(hj:j<m):(Rd R Bm k).idxOf j<R.length/\lot R Bm k ((Rd R Bm k).idxOf j)=j:=by
 have h1:=idxOf_lt_length_of_mem (hm.has j hj);refine(by rw[c_d hMa]at h1;exact h1,?_);rw[lot,qa3,qa2 h1];exact getElem_idxOf h1
theorem io(hm:aL (Rd R Bm k) m)(hMa:Mach L R Bm)(hr:r<R.length):lot R Bm k r<m:=hm.lt _ (kJ (by rw[c_d hMa];exact hr))
theorem b_V(hm:aL (Rd R Bm k) m)(hMa:Mach L R Bm):Mach L (a_N R (Rd R Bm k) m) (d_d Bm (Rd R Bm k) m) where
 lt:=hMa.lt
 n1:=by rw[a_N,qa4,length_range];exact hm.pos
 n60:=by
  rw[a_N,qa4,length_range];have h1:=bQ hMa (hm.has (m-1) (by have:=hm.pos;omega));have:=hMa.n60;omega
 bl:=by rw[d_d,a_N,qa4,qa4]
 row:=λws h=>by
  rw[a_N]at h;obtain⟨j,hj,rfl⟩:=mem_map.mp h;have hj:=mem_range.mp hj;obtain⟨h1,h2⟩:=c_l hMa (c_p hm hMa hj).1;refine(by rw[qa4];exact h1,λx hx=>?_);obtain⟨g,hg,rfl⟩:=mem_map.mp hx;rw[a_N,qa4,length_range];exact io hm hMa (h2 g hg)
theorem m6(hm:aL (Rd R Bm k) m)(hMa:Mach L R Bm):(a_N R (Rd R Bm k) m).length≤R.length:=by
 rw[a_N,qa4,length_range];have h1:=bQ hMa (hm.has (m-1) (by have:=hm.pos;omega));omega
theorem m5(hm:aL (Rd R Bm k) m)(hMa:Mach L R Bm)(st:Rd R Bm (k+1)=Rd R Bm k)(hr:r<R.length)(hc:c∈L):nxt L (a_N R (Rd R Bm k) m) (lot R Bm k r) c=lot R Bm k (nxt L R r c):=by
 have hi:L.idxOf c<L.length:=idxOf_lt_length_of_mem hc;have hj:=io hm hMa hr;obtain⟨f1,f2⟩:=c_p hm hMa hj;have e1:lot R Bm (k+1) ((Rd R Bm k).idxOf (lot R Bm k r))=lot R Bm (k+1) r:=by
  show(Rd R Bm (k+1)).getD _ 0=(Rd R Bm (k+1)).getD _ 0;rw[st];exact f2
 have e2:=((c_v hMa f1 hr).mp e1).2 _ hi;unfold nxt;rw[cF hj];have hl:L.idxOf c<(R.getD ((Rd R Bm k).idxOf (lot R Bm k r)) []).length:=by rw[(c_l hMa f1).1];exact hi
 rw[qa3,qa6,qa2 hl];show(Rd R Bm k).getD _ 0=_;have e3:goal R ((Rd R Bm k).idxOf (lot R Bm k r)) (L.idxOf c)=(R.getD ((Rd R Bm k).idxOf (lot R Bm k r)) [])[L.idxOf c]:=by
  rw[goal,qa3 (l:=R.getD _ []),qa2 hl];rfl
 rw[<-e3];exact e2
theorem c_b(hm:aL (Rd R Bm k) m)(hMa:Mach L R Bm)(st:Rd R Bm (k+1)=Rd R Bm k):∀{w:LN}{r:Nat},r<R.length->(∀c∈w,c∈L)->run L (a_N R (Rd R Bm k) m) (lot R Bm k r) w=lot R Bm k (run L R r w)
 |[],_,_,_=>rfl
 |c::w,r,hr,hw=>by
  have hc:c∈L:=hw c (by simp);show run L (a_N R (Rd R Bm k) m) (nxt L (a_N R (Rd R Bm k) m) (lot R Bm k r) c) w=lot R Bm k (run L R (nxt L R r c) w);rw[m5 hm hMa st hr hc];exact c_b hm hMa st (b_E hMa hr (idxOf_lt_length_of_mem hc)) λd hd=>hw d (by simp[hd])
theorem c_M(hm:aL (Rd R Bm k) m)(hMa:Mach L R Bm)(hr:r<R.length):(d_d Bm (Rd R Bm k) m).getD (lot R Bm k r) false=Bm.getD r false:=by
 have hj:=io hm hMa hr;obtain⟨f1,f2⟩:=c_p hm hMa hj;rw[kL hj];exact(fq hMa f1 hr).mp (mJ hMa f1 hr (zero_le k) f2)
theorem b_K(hm:aL (Rd R Bm k) m)(hMa:Mach L R Bm)(st:Rd R Bm (k+1)=Rd R Bm k)(hw:∀c∈w,c∈L):(d_d Bm (Rd R Bm k) m).getD (run L (a_N R (Rd R Bm k) m) 0 w) false=Bm.getD (run L R 0 w) false:=by
 have e:lot R Bm k 0=0:=qN hMa;have:=c_b hm hMa st hMa.n1 hw;rw[e]at this;rw[this];exact c_M hm hMa (b_A hMa hMa.n1 hw)
end
section
variable{L:LN}{W:LL}{B:List Bool}{ks ws R:LL}{Bm:List Bool}
theorem jF(hMa:Mach L W B)(bf:Bf (gW W) L [0] ks ws ks.length 0)(ways:b_C (gW W) L.length ks R)(hR:R.length=ks.length)(bl:Bm.length=R.length)(le:ks.length≤W.length):Mach L R Bm where
 lt:=hMa.lt
 n1:=by rw[hR];exact(qa1 bf.t0).1
 n60:=by rw[hR];exact le_trans le hMa.n60
 bl:=bl
 row:=λr hr=>by
  obtain⟨i,hi⟩:=mem_iff_getElem?.mp hr;have hil:i<ks.length:=by rw[<-hR];exact(qa1 hi).1
  obtain⟨h1,h2⟩:=ways.row i r _ hi (qa2 hil);refine(h1,λx hx=>?_);obtain⟨q,hq⟩:=mem_iff_getElem?.mp hx;rw[hR];exact(qa1 (h2 q x hq)).1
theorem g_f(hMa:Mach L W B)(bf:Bf (gW W) L [0] ks ws ks.length 0)(ways:b_C (gW W) L.length ks R)(hR:R.length=ks.length):∀(n:Nat)(w:LN),w.length=n->(∀c∈w,c∈L)->ks[run L R 0 w]?=some [run L W 0 w]:=by
 intro n;induction n with
 |zero=>
  intro w hw _;rw[length_eq_zero_iff.mp hw];exact bf.t0
 |succ n ih=>
  intro w hw hL;obtain⟨c,v,rfl⟩:∃c v,w=v++[c]:=(w.getLast (by intro z;rw[z]at hw;cases hw),w.dropLast,(List.dropLast_concat_getLast _).symm);have h1:=ih v (by simpa using hw) λx hx=>hL x (by simp[hx]);have hc:L.idxOf c<L.length:=idxOf_lt_length_of_mem (hL c (by simp));have hr:run L R 0 v<R.length:=by rw[hR];exact(qa1 h1).1
  obtain⟨e1,e2⟩:=ways.row _ _ _ (qa2 hr) h1;have e3:=e2 (L.idxOf c) _ (qa2 (by rw[e1];exact hc));rw[b_i,b_i];have e4:nxt L R (run L R 0 v) c=R[run L R 0 v][L.idxOf c]'(by rw[e1];exact hc):=by
   unfold nxt;rw[qa3 (l:=R),qa2 hr];show(R[run L R 0 v]).getD _ 0=_;rw[qa3,qa2 (by rw[e1];exact hc)];rfl
  rw[e4];exact e3
theorem gJ(hMa:Mach L W B)(bf:Bf (gW W) L [0] ks ws ks.length 0)(ways:b_C (gW W) L.length ks R)(hR:R.length=ks.length)(bl:Bm.length=R.length)(mks:∀(r:Nat)(k:LN)(b:Bool),ks[r]?=some k->Bm[r]?=some b->b=mkW B k)(hw:∀c∈w,c∈L):Bm.getD (run L R 0 w) false=B.getD (run L W 0 w) false:=by
 have h1:=g_f hMa bf ways hR _ w rfl hw;have hr:run L R 0 w<Bm.length:=by rw[bl,hR];exact(qa1 h1).1
 rw[qa3,qa2 hr];exact mks _ _ _ h1 (qa2 hr)
end
def b_v(L:LN)(W:LL)(B:List Bool)(W':LL)(B':List Bool):Prop:=
 ∃(ks ws R:LL)(Bm:List Bool)(k m:Nat),Bf (gW W) L [0] ks ws ks.length 0/\b_C (gW W) L.length ks R/\R.length=ks.length/\Bm.length=R.length/\(∀(r:Nat)(k:LN)(b:Bool),ks[r]?=some k->Bm[r]?=some b->b=mkW B k)/\(∀k∈ks,k∈uW W)/\ks.length≤W.length/\
  Mach L R Bm/\Rd R Bm (k+1)=Rd R Bm k/\aL (Rd R Bm k) m/\W'=a_N R (Rd R Bm k) m/\B'=d_d Bm (Rd R Bm k) m
theorem b_v.mach(h:b_v L W B W' B'):Mach L W' B':=by
 obtain⟨ks,ws,R,Bm,k,m,_,_,_,_,_,_,_,hMa,_,hm,rfl,rfl⟩:=h;exact b_V hm hMa
theorem b_v.len(h:b_v L W B W' B'):W'.length≤W.length:=by
 obtain⟨ks,ws,R,Bm,k,m,_,_,hR,_,_,_,le,hMa,_,hm,rfl,rfl⟩:=h;have:=m6 hm hMa;omega
theorem b_v.takes(h:b_v L W B W' B')(hMa0:Mach L W B)(hw:∀c∈w,c∈L):B'.getD (run L W' 0 w) false=B.getD (run L W 0 w) false:=by
 obtain⟨ks,ws,R,Bm,k,m,bf,ways,hR,bl,mks,_,le,hMa,st,hm,rfl,rfl⟩:=h;rw[b_K hm hMa st hw];exact gJ hMa0 bf ways hR bl mks hw
end RA
namespace L2
open PySem PySem.Spec PyProof.Rows
theorem kS(hc:X.calm=true):d_f X (.builtin "all") (λxs H Q=>∃(a:Addr)(bs:List Bool),xs=[V.ref a]/\H a=some (.lst (bs.map V.bl))/\(∀b∈bs,b=true)/\Q (.bl true) H):=by
 intro pins s σ H xs us Q I r h;obtain⟨a,bs,rfl,ha,hb,q⟩:=h;obtain⟨u1,rfl,r1⟩:=e_h r;cases r1;obtain⟨its,rv,p,hz⟩:=I.list (SqL.of ha);have hl:s.heap.IsList a its.toArray:=p.isList;have hlt:a<s.heap.objs.size:=by
  obtain⟨o,e,_⟩:=hl;exact lt_size e
 refine call_all_walk (wpAny_pyIter_list hl ?_);refine(s.heap.objs.size,_,_,_,_,_,λ_=>true,rfl,Walks.list (prog:=X.prog) (w:=X.w) (A:=X.A.in1) (I.ok.hd hc) s.heap.objs.size a (ne_of_lt hlt) its.toArray,((_,get?_push_size _ rfl,rfl,rfl),hl.at λo e=>qa9 _ e),?_,λh' tk hk=>?_)
 .intro i v s' Q' E' hv hQ;have hi:i<bs.length:=by
   have:=(Array.getElem?_eq_some_iff.mp hv).1;have h2:=rv.length;rw[qa4]at h2;simp at this;omega
  obtain⟨y,ey,ry⟩:=rv.get (i:=i) (x:=.bl bs[i]) (by rw[qa6,qa2 hi];rfl);have:v=y:=by
   have hv':its.toArray[i]?=some v:=hv;rw[getElem?_toArray,ey]at hv';exact(Option.some.inj hv').symm
  subst this;cases ry;have hbt:=hb _ (getElem_mem hi);rw[hbt];exact wpAny_truthy_bool hQ
 .have e:(List.range its.toArray.size).all (λ_=>true)=true:=by simp
  rw[e];exact(.bl true,H,I.kept (t':=tk) λb o eb=>hk b o (by simp;exact ne_of_lt (lt_size eb)) (qa9 _ eb),rfl,q)
end L2
namespace RA
open PySem L2
end RA
namespace RA
section
variable{κ:Type}[DecidableEq κ]
theorem gm:∀(a b acc:List κ),ay acc (a++b)=ay (ay acc a) b
 |[],_,_=>rfl
 |x::a,b,acc=>gm a b _
theorem f_V{ks:List κ}{i j:Nat}(hi:i<ks.length)(hj:j<(ao ks).getD i 0):∃i1,i1<i/\(ao ks).getD i1 0=j:=by
 have hk:ks[i]?=some ks[i]:=qa2 hi;rw[d_U hk]at hj;obtain⟨r,hr⟩:=e_P (ks.drop (i+1)) (dis (ks.take (i+1)));have hd:dis ks=dis (ks.take (i+1))++r:=by
  have:=gm (ks.take (i+1)) (ks.drop (i+1)) [];rw[List.take_append_drop]at this;exact this.trans hr
 have hm:ks[i]∈ks.take (i+1):=by
  rw[mem_iff_getElem?];exact(i,by rw[List.getElem?_take,if_pos (lt_succ_self i)];exact hk)
 have hm2:ks[i]∈dis (ks.take (i+1)):=mem_dis.mpr hm;rw[hd,idx_app hm2]at hj;have hl:=idxOf_lt_length_of_mem hm2;have hjl:j<(dis (ks.take (i+1))).length:=lt_trans hj hl;obtain⟨i1,e1⟩:=mem_iff_getElem?.mp (mem_dis.mp (getElem_mem hjl));have h1:i1<i+1:=by
  have:=(qa1 e1).1;rw[length_take]at this;omega
 rw[List.getElem?_take,if_pos h1]at e1;have nd:=nu (ks.take (i+1));have e3:(dis (ks.take (i+1))).idxOf (dis (ks.take (i+1)))[j]=j:=by
  have h2:(dis (ks.take (i+1))).idxOf (dis (ks.take (i+1)))[j]<(dis (ks.take (i+1))).length:=idxOf_lt_length_of_mem (getElem_mem hjl);exact(getElem_inj nd).mp (getElem_idxOf h2)
 have e2:(dis ks).idxOf (dis (ks.take (i+1)))[j]=j:=by
  rw[hd,idx_app (getElem_mem hjl)];exact e3
 refine(i1,?_,by rw[d_U e1];exact e2);by_cases h:i1=i
 .rw [h,hk]at e1;have e4:=Option.some.inj e1;rw[<-e4]at e3;omega
 .omega
end
section
variable{L:LN}{R:LL}{Bm:List Bool}{k m:Nat}
theorem nQ(hMa:Mach L R Bm)(hi:i<R.length)(hj:j<lot R Bm k i):∃i1,i1<i/\lot R Bm k i1=j:=by
 cases k with
 |zero=>exact f_V (by rw[hMa.bl];exact hi) hj
 |succ k=>exact f_V (by rw[a_v];exact hi) hj
theorem jp(hm:aL (Rd R Bm k) m)(hMa:Mach L R Bm)(hab:a<b)(hb:b<m):(Rd R Bm k).idxOf a<(Rd R Bm k).idxOf b:=by
 obtain⟨f1,f2⟩:=c_p hm hMa hb;obtain⟨i1,h1,h2⟩:=nQ hMa f1 (by rw[f2];exact hab);refine lt_of_le_of_lt (d_Y (i:=i1) ?_) h1;have hl:i1<(Rd R Bm k).length:=by rw[c_d hMa];omega
 rw[qa2 hl];rw[lot,qa3,qa2 hl]at h2;exact congrArg some h2
theorem pI(hMa:Mach L R Bm)(hi:i<R.length):(Rd R Bm k).idxOf (lot R Bm k i)≤i:=by
 have hl:i<(Rd R Bm k).length:=by rw[c_d hMa];exact hi
 refine d_Y ?_;rw[lot,qa3,qa2 hl];rfl
theorem d_V(hMa:Mach L R Bm):∀(k:Nat){r s:Nat},r<R.length->s<R.length->(∀u:LN,(∀c∈u,c∈L)->Bm.getD (run L R r u) false=Bm.getD (run L R s u) false)->lot R Bm k r=lot R Bm k s
 |0,r,s,hr,hs,h=>(fq hMa hr hs).mpr (h [] λc hc=>by simp at hc)
 | k+1,r,s,hr,hs,h=>(c_v hMa hr hs).mpr (d_V hMa k hr hs h,λi hi=>d_V hMa k (b_E hMa hr hi) (b_E hMa hs hi) λu hu=>by
   have e:=h (L[i]::u) λc hc=>by
    rcases mem_cons.mp hc with rfl|z
    .exact getElem_mem hi
    .exact hu c z
   rw[run_cons,run_cons,c_V,c_V,f_v hMa.lt.nd hi]at e;exact e)
end
theorem b_v.unlike(h:b_v L W B W' B')(hr:r<W'.length)(hs:s<W'.length)(e:∀u:LN,(∀c∈u,c∈L)->B'.getD (run L W' r u) false=B'.getD (run L W' s u) false):r=s:=by
 obtain⟨ks,ws,R,Bm,k,m,bf,ways,hR,bl,mks,_,le,hMa,st,hm,rfl,rfl⟩:=h;rw[a_N,qa4,length_range]at hr hs;obtain⟨r1,r2⟩:=c_p hm hMa hr;obtain⟨s1,s2⟩:=c_p hm hMa hs;have:=d_V hMa k r1 s1 λu hu=>by
  have e1:=e u hu;rw[<-r2,<-s2,c_b hm hMa st r1 hu,c_b hm hMa st s1 hu,c_M hm hMa (b_A hMa r1 hu),c_M hm hMa (b_A hMa s1 hu)]at e1;exact e1
 rw[r2,s2]at this;exact this
section
variable{L:LN}{W:LL}{B:List Bool}{ks ws R:LL}
theorem dG{α:Type}{l:List α}(nd:l.Nodup){i j:Nat}{a:α}(hi:l[i]?=some a)(hj:l[j]?=some a):i=j:=by
 obtain⟨h1,e1⟩:=qa1 hi;obtain⟨h2,e2⟩:=qa1 hj;exact(getElem_inj nd).mp (e1.trans e2.symm)
theorem jE(hMa:Mach L W B)(bf:Bf (gW W) L [0] ks ws ks.length 0)(ways:b_C (gW W) L.length ks R)(hR:R.length=ks.length)(hw:ws[i]?=some w):(∀c∈w,c∈L)/\run L R 0 w=i:=by
 have hi:i<ks.length:=by rw[bf.len];exact(qa1 hw).1
 obtain⟨l1,l2⟩:=bf.lead i ks[i] w (qa2 hi) hw;refine(l1,?_);have h1:=g_f hMa bf ways hR _ w rfl l1;rw[g_s 0 _ w rfl]at l2;rw[l2]at h1;exact dG bf.nd h1 (qa2 hi)
theorem gK(hMa:Mach L W B)(bf:Bf (gW W) L [0] ks ws ks.length 0)(ways:b_C (gW W) L.length ks R)(hR:R.length=ks.length)(hw:ws[i]?=some w)(hv:∀c∈v,c∈L)(hr:run L R 0 v=i):ear L v w=false:=by
 obtain⟨j,b,e1,e2,e3⟩:=bf.told hMa.lt.nd v _ rfl hv;rw[g_s 0 _ v rfl]at e1;have h1:=g_f hMa bf ways hR _ v rfl hv;rw[hr]at h1;have:j=i:=dG bf.nd e1 h1;rw[this,hw]at e2;cases e2;exact e3
end
structure nS(L:LN)(W':LL)(v:Nat->LN):Prop where
 over:∀j,j<W'.length->(∀c∈v j,c∈L)/\run L W' 0 (v j)=j
 lt:∀i j,i<j->j<W'.length->ear L (v i) (v j)=true
 least:∀u:LN,(∀c∈u,c∈L)->ear L u (v (run L W' 0 u))=false
theorem b_v.firsts(h:b_v L W B W' B')(hM0:Mach L W B):∃v,nS L W' v:=by
 obtain⟨ks,ws,R,Bm,k,m,bf,ways,hR,bl,mks,_,le,hMa,st,hm,rfl,rfl⟩:=h;have hlen:(a_N R (Rd R Bm k) m).length=m:=by rw[a_N,qa4,length_range]
 have hwl:ws.length=R.length:=by rw[hR,bf.len]
 have at_:∀{i:Nat},i<R.length->ws[i]?=some (ws.getD i []):=λ{i}hi=>by
  rw[qa3,qa2 (by rw[hwl];exact hi)];rfl
 have l0:lot R Bm k 0=0:=qN hMa;have go:∀{u:LN},(∀c∈u,c∈L)->run L (a_N R (Rd R Bm k) m) 0 u=lot R Bm k (run L R 0 u):=λ{u}hu=>by
  have:=c_b hm hMa st hMa.n1 hu;rw[l0]at this;exact this
 refine(λj=>ws.getD ((Rd R Bm k).idxOf j) [],(λj hj=>?_,λi j hij hj=>?_,λu hu=>?_))
 .rw [hlen]at hj;obtain⟨f1,f2⟩:=c_p hm hMa hj;obtain⟨w1,w2⟩:=jE hM0 bf ways hR (at_ f1);refine(w1,?_);rw[go w1,w2];exact f2
 .rw [hlen]at hj;have hlt:=jp hm hMa hij hj;exact bf.srt _ _ _ _ hlt (at_ (lt_trans hlt (c_p hm hMa hj).1)) (at_ (c_p hm hMa hj).1)
 .rw [go hu];have hr:=b_A hMa hMa.n1 hu;have hle:=pI (k:=k) hMa hr;have h1:=gK hM0 bf ways hR (at_ hr) hu rfl;rcases Nat.lt_or_eq_of_le hle with z|z
  .have h2:=bf.srt _ _ _ _ z (at_ (lt_trans z hr)) (at_ hr);cases e:ear L u (ws.getD ((Rd R Bm k).idxOf (lot R Bm k (run L R 0 u))) [])with
   |false=>rfl
   |true=>rw[ear_trans e h2]at h1;cases h1
  .show ear L u (ws.getD ((Rd R Bm k).idxOf (lot R Bm k (run L R 0 u))) [])=false;rw[z];exact h1
theorem hX{rs:LN}(hs:∀(i j a b:Nat),i<j->rs[i]?=some a->rs[j]?=some b->a<b)(hlt:∀r∈rs,r<m)(hall:∀j<m,j∈rs):rs.length=m/\∀(i r:Nat),rs[i]?=some r->r=i:=by
 have ge:∀(i r:Nat),rs[i]?=some r->i≤r:=by
  intro i;induction i with
  |zero=>exact λr _=>zero_le r
  |succ i ih=>
   intro r e;have hi:i<rs.length:=lt_trans (lt_succ_self i) (qa1 e).1;have h1:=ih _ (qa2 hi);have h2:=hs i (i+1) _ _ (lt_succ_self i) (qa2 hi) e;omega
 have eq:∀(n i r:Nat),i<n->rs[i]?=some r->r=i:=by
  intro n;induction n with
  |zero=>exact λi r h=>absurd h (Nat.not_lt_zero i)
  |succ n ih=>
   intro i r hi e;have h1:=ge i r e;have hr:=hlt r (qb2 e);obtain⟨p,hp⟩:=mem_iff_getElem?.mp (hall i (by omega));have h2:=ge p i hp;rcases Nat.lt_trichotomy p i with z|z|z
   .have:=ih p i (by omega) hp;omega
   .rw [z,e]at hp;exact Option.some.inj hp
   .omega
 refine(?_,λi r e=>eq (i+1) i r (lt_succ_self i) e);rcases Nat.lt_trichotomy rs.length m with z|z|z
 .obtain ⟨p,hp⟩:=mem_iff_getElem?.mp (hall rs.length z);have h1:=(qa1 hp).1;have:=eq (p+1) p _ (lt_succ_self p) hp;omega
 .exact z
 .have e:=qa2 z;have:=eq (m+1) m _ (lt_succ_self m) e;have h2:=hlt _ (getElem_mem z);omega
end RA
namespace RA
open PySem L2
end RA
namespace RA
structure c_j(L:LN)(W:LL)(B:List Bool)(v:Nat->LN):Prop where
 mach:Mach L W B
 fs:nS L W v
 un:∀{r s:Nat},r<W.length->s<W.length->(∀u:LN,(∀c∈u,c∈L)->B.getD (run L W r u) false=B.getD (run L W s u) false)->r=s
theorem b_v.canon(h:b_v L W B W' B')(hM:Mach L W B):∃v,c_j L W' B' v:=by
 obtain⟨v,f⟩:=h.firsts hM;exact(v,h.mach,f,λhr hs e=>h.unlike hr hs e)
theorem run_app(L:LN)(W:LL)(r:Nat)(a b:LN):run L W r (a++b)=run L W (run L W r a) b:=by
 unfold run;rw[List.foldl_append]
section
variable{L:LN}{W1 W2:LL}{B1 B2:List Bool}{v1 v2:Nat->LN}
theorem c_j.move(c1:c_j L W1 B1 v1)(c2:c_j L W2 B2 v2)(h:∀u:LN,(∀c∈u,c∈L)->B1.getD (run L W1 0 u) false=B2.getD (run L W2 0 u) false)(ha:∀c∈a,c∈L)(hb:∀c∈b,c∈L)(e:run L W1 0 a=run L W1 0 b):run L W2 0 a=run L W2 0 b:=by
 refine c2.un (b_A c2.mach c2.mach.n1 ha) (b_A c2.mach c2.mach.n1 hb) λu hu=>?_;have o:∀{x:LN},(∀c∈x,c∈L)->∀c∈x++u,c∈L:=λhx c hc=>by
  rcases mem_append.mp hc with z|z
  .exact hx c z
  .exact hu c z
 rw[<-run_app,<-run_app,<-h _ (o ha),<-h _ (o hb),run_app,run_app,e]
theorem c_j.word(c1:c_j L W1 B1 v1)(c2:c_j L W2 B2 v2)(h:∀u:LN,(∀c∈u,c∈L)->B1.getD (run L W1 0 u) false=B2.getD (run L W2 0 u) false)(hj:j<W1.length):v2 (run L W2 0 (v1 j))=v1 j:=by
 obtain⟨o1,e1⟩:=c1.fs.over j hj;have hi:=b_A c2.mach c2.mach.n1 o1;obtain⟨o2,e2⟩:=c2.fs.over _ hi;have l2:=c2.fs.least (v1 j) o1;have e3:run L W1 0 (v2 (run L W2 0 (v1 j)))=j:=by
  rw[c2.move c1 (λu hu=>(h u hu).symm) o2 o1 e2];exact e1
 have l1:=c1.fs.least _ o2;rw[e3]at l1;rcases cG o1 o2 with z|z|z
 .rw [z]at l2;cases l2
 .exact z.symm
 .rw [z]at l1;cases l1
theorem canon_rooms(c1:c_j L W1 B1 v1)(c2:c_j L W2 B2 v2)(h:∀u:LN,(∀c∈u,c∈L)->B1.getD (run L W1 0 u) false=B2.getD (run L W2 0 u) false):W1.length=W2.length/\∀j<W1.length,run L W2 0 (v1 j)=j:=by
 have key:=hX (rs:=(List.range W1.length).map λj=>run L W2 0 (v1 j)) (m:=W2.length) (λi j a b hij ea eb=>?_) (λr hr=>?_) (λj hj=>?_)
 .refine (by have:=key.1;rwa [qa4,length_range]at this,λj hj=>?_);refine key.2 j _ ?_;rw[qa6,getElem?_range hj];rfl
 .have hj:j<W1.length:=by have:=(qa1 eb).1;rwa [qa4,length_range]at this
  have hi:i<W1.length:=lt_trans hij hj;rw[qa6,getElem?_range hi]at ea;rw[qa6,getElem?_range hj]at eb;cases ea;cases eb;have h1:=c1.fs.lt i j hij hj;have ri:=b_A c2.mach c2.mach.n1 (c1.fs.over i hi).1;rcases Nat.lt_trichotomy (run L W2 0 (v1 i)) (run L W2 0 (v1 j))with z|z|z
  .exact z
  .have e1:=c1.word c2 h hi;have e2:=c1.word c2 h hj;rw[z]at e1;rw[<-e1,e2]at h1;rw[e_c h1]at h1;cases h1
  .have h2:=c2.fs.lt _ _ z ri;rw[c1.word c2 h hi,c1.word c2 h hj]at h2;rw[e_c h2]at h1;cases h1
 .obtain ⟨j,hj,rfl⟩:=mem_map.mp hr;exact b_A c2.mach c2.mach.n1 (c1.fs.over j (mem_range.mp hj)).1
 .obtain ⟨o2,e2⟩:=c2.fs.over j hj;have hj1:=b_A c1.mach c1.mach.n1 o2;refine mem_map.mpr (run L W1 0 (v2 j),mem_range.mpr hj1,?_);obtain⟨o1,e1⟩:=c1.fs.over _ hj1;show run L W2 0 (v1 (run L W1 0 (v2 j)))=j;rw[c1.move c2 h o1 o2 e1];exact e2
theorem nA(c1:c_j L W1 B1 v1)(c2:c_j L W2 B2 v2)(h:∀u:LN,(∀c∈u,c∈L)->B1.getD (run L W1 0 u) false=B2.getD (run L W2 0 u) false):W1=W2/\B1=B2:=by
 obtain⟨hl,hr⟩:=canon_rooms c1 c2 h;have go:∀{u:LN},(∀c∈u,c∈L)->run L W2 0 u=run L W1 0 u:=λ{u}hu=>by
  have hj:=b_A c1.mach c1.mach.n1 hu;obtain⟨o1,e1⟩:=c1.fs.over _ hj;rw[<-hr _ hj];exact(c1.move c2 h o1 hu e1).symm
 refine(List.ext_getElem hl λj h1 h2=>?_,List.ext_getElem (by rw[c1.mach.bl,c2.mach.bl,hl]) λj h1 h2=>?_)
 .obtain ⟨o1,e1⟩:=c1.fs.over j h1;obtain⟨a1,a2⟩:=c1.mach.row _ (getElem_mem h1);obtain⟨b1,b2⟩:=c2.mach.row _ (getElem_mem h2);refine List.ext_getElem (by rw[a1,b1]) λq q1 q2=>?_;have hq:q<L.length:=by rw[<-a1];exact q1
  have hov:∀c∈v1 j++[L[q]],c∈L:=λc hc=>by
   rcases mem_append.mp hc with z|z
   .exact o1 c z
   .rw [qb1 z];exact getElem_mem hq
  have e:=go hov;have hx:=f_v c1.mach.lt.nd hq;rw[b_i,b_i,go o1,e1,c_V,c_V,hx]at e;have w1:goal W1 j q=W1[j][q]:=by
   rw[goal,qa3 (l:=W1),qa2 h1];show(W1[j]).getD q 0=_;rw[qa3,qa2 q1];rfl
  have w2:goal W2 j q=W2[j][q]:=by
   rw[goal,qa3 (l:=W2),qa2 h2];show(W2[j]).getD q 0=_;rw[qa3,qa2 q2];rfl
  rw[<-w1,<-w2];exact e.symm
 .have hj:j<W1.length:=by rw[<-c1.mach.bl];exact h1
  obtain⟨o1,e1⟩:=c1.fs.over j hj;have e:=h _ o1;rw[go o1,e1,qa3,qa3,qa2 h1,qa2 h2]at e;exact e
end
end RA
namespace L2
open PySem PySem.Spec PyProof.Rows
section
variable{X:Cx}{pins:List (Addr×Obj)}{σ:St}{H:Hp}{s:Shared}
end
end L2
namespace RA
open PySem L2
section
variable{X:Cx}{pins:List (Addr×Obj)}{σ:St}{H:Hp}{s:Shared}
end
end RA
namespace L2
open PySem PySem.Spec PyProof.Rows
end L2
namespace RA
open PySem L2
end RA
namespace RA
section
variable{L:LN}{W:LL}{B:List Bool}{ls:LN}{W2:LL}{B2:List Bool}
end
end RA
namespace RA
open PySem L2
theorem ir(h1:a_n H m1 L W B)(h2:a_n H m2 L W B)(hM:Mach L W B):eB H 3 (.ref m1) (.ref m2):=by
 have cv:∀{m:Addr},a_n H m L W B->nR H m L (W.map zs) B:=λ{m}h=>by
  obtain⟨wy,mk,rows,a1,a2,a3,a4,a5⟩:=h;refine(wy,mk,rows,a1,a2,a3,by rw[qa4];exact a4,λi a e1=>?_);obtain⟨ws,e3,e4⟩:=a5 i a e1;exact(zs ws,by rw[qa6,e3];rfl,by rw[eD];exact e4)
 refine kr (cv h1) (cv h2) (by rw[qa4];exact le_trans hM.n60 (by decide)) (by rw[hM.bl];exact le_trans hM.n60 (by decide)) λR hR=>?_;obtain⟨ws,hw,rfl⟩:=mem_map.mp hR;rw[cY,(hM.row ws hw).1];exact le_trans hM.lt.hi (by decide)
end RA
namespace RA
section
variable{κ:Type}[DecidableEq κ]{g:κ->Nat->κ}{L:LN}{s:κ}{ts ts':List κ}{ws ws':LL}
end
def gA(W:LL)(k:LN)(q:Nat):LN:=k.map λr=>(W.getD r []).getD q 0
end RA
namespace L2
open PySem PySem.Spec PyProof.Rows
section
variable{prog:Program}{w:World}{A:Around}{E:Value->Shared->Prop}{s:Shared}
end
end L2
namespace RA
section
variable{L:LN}{W ks ws R:LL}{B:List Bool}
end
end RA
namespace RA
open PySem L2
theorem g_c(l:LN):(intsV l).all g_J=true:=by
 rw[intsV,List.all_map,all_eq_true];exact λ_ _=>rfl
def sp_lotsafter:Sp:=λvs H Q _=>∃(m:Addr)(v:Addr)(o:HO)(L:LN)(W:LL)(B:List Bool)(k:LN),vs=[.ref m,.ref v]/\a_n H m L W B/\Mach L W B/\(o=.lst (intsV k)\/o=.tup (intsV k))/\H v=some o/\k.length≤60/\(∀x∈k,x<W.length)/\
 ∀(l:Addr)(ls:List Addr)(H':Hp),Same H H'->H' l=some (.lst (ls.map V.ref))->ls.length=L.length->(∀(q:Nat)(a:Addr),ls[q]?=some a->H' a=some (.lst (intsV (gA W k q))))->Q (.ref l) H'
end RA
namespace L2
open PySem PySem.Spec PyProof.Rows
abbrev vBM:List Value:=[.type "ValueError",.type "Exception",.type "BaseException",.type "object"]
abbrev d_A(C:Addr)(dd:Option Addr)(a0:Value):Obj:={cls:=.ref C,dict:=dd,data:=.fields #[a0,.none,.none,.none,.bool false,.none]}
section
variable{P:Program}{w:World}{A:Around}{E:Value->Shared->Prop}{h:Heap}{g:Array GenState}{d:Drawn}{t:Nat}{os:OsState}
variable{nm q:Str}{C N:Addr}{bs bm:List Value}{hdct:Bool}{sn:List Str}{sub:List Value}{ab:Bool}{col:Option Bool}{dd:Option Addr}{k0 k1 k2 k3 k5:Option Value}
theorem m7(tl:OwnTail h vBM bm)(cO:h.get? C=some (excClassObj nm q C N bs bm hdct sn sub ab col dd k0 k1 k2 k3 k5 "ValueError.__new__"))(nO:h.Ns N mN)(iO:mN "__init__"=some (.ref fI))(fO:h.get? fI=some oI)(fc:oI.cls=.type "function")(hu:us.length≤sizeLine)(go:∀h' e,h.objs.size≤e->Heap.MadeExcOf h h' e (.ref C) us->wpAny (model P w) A (call (.ref fI) (.ref e::us)) (λr s'=>r=.none/\Q (.done (.ret (.ref e))) s') E (h',g,d,t,os)):wpAny (model P w) A (Builtin.«type.__call__» (.ref C::us,[])) Q E (h,g,d,t,os):=by
 have FV:=excBase_ValueError;have bV:vBM.contains (.type "ValueError")=true:=rfl;repeat (first|with_reducible refine wpAny_loadPart_at cO ?_|with_reducible refine wpAny_madeBy_exc cO ?_|wp_step)
 refine codeAny_call_builtin_code (Code.quiet_builtin _ FV.quiet) (wpAny_check_new_subU FV bV tl cO ?_);refine codeAny_exc_new_subU FV bV FV tl cO ?_ hu;show wpAny _ _ _ _ _ _;have up:∀b o,h.get? b=some o->((h.push {cls:=.type "tuple",data:=.seq us.toArray}).push (d_A C none (.ref h.objs.size))).get? b=some o:=λb o z=>qa9 _ (qa9 _ z);have c1:=up _ _ cO;have f1:=up _ _ fO;have n1:((h.push {cls:=.type "tuple",data:=.seq us.toArray}).push (d_A C none (.ref h.objs.size))).Ns N mN:=let⟨o,es,ep,z,r⟩:=nO;(o,es,ep,up _ _ z,r);have e1:((h.push {cls:=.type "tuple",data:=.seq us.toArray}).push (d_A C none (.ref h.objs.size))).get? (h.objs.size+1)=some (d_A C none (.ref h.objs.size)):=by heap_get
 have hcC:(Value.ref C::bm).contains (.ref C)=true:=by simp
 have t1:=tl.keeps (h':=(h.push {cls:=.type "tuple",data:=.seq us.toArray}).push (d_A C none (.ref h.objs.size))) up;unfold isInstance;repeat (first|with_reducible refine wpAny_loadPart_at e1 ?_|(with_reducible refine wpAny_isSubtype_exc c1 ?_;rw[hcC])|wp_step)
 show wpAny _ _ (typeLookup (.ref C) _) _ _ _;refine wpAny_typeLookup_tail c1 n1 t1 FV.mroIs FV.init.lookup ?_;rw[iO];refine wpAny_holding (qa7 ?_);unfold bindSpecial;refine qa7 (wpAny_typeOf (T:="function") (_,f1,fc) ?_);rw[if_pos (by decide)];refine qa8 (qa7 (wpAny_mono (go _ (h.objs.size+1) (le_succ _) (up,Heap.get?_none_of_le (le_succ _),h.objs.size,e1,Heap.get?_none_of_le (le_refl _),?_)) (λr s' hr=>?_) λ_ _ z=>z))
 .exact qa9 _ (Heap.get?_push_at rfl rfl)
 .obtain ⟨rfl,hQ⟩:=hr
  wp_walk
  exact hQ
theorem m9(tl:OwnTail h vBM bm)(cO:h.get? C=some (excClassObj nm q C N bs bm hdct sn sub ab col dd k0 k1 k2 k3 k5 "ValueError.__new__"))(nO:h.Ns N mN)(iO:mN "__init__"=some (.ref fI))(fO:h.get? fI=some oI)(fc:oI.cls=.type "function")(hu:us.length≤sizeLine)(go:∀h' e,h.objs.size≤e->Heap.MadeExcOf h h' e (.ref C) us->wpAny (model P w) (A.under (.builtin "type.__call__" (.ref C::us,[]))) (call (.ref fI) (.ref e::us)) (λr s'=>r=.none/\Q (.ref e) s') E (h',g,d,t,os)):wpAny (model P w) A (call (.ref C) us) Q E (h,g,d,t,os):=by
 have y1:=tc_lookup;have y2:=tc_bind (.ref C);have tyC:((h,g,d,t,os):Shared).TypeIs (.ref C) "type":=(_,cO,rfl);refine wpAny_call (codeAny_of_tree ?_);show wpAny _ _ (callAny (.ref C) _) _ _ _;repeat (any_goals (first|assumption|with_reducible refine wpAny_loadPart_at cO ?_|wp_step))
 refine(rfl,?_);refine codeAny_call_builtin_at (Code.quiet_builtin _ (by decide +kernel)) entry_typeCall (wpAny_check_type_call_sub cO (m7 tl cO nO iO fO fc hu λh' e le mk=>?_));exact go h' e le mk
theorem kM(tl:OwnTail h vBM bm)(cO:h.get? C=some (excClassObj nm q C N bs bm hdct sn sub ab col dd k0 k1 k2 k3 k5 "ValueError.__new__"))(eO:h.get? e=some (d_A C none (.ref t0)))(go:∀h',(∀b o,b≠e->h.get? b=some o->h'.get? b=some o)->h'.get? e=some (d_A C none (.ref h.objs.size))->Q .none (h',g,d,t,os)):wpAny (model P w) A (call (.builtin "ValueError.__init__") [.ref e,u]) Q E (h,g,d,t,os):=by
 have FV:=excBase_ValueError;have hne:e≠h.objs.size:=ne_of_lt (lt_size eO);refine wpAny_call (codeAny_call_builtin FV.init.plain FV.initEntry (wpAny_check_init_subU FV tl cO eO rfl ?_))
 wp_walk
 refine go _ (λb o hb z=>?_) ?_
 .rw [Heap.get?_update_other _ _ (Ne.symm hb)];exact qa9 _ z
 .rw [get?_update_self _ (qa9 _ eO) rfl];rfl
theorem hY(hbase:bm.contains (.type "BaseException")=true)(hh:A.handled=none)(go:wpAny M A x (λv s1=>∃e d2 a0,v=.ref e/\s1.heap.get? C=some (excClassObj nm q C N bs bm hdct sn sub ab col dd k0 k1 k2 k3 k5 "ValueError.__new__")/\s1.heap.get? e=some (d_A C d2 a0)/\E (.ref e) s1) E s):wpAny M A (raiseStmt env (some x) none) Q E s:=by
 have hcB:(Value.ref C::bm).contains (.type "BaseException")=true:=by rw[List.contains_cons,hbase,Bool.or_true]
 unfold raiseStmt;refine qa7 (wpAny_mono go (λv s1 h1=>?_) λ_ _ z=>z);obtain⟨e,d2,a0,rfl,cO,eO,hE⟩:=h1;obtain⟨hp,g,d,tk,os⟩:=s1;repeat (first|with_reducible refine wpAny_loadPart_at eO ?_|with_reducible refine wpAny_loadPart_at cO ?_|(with_reducible refine wpAny_isSubtype_exc cO ?_;rw[hcB])|wp_step)
 exact wpAny_raiseNew_none hh hE
end
def OwnI(K:Frag)(C f:Addr):Prop:=(match K.lookup C with
 | some ⟨.type "type",_,.cls c,z⟩=>(match c.mro,z.toList with
  |.ref D::r,[_,_,_,_,some (.builtin m),_]=>D==C&&m=="ValueError.__new__"&&!c.hasDel&&PySem.W.tailIn K vBM r&&PySem.W.nsOkIn K c.ns&&nsIn K c.ns "__init__"==some (some (.ref f))
  | _,_=>false)
 | _=>false)=true
theorem oK{K:Frag}(X:K.In h)(G:h.Ns N m)(e:nsIn K N n=some (some v)):m n=some v:=by
 obtain⟨o,es,ep,ho,hd,_,hf⟩:=G;unfold nsIn at e;split at e
 .rename_i q;have z:=X _ _ q;rw[ho]at z;cases z;cases hd;split at e
  .rename_i he;rw[<-hf];unfold nsFind findBy;rw[<-Array.find?_toList,he];injection e
  .split at e<;>cases e
 .cases e
theorem OwnI.obj{K:Frag}(q:OwnI K C f)(X:K.In h):∃bm N nm qn bs hdct sn sub ab col dd k0 k1 k2 k3 k5 mN,h.get? C=some (excClassObj nm qn C N bs bm hdct sn sub ab col dd k0 k1 k2 k3 k5 "ValueError.__new__")/\h.Ns N mN/\mN "__init__"=some (.ref f)/\OwnTail h vBM bm:=by
 unfold OwnI at q;split at q;case h_2=>cases q
 case h_1 ob dd cd sl there=>
  split at q;case h_2=>cases q
  case h_1 D bm k0 k1 k2 k3 mk k5 hm hs=>
   obtain⟨q,init⟩:=and_eq_true_iff.mp q;obtain⟨q,nsOk⟩:=and_eq_true_iff.mp q;obtain⟨q,tl⟩:=and_eq_true_iff.mp q;obtain⟨q,nodel⟩:=and_eq_true_iff.mp q;obtain⟨isC,isMk⟩:=and_eq_true_iff.mp q;cases beq_iff_eq.mp isC;cases beq_iff_eq.mp isMk;obtain⟨l⟩:=sl;cases hs;cases cd;cases hm;cases not_eq_true' _▸nodel;have G:h.Ns _ _:=.of_isNs (PySem.W.isNs_of_in X nsOk);exact(bm,_,_,_,_,_,_,_,_,_,dd,k0,k1,k2,k3,k5,_,X _ _ there,G,oK X G (beq_iff_eq.mp init),PySem.W.tail_of_in X tl)
def f_S:List Value->Bool
 |.ref _::r=>f_S r
 |[.type a,.type b,.type c,.type d]=>a=="ValueError"&&b=="Exception"&&c=="BaseException"&&d=="object"
 |_=>false
theorem cb:∀{l:List Value},f_S l=true->(∀self,refuseLoop self "__setattr__" l=pure ())/\l.contains (.type "object")=true/\l.isEmpty=false
 |.ref c::r,e=>by
  obtain⟨h1,h2,_⟩:=cb (l:=r) (by rw[f_S]at e;exact e);exact(λself=>(refuseLoop_ref self _ c r).trans (h1 self),by rw[List.contains_cons,h2,Bool.or_true],rfl)
 |[.type a,.type b,.type c,.type d],e=>by
  simp only[f_S,and_eq_true,beq_iff_eq]at e;obtain⟨⟨⟨rfl,rfl⟩,rfl⟩,rfl⟩:=e;exact(λself=>PySem.F.store_ValueError.passes self,by decide,rfl)
theorem jc{prog:Program}{w:World}{A:Around}{K:Frag}(X:K.In s.heap)(I:PySem.W.InstAt s.heap x ox C od)(hp:(PySem.W.clsIn K C).any (λcd=>f_S cd.mro)=true)(ht:takerIn K C name=some none)(h:∀b,wpAny (model prog w) A.in1 (Builtin.ObjectAttr.storeInOwnDict (.ref x) (.ref C) (.str name tk) name v b) (λfin s'=>match fin with|.done f=>R (.ok f) s'|.again c'=>c'.quiet=true/\codeAny (model prog w) A c' R s') (λe s'=>R (.error e) s') s):codeAny (model prog w) A (.call (.builtin "object.__setattr__") ([.ref x,.str name tk,v],[])) R s:=by
 obtain⟨cd,hc,ho⟩:=any_some hp;obtain⟨pass,has,ne⟩:=cb ho;have sub:Looks (model prog w) s.heap (isInstance (.ref x) (.type "object")) true:=I.type.andThen (PySem.W.looks_mroIn X (by unfold PySem.W.mroIn;rw[hc,Option.bind_some,if_neg (by rw[ne];decide),has]));obtain⟨attr,ha,hr⟩:=Option.bind_eq_some_iff.mp ht;have L3:Looks (model prog w) s.heap (Builtin.ObjectAttr.storeTaker? attr) none:=by
  cases attr with
  |none=>exact .now
  |some a=>
   obtain⟨b,hb,e⟩:=qb3 hr;cases b
   .exact (PySem.W.looks_takesIn X hb).andThen .now
   .cases e
 refine codeAny_call_builtin store_object.slot.plain store_object.entry (@PySem.W.check_slot (model prog w) _ _ s "object.__setattr__" "object" "__setattr__" (.ref x) [.str name tk,v] [] _ store_object.kind store_object.split sub (store_object.args (.ref x) (.str name tk) v) ?_);rw[PySem.W.osa_eq,refuse_eq];refine qa7 (qa7 (I.type.here (qa7 (((looks_clsIn X hc).andThen .now:Looks (model prog w) s.heap (mroOf (.ref C)) cd.mro).here ?_))));rw[pass];exact qa8 (qa7 (I.type.here (qa7 ((PySem.W.looks_findIn X ha).here (qa7 (L3.here (h _)))))))
structure iM(K:Frag)(C:Addr):Prop where
 sa:PySem.W.findIn K (.ref C) "__setattr__"=some (some (.builtin "object.__setattr__"))
 po:(PySem.W.clsIn K C).any (λcd=>f_S cd.mro)=true
 hd:hasDictIn K C=true
structure nX(K:Frag)(R:Addr):Prop where
 ga:PySem.W.specialIn K (.ref R) "__getattribute__"=some (some (.builtin "type.__getattribute__"))
 rd:PySem.W.readsIn K R (.type "type")=true
 fc:PySem.W.findCls K (.ref R) (.type "type") "__init__"=some (.val (.builtin "ValueError.__init__"))
section
variable{prog:Program}{w:World}{A:Around}{E:Value->Shared->Prop}{s:Shared}{K:Frag}{x C dx:Addr}{a0:Value}{name:Str}{v:Value}{mA:Str->Option Value}
theorem lv(X:K.In s.heap)(eO:s.heap.get? x=some (d_A C none a0))(c:iM K C)(ht:takerIn K C name=some none)(go:∀h' d,s.heap.objs.size≤d->h'.get? x=some (d_A C (some d) a0)->h'.Ns1 d (λy=>if y=name then some v else none)->(∀b o,b≠x->s.heap.get? b=some o->h'.get? b=some o)->Q () {s with heap:=h',toks:=s.toks+2}):wpAny (model prog w) A (setAttr (.ref x) name v) Q E s:=by
 have J:PySem.W.InstAt s.heap x (d_A C none a0) C none:=(eO,rfl,rfl,trivial);refine set_plain X J c.sa (jc (s:={s with toks:=s.toks+1}) X J c.po ht λb=>?_);obtain⟨cd,hc,hd'⟩:=any_some c.hd;refine qa7 (qa8 (qa7 (qa7 (wpAny_loadPart eO (qa7 (Looks.here (s:={s with toks:=s.toks+1}) (looks_clsIn X hc) ?_))))));rw[hd'];have e1:(s.heap.push {cls:=.type "dict",data:=.dict #[]}).get? x=some (d_A C none a0):=qa9 _ eO;have hxs:x≠s.heap.objs.size:=ne_of_lt (lt_size eO);refine qa7 (wpAny_alloc' (qa7 (wpAny_update' e1 (qa8 (qa7 ?_)))));have hgd:((s.heap.push {cls:=.type "dict",data:=.dict #[]}).update x λo=>{o with dict:=some s.heap.objs.size}).get? s.heap.objs.size=some {cls:=.type "dict",data:=.dict #[]}:=
  (Heap.get?_update_ne _ _ _ _ hxs.symm).trans (Heap.get?_push_at rfl rfl)
 have hnd:((s.heap.push {cls:=.type "dict",data:=.dict #[]}).update x λo=>{o with dict:=some s.heap.objs.size}).Ns s.heap.objs.size (λ_=>none):=(_,#[],_,hgd,rfl,λe he=>absurd he (by simp),λ_=>rfl);refine qa8 (qa7 (wpAny_nsSet1 (Heap.Ns1.of_empty hnd) λh' hn' hs=>?_));have few:=hn'.count (Within.cons name v Within.nil);obtain⟨o9,_,_,q1,q2,q3⟩:=few;have line9:o9.data.pastItsLine=none:=q2▸pastItsLine_dict (le_trans q3 (by rw[sizeLine_eq];show 1≤_;omega));refine qa7 (wpAny_lookBehind q1 line9 ?_);refine qa8 (go _ _ (le_refl _) ?_ hn' λb o hb z=>?_)
 .exact (hs.2 x hxs).trans (get?_update_self _ e1 rfl)
 .exact (hs.2 b (ne_of_lt (lt_size z))).trans ((Heap.get?_update_ne _ _ _ _ hb).trans (qa9 _ z))
theorem lu(X:K.In s.heap)(eO:s.heap.get? x=some (d_A C (some dx) a0))(nD:s.heap.Ns1 dx mA)(c:iM K C)(ht:takerIn K C name=some none)(hw:PySem.Within mA ns)(hsz:ns.length≤sizeLine)(go:∀h',h'.Ns1 dx (λy=>if y=name then some v else mA y)->SameBut dx s.heap h'->Q () {s with heap:=h',toks:=s.toks+2}):wpAny (model prog w) A (setAttr (.ref x) name v) Q E s:=by
 obtain⟨od,ho,hl⟩:=cm nD;have J:PySem.W.InstAt s.heap x (d_A C (some dx) a0) C (some od):=(eO,rfl,rfl,ho);refine set_plain X J c.sa (jc (s:={s with toks:=s.toks+1}) X J c.po ht λb=>?_);obtain⟨cd,hc,hd'⟩:=any_some c.hd;refine qa7 (qa8 (qa7 (qa7 (wpAny_loadPart eO (qa7 (Looks.here (s:={s with toks:=s.toks+1}) (looks_clsIn X hc) ?_))))));rw[hd'];refine qa8 (a:=some dx) (qa7 (qa8 (qa7 ?_)));refine wpAny_nsSet1 (s:={s with toks:=s.toks+1}) nD λh' hn2 hs2=>?_;have few:=hn2.count (PySem.Within.cons name v hw);obtain⟨o9,_,_,q1,q2,q3⟩:=few;refine qa7 (wpAny_lookBehind q1 (q2▸pastItsLine_dict (le_trans q3 (by rw[length_cons];omega))) ?_);exact qa8 (go _ hn2 hs2)
end
def excD(e C:Addr)(dd:Option Addr):HO:=.ext λh=>∃t0:Addr,h.get? e=some (d_A C dd (.ref t0))
def dctD(dx:Addr)(fs:List (Str×V)):HO:=.ext λh=>∃mA,h.Ns1 dx mA/\(∀f,aq (fs.lookup f) (mA f))/\PySem.Within mA (fs.map (·.1))
def del(H:Hp)(e:Addr):Hp:=λb=>if b=e then none else H b
theorem bO(h:b≠e):del H e b=H b:=if_neg h
theorem gn:del H e e=none:=if_pos rfl
section
variable{X:Cx}{pins:List (Addr×Obj)}{σ:St}{H:Hp}{s:Shared}{a C dx:Addr}{fs:List (Str×V)}{f:Str}{y:V}{u:Value}{A:Around}{E:Value->Shared->Prop}
theorem rq(hx:X.ex=[])(I:Inv X pins σ H s)(e:H a=some (excD a C none))(c:iM X.K C)(n:a_A X.K C f)(ry:ac y u)(go:∀d s',H d=none->d≠a->Inv X pins σ (upd (upd H a (excD a C (some d))) d (dctD d [(f,y,)])) s'->Q () s'):wpAny (model X.prog X.w) A (setAttr (.ref a) f u) Q E s:=by
 obtain⟨⟨a0,eO⟩,_,_⟩:=I.hok a _ e;refine lv I.kIn eO c n.taker λh' d hd hx' ns keep=>?_;have dn:s.heap.get? d=none:=Heap.get?_none_of_le hd;have hn:H d=none:=I.hok.fresh hd;have da:d≠a:=(ne_of_none e hn).symm;have I1:=I.write (x:=a) (e:=a) (o:=excD a C (some d)) (h':=h') (t':=s.toks+2) (by rw[e];exact True.intro) (.inl rfl) keep (_,hx') ((a0,hx'),(_,hx'),λh1 h2 hZ2 k=>by obtain⟨z,q⟩:=hZ2;exact(z,k _ q));have old:∀b o,s.heap.get? b=some o->b≠d:=λb o q z=>by rw[z,dn]at q;cases q
 refine go d _ hn da (I1.track (e:=d) (by rw[upd_ne da];exact hn) (dead0 I hx dn) ?_ (λx c q=>?_) (λp hp=>?_) (_,ns,λg=>?_,λg hg=>?_) ?_ ?_)
 .obtain ⟨m,⟨o,es,ep,z,_⟩,_⟩:=I.loc;exact old _ o z
 .obtain ⟨v,o,r,_⟩:=I.cell x c q;exact old c o r
 .exact old p.1 p.2 (I.pin p hp).1
 .show aq (List.lookup g [(f,y,)]) (if g=f then some u else none);by_cases q:g=f
  .have hb:(g==f)=true:=beq_iff_eq.mpr q;rw[if_pos q];simp only[List.lookup,hb];exact ry
  .have hb:(g==f)=false:=beq_eq_false_iff_ne.mpr q;rw[if_neg q];simp only[List.lookup,hb];exact True.intro
 .by_cases q:g=f
  .rw [q];exact mem_singleton.mpr rfl
  .exact absurd (show(if g=f then some u else none)=none by rw[if_neg q]) hg
 .obtain ⟨o,_,_,z,_⟩:=ns;exact(o,z)
 .exact λh1 h2⟨mA,z,r⟩k=>(mA,z.at k,r)
theorem rp(I:Inv X pins σ H s)(e:H a=some (excD a C (some dx)))(ed:H dx=some (dctD dx fs))(c:iM X.K C)(n:a_A X.K C f)(hl:fs.length<1000)(ry:ac y u)(go:∀s',Inv X pins σ (upd H dx (dctD dx (aj f y fs))) s'->Q () s'):wpAny (model X.prog X.w) A (setAttr (.ref a) f u) Q E s:=by
 obtain⟨⟨a0,eO⟩,_,_⟩:=I.hok a _ e;obtain⟨⟨mA,nD,r,wi⟩,_,_⟩:=I.hok dx _ ed;have hz:(fs.map (·.1)).length≤sizeLine:=by rw[qa4,sizeLine_eq];omega
 refine lu I.kIn eO nD c n.taker wi hz λh' ns sb=>go _ ?_;have hd:∃o,h'.get? dx=some o:=let⟨o,_,_,z,_⟩:=ns;(o,z);refine I.write (x:=dx) (e:=dx) (by rw[ed];exact True.intro) (.inl rfl) (λb q hb z=>(sb.2 b hb).trans z) hd ((_,ns,λg=>?_,λg hg=>?_),hd,λh1 h2 hZ0 k=>by obtain⟨mA,z,r⟩:=hZ0;exact(mA,z.at k,r))
 .show aq ((aj f y fs).lookup g) (if g=f then some u else mA g);rw[d_v];by_cases q:g=f
  .rw [if_pos q,if_pos q];exact ry
  .rw [if_neg q,if_neg q];exact r g
 .by_cases q:g=f
  .rw [q];exact(c_L f y fs).1
  .refine (c_L f y fs).2 g (wi g λz=>hg ?_);show(if g=f then some u else mA g)=none;rw[if_neg q];exact z
end
def rJ(K:Frag)(ta tv:TE)(f:Str):TS:=λD σ H=>tv σ H λy H1=>ta σ H1 λx H2=>∃a C,x=.ref a/\iM K C/\a_A K C f/\
 ((H2 a=some (excD a C none)/\∀d,H2 d=none->d≠a->D.nx σ (upd (upd H2 a (excD a C (some d))) d (dctD d [(f,y,)]))) \/
  ∃dx fs,H2 a=some (excD a C (some dx))/\H2 dx=some (dctD dx fs)/\fs.length<1000/\D.nx σ (upd H2 dx (dctD dx (aj f y fs))))
theorem dy(hx:X.ex=[])(ha:PE X o ta)(hv:PE X value tv)(hs:swapsWith value (some (.Attribute o f pos')) pos.line X.env=pure false):PS X (.Assign [.Attribute o f pos'] value pos) (rJ X.K ta tv f):=by
 intro pins s σ H D I h;refine plainObj_wpAny_Assign_Attribute (thn (hv pins s σ H _ I h) λu s1⟨y,H1,I1,ry,q⟩=>thn (ha pins s1 σ H1 _ I1 q) λov s2 hZ1=>?_) hs;obtain⟨x,H2,I2,rx,a,C,ex,c,n,r⟩:=hZ1;subst ex;obtain rfl:ov=Value.ref a:=rx;rcases r with⟨e,go⟩|⟨dx,fs,e,ed,l,go⟩
 .exact rq hx I2 e c n ry λd s3 hd da I3=>(σ,_,I3,go d hd da)
 .exact rp I2 e ed c n l ry λs3 I3=>(σ,_,I3,go)
def p5(K:Frag)(t:TA):TE:=λσ H Q=>t σ H λvs H1=>∃e C f u,vs=[.ref e,u]/\H1 e=some (excD e C none)/\OwnI K C f/\Q .non H1
theorem mi{np apos pos:Pos}{pl:Sem Bool}(B:nX X.K R)(hm:X.mg x=some (.ref R))(ha:PA X (e::es) t)(hg:Gl X x:=by rfl)(hd:(x==("__debug__":Str))=false:=by decide)(he:starEach (e::es) X.env=(false,eval e X.env,)::starEach es X.env:=by rfl)(hpl:(backTo pos (starEach es X.env)).any (·.1)=false:=by rfl)(ht:eval (.Call (.Attribute (.Name x np) "__init__" apos) (e::es) [] pos) X.env=(do
   let ov <-eval (.Name x np) X.env
   standAt apos.atName
   let(f,first,) <-holding [ov] (getMethod ov "__init__" pl)
   callWith pos f first (backTo pos (starEach (e::es) X.env)) (backToKw pos (keywordEach [] X.env))):=by rfl):PE X (.Call (.Attribute (.Name x np) "__init__" apos) (e::es) [] pos) (p5 X.K t):=by
 intro pins s σ H Q I h;refine PySem.W.methodCall_KW (pl:=pl) (ld_glob I hg hm ?_ hd) ht;refine PySem.W.method_cls I.kIn B.ga (PySem.W.cls_value I.kIn B.rd B.fc rfl ?_);have hA:=ha pos pins {s with toks:=s.toks+1} σ H _ (I.tok _) h;rw[he]at hA⊢;have pl9:(backTo pos ((false,eval e X.env,)::starEach es X.env)).any (·.1)=false:=by
  show(false||(backTo pos (starEach es X.env)).any (·.1))=false;rw[hpl];rfl
 refine Calls.callWith_builtin pl9 (Calls.evalArgs_plain (thn hA λus s2 hZ2=>?_));obtain⟨vs,H2,I2,r,e2,C,f,u,ev,eH,oC,q⟩:=hZ2;subst ev;obtain⟨u1,u2,rfl,rx,ru⟩:=bp r;obtain rfl:u1=Value.ref e2:=rx;obtain⟨⟨a0,eO⟩,_,_⟩:=I2.hok e2 _ eH;obtain⟨bm,N,nm,qn,bs,hdct,sn,sub,ab,col,dd,k0,k1,k2,k3,k5,mN,cO,nO,iO,tl⟩:=oC.obj I2.kIn;obtain⟨hh,g,d,tk,os⟩:=s2;refine kM tl cO eO λh' keep eO'=>(.non,H2,?_,rfl,q);have I3:=I2.write (x:=e2) (e:=e2) (o:=excD e2 C none) (h':=h') (t':=tk) (by rw[eH];exact True.intro) (.inl rfl) keep (_,eO') ((_,eO'),(_,eO'),λh1 h2 hZ0 k=>by obtain⟨z,q⟩:=hZ0;exact(z,k _ q));have eu:upd H2 e2 (excD e2 C none)=H2:=by
  funext b;unfold upd;split
  .rename_i z;rw[z,eH]
  .rfl
 rw[eu]at I3;exact I3
section
variable{X:Cx}{CX:CXT}{k:Nat}{f C:Addr}{fd:FuncData}{ps:List Str}{sp:Sp}{E E':XK}{x:Str}{np cpos pos:Pos}{e0:Expr}{es:List Expr}{t:TA}
theorem on{σ:St}{Q:VK}(hx:X.ex=[])(M:OwnI X.K C f)(fn:isFn X.K (.ref f)=true)(F:aa X.prog X.w X.K X.mg X.base CX k f fd ps sp)(hr:af (k+1) X.A)(hb:b_q X.K fd ps [])(hp:e_f CX X E')(I:Inv X pins σ H s)(r:ad vs us)(hu:us.length≤sizeLine)(h:∀e,H e=none->sp (.ref e::vs) (upd H e (excD e C none)) (λv H2=>v=.non/\Q (.ref e) H2) E'):wpAny (model X.prog X.w) X.A (call (.ref C) us) (λu s'=>∃e H',u=.ref e/\X.s₀.heap.get? e=none/\Inv X pins σ H' s'/\Q (.ref e) H') X.xe s:=by
 obtain⟨bm,N,nm,qn,bs,hdct,sn,sub,ab,col,dd,k0,k1,k2,k3,k5,mN,cO,nO,iO,tl⟩:=M.obj I.kIn;obtain⟨oI,fO,fc⟩:∃oI,s.heap.get? f=some oI/\oI.cls=.type "function":=by
  obtain⟨o,q,e⟩:=qb3 (show Option.map (λx:Obj=>x.cls) (List.lookup f X.K)=some (.type "function")from beq_iff_eq.mp fn);exact(o,I.kIn _ _ q,e)
 obtain⟨hh,g,d,tk,os⟩:=s;refine m9 tl cO nO iO fO fc hu λh' e es mk=>?_;obtain⟨t0,eO,tn,tO⟩:=mk.there;have I2:Inv X pins σ (upd H e (excD e C none)) (h',g,d,tk,os):=I.laid (a:=e) (o:=excD e C none) (h':=h') (t':=tk) mk.keeps es ((_,eO),(_,eO),λh1 h2 hZ1 k=>by obtain⟨z,q⟩:=hZ1;exact(z,k _ q));have hq:=h e (I.hok.fresh es);have r2:ad (V.ref e::vs) (Value.ref e::us):=.cons rfl r;have hl:(Value.ref e::us).length=ps.length:=by
  have z:=r2.length;rw[F.len _ _ _ _ hq]at z;exact z.symm
 have hb2:=hb (h',g,d,tk,os) (Value.ref e::us) I2.kIn;rw[append_nil]at hb2;refine wpAny_call (codeAny_mono (F.run _ X.stack _ _ (Value.ref e::us,[]) (Value.ref e::us) _ _ E' (hr.make C us []) (I2.env0.make C us []) (hb2 hl) r2 hq) λr s' hq'=>?_);cases r with
 |error ev=>exact hp pins σ _ _ ev s' I2 hq'
 |ok fl=>
  cases fl with
  |ret u=>
   obtain⟨v,H',I3,rv,ev,q3⟩:=I2.after hq';subst ev;exact(rv,e,H',rfl,dead0 I hx mk.new,I3,q3)
  |next=>exact False.elim hq'
  |brk=>exact False.elim hq'
  |cont=>exact False.elim hq'
def QX(C:Addr)(E:XK):VK:=λv H=>match v with
 |.ref e=>∃d,H e=some (excD e C d)/\E (.ref C) none (del H e)
 |_=>False
def jA(X:Cx)(E:XK):Prop:=∀(pins:List (Addr×Obj))(σ:St)(H:Hp)(s:Shared)(e C:Addr)(d:Option Addr),Inv X pins σ H s->H e=some (excD e C d)->X.s₀.heap.get? e=none->E (.ref C) none (del H e)->X.xe (.ref e) s
theorem oU(hx:X.ex=[])(hst:X.stack=X.env::X.outer)(hfr:X.env.frame=some X.env.locals){σ:St}(I:Inv X pins σ H s)(eH:H e=some (excD e C d))(d0:X.s₀.heap.get? e=none)(q:E (.ref C) none (del H e)):wpAny (model X.prog X.w) X.A (leaving X.env (.ref e)) (λ_ s''=>CXE X.prog X.w X.outer X.H₀ X.s₀ E (.ref e) s'') (λe' s''=>CXE X.prog X.w X.outer X.H₀ X.s₀ E e' s'') s:=by
 have stk:s.heap.FunFrames X.base (X.env::X.outer):=hst▸I.stack;obtain⟨⟨a0,eO⟩,_,_⟩:=I.hok e _ eH;have sub:∀b∈frs (X.env::X.outer),b∈e::frs X.stack:=λb hb=>mem_cons_of_mem _ (hst▸hb);have bk:∀b u,H b=some u->b≠e->del H e b=some u:=λb u z n=>(bO n).trans z;refine wpAny_leaving_firstW (base:=hideAll s.heap (e::frs X.stack)) (a0:=.ref a0) (by rw[<-hst];exact I.ok.frames) (b_J stk sub) hfr eO (λb o z=>of_hideAll _ z) (hideAll_none _ mem_cons_self) rfl rfl rfl λh' hL=>?_;obtain⟨k1,⟨_,_,k2⟩,k3,up⟩:=hL;have fr:∀b∈frs X.stack,∃o,s.heap.get? b=some o/\∀vs,o.data≠.fields vs:=c_y I.stack;have kept:∀b o,s.heap.get? b=some o->b≠e->b∉frs X.stack->h'.get? b=some o:=λb o z n hb=>k1 b o (hideAll_get _ z λhm=>(mem_cons.mp hm).elim n hb);obtain⟨T,nT,fT⟩:=iE k3;have eN:∀b,H b=none->b≠e:=λb z y=>by rw[y,eH]at z;cases z
 have un2:Un (frs X.stack) [] H (del H e) s.heap h':=by
  refine(λb o z n hb _=>kept b o z (eN b n) hb,λb o z n hb _=>?_,λb o z n _=>by rw[bO (eN b n)];exact n,λb o z _=>?_,λb xs z=>bk b _ z (ne_of z eH (by intro y;cases y)),λb o u z=>bk b _ z (ne_of z eH (by intro y;cases y)),λb ps z=>(#[],?_))
  .obtain ⟨o',ho',hd⟩:=fr b hb;rw[z]at ho';cases ho';exact up b _ z hd
  .by_cases hb:b∈frs X.stack
   .obtain ⟨o',ho',hd⟩:=fr b hb;rw[z]at ho';cases ho';obtain⟨sl,z2⟩:=up b _ z hd;exact(_,z2)
   .by_cases he:b=e
    .subst he;obtain⟨oe,_,_,_,z2,_⟩:=fT;exact(oe,z2)
    .exact (o,kept b o z he hb)
  .rw [Array.append_empty];exact bk b _ z (ne_of z eH (by intro y;cases y))
 have hok2:HOk X.prog X.w (del H e) h':=λb u z=>by
  have hb:b≠e:=λy=>by rw[y,gn]at z;cases z
  rw[bO hb]at z;refine(I.hok b u z).stay (λc v hc y=>?_) (λc y=>bk c _ y (ne_of y eH (by intro z;cases z))) λc xs y=>bk c _ y (ne_of y eH (by intro z;cases z));have hH:∃w',H c=some w'/\c≠e:=by
   rcases hc with rfl|hc
   .exact (u,z,hb)
   .exact (_,hc,ne_of hc eH (by intro z;cases z))
  obtain⟨w',hw,hce⟩:=hH;exact kept c v y hce λhm=>by rw[I.stkFree c hm]at hw;cases hw
 have I2:Inv X pins σ (del H e) {s with heap:=h',gens:=s.gens,drawn:=s.drawn,toks:=s.toks}:=I.call (g':=s.gens) (d':=s.drawn) (t':=s.toks) (ch:=[]) un2 hok2 I.bare (λ_ z=>nomatch z);have dT:s.heap.get? T=none:=by
  cases z:s.heap.get? T with
  |none=>rfl
  |some o=>
   have h1:=d_z fT I2.stack;have h2:T≠e:=by obtain⟨_,_,_,_,_,_,_,_,y,_⟩:=fT;exact y
   rw[hideAll_get _ z λhm=>(mem_cons.mp hm).elim h2 h1]at nT;cases nT
 have ub:=I2.base;rw[hx]at ub;have TN:=e_M I.hok dT;exact(e,T,.ref C,.ref a0,del H e,rfl,I2.os,I.bare,ub,hok2,d0,dead0 I hx dT,gn,by rw[bO (eN T TN)];exact TN,fT,q)
def iU(s0:Heap)(C:Addr)(sp:Sp)(E E':XK)(t:TA):TS:=λ_ σ H=>t σ H λvs H1=>vs.length≤sizeLine/\∀e,H1 e=none->sp (.ref e::vs) (upd H1 e (excD e C none)) (λv H2=>v=.non/\∃d,H2 e=some (excD e C d)/\E (.ref C) none (del H2 e)) E'
theorem jW(hx:X.ex=[])(hc:X.calm=true)(hT:jA X E)(M:OwnI X.K C f)(fn:isFn X.K (.ref f)=true)(F:aa X.prog X.w X.K X.mg X.base CX k f fd ps sp)(hr:af (k+1) X.A)(hb:b_q X.K fd ps [])(hp:e_f CX X E')(hm:X.mg x=some (.ref C))(ha:PA X (e0::es) t)(hg:Gl X x:=by rfl)(hd:(x==("__debug__":Str))=false:=by decide)(he:starEach (e0::es) X.env=(false,eval e0 X.env,)::starEach es X.env:=by rfl)(hpl:(backTo cpos (starEach es X.env)).any (·.1)=false:=by rfl):PS X (.Raise (some (.Call (.Name x np) (e0::es) [] cpos)) none pos) (iU X.base C sp E E' t):=by
 intro pins s σ H D I h;obtain⟨bm,N,nm,qn,bs,hdct,sn,sub,ab,col,dd,k0,k1,k2,k3,k5,mN,cO,nO,iO,tl⟩:=M.obj I.ok.mod.kin;rw[arm_exec_Raise];refine qa7 (wpAny_standAt (hY (C:=C) (nm:=nm) (q:=qn) (N:=N) (bs:=bs) (bm:=bm) (hdct:=hdct) (sn:=sn) (sub:=sub) (ab:=ab) (col:=col) (dd:=dd) (k0:=k0) (k1:=k1) (k2:=k2) (k3:=k3) (k5:=k5) (tl.hasType excBase_ValueError.hasBase) (I.ok.hd hc)
  (qa7 (wpAny_mono (wpAny_Call_ofName (ld_glob I hg hm ?_ hd)) (λv s3 h3=>qa7 (wpAny_standAt (qa8 h3))) λ_ _ z=>z))))
 have hA:=ha cpos pins s σ H _ I h;have pl0:(backTo cpos (starEach (e0::es) X.env)).any (·.1)=false:=by rw[he];show(false||(backTo cpos (starEach es X.env)).any (·.1))=false;rw[hpl];rfl
 have cK:∀{σ':St}{H':Hp}{s':Shared},Inv X pins σ' H' s'->s'.heap.get? C=some (excClassObj nm qn C N bs bm hdct sn sub ab col dd k0 k1 k2 k3 k5 "ValueError.__new__"):=λI'=>I'.bk _ _ cO;unfold callWith;refine qa7 (wpAny_holding (wpAny_mono (Q:=λ(a:Args)s2=>a.kw=[]/\∃vs H2,Inv X pins σ H2 s2/\ad vs a.pos/\vs.length≤sizeLine/\∀e,H2 e=none->sp (.ref e::vs) (upd H2 e (excD e C none)) (λv H3=>v=.non/\∃d,H3 e=some (excD e C d)/\E (.ref C) none (del H3 e)) E') ?_ (λa s2 h2=>qa7 (wpAny_standAt ?_)) λ_ _ z=>z))
 .rw [he]at hA⊢;exact Calls.evalArgs_plain (thn hA λus s2 hZ2=>by obtain⟨vs,H2,I2,r2,hl,q⟩:=hZ2;exact(rfl,vs,H2,I2,r2,hl,q))
 obtain⟨apos,akw⟩:=a;obtain⟨hkw,vs,H2,I2,r2,hl,q⟩:=h2;obtain rfl:akw=[]:=hkw;obtain⟨hp2,g2,d2,tk2,os2⟩:=s2;simp only[pl0];refine qa7 (wpAny_keeperOf_exc (cK I2) ?_);refine qa7 (wpAny_mono (on (Q:=QX C E) hx M fn F hr hb hp I2 r2 (by show apos.length≤sizeLine;have z:vs.length=apos.length:=r2.length;rw[<-z];exact hl) λe hn=>q e hn) (λv s3 hv=>qa7 (wpAny_holding (wpAny_point (qa8 ?_)))) λ_ _ z=>z);obtain⟨e,H3,rfl,d0,I3,d,h1,h2⟩:=hv;obtain⟨⟨t0,eO⟩,_,_⟩:=I3.hok e _ h1;exact(e,d,.ref t0,rfl,cK I3,eO,hT pins σ H3 s3 e C d I3 h1 d0 h2)
theorem eQ{P:Program}{w:World}{K:Frag}{mg:Str->Option Value}{base:Heap}{N:List Str}:jA (aJ (CXE P w) P w K mg base N qual scope f cd A outer s H E) E:=
 λpins σ H1 s1 e C d I h1 h2 h3=>oU (X:=aJ (CXE P w) P w K mg base N qual scope f cd A outer s H E) rfl rfl rfl I h1 h2 h3
end
def fi(D:Ends):Ends:={nx:=D.nx,rt:=λ_ _=>False}
def jD(K:Frag)(R:Addr)(ts:TS)(D:Ends)(σ:St):XK:=λC _ H'=>exmOne K C (.ref R)=some true/\ts (fi D) σ H'
theorem kN{X:Cx}{pins:List (Addr×Obj)}{σ:St}{H:Hp}(hex:X.ex=[])(hst:X.stack=X.env::X.outer)(hfr:X.env.frame=some X.env.locals)(hg:Gl X x)(hm:X.mg x=some (.ref R))(hs:∀v,PSs (X.held v) (b0::suite) ts)(I:Inv X pins σ H s)(cx:CXE X.prog X.w X.stack H s (jD X.K R ts D σ) ev s')(hd:(x==("__debug__":Str))=false):wpAny (model X.prog X.w) X.A (noteFrame ev X.env) (λ_ s2=>wpAny (model X.prog X.w) X.A (setFlight ev none) (λ_ s3=>wpAny (model X.prog X.w) X.A (handleBy ev X.env [.ExceptHandler (some (.Name x np)) none (b0::suite) hpos]) (SP X pins D) X.xe s3) X.xe s2) X.xe s':=by
 obtain⟨e,T,C,a0,H',rfl,os,bare,un,hok,de,dT,he,hT,fT,hmatch,q⟩:=cx;obtain⟨hh,g,d,tk,os'⟩:=s';obtain rfl:os'=s.os:=os;have I1:Inv X pins σ H' {s with heap:=hh,gens:=g,drawn:=d,toks:=tk}:=I.call (g':=g) (d':=d) (t':=tk) (ch:=[]) un hok bare (λ_ z=>nomatch z);have stk:hh.FunFrames X.base (X.env::X.outer):=hst▸I1.stack;have fl:Heap.FlyingW (hideAll hh (e::T::frs X.stack)) (X.env::X.outer) e C a0 hh:=
  (λb o z=>of_hideAll _ z,hideAll_none _ (by simp),b_J stk (by rw[<-hst];exact λb z=>mem_cons_of_mem _ (mem_cons_of_mem _ z)),fT.traced (hideAll_none _ (by simp)))
 have seen:∀(h':Heap),(hideAll hh (e::T::frs X.stack)).StaysIn h'->hh.UpToSlots h'->Inv X pins σ H' {s with heap:=h',gens:=g,drawn:=d,toks:=tk}:=λh' fk up=>
  (I.flown (H':=H') (h1:=hh) (h2:=h') (g':=g) (d':=d) (t':=tk) (S:=[e,T]) un hok (λb hb=>by rcases mem_cons.mp hb with z|z;rw[z];exact de;rw[qb1 z];exact dT)
   (λb hb=>by rcases mem_cons.mp hb with z|z;rw[z];exact he;rw[qb1 z];exact hT) (λb o z hS hb=>fk b o (hideAll_get _ z λhmem=>by
    rcases mem_cons.mp hmem with y|hmem
    .exact hS (by rw[y];simp)
    .rcases mem_cons.mp hmem with y|hmem
     .exact hS (by rw[y];simp)
     .exact hb hmem)) up bare).1
 refine wpAny_looks_onW (s:=(hh,g,d,tk,s.os)) (by rw[<-hst];exact I.ok.frames) hfr fl λh2 fl2 up2=>wpAny_landsW (s:=(h2,g,d,tk,s.os)) fl2 λh3 fl3 up3=>?_;have I3:=seen h3 fl3.1 (up2.trans up3);obtain⟨oe,hoe,hce⟩:=fl3.there;have ty:Looks (model X.prog X.w) h3 (typeOf (.ref e)) C:=hce▸(Looks.ld hoe).andThen .now;refine wpAny_handleBy_cons (codeAny_handlers_test (ld_glob (X:=X.held (.ref e)) (I3.held _) hg hm ?_ hd)) (by intro z;cases z);refine(PySem.W.exm_one I3.kIn ty hmatch).here ?_;refine codeAny_handlers_suite (lands_againW (s:=(h3,g,d,tk,s.os)) fl3 λh4 fl4 up4=>?_);have I4:=seen h4 fl4.1 ((up2.trans up3).trans up4);refine wpAny_mono (hs (.ref e) pins _ _ _ (fi D) (I4.held _) q) (λf s6 h6=>?_) λ_ _ z=>z.elim;cases f with
 |next=>
  obtain⟨σ7,H7,I7,q7⟩:=h6;exact(σ7,H7,I7.unheld I.ok,q7)
 |ret u=>
  obtain⟨_,_,_,_,_,z⟩:=h6;exact z.elim
 |brk=>
  obtain⟨_,_,_,z⟩:=h6;exact z.elim
 |cont=>
  obtain⟨_,_,_,z⟩:=h6;exact z.elim
section
variable{X:Cx}{pins:List (Addr×Obj)}{σ:St}{H:Hp}{s:Shared}{x y fx:Str}{R:Addr}{j k:Nat}{np hpos pos p cp yp ap:Pos}{b0:Stmt}{suite:List Stmt}{ts:TS}{D:Ends}{ps:List Str}{sp:Sp}{e:Expr}{es:List Expr}{t:TA}
structure tM(X:Cx)(x:Str)(R:Addr)(b0:Stmt)(suite:List Stmt)(ts:TS):Prop where
 hex:X.ex=[]
 hst:X.stack=X.env::X.outer
 hfr:X.env.frame=some X.env.locals
 hg:Gl X x
 hm:X.mg x=some (.ref R)
 hs:∀v,PSs (X.held v) (b0::suite) ts
 hd:(x==("__debug__":Str))=false
end
def lamHO(f:Addr)(qual:Str)(params:Arguments)(body:Expr)(scope:Scope)(clos:List (Str×Addr))(c:Addr):HO:=.ext λh=>∃pm ctv,h.get? f=some (kla_obj "<lambda>" qual params body scope clos pm c ctv)
theorem fu{P:Program}{w:World}(x:h.get? f=some (kla_obj "<lambda>" qual params body scope clos pm c ctv)):a_L P w H h f (lamHO f qual params body scope clos c):=
 ((pm,ctv,x),(_,x),λ_ _ hZ0 k=>by obtain⟨p,v,e⟩:=hZ0;exact(p,v,k _ e))
def sM(X:Cx)(P0:Addr)(sites:List (Pos×Str))(qual:Str)(params:Arguments)(body:Expr)(sc:Scope):TE:=λ_ H Q=>b_G H P0 sites/\
 ∀(clos:List (Str×Addr))(f c:Addr)(H1:Hp),(∀y a,clos.lookup y=some a->X.env.cells.lookup y=some a)->(∀y∈sc.names,y.2=.free->∃a,clos.lookup y.1=some a)->H f=none->f≠c->c_A P0 H H1->b_G H1 P0 sites->
  H1 c=some (codeHO c qual)->H1 f=some (lamHO f qual params body sc clos c)->Q (.ref f) H1
theorem f_R{X:Cx}{params:Arguments}{body:Expr}{sc:Scope}(hcode:X.env.code=.ref c)(hC:CodeHd X.base c P0)(hB:d_g X.base X.mg)(hsite:(pos,qual,)∈sites)(hsites:∀q∈sites,q.1.line=pos.line->q.1.col=pos.col->q.2=qual)(hq:X.env.qual++"<lambda>"=qual:=by rfl)(hdef:defaultsOf params X.env=([],[],):=by rfl)(hfree:(sc.names.all λy=>y.2 != .free||X.env.scope.names.lookup y.1==some .cell)=true:=by rfl):PE X (.Lambda params body sc pos) (sM X P0 sites qual params body sc):=by
 intro pins s σ H Q I h;obtain⟨⟨ps,hP,ht,hall⟩,h⟩:=h;have hfr:∀y∈sc.names,y.2=.free->X.env.kindOf y.1=some .cell:=λy hy e=>by
  have q:=all_eq_true.mp hfree y hy;rw[e]at q;simpa[Env.kindOf]using q
 obtain⟨cl,hclos,hsub,hhas⟩:=d_a (env:=X.env) (sc:=sc) λy hy e=>I.ok.has y.1 (.inl (hfr y hy e));have hPh:s.heap.get? P0=some (tabObj ps):=I.hok P0 _ hP;have hPlt:P0<s.heap.objs.size:=I.hok.lt hP;have hbP:s.heap.BuiltinsAt X.mg P0:=by
  obtain⟨bm,o,e1,e2,e3,e4,e5,e6,e7⟩:=hB.ex;refine(bm,o,e1,e2,e3,λz=>?_,(I.bs bm o e4).1,e5,e6,e7);have n:=(I.bs bm o e4).2;rw[z,hP]at n;cases n
 have hgs:s.heap.Ns mainGlobals X.mg:=I.mod.glob.keeps I.bk;have hgP:mainGlobals≠P0:=λz=>by
  obtain⟨o,es,ep,e,hd,_⟩:=hgs;rw[z,hPh]at e;cases e;cases hd
 have hC':=hC.keeps I.bk;refine PySem.W.kla_eval hdef ?_;rw[hq];have fin:∀{f:Addr}{s1:Shared}{H1:Hp},Inv X pins σ H1 s1->Q (.ref f) H1->EP X pins σ Q (.ref f) s1:=λ{f s1 H1}I1 q=>(.ref f,H1,I1,rfl,q);have old:∀{b:Addr}{u:HO},H b=some u->b<s.heap.objs.size:=λe=>I.hok.lt e;rcases hall _ hsite with hnf|⟨c0,hhit,hc0⟩
 .refine PySem.W.kla_makeFunction (mg:=X.mg) hclos I.ok.glob hgs hcode hC' hPh ht hnf hgP hbP λc' ctv h' tk hxx hge hlt hrec htb=>?_;have hPc:P0≠c':=ne_of_lt (lt_of_lt_of_le hPlt hge);have hszh:s.heap.objs.size<h'.objs.size:=lt_of_le_of_lt hge hlt;have hPf:P0≠h'.objs.size:=ne_of_lt (lt_trans hPlt hszh);have hcf:c'≠h'.objs.size:=ne_of_lt hlt;generalize hfe:h'.objs.size=f at hPf hcf hszh⊢;have kp:∀b o,b≠P0->s.heap.get? b=some o->(h'.push (kla_obj "<lambda>" qual params body sc cl ((X.mg "__name__").getD .none) c' ctv)).get? b=some o:=λb o hb e=>qa9 _ (hxx b o hb e);have hof:(h'.push (kla_obj "<lambda>" qual params body sc cl ((X.mg "__name__").getD .none) c' ctv)).get? f=some (kla_obj "<lambda>" qual params body sc cl ((X.mg "__name__").getD .none) c' ctv):=by rw[<-hfe];exact get?_push_size _ rfl
  have hoc:(h'.push (kla_obj "<lambda>" qual params body sc cl ((X.mg "__name__").getD .none) c' ctv)).CodeRec (.ref c') qual:=by
   obtain⟨c2,oc,vs,t,e,e1,e2,e3⟩:=hrec;exact(c2,oc,vs,t,e,qa9 _ e1,e2,e3)
  have hoP:(h'.push (kla_obj "<lambda>" qual params body sc cl ((X.mg "__name__").getD .none) c' ctv)).get? P0=some (tabObj (ps++#[rawInt pos.line,rawInt pos.col,.ref c'])):=qa9 _ htb;generalize h'.push (kla_obj "<lambda>" qual params body sc cl ((X.mg "__name__").getD .none) c' ctv)=hh at kp hof hoc hoP⊢;generalize hps:ps++#[rawInt pos.line,rawInt pos.col,.ref c']=ps' at hoP;have nlt:∀{b:Addr},b<s.heap.objs.size->b≠c'/\b≠f:=λhb=>(ne_of_lt (lt_of_lt_of_le hb hge),ne_of_lt (lt_trans hb hszh));have get1:∀{b:Addr},b<s.heap.objs.size->b≠P0->upd (upd (upd H P0 (.tbl ps')) c' (codeHO c' qual)) f (lamHO f qual params body sc cl c') b=H b:=λhb hbP=>by
   rw[upd_ne (nlt hb).2,upd_ne (nlt hb).1,upd_ne hbP]
  have getO:∀{b:Addr},b≠P0->b≠c'->b≠f->upd (upd (upd H P0 (.tbl ps')) c' (codeHO c' qual)) f (lamHO f qual params body sc cl c') b=H b:=λh1 h2 h3=>by
   rw[upd_ne h3,upd_ne h2,upd_ne h1]
  have getP:upd (upd (upd H P0 (.tbl ps')) c' (codeHO c' qual)) f (lamHO f qual params body sc cl c') P0=some (.tbl ps'):=by rw[upd_ne hPf,upd_ne hPc,a_c]
  have getc:upd (upd (upd H P0 (.tbl ps')) c' (codeHO c' qual)) f (lamHO f qual params body sc cl c') c'=some (codeHO c' qual):=by rw[upd_ne hcf,a_c]
  have getf:upd (upd (upd H P0 (.tbl ps')) c' (codeHO c' qual)) f (lamHO f qual params body sc cl c') f=some (lamHO f qual params body sc cl c'):=a_c;generalize upd (upd (upd H P0 (.tbl ps')) c' (codeHO c' qual)) f (lamHO f qual params body sc cl c')=H1 at get1 getO getP getc getf;have nP:∀{b:Addr},H b=none->b≠P0:=λn z=>by rw[z,hP]at n;cases n
  have keepH:∀{b:Addr}{u:HO},H b=some u->b≠P0->H1 b=some u:=λe hb=>by rw[get1 (old e) hb];exact e
  have notT:∀{b:Addr}{u:HO},H b=some u->(∀ps,u≠.tbl ps)->H1 b=some u:=λe hu=>keepH e λz=>by
   rw[z,hP]at e;cases e;exact hu _ rfl
  have un:Un X.fs [] H H1 s.heap hh:=by
   refine(λb o e n _ _=>kp b o (nP n) e,λb o e n _ _=>(o.slots,kp b o (nP n) e),λb o e n _=>by rw[get1 (lt_size e) (nP n)];exact n,λb o e _=>?_,λb xs e=>notT e (λ_ z=>nomatch z),λb o u e=>notT e (λ_ z=>nomatch z),λb qs e=>?_)
   .by_cases hb:b=P0
    .rw [hb];exact(_,hoP)
    .exact (o,kp b o hb e)
   .by_cases hb:b=P0
    .rw [hb,hP]at e;cases e;rw[hb];exact(_,by rw[getP,hps])
    .exact (#[],by rw[keepH e hb];simp)
  have hok1:HOk X.prog X.w H1 hh:=λa o e=>by
   by_cases haf:a=f
   .rw [haf]at e⊢;rw[getf]at e;cases e;exact fu hof
   by_cases hac:a=c'
   .rw [hac]at e⊢;rw[getc]at e;cases e;exact cP hoc
   by_cases haP:a=P0
   .rw [haP]at e⊢;rw[getP]at e;cases e;exact hoP
   rw[getO haP hac haf]at e;refine(I.hok a o e).stay (λb u hb q=>kp b u (λz=>?_) q) (λb q=>notT q (λ_ z=>nomatch z)) λb xs q=>notT q (λ_ z=>nomatch z);rcases hb with hb|hb
   .exact haP (hb▸z)
   .rw [z,hP]at hb;cases hb
  have I1:Inv X pins σ H1 {s with heap:=hh,toks:=tk}:=I.un un hok1;refine fin I1 (h cl f c' H1 hsub hhas (I.hok.fresh (le_of_lt hszh)) (Ne.symm hcf) (λb o hb e=>keepH e hb) (ps',getP,?_,λq hqs=>?_) getc getf)
  .rw [<-hps,Array.toList_append];exact e_T _ _ _ _ _ _ ht
  .rw [<-hps,Array.toList_append,cT _ _ _ ht];rcases hall q hqs with hn|⟨c1,h1,h2⟩
   .rw [hn,Option.none_or];by_cases hsame:q.1.line=pos.line/\q.1.col=pos.col
    .refine .inr (c',?_,?_)
     .show codeAmong q.1 [rawInt pos.line,rawInt pos.col,.ref c']=_;simp[codeAmong,rawInt,hsame.1,hsame.2]
     .rw [hsites q hqs hsame.1 hsame.2];exact getc
    .refine .inl ?_;show codeAmong q.1 [rawInt pos.line,rawInt pos.col,.ref c']=_;simp only[codeAmong,rawInt];rw[if_neg];intro z;simp at z;exact hsame (by omega,by omega)
   .rw [h1,Option.some_or];exact .inr (c1,rfl,notT h2 (λ_ z=>nomatch z))
 .refine PySem.W.kla_makeFunctionHit (mg:=X.mg) hclos I.ok.glob hgs hcode hC' hPh ht hhit hbP λctv h' tk hk hsz=>?_;have I1:Inv X pins σ (upd H h'.objs.size (lamHO h'.objs.size qual params body sc cl c0)) {s with heap:=h'.push (kla_obj "<lambda>" qual params body sc cl ((X.mg "__name__").getD .none) c0 ctv),toks:=tk}:=
   I.laid (λb u e=>qa9 _ (hk b u e)) hsz (fu (get?_push_size _ rfl))
  have hfn:H h'.objs.size=none:=I.hok.fresh hsz;have kH:∀{b:Addr}{u:HO},H b=some u->upd H h'.objs.size (lamHO h'.objs.size qual params body sc cl c0) b=some u:=λe=>by rw[upd_ne (ne_of_none e hfn)];exact e
  refine fin I1 (h cl _ c0 _ hsub hhas hfn (Ne.symm (ne_of_none hc0 hfn)) (λb o _ e=>kH e) (ps,kH hP,ht,λq hqs=>?_) (kH hc0) a_c);rcases hall q hqs with hn|⟨c1,h1,h2⟩
  .exact .inl hn
  .exact .inr (c1,h1,kH h2)
theorem g_e{P:Program}{w:World}{K:Frag}{mg:Str->Option Value}{base:Heap}{N ps fr:List Str}{qual:Str}{scope:Scope}{f:Addr}{clos:List (Str×Addr)}{fvs:List V}{k:Nat}{params:Arguments}{body:Expr}{pm ctv:Value}{c':Addr}{sp:Sp}{o:Obj}(ho:base.get? f=some o)(hd:o.data=.func (kla_fn "<lambda>" qual params body scope clos pm (.ref c') ctv))(hcd:base.CodeRec (.ref c') qual)(S:a_B N ps fr scope)(C:a_w base clos scope fr fvs)(len:∀vs H Q E,sp vs H Q E->vs.length=ps.length)(hbody:∀(A:Around)(outer:List Env)(s:Shared)(H:Hp)(vs:List V)(Q:VK)(E:XK),af k (A.deeper (envX qual scope s.heap.objs.size f (.ref c') clos))->sp vs H Q E->
   ∃t,PE (bj CX0 P w K mg base N qual scope f (.ref c') clos A outer s H E).nox body t/\t (b_N N vs fvs) H Q):aa P w K mg base CX0 (k+1) f (kla_fn "<lambda>" qual params body scope clos pm (.ref c') ctv) ps sp:=by
 refine(len,λA outer s H args us vs Q E hr e0 hb r hsp=>?_);have hl:=len _ _ _ _ hsp;have lim:s.heap.NoLimit:=e0.mod.nolimit.keeps λb o e=>(e0.bs b o e).1;have hkind:∀y∈ps.zip us,scope.names.lookup y.1=some .local:=λhZ1 hy=>by obtain⟨n,v⟩:=hZ1;exact S.par n (of_mem_zip hy).1
 have hcd':s.heap.CodeRec (.ref c') qual:=by
  obtain⟨c,oc,ws,t,e1,e2,e3,e4⟩:=hcd;exact(c,oc,ws,t,e1,(e0.bs c oc e2).1,e3,e4)
 refine PySem.W.kla_callFunE hr.depth (e0.bs f o ho).1 hd S.co S.gen rfl hcd' (hb _ _ _ _ ?_);refine wpAny_newFunctionEnv (closure:=clos) (around:=none) S.nocell hkind (λh' hns hsb=>?_) S.kind;have hkp:∀b o,s.heap.get? b=some o->h'.get? b=some o:=λb o e=>hsb.extBut b o (ne_of_lt (lt_size e)) (qa9 _ e);refine(lim.keeps hkp,PySem.W.kla_codeExpr ?_);obtain⟨t,ht,hq⟩:=hbody A outer s H vs Q E (hr.deeper _) hsp;have I:Inv (bj CX0 P w K mg base N qual scope f (.ref c') clos A outer s H E) [] (b_N N vs fvs) H {s with heap:=h',toks:=s.toks+(ps.zip us).length}:=g_b S C hr.hd e0 hl r hns hsb;refine wpAny_mono (ht [] _ (b_N N vs fvs) H _ (I.wish _) hq) (λu s' hs=>?_) λe s' hs=>hs.elim;obtain⟨v,H',J,rv,q⟩:=hs;have J2:=J.unwish;exact(v,H',J2.os,J2.bare,J2.base,J2.hok,rv,q)
section
variable{X:Cx}{elt iter:Expr}{x y:Str}{px py pt pos:Pos}{kt:Nat}{sc:Scope}{wi:TI}{te:TE}{tt:TT}{ifs:List Expr}
def dh(K:Frag)(wi:TI)(tt:TT)(te:TE):TE:=λσ H Q=>wi σ H λJ H1=>∀D,H1 D=none->∃W:Nat->Nat->List V->Hp->Prop,
 (∃m,W 0 m [] (upd H1 D (.lst [])))/\∀i m ys H2,W i m ys H2->H2 D=some (.lst ys)/\((J.stop i H2/\Q (.ref D) H2)\/(J.go i H2/\ys.length<sizeLine/\∀x H3,J.yld i H2 x H3->
  ∃p a b,x=.ref p/\SqT K H3 p [a,b]/\tt (some a::some b::σ) H3 λbo H4=>if bo=true then te (some a::some b::σ) H4 λy H5=>H5 D=some (.lst ys)/\∃m',m'<m/\W (i+1) m' (ys++[y]) (upd H5 D (.lst (ys++[y])))else ∃m',m'<m/\W (i+1) m' ys H4))
theorem ip{st:Shared}(Z:Nat->Shared->Prop)(go:∀k t,Z k t->wpAny (model pg wd) B (pyNext gi) (λr t1=>match r with
   |none=>Rf (.ok .next) t1
   | some u=>wpAny (model pg wd) B (letOwnedTupleGo tg gi u) (λ_ t2=>wpAny (model pg wd) B (assign tg en u) (λ_ t3=>
     wpAny (model pg wd) B (forIn ifs true λc r=>if r=true then do let ok <-isTrue c en (eval c en);pure (ForInStep.yield ok)else pure (ForInStep.yield r)) (λyes t4=>
      if yes=true then wpAny (model pg wd) B (eval elt en) (λz t5=>wpAny (model pg wd) B (call (.builtin "list.append") [ga,z]) (λ_ t6=>∃j,j<k/\Z j t6) (notedBy (model pg wd) B en λe s'=>Rf (.error e) s') t5) (notedBy (model pg wd) B en λe s'=>Rf (.error e) s') t4
      else ∃j,j<k/\Z j t4) (notedBy (model pg wd) B en λe s'=>Rf (.error e) s') t3) (notedBy (model pg wd) B en λe s'=>Rf (.error e) s') t2) (notedBy (model pg wd) B en λe s'=>Rf (.error e) s') t1) (notedBy (model pg wd) B en λe s'=>Rf (.error e) s') t)(k:Nat)(hz:Z k st):codeAny (model pg wd) B (.compLoop (.ListComp elt [(tg,iter,ifs,0)] sc pos) 0 gi ga en) Rf st:=by
 have keep:∀{α:Type}{x:Sem α}{Q1 Q2:α->Shared->Prop}{N:Value->Shared->Prop}{t:Shared},wpAny (model pg wd) B x Q1 N t->(∀a t',Q1 a t'->Q2 a t')->wpAny (model pg wd) B x Q2 N t:=λh f=>wpAny_mono h f λ_ _ z=>z;refine codeAny_loop rfl Z (λk t hk=>?_) k hz;show wpAny _ B ((compTurn (.ListComp elt [(tg,iter,ifs,0)] sc pos) 0 gi ga en).onRaise λx=>do noteFrame x en;theTreesLotGoes x) _ _ t;refine wpAny_noted ?_;rw[compTurn_list];refine qa7 (wpAny_standAt (qa7 (keep (go k t hk) λr t1 h1=>?_)));match r,h1 with
 |none,h1=>exact qa8 h1
 |some u,h1=>
  refine qa7 (keep h1 λ_ t2 h2=>qa7 (keep h2 λ_ t3 h3=>qa7 (keep h3 λyes t4 h4=>?_)));match yes,h4 with
  |false,h4=>exact qa8 (rfl,h4)
  |true,h4=>exact qa7 (qa7 (keep h4 λz t5 h5=>qa7 (keep h5 λ_ t6 h6=>qa8 (qa8 (rfl,h6)))))
end
section
variable{X:Cx}{elt iter tg:Expr}{x y:Str}{px py pt pos:Pos}{kt:Nat}{sc:Scope}{wi:TI}{te:TE}{tt:TT}{ifs:List Expr}
theorem comp_core{ns:List Str}{gx:V->Hp->List V->Prop}(N2:List Str)(hc:X.calm=true)(hN2:(ns++N2).Nodup)(hi:PI X tg iter wi)(hb:∀(cl:List (Str×Addr))(C:Addr)(fp:List Addr)(s:Shared)(H:Hp),PTs {cxComp X x sc cl C fp s H with N:=ns++N2} ifs tt/\PE {cxComp X x sc cl C fp s H with N:=ns++N2} elt te)(hpg:∀(cl:List (Str×Addr))(C:Addr)(fp:List Addr)(s0:Shared)(H0:Hp)(pins:List (Addr×Obj))(s:Shared)(σ:St)(os:List (Option V))(H:Hp)(y:V)(u:Value)(vs:List V),os.length=ns.length->gx y H vs->Inv {cxComp X x sc cl C fp s0 H0 with N:=ns++N2} pins (os++σ) H s->ac y u->wpAny (model X.prog X.w) X.A (assign tg (compEnvC sc cl C X.env) u) (λ_ s'=>Inv {cxComp X x sc cl C fp s0 H0 with N:=ns++N2} pins (vs.map some++σ) H s') (λ_ _=>False) s)(hkind:sc.kind=.function)(hnames:∀y∈sc.names,y.2=.local->sc.names.lookup y.1=some .local)(hcell:∀y∈sc.names,y.2≠.cell)(hfree:(sc.names.all λy=>y.2 != .free||X.env.scope.names.lookup y.1==some .cell||X.env.scope.names.lookup y.1==some .free)=true)(hlo:(N2.all λy=>sc.names.lookup y != some .local)=true)(hl2:N2.length=X.N.length)(hz2:((N2.zip X.N).all λy=>y.1==y.2||sc.names.lookup y.1==none)=true)(hs:∀x,foldedSetIterable iter X.env x=pure x){σ:St}{Q:VK}(I:Inv X pins σ H s)(h:wi σ H R)(hR:∀J H1,R J H1->∀D,H1 D=none->∃W:Nat->Nat->List V->Hp->Prop,(∃m,W 0 m [] (upd H1 D (.lst [])))/\∀i m ys H2,W i m ys H2->H2 D=some (.lst ys)/\((J.stop i H2/\Q (.ref D) H2)\/(J.go i H2/\ys.length<sizeLine/\∀x H3,J.yld i H2 x H3->
   ∃vs,vs.length=ns.length/\gx x H3 vs/\tt (vs.map some++σ) H3 λbo H4=>if bo=true then te (vs.map some++σ) H4 λy H5=>H5 D=some (.lst ys)/\∃m',m'<m/\W (i+1) m' (ys++[y]) (upd H5 D (.lst (ys++[y])))else ∃m',m'<m/\W (i+1) m' ys H4)))(fin:∀{s2 s4:Shared}{H2 H3:Hp}{fp:List Addr}{cl:List (Str×Addr)}{D C:Addr}{os:List (Option V)},Inv X pins σ H2 s2->(∀b∈fp,aZ X pins H2 b)->(∀b o,s2.heap.get? b=some o->b≠C)->s2.heap.objs.size≤C->Inv {cxComp X x sc cl C fp s2 H2 with N:=ns++N2} [] (os++σ) H3 s4->Q (.ref D) H3->compPost (model X.prog X.w) X.A X.xe use QQ (.ref D) C (.ok .next) s4):wpAny (model X.prog X.w) X.A (comprehension (.ListComp elt [(tg,iter,ifs,0)] sc pos) sc X.env p (newList []) false (eval iter X.env) use) QQ X.xe s:=by
 have hfr:∀y∈sc.names,y.2=.free->(X.env.kindOf y.1=some .cell\/X.env.kindOf y.1=some .free):=λy hy e=>by
  have q:=all_eq_true.mp hfree y hy;rw[e]at q;simpa[Env.kindOf]using q
 have hlo':∀y∈N2,sc.names.lookup y≠some .local:=λy hy e=>by
  have q:=all_eq_true.mp hlo y hy;rw[e]at q;simp at q
 obtain⟨cl,hclos,hsub,hhas⟩:=d_a (env:=X.env) (sc:=sc) λy hy e=>I.ok.has y.1 (hfr y hy e);refine wpAny_comprehension_free rfl hs hclos hkind hnames (thn (hi pins s σ H _ I h) λv s1 h1=>thn h1 λitv s2 h2=>?_);obtain⟨it,fp,tn,J,H2,e,I2,T,st2,f2,hW⟩:=h2;subst e

 have nobinds:∀y∈([]:List (Str×Value)),sc.names.lookup y.1=some .local:=λy hy=>absurd hy (by simp);refine wpAny_newObj_type ?_;refine wpAny_newFunctionEnv hcell nobinds (λh₁ hns₁ hsb₁=>?_) hkind;dsimp only at hns₁ hsb₁⊢;generalize hHa:s2.heap.push {cls:=.type "list",dict:=none,data:=.seq ([]:List Value).toArray}=Ha at hns₁ hsb₁⊢;have hC:Ha.objs.size=s2.heap.objs.size+1:=by rw[<-hHa,size_push]
 have hDC:s2.heap.objs.size≠Ha.objs.size:=by rw[hC];exact ne_of_lt (lt_succ_self _)
 have hCle:s2.heap.objs.size≤Ha.objs.size:=by rw[hC];exact le_succ _
 have neC:∀b o,s2.heap.get? b=some o->b≠Ha.objs.size:=λb o e=>ne_of_lt (lt_of_lt_of_le (lt_size e) hCle);have old:∀b o,s2.heap.get? b=some o->h₁.get? b=some o:=λb o e=>hsb₁.extBut b o (neC b o e) (qa9 _ (hHa▸qa9 _ e));have hacc:h₁.get? s2.heap.objs.size=some {cls:=.type "list",dict:=none,data:=.seq ([]:List Value).toArray}:=hsb₁.extBut _ _ hDC (qa9 _ (hHa▸get?_push_size _ rfl));generalize hDe:s2.heap.objs.size=D at *;generalize hCe:Ha.objs.size=C at *;have hHD:H2 D=none:=I2.hok.fresh (le_of_eq hDe);have hHC:H2 C=none:=I2.hok.fresh (by omega);obtain⟨W,⟨m0,w0⟩,turn⟩:=hR _ _ hW D hHD;have fplt:∀b∈fp,b<D:=λb hb=>by
  obtain⟨o,e,_⟩:=T.obj _ _ st2 b hb;rw[<-hDe];exact lt_size e

 let X':Cx:={cxComp X x sc cl C fp s2 H2 with N:=ns++N2}
 have nofs:∀b∈fp,b∉frs X.stack:=λb hb z=>by
  rcases mem_cons.mp (I2.stkSub b z)with e|e
  .exact (f2 b hb).2.1 e
  .exact (f2 b hb).2.2.1 e
 have ok':X'.Ok:=by
  refine(I2.ok.mod,hkind,I2.ok.glob,I2.ok.blt,?_,λy z c e1 e2=>I2.ok.inj y z c (hsub y c e1) (hsub z c e2),λy hy=>?_,λy c e=>absurd (show false=true from e) Bool.false_ne_true,I2.ok.hd,I2.ok.frames,.inl rfl,λb hb=>(?_,λy c e=>?_),I2.bs,
   le_trans I2.ok.bsz I2.sz,λb o e hb=>?_,nofs,I2.stack,I2.stkFree)
  .show s2.heap.objs.size≤C;omega
  .rcases hy with hy|hy
   .rcases relabel_lookup (show(relabel sc X.env).names.lookup y=some .cell from hy)with e|⟨_,e,_⟩
    .exact absurd rfl (hcell _ (PySem.mem_of_lookup e))
    .exact hhas _ (PySem.mem_of_lookup e) rfl
   .rcases relabel_lookup (show(relabel sc X.env).names.lookup y=some .free from hy)with e|⟨e,_⟩
    .exact hhas _ (PySem.mem_of_lookup e) rfl
    .cases e
  .exact ne_of_lt (lt_of_lt_of_le (fplt b hb) (by omega:D≤C))
  .exact (f2 b hb).2.2.2.2.1 y c (hsub y c e)
  .rcases (f2 b hb).2.2.2.1 with z|z
   .exact I2.ok.noex b o e z
   .exact absurd (lt_of_lt_of_le (lt_of_lt_of_le (lt_size e) I2.ok.bsz) z) (lt_irrefl _)
 have I4:∀tk,Inv X' [] (replicate ns.length none++σ) (upd H2 D (.lst [])) {s2 with heap:=h₁,toks:=tk}:=λtk=>by
  refine(ok',rfl,I2.bare,Un.laid old (le_of_eq hDe) hHD,(_,hns₁,λi y' v e1 e2 e3=>?_),λy c e=>?_,?_,λy c e=>?_,λp hp=>?_,I2.hok.laid old (le_of_eq hDe) ?_,?_)
  .have e1:(ns++N2)[i]?=some y':=e1;by_cases hin:i<ns.length
   .rw [getElem?_append_left (by rw[length_replicate];exact hin),List.getElem?_replicate,if_pos hin]at e2;cases e2
   .rw [getElem?_append_right (by rw[length_replicate];omega),length_replicate]at e2;rw[getElem?_append_right (by omega)]at e1;have e0:=e1;generalize i-ns.length=i at e0 e1 e2;have e3:Vis (relabel sc X.env) y':=e3;have hyN:y'∈N2:=qb2 e0;have free:sc.names.lookup y'=some .free/\(relabel sc X.env).names.lookup y'≠some .local:=by
     rcases e3 with e|e|e
     .rcases relabel_lookup e with q|⟨q,_⟩
      .exact absurd q (hlo' y' hyN)
      .cases q
     .rcases relabel_lookup e with q|⟨_,q,_⟩
      .exact absurd rfl (hcell _ (PySem.mem_of_lookup q))
      .exact (q,by rw[e];decide)
     .rcases relabel_lookup e with q|⟨q,_⟩
      .exact (q,by rw[e];decide)
      .cases q
    have e1:X.N[i]?=some y':=by
     have hi:i<N2.length:=(qa1 e0).1;have hi2:i<X.N.length:=by omega
     have hm:(y',X.N[i],)∈N2.zip X.N:=by
      have hz:(N2.zip X.N)[i]?=some (y',X.N[i],):=by
       rw[getElem?_zip_eq_some];exact(e0,qa2 hi2)
      exact qb2 hz
     have q:=all_eq_true.mp hz2 _ hm;rcases Bool.or_eq_true_iff.mp q with q|q
     .have:y'=X.N[i]:=eq_of_beq q;rw[qa2 hi2,<-this]
     .have q2:sc.names.lookup y'=none:=by simpa using q
      rw[free.1]at q2;cases q2
    have kc:X.env.kindOf y'=some .cell\/X.env.kindOf y'=some .free:=hfr _ (PySem.mem_of_lookup free.1) rfl;obtain⟨m,hn,hl⟩:=I2.loc;obtain⟨u,ru,lk⟩:=hl i y' v e1 e2 (.inr kc);rcases lk with⟨q,_⟩|⟨_,c,hcc,⟨o,ho,hd⟩⟩
    .rcases kc with z|z<;>(rw[z]at q;cases q)
    .obtain ⟨c',hc'⟩:=hhas _ (PySem.mem_of_lookup free.1) rfl;have e4:=hsub _ _ hc';rw[hcc]at e4;cases e4;refine(u,ru,.inr (?_,c,hc',(o,old c o ho,hd)));rcases e3 with e|e|e
     .exact absurd e free.2
     .exact .inl e
     .exact .inr e
  .obtain ⟨v,o,ho,hd⟩:=I2.cell y c (hsub y c e);exact(v,o,old c o ho,hd)
  .show upd H2 D (.lst []) C=none;rw[upd_ne (neA (by omega))];exact hHC
  .obtain ⟨v,o,ho,hd⟩:=I2.cell y c (hsub y c e);have hlt:=lt_size ho;rw[hDe]at hlt;show upd H2 D (.lst []) c=none;rw[upd_ne (ne_of_lt hlt)];exact I2.freeC y c (hsub y c e)
  .exact absurd (show p∈([]:List (Addr×Obj))from hp) (by simp)
  .exact (zero_le _,[],0,.nil,hacc)
  .show (replicate ns.length none++σ).length=(ns++N2).length;rw[qa5,qa5,length_replicate,I2.len,hl2]
 obtain⟨PT',PE'⟩:=hb cl C fp s2 H2;have fpX:∀{pins':List (Addr×Obj)}{H':Hp},(∀b∈fp,H' b=none)->(∀p∈pins',p.1∉fp)->∀b∈fp,aZ X' pins' H' b:=λhn hp b hb=>by
  refine(hn b hb,?_,nofs b hb,.inl hb,λy c e=>(f2 b hb).2.2.2.2.1 y c (hsub y c e),λp q z=>?_)
  .exact ne_of_lt (lt_of_lt_of_le (fplt b hb) (by omega:D≤C))
  .rcases mem_append.mp q with q|q
   .exact absurd (show p∈([]:List (Addr×Obj))from q) (by simp)
   .exact hp p q (by rw[z];exact hb)
 have loop:∀tk,codeAny (model X.prog X.w) X.A (.compLoop (.ListComp elt [(tg,iter,ifs,0)] sc pos) 0 (.ref it) (.ref D) (compEnvC sc cl C X.env)) (compPost (model X.prog X.w) X.A X.xe use QQ (.ref D) C) {s2 with heap:=h₁,toks:=tk}:=λtk=>by
  refine ip (λn s'=>∃i ys os H',os.length=ns.length/\Inv X' [] (os++σ) H' s'/\tn i s'.heap/\(∀b∈fp,H' b=none)/\W i n ys H') ?_ m0 (0,[],_,_,length_replicate,I4 tk,T.keep _ _ _ st2 λb hb o e=>old b o e,λb hb=>?_,w0)
  .rintro n s3⟨i,ys,os,H3,hos,I3,st3,fr3,w3⟩;obtain⟨hD3,alt⟩:=turn i n ys H3 w3;rcases alt with⟨stop,qn⟩|⟨go,hlen,step⟩
   .refine wpAny_mono (T.done X' rfl rfl rfl hc i [] s3 _ H3 (λ_ _=>False) I3 (fpX fr3 (by simp)) st3 stop) (λr s4 hpq=>?_) λ_ _ f=>f.elim;obtain⟨hr,I4'⟩:=hpq;subst hr;exact fin I2 f2 neC (by omega) I4' qn
   .refine wpAny_mono (T.item X' rfl rfl rfl hc i [] s3 _ H3 (λ_ _=>False) I3 (fpX fr3 (by simp)) st3 go) (λr s4 hpq=>?_) λ_ _ f=>f.elim;obtain⟨u,hr,h4⟩:=hpq;subst hr;refine wpAny_mono h4 (λ_ s5 hpq=>?_) λ_ _ f=>f.elim;obtain⟨z,H5,I5,r5,y5,st5,fr5⟩:=hpq;have I5':=I5.pinned (fpX fr5 (by simp)) (T.obj _ _ st5);obtain⟨vs,hvs,hgx,hte⟩:=step z _ y5;refine wpAny_mono (hpg cl C fp s2 H2 _ s5 σ os H5 z u vs hos hgx I5' r5) (λ_ s6 I6=>?_) λ_ _ f=>f.elim;refine wpAny_mono (PT' _ s6 _ _ _ I6 hte) (λyes s7 hpq=>?_) λ_ _ f=>f.elim;obtain⟨H7,I7,q7⟩:=hpq;cases yes with
    |false=>
     obtain⟨m',hm,w8⟩:=q7;refine(m',hm,i+1,ys,_,_,by rw[qa4];exact hvs,I7.unpinned,T.keep _ _ _ st5 λb hb o e=>(I7.pin (b,o,) (mem_append_right _ (mem_append_right _ (b_e hb e)))).1,λb hb=>?_,w8);obtain⟨o,e,d⟩:=T.obj _ _ st5 b hb;exact(I7.pin (b,o,) (mem_append_right _ (mem_append_right _ (b_e hb e)))).2.1
    |true=>
    refine wpAny_mono (PE' _ s7 _ _ _ I7 q7) (λz s8 hpq=>?_) λ_ _ f=>f.elim;obtain⟨yv,H8,I8,r8,hD8,q8⟩:=hpq;refine wpAny_mono (f_o (X:=X') _ s8 _ H8 (.ref D) [yv] (.ref D) [z] (λ_ H9=>H9=upd H8 D (.lst (ys++[yv]))) I8 rfl (.cons r8 .nil) (D,ys,yv,rfl,rfl,hD8,hlen,rfl)) (λ_ s9 hpq=>?_) λ_ _ f=>f.elim;obtain⟨_,H9,I9,_,e9⟩:=hpq;subst e9;obtain⟨m',hm,w8⟩:=q8;refine(m',hm,i+1,_,_,_,by rw[qa4];exact hvs,I9.unpinned,T.keep _ _ _ st5 λb hb o e=>(I9.pin (b,o,) (mem_append_right _ (mem_append_right _ (b_e hb e)))).1,λb hb=>?_,w8);obtain⟨o,e,d⟩:=T.obj _ _ st5 b hb;exact(I9.pin (b,o,) (mem_append_right _ (mem_append_right _ (b_e hb e)))).2.1
  .show upd H2 D (.lst []) b=none;rw[upd_ne (ne_of_lt (fplt b hb))];exact(f2 b hb).1
 exact codeAny_compStart_list (loop _) (T.self _ _ _ _ _ (T.keep _ _ _ st2 λb hb o e=>old b o e) (loop _))
theorem g_N{σ σ':St}(I2:Inv X pins σ H2 s2)(f2:∀b∈fp,aZ X pins H2 b)(neC:∀b o,s2.heap.get? b=some o->b≠C)(I4':Inv {cxComp X x sc cl C fp s2 H2 with N:=N} [] σ' H3 s4)(qn:Q (.ref D) H3):compPost (model X.prog X.w) X.A X.xe none (EP X pins σ Q) (.ref D) C (.ok .next) s4:=by
 obtain⟨mC,hnC,_⟩:=I4'.loc;refine(mC,hnC,λh' hs'=>?_);have nC:∀b u,H3 b=some u->b≠C:=λb u e z=>by rw[z]at e;rw[show H3 C=none from I4'.free]at e;cases e
 have hok':HOk X.prog X.w H3 h':=λb u e=>(I4'.hok b u e).stay (λc v hcc q=>hs'.extBut c v (by
  rcases hcc with z|z
  .rw [z];exact nC b u e
  .exact nC c _ z) q) (λ_ q=>q) λ_ _ q=>q
 have un:Un (frs X.stack) fp H2 H3 s2.heap h':=
  (λb o e n1 n2 n3=>hs'.extBut b o (neC b o e) (I4'.base.keep b o e n1 n2 n3),λb o e n1 n2 n3=>by
    obtain⟨sl,q⟩:=I4'.base.slot b o e n1 n2 n3;exact(sl,hs'.extBut b _ (neC b o e) q),I4'.base.free,λb o e n1=>by
    obtain⟨o',q⟩:=I4'.base.there b o e n1;exact(o',hs'.extBut b _ (neC b o e) q),I4'.base.tups,I4'.base.frzs,I4'.base.tbls)
 exact(.ref D,H3,I2.call' (s':={s4 with heap:=h'}) I4'.os un hok' I4'.bare λb hb=>((f2 b hb).2.2.2.1,(f2 b hb).2.1,(f2 b hb).2.2.2.2.1,(f2 b hb).2.2.2.2.2),rfl,qn)
theorem g_y(hN2:(x::N2).Nodup)(hx:sc.names.lookup x=some .local)(cl:List (Str×Addr))(C:Addr)(fp:List Addr)(s0:Shared)(H0:Hp)(pins:List (Addr×Obj))(s:Shared)(σ:St)(os:List (Option V))(H:Hp)(y:V)(u:Value)(vs:List V)(ho:os.length=1)(hg:vs=[y])(I:Inv {cxComp X x sc cl C fp s0 H0 with N:=[x]++N2} pins (os++σ) H s)(r:ac y u):wpAny (model X.prog X.w) X.A (assign (.Name x px) (compEnvC sc cl C X.env) u) (λ_ s'=>Inv {cxComp X x sc cl C fp s0 H0 with N:=[x]++N2} pins (vs.map some++σ) H s') (λ_ _=>False) s:=by
 match os,ho with
 |[o],_=>
  have hx':(relabel sc X.env).names.lookup x=some .local:=lookup_relabel_local hx;refine wpAny_mono (f_f (X:={cxComp X x sc cl C fp s0 H0 with N:=[x]++N2}) (i:=0) (pos:=px) hN2 rfl (.inl hx') (.inr hx') _ s _ H y u (λσ' H'=>σ'=some y::σ/\H'=H) I r (rfl,rfl)) (λ_ s6 hpq=>?_) λ_ _ f=>f;obtain⟨σ6,H6,I6,e1,e2⟩:=hpq;subst e1 e2 hg;exact I6
theorem g_x{σ:St}{Q:VK}{J:It}{W:Nat->Nat->List V->Hp->Prop}(h:∀i m ys H2,W i m ys H2->H2 D=some (.lst ys)/\((J.stop i H2/\Q (.ref D) H2)\/(J.go i H2/\ys.length<sizeLine/\∀x H3,J.yld i H2 x H3->tt (some x::σ) H3 λbo H4=>if bo=true then te (some x::σ) H4 λy H5=>H5 D=some (.lst ys)/\∃m',m'<m/\W (i+1) m' (ys++[y]) (upd H5 D (.lst (ys++[y])))else ∃m',m'<m/\W (i+1) m' ys H4))):∀i m ys H2,W i m ys H2->H2 D=some (.lst ys)/\((J.stop i H2/\Q (.ref D) H2)\/(J.go i H2/\ys.length<sizeLine/\∀x H3,J.yld i H2 x H3->∃vs:List V,vs.length=1/\vs=[x]/\tt (vs.map some++σ) H3 λbo H4=>if bo=true then te (vs.map some++σ) H4 λy H5=>H5 D=some (.lst ys)/\∃m',m'<m/\W (i+1) m' (ys++[y]) (upd H5 D (.lst (ys++[y])))else ∃m',m'<m/\W (i+1) m' ys H4)):=
 λi m ys H2 w=>(h i m ys H2 w).imp id λb=>b.imp id λb=>(b.1,b.2.1,λx H3 yl=>([x],rfl,rfl,b.2.2 x H3 yl))
theorem b_w(N2:List Str)(hc:X.calm=true)(hN2:(x::N2).Nodup)(hi:PI X (.Name x px) iter wi)(hb:∀(cl:List (Str×Addr))(C:Addr)(fp:List Addr)(s:Shared)(H:Hp),PTs {cxComp X x sc cl C fp s H with N:=x::N2} ifs tt/\PE {cxComp X x sc cl C fp s H with N:=x::N2} elt te)(hx:sc.names.lookup x=some .local:=by rfl)(hkind:sc.kind=.function:=by rfl)(hnames:∀y∈sc.names,y.2=.local->sc.names.lookup y.1=some .local:=by decide +kernel)(hcell:∀y∈sc.names,y.2≠.cell:=by decide +kernel)(hfree:(sc.names.all λy=>y.2 != .free||X.env.scope.names.lookup y.1==some .cell)=true:=by rfl)(hlo:(N2.all λy=>sc.names.lookup y != some .local)=true:=by rfl)(hl2:N2.length=X.N.length:=by rfl)(hz2:((N2.zip X.N).all λy=>y.1==y.2||sc.names.lookup y.1==none)=true:=by rfl)(hs:∀x,foldedSetIterable iter X.env x=pure x:=by intro _;rfl):PE X (.ListComp elt [(.Name x px,iter,ifs,0)] sc pos) (bZ wi tt te):=by
 intro pins s σ H Q I h;rw[eval_ListComp];refine comp_core (ns:=[x]) (gx:=λy _ vs=>vs=[y]) N2 hc hN2 hi hb (g_y hN2 hx) hkind hnames hcell (all_eq_true.mpr λy hy=>by rw[all_eq_true.mp hfree y hy];rfl) hlo hl2 hz2 hs I h (λJ H1 r D hD=>?_) λI2 f2 neC _ I4 q=>g_N I2 f2 neC I4 q;obtain⟨W,m,turn⟩:=r D hD;exact(W,m,g_x turn)
theorem ca(N2:List Str)(hc:X.calm=true)(hN2:(x::N2).Nodup)(hi:PI X (.Name x px) iter wi)(hb:∀(cl:List (Str×Addr))(C:Addr)(fp:List Addr)(s:Shared)(H:Hp),PTs {cxComp X x sc cl C fp s H with N:=x::N2} ifs tt/\PE {cxComp X x sc cl C fp s H with N:=x::N2} elt te)(hx:sc.names.lookup x=some .local:=by rfl)(hkind:sc.kind=.function:=by rfl)(hnames:∀y∈sc.names,y.2=.local->sc.names.lookup y.1=some .local:=by decide +kernel)(hcell:∀y∈sc.names,y.2≠.cell:=by decide +kernel)(hfree:(sc.names.all λy=>y.2 != .free||X.env.scope.names.lookup y.1==some .cell||X.env.scope.names.lookup y.1==some .free)=true:=by rfl)(hlo:(N2.all λy=>sc.names.lookup y != some .local)=true:=by rfl)(hl2:N2.length=X.N.length:=by rfl)(hz2:((N2.zip X.N).all λy=>y.1==y.2||sc.names.lookup y.1==none)=true:=by rfl)(hs:∀x,foldedSetIterable iter X.env x=pure x:=by intro _;rfl):PE X (.ListComp elt [(.Name x px,iter,ifs,0)] sc pos) (bZ wi tt te):=by
 intro pins s σ H Q I h;rw[eval_ListComp];refine comp_core (ns:=[x]) (gx:=λy _ vs=>vs=[y]) N2 hc hN2 hi hb (g_y hN2 hx) hkind hnames hcell hfree hlo hl2 hz2 hs I h (λJ H1 r D hD=>?_) λI2 f2 neC _ I4 q=>g_N I2 f2 neC I4 q;obtain⟨W,m,turn⟩:=r D hD;exact(W,m,g_x turn)
theorem d_s(N2:List Str){py spos:Pos}(hc:X.calm=true)(hN:X.N.Nodup)(hN2:(x::N2).Nodup)(hj:X.N[j]?=some y)(hyl:Loc X.env.scope y)(hi:PI X (.Name x px) iter wi)(hb:∀(cl:List (Str×Addr))(C:Addr)(fp:List Addr)(s:Shared)(H:Hp),PTs {cxComp X x sc cl C fp s H with N:=x::N2} ifs tt/\PE {cxComp X x sc cl C fp s H with N:=x::N2} elt te)(hx:sc.names.lookup x=some .local:=by rfl)(hkind:sc.kind=.function:=by rfl)(hnames:∀y∈sc.names,y.2=.local->sc.names.lookup y.1=some .local:=by decide +kernel)(hcell:∀y∈sc.names,y.2≠.cell:=by decide +kernel)(hfree:(sc.names.all λy=>y.2 != .free||X.env.scope.names.lookup y.1==some .cell)=true:=by rfl)(hlo:(N2.all λy=>sc.names.lookup y != some .local)=true:=by rfl)(hl2:N2.length=X.N.length:=by rfl)(hz2:((N2.zip X.N).all λy=>y.1==y.2||sc.names.lookup y.1==none)=true:=by rfl)(hs:∀x,foldedSetIterable iter X.env x=pure x:=by intro _;rfl)(hsw:swapsWith (.ListComp elt [(.Name x px,iter,ifs,0)] sc pos) (some (.Name y py)) spos.line X.env=pure true:=by rfl)(hfy:X.fn y=true\/X.env.scope.names.lookup y=some .local:=by first|exact .inl rfl|exact .inr rfl):PS X (.Assign [.Name y py] (.ListComp elt [(.Name x px,iter,ifs,0)] sc pos) spos) (aG (bZ wi tt te) (c_x j)):=by
 intro pins s σ H DD I h;refine comp_used hsw λ_=>comp_core (Q:=λv H1=>c_x j v σ H1 DD.nx) (ns:=[x]) (gx:=λy _ vs=>vs=[y]) N2 hc hN2 hi hb (g_y hN2 hx) hkind hnames hcell (all_eq_true.mpr λy hy=>by rw[all_eq_true.mp hfree y hy];rfl) hlo hl2 hz2 hs I h (λJ H1 r D hD=>?_) λ{s2 s4 H2 H3 fp cl D C os}I2 f2 neC hle I4' qn=>?_
 .obtain ⟨W,m,turn⟩:=r D hD;exact(W,m,g_x (Q:=λv H1=>c_x j v σ H1 DD.nx) turn)
 obtain⟨mC,hnC,_⟩:=I4'.loc;have nC:∀b u,H3 b=some u->b≠C:=λb u e z=>by rw[z]at e;rw[show H3 C=none from I4'.free]at e;cases e
 have un:Un (frs X.stack) fp H2 H3 s2.heap s4.heap:=
  (λb o e n1 n2 n3=>I4'.base.keep b o e n1 n2 n3,λb o e n1 n2 n3=>I4'.base.slot b o e n1 n2 n3,I4'.base.free,λb o e n1=>I4'.base.there b o e n1,I4'.base.tups,I4'.base.frzs,I4'.base.tbls)
 have I5:Inv X pins σ H3 s4:=I2.call' (s':=s4) I4'.os un I4'.hok I4'.bare λb hb=>((f2 b hb).2.2.2.1,(f2 b hb).2.1,(f2 b hb).2.2.2.2.1,(f2 b hb).2.2.2.2.2);obtain⟨oC,epC,esC,hoC,_⟩:=id hnC;have liveL:∃o,s2.heap.get? X.env.locals=some o:=by obtain⟨m,⟨o,es,ep,z,_⟩,_⟩:=I2.loc;exact(o,z)
 have neL:X.env.locals≠C:=by obtain⟨o,z⟩:=liveL;exact neC _ o z
 have neCell:∀y c,X.env.cells.lookup y=some c->c≠C:=λy c e=>by obtain⟨v,o,r,_⟩:=I2.cell y c e;exact neC c o r
 dsimp only[compPost];refine wpAny_assign_Name (b7 I5 hN hj hyl (v:=.ref D) rfl (λs6 I6 hpq=>?_) hfy);obtain⟨a,sb,ha⟩:=hpq;have haC:C≠a:=by
  rcases ha with z|z
  .rw [z];exact Ne.symm neL
  .exact Ne.symm (neCell _ _ z)
 have hoC6:s6.heap.get? C=some oC:=(sb.2 C haC).trans hoC;refine(mC,hnC.sameBut sb haC,λh'' hs''=>?_);have hlt:C<h''.objs.size:=by rw[hs''.1];exact lt_size hoC6
 have hok'':HOk X.prog X.w H3 h'':=λb u e=>(I6.hok b u e).stay (λc v hcc q=>hs''.extBut c v (by
  rcases hcc with z|z
  .rw [z];exact nC b u e
  .exact nC c _ z) q) (λ_ q=>q) λ_ _ q=>q
 have un2:Un (frs X.stack) [C] H3 H3 s6.heap h'':=
  (λb o e n1 n2 n3=>hs''.extBut b o (λz=>n3 (by simp[z])) e,λb o e n1 n2 n3=>(o.slots,hs''.extBut b o (λz=>n3 (by simp[z])) e),λb o e n1 _=>n1,λb o e n1=>(o,hs''.extBut b o (λz=>n1 (by simp[z])) e),λ_ _ q=>q,λ_ _ _ q=>q,λb ps q=>(#[],by rw[Array.append_empty];exact q))
 refine(_,H3,I6.call' (s':={s6 with heap:=h''}) rfl un2 hok'' I6.bare (λb hb=>?_),qn);have eb:b=C:=by simpa using hb
 subst eb;refine(.inr (le_trans I2.sz (by omega)),Ne.symm neL,neCell,λp hp z=>?_);obtain⟨z1,_⟩:=I2.pin p hp;exact neC p.1 p.2 z1 z
theorem d_L(N2:List Str)(hc:X.calm=true)(hN2:(x::y::N2).Nodup)(hi:PI X (.Tuple [.Name x px,.Name y py] kt pt) iter wi)(hb:∀(cl:List (Str×Addr))(C:Addr)(fp:List Addr)(s:Shared)(H:Hp),PTs {cxComp X x sc cl C fp s H with N:=x::y::N2} ifs tt/\PE {cxComp X x sc cl C fp s H with N:=x::y::N2} elt te)(hx:sc.names.lookup x=some .local:=by rfl)(hy:sc.names.lookup y=some .local:=by rfl)(hkind:sc.kind=.function:=by rfl)(hnames:∀y∈sc.names,y.2=.local->sc.names.lookup y.1=some .local:=by decide +kernel)(hcell:∀y∈sc.names,y.2≠.cell:=by decide +kernel)(hfree:(sc.names.all λy=>y.2 != .free||X.env.scope.names.lookup y.1==some .cell||X.env.scope.names.lookup y.1==some .free)=true:=by rfl)(hlo:(N2.all λy=>sc.names.lookup y != some .local)=true:=by rfl)(hl2:N2.length=X.N.length:=by rfl)(hz2:((N2.zip X.N).all λy=>y.1==y.2||sc.names.lookup y.1==none)=true:=by rfl)(hs:∀x,foldedSetIterable iter X.env x=pure x:=by intro _;rfl):PE X (.ListComp elt [(.Tuple [.Name x px,.Name y py] kt pt,iter,ifs,0)] sc pos) (dh X.K wi tt te):=by
 intro pins s σ H Q I h;rw[eval_ListComp];refine comp_core (ns:=[x,y]) (gx:=λv H vs=>∃p a b,v=.ref p/\SqT X.K H p [a,b]/\vs=[a,b]) N2 hc hN2 hi hb (λcl C fp s0 H0 pins s σ os H v u vs ho hg I5 r5=>?_) hkind hnames hcell hfree hlo hl2 hz2 hs I h (λJ H1 r D hD=>?_) λI2 f2 neC _ I4 q=>g_N I2 f2 neC I4 q
 .match os,ho with
  |[o,o'],_=>
   obtain⟨p,a1,a2,rfl,hp,rfl⟩:=hg;have hx':(relabel sc X.env).names.lookup x=some .local:=lookup_relabel_local hx;have hy':(relabel sc X.env).names.lookup y=some .local:=lookup_relabel_local hy;have PG':PG {cxComp X x sc cl C fp s0 H0 with N:=[x,y]++N2} (.Tuple [.Name x px,.Name y py] kt pt) (si X.K 2 (mZ (c_x 0) (mZ (c_x 1) gNil))):=ia hc (c_T (f_f (i:=0) hN2 rfl (.inl hx') (.inr hx')) (c_T (f_f (i:=1) hN2 rfl (.inl hy') (.inr hy')) dA));refine wpAny_mono (PG' _ s _ H (.ref p) u (λσ' H'=>σ'=some a1::some a2::σ/\H'=H) I5 r5 (p,_,rfl,hp,rfl,_,_,rfl,_,_,rfl,rfl,rfl,rfl)) (λ_ s6 hpq=>?_) λ_ _ f=>f;obtain⟨σ6,H6,I6,e1,e2⟩:=hpq;subst e1 e2;exact I6
 .obtain ⟨W,m,turn⟩:=r D hD;exact(W,m,λi m ys H2 w=>(turn i m ys H2 w).imp id λb=>b.imp id λb=>(b.1,b.2.1,λv H3 yl=>by
   obtain⟨p,a1,a2,e,hp,ht⟩:=b.2.2 v H3 yl;exact([a1,a2],rfl,(p,a1,a2,e,hp,rfl),ht)))
end
section
variable{X:Cx}{elt iter:Expr}{x y:Str}{px py pt pos:Pos}{kt:Nat}{sc:Scope}{wi:TI}{te:TE}
theorem fe(N2:List Str)(hc:X.calm=true)(hN2:(x::y::N2).Nodup)(hi:PI X (.Tuple [.Name x px,.Name y py] kt pt) iter wi)(hb:∀(cl:List (Str×Addr))(C:Addr)(fp:List Addr)(s:Shared)(H:Hp),PE {cxComp X x sc cl C fp s H with N:=x::y::N2} elt te)(hx:sc.names.lookup x=some .local:=by rfl)(hy:sc.names.lookup y=some .local:=by rfl)(hkind:sc.kind=.function:=by rfl)(hnames:∀y∈sc.names,y.2=.local->sc.names.lookup y.1=some .local:=by decide +kernel)(hcell:∀y∈sc.names,y.2≠.cell:=by decide +kernel)(hfree:(sc.names.all λy=>y.2 != .free||X.env.scope.names.lookup y.1==some .cell||X.env.scope.names.lookup y.1==some .free)=true:=by rfl)(hlo:(N2.all λy=>sc.names.lookup y != some .local)=true:=by rfl)(hl2:N2.length=X.N.length:=by rfl)(hz2:((N2.zip X.N).all λy=>y.1==y.2||sc.names.lookup y.1==none)=true:=by rfl)(hs:∀x,foldedSetIterable iter X.env x=pure x:=by intro _;rfl):PE X (.ListComp elt [(.Tuple [.Name x px,.Name y py] kt pt,iter,[],0)] sc pos) (gZ X.K wi te):=d_L N2 hc hN2 hi (λcl C fp s H=>(a_M,hb cl C fp s H)) hx hy hkind hnames hcell hfree hlo hl2 hz2 hs
end
theorem d_B{K:Frag}{J:It}{tt:TT}{te:TE}{σ:St}{Q:VK}(Pr:Nat->V->V->Prop)(Pv:Addr->Nat->List V->Hp->Prop)(hz:n≤sizeLine)(j1:∀i H2,Same H H2->i<n->J.go i H2)(j2:∀i H2 x H3,Same H H2->i<n->J.yld i H2 x H3->∃p a b,x=.ref p/\Pr i a b/\H2 p=none/\H3=upd H2 p (.tup [a,b]))(j3:∀H2,Same H H2->J.stop n H2)(h0:∀D,H D=none->Pv D 0 [] (upd H D (.lst [])))(hs:∀(D:Addr)(i:Nat)(a b:V)(ys:List V)(H' H3:Hp)(R1:VK)(R2:Hp->Prop),H D=none->i<n->Pr i a b->Same H H'->H' D=some (.lst ys)->Pv D i ys H'->Same H' H3->
   (∀y H5,H5 D=some (.lst ys)->Same H (upd H5 D (.lst (ys++[y])))->Pv D (i+1) (ys++[y]) (upd H5 D (.lst (ys++[y])))->R1 y H5)->(∀H4,Same H H4->H4 D=some (.lst ys)->Pv D (i+1) ys H4->R2 H4)->
   tt (some a::some b::σ) H3 λc H4=>if c=true then te (some a::some b::σ) H4 R1 else R2 H4)(hq:∀D ys H',H D=none->Same H H'->H' D=some (.lst ys)->Pv D n ys H'->Q (.ref D) H'):∀D,H D=none->∃W:Nat->Nat->List V->Hp->Prop,
   (∃m,W 0 m [] (upd H D (.lst [])))/\∀i m ys H2,W i m ys H2->H2 D=some (.lst ys)/\((J.stop i H2/\Q (.ref D) H2)\/(J.go i H2/\ys.length<sizeLine/\∀x H3,J.yld i H2 x H3->
    ∃p a b,x=.ref p/\SqT K H3 p [a,b]/\tt (some a::some b::σ) H3 λbo H4=>if bo=true then te (some a::some b::σ) H4 λy H5=>H5 D=some (.lst ys)/\∃m',m'<m/\W (i+1) m' (ys++[y]) (upd H5 D (.lst (ys++[y])))else ∃m',m'<m/\W (i+1) m' ys H4)):=by
 intro D hD;refine(λi m ys H2=>m=n-i/\i≤n/\ys.length≤i/\Same H H2/\H2 D=some (.lst ys)/\Pv D i ys H2,(n,by simp,zero_le _,by simp,Same.upd hD,a_c,h0 D hD),?_);rintro i m ys H2⟨rfl,hi,hy,hsm,hDl,hp⟩;refine(hDl,?_);by_cases hlt:i<n
 .refine .inr (j1 i H2 hsm hlt,lt_of_le_of_lt hy (lt_of_lt_of_le hlt hz),λx H3 hyl=>?_);obtain⟨p,a,b,rfl,hab,hpn,rfl⟩:=j2 i H2 x H3 hsm hlt hyl;exact(p,a,b,rfl,SqT.of a_c,hs D i a b ys H2 _ _ _ hD hlt hab hsm hDl hp (Same.upd hpn) (λy H5 e1 e2 e3=>(e1,n-(i+1),sub_succ_lt_self _ _ hlt,rfl,hlt,by rw[qa5];exact Nat.succ_le_succ hy,e2,a_c,e3)) (λH4 e1 e2 e3=>(n-(i+1),sub_succ_lt_self _ _ hlt,rfl,hlt,Nat.le_succ_of_le hy,e1,e2,e3)))
 .have e:i=n:=le_antisymm hi (le_of_not_lt hlt);subst e;exact .inl (j3 H2 hsm,hq D ys H2 hD hsm hDl hp)
end L2
namespace RA
open PySem L2
theorem e_y{K:Frag}{σ:St}(ht:∀R:List V->Hp->Prop,R [.ref c] H->t σ H R)(ho:o=.lst xs\/o=.tup xs)(hH:H c=some o)(Pv:Addr->Nat->List V->Hp->Prop)(hz:xs.length≤sizeLine)(h0:∀D,H D=none->Pv D 0 [] (L2.upd H D (.lst [])))(hs:∀(D:Addr)(i:Nat)(x:V)(ys:List V)(H' H3:Hp)(R1:VK)(R2:Hp->Prop),H D=none->xs[i]?=some x->Same H H'->H' D=some (.lst ys)->Pv D i ys H'->Same H' H3->
   (∀y H5,H5 D=some (.lst ys)->Same H (L2.upd H5 D (.lst (ys++[y])))->Pv D (i+1) (ys++[y]) (L2.upd H5 D (.lst (ys++[y])))->R1 y H5)->(∀H4,Same H H4->H4 D=some (.lst ys)->Pv D (i+1) ys H4->R2 H4)->
   tt (some (.int (i:Int))::some x::σ) H3 λc H4=>if c=true then te (some (.int (i:Int))::some x::σ) H4 R1 else R2 H4)(hq:∀D ys H',H D=none->Same H H'->H' D=some (.lst ys)->Pv D xs.length ys H'->Q (.ref D) H'):dh K (iC t) tt te σ H Q:=by
 have hs':∀(D:Addr)(i:Nat)(a b:V)(ys:List V)(H' H3:Hp)(R1:VK)(R2:Hp->Prop),H D=none->i<xs.length->(a=.int (i:Int)/\xs[i]?=some b)->Same H H'->H' D=some (.lst ys)->Pv D i ys H'->Same H' H3->
   (∀y H5,H5 D=some (.lst ys)->Same H (L2.upd H5 D (.lst (ys++[y])))->Pv D (i+1) (ys++[y]) (L2.upd H5 D (.lst (ys++[y])))->R1 y H5)->(∀H4,Same H H4->H4 D=some (.lst ys)->Pv D (i+1) ys H4->R2 H4)->
   tt (some a::some b::σ) H3 λc H4=>if c=true then te (some a::some b::σ) H4 R1 else R2 H4:=by
  rintro D i a b ys H' H3 R1 R2 hD _⟨rfl,hb⟩a1 a2 a3 a4 a5 a6;exact hs D i b ys H' H3 R1 R2 hD hb a1 a2 a3 a4 a5 a6
 refine ht _ (c,xs,rfl,?_);rcases ho with rfl|rfl
 .refine .inr (hH,d_B (K:=K) (n:=xs.length) (λi a b=>a=.int (i:Int)/\xs[i]?=some b) Pv hz (λi H2 s h=>(xs,xs[i],s _ _ hH,qa2 h)) ?_ (λH2 s=>(xs,s _ _ hH,rfl)) h0 hs' hq);rintro i H2 x H3 s h⟨p,y,zs,e1,e2,e3,e4,e5⟩;rw[s _ _ hH]at e1;cases e1;exact(p,_,y,e3,(rfl,e2),e4,e5)
 .refine .inl (hH,d_B (K:=K) (n:=xs.length) (λi a b=>a=.int (i:Int)/\xs[i]?=some b) Pv hz (λi H2 s h=>(xs,xs[i],s _ _ hH,qa2 h)) ?_ (λH2 s=>(xs,s _ _ hH,rfl)) h0 hs' hq);rintro i H2 x H3 s h⟨p,y,zs,e1,e2,e3,e4,e5⟩;rw[s _ _ hH]at e1;cases e1;exact(p,_,y,e3,(rfl,e2),e4,e5)
theorem gr{xs zs:List V}{σ:St}(ht:∀R:List V->Hp->Prop,R [.ref c,.ref d] H->t σ H R)(hH:H c=some (.lst xs))(hK:H d=some (.lst zs))(hl:xs.length=zs.length)(Pv:Addr->Nat->List V->Hp->Prop)(hz:xs.length≤sizeLine)(h0:∀D,H D=none->Pv D 0 [] (L2.upd H D (.lst [])))(hs:∀(D:Addr)(i:Nat)(x z:V)(ys:List V)(H' H3:Hp)(R1:VK),H D=none->xs[i]?=some x->zs[i]?=some z->Same H H'->H' D=some (.lst ys)->Pv D i ys H'->Same H' H3->
   (∀y H5,H5 D=some (.lst ys)->Same H (L2.upd H5 D (.lst (ys++[y])))->Pv D (i+1) (ys++[y]) (L2.upd H5 D (.lst (ys++[y])))->R1 y H5)->te (some x::some z::σ) H3 R1)(hq:∀D ys H',H D=none->Same H H'->H' D=some (.lst ys)->Pv D xs.length ys H'->Q (.ref D) H'):gZ K (pF t) te σ H Q:=by
 refine ht _ (_,_,rfl,.inr (.inr (c,d,xs,zs,rfl,rfl,hH,hK,λ_=>?_)));refine e_s (K:=K) (J:=Itg (.ls c) (.ls d)) (n:=xs.length) (λi a b=>xs[i]?=some a/\zs[i]?=some b) Pv hz (λi H2 s h=>(xs,zs,xs[i],zs[i]'(by omega),s _ _ hH,s _ _ hK,qa2 h,qa2 _)) ?_ (λH2 s=>(xs,zs,s _ _ hH,s _ _ hK,hl,rfl)) h0 ?_ hq
 .rintro i H2 x H3 s h⟨p,as,bs,a,b,e1,e2,e3,e4,e5,e6,e7⟩;have e1:H2 c=some (.lst as):=e1;have e2:H2 d=some (.lst bs):=e2;rw[s _ _ hH]at e1;rw[s _ _ hK]at e2;cases e1;cases e2;exact(p,a,b,e5,(e3,e4),e6,e7)
 .rintro D i a b ys H' H3 R1 hD hi⟨ha,hb⟩a1 a2 a3 a4 a5;exact hs D i a b ys H' H3 R1 hD ha hb a1 a2 a3 a4 a5
end RA
namespace L2
open PySem PySem.Spec PyProof.Rows
theorem kK{g:TG}{tb:TS}{D:Ends}(Pv:Nat->St->Hp->Prop)(h0:Pv 0 σ H)(hh:∀i σ H,Pv i σ H->H a=some (.lst xs))(hs:∀i x p σ H,xs[i]?=some x->H p=none->Pv i σ H->g (.ref p) σ (upd H p (.tup [.int (i:Int),x])) λσ2 H2=>tb {D with nx:=Pv (i+1),ct:=Pv (i+1),bk:=D.nx} σ2 H2)(hd:∀σ H,Pv xs.length σ H->D.nx σ H):∃W:Nat->Nat->St->Hp->Prop,(∃m,W 0 m σ H)/\∀i m σ H,W i m σ H->
   ((iN a).stop i H/\D.nx σ H)\/((iN a).go i H/\∃N:St->Hp->Prop,(∀σ' H',N σ' H'->∃m',m'<m/\W (i+1) m' σ' H')/\∀v H',(iN a).yld i H v H'->g v σ H' λσ2 H2=>tb {D with nx:=N,ct:=N,bk:=D.nx} σ2 H2):=by
 refine(λi m σ H=>m=xs.length-i/\i≤xs.length/\Pv i σ H,(xs.length,by simp,zero_le _,h0),?_);rintro i m σ H⟨rfl,hi,p⟩;have h1:=hh i σ H p;by_cases hlt:i<xs.length
 .refine .inr ((xs,xs[i],h1,qa2 _),Pv (i+1),λσ' H' p'=>(xs.length-(i+1),by omega,rfl,hlt,p'),λv H' q=>?_);obtain⟨b,x,xs',e1,e2,rfl,e3,rfl⟩:=q;rw[h1]at e1;cases e1;exact hs i x b σ H e2 e3 p
 .have e:i=xs.length:=by omega
  subst e;exact .inl ((xs,h1,rfl),hd σ H p)
end L2
namespace RA
open PySem L2
def pO(H:Hp)(wy mk p:Addr)(W:LL)(B:List Bool)(most:Nat)(m:Nat)(σ:St)(H':Hp):Prop:=∃(k:Nat)(lots:List Addr)(s4 s5:Option V),m=eM W.length (Rd W B k)/\σ=[some (.ref wy),some (.ref mk),some (.int (most:Int)),some (.ref p),s4,s5]/\Same H H'/\H' p=some (.lst (lots.map V.ref))/\lots.length=k+1/\f_E H' lots W B/\∀i<k,Rd W B (i+1)≠Rd W B i
theorem d_e.sameL(h:d_e H rows R)(s:Same H H'):d_e H' rows R:=(h.1,λi a r a1 a2=>s _ _ (h.2 i a r a1 a2))
theorem d_e.row(h:d_e H rows R)(hr:r<R.length):∃a,rows[r]?=some a/\H a=some (.lst (intsV (R.getD r []))):=by
 have hi:r<rows.length:=by rw[h.1];exact hr
 refine(rows[r],qa2 hi,?_);rw[qa3,qa2 hr];exact h.2 r _ _ (qa2 hi) (qa2 hr)
theorem d_e.toQ(h:d_e H rows R):pN H rows R:=λi r e=>by
 have hi:i<R.length:=by rw[<-h.1];exact(qa1 e).1
 exact(R[i],qa2 hi,_,.inl rfl,h.2 i r _ e (qa2 hi))
def bR:Nat->LL
 |0=>[[]]
 |n+1=>bR n++(bR n).map (·++[n])
theorem eS:∀n,(bR n).length=2^n
 |0=>rfl
 |n+1=>by
  rw[bR,qa5,qa4,eS n,Nat.pow_succ];omega
theorem eT(h:n≤8):(bR n).length≤256:=by
 rw[eS];exact Nat.pow_le_pow_right (by decide) h
theorem c_z(p:Nat->Bool):∀n,(List.range n).filter p∈bR n
 |0=>by simp[bR]
 |n+1=>by
  rw[List.range_succ,List.filter_append,bR];cases h:p n with
  |false=>
   rw[List.filter_cons_of_neg (by simp[h]),List.filter_nil,append_nil];exact mem_append_left _ (c_z p n)
  |true=>
   rw[List.filter_cons_of_pos h,List.filter_nil];exact mem_append_right _ (mem_map.mpr (_,c_z p n,rfl))
def g_F(W:LL)(S:LN)(j:Nat):LN:=(List.range W.length).filter λr=>S.contains (goal W r j)
def markR(W:LL)(B:List Bool):LN:=(List.range W.length).filter λr=>B.getD r false
def mW(S:LN):Bool:=S.contains 0
section
variable{L:LN}{W:LL}{B:List Bool}{g:LN->Nat->LN}{s:LN}{mk:LN->Bool}{ks ws R:LL}{Bm:List Bool}
theorem c_k(hL:Let L)(bf:Bf g L s ks ws ks.length 0)(ways:b_C g L.length ks R)(hR:R.length=ks.length)(bl:Bm.length=R.length)(le:ks.length≤2100):Mach L R Bm where
 lt:=hL
 n1:=by rw[hR];exact(qa1 bf.t0).1
 n60:=by rw[hR];exact le
 bl:=bl
 row:=λr hr=>by
  obtain⟨i,hi⟩:=mem_iff_getElem?.mp hr;have hil:i<ks.length:=by rw[<-hR];exact(qa1 hi).1
  obtain⟨h1,h2⟩:=ways.row i r _ hi (qa2 hil);refine(h1,λx hx=>?_);obtain⟨q,hq⟩:=mem_iff_getElem?.mp hx;rw[hR];exact(qa1 (h2 q x hq)).1
theorem c_S(v:LN)(c:Nat):aD g L s (v++[c])=g (aD g L s v) (L.idxOf c):=by
 unfold aD;rw[List.foldl_append];rfl
theorem e_R(bf:Bf g L s ks ws ks.length 0)(ways:b_C g L.length ks R)(hR:R.length=ks.length):∀(n:Nat)(w:LN),w.length=n->(∀c∈w,c∈L)->ks[run L R 0 w]?=some (aD g L s w):=by
 intro n;induction n with
 |zero=>
  intro w hw _;rw[length_eq_zero_iff.mp hw];exact bf.t0
 |succ n ih=>
  intro w hw hL;obtain⟨c,v,rfl⟩:∃c v,w=v++[c]:=(w.getLast (by intro z;rw[z]at hw;cases hw),w.dropLast,(List.dropLast_concat_getLast _).symm);have h1:=ih v (by simpa using hw) λx hx=>hL x (by simp[hx]);have hc:L.idxOf c<L.length:=idxOf_lt_length_of_mem (hL c (by simp));have hr:run L R 0 v<R.length:=by rw[hR];exact(qa1 h1).1
  obtain⟨e1,e2⟩:=ways.row _ _ _ (qa2 hr) h1;have e3:=e2 (L.idxOf c) _ (qa2 (by rw[e1];exact hc));rw[b_i,c_S];have e4:nxt L R (run L R 0 v) c=R[run L R 0 v][L.idxOf c]'(by rw[e1];exact hc):=by
   unfold nxt;rw[qa3 (l:=R),qa2 hr];show(R[run L R 0 v]).getD _ 0=_;rw[qa3,qa2 (by rw[e1];exact hc)];rfl
  rw[e4];exact e3
theorem b_M(bf:Bf g L s ks ws ks.length 0)(ways:b_C g L.length ks R)(hR:R.length=ks.length)(bl:Bm.length=R.length)(mks:∀(r:Nat)(k:LN)(b:Bool),ks[r]?=some k->Bm[r]?=some b->b=mk k)(hw:∀c∈w,c∈L):Bm.getD (run L R 0 w) false=mk (aD g L s w):=by
 have h1:=e_R bf ways hR _ w rfl hw;have hr:run L R 0 w<Bm.length:=by rw[bl,hR];exact(qa1 h1).1
 rw[qa3,qa2 hr];exact mks _ _ _ h1 (qa2 hr)
theorem li(hMa:Mach L W B):∀(u:LN),(∀c∈u,c∈L)->∀r,r<W.length->((aD (g_F W) L (markR W B) u).contains r=B.getD (run L W r u.reverse) false):=by
 intro u hu;obtain⟨n,hn⟩:∃n,u.length=n:=(_,rfl);induction n generalizing u with
 |zero=>
  intro r hr;rw[length_eq_zero_iff.mp hn];show(markR W B).contains r=_;unfold markR;rw[Bool.eq_iff_iff,contains_iff_mem,mem_filter,mem_range];exact(λz=>z.2,λz=>(hr,z))
 |succ n ih=>
  intro r hr;obtain⟨c,v,rfl⟩:∃c v,u=v++[c]:=(u.getLast (by intro z;rw[z]at hn;cases hn),u.dropLast,(List.dropLast_concat_getLast _).symm);have hc:c∈L:=hu c (by simp);have hlt:goal W r (L.idxOf c)<W.length:=b_E hMa hr (idxOf_lt_length_of_mem hc);rw[c_S,List.reverse_append];show _=B.getD (run L W (nxt L W r c) v.reverse) false;rw[<-ih v (λx hx=>hu x (by simp[hx])) (by simpa using hn) _ (by rw[c_V];exact hlt),c_V];unfold g_F;rw[Bool.eq_iff_iff,contains_iff_mem,mem_filter,mem_range];exact(λz=>z.2,λz=>(hr,z))
theorem gO(hMa:Mach L W B)(hu:∀c∈u,c∈L):mW (aD (g_F W) L (markR W B) u)=B.getD (run L W 0 u.reverse) false:=li hMa u hu 0 hMa.n1
end
end RA
namespace L2
open PySem PySem.Spec PyProof.Rows
structure e_Q(N:List Str)(x:Str)(fr:List Str)(sc:Scope):Prop where
 kind:sc.kind=.function
 co:sc.isCoroutine=false
 gen:sc.isGenerator=false
 nd:N.Nodup
 pre:N.take 1=[x]
 suf:N.drop (N.length-fr.length)=fr
 fit:1+fr.length≤N.length
 par:sc.names.lookup x=some .cell
 only:∀y∈sc.names,y.2=.cell->y.1=x
 lay:∀n acc,cellsFrom n sc.names acc=(x,n,)::acc
 push:∀h,pushCells h sc.names=h.push {cls:=.type "cell",data:=.cell none}
theorem env_one{M:Model}{A:Around}{E:Value->Shared->Prop}{s:Shared}{scope:Scope}{globals:Addr}{code:Value}(S:e_Q N x fr scope)(hQ:∀h' tk,h'.Ns s.heap.objs.size (λ_=>none)->h'.IsCell (s.heap.objs.size+1) (some u)->(∀b o,s.heap.get? b=some o->h'.get? b=some o)->Q (newEnv scope s.heap.objs.size globals ((x,s.heap.objs.size+1,)::clos) qual func code none builtins) {s with heap:=h',toks:=tk}):wpAny M A (newFunctionEnv scope globals clos [(x,u,)] qual func code none builtins) Q E s:=by
 simp only[Option.isSome_none,newFunctionEnv,if_false,Bool.false_eq_true];refine qa7 (wpAny_alloc (qa7 (wpAny_layCells _ (λnm kd cs=>by cases z:kd==NameKind.cell<;>simp[z]) _ _ _ _ ?_)));rw[S.lay,S.push];have e1:(s.heap.push {cls:=.type "frame",data:=.dict #[]}).objs.size=s.heap.objs.size+1:=size_push ..;have k1:∀b o,s.heap.get? b=some o->((s.heap.push {cls:=.type "frame",data:=.dict #[]}).push {cls:=.type "cell",data:=.cell none}).get? b=some o:=λb o e=>qa9 _ (qa9 _ e);have hc0:((s.heap.push {cls:=.type "frame",data:=.dict #[]}).push {cls:=.type "cell",data:=.cell none}).IsCell (s.heap.objs.size+1) none:=(_,by rw[<-e1];exact get?_push_size _ rfl,rfl);have hn0:((s.heap.push {cls:=.type "frame",data:=.dict #[]}).push {cls:=.type "cell",data:=.cell none}).Ns s.heap.objs.size (λ_=>none):=(Heap.Ns.new s.heap (.type "frame")).keeps λb o e=>qa9 _ e;dsimp only;rw[e1];generalize (s.heap.push {cls:=.type "frame",data:=.dict #[]}).push {cls:=.type "cell",data:=.cell none}=hh at k1 hc0 hn0⊢;refine qa7 ?_;rw[forIn_cons];have lk:((x,s.heap.objs.size+1,)::clos).lookup x=some (s.heap.objs.size+1):=by rw[lookup_cons];simp
 refine qa7 (qa7 (wpAny_storeName_cell (c:=s.heap.objs.size+1) (v₀:=none) S.kind S.par lk hc0 λh' hv hs=>qa8 ?_));dsimp only;rw[forIn_nil];refine qa8 (qa8 ?_);have nb:∀{b:Addr}{o:Obj},s.heap.get? b=some o->b≠s.heap.objs.size+1:=λe=>ne_of_lt (lt_succ_of_lt (lt_size e));exact hQ h' _ (hn0.sameBut hs (ne_of_lt (lt_succ_self _))) hv λb o e=>hs.extBut b o (nb e) (k1 b o e)
def gp(CX:CXT)(P:Program)(w:World)(K:Frag)(mg:Str->Option Value)(base:Heap)(N:List Str)(x:Str)(qual:Str)(scope:Scope)(f:Addr)(cd:Value)(clos:List (Str×Addr))(A:Around)(outer:List Env)(s:Shared)(H:Hp)(E:XK):Cx:=bj CX P w K mg base N qual scope f cd ((x,s.heap.objs.size+1,)::clos) A outer s H E
section
variable{CX:CXT}{P:Program}{w:World}{K:Frag}{mg:Str->Option Value}{base:Heap}{N fr:List Str}{x:Str}{qual:Str}{scope:Scope}{f:Addr}{cd:Value}{clos:List (Str×Addr)}{A:Around}{outer:List Env}{s:Shared}{H:Hp}{E:XK}{u:Value}{v:V}{fvs:List V}
theorem iB(S:e_Q N x fr scope)(C:a_w base clos scope fr fvs)(hd:A.handled=none)(e0:bn P w K mg base A outer s H)(r:ac v u)(hns:h'.Ns s.heap.objs.size (λ_=>none))(hcell:h'.IsCell (s.heap.objs.size+1) (some u))(hk:∀b o,s.heap.get? b=some o->h'.get? b=some o):Inv (gp CX P w K mg base N x qual scope f cd clos A outer s H E) [] (b_N N [v] fvs) H {s with heap:=h',toks:=tk}:=by
 have noA:∀b:Addr,b∉(gp CX P w K mg base N x qual scope f cd clos A outer s H E).ex:=λb z=>absurd (show b∈([]:List Addr)from z) (by simp);have cellK:∀c v,base.IsCell c v->h'.IsCell c v:=λc v hZ2=>by obtain⟨o,ho,hd⟩:=hZ2;exact(o,hk c o (e0.bs c o ho).1,hd)
 have cellLt:∀y c,clos.lookup y=some c->c<s.heap.objs.size:=λy c h=>by
  obtain⟨v,o,ho,_⟩:=C.cell y c h;exact lt_size (e0.bs c o ho).1
 have hfit:=S.fit;have hfl:=C.len;have lkx:((x,s.heap.objs.size+1,)::clos).lookup x=some (s.heap.objs.size+1):=by rw[lookup_cons];simp
 have lk:∀{y c},((x,s.heap.objs.size+1,)::clos).lookup y=some c->(y=x/\c=s.heap.objs.size+1)\/clos.lookup y=some c:=λ{y c}h=>by
  rw[lookup_cons]at h;by_cases z:y=x
  .subst z;simp at h;exact .inl (rfl,h.symm)
  .rw [show(y==x)=false by simpa using z]at h;exact .inr h
 have lkc:∀{y c},clos.lookup y=some c->∃c',((x,s.heap.objs.size+1,)::clos).lookup y=some c':=λ{y c}h=>by
  rw[lookup_cons];cases(y==x)with
  |true=>exact(_,rfl)
  |false=>exact(c,h)
 refine((e0.mod,S.kind,rfl,rfl,le_refl _,λy z c h1 h2=>?_,λy hy=>?_,λy c h=>absurd (show false=true from h) Bool.false_ne_true,λ_=>hd,Around.frames_deeper e0.frames,.inr (rfl,rfl),λb z=>absurd z (noA b),e0.bs,e0.bsz,λb _ _=>noA b,λb z=>absurd z (noA b),e0.funs,e0.frf),
  rfl,e0.bare,Un.kept hk,(_,hns,λi y v' h1 h2 h3=>?_),λy c h=>?_,e0.hok.fresh (le_refl _),λy c h=>?_,λp hp=>absurd (show p∈([]:List (Addr×Obj))from hp) (by simp),e0.hok.kept hk,?_)
 .rcases lk h1 with⟨a1,a2⟩|a<;>rcases lk h2 with⟨b1,b2⟩|b
  .rw [a1,b1]
  .have q:=cellLt _ _ b;rw[a2]at q;exact absurd q (Nat.not_lt_of_le (le_succ _))
  .have q:=cellLt _ _ a;rw[b2]at q;exact absurd q (Nat.not_lt_of_le (le_succ _))
  .exact C.inj y z c a b
 .have hy:scope.names.lookup y=some .cell\/scope.names.lookup y=some .free:=hy;rcases hy with hy|hy
  .obtain rfl:y=x:=S.only _ (PySem.mem_of_lookup hy) rfl;exact(_,lkx)
  .obtain ⟨c,hc⟩:=C.has _ (PySem.mem_of_lookup hy) rfl;exact lkc hc
 .have h1:N[i]?=some y:=h1;have hi:i<N.length:=(qa1 h1).1;unfold b_N at h2;by_cases hiv:i<1
  .obtain rfl:i=0:=by omega
   have e:v=v':=by simpa using h2
   subst e;have hx:N[0]?=some x:=by
    have q:(N.take 1)[0]?=some x:=by rw[S.pre];rfl
    rw[List.getElem?_take_of_lt (by decide)]at q;exact q
   rw[hx]at h1;cases h1;exact(u,r,.inr (.inl S.par,_,lkx,hcell))
  .rw [getElem?_append_right (by simp;omega)]at h2;rw[qa4,List.length_singleton]at h2;by_cases hir:i-1<N.length-1-fvs.length
   .rw [getElem?_append_left (by simpa using hir),List.getElem?_replicate,if_pos hir]at h2;cases h2
   .rw [getElem?_append_right (by simpa using hir),length_replicate,qa6]at h2;have ej:i-1-(N.length-1-fvs.length)=i-(N.length-fr.length):=by omega
    rw[ej]at h2;cases e:fvs[i-(N.length-fr.length)]? with
    |none=>rw[e]at h2;cases h2
    |some a=>
     rw[e]at h2;cases h2;have hf:fr[i-(N.length-fr.length)]?=some y:=by
      have q:(N.drop (N.length-fr.length))[i-(N.length-fr.length)]?=some y:=by
       rw[List.getElem?_drop,show N.length-fr.length+(i-(N.length-fr.length))=i by omega];exact h1
      rw[S.suf]at q;exact q
     obtain⟨k1,c,u',k2,k3,k4⟩:=C.val _ _ _ hf e;have hyx:y≠x:=λz=>by rw[z,S.par]at k1;cases k1
     have k2':((x,s.heap.objs.size+1,)::clos).lookup y=some c:=by rw[lookup_cons,show(y==x)=false by simpa using hyx];exact k2
     exact(u',k4,.inr (.inr k1,c,k2',cellK c _ k3))
 .rcases lk h with⟨_,z⟩|z
  .rw [z];exact(_,hcell)
  .obtain ⟨v,q⟩:=C.cell y c z;exact(v,cellK c v q)
 .rcases lk h with⟨_,z⟩|z
  .rw [z];exact e0.hok.fresh (le_succ _)
  .obtain ⟨v,o,ho,_⟩:=C.cell y c z;exact(e0.bs c o ho).2
 .unfold b_N;show _=N.length;simp only[qa5,qa4,length_replicate,List.length_singleton];omega
theorem fn_ofD(ho:base.get? f=some o)(hd:o.data=.func (PySem.W.fnX name qual params body scope clos .none .none doc pm none (.ref c') ctv))(hcd:base.CodeRec (.ref c') qual)(S:e_Q N x fr scope)(C:a_w base clos scope fr fvs)(len:∀vs H Q E,sp vs H Q E->vs.length=[x].length)(hbody:∀(A:Around)(outer:List Env)(s:Shared)(H:Hp)(v:V)(Q:VK)(E:XK),af k (A.deeper (envX qual scope s.heap.objs.size f (.ref c') ((x,s.heap.objs.size+1,)::clos)))->sp [v] H Q E->
   ∃t,PSs (gp CX0 P w K mg base N x qual scope f (.ref c') clos A outer s H E).nox body t/\t {nx:=λ_ H'=>Q .non H',rt:=Q} (b_N N [v] fvs) H):aa P w K mg base CX0 (k+1) f (PySem.W.fnX name qual params body scope clos .none .none doc pm none (.ref c') ctv) [x] sp:=by
 refine(len,λA outer s H args us vs Q E hr e0 hb r hsp=>?_);have hl:=len _ _ _ _ hsp;obtain⟨v,rfl⟩:∃v,vs=[v]:=by
  match vs,hl with
  |[v],_=>exact(v,rfl)
 obtain⟨u,rfl,ru⟩:=e_h r;have lim:s.heap.NoLimit:=e0.mod.nolimit.keeps λb o e=>(e0.bs b o e).1;have hcd':s.heap.CodeRec (.ref c') qual:=by
  obtain⟨c,oc,ws,t,e1,e2,e3,e4⟩:=hcd;exact(c,oc,ws,t,e1,(e0.bs c oc e2).1,e3,e4)
 refine codeAny_call_function hr.depth (e0.bs f o ho).1 hd S.co S.gen rfl hcd' (hb _ _ _ _ ?_);refine env_one S λh' tk hns hcell hkp=>?_;refine(lim.keeps hkp,codeAny_func ?_);obtain⟨t,ht,hq⟩:=hbody A outer s H v Q E (hr.deeper _) hsp;have I:Inv (gp CX0 P w K mg base N x qual scope f (.ref c') clos A outer s H E) [] (b_N N [v] fvs) H {s with heap:=h',toks:=tk}:=iB S C hr.hd e0 ru hns hcell hkp;refine wpAny_mono (ht.nox [] _ (b_N N [v] fvs) H _ I hq) (λfl s' hs=>?_) λe s' hs=>hs;have fin:∀{σ':St}{H':Hp}{v:V}{u:Value},Inv (gp CX0 P w K mg base N x qual scope f (.ref c') clos A outer s H E) [] σ' H' s'->ac v u->Q v H'->CE outer P w H s Q u s':=
  λ{σ' H' v u}J rv q=>(v,H',J.os,J.bare,J.base,J.hok,rv,q)
 cases fl with
 |ret u=>
  obtain⟨v,σ',H',J,rv,q⟩:=hs;exact fin J rv q
 |next=>
  obtain⟨σ',H',J,q⟩:=hs;exact fin (v:=V.non) (u:=Value.none) J rfl q
 |brk=>
  obtain⟨_,_,_,q⟩:=hs;exact False.elim q
 |cont=>
  obtain⟨_,_,_,q⟩:=hs;exact False.elim q
end
section
variable{X:Cx}{elt iter:Expr}{x:Str}{px pos:Pos}{ifs:List Expr}{sc:Scope}{wi:TI}{tt:TT}{te:TE}
end
theorem ic(K:Frag)(hK:X.K=K:=by rfl):OpR X (compareOp .In) (rIn K false):=by
 subst hK;exact cc
end L2
namespace RA
open PySem L2
theorem g_G(a:Nat):∀S:LN,inV (.int (a:Int)) (intsV S)=S.contains a
 |[]=>rfl
 |x::S=>by
  have e:inV (.int (a:Int)) (intsV (x::S))=(((x:Int)==(a:Int))||inV (.int (a:Int)) (intsV S)):=rfl;rw[e,g_G a S,List.contains_cons];congr 1;rw[Bool.eq_iff_iff,beq_iff_eq,beq_iff_eq];constructor
  .intro z;exact(Int.ofNat_inj.mp z).symm
  .intro z;rw[z]
theorem filter_snoc:(List.range (i+1)).filter p=(List.range i).filter p++(if p i then[i]else[]):=by
 rw[List.range_succ,List.filter_append];cases h:p i with
 |false=>rw[List.filter_cons_of_neg (by simp[h]),List.filter_nil];rfl
 |true=>rw[List.filter_cons_of_pos h,List.filter_nil];rfl
end RA
namespace L2
open PySem PySem.Spec PyProof.Rows
namespace ZP
theorem meet_tt(a b:Addr):MeetG (.tp a) (.tp b):=λxs ys=>.of_wp λprog w A R s h=>by
 obtain⟨hp,g,d,tk,os⟩:=s;obtain⟨hx,hy,h⟩:=h;have hsub:=sub_zip;have hx:hp.IsTuple a xs:=hx;have hy:(hp.push (Sd.tp a).it0).IsTuple b ys:=IsTup.keeps hy λo e=>qa9 _ e;show wpAny _ _ (Builtin.«zip.__new__» ([.type "zip",.ref a,.ref b],[])) _ _ _
 wp_walk using g_E hx,g_E hy
 refine(_,rfl,?_);simp only[bE]at h;simpa[size_push,Builtin.SmallTypes.ownedTupleFields,Nat.add_assoc]using h
end ZP
def jK(ta:TA):TE:=λσ H Q=>ta σ H λvs H1=>∃a b xs ys,vs=[.ref a,.ref b]/\H1 a=some (.tup xs)/\H1 b=some (.tup ys)/\xs.length=ys.length/\xs.length≤1000000/\
 ∀(l:Addr)(ts:List Addr)(H2:Hp),ts.length=xs.length->ts.Nodup->H1 l=none->Same H1 H2->H2 l=some (.lst (ts.map V.ref))->(∀(i:Nat)(t:Addr)(x y:V),ts[i]?=some t->xs[i]?=some x->ys[i]?=some y->H2 t=some (.tup [x,y]))->Q (.ref l) H2
theorem fb{p p2 pos pos2:Pos}(hc:X.calm=true)(hgl:Gl X "list")(hml:X.mg "list"=none)(hgz:Gl X "zip")(hmz:X.mg "zip"=none)(ha:PA X [a,b] ta)(hs:starEach [.Call (.Name "zip" p2) [a,b] [] pos2] X.env=[(false,eval (.Call (.Name "zip" p2) [a,b] [] pos2) X.env,)]:=by rfl)(hs2:starEach [a,b] X.env=(false,eval a X.env,)::starEach [b] X.env:=by rfl)(hpl2:(backTo pos2 (starEach [b] X.env)).any (·.1)=false:=by rfl):PE X (.Call (.Name "list" p) [.Call (.Name "zip" p2) [a,b] [] pos2] [] pos) (jK ta):=by
 intro pins s σ H Q I h;refine wpAny_Call_Name_kw (ld_blt I hgl hml boot_list ?_);refine PyProof.Rows.callWith_type1 (e:=.Call (.Name "zip" p2) [a,b] [] pos2) (rest:=[]) ?_ hs rfl;rw[hs];show wpAny _ _ (spliced ((false,eval (.Call (.Name "zip" p2) [a,b] [] pos2) X.env,)::backTo pos [])) _ _ s;refine Calls.spliced_cons (wpAny_Call_Name_kw (ld_blt I hgz hmz boot_zip (PyProof.Rows.callWith_type1 (thn (ha pos2 pins s σ H _ I h) λus s1 hZ0=>?_) hs2 hpl2)));obtain⟨vs,H1,I1,r1,la,lb,xs,ys,ev,hqx,hqy,hl,hmax,q⟩:=hZ0;subst ev;obtain⟨u1,u2,rfl,e1,e2⟩:=bp r1;cases e1;cases e2;obtain⟨itx,rx,px,_⟩:=I1.tuple (SqT.of hqx);obtain⟨ity,ry,py,_⟩:=I1.tuple (SqT.of hqy);have px:s1.heap.IsTuple la itx.toArray:=px;have py:s1.heap.IsTuple lb ity.toArray:=py;have hh:X.A.handled=none:=I1.ok.hd hc;have ltx:la<s1.heap.objs.size:=I1.hok.lt hqx;have lty:lb<s1.heap.objs.size:=I1.hok.lt hqy;refine ZP.call_sd (d1:=.tp la) (d2:=.tp lb) (xs:=itx.toArray) (ys:=ity.toArray) (ZP.meet_tt la lb) px py λg gz gTI gTO g1 g2 gk=>?_;have gsz:s1.heap.objs.size+5≤g.objs.size:=lt_size gz;refine Calls.spliced_nil ?_;have ap:ZipApart (s1.heap.objs.size+4) (s1.heap.objs.size+2) (s1.heap.objs.size+3) s1.heap.objs.size (s1.heap.objs.size+1) (s1.heap.objs.size+2) (s1.heap.objs.size+2):=by
  constructor<;>exact neA (by omega)
 have ex:itx.toArray.size=xs.length:=by rw[rx.length];simp
 have ey:ity.toArray.size=xs.length:=by rw[hl,ry.length];simp
 have px':g.IsTuple la itx.toArray:=IsTup.keeps px λo e=>gk la o e;have py':g.IsTuple lb ity.toArray:=IsTup.keeps py λo e=>gk lb o e;have D1:=bN (prog:=X.prog) (w:=X.w) (A:=X.A.in1.in1.in1) hh s1.heap.objs.size la (ne_of_lt ltx) itx.toArray;have D2:=bN (prog:=X.prog) (w:=X.w) (A:=X.A.in1.in1.in1) hh (s1.heap.objs.size+1) lb (ne_of_lt (lt_succ_of_lt lty)) ity.toArray;rw[ex]at D1;rw[ey]at D2;have offl:∀c:Addr,c<s1.heap.objs.size->c∉[s1.heap.objs.size+4,s1.heap.objs.size+3,s1.heap.objs.size,s1.heap.objs.size+1]:=λc hc' hm=>by
  have hc':(c:Nat)<s1.heap.objs.size:=hc';simp only[mem_cons,not_mem_nil,or_false]at hm;rcases hm with y|y|y|y
  .exact absurd hc' (by rw[y];exact not_lt.mpr (le_add_right _ _))
  .exact absurd hc' (by rw[y];exact not_lt.mpr (le_add_right _ _))
  .exact absurd hc' (by rw[y];exact lt_irrefl _)
  .exact absurd hc' (by rw[y];exact not_lt.mpr (le_add_right _ _))
 refine ZP.list_zip (s:={s1 with heap:=g}) (n:=xs.length) D1 D2 ap hmax (λc hc'=>?_) (λc hc'=>?_) gz gTI gTO (g1,px') (g2,py') (lt_of_lt_of_le (by omega) gsz) (lt_of_lt_of_le (by omega) gsz) λh' tk acc c kp hS hsz items inj=>?_
 .rcases mem_cons.mp hc' with z|z
  .exact .inl z
  .rw [qb1 z];exact .inr (offl la ltx,lt_of_lt_of_le ltx (by show s1.heap.objs.size≤g.objs.size;omega))
 .rcases mem_cons.mp hc' with z|z
  .exact .inl z
  .rw [qb1 z];exact .inr (offl lb lty,lt_of_lt_of_le lty (by show s1.heap.objs.size≤g.objs.size;omega))
 have hS:h'.get? g.objs.size=some {cls:=.type "list",dict:=none,data:=.seq acc c,slots:=#[]}:=hS;obtain⟨ts,hts⟩:∃ts:List Addr,acc.toList=ts.map Value.ref:=by
  have:∀(l:List Value),(∀v∈l,∃t:Addr,v=.ref t)->∃ts:List Addr,l=ts.map Value.ref:=by
   intro l;induction l with
   |nil=>exact λ_=>([],rfl)
   |cons v r ih=>
    intro hv;obtain⟨t,rfl⟩:=hv v (by simp);obtain⟨ts,rfl⟩:=ih λv hv'=>hv v (by simp[hv']);exact(t::ts,rfl)
  refine this acc.toList λv hv=>?_;obtain⟨j,hj⟩:=mem_iff_getElem?.mp hv;rw[getElem?_toList]at hj;obtain⟨t,_,_,e,_⟩:=items j v hj;exact(t,e)
 have tsl:ts.length=xs.length:=by rw[<-hsz,<-length_toList,hts,qa4]
 have tsg:∀{i:Nat}{t:Addr},ts[i]?=some t->acc[i]?=some (.ref t):=λ{i t}e=>by rw[<-getElem?_toList,hts,qa6,e];rfl
 have tnd:ts.Nodup:=e_v λi j t h1 h2=>inj i j t (tsg h1) (tsg h2);have told:∀{i:Nat}{t:Addr}{x y:V},ts[i]?=some t->xs[i]?=some x->ys[i]?=some y->g.objs.size<t/\∃u v,ac x u/\ac y v/\IsPair h' t u v:=λ{i t x y}ht hx hy=>by
  obtain⟨t',u,v,e,p1,p2,pr,hlt⟩:=items i _ (tsg ht);cases e;have p1:itx.toArray[i]?=some u:=p1;have p2:ity.toArray[i]?=some v:=p2;obtain⟨u',hu,ru⟩:=rx.get hx;obtain⟨v',hv,rv⟩:=ry.get hy;rw[getElem?_toArray,hu]at p1;rw[getElem?_toArray,hv]at p2;cases p1;cases p2;exact(hlt,_,_,ru,rv,pr)
 have hfull:∀{i:Nat},i<xs.length->∃t x y,ts[i]?=some t/\xs[i]?=some x/\ys[i]?=some y:=λ{i}hi=>(ts[i],xs[i],ys[i],qa2 _,qa2 _,qa2 _);have tgt:∀t∈ts,g.objs.size<t:=λt ht=>by
  obtain⟨i,hi⟩:=mem_iff_getElem?.mp ht;have hil:i<xs.length:=by rw[<-tsl];exact(qa1 hi).1
  obtain⟨t',x,y,h1,h2,h3⟩:=hfull hil;rw[hi]at h1;cases h1;exact(told hi h2 h3).1
 let H2:Hp:=λb=>if b<s1.heap.objs.size then H1 b else if b=g.objs.size then some (.lst (ts.map V.ref))else kl ts xs ys b
 have gS:¬ g.objs.size<s1.heap.objs.size:=by omega
 have H2old:∀b,b<s1.heap.objs.size->H2 b=H1 b:=λb hb=>if_pos hb;have H2l:H2 g.objs.size=some (.lst (ts.map V.ref)):=(if_neg gS).trans (if_pos rfl);have H2t:∀(i:Nat)(t:Addr)(x y:V),ts[i]?=some t->xs[i]?=some x->ys[i]?=some y->H2 t=some (.tup [x,y]):=λi t x y h1 h2 h3=>by
  have hlt:=(told h1 h2 h3).1;have hn1:¬ t<s1.heap.objs.size:=λz=>absurd (lt_trans hlt z) gS;have hn2:t≠g.objs.size:=ne_of_gt hlt;show(if t<s1.heap.objs.size then H1 t else if t=g.objs.size then some (.lst (ts.map V.ref))else kl ts xs ys t)=_;rw[if_neg hn1,if_neg hn2,kl,f_q tnd h1 (v:=(x,y,)) (by rw[getElem?_zip_eq_some];exact(h2,h3))];rfl
 have keepAll:∀b o,s1.heap.get? b=some o->h'.get? b=some o:=λb o e=>kp b o (offl b (lt_size e)) (gk b o e);refine(.ref g.objs.size,H2,?_,rfl,q g.objs.size ts H2 tsl tnd (I1.hok.fresh (by omega)) (λb o e=>by rw[H2old b (I1.hok.lt e)];exact e) H2l H2t);have J:=I1.many (H':=H2) (h':=h') (t':=tk) keepAll H2old λb o hb e=>?_
 .exact J
 .by_cases hbg:b=g.objs.size
  .subst hbg;rw[H2l]at e;cases e;refine(by rw[qa4,tsl,sizeLine_eq];omega,ts.map Value.ref,c,?_,?_)
   .clear hts tsl tsg tnd told hfull tgt H2 H2old H2l H2t;induction ts with
    |nil=>exact .nil
    |cons t r ih=>exact .cons rfl ih
   .rw [<-hts];simpa using hS
  .have e':kl ts xs ys b=some o:=by
    have e:(if b<s1.heap.objs.size then H1 b else if b=g.objs.size then some (.lst (ts.map V.ref))else kl ts xs ys b)=some o:=e;rw[if_neg (not_lt.mpr hb),if_neg hbg]at e;exact e
   unfold kl at e';cases hlk:(ts.zip (xs.zip ys)).lookup b with
   |none=>rw[hlk]at e';cases e'
   |some q2=>
    rw[hlk]at e';cases e';obtain⟨i,hi⟩:=mem_iff_getElem?.mp (ck hlk);rw[getElem?_zip_eq_some]at hi;obtain⟨h1,h2⟩:=hi;rw[getElem?_zip_eq_some]at h2;obtain⟨_,u,v,ru,rv,pr⟩:=told h1 h2.1 h2.2;exact(a_j (by show 2≤16777216;decide),[u,v],.cons ru (.cons rv .nil),(_,pr,rfl,0,rfl))
theorem c_c(Wd:f_C X U σ H base')(sub:∀y a,clos.lookup y=some a->X.env.cells.lookup y=some a)(has:∀y∈sc.names,y.2=.free->∃a,clos.lookup y.1=some a)(hl:fvs.length=fr.length)(hN:∀(i:Nat)(y:Str)(v:V),fr[i]?=some y->fvs[i]?=some v->(∃j:Nat,X.N[j]?=some y/\σ[j]?=some (some v))/\X.env.scope.names.lookup y=some .cell/\sc.names.lookup y=some .free):a_w base' clos sc fr fvs:=by
 refine(λy z c h1 h2=>Wd.inj y z c (sub y c h1) (sub z c h2),has,λy c h=>Wd.cell y c (sub y c h),hl,λi y v h1 h2=>?_);obtain⟨⟨j,a1,a2⟩,a3,a4⟩:=hN i y v h1 h2;obtain⟨a,ha⟩:=has (y,.free,) (PySem.mem_of_lookup a4) rfl;obtain⟨c,u,e1,e2,e3⟩:=Wd.val j y v a1 a2 a3;have e4:=sub _ _ ha;rw[e1]at e4;cases e4;exact(a4,_,u,ha,e2,e3)
theorem d7(hn:∀y,clos.lookup y=none)(hf:∀y∈sc.names,y.2≠.free):a_w h clos sc [] []:=by
 refine(λy z c h1 _=>?_,λy hy e=>absurd e (hf y hy),λy c e=>?_,rfl,λi y v h1 _=>by simp at h1)
 .rw [hn]at h1;cases h1
 .rw [hn]at e;cases e
theorem c_Z{P:Program}{w:World}{K:Frag}{mg:Str->Option Value}{base:Heap}{st:Stmt}{oc dV kV doc pm ct:Value}(lk:K.lookup f=some (oc,od,.func (fnOf x qual (a_g st) (a_e st) (a_a st) dV kV doc pm an (.ref c) ct),osl))(hcd:codeIn K (.ref c) qual=true)(S:a_m N ps (a_a st))(len:∀vs H Q E,sp vs H Q E->vs.length=ps.length)(hbody:∀(A:Around)(outer:List Env)(s:Shared)(H:Hp)(vs:List V)(Q:VK)(E:XK),af k (A.deeper (envOfC qual (a_a st) s.heap.objs.size f (.ref c)))->sp vs H Q E->
   ∃t,PSs (aJ (CXE P w) P w K mg base N qual (a_a st) f (.ref c) A outer s H E) (a_e st) t/\t {nx:=λ_ H'=>Q .non H',rt:=Q} (start N vs) H):aa P w K mg base (CXE P w) (k+1) f (fnOf x qual (a_g st) (a_e st) (a_a st) dV kV doc pm an (.ref c) ct) ps sp:=fY lk hcd S len hbody
def c_D(H H':Hp):Prop:=∀b o,(∀ps,o≠.tbl ps)->H b=some o->H' b=some o
theorem c_D.of(s:Same H H'):c_D H H':=λb o _ e=>s b o e
theorem c_D.trans(a:c_D H H1)(b:c_D H1 H'):c_D H H':=λx o ho e=>b x o ho (a x o ho e)
theorem c_D.ofX(s:c_A P0 H H')(hT:b_G H P0 sites):c_D H H':=λb o ho e=>s b o (λz=>by
 obtain⟨ps,hP,_⟩:=hT;rw[z,hP]at e;cases e;exact ho _ rfl) e
theorem c_D.tup(s:c_D H H'):∀b xs,H b=some (.tup xs)->H' b=some (.tup xs):=λb xs e=>s b _ (λ_ z=>nomatch z) e
theorem c_D.lst(s:c_D H H')(e:H b=some (.lst xs)):H' b=some (.lst xs):=s b _ (λ_ z=>nomatch z) e
end L2
namespace RA
open PySem L2
def b_n(H:Hp)(m:Addr)(L:LN)(W:LL)(B:List Bool):Prop:=
 ∃(wy mk:Addr)(rows:List Addr),H m=some (.tup [.str (tx L),.ref wy,.ref mk])/\H wy=some (.tup (rows.map V.ref))/\H mk=some (.lst (B.map V.bl))/\rows.length=W.length/\∀(i:Nat)(a:Addr),rows[i]?=some a->∃ws,W[i]?=some ws/\H a=some (.tup (intsV ws))
theorem b_n.keep(h:b_n H m L W B)(t:∀b xs,H b=some (.tup xs)->H' b=some (.tup xs))(l:∀b xs,H b=some (.lst xs)->H' b=some (.lst xs)):b_n H' m L W B:=by
 obtain⟨wy,mk,rows,h1,h2,h3,h4,h5⟩:=h;refine(wy,mk,rows,t _ _ h1,t _ _ h2,l _ _ h3,h4,λi a e=>?_);obtain⟨ws,e1,e2⟩:=h5 i a e;exact(ws,e1,t _ _ e2)
theorem b_n.same(h:b_n H m L W B)(s:Same H H'):b_n H' m L W B:=h.keep (λb xs e=>s b _ e) λb xs e=>s b _ e
theorem b_n.ofT(h:b_n H m L W B)(s:c_D H H'):b_n H' m L W B:=h.keep s.tup λb xs e=>s.lst e
theorem pB(s:c_D H H')(h:SqL K H a xs):SqL K H' a xs:=by
 rcases h with(h|⟨o,h⟩)|h
 .exact .inl (.inl (s.lst h))
 .exact .inl (.inr (o,s _ _ (λ_ z=>nomatch z) h))
 .exact .inr h
def e_U(cW P0:Addr)(sites:List (Pos×Str)):Sp:=λvs H Q _=>∃(m:Addr)(L:LN)(W:LL)(B:List Bool),vs=[.ref m]/\b_n H m L W B/\Mach L W B/\b_G H P0 sites/\
 ∀(wk t wd y md:Addr)(ks:LL)(vks:List V)(ws:LL)(rows:List Addr)(R:LL)(Bm:List Bool)(H':Hp),c_A P0 H H'->b_G H' P0 sites->e_e H' cW wk L t wd y md->H' t=some (.lst vks)->f_K .i H' ks vks->H' wd=some (.lst (b_L ws))->H' y=some (.lst (rows.map V.ref))->d_e H' rows R->H' md=some (.lst (Bm.map V.bl))->
  Bf (gW W) L [0] ks ws ks.length 0->b_C (gW W) L.length ks R->R.length=ks.length->Bm.length=R.length->(∀(r:Nat)(k:LN)(b:Bool),ks[r]?=some k->Bm[r]?=some b->b=mkW B k)->(∀k∈ks,k∈uW W)->ks.length≤W.length->Q (.ref wk) H'
def gP(W1 W2:LL)(k:LN)(j:Nat):LN:=[goal W1 (k.getD 0 0) j,goal W2 (k.getD 1 0) j]
def uP(n1 n2:Nat):LL:=(List.range n1).flatMap λa=>(List.range n2).map λb=>[a,b]
def mkP(rule:Bool->Bool->Bool)(B1 B2:List Bool)(k:LN):Bool:=rule (B1.getD (k.getD 0 0) false) (B2.getD (k.getD 1 0) false)
theorem lg(ha:a<n1)(hb:b<n2):[a,b]∈uP n1 n2:=by
 unfold uP;rw[mem_flatMap];exact(a,mem_range.mpr ha,mem_map.mpr (b,mem_range.mpr hb,rfl))
theorem gN(h:k∈uP n1 n2):∃a b,k=[a,b]/\a<n1/\b<n2:=by
 unfold uP at h;obtain⟨a,ha,h⟩:=mem_flatMap.mp h;obtain⟨b,hb,rfl⟩:=mem_map.mp h;exact(a,b,rfl,mem_range.mp ha,mem_range.mp hb)
theorem pQ(n1 n2:Nat):(uP n1 n2).length=n1*n2:=by
 unfold uP;rw[List.length_flatMap];simp[List.map_const',List.sum_replicate_nat]
theorem pk(h1:n1≤8)(h2:n2≤8):(uP n1 n2).length≤64:=by
 rw[pQ];exact Nat.mul_le_mul h1 h2
theorem qR(h1:Mach L W1 B1)(h2:Mach L W2 B2):∀k∈uP W1.length W2.length,∀q,q<L.length->gP W1 W2 k q∈uP W1.length W2.length:=λk hk q hq=>by
 obtain⟨a,b,rfl,ha,hb⟩:=gN hk;exact lg (b_E h1 ha hq) (b_E h2 hb hq)
theorem rK{L:LN}{W1 W2:LL}:∀(u:LN)(a b:Nat),aD (gP W1 W2) L [a,b] u=[run L W1 a u,run L W2 b u]
 |[],_,_=>rfl
 |c::u,a,b=>rK u (goal W1 a (L.idxOf c)) (goal W2 b (L.idxOf c))
def br(rule:Bool->Bool->Bool):Sp:=λvs H Q _=>∃a b:Bool,vs=[.bl a,.bl b]/\Q (.bl (rule a b)) H
structure qM(P:Program)(w:World)(K:Frag)(mg:Str->Option Value)(H:Hp)(g cg:Addr)(rule:Bool->Bool->Bool):Prop where
 ex:∃(qual:Str)(params:Arguments)(body:Expr)(sc:Scope)(clos:List (Str×Addr)),H g=some (lamHO g qual params body sc clos cg)/\H cg=some (codeHO cg qual)/\
  (∀(base':Heap)(pm ctv:Value),base'.get? g=some (kla_obj "<lambda>" qual params body sc clos pm cg ctv)->base'.CodeRec (.ref cg) qual->aa P w K mg base' CX0 1 g (kla_fn "<lambda>" qual params body sc clos pm (.ref cg) ctv) ["one","two"] (br rule))/\
  ∀pm ctv:Value,b_q K (kla_fn "<lambda>" qual params body sc clos pm (.ref cg) ctv) ["one","two"] []
end RA
namespace L2
open PySem PySem.Spec PyProof.Rows
section
variable{X:Cx}{elt iter:Expr}{x y:Str}{px py pt pos:Pos}{kt:Nat}{sc:Scope}{wi:TI}{te:TE}
end
theorem b_T{env:Env}:∀{names:List (Str×NameKind)}{x:Str},names.lookup x=some .cell->
  (names.map λ(n,k)=>if (k==NameKind.free&&env.scope.kind==.function&&env.kindOf n==some .cell)then(n,NameKind.cell,)else(n,k,)).lookup x=some .cell
 |[],_,h=>by simp at h
 |(n,k)::r,x,h=>by
  rw[map_cons];by_cases z:x=n
  .subst z;rw[List.lookup_cons_self]at h;cases h;show List.lookup x ((x,NameKind.cell,)::_)=_;exact List.lookup_cons_self
  .have zb:(x==n)=false:=beq_eq_false_iff_ne.mpr z;have h2:r.lookup x=some .cell:=by simpa only[List.lookup,zb]using h
   have ih:=b_T (env:=env) h2;dsimp only;split
   .simp only[List.lookup,zb];exact ih
   .simp only[List.lookup,zb];exact ih
theorem pK(h:c=C+1)(hC:C=D+1):¬ c<D:=by omega
theorem ar_c2(h:c=C+1)(hC:C=D+1):D≤c:=by omega
theorem pJ(h:c=C+1)(hC:C=D+1)(hb:b<D):c≠b:=by omega
theorem dF{M:Model}{A:Around}{E:Value->Shared->Prop}{s:Shared}{sc:Scope}{code:Value}(hcf:∀n cl,cellsFrom n sc.names cl=(x,n,)::cl)(hpc:∀h:Heap,pushCells h sc.names=h.push {cls:=.type "cell",data:=.cell none})(go:∀h',h'.Ns s.heap.objs.size (λ_=>none)->h'.get? (s.heap.objs.size+1)=some {cls:=.type "cell",data:=.cell none}->(∀b o,s.heap.get? b=some o->h'.get? b=some o)->
   Q (newEnv sc s.heap.objs.size g ((x,s.heap.objs.size+1,)::cl) qual func code (some outer) bl) {s with heap:=h'}):wpAny M A (newFunctionEnv sc g cl [] qual func code (some outer) bl) Q E s:=by
 unfold newFunctionEnv;rw[show(some outer).isSome=true from rfl,if_pos rfl];refine qa7 (wpAny_alloc (qa7 (wpAny_layCells _ (λ_ k _=>by cases q:k==NameKind.cell<;>simp only[q]<;>rfl) _ _ _ _ ?_)));rw[hcf,hpc];have e:({s with heap:=s.heap.push {cls:=.type "dict",data:=.dict #[]} }:Shared).heap.objs.size=s.heap.objs.size+1:=size_push ..;rw[e];refine qa7 ?_;rw[forIn_nil];refine qa8 (qa8 (go _ ?_ ?_ ?_))
 .exact (Heap.Ns.new s.heap (.type "dict")).keeps λb o z=>qa9 _ z
 .have:=get?_push_size (s.heap.push {cls:=.type "dict",data:=.dict #[]}) (o:={cls:=.type "cell",data:=.cell none}) rfl
  rwa [size_push]at this
 .exact λb o z=>qa9 _ (qa9 _ z)
section
variable{X:Cx}{elt iter:Expr}{x:Str}{px pos:Pos}{ifs:List Expr}{sc:Scope}{wi:TI}{tt:TT}{te:TE}
theorem me(N2:List Str)(hc:X.calm=true)(hN2:(x::N2).Nodup)(hi:PI X (.Name x px) iter wi)(hb:∀(cl:List (Str×Addr))(C:Addr)(fp:List Addr)(s:Shared)(H:Hp),PTs {cxComp X x sc cl C fp s H with N:=x::N2,fn:=λy=>y==x} ifs tt/\PE {cxComp X x sc cl C fp s H with N:=x::N2,fn:=λy=>y==x} elt te)(hx:sc.names.lookup x=some .cell:=by rfl)(hcf:∀n cl,cellsFrom n sc.names cl=(x,n,)::cl:=by intro _ _;rfl)(hpc:∀h:Heap,pushCells h sc.names=h.push {cls:=.type "cell",data:=.cell none}:=by intro _;rfl)(hkind:sc.kind=.function:=by rfl)(hnames:∀y∈sc.names,y.2=.local->sc.names.lookup y.1=some .local:=by decide +kernel)(hcell:∀y∈sc.names,y.2=.cell->y.1=x:=by decide +kernel)(hfree:(sc.names.all λy=>y.2 != .free||X.env.scope.names.lookup y.1==some .cell)=true:=by rfl)(hlo:(N2.all λy=>sc.names.lookup y != some .local)=true:=by rfl)(hl2:N2.length=X.N.length:=by rfl)(hz2:((N2.zip X.N).all λy=>y.1==y.2||sc.names.lookup y.1==none)=true:=by rfl)(hs:∀x,foldedSetIterable iter X.env x=pure x:=by intro _;rfl):PE X (.ListComp elt [(.Name x px,iter,ifs,0)] sc pos) (bZ wi tt te):=by
 intro pins s σ H Q I h;have hfr:∀y∈sc.names,y.2=.free->X.env.kindOf y.1=some .cell:=λy hy e=>by
  have q:=all_eq_true.mp hfree y hy;rw[e]at q;simpa[Env.kindOf]using q
 have hlo':∀y∈N2,sc.names.lookup y≠some .local:=λy hy e=>by
  have q:=all_eq_true.mp hlo y hy;rw[e]at q;simp at q
 obtain⟨cl,hclos,hsub,hhas⟩:=d_a (env:=X.env) (sc:=sc) λy hy e=>I.ok.has y.1 (.inl (hfr y hy e));rw[eval_ListComp];refine wpAny_comprehension_free (use:=none) rfl hs hclos hkind hnames (thn (hi pins s σ H _ I h) λv s1 h1=>thn h1 λitv s2 h2=>?_);obtain⟨it,fp,tn,J,H2,e,I2,T,st2,f2,hW⟩:=h2;subst e;refine wpAny_newObj_type ?_;refine dF hcf hpc λh₁ hns₁ hcl₁ hkp₁=>?_;dsimp only at hns₁ hcl₁ hkp₁⊢;generalize hHa:s2.heap.push {cls:=.type "list",dict:=none,data:=.seq ([]:List Value).toArray}=Ha at hns₁ hcl₁ hkp₁⊢;have hC:Ha.objs.size=s2.heap.objs.size+1:=by rw[<-hHa,size_push]
 have hDC:s2.heap.objs.size≠Ha.objs.size:=by rw[hC];exact ne_of_lt (lt_succ_self _)
 have hCle:s2.heap.objs.size≤Ha.objs.size:=by rw[hC];exact le_succ _
 have neC:∀b o,s2.heap.get? b=some o->b≠Ha.objs.size:=λb o e=>ne_of_lt (lt_of_lt_of_le (lt_size e) hCle);have old:∀b o,s2.heap.get? b=some o->h₁.get? b=some o:=λb o e=>hkp₁ b o (hHa▸qa9 _ e);have hacc:h₁.get? s2.heap.objs.size=some {cls:=.type "list",dict:=none,data:=.seq ([]:List Value).toArray}:=hkp₁ _ _ (hHa▸get?_push_size _ rfl);have lk:∀{y:Str}{c:Addr},List.lookup y ((x,Ha.objs.size+1,)::cl)=some c->(y=x/\c=Ha.objs.size+1)\/(y≠x/\cl.lookup y=some c):=λ{y c}e=>by
  by_cases z:y=x
  .rw [z,List.lookup_cons_self]at e;exact .inl (z,(Option.some.inj e).symm)
  .have zb:(y==x)=false:=beq_eq_false_iff_ne.mpr z;simp only[List.lookup,zb]at e;exact .inr (z,e)
 have lkn:∀{y:Str},y≠x->List.lookup y ((x,Ha.objs.size+1,)::cl)=cl.lookup y:=λ{y}z=>by
  have zb:(y==x)=false:=beq_eq_false_iff_ne.mpr z;simp only[List.lookup,zb]
 have clt:∀{y:Str}{c:Addr},cl.lookup y=some c->c<s2.heap.objs.size:=λ{y c}e=>by
  obtain⟨v,o,ho,_⟩:=I2.cell y c (hsub y c e);exact lt_size ho
 generalize hDe:s2.heap.objs.size=D at *;generalize hCe:Ha.objs.size=C at *;have hHD:H2 D=none:=I2.hok.fresh (le_of_eq hDe);have hHC:H2 C=none:=I2.hok.fresh (by omega);obtain⟨W,⟨m0,w0⟩,turn⟩:=hW D hHD;have fplt:∀b∈fp,b<D:=λb hb=>by
  obtain⟨o,e,_⟩:=T.obj _ _ st2 b hb;rw[<-hDe];exact lt_size e
 let X':Cx:={cxComp X x sc ((x,C+1,)::cl) C fp s2 H2 with N:=x::N2,fn:=λy=>y==x}
 have nofs:∀b∈fp,b∉frs X.stack:=λb hb z=>by
  rcases mem_cons.mp (I2.stkSub b z)with e|e
  .exact (f2 b hb).2.1 e
  .exact (f2 b hb).2.2.1 e
 have ok':X'.Ok:=by
  refine(I2.ok.mod,hkind,I2.ok.glob,I2.ok.blt,?_,λy z c e1 e2=>?_,λy hy=>?_,λy c e e2=>?_,I2.ok.hd,I2.ok.frames,.inl rfl,λb hb=>(?_,λy c e=>?_),I2.bs,
   le_trans I2.ok.bsz I2.sz,λb o e hb=>?_,nofs,I2.stack,I2.stkFree)
  .show s2.heap.objs.size≤C;omega
  .rcases lk e1 with⟨z1,w1⟩|⟨z1,w1⟩<;>rcases lk e2 with⟨z2,w2⟩|⟨z2,w2⟩
   .rw [z1,z2]
   .exact absurd (clt w2) (pK w1 hC)
   .exact absurd (clt w1) (pK w2 hC)
   .exact I2.ok.inj y z c (hsub y c w1) (hsub z c w2)
  .rcases hy with hy|hy
   .rcases relabel_lookup (show(relabel sc X.env).names.lookup y=some .cell from hy)with e|⟨_,e,_⟩
    .have z:y=x:=hcell _ (PySem.mem_of_lookup e) rfl;exact(C+1,by rw[z];exact List.lookup_cons_self)
    .have z:y≠x:=λz=>by rw[z,hx]at e;cases e
     obtain⟨c,hc'⟩:=hhas _ (PySem.mem_of_lookup e) rfl;exact(c,(lkn z).trans hc')
   .rcases relabel_lookup (show(relabel sc X.env).names.lookup y=some .free from hy)with e|⟨e,_⟩
    .have z:y≠x:=λz=>by rw[z,hx]at e;cases e
     obtain⟨c,hc'⟩:=hhas _ (PySem.mem_of_lookup e) rfl;exact(c,(lkn z).trans hc')
    .cases e
  .have z:y=x:=eq_of_beq e;rcases lk e2 with⟨_,w⟩|⟨z2,_⟩
   .show s2.heap.objs.size≤c;rw[hDe];exact ar_c2 w hC
   .exact absurd z z2
  .exact ne_of_lt (lt_of_lt_of_le (fplt b hb) (by omega:D≤C))
  .rcases lk e with⟨_,w⟩|⟨_,w⟩
   .exact pJ w hC (fplt b hb)
   .exact (f2 b hb).2.2.2.2.1 y c (hsub y c w)
  .rcases (f2 b hb).2.2.2.1 with z|z
   .exact I2.ok.noex b o e z
   .exact absurd (lt_of_lt_of_le (lt_of_lt_of_le (lt_size e) I2.ok.bsz) z) (lt_irrefl _)
 have I4:∀tk,Inv X' [] (none::σ) (upd H2 D (.lst [])) {s2 with heap:=h₁,toks:=tk}:=λtk=>by
  refine(ok',rfl,I2.bare,Un.laid old (le_of_eq hDe) hHD,(_,hns₁,λi y v e1 e2 e3=>?_),λy c e=>?_,?_,λy c e=>?_,λp hp=>?_,I2.hok.laid old (le_of_eq hDe) ?_,?_)
  .cases i with
   |zero=>simp at e2
   |succ i=>
    have e0:N2[i]?=some y:=by simpa[X',cxComp]using e1
    have e2:σ[i]?=some (some v):=by simpa using e2
    have e3:Vis (relabel sc X.env) y:=e3;have hyN:y∈N2:=qb2 e0;have free:sc.names.lookup y=some .free/\(relabel sc X.env).names.lookup y≠some .local:=by
     rcases e3 with e|e|e
     .rcases relabel_lookup e with q|⟨q,_⟩
      .exact absurd q (hlo' y hyN)
      .cases q
     .rcases relabel_lookup e with q|⟨_,q,_⟩
      .have z:y=x:=hcell _ (PySem.mem_of_lookup q) rfl;rw[z]at hyN;exact absurd hyN (nodup_cons.mp hN2).1
      .exact (q,by rw[e];decide)
     .rcases relabel_lookup e with q|⟨q,_⟩
      .exact (q,by rw[e];decide)
      .cases q
    have e1:X.N[i]?=some y:=by
     have hi:i<N2.length:=(qa1 e0).1;have hi2:i<X.N.length:=by omega
     have hm:(y,X.N[i],)∈N2.zip X.N:=by
      have hz:(N2.zip X.N)[i]?=some (y,X.N[i],):=by
       rw[getElem?_zip_eq_some];exact(e0,qa2 hi2)
      exact qb2 hz
     have q:=all_eq_true.mp hz2 _ hm;rcases Bool.or_eq_true_iff.mp q with q|q
     .have:y=X.N[i]:=eq_of_beq q;rw[qa2 hi2,<-this]
     .have q2:sc.names.lookup y=none:=by simpa using q
      rw[free.1]at q2;cases q2
    have kc:X.env.kindOf y=some .cell:=hfr _ (PySem.mem_of_lookup free.1) rfl;obtain⟨m,hn,hl⟩:=I2.loc;obtain⟨u,ru,lk⟩:=hl i y v e1 e2 (.inr (.inl kc));rcases lk with⟨q,_⟩|⟨_,c,hcc,⟨o,ho,hd⟩⟩
    .rw [kc]at q;cases q
    .obtain ⟨c',hc'⟩:=hhas _ (PySem.mem_of_lookup free.1) rfl;have e4:=hsub _ _ hc';rw[hcc]at e4;cases e4;have z:y≠x:=λz=>by rw[z]at hyN;exact(nodup_cons.mp hN2).1 hyN
     refine(u,ru,.inr (?_,c,(lkn z).trans hc',(o,old c o ho,hd)));rcases e3 with e|e|e
     .exact absurd e free.2
     .exact .inl e
     .exact .inr e
  .rcases lk e with⟨_,w⟩|⟨_,w⟩
   .rw [w];exact(none,_,hcl₁,rfl)
   .obtain ⟨v,o,ho,hd⟩:=I2.cell y c (hsub y c w);exact(v,o,old c o ho,hd)
  .show upd H2 D (.lst []) C=none;rw[upd_ne (neA (by omega))];exact hHC
  .rcases lk e with⟨_,w⟩|⟨_,w⟩
   .show upd H2 D (.lst []) c=none;rw[upd_ne (by rw[w];intro z;exact absurd z (ne_of_gt (by omega)))];exact I2.hok.fresh (by rw[hDe];exact ar_c2 w hC)
   .have hlt:=clt w;show upd H2 D (.lst []) c=none;rw[upd_ne (ne_of_lt hlt)];exact I2.freeC y c (hsub y c w)
  .exact absurd (show p∈([]:List (Addr×Obj))from hp) (by simp)
  .exact (zero_le _,[],0,.nil,hacc)
  .show (none::σ).length=(x::N2).length;rw[length_cons,length_cons,I2.len,hl2]
 have hN':X'.N.Nodup:=hN2;have hx':X'.env.scope.names.lookup x=some .cell:=b_T hx;obtain⟨PT',PE'⟩:=hb ((x,C+1,)::cl) C fp s2 H2;have fpX:∀{pins':List (Addr×Obj)}{H':Hp},(∀b∈fp,H' b=none)->(∀p∈pins',p.1∉fp)->∀b∈fp,aZ X' pins' H' b:=λhn hp b hb=>by
  refine(hn b hb,?_,nofs b hb,.inl hb,λy c e=>?_,λp q z=>?_)
  .exact ne_of_lt (lt_of_lt_of_le (fplt b hb) (by omega:D≤C))
  .rcases lk e with⟨_,w⟩|⟨_,w⟩
   .exact pJ w hC (fplt b hb)
   .exact (f2 b hb).2.2.2.2.1 y c (hsub y c w)
  .rcases mem_append.mp q with q|q
   .exact absurd (show p∈([]:List (Addr×Obj))from q) (by simp)
   .exact hp p q (by rw[z];exact hb)
 have loop:∀tk,codeAny (model X.prog X.w) X.A (.compLoop (.ListComp elt [(.Name x px,iter,ifs,0)] sc pos) 0 (.ref it) (.ref D) (compEnvC sc ((x,C+1,)::cl) C X.env)) (compPost (model X.prog X.w) X.A X.xe none (EP X pins σ Q) (.ref D) C) {s2 with heap:=h₁,toks:=tk}:=λtk=>by
  refine codeAny_compLoop_tests (λn s'=>∃i ys o H',Inv X' [] (o::σ) H' s'/\tn i s'.heap/\(∀b∈fp,H' b=none)/\W i n ys H') ?_ m0 (0,[],none,_,I4 tk,T.keep _ _ _ st2 λb hb o e=>old b o e,λb hb=>?_,w0)
  .rintro n s3⟨i,ys,o3,H3,I3,st3,fr3,w3⟩;obtain⟨hD3,alt⟩:=turn i n ys H3 w3;rcases alt with⟨stop,qn⟩|⟨go,hlen,step⟩
   .refine wpAny_mono (T.done X' rfl rfl rfl hc i [] s3 _ H3 (λ_ _=>False) I3 (fpX fr3 (by simp)) st3 stop) (λr s4 hpq=>?_) λ_ _ f=>f.elim;obtain⟨hr,I4'⟩:=hpq;subst hr;obtain⟨mC,hnC,_⟩:=I4'.loc;refine(mC,hnC,λh' hs'=>?_);have nC:∀b u,H3 b=some u->b≠C:=λb u e z=>by rw[z]at e;rw[show H3 C=none from I4'.free]at e;cases e
    have hok':HOk X.prog X.w H3 h':=λb u e=>(I4'.hok b u e).stay (λc v hcc q=>hs'.extBut c v (by
     rcases hcc with z|z
     .rw [z];exact nC b u e
     .exact nC c _ z) q) (λ_ q=>q) λ_ _ q=>q
    have un:Un (frs X.stack) fp H2 H3 s2.heap h':=
     (λb o e n1 n2 n3=>hs'.extBut b o (neC b o e) (I4'.base.keep b o e n1 n2 n3),λb o e n1 n2 n3=>by
       obtain⟨sl,q⟩:=I4'.base.slot b o e n1 n2 n3;exact(sl,hs'.extBut b _ (neC b o e) q),I4'.base.free,λb o e n1=>by
       obtain⟨o',q⟩:=I4'.base.there b o e n1;exact(o',hs'.extBut b _ (neC b o e) q),I4'.base.tups,I4'.base.frzs,I4'.base.tbls)
    exact(.ref D,H3,I2.call' (s':={s4 with heap:=h'}) I4'.os un hok' I4'.bare λb hb=>((f2 b hb).2.2.2.1,(f2 b hb).2.1,(f2 b hb).2.2.2.2.1,(f2 b hb).2.2.2.2.2),rfl,qn)
   .refine wpAny_mono (T.item X' rfl rfl rfl hc i [] s3 _ H3 (λ_ _=>False) I3 (fpX fr3 (by simp)) st3 go) (λr s4 hpq=>?_) λ_ _ f=>f.elim;obtain⟨u,hr,h4⟩:=hpq;subst hr;have eg:(letOwnedTupleGo (.Name x px) (.ref it) u>>=λ_=>assign (.Name x px) (compEnvC sc ((x,C+1,)::cl) C X.env) u)=assign (.Name x px) (compEnvC sc ((x,C+1,)::cl) C X.env) u:=pure_bind () _;show wpAny _ _ (assign (.Name x px) (compEnvC sc ((x,C+1,)::cl) C X.env) u) _ _ s4;rw[<-eg];refine qa7 (wpAny_mono h4 (λ_ s5 hpq=>?_) λ_ _ f=>f.elim);obtain⟨y,H5,I5,r5,y5,st5,fr5⟩:=hpq;have I5':=I5.pinned (fpX fr5 (by simp)) (T.obj _ _ st5);refine wpAny_mono (f_f (X:=X') (i:=0) (pos:=px) hN' rfl (.inr hx') (.inl (beq_self_eq_true x)) _ s5 _ H5 y u (λσ' H'=>σ'=some y::σ/\H'=H5) I5' r5 (rfl,rfl)) (λ_ s6 hpq=>?_) λ_ _ f=>f.elim;obtain⟨σ6,H6,I6,e1,e2⟩:=hpq;subst e1 e2;refine wpAny_mono (PT' _ s6 _ _ _ I6 (step y _ y5)) (λok s7 hpq=>?_) λ_ _ f=>f.elim;obtain⟨H7,I7,q7⟩:=hpq;have again:∀{s8:Shared}{H8:Hp}{ys':List V},Inv X' ([]++bA fp s5.heap) (some y::σ) H8 s8->(∃m',m'<n/\W (i+1) m' ys' H8)->∃m,m<n/\∃i ys o H',Inv X' [] (o::σ) H' s8/\tn i s8.heap/\(∀b∈fp,H' b=none)/\W i m ys H':=λ{s8 H8 ys'}I8 hZ1=>by
     obtain⟨m',hm,w8⟩:=hZ1;refine(m',hm,i+1,ys',some y,H8,I8.unpinned,T.keep _ _ _ st5 λb hb o e=>(I8.pin (b,o,) (mem_append_right _ (mem_append_right _ (b_e hb e)))).1,λb hb=>?_,w8);obtain⟨o,e,d⟩:=T.obj _ _ st5 b hb;exact(I8.pin (b,o,) (mem_append_right _ (mem_append_right _ (b_e hb e)))).2.1
    cases ok with
    |false=>exact again I7 q7
    |true=>
     have q7:te (some y::σ) H7 _:=q7;refine wpAny_mono (PE' _ s7 _ _ _ I7 q7) (λz s8 hpq=>?_) λ_ _ f=>f.elim;obtain⟨yv,H8,I8,r8,hD8,q8⟩:=hpq;refine wpAny_mono (f_o (X:=X') _ s8 _ H8 (.ref D) [yv] (.ref D) [z] (λ_ H9=>H9=upd H8 D (.lst (ys++[yv]))) I8 rfl (.cons r8 .nil) (D,ys,yv,rfl,rfl,hD8,hlen,rfl)) (λ_ s9 hpq=>?_) λ_ _ f=>f.elim;obtain⟨_,H9,I9,_,e9⟩:=hpq;subst e9;exact again I9 q8
  .show upd H2 D (.lst []) b=none;rw[upd_ne (ne_of_lt (fplt b hb))];exact(f2 b hb).1
 exact codeAny_compStart_list (loop _) (T.self _ _ _ _ _ (T.keep _ _ _ st2 λb hb o e=>old b o e) (loop _))
end
theorem kU(bs:List Bool):(List.range bs.length).any (λi=>bs.getD i false)=bs.any id:=by
 rw[Bool.eq_iff_iff,any_eq_true,any_eq_true];constructor
 .rintro⟨i,hi,h⟩;have hi:=mem_range.mp hi;rw[qa3,qa2 hi]at h;exact(bs[i],getElem_mem hi,h)
 .rintro⟨b,hb,h⟩;obtain⟨i,hi,rfl⟩:=List.mem_iff_getElem.mp hb;refine(i,mem_range.mpr hi,?_);rw[qa3,qa2 hi];exact h
theorem kQ(hc:X.calm=true):d_f X (.builtin "any") (λxs H Q=>∃(a:Addr)(bs:List Bool),xs=[V.ref a]/\H a=some (.lst (bs.map V.bl))/\Q (.bl (bs.any id)) H):=by
 intro pins s σ H xs us Q I r h;obtain⟨a,bs,rfl,ha,q⟩:=h;obtain⟨u1,rfl,r1⟩:=e_h r;cases r1;obtain⟨its,rv,p,hz⟩:=I.list (SqL.of ha);have hl:s.heap.IsList a its.toArray:=p.isList;have hlt:a<s.heap.objs.size:=I.hok.lt ha;have hn:its.toArray.size=bs.length:=by
  have h2:=rv.length;rw[qa4]at h2;simp;omega
 refine call_any_walk (wpAny_pyIter_list hl ?_);refine(s.heap.objs.size,_,_,_,_,_,λi=>bs.getD i false,rfl,Walks.list (prog:=X.prog) (w:=X.w) (A:=X.A.in1) (I.ok.hd hc) s.heap.objs.size a (ne_of_lt hlt) its.toArray,((_,get?_push_size _ rfl,rfl,rfl),hl.at λo e=>qa9 _ e),?_,λh' tk hk=>?_)
 .intro i v s' Q' E' hv hQ;have hi:i<bs.length:=by rw[<-hn];exact(Array.getElem?_eq_some_iff.mp hv).1
  obtain⟨y,ey,ry⟩:=rv.get (i:=i) (x:=.bl bs[i]) (by rw[qa6,qa2 hi];rfl);have:v=y:=by
   have hv':its.toArray[i]?=some v:=hv;rw[getElem?_toArray,ey]at hv';exact(Option.some.inj hv').symm
  subst this;cases ry;have e:bs.getD i false=bs[i]:=by rw[qa3,qa2 hi];rfl
  have hQ:Q' (bs.getD i false) s':=hQ;rw[e]at hQ;exact wpAny_truthy_bool hQ
 .rw [hn,kU];exact(.bl (bs.any id),H,I.kept (t':=tk) λb o eb=>hk b o (by simp;exact ne_of_lt (lt_size eb)) (qa9 _ eb),rfl,q)
def bitsL(m:Nat):LN:=(List.range 8).filter λk=>m.testBit k
def ai(led:Bool)(ks:LN):SetTable:=(if ks.length<5 then 7 else 31,ks.toArray,#[],0,led,if ks.length<5 then 0 else 1,true)
def cutK(ks:LN)(k:Nat):Nat:=(ks.filter (· < k)).length
def insK(ks:LN)(k:Nat):LN:=ks.take (cutK ks k)++k::ks.drop (cutK ks k)
def e_g(t:SetTable)(ks:LN):SetTable:={t with place:=ks.toArray}
def eh(led:Bool)(m k:Nat):Bool:=
 let ks:=bitsL m
 let t:=ai led ks
 let ks':=insK ks k
 ks.contains k||(decide (t.freeSlot (k:Int)=some (k,false,))&&decide (t.put k=(e_g t ks',cutK ks k,))&&(e_g t ks').fits ks'.length &&
  (if (e_g t ks').tooFull then decide ((e_g t ks').relaid (ks'.map λ(n:Nat)=>(n:Int)).toArray (SetTable.grown ks'.length)=some (ai led ks',(List.range ks'.length).toArray,))&&coversAll (List.range ks'.length).toArray ks'.length&&(ai led ks').fits ks'.length
   else decide (e_g t ks'=ai led ks'))&&decide (ks'=bitsL (m ||| 2^k)))
theorem qK0{p:Nat->Bool}(h:∀j,j<8->(List.range 32).all (λm=>p (32*j+m))=true):(List.range 256).all p=true:=by
 rw[all_eq_true];intro m hm;have hm:=mem_range.mp hm;have:=all_eq_true.mp (h (m/32) (by omega)) (m%32) (mem_range.mpr (Nat.mod_lt _ (by decide)));rwa[Nat.div_add_mod]at this
theorem qK:(List.range 256).all (λm=>(List.range 8).all λk=>eh true m k&&eh false m k)=true:=qK0 λ
 |0,_=>by decide +kernel
 |1,_=>by decide +kernel
 |2,_=>by decide +kernel
 |3,_=>by decide +kernel
 |4,_=>by decide +kernel
 |5,_=>by decide +kernel
 |6,_=>by decide +kernel
 |7,_=>by decide +kernel
 |n+8,h=>absurd h (by omega)
def pA(m k:Nat):Bool:=(!(bitsL m).contains k||decide (m ||| 2^k=m))&&decide (m ||| 2^k<256)&&decide ((bitsL m).length≤8)&&(bitsL m).all (· < 8)
set_option maxRecDepth 100000 in
theorem rn:(List.range 256).all (λm=>(List.range 8).all λk=>pA m k)=true:=by decide +kernel
theorem dl(hm:m<256)(hk:k<8):(k∈bitsL m->m ||| 2^k=m)/\m ||| 2^k<256/\(bitsL m).length≤8/\∀x∈bitsL m,x<8:=by
 have h:=all_eq_true.mp (all_eq_true.mp rn m (mem_range.mpr hm)) k (mem_range.mpr hk);simp only[pA,and_eq_true,or_eq_true,not_eq_true',decide_eq_true_eq]at h;obtain⟨⟨⟨h1,h2⟩,h3⟩,h4⟩:=h;refine(λz=>h1.elim (λy=>?_) id,h2,h3,λx hx=>of_decide_eq_true (all_eq_true.mp h4 x hx));rw[contains_iff_mem.mpr z]at y;cases y
theorem sx(led:Bool)(hm:m<256)(hk:k<8)(hn:k∉bitsL m):(ai led (bitsL m)).freeSlot (k:Int)=some (k,false,)/\(ai led (bitsL m)).put k=(e_g (ai led (bitsL m)) (insK (bitsL m) k),cutK (bitsL m) k,)/\(e_g (ai led (bitsL m)) (insK (bitsL m) k)).fits (insK (bitsL m) k).length=true/\insK (bitsL m) k=bitsL (m ||| 2^k)/\
  (if (e_g (ai led (bitsL m)) (insK (bitsL m) k)).tooFull=true then(e_g (ai led (bitsL m)) (insK (bitsL m) k)).relaid ((insK (bitsL m) k).map λ(n:Nat)=>(n:Int)).toArray (SetTable.grown (insK (bitsL m) k).length)=some (ai led (insK (bitsL m) k),(List.range (insK (bitsL m) k).length).toArray,)/\coversAll (List.range (insK (bitsL m) k).length).toArray (insK (bitsL m) k).length=true/\(ai led (insK (bitsL m) k)).fits (insK (bitsL m) k).length=true
   else e_g (ai led (bitsL m)) (insK (bitsL m) k)=ai led (insK (bitsL m) k)):=by
 have h:=all_eq_true.mp (all_eq_true.mp qK m (mem_range.mpr hm)) k (mem_range.mpr hk);have h:eh led m k=true:=by
  rw[and_eq_true]at h;cases led
  .exact h.2
  .exact h.1
 unfold eh at h;dsimp only at h;rw[or_eq_true]at h;rcases h with h|h
 .exact absurd (contains_iff_mem.mp h) hn
 .simp only[and_eq_true,decide_eq_true_eq]at h;obtain⟨⟨⟨⟨h1,h2⟩,h3⟩,h4⟩,h5⟩:=h;refine(h1,h2,h3,h5,?_);split at h4
  .rename_i c;rw[if_pos c];simpa[and_assoc]using h4
  .rename_i c;rw[if_neg c];simpa using h4
def esOf(ks:LN)(ts:List Tok):List (Int×Value):=List.zipWith (λ(k:Nat)t=>((k:Int),Value.int (k:Int) t,)) ks ts
theorem a_J(h:ts.length=ks.length):(esOf ks ts).length=ks.length:=by simp[esOf,h]
theorem gb:∀{ks:LN}{ts:List Tok},ts.length=ks.length->(esOf ks ts).map Prod.fst=ks.map λ(n:Nat)=>(n:Int)
 |[],[],_=>rfl
 |k::ks,t::ts,h=>by
  have:=gb (ks:=ks) (ts:=ts) (by simpa using h);show(k:Int)::(esOf ks ts).map Prod.fst=_;rw[this];rfl
theorem nc{ks:LN}(h:ts.length=ks.length):esOf (ks.take p++k::ks.drop p) (ts.take p++t::ts.drop p)=(esOf ks ts).take p++((k:Int),Value.int (k:Int) t,)::(esOf ks ts).drop p:=by
 unfold esOf;rw[List.zipWith_append (by simp[h]),List.zipWith_cons_cons,List.take_zipWith,List.drop_zipWith]
theorem tu(l:List α)(p:Nat)(x:α):SetTable.insertAt l.toArray p x=(l.take p++x::l.drop p).toArray:=by
 unfold SetTable.insertAt;simp only[List.extract_toArray,List.push_toArray,List.append_toArray];congr 1;simp[take_of_length_le]
theorem b8{α:Type}(l:List α):∀n,(List.range n).filterMap (λi=>l[i]?)=l.take n
 |0=>rfl
 |n+1=>by
  rw[List.range_succ,List.filterMap_append,b8 l n,List.take_add_one];cases q:l[n]?<;>simp[q]
theorem lQ{α:Type}(l:List α):(List.range l.length).toArray.filterMap (λi=>l.toArray[i]?)=l.toArray:=by
 rw[List.filterMap_toArray];congr 1;have h:=b8 l l.length;rw[take_length]at h;simpa using h
def al(w:World):Bool:=!w.params.followText "set-order"
def aQ(w:World)(h:Heap)(a:Addr)(m:Nat):Prop:=∃(o:Obj)(ts:List Tok)(ep:Nat),h.get? a=some o/\o.ExactSet/\ts.length=(bitsL m).length/\o.data=.set (esOf (bitsL m) ts).toArray ep (ai (al w) (bitsL m))
def g_A(led:Bool)(m i:Nat):Bool:=
 let ks:=bitsL m
 !(decide (i≤ks.length))||decide (SetTable.below ks.toArray (if i=0 then 0 else ks.getD (i-1) 0+1)=i)&&(ai led ks).fits ks.length
theorem oM:(List.range 256).all (λm=>(List.range 9).all λi=>g_A true m i&&g_A false m i)=true:=qK0 λ
 |0,_=>by decide +kernel
 |1,_=>by decide +kernel
 |2,_=>by decide +kernel
 |3,_=>by decide +kernel
 |4,_=>by decide +kernel
 |5,_=>by decide +kernel
 |6,_=>by decide +kernel
 |7,_=>by decide +kernel
 |n+8,h=>absurd h (by omega)
theorem f_W(led:Bool)(hm:m<256)(hi:i≤(bitsL m).length):SetTable.below (bitsL m).toArray (if i=0 then 0 else(bitsL m).getD (i-1) 0+1)=i/\(ai led (bitsL m)).fits (bitsL m).length=true:=by
 have h8:=(dl (k:=0) hm (by decide)).2.2.1;have h:=all_eq_true.mp (all_eq_true.mp oM m (mem_range.mpr hm)) i (mem_range.mpr (by omega));have h:g_A led m i=true:=by
  rw[and_eq_true]at h;cases led
  .exact h.2
  .exact h.1
 unfold g_A at h;dsimp only at h;rw[decide_eq_true hi]at h;simpa using h
section
variable{P:Program}{w:World}{A:Around}{E:Value->Shared->Prop}{s:Shared}{a:Addr}{m k:Nat}
theorem g_d(h:k<8):(intKind P w).hash (k:Int)=(k:Int):=by
 rcases k with _|_|_|_|_|_|_|_|k;any_goals rfl
 omega
theorem es_mem:∀{ks:LN}{ts:List Tok}{e:Int×Value},e∈esOf ks ts->∃k∈ks,∃t,e=((k:Int),Value.int (k:Int) t,)
 |[],_,e,h=>by simp[esOf]at h
 |_::_,[],e,h=>by simp[esOf]at h
 |k::ks,t::ts,e,h=>by
  rcases mem_cons.mp (show e∈((k:Int),Value.int (k:Int) t,)::esOf ks ts from h)with rfl|h
  .exact (k,by simp,t,rfl)
  .obtain ⟨k',hk,t',e'⟩:=es_mem h;exact(k',by simp[hk],t',e')
theorem na(h:∀x∈ks,x<8):ElemsOf (intKind P w) (esOf ks ts):=λe he=>by
 obtain⟨k,hk,t,rfl⟩:=es_mem he;exact(((k:Int),intKind_is _ _ _ _,(g_d (h k hk)).symm),rfl)
theorem ju:∀{ks:LN}{ts:List Tok},ts.length=ks.length->((esOf ks ts).findIdx? (λe=>(intKind P w).is (k:Int) e.2)).isSome=decide (k∈ks)
 |[],_,_=>by simp[esOf]
 |k'::ks,t::ts,h=>by
  have ih:=ju (ks:=ks) (ts:=ts) (by simpa using h);have e:(intKind P w).is (k:Int) (Value.int (k':Int) t)=decide (k'=k):=by
   show Value.isInt (k:Int) (Value.int (k':Int) t)=_;by_cases c:k'=k
   .subst c;simp[Value.isInt]
   .rw [decide_eq_false c];simp[Value.isInt,show ¬ (k':Int)=(k:Int)from λz=>c (Int.ofNat.inj z)]
  rw[show esOf (k'::ks) (t::ts)=((k':Int),Value.int (k':Int) t,)::esOf ks ts from rfl,List.findIdx?_cons];dsimp only;rw[e];by_cases c:k'=k
  .subst c;simp
  .rw [if_neg (by simpa using c),Option.isSome_map,ih];simp[show ¬ k=k' from λz=>c z.symm]
theorem tJ(hm:m<256)(hk:k<8)(hS:aQ w s.heap a m)(h:∀b h',SameBut a s.heap h'->aQ w h' a (m ||| 2^k)->Q b {s with heap:=h'}):wpAny (model P w) A (setAddHashed a (.int (k:Int) t) ((intKind P w).hash (k:Int))) Q E s:=by
 obtain⟨o,ts,ep,ho,hx,hl,hd⟩:=hS;obtain⟨s1,s2,s3,s4⟩:=dl hm hk;have hz:(esOf (bitsL m) ts).toArray.size=(bitsL m).length:=by rw[size_toArray,a_J hl]
 have hf:(ai (al w) (bitsL m)).fits (esOf (bitsL m) ts).toArray.size=true:=by rw[hz];exact(f_W _ hm (zero_le _)).2
 have hel:ElemsOf (intKind P w) (esOf (bitsL m) ts).toArray.toList:=na s4;have hs:(esOf (bitsL m) ts).toArray.size<scanBound:=by rw[hz];exact lt_of_le_of_lt s3 (by decide)
 unfold setAddHashed setAddHashedIn;refine wpAny_holding (qa7 (wpAny_setState_of ho hd hf ?_));dsimp only;rw[byScan_of (knd:=intKind P w) (x:=.int (k:Int) t) rfl hs hel,if_pos rfl];unfold setAddByScan;refine qa7 (qa7 (wpAny_rule (qa7 (wpAny_setScan_of (knd:=intKind P w) (intKind_is _ _ _ _) ho hd hf hel ?_))));have hfi:=ju (P:=P) (w:=w) (k:=k) hl;by_cases hin:k∈bitsL m
 .rw [decide_eq_true hin]at hfi;obtain⟨j,hj⟩:=Option.isSome_iff_exists.mp hfi;rw[show List.findIdx? _ (esOf (bitsL m) ts).toArray.toList=some j from hj];dsimp only;refine qa8 (qa8 ?_);have:=h false s.heap (SameBut.refl a s.heap) (by rw[s1 hin];exact(o,ts,ep,ho,hx,hl,hd));exact this
 .rw [decide_eq_false hin]at hfi;have hj:List.findIdx? (λe=>(intKind P w).is (k:Int) e.2) (esOf (bitsL m) ts)=none:=by
   cases q:List.findIdx? (λe=>(intKind P w).is (k:Int) e.2) (esOf (bitsL m) ts)with
   |none=>rfl
   |some j=>rw[q]at hfi;cases hfi
  rw[show List.findIdx? _ (esOf (bitsL m) ts).toArray.toList=none from hj];dsimp only;obtain⟨c1,c2,c3,c4,c5⟩:=sx (al w) hm hk hin;have hl':(ts.take (cutK (bitsL m) k)++t::ts.drop (cutK (bitsL m) k)).length=(insK (bitsL m) k).length:=by simp[insK,hl]
  have hL:layNew (ai (al w) (bitsL m)) (esOf (bitsL m) ts).toArray ((intKind P w).hash (k:Int)) (.int (k:Int) t)=((esOf (insK (bitsL m) k) (ts.take (cutK (bitsL m) k)++t::ts.drop (cutK (bitsL m) k))).toArray,e_g (ai (al w) (bitsL m)) (insK (bitsL m) k),false,false,):=by
   unfold layNew;rw[g_d hk,c1];dsimp only;rw[c2];dsimp only;rw[tu,<-nc hl];have e1:(esOf ((bitsL m).take (cutK (bitsL m) k)++k::(bitsL m).drop (cutK (bitsL m) k)) (ts.take (cutK (bitsL m) k)++t::ts.drop (cutK (bitsL m) k))).toArray.size=(insK (bitsL m) k).length:=by rw[size_toArray];exact a_J hl'
   rw[e1,SetTable.orStandIn,if_pos c3,c3];rfl
  rw[hL];dsimp only;have hpl:(e_g (ai (al w) (bitsL m)) (insK (bitsL m) k)).plain=true:=rfl;have hfst:=gb hl';have hlen:=a_J hl';generalize hT:e_g (ai (al w) (bitsL m)) (insK (bitsL m) k)=T at hpl c2 c3 c5⊢;have fin:∀(h':Heap)(o':Obj)(ep':Nat)(T':SetTable),SameBut a s.heap h'->h'.get? a=some o'->o'.ExactSet->o'.data=.set (esOf (insK (bitsL m) k) (ts.take (cutK (bitsL m) k)++t::ts.drop (cutK (bitsL m) k))).toArray ep' T'->T'=ai (al w) (insK (bitsL m) k)->Q true {s with heap:=h'}:=by
   rintro h' o' ep' T' g1 g2 g3 g4 rfl;rw[c4]at g4 hl';exact h true h' g1 (o',_,ep',g2,g3,hl',g4)
  generalize esOf (insK (bitsL m) k) (ts.take (cutK (bitsL m) k)++t::ts.drop (cutK (bitsL m) k))=es' at hfst hlen fin⊢;have hz':es'.toArray.size≤sizeLine:=by
   rw[size_toArray,hlen,c4,sizeLine_eq];have:=(dl s2 hk).2.2.1;omega
  have put:∀(h1:Heap)(o1:Obj)(e1:Array (Int×Value))(n1:Nat)(t1 T1:SetTable),h1.get? a=some o1->o1.data=.set e1 n1 t1->(h1.update a (Obj.putSet es'.toArray T1)).get? a=some {o1 with data:=.set es'.toArray (n1+1) T1}:=by
   intro h1 o1 e1 n1 t1 T1 z1 z2;have z:=get?_update_self (Obj.putSet es'.toArray T1) z1 (by rw[putSet_of _ _ z2];rfl);rw[putSet_of _ _ z2]at z;exact z
  refine qa7 (qa8 ?_);rw[if_pos hpl,hashByValue_scannable 8 (x:=.int (k:Int) t) rfl];refine qa7 (qa8 ?_);rw[show plainKind (.int (k:Int) t)=true from rfl];simp only[if_true,Bool.not_false,Bool.true_and];refine qa7 (wpAny_storeSet_of ho hd ?_ hz');have g1:=put _ _ _ _ _ T ho hd;have sb:=SameBut.update s.heap a (Obj.putSet es'.toArray T);by_cases ct:T.tooFull=true
  .rw [if_pos ct]at c5⊢;obtain⟨d1,d2,d3⟩:=c5;have hR:relayAll T es'.toArray (SetTable.grown es'.toArray.size)=(es'.toArray,ai (al w) (insK (bitsL m) k),false,):=by
    unfold relayAll;rw[show es'.toArray.map (·.1)=((insK (bitsL m) k).map λ(n:Nat)=>(n:Int)).toArray by rw[List.map_toArray,<-hfst],size_toArray,hlen,d1];dsimp only;rw[<-hlen,lQ,size_toArray,hlen,d2,d3];rfl
   rw[hR];refine qa7 (qa8 (qa7 (wpAny_storeSet_of g1 rfl ?_ hz')));have g2:=put _ _ _ _ _ (ai (al w) (insK (bitsL m) k)) g1 rfl;exact qa8 (qa8 (fin _ _ _ _ (sb.trans (SameBut.update _ a _)) g2 hx rfl rfl))
  .rw [if_neg ct]at c5⊢;exact qa8 (qa8 (fin _ _ _ _ sb g1 hx rfl c5))
theorem g_I{ns:LN}(h:i<ns.length):ns.getD i 0=ns[i]:=by rw[qa3,qa2 h];rfl
def c_a(ns:LN):Nat:=ns.foldl (λm k=>m ||| 2^k) 0
theorem ko(ns:LN)(k:Nat):c_a (ns++[k])=c_a ns ||| 2^k:=by simp[c_a,List.foldl_append]
theorem g_C(h:∀x∈ns,x<8):c_a ns<256:=by
 have:∀(ns:LN)(m:Nat),(∀x∈ns,x<8)->m<256->ns.foldl (λm k=>m ||| 2^k) m<256:=by
  intro ns;induction ns with
  |nil=>exact λm _ hm=>hm
  |cons k r ih=>exact λm hk hm=>ih _ (λx hx=>hk x (by simp[hx])) (dl hm (hk k (by simp))).2.1
 exact this ns 0 h (by decide)
theorem aQ.keep(x:aQ w h a m)(e:∀o,h.get? a=some o->h'.get? a=some o):aQ w h' a m:=by
 obtain⟨o,ts,ep,ho,r⟩:=x;exact(o,ts,ep,e o ho,r)
theorem r9{St:Nat->Heap->Prop}(W:Walks P w A.in1 I fp wr n Pv St)(hSf:S∉fp)(hn:ns.length=n)(h8:∀x∈ns,x<8)(hv:∀i v,Pv i v->∃t,v=.int ((ns.getD i 0:Nat):Int) t):∀(j i:Nat)(s:Shared),n-i=j->i≤n->St i s.heap->aQ w s.heap S (c_a (ns.take i))->
   (∀(h':Heap)(tk:Nat),(∀b o,b∉S::wr->s.heap.get? b=some o->h'.get? b=some o)->aQ w h' S (c_a ns)->R (.ok (.ret .none)) {s with heap:=h',toks:=tk})->codeAny (model P w) A (.builtin "set.update.loop" ([.ref S,.ref I],[])) R s:=by
 have hw:S∉wr:=λz=>hSf (W.sub _ z);intro j;induction j with
 |zero=>
  intro i s hj hi st x q;cases(show i=n by omega);refine codeAny_builtin PyProof.Rows.F.entry_set_update_loop ?_;rw[Around.under_plainId PyProof.Rows.F.plain_set_update_loop _];show wpAny _ A.in1 (pyNext (.ref I)>>=_) _ _ s;refine qa7 (W.done s _ _ st λh' tk kp=>?_);rw[<-hn,take_length]at x;exact qa8 (q h' tk (λb o hb e=>kp b o (λz=>hb (by simp[z])) e) (x.keep λo e=>kp S o hw e))
 |succ j ih=>
  intro i s hj hi st x q;have hlt:i<n:=by omega
  refine codeAny_builtin PyProof.Rows.F.entry_set_update_loop ?_;rw[Around.under_plainId PyProof.Rows.F.plain_set_update_loop _];show wpAny _ A.in1 (pyNext (.ref I)>>=_) _ _ s;refine qa7 (W.item i s _ _ hlt st λv h' tk pv st' kp=>?_);obtain⟨t,rfl⟩:=hv i v pv;have hi':i<ns.length:=by omega
  have hk:ns.getD i 0<8:=by rw[g_I hi'];exact h8 _ (getElem_mem hi')
  have x':=x.keep (h':=h') λo e=>kp S o hw e;show wpAny _ A.in1 (holding [Value.int ((ns.getD i 0:Nat):Int) t] (setAdd S (.int ((ns.getD i 0:Nat):Int) t))>>=_) _ _ _;refine qa7 (wpAny_holding ?_);unfold setAdd;refine wpAny_holding (qa7 ((intKind P w).pyHash (k:=((ns.getD i 0:Nat):Int)) (intKind_is _ _ _ _) ?_));refine tJ (g_C λy hy=>h8 y (List.mem_of_mem_take hy)) hk (s:={s with heap:=h',toks:=tk+1}) x' λb h2 sb x2=>?_;rw[<-ko,g_I hi',List.take_append_getElem hi']at x2;refine qa8 (plainId_quiet PyProof.Rows.F.plain_set_update_loop _,ih (i+1) _ (by omega) hlt (W.frame _ _ _ st' λb hb o e=>?_) x2 λh3 tk3 kp3 x3=>?_)
  .exact (sb.2 b (λz=>hSf (z▸hb))).trans e
  .refine q h3 tk3 (λb o hb e=>kp3 b o hb ?_) x3;exact(sb.2 b (λz=>hb (by simp[z]))).trans (kp b o (λz=>hb (by simp[z])) e)
theorem sY(u:Value)(q:Q1 (.ref s.heap.objs.size) {s with heap:=s.heap.push {cls:=.type "set",dict:=none,data:=.set #[] 0 (.fresh 0 0 (al w))} }):codeAny (model P w) A (.call (.builtin "set.__new__") ([.type "set",u],[])) (wants Q1 E) s:=by
 refine codeAny_of_tree (show wpAny _ A.in1 (do checkBuiltinCall "set.__new__" ([.type "set",u],[]);again (.builtin "set.__new__" ([.type "set",u],[]))) _ _ s from ?_);refine qa7 (wpAny_of_eq (PySem.F.newCall_set_1 u) (qa8 (plainId_quiet PySem.F.plain_set_new _,codeAny_builtin PySem.F.entry_set_new ?_)));rw[Around.under_plainId PySem.F.plain_set_new _];unfold Builtin.«set.__new__» Builtin.Frozenset.newClass;have z:=sub_set_self;obtain⟨hp,g,d,tk,os⟩:=s;dsimp only
 wp_walk
 refine wpAny_askSetting (qa8 ?_);dsimp only;simp only[newObj];exact qa7 (wpAny_alloc (qa8 (qa8 q)))
theorem oY(hg:h.get? a=some {cls:=.type "set",dict:=none,data:=.set #[] 0 (.fresh 0 0 (al w))}):aQ w h a 0:=(_,[],0,hg,(rfl,rfl,rfl),rfl,rfl)
theorem sk{its:List Value}(hh:A.handled=none)(hl:s.heap.IsList l its.toArray)(hn:ns.length=its.length)(h8:∀x∈ns,x<8)(hv:∀(i:Nat)(v:Value),its[i]?=some v->∃t,v=.int ((ns.getD i 0:Nat):Int) t)(q:∀(h':Heap)(tk:Nat),aQ w h' s.heap.objs.size (c_a ns)->(∀b o,s.heap.get? b=some o->h'.get? b=some o)->Q (.ref s.heap.objs.size) {s with heap:=h',toks:=tk}):wpAny (model P w) A (call (.type "set") [.ref l]) Q E s:=by
 obtain⟨c,tl,mro⟩:=called_set.mro;have made:=called_set.made;have sub:=called_set.sub;refine wpAny_call (codeAny_of_tree (show wpAny _ _ (callAny (.type "set") _) _ _ _ from ?_));refine qa8 (Code.quiet_builtin _ (by decide +kernel),codeAny_builtin PySem.F.entry_type_call ?_);rw[Around.under_plain (weight_type_call_type "set" [.ref l] []) rfl];have k1:=called_set.notType;have k2:=called_set.canCreate;have k3:=PySem.F.typeCall_set_1 (.ref l);repeat (any_goals (first|assumption|wp_step))
 refine codeAny_mono (sY (.ref l) (E:=E) (Q1:=λob s1=>ob=.ref s.heap.objs.size/\s1={s with heap:=s.heap.push {cls:=.type "set",dict:=none,data:=.set #[] 0 (.fresh 0 0 (al w))} }) (rfl,rfl)) λr s1 hr=>?_;cases r with
 |error e=>exact hr
 |ok fl=>
  cases fl with
  |ret ob=>
   obtain⟨rfl,rfl⟩:=hr;have gS:(s.heap.push {cls:=.type "set",dict:=none,data:=.set #[] 0 (.fresh 0 0 (al w))}).get? s.heap.objs.size=some {cls:=.type "set",dict:=none,data:=.set #[] 0 (.fresh 0 0 (al w))}:=get?_push_size _ rfl;have tS:Shared.TypeIs {s with heap:=s.heap.push {cls:=.type "set",dict:=none,data:=.set #[] 0 (.fresh 0 0 (al w))} } (.ref s.heap.objs.size) "set":=(_,gS,rfl);have k4:=called_set.init.lookup;have k5:=called_set.init.bind (.ref s.heap.objs.size);repeat (any_goals (first|assumption|wp_step))
   refine codeAny_mono (codeAny_call_builtin (R:=wants (λr s2=>r=.none/\∃h' tk,s2={s with heap:=h',toks:=tk}/\aQ w h' s.heap.objs.size (c_a ns)/\∀b o,s.heap.get? b=some o->h'.get? b=some o) E) called_set.init.plain PySem.F.entry_set_init (check_set_init_1 tS ?_)) λr2 s2 hr2=>?_
   .have hlS:l<s.heap.objs.size:=let⟨_,z,_⟩:=hl;lt_size z;have hl1:=hl.push {cls:=.type "set",dict:=none,data:=.set #[] 0 (.fresh 0 0 (al w))};obtain⟨ol,hol,hcl,nl,hdl⟩:=hl;obtain⟨oc,od,oD,os⟩:=ol;simp only at hcl hdl;subst hcl;subst hdl;have hol':(s.heap.push {cls:=.type "set",dict:=none,data:=.set #[] 0 (.fresh 0 0 (al w))}).get? l=some {cls:=.type "list",dict:=od,data:=.seq its.toArray nl,slots:=os}:=qa9 _ hol;have k6:=PySem.F.sub_list_set;have k7:=PySem.F.sub_list_frozenset;have k8:(Value.type "list"==Value.type "dict")=false:=by decide
    unfold Builtin.«set.__init__» noKeywords Builtin.Frozenset.updateFrom;generalize hPI:pyIter=PI
    wp_walk
    subst hPI;refine wpAny_pyIter_list hl1 (qa7 (wpAny_runValue ?_));have k9:A.in1.in1.in1.handled=none:=by simp[hh]
    have n1:l≠(s.heap.push {cls:=.type "set",dict:=none,data:=.set #[] 0 (.fresh 0 0 (al w))}).objs.size:=by rw[size_push];exact ne_of_lt (lt_succ_of_lt hlS)
    have n2:s.heap.objs.size∉[(s.heap.push {cls:=.type "set",dict:=none,data:=.set #[] 0 (.fresh 0 0 (al w))}).objs.size,l]:=by
     rw[size_push];simp only[mem_cons,not_mem_nil,or_false,not_or];exact(ne_of_lt (lt_succ_self _),ne_of_gt hlS)
    refine r9 (Walks.list k9 _ l n1 its.toArray) n2 (by rw[hn,size_toArray]) h8 (λi v z=>hv i v (by simpa using z)) _ 0 _ rfl (zero_le _) ((_,get?_push_size _ rfl,rfl,rfl),hl1.push _) (oY (qa9 _ gS)) λh' tk kp x=>?_;refine qa8 (qa8 (rfl,h',tk,rfl,x,λb o e=>kp b o ?_ (qa9 _ (qa9 _ e))));have hb:=lt_size e;simp only[mem_cons,not_mem_nil,or_false,not_or];refine(ne_of_lt hb,?_);rw[size_push];exact ne_of_lt (lt_succ_of_lt hb)
   .cases r2 with
    |error e=>exact hr2
    |ok f2=>
     cases f2 with
     |ret r=>
      obtain⟨rfl,h',tk,rfl,x,kp⟩:=hr2;repeat (any_goals (first|assumption|wp_step))
      exact q _ _ x kp
     |_=>exact hr2.elim
  |_=>exact hr.elim
end
theorem b_c:Slot "set_iterator" "__next__" "set_iterator.__next__":=.of (owner:="set_iterator") (n:="__next__") (by rw[typeLookup_type,builtinLookup_eq_fast];kernel_rfl) (by decide +kernel) (by decide +kernel) (by decide +kernel) (by first|exact .inl (by decide +kernel)|exact .inr (by decide +kernel)) (by rw[isSubtype_type];kernel_rfl)
theorem e_u:Slot "set_iterator" "__iter__" "set_iterator.__iter__":=.of (owner:="set_iterator") (n:="__iter__") (by rw[typeLookup_type,builtinLookup_eq_fast];kernel_rfl) (by decide +kernel) (by decide +kernel) (by decide +kernel) (by first|exact .inl (by decide +kernel)|exact .inr (by decide +kernel)) (by rw[isSubtype_type];kernel_rfl)
theorem e_b:entryFor table "set_iterator.__next__"=some Builtin.«set_iterator.__next__»:=entryFor_of_fast (by kernel_rfl)
theorem g_K:entryFor table "set_iterator.__iter__"=some Builtin.«dict_keyiterator.__iter__»:=entryFor_alias (id':="dict_keyiterator.__iter__") (by kernel_rfl) rfl (by decide +kernel) (by kernel_rfl)
theorem dR:entryFor table "set.__iter__"=some Builtin.«frozenset.__iter__»:=entryFor_alias (id':="frozenset.__iter__") (by kernel_rfl) rfl (by decide +kernel) (by kernel_rfl)
theorem e_B(a:Value):argsOk "set_iterator.__next__" ([a],[]):=by unfold argsOk;kernel_rfl
theorem d9(a:Value):argsOk "set_iterator.__iter__" ([a],[]):=by unfold argsOk;kernel_rfl
theorem ng{α:Type}:∀{l:List α}{i:Nat}(h:i<l.length),(l[i]::l.eraseIdx i).Perm l
 |x::l,0,_=>.refl _
 |x::l,i+1,h=>by
  have h':i<l.length:=by simpa using h
  show(l[i]::x::l.eraseIdx i).Perm (x::l);exact(Perm.swap _ _ _).trans ((ng h').cons x)
theorem lR{α:Type}(next:Nat->Nat):∀(n k:Nat)(l:List α)(out:Array α),l.length=n->(pickOrder.go next n k l out).toList.Perm (out.toList++l)
 |0,k,l,out,h=>by
  cases length_eq_zero_iff.mp h;simp[pickOrder.go]
 |n+1,k,l,out,h=>by
  have hi:next k%l.length<l.length:=Nat.mod_lt _ (by omega);unfold pickOrder.go;rw[qa2 hi];dsimp only;refine(lR next n (k+1) _ _ (by rw[List.length_eraseIdx_of_lt hi];omega)).trans ?_;rw[Array.toList_push,append_assoc];refine Perm.append_left _ ?_;exact ng hi
theorem jY(next:Nat->Nat)(l:List α):(pickOrder next l.toArray).toList.Perm l:=by
 unfold pickOrder;have:=lR next l.toArray.size 0 l.toArray.toList #[] rfl;simpa using this
def bv(w:World)(a:Addr)(m:Nat)(ts:List Tok)(ep:Nat):List Value:=
 if w.params.followText "set-order"=true then(pickOrder (w.params.setOrder a ep) (esOf (bitsL m) ts).toArray).toList.map (·.2)else(esOf (bitsL m) ts).map (·.2)
theorem d_H:(bv w a m ts ep).Perm ((esOf (bitsL m) ts).map (·.2)):=by
 unfold bv;split
 .exact (jY _ _).map _
 .exact .refl _
def sSlot(w:World)(m i:Nat):Nat:=if w.params.followText "set-order"=true then 0 else if i=0 then 0 else(bitsL m).getD (i-1) 0+1
section
variable{P:Program}{w:World}{A:Around}{E:Value->Shared->Prop}{s:Shared}{a I:Addr}{m i ep:Nat}{oS:Obj}{ts:List Tok}
theorem eW(hm:m<256)(hl:ts.length=(bitsL m).length)(ho:s.heap.get? a=some oS)(hd:oS.data=.set (esOf (bitsL m) ts).toArray ep (ai (al w) (bitsL m)))(hi:i≤(bitsL m).length)(h1:∀v,(bv w a m ts ep)[i]?=some v->Q (some (v,sSlot w m (i+1),)) s)(h2:i=(bitsL m).length->Q none s):wpAny (model P w) A (setNext a (sSlot w m i) i ep) Q E s:=by
 have hz:(esOf (bitsL m) ts).toArray.size=(bitsL m).length:=by rw[size_toArray,a_J hl]
 have hf:(ai (al w) (bitsL m)).fits (esOf (bitsL m) ts).toArray.size=true:=by rw[hz];exact(f_W _ hm (zero_le _)).2
 have hol:(bv w a m ts ep).length=(bitsL m).length:=by rw[d_H.length_eq,qa4,a_J hl]
 unfold setNext;refine qa7 (wpAny_setState_of ho hd hf ?_);dsimp only;unfold setsByText;refine qa7 (qa7 (wpAny_askSetting (qa8 ?_)));dsimp only;by_cases c:w.params.followText "set-order"=true
 .rw [show(model P w).w.params.followText "set-order"=true from c,if_pos rfl];rw[if_neg (by simp)];have e0:sSlot w m i=0:=by unfold sSlot;rw[if_pos c]
  have e1:sSlot w m (i+1)=0:=by unfold sSlot;rw[if_pos c]
  rw[e0];unfold setWalk;refine qa7 (qa7 (wpAny_setState_of ho hd hf ?_));dsimp only;unfold setsByText;refine qa7 (qa7 (wpAny_askSetting (qa8 ?_)));dsimp only;rw[show(model P w).w.params.followText "set-order"=true from c,if_pos rfl];refine qa7 (wpAny_askSetting (qa8 (qa8 ?_)));have so:bv w a m ts ep=(pickOrder (w.params.setOrder a ep) (esOf (bitsL m) ts).toArray).toList.map (·.2):=if_pos c;rw[e1,so]at h1;rw[so,qa4]at hol;by_cases hlt:i<(bitsL m).length
  .have hlt':i<(pickOrder (w.params.setOrder a ep) (esOf (bitsL m) ts).toArray).toList.length:=by omega
   have g:=h1 _ (by rw[qa6,qa2 hlt'];rfl);show Q (((pickOrder (w.params.setOrder a ep) (esOf (bitsL m) ts).toArray)[i]?).map _) s;rw[<-getElem?_toList,qa2 hlt'];exact g
  .show Q (((pickOrder (w.params.setOrder a ep) (esOf (bitsL m) ts).toArray)[i]?).map _) s;rw[<-getElem?_toList,getElem?_eq_none (by omega)];exact h2 (by omega)
 .have cf:w.params.followText "set-order"=false:=by simpa using c
  rw[show(model P w).w.params.followText "set-order"=false from cf];rw[if_neg Bool.false_ne_true];refine wpAny_ite_split (λz=>absurd z λy=>Bool.false_ne_true y) λ_=>?_;have hled:al w=true:=by unfold al;rw[cf];rfl
  refine qa7 (show wpAny _ _ (if (!(al w)&&!(esOf (bitsL m) ts).toArray.isEmpty)=true then _ else _) _ _ _ from ?_);rw[hled];refine wpAny_ite_split (λz=>absurd z λy=>Bool.false_ne_true y) λ_=>qa8 ?_;have e0:sSlot w m i=if i=0 then 0 else(bitsL m).getD (i-1) 0+1:=by unfold sSlot;rw[if_neg c]
  have e1:sSlot w m (i+1)=(bitsL m).getD i 0+1:=by unfold sSlot;rw[if_neg c,if_neg (by omega)];rfl
  have eb:SetTable.below (ai true (bitsL m)).place (sSlot w m i)=i:=by rw[e0];exact(f_W true hm hi).1
  have so:bv w a m ts ep=(esOf (bitsL m) ts).map (·.2):=if_neg c;rw[e1,so]at h1;refine qa8 ?_;rw[eb];by_cases hlt:i<(bitsL m).length
  .have hlt':i<(esOf (bitsL m) ts).length:=by rw[a_J hl];exact hlt
   have g:=h1 _ (by rw[qa6,qa2 hlt'];rfl);rw[show(esOf (bitsL m) ts).toArray[i]?=some (esOf (bitsL m) ts)[i] by simp[hlt'],show(ai true (bitsL m)).place[i]?=some (bitsL m)[i] by simp[ai,hlt]];rw[g_I hlt]at g;exact g
  .rw [show(esOf (bitsL m) ts).toArray[i]?=none by simp[a_J hl];omega];exact h2 (by omega)
def SIt(w:World)(h:Heap)(I a:Addr)(m i ep:Nat):Prop:=∃o,h.get? I=some o/\o.cls=.type "set_iterator"/\o.data=.fields #[rawInt (sSlot w m i),rawInt i,.ref a,rawInt (bitsL m).length,rawInt ep]
theorem SIt.type(x:SIt w s.heap I a m i ep):s.TypeIs (.ref I) "set_iterator":=let⟨o,ho,hc,_⟩:=x;(o,ho,hc)
theorem qQ(hh:A.handled=none)(hm:m<256)(hl:ts.length=(bitsL m).length)(hd:oS.data=.set (esOf (bitsL m) ts).toArray ep (ai (al w) (bitsL m)))(hne:a≠I):Walks P w A I [I,a] [I] (bitsL m).length (λi v=>(bv w a m ts ep)[i]?=some v) (λi h=>SIt w h I a m i ep/\h.get? a=some oS) where
 sub:=λb hb=>by simp at hb;simp[hb]
 frame:=λi h h' st k=>by
  obtain⟨⟨o,ho,r⟩,g⟩:=st;exact((o,k I (by simp) o ho,r),k a (by simp) _ g)
 item:=λi s Q E hi st q=>by
  obtain⟨x,g⟩:=st;have hT:=x.type;obtain⟨o,ho,hc,hdI⟩:=x;have hf:(ai (al w) (bitsL m)).fits (esOf (bitsL m) ts).toArray.size=true:=by rw[size_toArray,a_J hl];exact(f_W _ hm (zero_le _)).2
  unfold pyNext;refine qa7 (wpAny_attempt (wpAny_callSpecial?_slot (name:=Str.ofString "__next__") hT b_c (wpAny_call_entry b_c hT e_b ?_ (e_B _))));refine qa7 (qa8 (qa7 (wpAny_fieldsOf ho hdI ?_)));show wpAny _ _ (setEntries a>>=_) _ _ s;unfold setEntries;refine qa7 (qa7 (wpAny_setState_of g hd hf (qa8 ?_)));rw[size_toArray,a_J hl];refine wpAny_ite_split (λz=>absurd z (by simp)) λ_=>?_;refine qa7 (eW (i:=i) hm hl g hd (le_of_lt hi) (λv hv=>?_) λz=>absurd z (ne_of_lt hi));show wpAny _ _ (setField (.ref I) 0 (rawInt (sSlot w m (i+1)))>>=_) _ _ s;have g1:=get?_update_self (Obj.mapFields (·.setIfInBounds 0 (rawInt (sSlot w m (i+1))))) ho (Obj.isFreed_of_fields (Obj.data_mapFields hdI _));have d1:=Obj.data_mapFields hdI (·.setIfInBounds 0 (rawInt (sSlot w m (i+1))));refine qa7 (wpAny_setField ho hdI (by simp) (qa7 (wpAny_setField g1 d1 (by simp) ?_)));have g2:=get?_update_self (Obj.mapFields (·.setIfInBounds 1 (rawInt ((i:Int)+1)))) g1 (Obj.isFreed_of_fields (Obj.data_mapFields d1 _));have d2:=Obj.data_mapFields d1 (·.setIfInBounds 1 (rawInt ((i:Int)+1)));have sb:=(SameBut.update s.heap I (Obj.mapFields (·.setIfInBounds 0 (rawInt (sSlot w m (i+1)))))).trans (SameBut.update _ I (Obj.mapFields (·.setIfInBounds 1 (rawInt ((i:Int)+1)))));refine qa8 (_,rfl,qa8 (q v _ s.toks hv ((_,g2,?_,?_),(sb.2 a hne).trans g) λb o' hb e=>(sb.2 b (λz=>hb (by simp[z]))).trans e))
  .rw [Obj.cls_mapFields,Obj.cls_mapFields];exact hc
  .rw [d2];simp[rawInt]
 done:=λs Q E st q=>by
  obtain⟨x,g⟩:=st;have hT:=x.type;obtain⟨o,ho,hc,hdI⟩:=x;have hf:(ai (al w) (bitsL m)).fits (esOf (bitsL m) ts).toArray.size=true:=by rw[size_toArray,a_J hl];exact(f_W _ hm (zero_le _)).2
  unfold pyNext;refine qa7 (wpAny_attempt (wpAny_callSpecial?_slot (name:=Str.ofString "__next__") hT b_c (wpAny_call_entry b_c hT e_b ?_ (e_B _))));refine qa7 (qa8 (qa7 (wpAny_fieldsOf ho hdI ?_)));show wpAny _ _ (setEntries a>>=_) _ _ s;unfold setEntries;refine qa7 (qa7 (wpAny_setState_of g hd hf (qa8 ?_)));rw[size_toArray,a_J hl];refine wpAny_ite_split (λz=>absurd z (by simp)) λ_=>?_;refine qa7 (eW (i:=(bitsL m).length) hm hl g hd (le_refl _) (λv hv=>?_) λ_=>?_)
  .rw [getElem?_eq_none (by rw[d_H.length_eq,qa4,a_J hl];exact le_refl _)]at hv;cases hv
  .show wpAny _ _ (setField (.ref I) 2 .none>>=_) _ _ s;refine qa7 (wpAny_setField ho hdI (by simp) (qa7 ?_));simp only[newExc,newTuple];refine qa7 (wpAny_newObj_type ?_ (by size_fits));refine qa7 (m:=firstArgMember _ _) (wpAny_of_eq (a:=Value.none) (by first|rfl|(simp only[firstArgMember];rfl)) (wpAny_newObj_type ?_ (by size_fits)));simp only[raiseNew];refine qa7 (wpAny_handled ?_);rw[show A.in1.handled=none from hh];refine qa7 (qa8 (wpAny_throw ?_));refine qa7 (wpAny_isInstance (T:="StopIteration") (b:=true) (_,get?_push_size _ rfl,rfl) isSubtype_stop (qa8 (q _ s.toks λb o' hb e=>?_)));exact((SameBut.update s.heap I (Obj.mapFields (·.setIfInBounds 2 .none))).extBut.push _).push _ b o' (λz=>hb (by simp[z])) e
 self:=λi s Q E st q=>by
  have hT:=st.1.type;refine wpAny_pyIter_slot hT e_u (wpAny_call_entry e_u hT g_K (show wpAny _ _ (ret (.ref I)) _ _ s from ?_) (d9 _));exact qa8 (_,rfl,"set_iterator",_,hT,b_c.lookup,q)
theorem sd(hm:m<256)(hl:ts.length=(bitsL m).length)(ho:s.heap.get? a=some oS)(hx:oS.ExactSet)(hd:oS.data=.set (esOf (bitsL m) ts).toArray ep (ai (al w) (bitsL m)))(q:Q (.ref s.heap.objs.size) {s with heap:=s.heap.push {cls:=.type "set_iterator",data:=.fields #[rawInt (sSlot w m 0),rawInt (0:Nat),.ref a,rawInt (bitsL m).length,rawInt ep]} }):wpAny (model P w) A (pyIter (.ref a)) Q E s:=by
 have hT:s.TypeIs (.ref a) "set":=(oS,ho,hx.1);have hf:(ai (al w) (bitsL m)).fits (esOf (bitsL m) ts).toArray.size=true:=by rw[size_toArray,a_J hl];exact(f_W _ hm (zero_le _)).2
 refine wpAny_pyIter_slot hT PySem.F.slot_set_iter (wpAny_call_entry PySem.F.slot_set_iter hT dR ?_ (PySem.F.args_set_iter_1 _));unfold Builtin.«frozenset.__iter__»;refine qa7 (show wpAny _ _ (pure a) _ _ s from qa8 ?_);unfold Builtin.Frozenset.sizeOf setEntries;refine qa7 (qa7 (qa7 (wpAny_setState_of ho hd hf (qa8 (qa8 ?_)))));unfold setDrawn;refine qa7 (qa7 (wpAny_setState_of ho hd hf ?_));unfold setsByText;refine qa7 (qa7 (wpAny_askSetting (qa8 (qa8 ?_))));have e:(!(model P w).w.params.followText "set-order"&&false)=false:=by simp
 refine wpAny_ite_split (λz=>absurd (e.symm.trans z) Bool.false_ne_true) λ_=>qa7 (qa8 ?_);unfold setEpoch;refine qa7 (qa7 (wpAny_setState_of ho hd hf (qa8 ?_)));refine qa7 (wpAny_newObj_type (qa8 (_,rfl,"set_iterator",_,(_,get?_push_size _ rfl,rfl),b_c.lookup,?_)));have e2:(sSlot w m 0:Int)=0:=by unfold sSlot;split<;>rfl
 rw[e2]at q;simpa[rawInt,a_J hl]using q
theorem sh(hT:s.TypeIs (.ref a) "set")(h:Q false s):wpAny (model P w) A (Builtin.List.listLengthHint (.ref a)) Q E s:=by
 unfold Builtin.List.listLengthHint;refine qa7 (wpAny_specialOf hT PySem.F.slot_set_len.lookup ?_);generalize hid:("set.__len__":String)=i0
 wp_delta
 rw[show splitId i0=some ("set","__len__",)from by subst hid;decide +kernel];subst hid;refine qa7 (wpAny_isInstance (T:="set") (b:=true) hT (by rw[isSubtype_type];kernel_rfl) (wpAny_ite_split (λz=>absurd z (by decide)) λ_=>?_));exact wpAny_ite_split (λ_=>qa7 (wpAny_typeOf hT (qa8 h))) λz=>absurd (by decide +kernel) z
theorem sR(hm:m<256)(hl:ts.length=(bitsL m).length)(hx:oS.ExactSet)(hd:oS.data=.set (esOf (bitsL m) ts).toArray ep (ai (al w) (bitsL m))):PySem.W.KdlSrc P w "set" a a (bitsL m).length (λi v=>(bv w a m ts ep)[i]?=some v) (λh=>h.get? a=some oS) where
 type:=λ_ ho=>(oS,ho,hx.1)
 there:=λ_ ho=>(lt_size ho,lt_size ho)
 keep:=λ_ _ ho k=>k a (.inl rfl) _ ho
 notList:=by decide
 notTuple:=by decide
 hint:=λ_ _ _ _ ho q=>sh (oS,ho,hx.1) q
 iter:=λ_ _ hh ho=>(_,_,(λ_ _ q=>sd hm hl ho hx hd q),qQ hh hm hl hd (ne_of_lt (lt_size ho)),((_,get?_push_size _ rfl,rfl,rfl),qa9 _ ho))
theorem jt:∀{ks:LN}{ts:List Tok},ts.length=ks.length->IntsAre ((esOf ks ts).map (·.2)) (ks.map λ(n:Nat)=>(n:Int))
 |[],_,_=>.nil
 |k::ks,t::ts,h=>.cons (k:Int) t (jt (by simpa using h))
theorem kE(p:l'.Perm l):∀{ns:List Int},IntsAre l ns->∃ns',IntsAre l' ns'/\ns'.Perm ns:=by
 induction p with
 |nil=>exact λh=>(_,h,.refl _)
 |cons x p ih=>
  intro ns h;cases h with
  |cons n t h=>
   obtain⟨ns',a1,a2⟩:=ih h;exact(n::ns',.cons n t a1,a2.cons n)
 |swap x y l=>
  intro ns h;cases h with
  |cons n t h=>cases h with
   |cons n' t' h=>exact(_,.cons n' t' (.cons n t h),.swap _ _ _)
 |trans p1 p2 i1 i2=>
  intro ns h;obtain⟨n1,a1,a2⟩:=i2 h;obtain⟨n2,b1,b2⟩:=i1 a1;exact(n2,b1,b2.trans a2)
theorem o8(m:Nat):((bitsL m).map λ(n:Nat)=>(n:Int)).Pairwise (·≤·):=by
 rw[List.pairwise_map];exact((List.pairwise_lt_range (n:=8)).filter _).imp λh=>by omega
theorem sj(K:PySem.W.KdlSrc P w T a a n Pv OK)(hh:A.handled=none)(hok:OK s.heap)(hn:n≤sizeLine)(q:∀(h':Heap)(tk:Nat)(acc:Array Value),s.heap.objs.size≤h'.objs.size->(∀b o,s.heap.get? b=some o->h'.get? b=some o)->ItemsOf Pv acc n->R acc.toList {s with heap:=h',toks:=tk}):wpAny (model P w) A (collect (.ref a)) R E s:=by
 have lt:=(K.there _ hok).1;unfold collect;refine qa7 (wpAny_runValue (codeAny_builtin entry_proto_collect' ?_));rw[Around.under_plainId PySem.F.plain_proto_collect _];refine(show wpAny _ A.in1 (newList []>>=λl=>again (.builtin "list.__iadd__" ([l,.ref a],[]))) _ _ s from qa7 (wpAny_newObj_type (qa8 (plainId_quiet PySem.F.plain_list_iadd _,codeAny_builtin entry_list_iadd' ?_))));rw[Around.under_plainId PySem.F.plain_list_iadd _];have g0:(s.heap.push {cls:=.type "list",data:=.seq ([]:List Value).toArray}).get? s.heap.objs.size=some {cls:=.type "list",data:=.seq #[]}:=get?_push_size _ rfl;have key:=PySem.W.kdl_extend (A:=A) (s:={s with heap:=s.heap.push {cls:=.type "list",data:=.seq ([]:List Value).toArray} })
  (R:=λ(r:Result)(s':Shared)=>∃(h':Heap)(tk:Nat)(acc:Array Value)(c:Nat),r=.ok (.ret (.ref s.heap.objs.size))/\s'={s with heap:=h',toks:=tk}/\(∀b o,s.heap.get? b=some o->h'.get? b=some o)/\
   h'.get? s.heap.objs.size=some {cls:=.type "list",dict:=none,data:=.seq acc c,slots:=#[]}/\ItemsOf Pv acc n)
  K hh (K.keep _ _ hok λb _ o e=>qa9 _ e) s.heap.objs.size (ne_of_gt lt) (ne_of_gt lt) (.ref s.heap.objs.size) 0 g0
  (λh' tk acc c k g z=>(h',tk,acc,c,rfl,rfl,λb o e=>k b o (ne_of_lt (lt_size e)) (qa9 _ e),g,z)) hn
 refine(show wpAny _ A.in1 (Builtin.List.listExtendWith (.ref s.heap.objs.size) (.ref a) (.ref s.heap.objs.size)) _ _ _ from wpAny_mono key (λf s' x=>?_) λe s' x=>?_)
 .cases f with
  |done f=>
   obtain⟨h',tk,acc,c,e,rfl,k,g,z⟩:=x;cases e;exact(show wpAny _ A (load s.heap.objs.size>>=_) _ _ _ from qa7 (wpAny_load g (qa8 (q h' tk acc (le_of_lt (lt_size g)) k z))))
  |again c1=>
   refine(x.1,codeAny_mono x.2 λr s2 y=>?_);obtain⟨h',tk,acc,c,rfl,rfl,k,g,z⟩:=y;exact(show wpAny _ A (load s.heap.objs.size>>=_) _ _ _ from qa7 (wpAny_load g (qa8 (q h' tk acc (le_of_lt (lt_size g)) k z))))
 .obtain ⟨_,_,_,_,e',_⟩:=x;cases e'
theorem rk(hh:A.handled=none)(hm:m<256)(hS:aQ w s.heap a m)(q:∀(p:Addr)(h':Heap)(tk n:Nat)(vs:List Value),s.heap.objs.size≤p->(∀b o,s.heap.get? b=some o->h'.get? b=some o)->IntsAre vs ((bitsL m).map λ(n:Nat)=>(n:Int))->h'.get? p=some {cls:=.type "list",data:=.seq vs.toArray n}->Q (.ref p) {s with heap:=h',toks:=tk}):wpAny (model P w) A (call (.builtin "sorted") [.ref a]) Q E s:=by
 obtain⟨oS,ts,ep,ho,hx,hl,hd⟩:=hS;refine PySem.Calls.call_function_entry kind_sorted plain_sorted entry_sorted (args_sorted1 _) ?_;unfold Builtin.«sorted»;refine qa7 (m:=checkCount "sorted" 1 1 _) (qa8 (qa7 (sj (A:=A.in1) (sR (P:=P) hm hl hx hd) hh ho (by rw[sizeLine_eq];have:=(dl (k:=0) hm (by decide)).2.2.1;omega) λh' tk acc hsz kp hacc=>?_)));have hlen:acc.toList.length=(bitsL m).length:=by rw[length_toList];exact hacc.1
 have h8:=(dl (k:=0) hm (by decide)).2.2.1;have hol:(bv w a m ts ep).length=(bitsL m).length:=by rw[d_H.length_eq,qa4,a_J hl]
 have hacc':acc.toList=bv w a m ts ep:=by
  refine List.ext_getElem (by rw[hlen,hol]) λj j1 j2=>?_;have:(bv w a m ts ep)[j]?=some acc.toList[j]:=hacc.2 j acc.toList[j] (by rw[<-getElem?_toList];exact qa2 j1);rw[qa2 j2]at this;exact(Option.some.inj this).symm
 refine qa7 (wpAny_newList ?_ (by rw[hlen,sizeLine_eq];omega));have hg:(h'.push {cls:=.type "list",data:=.seq acc.toList.toArray}).get? h'.objs.size=some (seqObj "list" acc.toList.toArray 0):=get?_push_size _ rfl;have hI:∃ns,IntsAre acc.toList ns/\ns.Perm ((bitsL m).map λ(n:Nat)=>(n:Int)):=by
  rw[hacc'];exact kE d_H (jt hl)
 obtain⟨ns,hI,hp⟩:=hI;refine qa7 (wpAny_holding ?_);refine wpAny_call_entry slot_list_sort (_,hg,rfl) entry_list_sort (list_sort_tree hg hI (by rw[hlen];omega) λout ns' i1 i2 i3=>?_) (args_list_sort _);have en:ns'=(bitsL m).map λ(n:Nat)=>(n:Int):=Perm.eq_of_pairwise (λx y _ _ h1 h2=>Int.le_antisymm h1 h2) i3 (o8 m) (i2.trans hp);subst en;refine(_,rfl,qa8 (_,rfl,?_));obtain⟨e,he⟩:=sortedHeap_at (out:=out) hg;refine q h'.objs.size _ tk e out.toList ?_ (λb o z=>?_) i1 (by simpa using he)
 .exact hsz
 .have hb:=lt_size (kp b o z);exact(sortedHeap_old (ne_of_lt hb) (by rw[size_push'];exact lt_succ_of_lt hb)).trans (qa9 _ (kp b o z))
end
end L2
namespace RA
open PySem PyProof.Rows L2
def p7(w:World)(a:Addr)(m:Nat):HO:=.ext λh=>aQ w h a m
theorem oh(x:aQ w h a m):a_L P w H h a (p7 w a m):=(x,let⟨o,_,_,e,_⟩:=x;(o,e),λh1 h2 z k=>aQ.keep z λo e=>k o e)
theorem jm:∀{ns:LN}{us:List Value},ad (intsV ns) us->∀(i:Nat)(v:Value),us[i]?=some v->∃t,v=.int ((ns.getD i 0:Nat):Int) t
 |[],_,r,i,v,e=>by cases r;simp at e
 |n::ns,_,r,i,v,e=>by
  cases r with
  |cons q rr=>
   obtain⟨t,rfl⟩:=q;cases i with
   |zero=>cases e;exact(t,rfl)
   |succ i=>exact jm rr i v e
theorem c_E:∀{ns:LN}{vs:List Value},IntsAre vs (ns.map λ(n:Nat)=>(n:Int))->ad (intsV ns) vs
 |[],_,h=>by cases h;exact .nil
 |n::ns,_,h=>by cases h with|cons _ t h=>exact .cons (t,rfl) (c_E h)
section
variable{X:Cx}
theorem kO(hc:X.calm=true):d_f X (.type "set") (λxs H Q=>∃(p:Addr)(ns:LN),xs=[.ref p]/\SqL X.K H p (intsV ns)/\(∀n∈ns,n<8)/\∀a,H a=none->Q (.ref a) (upd H a (p7 X.w a (c_a ns)))):=by
 intro pins s σ H xs us Q I r h;obtain⟨p,ns,rfl,hq,h8,q⟩:=h;obtain⟨u,rfl,rx⟩:=e_h r;cases rx;obtain⟨its,r',pl,hz⟩:=I.list hq;refine sk (ns:=ns) (I.ok.hd hc) pl.isList (by rw[<-r'.length];simp[intsV]) h8 (jm r') λh' tk x kp=>?_;exact(.ref s.heap.objs.size,_,I.laid (t':=tk) kp (le_refl _) (oh x),rfl,q _ (I.hok.fresh (le_refl _)))
theorem iK(hc:X.calm=true):d_f X (.builtin "sorted") (λxs H Q=>∃(a:Addr)(m:Nat),xs=[.ref a]/\m<256/\H a=some (p7 X.w a m)/\∀p,H p=none->Q (.ref p) (upd H p (.lst (intsV (bitsL m))))):=by
 intro pins s σ H xs us Q I r h;obtain⟨a,m,rfl,hm,ha,q⟩:=h;obtain⟨u,rfl,rx⟩:=e_h r;cases rx;refine rk (I.ok.hd hc) hm (show aQ X.w s.heap a m from(I.hok a _ ha).1) λp h' tk n vs hp kp hI hg=>?_;refine(.ref p,_,I.laid (t':=tk) (o:=.lst (intsV (bitsL m))) kp hp (?_,vs,n,c_E hI,hg),rfl,q _ (I.hok.fresh hp));have:=(dl (k:=0) hm (by decide)).2.2.1;rw[intsV,qa4,sizeLine_eq];omega
end
end RA
namespace RA
section
variable{g:LN->Nat->LN}{s:LN}{L:LN}{ks ws R:LL}{Bm:List Bool}{k m:Nat}
theorem b_H(bf:Bf g L s ks ws ks.length 0)(ways:b_C g L.length ks R)(hR:R.length=ks.length)(hw:ws[i]?=some w):(∀c∈w,c∈L)/\run L R 0 w=i:=by
 have hi:i<ks.length:=by rw[bf.len];exact(qa1 hw).1
 obtain⟨l1,l2⟩:=bf.lead i ks[i] w (qa2 hi) hw;refine(l1,?_);have h1:=e_R bf ways hR _ w rfl l1;rw[l2]at h1;exact dG bf.nd h1 (qa2 hi)
theorem eI(hL:Let L)(bf:Bf g L s ks ws ks.length 0)(ways:b_C g L.length ks R)(hR:R.length=ks.length)(hw:ws[i]?=some w)(hv:∀c∈v,c∈L)(hr:run L R 0 v=i):ear L v w=false:=by
 obtain⟨j,b,e1,e2,e3⟩:=bf.told hL.nd v _ rfl hv;have h1:=e_R bf ways hR _ v rfl hv;rw[hr]at h1;have:j=i:=dG bf.nd e1 h1;rw[this,hw]at e2;cases e2;exact e3
theorem fW(hMa:Mach L R Bm)(st:Rd R Bm (k+1)=Rd R Bm k)(hm:aL (Rd R Bm k) m)(hr:r<(a_N R (Rd R Bm k) m).length)(ht:t<(a_N R (Rd R Bm k) m).length)(e:∀u:LN,(∀c∈u,c∈L)->(d_d Bm (Rd R Bm k) m).getD (run L (a_N R (Rd R Bm k) m) r u) false=(d_d Bm (Rd R Bm k) m).getD (run L (a_N R (Rd R Bm k) m) t u) false):r=t:=by
 rw[a_N,qa4,length_range]at hr ht;obtain⟨r1,r2⟩:=c_p hm hMa hr;obtain⟨s1,s2⟩:=c_p hm hMa ht;have:=d_V hMa k r1 s1 λu hu=>by
  have e1:=e u hu;rw[<-r2,<-s2,c_b hm hMa st r1 hu,c_b hm hMa st s1 hu,c_M hm hMa (b_A hMa r1 hu),c_M hm hMa (b_A hMa s1 hu)]at e1;exact e1
 rw[r2,s2]at this;exact this
theorem c_q(bf:Bf g L s ks ws ks.length 0)(ways:b_C g L.length ks R)(hR:R.length=ks.length)(hMa:Mach L R Bm)(st:Rd R Bm (k+1)=Rd R Bm k)(hm:aL (Rd R Bm k) m):∃v,c_j L (a_N R (Rd R Bm k) m) (d_d Bm (Rd R Bm k) m) v:=by
 have hlen:(a_N R (Rd R Bm k) m).length=m:=by rw[a_N,qa4,length_range]
 have hwl:ws.length=R.length:=by rw[hR,bf.len]
 have at_:∀{i:Nat},i<R.length->ws[i]?=some (ws.getD i []):=λ{i}hi=>by
  rw[qa3,qa2 (by rw[hwl];exact hi)];rfl
 have l0:lot R Bm k 0=0:=qN hMa;have go:∀{u:LN},(∀c∈u,c∈L)->run L (a_N R (Rd R Bm k) m) 0 u=lot R Bm k (run L R 0 u):=λ{u}hu=>by
  have:=c_b hm hMa st hMa.n1 hu;rw[l0]at this;exact this
 refine(λj=>ws.getD ((Rd R Bm k).idxOf j) [],b_V hm hMa,(λj hj=>?_,λi j hij hj=>?_,λu hu=>?_),λhr ht e=>fW hMa st hm hr ht e)
 .rw [hlen]at hj;obtain⟨f1,f2⟩:=c_p hm hMa hj;obtain⟨w1,w2⟩:=b_H bf ways hR (at_ f1);refine(w1,?_);rw[go w1,w2];exact f2
 .rw [hlen]at hj;have hlt:=jp hm hMa hij hj;exact bf.srt _ _ _ _ hlt (at_ (lt_trans hlt (c_p hm hMa hj).1)) (at_ (c_p hm hMa hj).1)
 .rw [go hu];have hr:=b_A hMa hMa.n1 hu;have hle:=pI (k:=k) hMa hr;have h1:=eI hMa.lt bf ways hR (at_ hr) hu rfl;rcases Nat.lt_or_eq_of_le hle with z|z
  .have h2:=bf.srt _ _ _ _ z (at_ (lt_trans z hr)) (at_ hr);cases e:ear L u (ws.getD ((Rd R Bm k).idxOf (lot R Bm k (run L R 0 u))) [])with
   |false=>rfl
   |true=>rw[ear_trans e h2]at h1;cases h1
  .show ear L u (ws.getD ((Rd R Bm k).idxOf (lot R Bm k (run L R 0 u))) [])=false;rw[z];exact h1
theorem mI(hMa:Mach L R Bm)(reach:∀i,i<R.length->∃w:LN,(∀c∈w,c∈L)/\run L R 0 w=i)(hm:aL (Rd R Bm k) m)(h0:Mach L W0 B0)(e:∀u:LN,(∀c∈u,c∈L)->B0.getD (run L W0 0 u) false=Bm.getD (run L R 0 u) false):m≤W0.length:=by
 have word:∀j,j<m->∃w:LN,(∀c∈w,c∈L)/\lot R Bm k (run L R 0 w)=j/\run L R 0 w<R.length:=λj hj=>by
  obtain⟨f1,f2⟩:=c_p hm hMa hj;obtain⟨w,w1,w2⟩:=reach _ f1;exact(w,w1,by rw[w2];exact f2,by rw[w2];exact f1)
 let v:Nat->LN:=λj=>if h:j<m then(word j h).choose else[]
 have hv:∀j,j<m->(∀c∈v j,c∈L)/\lot R Bm k (run L R 0 (v j))=j/\run L R 0 (v j)<R.length:=λj hj=>by
  have:v j=(word j hj).choose:=dif_pos hj;rw[this];exact(word j hj).choose_spec
 have nd:((List.range m).map λj=>run L W0 0 (v j)).Nodup:=by
  rw[List.nodup_iff_pairwise_ne,List.pairwise_map];refine List.Pairwise.imp_of_mem ?_ (List.nodup_iff_pairwise_ne.mp (List.nodup_range (n:=m)));intro a b ha hb hne z;obtain⟨a1,a2,a3⟩:=hv a (mem_range.mp ha);obtain⟨b1,b2,b3⟩:=hv b (mem_range.mp hb);refine hne ?_;rw[<-a2,<-b2];refine d_V hMa k a3 b3 λu hu=>?_;have o:∀{x:LN},(∀c∈x,c∈L)->∀c∈x++u,c∈L:=λhx c hc=>by
   rcases mem_append.mp hc with y|y
   .exact hx c y
   .exact hu c y
  rw[<-run_app,<-run_app,<-e _ (o a1),<-e _ (o b1),run_app,run_app,z]
 have sub:∀x∈(List.range m).map λj=>run L W0 0 (v j),x∈List.range W0.length:=λx hx=>by
  obtain⟨j,hj,rfl⟩:=mem_map.mp hx;exact mem_range.mpr (b_A h0 h0.n1 (hv j (mem_range.mp hj)).1)
 have:=nd.length_le_of_subset sub
 rwa [qa4,length_range,length_range]at this
end
end RA
namespace RA
open PySem L2
def bF(l:LN):LN:=bitsL (c_a l)
theorem fo{x:Nat}:∀{l:LN}{m:Nat},(l.foldl (λm k=>m ||| 2^k) m).testBit x=(m.testBit x||decide (x∈l))
 |[],m=>by simp
 |k::r,m=>by
  rw[List.foldl_cons,fo (l:=r),Nat.testBit_or,Nat.testBit_two_pow];by_cases e:k=x
  .subst e;simp
  .simp [e,show ¬ x=k from λz=>e z.symm]
theorem mem_lotN(h8:∀x∈l,x<8):x∈bF l↔x∈l:=by
 unfold bF bitsL;rw[mem_filter,mem_range,c_a,fo];simp;exact λh=>h8 x h
def uAg(n:Nat):LL:=((List.range 256).flatMap λm=>[0::bitsL m,1::bitsL m]).filter λk=>k.tail.all (· < n)
theorem iS(n:Nat):(uAg n).length≤512:=by
 unfold uAg;refine le_trans (List.length_filter_le _ _) ?_;rw[List.length_flatMap];simp only[length_cons,List.length_nil];decide +kernel
theorem uAg_mem(h8:∀x∈l,x<8)(hb:b≤1)(hn:∀x∈l,x<n):b::bF l∈uAg n:=by
 unfold uAg;rw[mem_filter,mem_flatMap];refine((c_a l,mem_range.mpr (g_C h8),?_),?_)
 .have:b=0\/b=1:=by omega
  rcases this with rfl|rfl
  .exact mem_cons_self
  .exact mem_cons_of_mem _ mem_cons_self
 .rw [all_eq_true];exact λx hx=>decide_eq_true (hn x ((mem_lotN h8).mp hx))
theorem lh(h:k∈uAg n):∃b S,k=b::S/\b≤1/\(∀x∈S,x<n)/\S.length≤8:=by
 unfold uAg at h;rw[mem_filter,mem_flatMap]at h;obtain⟨⟨m,hm,hk⟩,ht⟩:=h;have h8:=(dl (k:=0) (mem_range.mp hm) (by decide)).2.2.1;simp only[mem_cons,not_mem_nil,or_false]at hk;rcases hk with rfl|rfl
 .exact (0,_,rfl,by decide,λx hx=>of_decide_eq_true (all_eq_true.mp ht x hx),h8)
 .exact (1,_,rfl,by decide,λx hx=>of_decide_eq_true (all_eq_true.mp ht x hx),h8)
def iG(B:List Bool)(l:LN):LN:=if l.any (λr=>B.getD r false)=true then 1::bF (l++[0])else 0::bF l
def gAg(W:LL)(B:List Bool)(k:LN)(q:Nat):LN:=iG B (gA W k.tail q)
def qq(k:LN):Bool:=decide (k.headD 0=1)
section
variable{L:LN}{W:LL}{B:List Bool}
theorem cE(hM:Mach L W B)(hS:∀x∈S,x<W.length)(hq:q<L.length):∀x∈gA W S q,x<W.length:=by
 intro x hx;obtain⟨r,hr,rfl⟩:=mem_map.mp hx;have hw:=c_l hM (hS r hr);have hl:q<(W.getD r []).length:=by rw[hw.1];exact hq
 rw[qa3,qa2 hl];exact hw.2 _ (getElem_mem hl)
theorem nh(h8:W.length≤8)(h1:1≤W.length)(hl:∀x∈l,x<W.length):iG B l∈uAg W.length:=by
 have a1:∀x∈l,x<8:=λx hx=>lt_of_lt_of_le (hl x hx) h8;unfold iG;split
 .refine uAg_mem (λx hx=>?_) (by decide) (λx hx=>?_)
  .rcases mem_append.mp hx with z|z
   .exact a1 x z
   .rw [qb1 z];decide
  .rcases mem_append.mp hx with z|z
   .exact hl x z
   .rw [qb1 z];exact h1
 .exact uAg_mem a1 (by decide) hl
theorem gAg_mem(hM:Mach L W B)(h8:W.length≤8):∀k∈uAg W.length,∀q,q<L.length->gAg W B k q∈uAg W.length:=by
 intro k hk q hq;obtain⟨b,S,rfl,_,hS,_⟩:=lh hk;exact nh h8 hM.n1 (cE hM hS hq)
inductive Ag(T:LN->Bool):LN->Prop
 |nil:Ag T []
 |more {x v:LN}:Ag T x->v≠[]->T v=true->Ag T (x++v)
theorem Ag.last(h:Ag T u)(hu:u≠[]):∃x v,u=x++v/\v≠[]/\Ag T x/\T v=true:=by
 cases h with
 |nil=>exact absurd rfl hu
 |@more x v h1 h2 h3=>exact(x,v,rfl,h2,h1,h3)
theorem g_i{u x v:LN}(h:u++[c]=x++v)(hv:v≠[]):∃v',v=v'++[c]/\u=x++v':=by
 rcases List.eq_nil_or_concat v with rfl|⟨v',d,rfl⟩
 .exact absurd rfl hv
 .rw [List.concat_eq_append,<-append_assoc]at h;obtain⟨h1,h2⟩:=List.append_inj' h rfl;cases h2;exact(v',by simp,h1)
theorem qJ(hM:Mach L W B)(h8:W.length≤8):∀(n:Nat)(u:LN),u.length=n->(∀c∈u,c∈L)->
  ∃b S,aD (gAg W B) L [1,0] u=b::S/\(b=1↔Ag (λv=>B.getD (run L W 0 v) false) u)/\(∀x∈S,x<W.length)/\∀r,r∈S↔∃x v,u=x++v/\Ag (λv=>B.getD (run L W 0 v) false) x/\r=run L W 0 v:=by
 intro n;induction n with
 |zero=>
  intro u hu _;cases length_eq_zero_iff.mp hu;refine(1,[0],rfl,(λ_=>.nil,λ_=>rfl),λx hx=>by rw[qb1 hx];exact hM.n1,λr=>?_);rw[mem_singleton];constructor
  .rintro rfl;exact([],[],rfl,.nil,rfl)
  .rintro⟨x,v,e,_,rfl⟩;obtain⟨_,rfl⟩:=List.append_eq_nil_iff.mp e.symm;rfl
 |succ n ih=>
  intro u hu hL;rcases List.eq_nil_or_concat u with rfl|⟨u,c,rfl⟩
  .cases hu
  rw[List.concat_eq_append]at hu hL⊢;obtain⟨b,S,e1,e2,e3,e4⟩:=ih u (by simpa using hu) λx hx=>hL x (by simp[hx]);have hc:c∈L:=hL c (by simp);have hq:L.idxOf c<L.length:=List.idxOf_lt_length_iff.mpr hc;have hlt:=cE hM e3 hq;have a8:∀x∈gA W S (L.idxOf c),x<8:=λx hx=>lt_of_lt_of_le (hlt x hx) h8;have hg:∀r,r∈gA W S (L.idxOf c)↔∃x v,u=x++v/\Ag (λv=>B.getD (run L W 0 v) false) x/\r=run L W 0 (v++[c]):=by
   intro r;unfold gA;rw[mem_map];constructor
   .rintro⟨r',hr',rfl⟩;obtain⟨x,v,h1,h2,rfl⟩:=(e4 r').mp hr';exact(x,v,h1,h2,by rw[b_i];rfl)
   .rintro⟨x,v,h1,h2,rfl⟩;exact(run L W 0 v,(e4 _).mpr (x,v,h1,h2,rfl),by rw[b_i];rfl)
  have hany:(gA W S (L.idxOf c)).any (λr=>B.getD r false)=true↔Ag (λv=>B.getD (run L W 0 v) false) (u++[c]):=by
   rw[any_eq_true];constructor
   .rintro⟨r,hr,hB⟩;obtain⟨x,v,rfl,h2,rfl⟩:=(hg r).mp hr;rw[append_assoc];exact .more h2 (by simp) hB
   .intro h;obtain⟨x,v,h1,h2,h3,h4⟩:=h.last (by simp);obtain⟨v',rfl,rfl⟩:=g_i h1 h2;exact(_,(hg _).mpr (x,v',rfl,h3,rfl),h4)
  have hst:∀r,(∃x v,u++[c]=x++v/\Ag (λv=>B.getD (run L W 0 v) false) x/\r=run L W 0 v)↔r∈gA W S (L.idxOf c)\/(Ag (λv=>B.getD (run L W 0 v) false) (u++[c])/\r=0):=by
   intro r;constructor
   .rintro⟨x,v,h1,h2,rfl⟩;by_cases hv:v=[]
    .subst hv;rw[append_nil]at h1;subst h1;exact .inr (h2,rfl)
    .obtain ⟨v',rfl,rfl⟩:=g_i h1 hv;exact .inl ((hg _).mpr (x,v',rfl,h2,rfl))
   .rintro (h|⟨h,rfl⟩)
    .obtain ⟨x,v,rfl,h2,rfl⟩:=(hg r).mp h;exact(x,v++[c],by rw[append_assoc],h2,rfl)
    .exact (u++[c],[],by simp,h,rfl)
  rw[c_S,e1];show ∃b' S',iG B (gA W S (L.idxOf c))=b'::S'/\_;unfold iG;by_cases ha:(gA W S (L.idxOf c)).any (λr=>B.getD r false)=true
  .rw [if_pos ha];have a9:∀x∈gA W S (L.idxOf c)++[0],x<8:=λx hx=>by
    rcases mem_append.mp hx with z|z
    .exact a8 x z
    .rw [qb1 z];decide
   refine(1,_,rfl,(λ_=>hany.mp ha,λ_=>rfl),λx hx=>?_,λr=>?_)
   .rcases mem_append.mp ((mem_lotN a9).mp hx)with z|z
    .exact hlt x z
    .rw [qb1 z];exact hM.n1
   .rw [mem_lotN a9,hst,mem_append,mem_singleton];constructor
    .rintro (z|z)
     .exact .inl z
     .exact .inr (hany.mp ha,z)
    .rintro (z|⟨_,z⟩)
     .exact .inl z
     .exact .inr z
  .rw [if_neg ha];refine(0,_,rfl,(λz=>(by cases z),λz=>absurd (hany.mpr z) ha),λx hx=>hlt x ((mem_lotN a8).mp hx),λr=>?_);rw[mem_lotN a8,hst];constructor
   .exact .inl
   .rintro (z|⟨z,_⟩)
    .exact z
    .exact absurd (hany.mpr z) ha
theorem nJ(hM:Mach L W B)(h8:W.length≤8)(hu:∀c∈u,c∈L):qq (aD (gAg W B) L [1,0] u)=true↔Ag (λv=>B.getD (run L W 0 v) false) u:=by
 obtain⟨b,S,e1,e2,_⟩:=qJ hM h8 _ u rfl hu;rw[e1];show decide (b=1)=true↔_;rw[decide_eq_true_iff];exact e2
theorem Ag.congr(h:Ag T u):(∀v,(∀c∈v,c∈u)->T v=T' v)->Ag T' u:=by
 induction h with
 |nil=>exact λ_=>.nil
 |@more x v h1 h2 h3 ih=>
  intro k;refine .more (ih λw hw=>k w λc hc=>by simp[hw c hc]) h2 ?_;rw[<-k v λc hc=>by simp[hc]];exact h3
end
section
variable{T:LN->Bool}{w:LN}{i k:Nat}{gl:List Bool}
end
end RA
namespace L2
open PySem PySem.Spec PyProof.Rows
def pV(X:Cx)(i:Nat)(ps:List Str)(t:TA):TE:=λσ H Q=>∃f,σ[i]?=some (some (.ref f))/\(∃nm qual ar bd sc cl c,H f=some (fnHO f nm qual ar bd sc cl c))/\t σ H λvs H1=>(∃nm qual ar bd sc cl c,H1 f=some (fnHO f nm qual ar bd sc cl c))/\∃U:List Addr,(∀u∈U,∃φ,H1 u=some (.ext φ))/\∀base':Heap,f_C X U σ H1 base'->
 ∃(k:Nat)(sp:Sp)(fd:FuncData),af k X.A/\b_q X.K fd ps []/\aa X.prog X.w X.K X.mg base' CX0 k f fd ps sp/\sp vs (untr U H1) (λv H2=>(∀u∈U,H2 u=none)->Q v (retr U H1 H2)) E0
theorem js{σ:St}(I:Inv X pins σ H s)(h:∃nm qual ar bd sc cl c,H f=some (fnHO f nm qual ar bd sc cl c)):∃oc od fd sl,s.heap.get? f=some (oc,od,.func fd,sl):=by
 obtain⟨nm,qual,ar,bd,sc,cl,c,e⟩:=h;obtain⟨⟨doc,pm,ctv,g⟩,_⟩:=I.hok f _ e;exact(_,_,_,_,g)
theorem lY(ps:List Str){p pos:Pos}(hv:PE X (.Name x p) (gY i))(ha:PA X (e::es) t)(hfn:∀y,X.fn y=true)(he:starEach (e::es) X.env=(false,eval e X.env,)::starEach es X.env:=by rfl)(hpl:(backTo pos (starEach es X.env)).any (·.1)=false:=by rfl):PE X (.Call (.Name x p) (e::es) [] pos) (pV X i ps t):=by
 intro pins s σ H Q I h;obtain⟨f,h0,hf,h⟩:=h;refine wpAny_Call_Name_kw (thn (hv pins s σ H (λv H1=>v=.ref f/\H1=H) I (_,h0,rfl,rfl)) λfv s0 hq=>?_);obtain⟨v,H0,I0,rv,rfl,rfl⟩:=hq;obtain rfl:fv=.ref f:=rv;refine PySem.W.callWith_F (js I0 hf) (thn (ha pos pins s0 σ H0 _ I0 h) λus s1⟨vs,H1,I1,r,hf1,q⟩=>(js I1 hf1,?_)) he hpl;obtain⟨U,hU,q⟩:=q;obtain⟨base',e0,hsub,hget⟩:=eG I1.env0 hU;have cellB:∀y c v,X.env.cells.lookup y=some c->s1.heap.IsCell c v->base'.IsCell c v:=λy c v hc hZ2=>by
  obtain⟨o,ho,hdd⟩:=hZ2;have hn:=I1.freeC y c hc;refine(o,hget c o ho (λz=>?_) ?_,hdd)
  .rcases mem_cons.mp (I1.stkSub c z)with z|z
   .exact I1.cne y c hc z
   .obtain ⟨_,o',ho',_⟩:=I1.ok.funs.mem z;exact absurd (lt_size ho') (not_lt.mpr (I1.ok.cab y c (hfn y) hc))
  .unfold untr;split
   .rfl
   .exact hn
 have W:f_C X U σ H1 base':=by
  refine(hsub,e0.mod,λu φ hu e=>?_,I1.ok.inj,λy c hc=>?_,λi y v e1 e2 e3=>?_)
  .obtain ⟨p1,⟨o,ho⟩,p3⟩:=I1.hok u _ e;refine p3 _ _ p1 λo2 z=>hget u o2 z (λy=>?_) (e_S hu);rw[I1.stkFree u y]at e;cases e
  .obtain ⟨v,z⟩:=I1.cell y c hc;exact(v,cellB y c v hc z)
  .obtain ⟨m,hn,hl⟩:=I1.loc;obtain⟨u,ru,lk⟩:=hl i y v e1 e2 (.inr (.inl e3));rcases lk with⟨k1,_⟩|⟨_,c,hc,z⟩
   .have:X.env.scope.names.lookup y=some .local:=k1;rw[e3]at this;cases this
   .exact (c,u,hc,cellB y c _ hc z,ru)
 obtain⟨k,sp,fd,hr,hb,F,hsp⟩:=q base' W;have hl:us.length=ps.length:=by rw[<-r.length];exact F.len _ _ _ _ hsp
 refine wpAny_call (codeAny_mono (F.run X.A X.stack s1 (untr U H1) (us,[]) us vs _ E0 hr e0 (by have:=hb s1 us I1.kIn (by rw[append_nil];exact hl);rwa [append_nil]at this) r hsp) λr s' hq=>?_);cases r with
 |error e=>exact False.elim hq
 |ok fl=>
  cases fl with
  |ret u=>exact I1.after (bW I1.env0 hU hq)
  |next=>exact False.elim hq
  |brk=>exact False.elim hq
  |cont=>exact False.elim hq
end L2
namespace RA
open PySem L2
def uTh(n1 n2:Nat):LL:=((List.range n1).flatMap λr=>(List.range 256).map λm=>r::bitsL m).filter λk=>k.tail.all (· < n2)
theorem nZ(n2:Nat)(h:n1≤8):(uTh n1 n2).length≤2048:=by
 unfold uTh;refine le_trans (List.length_filter_le _ _) ?_;rw[List.length_flatMap];simp only[qa4,length_range,List.map_const',List.sum_replicate_nat];omega
theorem uTh_mem(h8:∀x∈l,x<8)(hr:r<n1)(hn:∀x∈l,x<n2):r::bF l∈uTh n1 n2:=by
 unfold uTh;rw[mem_filter,mem_flatMap];refine((r,mem_range.mpr hr,mem_map.mpr (c_a l,mem_range.mpr (g_C h8),rfl)),?_);rw[all_eq_true];exact λx hx=>decide_eq_true (hn x ((mem_lotN h8).mp hx))
theorem gM(h:k∈uTh n1 n2):∃r S,k=r::S/\r<n1/\(∀x∈S,x<n2)/\S.length≤8:=by
 unfold uTh at h;rw[mem_filter,mem_flatMap]at h;obtain⟨⟨r,hr,hk⟩,ht⟩:=h;obtain⟨m,hm,rfl⟩:=mem_map.mp hk;exact(r,_,rfl,mem_range.mp hr,λx hx=>of_decide_eq_true (all_eq_true.mp ht x hx),(dl (k:=0) (mem_range.mp hm) (by decide)).2.2.1)
def inT(B1:List Bool)(r:Nat)(l:LN):LN:=if B1.getD r false=true then l++[0]else l
def bT(B1:List Bool)(r:Nat)(l:LN):LN:=r::bF (inT B1 r l)
def gTh(W1:LL)(B1:List Bool)(W2:LL)(k:LN)(q:Nat):LN:=bT B1 (goal W1 (k.headD 0) q) (gA W2 k.tail q)
def qp(B2:List Bool)(k:LN):Bool:=k.tail.any λr=>B2.getD r false
section
variable{L:LN}{W1 W2:LL}{B1 B2:List Bool}
theorem dH:x∈inT B1 r l↔x∈l\/(B1.getD r false=true/\x=0):=by
 unfold inT;split
 .rename_i c;rw[mem_append,mem_singleton];exact(λz=>z.imp id λy=>(c,y),λz=>z.imp id λy=>y.2)
 .rename_i c;exact(.inl,λz=>z.elim id λy=>absurd y.1 c)
theorem bI(hl:∀x∈l,x<n)(h1:1≤n):∀x∈inT B1 r l,x<n:=λx hx=>by
 rcases dH.mp hx with z|⟨_,rfl⟩
 .exact hl x z
 .exact h1
theorem gf(h8:W2.length≤8)(h1:1≤W2.length)(hr:r<W1.length)(hl:∀x∈l,x<W2.length):bT B1 r l∈uTh W1.length W2.length:=
 uTh_mem (λx hx=>lt_of_lt_of_le (bI hl h1 x hx) h8) hr (bI hl h1)
theorem oX(hM1:Mach L W1 B1)(hM2:Mach L W2 B2)(h8:W2.length≤8):∀k∈uTh W1.length W2.length,∀q,q<L.length->gTh W1 B1 W2 k q∈uTh W1.length W2.length:=by
 intro k hk q hq;obtain⟨r,S,rfl,hr,hS,_⟩:=gM hk;exact gf h8 hM2.n1 (b_E hM1 hr hq) (cE hM2 hS hq)
theorem pU(hM1:Mach L W1 B1)(hM2:Mach L W2 B2)(h8:W2.length≤8):∀(n:Nat)(u:LN),u.length=n->(∀c∈u,c∈L)->
  ∃S,aD (gTh W1 B1 W2) L (bT B1 0 []) u=run L W1 0 u::S/\(∀x∈S,x<W2.length)/\∀r,r∈S↔∃x v,u=x++v/\B1.getD (run L W1 0 x) false=true/\r=run L W2 0 v:=by
 intro n;induction n with
 |zero=>
  intro u hu _;cases length_eq_zero_iff.mp hu;have a0:∀x∈inT B1 0 [],x<W2.length:=bI (by simp) hM2.n1;refine(bF (inT B1 0 []),rfl,λx hx=>a0 x ((mem_lotN λx hx=>lt_of_lt_of_le (a0 x hx) h8).mp hx),λr=>?_);rw[mem_lotN λx hx=>lt_of_lt_of_le (a0 x hx) h8,dH];constructor
  .rintro (z|⟨z,rfl⟩)
   .simp at z
   .exact ([],[],rfl,z,rfl)
  .rintro⟨x,v,e,h,rfl⟩;obtain⟨rfl,rfl⟩:=List.append_eq_nil_iff.mp e.symm;exact .inr (h,rfl)
 |succ n ih=>
  intro u hu hL;rcases List.eq_nil_or_concat u with rfl|⟨u,c,rfl⟩
  .cases hu
  rw[List.concat_eq_append]at hu hL⊢;obtain⟨S,e1,e3,e4⟩:=ih u (by simpa using hu) λx hx=>hL x (by simp[hx]);have hc:c∈L:=hL c (by simp);have hq:L.idxOf c<L.length:=List.idxOf_lt_length_iff.mpr hc;have hlt:=cE hM2 e3 hq;have hg:∀r,r∈gA W2 S (L.idxOf c)↔∃x v,u=x++v/\B1.getD (run L W1 0 x) false=true/\r=run L W2 0 (v++[c]):=by
   intro r;unfold gA;rw[mem_map];constructor
   .rintro⟨r',hr',rfl⟩;obtain⟨x,v,h1,h2,rfl⟩:=(e4 r').mp hr';exact(x,v,h1,h2,by rw[b_i];rfl)
   .rintro⟨x,v,h1,h2,rfl⟩;exact(run L W2 0 v,(e4 _).mpr (x,v,h1,h2,rfl),by rw[b_i];rfl)
  rw[c_S,e1];have er:goal W1 (run L W1 0 u) (L.idxOf c)=run L W1 0 (u++[c]):=by rw[b_i];rfl
  have a0:∀x∈inT B1 (run L W1 0 (u++[c])) (gA W2 S (L.idxOf c)),x<W2.length:=bI hlt hM2.n1;have m8:=λ{x:Nat}=>mem_lotN (x:=x) λx hx=>lt_of_lt_of_le (a0 x hx) h8;refine(bF (inT B1 (run L W1 0 (u++[c])) (gA W2 S (L.idxOf c))),?_,λx hx=>a0 x (m8.mp hx),λr=>?_)
  .show bT B1 (goal W1 (run L W1 0 u) (L.idxOf c)) (gA W2 S (L.idxOf c))=_;rw[er];rfl
  .rw [m8,dH,hg];constructor
   .rintro (⟨x,v,rfl,h2,rfl⟩|⟨h,rfl⟩)
    .exact (x,v++[c],by rw[append_assoc],h2,rfl)
    .exact (u++[c],[],by simp,h,rfl)
   .rintro⟨x,v,h1,h2,rfl⟩;by_cases hv:v=[]
    .subst hv;rw[append_nil]at h1;subst h1;exact .inr (h2,rfl)
    .obtain ⟨v',rfl,rfl⟩:=g_i h1 hv;exact .inl (x,v',rfl,h2,rfl)
theorem ll(hM1:Mach L W1 B1)(hM2:Mach L W2 B2)(h8:W2.length≤8)(hu:∀c∈u,c∈L):qp B2 (aD (gTh W1 B1 W2) L (bT B1 0 []) u)=true↔∃x v,u=x++v/\B1.getD (run L W1 0 x) false=true/\B2.getD (run L W2 0 v) false=true:=by
 obtain⟨S,e1,_,e4⟩:=pU hM1 hM2 h8 _ u rfl hu;rw[e1];show(S.any λr=>B2.getD r false)=true↔_;rw[any_eq_true];constructor
 .rintro⟨r,hr,hB⟩;obtain⟨x,v,h1,h2,rfl⟩:=(e4 r).mp hr;exact(x,v,h1,h2,hB)
 .rintro⟨x,v,h1,h2,h3⟩;exact(_,(e4 _).mpr (x,v,h1,h2,rfl),h3)
end
end RA
namespace L2
open PySem PySem.Spec PyProof.Rows
namespace ZP
theorem meet_tl(a b:Addr):MeetG (.tp a) (.ls b):=λxs ys=>.of_wp λprog w A R s h=>by
 obtain⟨hp,g,d,tk,os⟩:=s;obtain⟨hx,hy,h⟩:=h;have hsub:=sub_zip;have hx:hp.IsTuple a xs:=hx;have hy:(hp.push (Sd.tp a).it0).IsList b ys:=Heap.IsList.push hy _;show wpAny _ _ (Builtin.«zip.__new__» ([.type "zip",.ref a,.ref b],[])) _ _ _
 wp_walk using g_E hx,e_N hy
 refine(_,rfl,?_);simp only[bE]at h;simpa[size_push,Builtin.SmallTypes.ownedTupleFields,Nat.add_assoc]using h
end ZP
def mT(t:TA):TI:=λσ H R=>t σ H λvs H1=>∃a b xs ys,vs=[.ref a,.ref b]/\H1 a=some (.tup xs)/\H1 b=some (.lst ys)/\R (Itg (.tp a) (.ls b)) H1
theorem lT{es:List Expr}{kt:Nat}{pt:Pos}{p pos:Pos}(hg:Gl X "zip")(hm:X.mg "zip"=none)(ha:PA X [a,b] ta)(hs:starEach [a,b] X.env=(false,eval a X.env,)::starEach [b] X.env:=by rfl)(hpl:(backTo pos (starEach [b] X.env)).any (·.1)=false:=by rfl):PI X (.Tuple es kt pt) (.Call (.Name "zip" p) [a,b] [] pos) (mT ta):=by
 intro pins s σ H R I h;refine wpAny_Call_Name_kw (ld_blt I hg hm boot_zip (PyProof.Rows.callWith_type1 (thn (ha pos pins s σ H _ I h) λus s1 hZ0=>?_) hs hpl));obtain⟨vs,H1,I1,r1,a',b',xs,ys,ev,hx,hy,q⟩:=hZ0;subst ev;obtain⟨u1,u2,rfl,e1,e2⟩:=bp r1;cases e1;cases e2;obtain⟨itx,px⟩:=iW (d:=.tp a') I1 hx;obtain⟨ity,py⟩:=iW (d:=.ls b') I1 hy;refine ZP.call_sd (ZP.meet_tl a' b') px py λg gz gTI gTO g1 g2 gk=>wpAny_pyIter_zip (s:={s1 with heap:=g}) gz ?_;have ap:ZipApart (s1.heap.objs.size+4) (s1.heap.objs.size+2) (s1.heap.objs.size+3) s1.heap.objs.size (s1.heap.objs.size+1) (s1.heap.objs.size+2) (s1.heap.objs.size+2):=by
  constructor<;>exact neA (by omega)
 refine(_,[s1.heap.objs.size+4,s1.heap.objs.size+2,s1.heap.objs.size+3,s1.heap.objs.size,s1.heap.objs.size+1],_,Itg (.tp a') (.ls b'),H1,rfl,I1.kept (t':=s1.toks) gk,bY (.tp a') (.ls b') _ _ _ _ _ ap,(gz,gTI,(_,_,gTO),g1,g2),λc hc=>?_,q);have hge:s1.heap.objs.size≤c:=by
  simp only[mem_cons,not_mem_nil,or_false]at hc;rcases hc with rfl|rfl|rfl|rfl|rfl
  .exact le_add_right _ _
  .exact le_add_right _ _
  .exact le_add_right _ _
  .exact le_refl _
  .exact le_add_right _ _
 exact I1.fpOk hge (I1.hok.fresh hge)
end L2
namespace RA
open PySem L2
theorem comp2T_zipTL{xs zs:List V}{σ:St}(ht:∀R:List V->Hp->Prop,R [.ref c,.ref d] H->t σ H R)(hH:H c=some (.tup xs))(hK:H d=some (.lst zs))(hl:xs.length=zs.length)(Pv:Addr->Nat->List V->Hp->Prop)(hz:xs.length≤sizeLine)(h0:∀D,H D=none->Pv D 0 [] (L2.upd H D (.lst [])))(hs:∀(D:Addr)(i:Nat)(x z:V)(ys:List V)(H' H3:Hp)(R1:VK),H D=none->xs[i]?=some x->zs[i]?=some z->Same H H'->H' D=some (.lst ys)->Pv D i ys H'->Same H' H3->
   (∀y H5,H5 D=some (.lst ys)->Same H (L2.upd H5 D (.lst (ys++[y])))->Pv D (i+1) (ys++[y]) (L2.upd H5 D (.lst (ys++[y])))->R1 y H5)->te (some x::some z::σ) H3 R1)(hq:∀D ys H',H D=none->Same H H'->H' D=some (.lst ys)->Pv D xs.length ys H'->Q (.ref D) H'):dh K (mT t) tAlways te σ H Q:=by
 refine ht _ (c,d,xs,zs,rfl,hH,hK,?_);refine d_B (K:=K) (J:=Itg (.tp c) (.ls d)) (n:=xs.length) (λi a b=>xs[i]?=some a/\zs[i]?=some b) Pv hz (λi H2 s h=>(xs,zs,xs[i],zs[i]'(by omega),s _ _ hH,s _ _ hK,qa2 h,qa2 _)) ?_ (λH2 s=>(xs,zs,s _ _ hH,s _ _ hK,hl,rfl)) h0 ?_ hq
 .rintro i H2 x H3 s h⟨p,as,bs,a,b,e1,e2,e3,e4,e5,e6,e7⟩;have e1:H2 c=some (.tup as):=e1;have e2:H2 d=some (.lst bs):=e2;rw[s _ _ hH]at e1;rw[s _ _ hK]at e2;cases e1;cases e2;exact(p,a,b,e5,(e3,e4),e6,e7)
 .rintro D i a b ys H' H3 R1 R2 hD hi⟨ha,hb⟩a1 a2 a3 a4 a5 a6;exact tAlways_if (hs D i a b ys H' H3 R1 hD ha hb a1 a2 a3 a4 a5)
end RA
namespace L2
open PySem RA
def gG(ts:List (Addr×List (Pos×Str)))(H:Hp):Prop:=∀p∈ts,b_G H p.1 p.2
structure KT(ts:List (Addr×List (Pos×Str)))(H H':Hp):Prop where
 sm:c_D H H'
 tb:gG ts H->gG ts H'
section
variable{ts:List (Addr×List (Pos×Str))}{H H1 H':Hp}
theorem KT.of(s:Same H H'):KT ts H H':=(c_D.of s,λh p hp=>b_X (h p hp) s)
theorem KT.trans(a:KT ts H H1)(b:KT ts H1 H'):KT ts H H':=(a.sm.trans b.sm,λh=>b.tb (a.tb h))
theorem sF(s:c_A P0 H H')(hT:b_G H P0 sites)(hn:P1≠P0)(h:b_G H P1 sites'):b_G H' P1 sites':=by
 obtain⟨ps0,hP0,_⟩:=hT;obtain⟨ps,hP,ht,hall⟩:=h;refine(ps,s _ _ hn hP,ht,λx hx=>(hall x hx).imp id λ⟨c',e1,e2⟩=>(c',e1,s _ _ (λz=>?_) e2));rw[z,hP0]at e2;cases e2
theorem KT.ofX(nd:(ts.map Prod.fst).Nodup)(hm:(P,sites,)∈ts)(s:c_A P H H')(h:b_G H P sites)(h':b_G H' P sites):KT ts H H':=by
 refine(c_D.ofX s h,λa p hp=>?_);by_cases e:p.1=P
 .have:p=(P,sites,):=by
   obtain⟨i,hi,rfl⟩:=List.getElem_of_mem hp;obtain⟨j,hj,ej⟩:=List.getElem_of_mem hm;have e2:(ts.map Prod.fst)[i]'(by rw[qa4];exact hi)=(ts.map Prod.fst)[j]'(by rw[qa4];exact hj):=by
    rw[List.getElem_map,List.getElem_map,ej];exact e
   have:=(getElem_inj nd).mp e2;subst this;exact ej
  rw[this];exact h'
 .exact sF s h e (a p hp)
theorem KT.mach(k:KT ts H H')(h:a_n H m L W B):a_n H' m L W B:=h.tups k.sm.tup
end
def Tks(L:LN)(W:LL)(B:List Bool)(u:LN):Bool:=B.getD (run L W 0 u) false
def bt(cTM:Addr)(ts:List (Addr×List (Pos×Str)))(op:(LN->Bool)->LN->Prop):Sp:=λvs H Q E=>∃(m:Addr)(L:LN)(W:LL)(B:List Bool),vs=[.ref m]/\a_n H m L W B/\Mach L W B/\W.length≤8/\gG ts H/\(∀d H',KT ts H H'->E (.ref cTM) d H')/\
 ∀(f:Addr)(W':LL)(B':List Bool)(H':Hp),KT ts H H'->a_n H' f L W' B'->Mach L W' B'->W'.length≤8->(∃v,c_j L W' B' v)->(∀u:LN,(∀c∈u,c∈L)->(Tks L W' B' u=true↔op (Tks L W B) u))->Q (.ref f) H'
def aP(cTM:Addr)(ts:List (Addr×List (Pos×Str)))(op:(LN->Bool)->(LN->Bool)->LN->Prop):Sp:=λvs H Q E=>∃(m m2:Addr)(L:LN)(W1 W2:LL)(B1 B2:List Bool),vs=[.ref m,.ref m2]/\a_n H m L W1 B1/\Mach L W1 B1/\a_n H m2 L W2 B2/\Mach L W2 B2/\W1.length≤8/\W2.length≤8/\gG ts H/\(∀d H',KT ts H H'->E (.ref cTM) d H')/\
 ∀(f:Addr)(W':LL)(B':List Bool)(H':Hp),KT ts H H'->a_n H' f L W' B'->Mach L W' B'->W'.length≤8->(∃v,c_j L W' B' v)->(∀u:LN,(∀c∈u,c∈L)->(Tks L W' B' u=true↔op (Tks L W1 B1) (Tks L W2 B2) u))->Q (.ref f) H'
def f_U(P Q:LN->Bool)(u:LN):Prop:=∃x v,u=x++v/\P x=true/\Q v=true
def f_T(P:LN->Bool)(u:LN):Prop:=P u.reverse=true
def fh(P:LN->Bool)(u:LN):Prop:=P u=false
def b_F(r:Bool->Bool->Bool)(P Q:LN->Bool)(u:LN):Prop:=r (P u) (Q u)=true
theorem c_N(h:m≤8):(a_N R l m).length≤8:=by rw[a_N,qa4,length_range];exact h
end L2
namespace RA
open PySem L2
def Wd(L:LN)(u:LN):Prop:=∀c∈u,c∈L
def Lg(L:LN)(W:LL)(B:List Bool):LN->Prop:=λu=>Wd L u/\Tks L W B u=true
def aw(A C:LN->Prop):LN->Prop:=λu=>∃x v,u=x++v/\A x/\C v
def bS(A:LN->Prop):LN->Prop:=λu=>A u.reverse
def orL(A C:LN->Prop):LN->Prop:=λu=>A u\/C u
def kX(A C:LN->Prop):LN->Prop:=λu=>A u/\C u
def pq(A C:LN->Prop):LN->Prop:=λu=>A u/\¬ C u
def mn(L:LN)(A:LN->Prop):LN->Prop:=λu=>Wd L u/\¬ A u
inductive ah(A:LN->Prop):LN->Prop
 |nil:ah A []
 |more {x v:LN}:ah A x->A v->ah A (x++v)
section
variable{A C D:LN->Prop}{L:LN}{W W1 W2:LL}{B B1 B2:List Bool}
theorem ax(h:∀u,A u↔C u):A=C:=funext λu=>propext (h u)
theorem f_L:Wd L (x++v)↔Wd L x/\Wd L v:=(λh=>(λc hc=>h c (mem_append_left _ hc),λc hc=>h c (mem_append_right _ hc)),λh c hc=>(mem_append.mp hc).elim (h.1 c) (h.2 c))
theorem gI:Wd L u.reverse↔Wd L u:=(λh c hc=>h c (mem_reverse.mpr hc),λh c hc=>h c (mem_reverse.mp hc))
theorem ah.one(h:A v):ah A v:=by
 have:=ah.nil.more h
 rwa [nil_append]at this
theorem ah.app(hx:ah A x)(hy:ah A y):ah A (x++y):=by
 induction hy with
 |nil=>rw[append_nil];exact hx
 |more _ h ih=>rw[<-append_assoc];exact ih.more h
theorem ah.mono(h:∀u,A u->ah C u)(s:ah A u):ah C u:=by
 induction s with
 |nil=>exact .nil
 |more _ h1 ih=>exact ih.app (h _ h1)
theorem a_Q(h:∀u:LN,(∀c∈u,c∈L)->(Tks L W B u=true↔f_U (Tks L W1 B1) (Tks L W2 B2) u)):Lg L W B=aw (Lg L W1 B1) (Lg L W2 B2):=ax λu=>by
 constructor
 .rintro⟨hu,e⟩;obtain⟨x,v,rfl,e1,e2⟩:=(h u hu).mp e;exact(x,v,rfl,((f_L.mp hu).1,e1),(f_L.mp hu).2,e2)
 .rintro⟨x,v,rfl,⟨h1,e1⟩,h2,e2⟩;have hu:=f_L.mpr (h1,h2);exact(hu,(h _ hu).mpr (x,v,rfl,e1,e2))
theorem b_k(h:∀u:LN,(∀c∈u,c∈L)->(Tks L W B u=true↔Ag (Tks L W1 B1) u)):Lg L W B=ah (Lg L W1 B1):=ax λu=>by
 constructor
 .rintro⟨hu,e0⟩;have e:=(h u hu).mp e0;clear h e0;induction e with
  |nil=>exact .nil
  |more _ _ h3 ih=>exact(ih (f_L.mp hu).1).more ((f_L.mp hu).2,h3)
 .intro s;have key:Wd L u/\Ag (Tks L W1 B1) u:=by
   induction s with
   |nil=>exact(λc hc=>(nomatch hc),.nil)
   |@more x v _ h1 ih=>
    refine(f_L.mpr (ih.1,h1.1),?_);by_cases e:v=[]
    .rw [e,append_nil];exact ih.2
    .exact ih.2.more e h1.2
  exact(key.1,(h u key.1).mpr key.2)
theorem d_x(h:∀u:LN,(∀c∈u,c∈L)->(Tks L W B u=true↔f_T (Tks L W1 B1) u)):Lg L W B=bS (Lg L W1 B1):=ax λu=>(λ⟨hu,e⟩=>(gI.mpr hu,(h u hu).mp e),λ⟨hu,e⟩=>(gI.mp hu,(h u (gI.mp hu)).mpr e))
theorem dI(h:∀u:LN,(∀c∈u,c∈L)->(Tks L W B u=true↔fh (Tks L W1 B1) u)):Lg L W B=mn L (Lg L W1 B1):=ax λu=>by
 constructor
 .rintro⟨hu,e⟩;exact(hu,λz=>by have z2:=z.2;rw[show Tks L W1 B1 u=false from(h u hu).mp e]at z2;cases z2)
 .rintro⟨hu,e⟩;exact(hu,(h u hu).mpr (Bool.eq_false_iff.mpr λz=>e (hu,z)))
theorem bh(h:∀u:LN,(∀c∈u,c∈L)->(Tks L W B u=true↔b_F (λa b=>a||b) (Tks L W1 B1) (Tks L W2 B2) u)):Lg L W B=orL (Lg L W1 B1) (Lg L W2 B2):=ax λu=>by
 constructor
 .rintro⟨hu,e⟩;exact((or_eq_true _ _).mp ((h u hu).mp e)).imp (⟨hu,·⟩) (⟨hu,·⟩)
 .rintro (⟨hu,e⟩|⟨hu,e⟩)
  .exact (hu,(h u hu).mpr ((or_eq_true _ _).mpr (.inl e)))
  .exact (hu,(h u hu).mpr ((or_eq_true _ _).mpr (.inr e)))
theorem bH(h:∀u:LN,(∀c∈u,c∈L)->(Tks L W B u=true↔b_F (λa b=>a&&b) (Tks L W1 B1) (Tks L W2 B2) u)):Lg L W B=kX (Lg L W1 B1) (Lg L W2 B2):=ax λu=>by
 constructor
 .rintro⟨hu,e⟩;have:=(and_eq_true _ _).mp ((h u hu).mp e);exact((hu,this.1),hu,this.2)
 .rintro⟨⟨hu,e1⟩,_,e2⟩;exact(hu,(h u hu).mpr ((and_eq_true _ _).mpr (e1,e2)))
theorem oR(h:∀u:LN,(∀c∈u,c∈L)->(Tks L W B u=true↔b_F (λa b=>a&&!b) (Tks L W1 B1) (Tks L W2 B2) u)):Lg L W B=pq (Lg L W1 B1) (Lg L W2 B2):=ax λu=>by
 constructor
 .rintro⟨hu,e⟩;have:=(and_eq_true _ _).mp ((h u hu).mp e);exact((hu,this.1),λz=>by rw[z.2]at this;cases this.2)
 .rintro⟨⟨hu,e1⟩,e2⟩;exact(hu,(h u hu).mpr ((and_eq_true _ _).mpr (e1,by rw[not_eq_true'];exact Bool.eq_false_iff.mpr λz=>e2 (hu,z))))
theorem ji(c1:c_j L W1 B1 v1)(c2:c_j L W2 B2 v2)(h:Lg L W1 B1=Lg L W2 B2):W1=W2/\B1=B2:=nA c1 c2 λu hu=>by
 have:=congrFun h u;rw[Bool.eq_iff_iff];exact(λe=>((this▸((hu,e):Lg L W1 B1 u):Lg L W2 B2 u)).2,λe=>((this.symm▸((hu,e):Lg L W2 B2 u):Lg L W1 B1 u)).2)
theorem w0:mn L (orL A C)=kX (mn L A) (mn L C):=ax λu=>(λ⟨h,n⟩=>((h,λz=>n (.inl z)),h,λz=>n (.inr z)),λ⟨⟨h,n⟩,_,m⟩=>(h,λz=>z.elim n m))
theorem w1:aw (orL A C) D=orL (aw A D) (aw C D):=ax λu=>⟨λ⟨x,v,e,h1,h2⟩=>h1.imp (⟨x,v,e,·,h2⟩) (⟨x,v,e,·,h2⟩),λh=>h.elim (λ⟨x,v,e,h1,h2⟩=>(x,v,e,.inl h1,h2)) λ⟨x,v,e,h1,h2⟩=>(x,v,e,.inr h1,h2)⟩
theorem w2:ah (ah A)=ah A:=ax λ_=>(ah.mono λ_ h=>h,ah.one)
theorem w3:bS (aw A C)=aw (bS C) (bS A):=ax λu=>by
 constructor
 .rintro⟨x,v,e,h1,h2⟩;refine(v.reverse,x.reverse,?_,?_,?_)
  .rw [<-List.reverse_append,<-e,reverse_reverse]
  .show C v.reverse.reverse;rw[reverse_reverse];exact h2
  .show A x.reverse.reverse;rw[reverse_reverse];exact h1
 .rintro⟨x,v,rfl,h1,h2⟩;exact(v.reverse,x.reverse,List.reverse_append,h2,h1)
theorem w4:pq (Lg L W1 B1) A=kX (Lg L W1 B1) (mn L A):=ax λu=>(λ⟨h,n⟩=>(h,h.1,n),λ⟨h,_,n⟩=>(h,n))
theorem w5:aw (aw A C) D=aw A (aw C D):=ax λu=>by
 constructor
 .rintro⟨_,v,rfl,⟨x,y,rfl,h1,h2⟩,h3⟩;exact(x,y++v,append_assoc _ _ _,h1,y,v,rfl,h2,h3)
 .rintro⟨x,_,rfl,h1,y,v,rfl,h2,h3⟩;exact(x++y,v,(append_assoc _ _ _).symm,(x,y,rfl,h1,h2),h3)
theorem w6:ah (orL A C)=ah (aw (ah A) (ah C)):=ax λu=>by
 constructor
 .refine ah.mono λv h=>.one ?_;rcases h with h|h
  .exact (v,[],(append_nil _).symm,.one h,.nil)
  .exact ([],v,rfl,.nil,.one h)
 .refine ah.mono λv h=>?_;obtain⟨x,y,rfl,h1,h2⟩:=h;exact(ah.mono (λ_ h=>.one (.inl h)) h1).app (ah.mono (λ_ h=>.one (.inr h)) h2)
theorem w7:aw A (ah (aw C A))=aw (ah (aw A C)) A:=ax λu=>by
 constructor
 .rintro⟨x,v,rfl,h1,h2⟩;induction h2 with
  |nil=>exact([],x,by rw[append_nil,nil_append],.nil,h1)
  |more _ h3 ih=>
   obtain⟨a,b,e,ha,hb⟩:=ih;obtain⟨y,z,rfl,hy,hz⟩:=h3;refine(a++(b++y),z,?_,ha.more (b,y,rfl,hb,hy),hz);rw[<-append_assoc,e];simp only[append_assoc]
 .rintro⟨x,v,rfl,h1,h2⟩;have key:∀{x:LN},ah (aw A C) x->∀v,A v->aw A (ah (aw C A)) (x++v):=λ{x}s=>by
   induction s with
   |nil=>exact λv hv=>(v,[],by rw[append_nil,nil_append],hv,.nil)
   |more _ h3 ih=>
    intro v hv;obtain⟨y,z,rfl,hy,hz⟩:=h3;obtain⟨a,b,e,ha,hb⟩:=ih y hy;refine(a,b++(z++v),?_,ha,hb.more (z,v,rfl,hz,hv));rw[<-append_assoc a,<-e];simp only[append_assoc]
  exact key h1 v h2
theorem w8:kX A (orL C D)=orL (kX A C) (kX A D):=ax λu=>⟨λ⟨h,z⟩=>z.imp (⟨h,·⟩) (⟨h,·⟩),λh=>h.elim (λz=>(z.1,.inl z.2)) λz=>(z.1,.inr z.2)⟩
theorem w9:bS (bS A)=A:=ax λu=>by show A u.reverse.reverse↔_;rw[reverse_reverse]
theorem w10:bS (ah A)=ah (bS A):=by
 have key:∀{A:LN->Prop}{u:LN},ah A u->ah (bS A) u.reverse:=λ{A u}s=>by
  induction s with
  |nil=>exact .nil
  |@more x v _ h ih=>
   rw[List.reverse_append];exact(ah.one (A:=bS A) (show A v.reverse.reverse by rw[reverse_reverse];exact h)).app ih
 refine ax λu=>(λh=>?_,λh=>?_)
 .have:=key h
  rwa [reverse_reverse]at this
 .have:=key h
  rwa [w9]at this
theorem w11:aw A (orL C D)=orL (aw A C) (aw A D):=ax λu=>⟨λ⟨x,v,e,h1,h2⟩=>h2.imp (⟨x,v,e,h1,·⟩) (⟨x,v,e,h1,·⟩),λh=>h.elim (λ⟨x,v,e,h1,h2⟩=>(x,v,e,h1,.inl h2)) λ⟨x,v,e,h1,h2⟩=>(x,v,e,h1,.inr h2)⟩
end
structure Mc(H:Hp)(m:Addr)(L:LN)(W:LL)(B:List Bool):Prop where
 mt:a_n H m L W B
 ma:Mach L W B
 le:W.length≤8
section
variable{ts:List (Addr×List (Pos×Str))}{H0 H H':Hp}{cTM:Addr}{L:LN}{W W1 W2:LL}{B B1 B2:List Bool}{Q:VK}{E:XK}{m m2:Addr}
theorem Mc.kt(h:Mc H m L W B)(k:KT ts H H'):Mc H' m L W B:=(k.mach h.mt,h.ma,h.le)
theorem KT.refl:KT ts H H:=KT.of (Same.refl H)
end
end RA
namespace L2
open PySem PySem.Spec PyProof.Rows
def g_O(X:Cx)(pins:List (Addr×Obj))(F:St->XK):Value->Shared->Prop:=λev s'=>∃σ' H' s1,Inv X pins σ' H' s1/\CXE X.prog X.w X.stack H' s1 (F σ') ev s'
def PX(X:Cx)(st:Stmt)(t:(St->XK)->TS):Prop:=
 ∀(pins:List (Addr×Obj))(s:Shared)(σ:St)(H:Hp)(D:Ends)(F:St->XK),Inv X pins σ H s->t F D σ H->wpAny (model X.prog X.w) X.A (exec st X.env) (SP X pins D) (g_O X pins F) s
section
variable{X:Cx}{pins:List (Addr×Obj)}{σ:St}{H:Hp}{s:Shared}{x n y fx:Str}{R:Addr}{i j k:Nat}{np hpos pos p cp yp ap:Pos}{st a b b0:Stmt}{suite:List Stmt}{ts:TS}{D:Ends}{ps:List Str}{sp:Sp}{e c:Expr}{es:List Expr}{t:TA}{tc:TT}{τ τ':(St->XK)->TS}
theorem call_px(F:DfX X.prog X.w X.K X.mg X.base fx k ps sp)(hr:af k X.A)(ha:PA X.nox (e::es) t)(hg:Gl X fx)(hdb:(fx==("__debug__":Str))=false)(he:starEach (e::es) X.env=(false,eval e X.env,)::starEach es X.env)(hpl:(backTo cp (starEach es X.env)).any (·.1)=false)(I:Inv X pins σ H s)(h:t σ H λvs H1=>sp vs H1 Qv (G σ)):wpAny (model X.prog X.w) X.A (eval (.Call (.Name fx p) (e::es) [] cp) X.env) (EP X pins σ Qv) (g_O X pins G) s:=by
 obtain⟨f,fd,h1,h2,h3,F⟩:=F;refine wpAny_Call_Name_kw (ld_glob I hg h1 (callWith_K (h₀:=X.base) I.ok.mod.kin h2 (wpAny_mono (ha cp pins s σ H _ (I.wish _) h) (λus s1 hZ1=>?_) λ_ _ z=>z.elim) he hpl) hdb);obtain⟨vs,H1,I1,r,q⟩:=hZ1;have J:Inv X pins σ H1 s1:=I1.unwish;refine(J.kIn,wpAny_call (codeAny_mono (F.run X.A X.stack s1 H1 (us,[]) us vs Qv _ hr J.env0 ?_ r q) λr s' hq=>?_))
 .have hb:=h3 s1 us J.kIn;rw[append_nil]at hb;exact hb (by rw[<-r.length];exact F.len _ _ _ _ q)
 .cases r with
  |error ev=>exact(σ,H1,s1,J,hq)
  |ok fl=>
   cases fl with
   |ret u=>exact J.after hq
   |next=>exact False.elim hq
   |brk=>exact False.elim hq
   |cont=>exact False.elim hq
def qU(j:Nat)(sp:Sp)(t:TA):(St->XK)->TS:=λG D σ H=>t σ H λvs H1=>sp vs H1 (λv H2=>D.nx (σ.set j (some v)) H2) (G σ)
theorem lJ(nd:X.N.Nodup)(F:DfX X.prog X.w X.K X.mg X.base fx k ps sp)(hr:af k X.A)(ha:PA X.nox (e::es) t)(hj:X.N[j]?=some y)(hy:Loc X.env.scope y)(hg:Gl X fx:=by rfl)(hdb:(fx==("__debug__":Str))=false:=by decide)(he:starEach (e::es) X.env=(false,eval e X.env,)::starEach es X.env:=by rfl)(hpl:(backTo cp (starEach es X.env)).any (·.1)=false:=by rfl)(hs:swapsWith (.Call (.Name fx p) (e::es) [] cp) (some (.Name y yp)) ap.line X.env=pure false:=by rfl)(hf:X.fn y=true\/X.env.scope.names.lookup y=some .local:=by first|exact .inl rfl|exact .inr rfl):PX X (.Assign [.Name y yp] (.Call (.Name fx p) (e::es) [] cp) ap) (qU j sp t):=by
 intro pins s σ H D G I h;refine wpAny_Assign_Name (wpAny_mono (call_px F hr ha hg hdb he hpl I h) (λv s1 hZ2=>?_) λ_ _ z=>z) hs;obtain⟨w,H1,I1,r1,q1⟩:=hZ2;exact store_ok I1 nd hj hy r1 (λs2 I2=>(_,H1,I2,q1)) hf
def sG(c:TT)(t u:(St->XK)->TS):(St->XK)->TS:=λG D σ H=>c σ H λb H1=>if b=true then t G D σ H1 else u G D σ H1
theorem one_px(h:PX X st τ)(I:Inv X pins σ H s)(q:τ G D σ H):wpAny (model X.prog X.w) X.A (execs [st] X.env) (SP X pins D) (g_O X pins G) s:=by
 refine wpAny_execs_cons (thn (h pins s σ H D G I q) λf s1 q=>?_);cases f with
 |next=>exact wpAny_execs_nil q
 |ret v=>exact q
 |brk=>exact q
 |cont=>exact q
theorem rO(hc:PT X.nox c tc)(ha:PX X a τ)(hb:PX X b τ'):PX X (.If c [a] [b] pos) (sG tc τ τ'):=by
 intro pins s σ H D G I h;refine wpAny_If (wpAny_mono (hc pins s σ H _ (I.wish _) h) (λd s1 hZ0=>?_) λ_ _ z=>z.elim);obtain⟨H1,I1,q1⟩:=hZ0;cases d with
 |true=>exact one_px ha I1.unwish q1
 |false=>exact one_px hb I1.unwish q1
end
section
variable{X:Cx}{x:Str}{R:Addr}{np hpos pos:Pos}{st b0:Stmt}{suite:List Stmt}{ts:TS}{τ:(St->XK)->TS}
def pX(K:Frag)(R:Addr)(τ:(St->XK)->TS)(ts:TS):TS:=λD σ H=>τ (λσ'=>jD K R ts D σ') D σ H
theorem lK(G:tM X x R b0 suite ts)(h:PX X st τ):PS X (.Try [st] [.ExceptHandler (some (.Name x np)) none (b0::suite) hpos] [] [] pos) (pX X.K R τ ts):=by
 intro pins s σ H D I q;refine wpAny_Try_except (wpAny_mono (one_px h I q) (λf s1 q=>?_) λev s' hZ1=>by obtain⟨σ',H',s1,J,cx⟩:=hZ1;exact kN G.hex G.hst G.hfr G.hg G.hm G.hs J cx G.hd);cases f with
 |next=>exact wpAny_execs_nil q
 |ret v=>exact q
 |brk=>exact q
 |cont=>exact q
end
end L2
namespace L2
open PySem
section
variable{X:Cx}{a b e e1 e2 e3 e4:Expr}{ta tb te t1 t2 t3 t4:TE}{pos p:Pos}{o:Expr}{x:Str}
theorem pq1(h:PE X e te)(hs:starEach [e] X.env=(false,eval e X.env,)::starEach [] X.env:=by rfl):PA X [e] (b_o te tNil):=a_T h d_i hs
theorem pq2(h1:PE X e1 t1)(h2:PE X e2 t2)(s1:starEach [e1,e2] X.env=(false,eval e1 X.env,)::starEach [e2] X.env:=by rfl)(s2:starEach [e2] X.env=(false,eval e2 X.env,)::starEach [] X.env:=by rfl):PA X [e1,e2] (b_o t1 (b_o t2 tNil)):=a_T h1 (pq1 h2 s2) s1
theorem pq3(h1:PE X e1 t1)(h2:PE X e2 t2)(h3:PE X e3 t3)(s1:starEach [e1,e2,e3] X.env=(false,eval e1 X.env,)::starEach [e2,e3] X.env:=by rfl)(s2:starEach [e2,e3] X.env=(false,eval e2 X.env,)::starEach [e3] X.env:=by rfl)(s3:starEach [e3] X.env=(false,eval e3 X.env,)::starEach [] X.env:=by rfl):PA X [e1,e2,e3] (b_o t1 (b_o t2 (b_o t3 tNil))):=a_T h1 (pq2 h2 h3 s2 s3) s1
theorem xqT(ha:PE X a ta)(hb:PE X b tb)(hs:eA b:=by exact λ_ _=>rfl):PE X (.Subscript a b pos) (tOp (hZ X.K) ta tb):=pe_ix dM ha hb hs
theorem xqL(ha:PE X a ta)(hb:PE X b tb)(hs:eA b:=by exact λ_ _=>rfl):PE X (.Subscript a b pos) (tOp (lG X.K) ta tb):=pe_ix dN ha hb hs
theorem xqV(i:Nat){k:Int}{j}{pos2:Pos}(hN:X.N[i]?=some x:=by rfl)(hv:Vis X.env.scope x:=by first|exact Or.inl rfl|exact Or.inr (Or.inl rfl)|exact Or.inr (Or.inr rfl))(hd:(x==("__debug__":Str))=false:=by decide)(hcd:(x==("__classdict__":Str))=false:=by decide):PE X (.Subscript (.Name x p) (.Constant (.int k) j pos2) pos) (tOp (hZ X.K) (gY i) (tC (.int k))):=pe_ix dM (pv i hN hv hd hcd) pe_int (λ_ _=>rfl)
theorem lqQ(hm:X.mg "len"=none)(h:PE X e te)(hg:Gl X "len":=by rfl)(he:starEach [e] X.env=(false,eval e X.env,)::starEach [] X.env:=by rfl)(hpl:(backTo pos (starEach [] X.env)).any (·.1)=false:=by rfl):PE X (.Call (.Name "len" p) [e] [] pos) (tCB (λxs H Q=>∃p ys,xs=[.ref p]/\(SqL X.K H p ys\/SqT X.K H p ys)/\Q (.int ys.length) H) (b_o te tNil)):=a_I b_f hg hm boot_len (pq1 h he) (by decide) (by decide) he hpl
theorem lqS(hm:X.mg "len"=none)(h:PE X e te)(hg:Gl X "len":=by rfl)(he:starEach [e] X.env=(false,eval e X.env,)::starEach [] X.env:=by rfl)(hpl:(backTo pos (starEach [] X.env)).any (·.1)=false:=by rfl):PE X (.Call (.Name "len" p) [e] [] pos) (tCB (λxs H Q=>∃z,xs=[.str z]/\z.length≤sizeLine/\Q (.int z.length) H) (b_o te tNil)):=a_I e_A hg hm boot_len (pq1 h he) (by decide) (by decide) he hpl
theorem cqN(ha:PE X a ta)(hb:PE X b tb):PT X (.Compare a [.NotEq] [b] pos) (ln (tOp rNe ta tb)):=a_S rR ha hb (b_d _)
theorem cqE(ha:PE X a ta)(hb:PE X b tb):PT X (.Compare a [.Eq] [b] pos) (ln (tOp rEq ta tb)):=a_S be ha hb (b_d _)
theorem stS(i:Nat){pos':Pos}(hN:X.N.Nodup)(he:PE X e te)(hi:X.N[i]?=some x:=by rfl)(hx:Loc X.env.scope x:=by first|exact Or.inl rfl|exact Or.inr rfl)(hs:swapsWith e (some (.Name x pos')) pos.line X.env=pure false:=by rfl)(hf:X.fn x=true\/X.env.scope.names.lookup x=some .local:=by first|exact .inl rfl|exact .inr rfl|assumption):PS X (.Assign [.Name x pos'] e pos) (aG te (c_x i)):=qa hN hi hx he hs hf
theorem pgN(i:Nat)(hN:X.N.Nodup)(hi:X.N[i]?=some x:=by rfl)(hx:Loc X.env.scope x:=by first|exact Or.inl rfl|exact Or.inr rfl)(hf:X.fn x=true\/X.env.scope.names.lookup x=some .local:=by first|exact .inl rfl|exact .inr rfl|assumption):PG X (.Name x pos) (c_x i):=f_f hN hi hx hf
theorem apQ{apos cpos:Pos}(ho:PE X o t1)(h:PE X e te)(hb:attributeBase o "append" X.env (eval o X.env)=eval o X.env:=by rfl)(hf:((backTo cpos (starEach [e] X.env)).all (λx=>!x.1)&&(backToKw cpos (keywordEach [] X.env)).all (λx=>x.1.isSome)&&decide ([e].length+([]:List Keyword).length+(if ([]:List Keyword).isEmpty then 0 else 1)<30))=true:=by rfl)(hl:(apos.endLine==cpos.line)=true:=by rfl)(hs:starEach [e] X.env=(false,eval e X.env,)::starEach [] X.env:=by rfl)(hp:(backTo cpos (starEach [] X.env)).any (·.1)=false:=by rfl):PE X (.Call (.Attribute o "append" apos) [e] [] cpos) (tBM X.K "list" rAppend t1 (b_o te tNil)):=i9 plainAttrs_list PySem.F.slot_list_append PySem.F.type_list_append f_o ho (pq1 h hs) hb hf hl hs hp
theorem isQ{p2:Pos}(hi:X.mg "isinstance"=none)(hT:X.mg n=none)(hv:bootBuiltins n=some (.type T))(h:PE X e te)(g1:Gl X "isinstance":=by rfl)(g2:Gl X n:=by rfl)(n1:n≠"__name__":=by decide)(n2:(n==("__debug__":Str))=false:=by decide)(s1:starEach [e,.Name n p2] X.env=(false,eval e X.env,)::starEach [.Name n p2] X.env:=by rfl)(s2:starEach [.Name n p2] X.env=(false,eval (.Name n p2) X.env,)::starEach [] X.env:=by rfl)(hp:(backTo pos (starEach [.Name n p2] X.env)).any (·.1)=false:=by rfl):PE X (.Call (.Name "isinstance" p) [e,.Name n p2] [] pos) (tCB (λxs H Q=>∃x t b,xs=[x,.ty T]/\ae X.K H x t/\kitOne X.K t (.type T)=some b/\Q (.bl b) H) (b_o te (b_o (tC (.ty T)) tNil))):=a_I (gB (T:=T)) g1 hi PyProof.Rows.boot_isinstance (pq2 h (ja (v:=.ty T) g2 hT hv rfl n1 n2) s1 s2) (by decide) (by decide) s1 hp
section
variable{K:Frag}{H:Hp}{Q:VK}{c:Addr}{xs:List V}{v x0 x1 x2 x3:V}{i:Int}{l:List V}
theorem iqT(ht:H c=some (.tup xs))(ha:atI xs i=some v)(q:Q v H):hZ K (.ref c) (.int i) H Q:=(c,_,_,_,rfl,rfl,SqT.of ht,ha,q)
theorem iqL(ht:H c=some (.lst xs))(ha:atI xs i=some v)(q:Q v H):lG K (.ref c) (.int i) H Q:=(c,_,_,_,rfl,rfl,SqL.of ht,ha,q)
theorem ivT(ht:H c=some (.tup xs))(ha:atI xs i=some v)(q:Q v H)(hv:σ[n]?=some (some (.ref c)):=by rfl):tOp (hZ K) (gY n) (tC (.int i)) σ H Q:=(_,hv,c,_,_,_,rfl,rfl,SqT.of ht,ha,q)
theorem aK:atI (x0::l) 0=some x0:=a_G (j:=0) rfl
theorem aF:atI (x0::x1::l) 1=some x1:=a_G (j:=1) rfl
theorem bP:atI (x0::x1::x2::l) 2=some x2:=a_G (j:=2) rfl
end
end
theorem fsc{N P:List Str}{sc:Scope}(a:sc.kind=.function:=by rfl)(b:sc.isCoroutine=false:=by rfl)(c:sc.isGenerator=false:=by rfl)(d:N.Nodup:=by decide +kernel)(e:N.take P.length=P:=by rfl)(f:∀x∈P,sc.names.lookup x=some .local\/sc.names.lookup x=some .cell:=by decide +kernel)(g:∀y∈sc.names,y.2≠.free:=by decide +kernel):a_m N P sc:=(a,b,c,d,e,f,g)
def sA(K:Frag)(x:Str)(st:Stmt)(f:Addr):Prop:=∃fd,Fun K x x st f fd
theorem b_p(e:K.lookup f=some (oc,od,.func fd,sl)):keepIn K (.ref f)=true:=by
 unfold keepIn;dsimp only;rw[show List.lookup f K=_ from e]
theorem fn_in{kV doc pm ct:Value}(l:K.lookup f=some (oc,od,.func (fnOf x x (a_g st) (a_e st) (a_a st) .none kV doc pm an (.ref cd) ct),osl))(c:codeIn K (.ref cd) x=true):sA K x st f:=(_,c_o l c (b_p l))
theorem dfm{P:Program}{w:World}{K:Frag}{mg:Str->Option Value}{base h:Heap}(X:K.In h)(G:h.Ns mainGlobals mg){x:Str}{k:Nat}{ps:List Str}{sp:Sp}{f:Addr}{fd:FuncData}{st:Stmt}(a:nsIn K mainGlobals x=some (some (.ref f)))(F:Fun K x x st f fd)(b:b_q K fd ps [])(o:aa P w K mg base CX0 k f fd ps sp):Df P w K mg base x k ps sp:=(f,fd,mg_of X G a,F.kp,b,o)
theorem ln1{α:Type}{l:List α}(h:l.length=1):∃a,l=[a]:=List.length_eq_one_iff.mp h
theorem ln2{α:Type}{l:List α}(h:l.length=2):∃a b,l=[a,b]:=by
 cases l with
 |nil=>cases h
 |cons a t=>obtain⟨b,rfl⟩:=ln1 (Nat.succ.inj h);exact(a,b,rfl)
theorem ln3{α:Type}{l:List α}(h:l.length=3):∃a b c,l=[a,b,c]:=by
 cases l with
 |nil=>cases h
 |cons a t=>obtain⟨b,c,rfl⟩:=ln2 (Nat.succ.inj h);exact(a,b,c,rfl)
theorem ln4{α:Type}{l:List α}(h:l.length=4):∃a b c d,l=[a,b,c,d]:=by
 cases l with
 |nil=>cases h
 |cons a t=>obtain⟨b,c,d,rfl⟩:=ln3 (Nat.succ.inj h);exact(a,b,c,d,rfl)
theorem ln5{α:Type}{l:List α}(h:l.length=5):∃a b c d e,l=[a,b,c,d,e]:=by
 cases l with
 |nil=>cases h
 |cons a t=>obtain⟨b,c,d,e,rfl⟩:=ln4 (Nat.succ.inj h);exact(a,b,c,d,e,rfl)
theorem bn1(F:Fun K x x st f fd)(h:∀(kV doc pm:Value)(an:Option Addr)(cdv ct u0:Value),bindArgs (fnOf x x (a_g st) (a_e st) (a_a st) .none kV doc pm an cdv ct) ([u0],[])=pure ([q0].zip [u0])):b_q K fd [q0] []:=F.binds λ_ _ _ _ _ _ us hl=>by obtain⟨_,rfl⟩:=ln1 hl;exact h _ _ _ _ _ _ _
theorem bn2(F:Fun K x x st f fd)(h:∀(kV doc pm:Value)(an:Option Addr)(cdv ct u0 u1:Value),bindArgs (fnOf x x (a_g st) (a_e st) (a_a st) .none kV doc pm an cdv ct) ([u0,u1],[])=pure ([q0,q1].zip [u0,u1])):b_q K fd [q0,q1] []:=F.binds λ_ _ _ _ _ _ us hl=>by obtain⟨_,_,rfl⟩:=ln2 hl;exact h _ _ _ _ _ _ _ _
theorem bn3(F:Fun K x x st f fd)(h:∀(kV doc pm:Value)(an:Option Addr)(cdv ct u0 u1 u2:Value),bindArgs (fnOf x x (a_g st) (a_e st) (a_a st) .none kV doc pm an cdv ct) ([u0,u1,u2],[])=pure ([q0,q1,q2].zip [u0,u1,u2])):b_q K fd [q0,q1,q2] []:=F.binds λ_ _ _ _ _ _ us hl=>by obtain⟨_,_,_,rfl⟩:=ln3 hl;exact h _ _ _ _ _ _ _ _ _
theorem bn4(F:Fun K x x st f fd)(h:∀(kV doc pm:Value)(an:Option Addr)(cdv ct u0 u1 u2 u3:Value),bindArgs (fnOf x x (a_g st) (a_e st) (a_a st) .none kV doc pm an cdv ct) ([u0,u1,u2,u3],[])=pure ([q0,q1,q2,q3].zip [u0,u1,u2,u3])):b_q K fd [q0,q1,q2,q3] []:=F.binds λ_ _ _ _ _ _ us hl=>by obtain⟨_,_,_,_,rfl⟩:=ln4 hl;exact h _ _ _ _ _ _ _ _ _ _
theorem bn5(F:Fun K x x st f fd)(h:∀(kV doc pm:Value)(an:Option Addr)(cdv ct u0 u1 u2 u3 u4:Value),bindArgs (fnOf x x (a_g st) (a_e st) (a_a st) .none kV doc pm an cdv ct) ([u0,u1,u2,u3,u4],[])=pure ([q0,q1,q2,q3,q4].zip [u0,u1,u2,u3,u4])):b_q K fd [q0,q1,q2,q3,q4] []:=F.binds λ_ _ _ _ _ _ us hl=>by obtain⟨_,_,_,_,_,rfl⟩:=ln5 hl;exact h _ _ _ _ _ _ _ _ _ _ _
end L2
namespace L2
open PySem PySem.Spec PyProof.Rows
theorem Fun.okA{P:Program}{w:World}{K:Frag}{st:Stmt}(F:Fun K x qual st f fd)(S:a_m N ps (a_a st))(hbody:∀(cdv:Value)(A:Around)(outer:List Env)(s:Shared)(H:Hp)(vs:List V)(Q:VK)(E:XK),af k (A.deeper (envOfC qual (a_a st) s.heap.objs.size f cdv))->sp vs H Q E->
   ∃t,PSs (aJ CX0 P w K mg base N qual (a_a st) f cdv A outer s H E).nox (a_e st) t/\t {nx:=λ_ H'=>Q .non H',rt:=Q} (start N vs) H)(len:∀vs H Q E,sp vs H Q E->vs.length=ps.length:=by intro _ _ _ _ h;(repeat obtain⟨_,h⟩:=h);subst_vars;rfl):aa P w K mg base CX0 (k+1) f fd ps sp:=F.ok S len hbody
def FnX(K:Frag)(x:Str)(st:Stmt):Prop:=∃f,nsIn K mainGlobals x=some (some (.ref f))/\sA K x st f
end L2
section
seal L2.PE L2.PT L2.PW L2.PA L2.PS L2.PSs L2.PG L2.PGs L2.PI L2.PTs L2.PX
namespace K26
open PySem L2 RA
def top(i:Nat):Stmt:=PySem.Challenge.pw_roomalgebra_k26_joins_that_come_to_the_s.main.body.getD i (.Pass (0,0,0,0))
abbrev Q0:Str:="machine"
abbrev Q3:Str:="second"
abbrev Q4:Str:="letters"
abbrev Q5:Str:="rooms"
abbrev Q6:Str:="things"
abbrev Q7:Str:="words"
abbrev Q9:Str:="is_marked"
abbrev Z0:Str:="walk"
abbrev Z1:Str:="place"
abbrev Z5:Str:="lots"
abbrev Z7:Str:="goals_of"
abbrev Z8:Str:="room"
abbrev Y0:Str:="ways"
abbrev Y2:Str:="one"
abbrev Y3:Str:="two"
abbrev a_o:Stmt:=top 15
abbrev a_h:Stmt:=top 16
abbrev p8:Stmt:=top 14
abbrev e_k:Stmt:=jn p8 0
structure WkT(K:Frag)(mg:Str->Option Value)(cW fI:Addr)(fdI:FuncData):Prop where
 kW:mg "Walk"=some (.ref cW)
 cls:Cls K cW
 mkW:Mk K cW fI
 na1:a_A K cW Q4
 na2:a_A K cW Q6
 na3:a_A K cW Q7
 na4:a_A K cW Y0
 na5:a_A K cW "marks"
 ini:Fun K "__init__" "Walk.__init__" e_k fI fdI
theorem lx:a_m ["self",Q4,"start"] ["self",Q4,"start"] (a_a e_k):=fsc
theorem mr(WT:WkT K mg cW fI fdI):aa P w K mg base CX0 1 fI fdI ["self",Q4,"start"] (lp cW):=by
 refine WT.ini.ok lx (λvs H Q E h=>?_) (λcdv A outer s H vs Q E hr h=>?_)
 .obtain ⟨x,dx,L,v,rfl,_⟩:=h;rfl
 .obtain ⟨x,dx,L,v,rfl,hx,q⟩:=h;refine(_,(a_b ((bz (f:=Q4) (pv 0) (pv 1) rfl)) (a_b ((bz (f:=Q6) (pv 0) (a_D (pq1 (pv 2))) rfl)) (a_b ((bz (f:=Q7) (pv 0) (a_D (pq1 bB)) rfl)) (a_b ((bz (f:=Y0) (pv 0) (a_D d_i) rfl)) (a_f ((bz (f:="marks") (pv 0) (a_D d_i) rfl))))))),?_);refine(_,rfl,_,rfl,x,cW,dx,_,rfl,hx,WT.cls,WT.na1,by decide,?_);refine(_,rfl,a_j (by show 1≤16777216;decide),λt ht=>(_,rfl,x,cW,dx,_,rfl,a_i a_c ht,WT.cls,WT.na2,lt_of_le_of_lt (le_of_eq (show _=1 from rfl)) (by decide),?_));have tx':t≠x:=λz=>by rw[z,a_c]at ht;cases ht
  refine(a_j (by show 1≤16777216;decide),λwd hwd=>(_,rfl,x,cW,dx,_,rfl,a_i a_c hwd,WT.cls,WT.na3,lt_of_le_of_lt (le_of_eq (show _=2 from rfl)) (by decide),?_));have wx:wd≠x:=λz=>by rw[z,a_c]at hwd;cases hwd
  refine(zero_le _,λy hy=>(_,rfl,x,cW,dx,_,rfl,a_i a_c hy,WT.cls,WT.na4,lt_of_le_of_lt (le_of_eq (show _=3 from rfl)) (by decide),?_));have yx:y≠x:=λz=>by rw[z,a_c]at hy;cases hy
  refine(zero_le _,λm hm=>(_,rfl,x,cW,dx,_,rfl,a_i a_c hm,WT.cls,WT.na5,lt_of_le_of_lt (le_of_eq (show _=4 from rfl)) (by decide),?_));have mx:m≠x:=λz=>by rw[z,a_c]at hm;cases hm
  have twd:t≠wd:=λz=>by rw[<-z,upd_ne tx',a_c]at hwd;cases hwd
  have ty:t≠y:=λz=>by rw[<-z,upd_ne tx',upd_ne twd,upd_ne tx',a_c]at hy;cases hy
  have tm:t≠m:=λz=>by rw[<-z,upd_ne tx',upd_ne ty,upd_ne tx',upd_ne twd,upd_ne tx',a_c]at hm;cases hm
  have wy:wd≠y:=λz=>by rw[<-z,upd_ne wx,a_c]at hy;cases hy
  have wm:wd≠m:=λz=>by rw[<-z,upd_ne wx,upd_ne wy,upd_ne wx,a_c]at hm;cases hm
  have ym:y≠m:=λz=>by rw[<-z,upd_ne yx,a_c]at hm;cases hm
  have fin:∀b,b≠x->b≠m->b≠y->b≠wd->b≠t->H b=upd (upd (upd (upd (upd (upd (upd (upd (upd H x (.ins cW dx (aj Q4 (.str (tx L)) []))) t (.lst [v])) x (.ins cW dx (aj Q6 (.ref t) (aj Q4 (.str (tx L)) [])))) wd (.lst [.str (tx [])])) x (.ins cW dx (aj Q7 (.ref wd) (aj Q6 (.ref t) (aj Q4 (.str (tx L)) []))))) y (.lst [])) x (.ins cW dx (aj Y0 (.ref y) (aj Q7 (.ref wd) (aj Q6 (.ref t) (aj Q4 (.str (tx L)) [])))))) m (.lst [])) x (.ins cW dx (aj "marks" (.ref m) (aj Y0 (.ref y) (aj Q7 (.ref wd) (aj Q6 (.ref t) (aj Q4 (.str (tx L)) []))))))  b:=λb h1 h2 h3 h4 h5=>by
   rw[upd_ne h1,upd_ne h2,upd_ne h1,upd_ne h3,upd_ne h1,upd_ne h4,upd_ne h1,upd_ne h5,upd_ne h1]
  have free:∀{b:Addr}{o:HO},H b=some o->∀{a:Addr},H a=none->b≠a:=λ{b o}e{a}n=>ne_of_none e n;have ft:H t=none:=by rw[upd_ne tx']at ht;exact ht
  have fw:H wd=none:=by rw[upd_ne wx,upd_ne (Ne.symm twd),upd_ne wx]at hwd;exact hwd
  have fy:H y=none:=by rw[upd_ne yx,upd_ne (Ne.symm wy),upd_ne yx,upd_ne (Ne.symm ty),upd_ne yx]at hy;exact hy
  have fm:H m=none:=by rw[upd_ne mx,upd_ne (Ne.symm ym),upd_ne mx,upd_ne (Ne.symm wm),upd_ne mx,upd_ne (Ne.symm tm),upd_ne mx]at hm;exact hm
  refine q t wd y m _ twd ty tm wy wm ym ft fw fy fm (λb o hb e=>?_) ⟨(dx,a_c)⟩ ?_ ?_ ?_ ?_
  .rw [<-e];exact(fin b hb (free e fm) (free e fy) (free e fw) (free e ft)).symm
  .rw [upd_ne tx',upd_ne tm,upd_ne tx',upd_ne ty,upd_ne tx',upd_ne twd,upd_ne tx',a_c]
  .rw [upd_ne wx,upd_ne wm,upd_ne wx,upd_ne wy,upd_ne wx,a_c,<-g_L]
  .rw [upd_ne yx,upd_ne ym,upd_ne yx,a_c]
  .rw [upd_ne mx,a_c]
theorem b_y:a_m [Q4,"start",Z7,Q9,"most",Z0,Q5,Z8,"goals","row","letter","goal"] [Q4,"start",Z7,Q9,"most"] (a_a a_o):=fsc
theorem c_n{P:Program}{w:World}{K:Frag}{mg:Str->Option Value}{base:Heap}{cW fI f fg fm:Addr}(F:eC K "walked" "walked" a_o f fd)(WT:WkT K mg cW fI fdI)(tlen:mg "len"=none)(tzip:mg "zip"=none)(Fg:aa P w K mg base CX0 4 fg fdg [gx] (d_k ti L g U Rest))(Fm:aa P w K mg base CX0 4 fm fdm [mx] (e_X ti mk U Rest))(og1:base.get? fg=some og)(og2:∃fd',og.data=.func fd')(om1:base.get? fm=some om)(om2:∃fd',om.data=.func fd')(bg:b_q K fdg [gx] [])(bm:b_q K fdm [mx] [])(hRest:∀H H':Hp,Same H H'->Rest H->Rest H'):aa P w K mg base CX0 5 f fd [Q4,"start",Z7,Q9,"most"] (b_O cW ti L g mk U Rest fg fm):=by
 obtain⟨oc,od,dat,sl⟩:=og;obtain⟨fd',rfl⟩:=og2;obtain⟨oc2,od2,dat2,sl2⟩:=om;obtain⟨fd2',rfl⟩:=om2;refine F.ok b_y (λvs H Q E h=>?_) (λcdv A outer s H vs Q E hr h=>?_)
 .obtain ⟨s,sv,most,rfl,_⟩:=h;rfl
 .obtain ⟨s0,sv,most,rfl,hL,hsv,hsU,hcl,hU,hR0,q⟩:=h;have hr2:=hr.mono (j:=2) (by decide);refine(_,(a_b ((stS 5 b_y.nd (oy WT.mkW (mr WT) hr2 rfl WT.kW (WT.ini.binds (ps:=["self",Q4,"start"]) (λ_ _ _ _ _ _ us hl=>by obtain⟨_,_,_,rfl⟩:=ln3 hl;rfl)) .nil jb (pq2 (pv 0) (pv 1))))) (dw ((stS 6 b_y.nd (ow hr.units (pv 1) pe_int))) (a_b ((eY PassesOwn.never (a_S jd (a_I b_f (by rfl) tlen boot_len (pq1 (a_X (f:=Y0) (pv 5) rfl))) (a_I b_f (by rfl) tlen boot_len (pq1 (a_X (f:=Q6) (pv 5) rfl))) (b_d _)) (dw ((a_W ((p9 (a_S op_notN (pv 4) f_Q (b_d _)) (ou (a_S rS (a_I b_f (by rfl) tlen boot_len (pq1 (a_X (f:=Q6) (pv 5) rfl))) (pv 4) (b_d _)))).pt) ((a_f (eZ))) (a_t))) (a_b ((stS 7 b_y.nd ((a_I b_f (by rfl) tlen boot_len (pq1 (a_X (f:=Y0) (pv 5) rfl)))))) (a_b ((stS 8 b_y.nd (d_M Fg hr og1 bg (pv 2) (pq1 (xqL ((a_X (f:=Q6) (pv 5) rfl)) (pv 7)))))) (a_b ((stS 9 b_y.nd (a_D d_i))) (a_b ((c_m PassesOwn.never rfl (iZ rfl tzip (pq2 (pv 0) (pv 8))) (ia rfl (c_T (pgN 10 b_y.nd) (c_T (pgN 11 b_y.nd) dA))) (dw ((a_W (a_S (j7 hr.units) (pv 11) (pv 6) (by with_unfolding_all rfl)) ((a_b (ps_asg (a_I b_f (by rfl) tlen boot_len (pq1 (a_X (f:=Q6) (pv 5) rfl))) (pg_sub (pv 6) (pv 11) (jO hr.units))) (a_b (b_j (apQ ((a_X (f:=Q6) (pv 5) rfl)) (pv 11))) (a_f (b_j (apQ ((a_X (f:=Q7) (pv 5) rfl)) (a_K c_U (xqL ((a_X (f:=Q7) (pv 5) rfl)) (pv 7)) (pv 10)))))))) (a_t))) (a_f (b_j (apQ (pv 9) (pe_ix (mO hr.units) (pv 6) (pv 11) (λ_ _=>rfl)))))))) (a_b (b_j (apQ ((a_X (f:=Y0) (pv 5) rfl)) (pv 9))) (a_f (b_j (apQ ((a_X (f:="marks") (pv 5) rfl)) (d_M Fm hr om1 bm (pv 3) (pq1 (xqL ((a_X (f:=Q6) (pv 5) rfl)) (pv 7))))))))))))))) (a_f (a_k (pv 5)))))),?_);have tn:∀{b:Addr}{o:HO},H b=some o->∀{c:Addr},H c=none->b≠c:=λ{b o}e{c}n=>ne_of_none e n;refine(_,rfl,_,rfl,λwk dx hwk hdx hne=>(wk,dx,L,sv,rfl,a_c,λt wd y md H1 a1 a2 a3 a4 a5 a6 ft fw fy fmd kp hW ht hwd hy hmd=>(rfl,?_)));have fr:∀{b:Addr},upd (upd H dx (.own wk)) wk (.ins cW dx []) b=none->H b=none:=λ{b}e=>by
   by_cases h1:b=wk
   .rw [h1];exact hwk
   .rw [upd_ne h1]at e;by_cases h2:b=dx
    .rw [h2];exact hdx
    .rw [upd_ne h2]at e;exact e
  have s1:Same H H1:=λb o e=>kp b o (tn e hwk) (by rw[upd_ne (tn e hwk),upd_ne (tn e hdx)];exact e);have hsv1:ThV ti H1 s0 sv:=hsv.same λb xs e=>s1 _ _ e;have hdict:∀(d:Addr)(H2:Hp),H1 d=none->RmAt P w H2 d ti [s0]->(∀b o,H1 b=some o->H2 b=some o)->WI P w H H2 cW ti L wk t wd y md d [s0] [sv] [[]] [] [] []:=λd H2 hd hrm s2=>by
   have ne:∀{b:Addr}{o:HO},H1 b=some o->d≠b:=λ{b o}e z=>by rw[<-z,hd]at e;cases e
   obtain⟨dx',ew⟩:=hW.ex;exact(s1.trans s2,(dx',s2 _ _ ew),s2 _ _ ht,(rfl,λi k v h1 h2=>by
    match i,h1,h2 with
    |0,h1,h2=>cases h1;cases h2;exact hsv1.same λb xs e=>s2 _ _ e
    | i+1,h1,_=>simp at h1),s2 _ _ hwd,s2 _ _ hy,(rfl,λi a r h1=>by simp at h1),s2 _ _ hmd,hrm,fr ft,fr fw,fr fy,fr fmd,b_R s1 hd,a1,a2,a3,a4,a5,a6,ne ht,ne hwd,ne hy,ne hmd,ne ew,λa ha=>by simp at ha)
  refine⟨λσ' H'=>∃d,σ'=[some (.str (tx L)),some sv,some (.ref fg),some (.ref fm),some (bD most),some (.ref wk),some (.ref d),none,none,none,none,none]/\WI P w H H' cW ti L wk t wd y md d [s0] [sv] [[]] [] [] [],?_,?_⟩
  .refine (ti,λd hd=>(_,rfl,a_c,?_));have up:∀{ob ob2:HO}(b:Addr)(o:HO),H1 b=some o->upd (upd H1 d ob) d ob2 b=some o:=λ{ob ob2}b o e=>by
    rw[g_g];exact a_i e hd
   by_cases hti:ti=.i
   .rw [hti]at hsv1 hdict⊢;unfold ThV at hsv1;rw[if_pos rfl]at hsv1;obtain⟨n,rfl,rfl⟩:=hsv1;refine .inl (rfl,_,rfl,d,rfl,hdict d _ hd ?_ up);unfold RmAt;rw[if_pos rfl];exact(a_c,λt ht=>(n,qb1 ht))
   .have hsv2:=hsv1;unfold ThV at hsv2;rw[if_neg hti]at hsv2;obtain⟨b,rfl,hb⟩:=hsv2;have hT:∀{ob:HO},(dK P w ti).kin (upd H1 d ob) (zs s0) b:=λ{ob}=>(hb.same λb xs e=>a_i e hd).kin;refine .inr (hti,b,zs s0,rfl,hT,d,rfl,hdict d _ hd ?_ up);unfold RmAt;rw[if_neg hti];refine(_,a_c,λx hx=>?_,rfl,λi k x h1 h2=>?_)
    .rw [qb1 hx,g_g];exact hT
    .match i,h1,h2 with
     |0,h1,h2=>cases h1;cases h2;exact(rfl,rfl)
     |i+1,h1,_=>simp at h1
  rintro σ1 H2⟨d,rfl,hWI⟩;have fin:∀{H':Hp}{ks:LL}{vks:List V}{ws:LL}{rows:List Addr}{R:LL}{B:List Bool},WI P w H H' cW ti L wk t wd y md d ks vks ws rows R B->WPu g L s0 mk U ks ws R B 0->(R.length=ks.length\/∃n,most=some n/\n<ks.length)->Q (.ref wk) H':=λhI hP he=>
   q wk t wd y md _ _ _ _ _ _ _ hI.sm hI.obj hI.ht hI.th hI.hw hI.hy hI.wr hI.hm hP.bf hP.ways hP.bl hP.mks hP.sub (le_trans (Nat.le_add_left _ _) hP.left) he
  refine⟨λn σ' H'=>∃ks vks ws rows R B s7 s8 s9 s10 s11,n=U.length-List.length R/\σ'=[some (.str (tx L)),some sv,some (.ref fg),some (.ref fm),some (bD most),some (.ref wk),some (.ref d),s7,s8,s9,s10,s11]/\WI P w H H' cW ti L wk t wd y md d ks vks ws rows R B/\WPu g L s0 mk U ks ws R B 0,(_,[s0],[sv],[[]],[],[],[],none,none,none,none,none,rfl,rfl,hWI,WPu.start hsU),?_⟩;rintro n σ' H3⟨ks,vks,ws,rows,R,B,s7,s8,s9,s10,s11,rfl,rfl,hI,hP⟩;obtain⟨dx',ew⟩:=hI.obj.ex;have hrl:(rows.map V.ref).length=R.length:=by rw[qa4,hI.wr.1]
  have hvl:vks.length=ks.length:=hI.th.1;have hksU:ks.length≤U.length:=le_trans (Nat.le_add_left _ _) hP.left;refine(_,rfl,wk,cW,dx',_,_,rfl,ew,WT.cls,WT.na4,rfl,y,_,rfl,.inl (SqL.of hI.hy),_,rfl,wk,cW,dx',_,_,rfl,ew,WT.cls,WT.na2,rfl,t,_,rfl,.inl (SqL.of hI.ht),_,_,rfl,rfl,_,rfl,aE (λhlt=>?_) (λhlt=>?_));case _=>
   rw[hrl,hvl]at hlt;have hlt:R.length<ks.length:=Int.ofNat_lt.mp hlt;refine⟨λσ2 H4=>∃ks vks ws rows R' B s7 s8 s9 s10 s11,R'.length=R.length+1/\σ2=[some (.str (tx L)),some sv,some (.ref fg),some (.ref fm),some (bD most),some (.ref wk),some (.ref d),s7,s8,s9,s10,s11]/\WI P w H H4 cW ti L wk t wd y md d ks vks ws rows R' B/\WPu g L s0 mk U ks ws R' B 0,?_,?_⟩
   .rintro σ2 H4⟨ks',vks',ws',rows',R',B',u7,u8,u9,u10,u11,hR',hσ,hI',hP'⟩;exact(U.length-R'.length,by rw[hR'];omega,ks',vks',ws',rows',R',B',u7,u8,u9,u10,u11,rfl,hσ,hI',hP')
   obtain⟨k0,hk0⟩:∃k0,ks[R.length]?=some k0:=(ks[R.length],qa2 hlt);obtain⟨v0,hv0⟩:∃v0,vks[R.length]?=some v0:=(vks[R.length]'(by rw[hvl];exact hlt),qa2 _);obtain⟨a0,ha0⟩:∃a0,ws[R.length]?=some a0:=(ws[R.length]'(by rw[<-hP.bf.len];exact hlt),qa2 _);have hk0U:k0∈U:=hP.sub k0 (qb2 hk0);refine(λσ2 H4=>σ2=[some (.str (tx L)),some sv,some (.ref fg),some (.ref fm),some (bD most),some (.ref wk),some (.ref d),s7,s8,s9,s10,s11]/\H4=H3,?_,?_)
   .cases most with
    |none=>exact(_,rfl,rfl,_,rfl,f_t rfl (ag (rfl,rfl)))
    |some M=>
     refine(_,rfl,rfl,_,rfl,se (_,rfl,wk,cW,dx',_,_,rfl,ew,WT.cls,WT.na2,rfl,t,_,rfl,.inl (SqL.of hI.ht),_,rfl,_,_,rfl,rfl,_,rfl,?_));rw[hvl];exact aE (λhgt=>(_,rfl,fin hI hP (.inr (M,rfl,Int.ofNat_lt.mp hgt)))) (λ_=>(rfl,rfl))
   rintro σ2 H4⟨rfl,rfl⟩;refine(_,rfl,wk,cW,dx',_,_,rfl,ew,WT.cls,WT.na4,rfl,y,_,rfl,.inl (SqL.of hI.hy),?_);rw[hrl];have hat:atI vks ((R.length:Nat):Int)=some v0:=a_G hv0;refine(rfl,_,rfl,wk,cW,dx',_,_,rfl,ew,WT.cls,WT.na2,rfl,_,rfl,iqL hI.ht hat (k0,v0,rfl,hI.th.2 _ _ _ hk0 hv0,hk0U,hRest _ _ hI.sm hR0,λgs xs H5 s5 hgs hxl hxs=>?_));have hI5:=hI.any s5;have hgs':H5 gs=some (.tup xs)\/H5 gs=some (.lst xs):=hgs.imp id λz=>z.2;have gne:∀{b:Addr}{o:HO},H4 b=some o->(∀zs,o≠.tup zs)->gs≠b:=λ{b o}e ho z=>by
    rcases hgs with h1|⟨h1,_⟩
    .rw [z,s5 _ _ e]at h1;cases h1;exact ho _ rfl
    .rw [z,e]at h1;cases h1
   obtain⟨φd,hφ⟩:∃φ,H4 d=some (.ext φ):=by
    have hr0:=hI.rm;unfold RmAt at hr0;by_cases c:ti=.i
    .rw [if_pos c]at hr0;exact(_,hr0.1)
    .rw [if_neg c]at hr0;obtain⟨kvs,e,_⟩:=hr0;exact(_,e)
   have g1:gs≠t:=gne hI.ht (by intro zs z;cases z);have g2:gs≠wd:=gne hI.hw (by intro zs z;cases z);have g3:gs≠y:=gne hI.hy (by intro zs z;cases z);have g4:gs≠md:=gne hI.hm (by intro zs z;cases z);have g5:gs≠d:=gne hφ (by intro zs z;cases z);refine(zero_le _,λrw hrw=>?_);have r1:rw≠t:=Ne.symm (ne_of_none hI5.ht hrw);have r2:rw≠wd:=Ne.symm (ne_of_none hI5.hw hrw);have r3:rw≠y:=Ne.symm (ne_of_none hI5.hy hrw);have r4:rw≠md:=Ne.symm (ne_of_none hI5.hm hrw);have r5:rw≠d:=Ne.symm (ne_of_none (s5 _ _ hφ) hrw);have r6:rw∉rows:=λhm=>by
    obtain⟨i,hi⟩:=mem_iff_getElem?.mp hm;have hil:i<R.length:=by rw[<-hI5.wr.1];exact(qa1 hi).1
    rw[hI5.wr.2 i rw _ hi (qa2 hil)]at hrw;cases hrw
   have rg:gs≠rw:=λz=>by
    rw[<-z]at hrw;rcases hgs' with h1|h1<;>rw[hrw]at h1<;>cases h1
   have r0:H rw=none:=b_R hI5.sm hrw;have hI6:=hI5.any (Same.upd (o:=.lst []) hrw);have hgs6:upd H5 rw (.lst []) gs=some (.tup xs)\/upd H5 rw (.lst []) gs=some (.lst xs):=by rw[upd_ne rg];exact hgs'
   refine(_,rfl,_,rfl,_,_,rfl,nY hgs6 λd2 hd2 tk=>?_);have hxlen:((tx L).cps.toList.map λc=>V.str ⟨#[c]⟩).length=xs.length:=by rw[qa4,e_t,hxl]
   refine m4 (xs:=(tx L).cps.toList.map λc=>V.str ⟨#[c]⟩) (ys:=xs) hxlen (λq σ3 H6=>∃ks' vks' ws' r v10 v11,σ3=[some (.str (tx L)),some sv,some (.ref fg),some (.ref fm),some (bD most),some (.ref wk),some (.ref d),some (.int ((R.length:Nat):Int)),some (.ref gs),some (.ref rw),v10,v11]/\
    WI P w H H6 cW ti L wk t wd y md d ks' vks' ws' rows R B/\WPu g L s0 mk U ks' ws' R B q/\e_G g ks' R.length r q/\H6 rw=some (.lst (intsV r))/\H6 gs=H5 gs/\(∀(j:Nat)(x:V),xs[j]?=some x->ThV ti H6 (g k0 j) x)/\ks'[R.length]?=some k0/\ws'[R.length]?=some a0) ?_ ?_ ?_ ?_
   .exact (ks,vks,ws,[],s10,s11,rfl,hI6,hP,e_G.nil,a_c,upd_ne rg,λj x hx=>(hxs j x hx).same λb zs e=>a_i e hrw,hk0,ha0)
   .rintro q σ3 H6⟨ks',vks',ws',r,v10,v11,rfl,hI',hP',hro,hrw',hgk,hth,hk',ha'⟩;exact(rfl,hd2 H6 (by rw[hgk,upd_ne rg]))
   .rintro q cx gx' p σ3 H6 hc hg hp⟨ks',vks',ws',r,v10,v11,rfl,hI',hP',hro,hrw',hgk,hth,hk',ha'⟩;rw[e_t,qa6]at hc;cases hcq:L[q]? with
    |none=>rw[hcq]at hc;cases hc
    |some c=>
    rw[hcq]at hc;cases hc;have hqL:q<L.length:=(qa1 hcq).1;have hcd:L.getD q 0=c:=by rw[qa3,hcq];rfl
    have hgU:g k0 q∈U:=hcl k0 hk0U q hqL;have hI7:=hI'.any (Same.upd (o:=.tup [.str ⟨#[c]⟩,gx']) hp);have hthq:ThV ti H6 (g k0 q) gx':=hth q gx' hg;have hth7:ThV ti (upd H6 p (.tup [.str ⟨#[c]⟩,gx'])) (g k0 q) gx':=hthq.same λb zs e=>a_i e hp;have hrp:upd H6 p (.tup [.str ⟨#[c]⟩,gx']) rw=some (.lst (intsV r)):=a_i hrw' hp;have hgsp:upd H6 p (.tup [.str ⟨#[c]⟩,gx']) gs=H5 gs:=by
     have:gs≠p:=λz=>by
      rw[<-z,hgk]at hp;rcases hgs' with h1|h1<;>rw[hp]at h1<;>cases h1
     rw[upd_ne this];exact hgk
    have hthp:∀(j:Nat)(x:V),xs[j]?=some x->ThV ti (upd H6 p (.tup [.str ⟨#[c]⟩,gx'])) (g k0 j) x:=λj x hx=>(hth j x hx).same λb zs e=>a_i e hp;have hp7:upd H6 p (.tup [.str ⟨#[c]⟩,gx']) p=some (.tup [.str ⟨#[c]⟩,gx']):=a_c;generalize upd H6 p (.tup [.str ⟨#[c]⟩,gx'])=H7 at hI7 hth7 hrp hgsp hthp hp7;have hkU:ks'.length≤U.length:=le_trans (Nat.le_add_left _ _) hP'.left;have hk100:ks'.length≤100000:=le_trans hkU hU;have hvl':vks'.length=ks'.length:=hI7.th.1;refine(p,_,rfl,SqT.of hp7,rfl,_,_,rfl,_,_,rfl,rfl,?_);refine⟨λσ4 H8=>∃ks2 vks2 ws2,σ4=[some (.str (tx L)),some sv,some (.ref fg),some (.ref fm),some (bD most),some (.ref wk),some (.ref d),some (.int ((R.length:Nat):Int)),some (.ref gs),some (.ref rw),some (.str ⟨#[c]⟩),some gx']/\WI P w H H8 cW ti L wk t wd y md d ks2 vks2 ws2 rows R B/\WPu g L s0 mk U ks2 ws2 R B (q+1)/\e_G g ks2 R.length r q/\
     H8 rw=some (.lst (intsV r))/\H8 gs=H5 gs/\(∀(j:Nat)(x:V),xs[j]?=some x->ThV ti H8 (g k0 j) x)/\ks2[R.length]?=some k0/\ws2[R.length]?=some a0/\g k0 q∈ks2,?_,?_⟩
    .refine (_,rfl,_,rfl,d,_,rfl,hI7.rm.get hth7,_,rfl,?_);by_cases hm:g k0 q∈ks'
     .rw [(iA hm).1];exact ag (ks',vks',ws',rfl,hI7,hP'.old hL.nd hk' ha' hqL hm,hro,hrp,hgsp,hthp,hk',ha',hm)
     .rw [show ixO ks' (g k0 q)=none from if_neg hm];obtain⟨ob,hput,hrm2⟩:=hI7.rm.put hth7 hm (d_w hk100);obtain⟨dx',ew7⟩:=hI7.obj.ex;have ew8:upd H7 d ob wk=_:=(upd_ne (Ne.symm hI7.e5)).trans ew7;have ht8:upd H7 d ob t=_:=(upd_ne (Ne.symm hI7.e1)).trans hI7.ht;have hw8:upd H7 d ob wd=_:=(upd_ne (Ne.symm hI7.e2)).trans hI7.hw;have wkt:wk≠t:=ne_of ew7 hI7.ht (by intro z;cases z);have ew9:upd (upd H7 d ob) t (.lst (vks'++[gx'])) wk=_:=(upd_ne wkt).trans ew8;have hw9:upd (upd H7 d ob) t (.lst (vks'++[gx'])) wd=_:=(upd_ne (Ne.symm hI7.d1)).trans hw8;have hatw:atI (b_L ws') ((R.length:Nat):Int)=some (.str (tx a0)):=a_G (by rw[b_L,qa6,ha'];rfl);have hwl:a0.length≤100000:=le_trans (hP'.wl a0 (qb2 ha')) hk100;rw[<-hvl']at hput;refine au (_,rfl,wk,cW,dx',_,_,rfl,ew7,WT.cls,WT.na2,rfl,t,_,rfl,.inl (SqL.of hI7.ht),_,rfl,_,rfl,d,_,rfl,hput,?_);refine(_,rfl,wk,cW,dx',_,_,rfl,ew8,WT.cls,WT.na2,rfl,.inl (rfl,_,SqL.of ht8),_,rfl,t,_,_,rfl,rfl,ht8,d_w (by rw[hvl'];exact hk100),?_);refine(_,rfl,wk,cW,dx',_,_,rfl,ew9,WT.cls,WT.na3,rfl,.inl (rfl,_,SqL.of hw9),_,rfl,wk,cW,dx',_,_,rfl,ew9,WT.cls,WT.na3,rfl,_,rfl,iqL hw9 hatw (_,rfl,_,_,rfl,rfl,?_,wd,_,_,rfl,rfl,hw9,d_w (by rw[b_L,qa4,<-hP'.bf.len];exact hk100),?_))
      .show (tx a0).length+1≤sizeLine;rw[b_b];exact a_j (by omega)
      have hch:tx a0++(⟨#[c]⟩:Str)=tx (a0++[c]):=by rw[<-db];rfl
      have hI10:=hI7.new (a:=a0++[c]) hth7 hrm2;have hP10:=hP'.new hL.nd hk' ha' hqL hm hgU;rw[hcd]at hP10;have kt:∀b zs,H7 b=some (.tup zs)->upd (upd (upd H7 d ob) t (.lst (vks'++[gx']))) wd (.lst (b_L ws'++[.str (tx (a0++[c]))])) b=some (.tup zs):=λb zs e=>by
       obtain⟨φ,hφ7⟩:∃φ,H7 d=some (.ext φ):=by
        have hr0:=hI7.rm;unfold RmAt at hr0;by_cases c:ti=.i
        .rw [if_pos c]at hr0;exact(_,hr0.1)
        .rw [if_neg c]at hr0;obtain⟨kvs,e,_⟩:=hr0;exact(_,e)
       rw[upd_ne (ne_of e hI7.hw (by intro z;cases z)),upd_ne (ne_of e hI7.ht (by intro z;cases z)),upd_ne (ne_of e hφ7 (by intro z;cases z))];exact e
      refine(ks'++[g k0 q],vks'++[gx'],ws'++[a0++[c]],rfl,?_,hP10,hro.grow (qa1 hk').1,?_,?_,λj x hx=>?_,g_H hk',g_H ha',by simp)
      .rw [<-hch]at hI10;exact hI10
      .rw [upd_ne r2,upd_ne r1,upd_ne r5];exact hrp
      .rw [upd_ne g2,upd_ne g1,upd_ne g5];exact hgsp
      .refine (hthp j x hx).same λb zs e=>?_;have:=kt b zs e;rw[<-hch]at this;exact this
    rintro σ4 H8⟨ks2,vks2,ws2,rfl,hI8,hP8,hro8,hrw8,hg8,hth8,hk8,ha8,hm8⟩;have hget:=hI8.rm.get (hth8 q gx' hg);rw[(iA hm8).1]at hget;have hq3:r.length≤100:=by rw[hro8.1];exact le_trans (le_of_lt hqL) (le_trans hL.hi (by decide))
    refine(_,rfl,.inl (rfl,_,SqL.of hrw8),_,rfl,_,rfl,d,_,rfl,hget,rw,_,_,rfl,rfl,hrw8,d_w (by rw[intsV_len];exact le_trans hq3 (by decide)),?_);refine(ks2,vks2,ws2,r++[ks2.idxOf (g k0 q)],_,_,rfl,hI8.beside hrw8 r0 r1 r2 r3 r4 r5 r6,hP8,hro8.snoc hk8 hm8,?_,?_,λj x hx=>?_,hk8,ha8)
    .rw [a_c,c_Y]
    .rw [upd_ne rg];exact hg8
    .exact (hth8 j x hx).same λb zs e=>by rw[upd_ne (ne_of e hrw8 (by intro z;cases z))];exact e
   .rintro σ3 H6⟨ks',vks',ws',r,v10,v11,rfl,hI',hP',hro,hrw',hgk,hth,hk',ha'⟩;rw[hxlen,hxl]at hP' hro;obtain⟨dx',ew6⟩:=hI'.obj.ex;have hkU:ks'.length≤100000:=le_trans (le_trans (Nat.le_add_left _ _) hP'.left) hU;have hR100:R.length≤100000:=le_trans hP'.le hkU;have hI8:=hI'.row hrw' r1 r2 r3 r4 r5;obtain⟨dx2,ew8⟩:=hI8.obj.ex;obtain⟨v1,hv1⟩:∃v1,vks'[R.length]?=some v1:=(vks'[R.length]'(by rw[hI'.th.1];exact(qa1 hk').1),qa2 _);refine(_,rfl,wk,cW,dx',_,_,rfl,ew6,WT.cls,WT.na4,rfl,.inl (rfl,_,SqL.of hI'.hy),_,rfl,y,_,_,rfl,rfl,hI'.hy,d_w (by rw[qa4,hI'.wr.1];exact hR100),?_);refine(_,rfl,wk,cW,dx2,_,_,rfl,ew8,WT.cls,WT.na5,rfl,.inl (rfl,_,SqL.of hI8.hm),rfl,_,rfl,wk,cW,dx2,_,_,rfl,ew8,WT.cls,WT.na2,rfl,_,rfl,iqL hI8.ht (a_G hv1) (k0,v1,rfl,hI8.th.2 _ _ _ hk' hv1,hk0U,hRest _ _ hI8.sm hR0,λH9 s9=>(md,_,_,rfl,rfl,(hI8.any s9).hm,d_w (by rw[qa4,hP'.bl];exact hR100),?_)));exact(ks',vks',ws',rows++[rw],R++[r],B++[mk k0],_,_,_,_,_,by rw[qa5];rfl,rfl,(hI8.any s9).mark,hP'.next hk' hro)
  case _=>
   rw[hrl,hvl]at hlt;exact(_,rfl,fin hI hP (.inl (le_antisymm hP.le (le_of_not_lt λz=>hlt (Int.ofNat_lt.mpr z)))))
def jM(cTM:Addr):Sp:=λvs H Q _=>∃(e wl tl:Addr)(part:V)(xs ys:List V),vs=[.ref e,.ref wl,.ref tl,part]/\H e=some (excD e cTM none)/\H wl=some (.lst xs)/\H tl=some (.lst ys)/\
 ∀(H':Hp)(d:Addr),(∀b o,b≠e->H b=some o->H' b=some o)->H' e=some (excD e cTM (some d))->Q .non H'
abbrev jU:Stmt:=top 10
abbrev c_R:Stmt:=jn jU 0
structure TmK(K:Frag)(mg:Str->Option Value)(cTM cRE fX:Addr)(fdX:FuncData):Prop where
 kT:mg "TooMany"=some (.ref cTM)
 kR:mg "RoomError"=some (.ref cRE)
 own:OwnI K cTM fX
 xc:iM K cTM
 na1:a_A K cTM Q7
 na2:a_A K cTM "tails"
 na3:a_A K cTM "part"
 bi:nX K cRE
 fn:isFn K (.ref fX)=true
 exm:exmOne K (.ref cTM) (.ref cTM)=some true
 ini:Fun K "__init__" "TooMany.__init__" c_R fX fdX
theorem jQ:a_m ["self",Q7,"tails","part"] ["self",Q7,"tails","part"] (a_a c_R):=fsc
theorem ka(TM:TmK K mg cTM cRE fX fdX)(tlist:mg "list"=none):aa P w K mg base CX0 1 fX fdX ["self",Q7,"tails","part"] (jM cTM):=by
 refine TM.ini.ok jQ (λvs H Q E h=>?_) (λcdv A outer s H vs Q E hr h=>?_)
 .obtain ⟨e,wl,tl,part,xs,ys,rfl,_⟩:=h;rfl
 .obtain ⟨e,wl,tl,part,xs,ys,rfl,he,hw,ht,q⟩:=h;refine(_,(a_b (b_j (mi TM.bi TM.kR (pq2 (pv 0) bB))) (a_b ((dy (f:=Q7) rfl (pv 0) (a_E e_z (by rfl) tlist boot_list (pq1 (pv 1))) rfl)) (a_b ((dy (f:="tails") rfl (pv 0) (a_E e_z (by rfl) tlist boot_list (pq1 (pv 2))) rfl)) (a_f ((dy (f:="part") rfl (pv 0) (pv 3) rfl)))))),?_);refine(_,rfl,e,cTM,fX,_,rfl,he,TM.own,?_);refine(_,rfl,wl,xs,rfl,.inl (SqL.of hw),λl hl=>(_,rfl,e,cTM,rfl,TM.xc,TM.na1,.inl (a_i he hl,λd hd hde=>?_)));have le:l≠e:=λz=>by rw[z,he]at hl;cases hl
  have hd0:H d=none:=by
   by_cases z:d=l
   .rw [z];exact hl
   .rw [upd_ne z]at hd;exact hd
  have k1:∀b o,b≠e->H b=some o->L2.upd (L2.upd (L2.upd H l (.lst xs)) e (excD e cTM (some d))) d (dctD d [(Q7,.ref l,)]) b=some o:=λb o hb z=>by
   rw[upd_ne (ne_of_none z hd0),upd_ne hb,upd_ne (ne_of_none z hl)];exact z
  have e1:L2.upd (L2.upd (L2.upd H l (.lst xs)) e (excD e cTM (some d))) d (dctD d [(Q7,.ref l,)]) e=some (excD e cTM (some d)):=by rw[upd_ne (Ne.symm hde),a_c]
  have d1:L2.upd (L2.upd (L2.upd H l (.lst xs)) e (excD e cTM (some d))) d (dctD d [(Q7,.ref l,)]) d=some (dctD d [(Q7,.ref l,)]):=a_c;have etl:tl≠e:=λz=>by rw[z,he]at ht;cases ht
  generalize L2.upd (L2.upd (L2.upd H l (.lst xs)) e (excD e cTM (some d))) d (dctD d [(Q7,.ref l,)])=H1 at k1 e1 d1;refine(_,rfl,tl,ys,rfl,.inl (SqL.of (k1 _ _ etl ht)),λl2 hl2=>(_,rfl,e,cTM,rfl,TM.xc,TM.na2,.inr (d,_,a_i e1 hl2,a_i d1 hl2,by show 1<1000;decide,?_)));refine(_,rfl,_,rfl,e,cTM,rfl,TM.xc,TM.na3,.inr (d,_,by rw[upd_ne (Ne.symm hde)];exact a_i e1 hl2,a_c,by show 2<1000;decide,?_));refine q _ d (λb o hb z=>?_) ?_
  .have h1:b≠d:=ne_of_none z hd0;have h2:b≠l2:=ne_of_none (k1 b o hb z) hl2;rw[upd_ne h1,upd_ne h1,upd_ne h2];exact k1 b o hb z
  .rw [upd_ne (Ne.symm hde),upd_ne (Ne.symm hde)];exact a_i e1 hl2
abbrev s_g:Stmt:=(a_e a_h).getD 0 (.Pass (0,0,0,0))
abbrev s_m:Stmt:=(a_e a_h).getD 1 (.Pass (0,0,0,0))
abbrev q_g:Str:="walked_machine.<locals>.goals_of"
abbrev q_m:Str:="walked_machine.<locals>.is_marked"
def e_E(s:Stmt):Pos:=match s with
 |.FunctionDef _ _ _ _ _ _ _ _ _ p=>p
 |_=>(0,0,0,0)
def sites:List (Pos×Str):=[(e_E s_g,q_g,),(e_E s_m,q_m,)]
theorem rE:a_B [Z8,Q0] [Z8] [Q0] (a_a s_g):=(rfl,rfl,rfl,by decide +kernel,rfl,rfl,by decide,by decide +kernel,by decide +kernel)
theorem rD:a_B [Z8,Q0] [Z8] [Q0] (a_a s_m):=(rfl,rfl,rfl,by decide +kernel,rfl,rfl,by decide,by decide +kernel,by decide +kernel)
section
variable{P:Program}{w:World}{K:Frag}{mg:Str->Option Value}{base:Heap}{f c m:Addr}{clos:List (Str×Addr)}{doc pm ctv:Value}{L:LN}{W:LL}{B:List Bool}
theorem qm(ho:base.get? f=some (fnMade Z7 q_g (a_g s_g) (a_e s_g) (a_a s_g) clos doc pm c ctv))(hcd:base.CodeRec (.ref c) q_g)(C:a_w base clos (a_a s_g) [Q0] [.ref m])(hMa:Mach L W B):aa P w K mg base CX0 1 f (PySem.W.fnX Z7 q_g (a_g s_g) (a_e s_g) (a_a s_g) clos .none .none doc pm none (.ref c) ctv) [Z8] (d_k .i L (gW W) (uW W) λH=>a_n H m L W B):=by
 refine d_j (fvs:=[.ref m]) ho rfl hcd rE C (λvs H Q E h=>?_) (λA outer s H vs Q E hr h=>?_)
 .obtain ⟨k,v,rfl,_⟩:=h;rfl
 .obtain ⟨k,v,rfl,hv,hU,hM,q⟩:=h;refine(_,(a_f (a_k (xqT (xqV 1) (pv 0)))),?_);obtain⟨n,rfl,hn⟩:=bq hU;unfold ThV at hv;rw[if_pos rfl]at hv;obtain⟨n',e,rfl⟩:=hv;injection e with e;subst e;obtain⟨wy,mk,rows,h1,h2,h3,h4,h5⟩:=hM;obtain⟨rr,hrr⟩:∃rr,rows[n]?=some rr:=(rows[n]'(by rw[h4];exact hn),qa2 _);obtain⟨ws,e5,e6⟩:=h5 _ _ hrr;have hws:=hMa.row ws (qb2 e5);refine(ivT h1 aF (_,rfl,iqT h2 (b_a V.ref hrr) ?_));refine q rr (intsV ws) H (Same.refl H) (.inl e6) (by rw[intsV_len];exact hws.1) λj x hx=>?_;unfold ThV;rw[if_pos rfl];rw[intsV,qa6]at hx;cases hj:ws[j]? with
  |none=>rw[hj]at hx;cases hx
  |some z=>
   rw[hj]at hx;cases hx;refine(z,?_,rfl);show[(W.getD n []).getD j 0]=[z];have e7:W.getD n []=ws:=by
    rw[qa3,e5];rfl
   rw[e7,qa3,hj];rfl
theorem ql(ho:base.get? f=some (fnMade Q9 q_m (a_g s_m) (a_e s_m) (a_a s_m) clos doc pm c ctv))(hcd:base.CodeRec (.ref c) q_m)(C:a_w base clos (a_a s_m) [Q0] [.ref m])(hMa:Mach L W B):aa P w K mg base CX0 1 f (PySem.W.fnX Q9 q_m (a_g s_m) (a_e s_m) (a_a s_m) clos .none .none doc pm none (.ref c) ctv) [Z8] (e_X .i (mkW B) (uW W) λH=>a_n H m L W B):=by
 refine d_j (fvs:=[.ref m]) ho rfl hcd rD C (λvs H Q E h=>?_) (λA outer s H vs Q E hr h=>?_)
 .obtain ⟨k,v,rfl,_⟩:=h;rfl
 .obtain ⟨k,v,rfl,hv,hU,hM,q⟩:=h;refine(_,(a_f (a_k (xqT (xqV 1) (pv 0)))),?_);obtain⟨n,rfl,hn⟩:=bq hU;unfold ThV at hv;rw[if_pos rfl]at hv;obtain⟨n',e,rfl⟩:=hv;injection e with e;subst e;obtain⟨wy,mk,rows,h1,h2,h3,h4,h5⟩:=hM;have hB:B[n]?=some (B.getD n false):=by
   rw[qa3,qa2 (by rw[hMa.bl];exact hn)];rfl
  exact(ivT h1 bP (_,rfl,iqT h3 (b_a V.bl hB) (q H (Same.refl H))))
end
theorem a_y:a_m [Q0,Z7,Q9] [Q0] (a_a a_h):=fsc
theorem c_r{kV doc pm cdv ct ocD:Value}(lD:K.lookup tD=some (ocD,odD,.seq #[.none] nD,slD)):b_q K (fnOf "walked" "walked" (a_g a_o) (a_e a_o) (a_a a_o) (.ref tD) kV doc pm an cdv ct) [Q4,"start",Z7,Q9,"most"] [.none]:=λs us hK hl=>by
 have hl4:us.length=4:=by simpa using hl
 obtain⟨a,b,c,d,rfl⟩:=ln4 hl4;exact BindsTo.of_defaults rfl (hK _ _ lD) rfl rfl rfl
theorem f_A(Wd:f_C X U σ H base')(sub:∀y a,clos.lookup y=some a->X.env.cells.lookup y=some a)(has:∀y∈sc.names,y.2=.free->∃a,clos.lookup y.1=some a)(hN:X.N[0]?=some Q0)(hσ:σ[0]?=some (some (.ref m)))(hc:X.env.scope.names.lookup Q0=some .cell)(hf:sc.names.lookup Q0=some .free)(hm:((Q0:Str),NameKind.free,)∈sc.names):a_w base' clos sc [Q0] [.ref m]:=by
 refine(λy z c h1 h2=>Wd.inj y z c (sub y c h1) (sub z c h2),has,λy c h=>Wd.cell y c (sub y c h),rfl,λi y v h1 h2=>?_);match i,h1,h2 with
 |0,h1,h2=>
  cases h1;cases h2;obtain⟨a,ha⟩:=has _ hm rfl;obtain⟨c,u,e1,e2,e3⟩:=Wd.val 0 Q0 (.ref m) hN hσ hc;have e4:=sub _ _ ha;rw[e1]at e4;cases e4;exact(hf,_,u,ha,e2,e3)
 |i+1,h1,_=>simp at h1
set_option maxHeartbeats 8000000 in
theorem ok_wmach{P:Program}{w:World}{oc kV doc pm ct oc2 kV2 doc2 pm2 cdv2 ct2 ocD:Value}(lk:K.lookup f=some (oc,od,.func (fnOf "walked_machine" "walked_machine" (a_g a_h) (a_e a_h) (a_a a_h) .none kV doc pm an (.ref c) ct),osl))(hcd:codeIn K (.ref c) "walked_machine"=true)(lw:K.lookup fw=some (oc2,od2,.func (fnOf "walked" "walked" (a_g a_o) (a_e a_o) (a_a a_o) (.ref tD) kV2 doc2 pm2 an2 cdv2 ct2),osl2))(cw:codeIn K cdv2 "walked"=true)(kw:keepIn K (.ref fw)=true)(mw:mg "walked"=some (.ref fw))(lD:K.lookup tD=some (ocD,odD,.seq #[.none] nD,slD))(WT:WkT K mg cW fI fdI)(tlen:mg "len"=none)(tzip:mg "zip"=none)(hC:CodeHd base c P0)(hB:d_g base mg):aa P w K mg base CX0 6 f (fnOf "walked_machine" "walked_machine" (a_g a_h) (a_e a_h) (a_a a_h) .none kV doc pm an (.ref c) ct) [Q0] (g_h cW P0 sites):=by
 refine dQ lk hcd a_y (λvs H Q E h=>?_) (λA outer s H vs Q E hr h=>?_)
 .obtain ⟨m,L,W,B,rfl,_⟩:=h;rfl
 .obtain ⟨m,L,W,B,rfl,hM,hMa,hT,q⟩:=h;refine(_,(a_b ((b_S (i:=1) (qual:=q_g) (c:=c) (P0:=P0) (sites:=sites) a_y.nd rfl (Or.inl rfl) rfl hC hB (by decide +kernel) (by decide +kernel))) (a_b ((b_S (i:=2) (qual:=q_m) (c:=c) (P0:=P0) (sites:=sites) a_y.nd rfl (Or.inl rfl) rfl hC hB (by decide +kernel) (by decide +kernel))) (a_f (a_k (e_n (dvs:=[.non]) rfl mw kw (c_r (kV:=kV2) (doc:=doc2) (pm:=pm2) (an:=an2) (cdv:=cdv2) (ct:=ct2) lD) (.cons rfl .nil) (a_T (xqV 0) (pq3 pe_int (pv 1) (pv 2))) (λ_=>rfl)))))),?_);refine(hT,λclos1 f1 c1 H1 sub1 has1 fr1 ne1 s1 hT1 hc1 hf1=>(hT1,λclos2 f2 c2 H2 sub2 has2 fr2 ne2 s2 hT2 hc2 hf2=>?_));have s12:c_A P0 H H2:=b_s s1 s2;have hM2:a_n H2 m L W B:=hM.tups (a_V s12 hT);obtain⟨ps1,hP1,_⟩:=id hT1;obtain⟨ps2,hP2,ht2,hall2⟩:=id hT2;have nP:∀{b:Addr}{φ:Heap->Prop},H1 b=some (.ext φ)->b≠P0:=λ{b φ}e z=>by rw[z,hP1]at e;cases e
  have hf1':H2 f1=some (fnHO f1 Z7 q_g (a_g s_g) (a_e s_g) (a_a s_g) clos1 c1):=s2 f1 _ (nP hf1) hf1;have hc1':H2 c1=some (codeHO c1 q_g):=s2 c1 _ (nP hc1) hc1;have hf2':H2 f2=some (fnHO f2 Q9 q_m (a_g s_m) (a_e s_m) (a_a s_m) clos2 c2):=hf2;have hM3:=hM2;obtain⟨wy,mk,rows,h1,h2,h3,h4,h5⟩:=hM2;have hUx:∀u∈[f1,f2,c1,c2],∃φ,H2 u=some (.ext φ):=λu hu=>by
   simp only[mem_cons,not_mem_nil,or_false]at hu;rcases hu with rfl|rfl|rfl|rfl
   .exact (_,hf1')
   .exact (_,hf2')
   .exact (_,hc1')
   .exact (_,hc2)
  refine(ivT h1 aK (_,rfl,_,rfl,[f1,f2,c1,c2],hUx,λbase' Wd=>?_));obtain⟨doc1,pm1,ctv1,eb1⟩:=Wd.ext f1 _ (by simp) hf1';obtain⟨doc3,pm3,ctv3,eb2⟩:=Wd.ext f2 _ (by simp) hf2';have cd1:base'.CodeRec (.ref c1) q_g:=Wd.ext c1 _ (by simp) hc1';have cd2:base'.CodeRec (.ref c2) q_m:=Wd.ext c2 _ (by simp) hc2;have C1:=f_A (sc:=a_a s_g) (m:=m) Wd sub1 has1 rfl rfl rfl rfl (by decide +kernel);have C2:=f_A (sc:=a_a s_m) (m:=m) Wd sub2 has2 rfl rfl rfl rfl (by decide +kernel);have Fw:eC K "walked" "walked" a_o fw _:=((oc2,od2,.ref tD,kV2,doc2,pm2,an2,cdv2,ct2,osl2,rfl,lw,cw),kw);refine(5,b_O cW .i L (gW W) (mkW B) (uW W) (λH=>a_n H m L W B) f1 f2,hr,c_n Fw WT tlen tzip ((qm eb1 cd1 C1 hMa).mono (by decide)) ((ql eb2 cd2 C2 hMa).mono (by decide)) eb1 (_,rfl) eb2 (_,rfl) (.all λus hl=>by obtain⟨_,rfl⟩:=ln1 hl;rfl) (.all λus hl=>by obtain⟨_,rfl⟩:=ln1 hl;rfl) (λ_ _ s h=>h.same s),?_);have keepT:∀{b:Addr}{o:HO},H2 b=some o->(∀φ,o≠.ext φ)->b∉[f1,f2,c1,c2]:=λ{b o}e ho hb=>by
   obtain⟨φ,e2⟩:=hUx b hb;rw[e]at e2;exact ho φ (Option.some.inj e2)
  have n60:=hMa.n60;refine([0],.int 0,none,rfl,hMa.lt,?_,gL.mpr hMa.n1,pj hMa,by rw[c9];omega,hM3.tups λb xs e=>by rw[a_q (keepT e (λ_ z=>nomatch z))];exact e,λwk t wd y md ks vks ws rows' R Bm H3 sm3 hW ht hth hwd hy hwr hmd bf ways bl mks sub le he hU3=>?_)
  .unfold ThV;rw[if_pos rfl];exact(0,rfl,rfl)
  have hR:R.length=ks.length:=by
   rcases he with z|⟨n,z,_⟩
   .exact z
   .cases z
  have out:∀{b:Addr}{o:HO},H3 b=some o->retr [f1,f2,c1,c2] H2 H3 b=some o:=λ{b o}e=>by
   rw[a_O λhb=>?_]
   .exact e
   .rw [hU3 b hb]at e;cases e
  have fwd:∀{b:Addr}{o:HO},H2 b=some o->retr [f1,f2,c1,c2] H2 H3 b=some o:=λ{b o}e=>by
   by_cases hb:b∈[f1,f2,c1,c2]
   .rw [c_I hb];exact e
   .exact out (sm3 b o (by rw[a_q hb];exact e))
  rw[hR]at bf;obtain⟨dx,ew⟩:=hW.ex;exact q wk t wd y md ks vks ws rows' R Bm _ (λb o hb e=>fwd (s12 b o hb e)) (ps2,fwd hP2,ht2,λx hx=>(hall2 x hx).imp id λhZ2=>by obtain⟨c',e1,e2⟩:=hZ2;exact(c',e1,fwd e2)) (dx,out ew) (out ht) (hth.same λb xs e=>out e) (out hwd) (out hy) (hwr.1,λi a r e1 e2=>out (hwr.2 i a r e1 e2)) (out hmd) bf ways hR bl mks sub (by rw[c9]at le;exact le)
abbrev e_m:Stmt:=top 2
abbrev d_o:Stmt:=top 3
abbrev d_n:Stmt:=top 1
abbrev c_u:Stmt:=top 4
abbrev c_e:Stmt:=top 5
abbrev g_r:Stmt:=top 6
abbrev e_l:Stmt:=top 36
abbrev hV:Stmt:=top 35
abbrev a_Z:Stmt:=top 12
abbrev du:Stmt:=top 18
abbrev c_G:Stmt:=top 20
abbrev g_p:Stmt:=top 33
abbrev c_H:Stmt:=top 34
abbrev c_F:Stmt:=top 21
abbrev f_c:Stmt:=top 28
abbrev g_o:Stmt:=top 31
abbrev c_h:Stmt:=top 38
abbrev c_g:Stmt:=top 39
abbrev c_f:Stmt:=top 40
abbrev b_t:Stmt:=top 41
abbrev d_q:Stmt:=top 42
abbrev b_u:Stmt:=top 43
abbrev b_h:Stmt:=top 44
abbrev d_p:Stmt:=top 45
abbrev g_q:Stmt:=top 46
structure Txt(K:Frag)(mg:Str->Option Value)(cA_ cG_:Addr):Prop where
 kA_:mg "RoomError"=some (.ref cA_)
 kG_:mg "OtherLetters"=some (.ref cG_)
 oG_:OwnX K cG_
 eG_:nV K cG_
 mG_:exmOne K (.ref cG_) (.ref cA_)=some true
 iGG_:kitOne K (.ref cG_) (.ref cG_)=some true
 vG_:kitOne K (.ref cG_) (.type "ValueError")=some true
 len:mg "len"=none
 range:mg "range"=none
 isinst:mg "isinstance"=none
 int:mg "int"=none
 bool:mg "bool"=none
 tuple:mg "tuple"=none
 list:mg "list"=none
 str:mg "str"=none
 zip:mg "zip"=none
 enumerate:mg "enumerate"=none
 reversed:mg "reversed"=none
 max:mg "max"=none
 all:mg "all"=none
 any:mg "any"=none
 set:mg "set"=none
 sorted:mg "sorted"=none
 most:∃t,mg "MOST_ROOMS"=some (.int 8 t)
def sp_numbered:Sp:=λvs H Q _=>∃(a:Addr)(o:HO)(xs:List V)(ks:List KS)(nest:Bool),vs=[.ref a]/\(o=.lst xs\/o=.tup xs)/\H a=some o/\xs.length=ks.length/\ks.length≤2100/\(∀(i:Nat)(k:KS)(x:V),ks[i]?=some k->xs[i]?=some x->gF H k x/\isN k=nest)/\∀p H',Same H H'->H' p=some (.lst (intsV (ao ks)))->Q (.ref p) H'
def sp_manyM:Sp:=λvs H Q _=>∃(a:Addr)(ns:LN),vs=[.ref a]/\H a=some (.lst (intsV ns))/\0<ns.length/\∀M∈ns,(∀x∈ns,x≤M)->Q (.int ((M:Int)+1)) H
def sp_roundsG:Sp:=λvs H Q _=>∃(wy mk:Addr)(rows:List Addr)(o om:HO)(L:LN)(W:LL)(B:List Bool)(most:Nat),vs=[.ref wy,.ref mk,.int (most:Int)]/\(o=.lst (rows.map V.ref)\/o=.tup (rows.map V.ref))/\H wy=some o/\(om=.lst (B.map V.bl)\/om=.tup (B.map V.bl))/\H mk=some om/\rows.length=W.length/\pN H rows W/\Mach L W B/\
 ∀(p:Addr)(lots:List Addr)(k:Nat)(H':Hp),Same H H'->H' p=some (.lst (lots.map V.ref))->lots.length=k+1->f_E H' lots W B->(Rd W B (k+1)=Rd W B k\/∃M∈Rd W B k,most<M+1)->k≤4410000->Q (.ref p) H'
def sp_firstrooms:Sp:=λvs H Q _=>∃(a:Addr)(ns:LN),vs=[.ref a]/\H a=some (.lst (intsV ns))/\0<ns.length/\ns.length≤2100/\(∀x∈ns,x<2100)/\(∀(M j:Nat),M∈ns->j≤M->j∈ns)/\
 ∀(m:Nat)(p:Addr)(H':Hp),aL ns m->Same H H'->H p=none->H' p=some (.lst (intsV ((List.range m).map λj=>ns.idxOf j)))->Q (.ref p) H'
def sp_pwordL:Sp:=λvs H Q _=>∃(wy p:Addr)(rows lots:List Addr)(L:LN)(W:LL)(B:List Bool)(k r s:Nat),vs=[.str (tx L),.ref wy,.ref p,.int (r:Int),.int (s:Int)]/\H wy=some (.lst (rows.map V.ref))/\d_e H rows W/\Mach L W B/\H p=some (.lst (lots.map V.ref))/\lots.length=k+1/\f_E H lots W B/\lot W B k r≠lot W B k s/\k≤4410000/\r<W.length/\s<W.length/\
 ∀w H',Same H H'->Q (.str (tx w)) H'
structure WkK(K:Frag)(cW:Addr):Prop where
 cls:Cls K cW
 na1:a_A K cW Q4
 na4:a_A K cW Y0
 na5:a_A K cW "marks"
def e_W(cW:Addr):Sp:=λvs H Q _=>∃(wk t wd y md lo:Addr)(rows:List Addr)(L:LN)(R:LL)(Bm:List Bool)(k:Nat),vs=[.ref wk,.ref lo]/\e_e H cW wk L t wd y md/\H y=some (.lst (rows.map V.ref))/\d_e H rows R/\H md=some (.lst (Bm.map V.bl))/\Mach L R Bm/\H lo=some (.lst (intsV (Rd R Bm k)))/\
 ∀(m:Nat)(f:Addr)(H':Hp),aL (Rd R Bm k) m->Same H H'->H f=none->a_n H' f L (a_N R (Rd R Bm k) m) (d_d Bm (Rd R Bm k) m)->Q (.ref f) H'
def eU(cW:Addr):Sp:=λvs H Q _=>∃(wk t wd y md p rm:Addr)(rows lots:List Addr)(L:LN)(R:LL)(Bm:List Bool)(k:Nat)(rs:LN),vs=[.ref wk,.ref p,.ref rm]/\e_e H cW wk L t wd y md/\H y=some (.lst (rows.map V.ref))/\d_e H rows R/\Mach L R Bm/\H p=some (.lst (lots.map V.ref))/\lots.length=k+1/\f_E H lots R Bm/\k≤4410000/\
 H rm=some (.lst (intsV rs))/\rs.length≤9/\(∀r∈rs,r<R.length)/\(∀(i j a b:Nat),i<j->rs[i]?=some a->rs[j]?=some b->lot R Bm k a≠lot R Bm k b)/\∀tl xs H',Same H H'->H' tl=some (.lst xs)->Q (.ref tl) H'
def c_s(cW cTM:Addr):Sp:=λvs H Q E=>∃(wk t wd y md:Addr)(rows:List Addr)(L:LN)(R:LL)(Bm:List Bool)(ws:LL),vs=[.ref wk]/\e_e H cW wk L t wd y md/\H y=some (.lst (rows.map V.ref))/\d_e H rows R/\H md=some (.lst (Bm.map V.bl))/\H wd=some (.lst (b_L ws))/\ws.length=R.length/\Mach L R Bm/\(∀i,i<R.length->∃w:LN,(∀c∈w,c∈L)/\run L R 0 w=i)/\(∀H',Same H H'->(∀(W0:LL)(B0:List Bool),Mach L W0 B0->(∀u:LN,(∀c∈u,c∈L)->B0.getD (run L W0 0 u) false=Bm.getD (run L R 0 u) false)->8<W0.length)->E (.ref cTM) none H')/\
 ∀(m k:Nat)(f:Addr)(H':Hp),aL (Rd R Bm k) m->Rd R Bm (k+1)=Rd R Bm k->m≤8->Same H H'->H f=none->a_n H' f L (a_N R (Rd R Bm k) m) (d_d Bm (Rd R Bm k) m)->Q (.ref f) H'
def c_t(cOL:Addr):Sp:=λvs H Q E=>∃(m m2:Addr)(L L':LN)(W:LL)(B:List Bool)(W2:LL)(B2:List Bool),vs=[.ref m,.ref m2]/\a_n H m L W B/\Mach L W B/\a_n H m2 L' W2 B2/\Mach L' W2 B2/\(L≠L'->E (.ref cOL) none H)/\(L=L'->Q .non H)
def d_C(P0:Addr)(sites:List (Pos×Str)):Sp:=λvs H Q _=>∃(m:Addr)(L:LN)(W:LL)(B:List Bool),vs=[.ref m]/\a_n H m L W B/\Mach L W B/\b_G H P0 sites/\
 ∀(f:Addr)(W':LL)(B':List Bool)(H':Hp),c_A P0 H H'->b_G H' P0 sites->a_n H' f L W' B'->b_v L W B W' B'->Q (.ref f) H'
def di(K:Frag):Sp:=λvs H Q _=>∃(a:Addr)(ns:List Int)(k:Int),vs=[.ref a,.int k]/\SqL K H a (ns.map V.int)/\0≤k/\∀z,Q (.int z) H
def sp_letters:Sp:=λvs H Q _=>∃(c:Int),vs=[.int c]/\∀L,Let L->Q (.str (tx L)) H
def f_O(K:Frag):Sp:=λvs H Q _=>∃(a:Addr)(ns:List Int)(p:Int)(n:Nat)(L:LN),vs=[.ref a,.int p,.int (n:Int),.str (tx L)]/\SqL K H a (ns.map V.int)/\0≤p/\1≤n/\n≤60/\Let L/\
 ∀(m:Addr)(W:LL)(B:List Bool)(H':Hp),Same H H'->a_n H' m L W B->Mach L W B->W.length=n->Q (.ref m) H'
def sp_ismach:Sp:=λvs H Q _=>∃(m:Addr)(L:LN)(W:LL)(B:List Bool),vs=[.ref m,.str (tx L)]/\a_n H m L W B/\Mach L W B/\∀H',Same H H'->Q (.bl true) H'
def e_V(d:Nat):Sp:=λvs H Q _=>∃x y,vs=[x,y]/\eB H d x y/\Q (.bl true) H
def e_j(cTM:Addr)(ts:List (Addr×List (Pos×Str))):Sp:=λvs H Q E=>∃(k:Int)(a b c:Addr)(L:LN)(Wa Wb Wc:LL)(Ba Bb Bc:List Bool),vs=[.int k,.ref a,.ref b,.ref c]/\Mc H a L Wa Ba/\Mc H b L Wb Bb/\Mc H c L Wc Bc/\gG ts H/\(∀d H',KT ts H H'->E (.ref cTM) d H')/\
 ∀(l f g:Addr)(W:LL)(B:List Bool)(H':Hp),KT ts H H'->H' l=some (.lst [.ref f,.ref g])->Mc H' f L W B->Mc H' g L W B->Q (.ref l) H'
def eV(ts:List (Addr×List (Pos×Str))):Sp:=λvs H Q _=>∃(k:Int)(a b c:Addr)(L:LN)(Wa Wb Wc:LL)(Ba Bb Bc:List Bool),vs=[.int k,.ref a,.ref b,.ref c]/\Mc H a L Wa Ba/\Mc H b L Wb Bb/\Mc H c L Wc Bc/\gG ts H/\(∀H',KT ts H H'->Q .non H')/\
 ∀(l f g:Addr)(W:LL)(B:List Bool)(H':Hp),KT ts H H'->H' l=some (.lst [.ref f,.ref g])->Mc H' f L W B->Mc H' g L W B->Q (.ref l) H'
section
variable{P:Program}{w:World}{K:Frag}{mg:Str->Option Value}{base:Heap}{P0 PT cW cTM:Addr}{ts:List (Addr×List (Pos×Str))}{tabs:List (Addr×Addr)}{cA_ cG_:Addr}
end
namespace Tu
def sp_rinto:Sp:=λvs H Q _=>∃(m st:Addr)(L:LN)(W:LL)(B:List Bool)(j:Nat)(S:LN),vs=[.ref m,.int (j:Int),.ref st]/\a_n H m L W B/\Mach L W B/\j<L.length/\H st=some (.tup (intsV S))/\∀p H',Same H H'->H' p=some (.tup (intsV (g_F W S j)))->Q (.ref p) H'
def sp_wturn(cW P1:Addr)(sites:List (Pos×Str)):Sp:=λvs H Q _=>∃(m:Addr)(L:LN)(W:LL)(B:List Bool),vs=[.ref m]/\a_n H m L W B/\Mach L W B/\W.length≤8/\b_G H P1 sites/\
 ∀(wk t wd y md:Addr)(ks:LL)(ws:LL)(rows:List Addr)(R:LL)(Bm:List Bool)(H':Hp),c_A P1 H H'->b_G H' P1 sites->e_e H' cW wk L t wd y md->H' wd=some (.lst (b_L ws))->H' y=some (.lst (rows.map V.ref))->d_e H' rows R->H' md=some (.lst (Bm.map V.bl))->
  Bf (g_F W) L (markR W B) ks ws ks.length 0->b_C (g_F W) L.length ks R->R.length=ks.length->Bm.length=R.length->(∀(r:Nat)(k:LN)(b:Bool),ks[r]?=some k->Bm[r]?=some b->b=mW k)->ks.length≤256->Q (.ref wk) H'
abbrev s_walked_turned:Stmt:=top 22
abbrev am:Stmt:=(a_e s_walked_turned).getD 0 (.Pass (0,0,0,0))
abbrev q_tg:Str:="walked_turned.<locals>.goals_of"
abbrev q_tl:Str:="walked_turned.<locals>.<lambda>"
abbrev dU:Expr:=match (a_e s_walked_turned).getD 2 (.Pass (0,0,0,0))with
 |.Return (some (.Call _ [_,_,_,l] _ _)) _=>l
 |_=>.Name "" (0,0,0,0)
abbrev e_x:Arguments:=match dU with|.Lambda a _ _ _=>a|_=>([],[],none,[],[],none,[])
abbrev e_w:Expr:=match dU with|.Lambda _ b _ _=>b|_=>.Name "" (0,0,0,0)
abbrev l_scope:Scope:=match dU with|.Lambda _ _ s _=>s|_=>a_a am
abbrev fz:Pos:=match dU with|.Lambda _ _ _ p=>p|_=>(0,0,0,0)
def sitesT:List (Pos×Str):=[(e_E am,q_tg,),(fz,q_tl,)]
theorem iX:e_Q ["state",Q0] "state" [Q0] (a_a am):=(rfl,rfl,rfl,by decide +kernel,rfl,rfl,by decide,rfl,by decide +kernel,λ_ _=>rfl,λ_=>rfl)
theorem ly:a_B ["state"] ["state"] [] l_scope:=(rfl,rfl,rfl,by decide +kernel,rfl,rfl,by decide,by decide +kernel,by decide +kernel)
section
variable{P:Program}{w:World}{K:Frag}{mg:Str->Option Value}{base:Heap}{f c m:Addr}{clos:List (Str×Addr)}{doc pm ctv:Value}{L:LN}{W:LL}{B:List Bool}
theorem my(ho:base.get? f=some (fnMade Z7 q_tg (a_g am) (a_e am) (a_a am) clos doc pm c ctv))(hcd:base.CodeRec (.ref c) q_tg)(C:a_w base clos (a_a am) [Q0] [.ref m])(hMa:Mach L W B)(tlen:mg "len"=none)(trange:mg "range"=none)(yU:Df P w K mg base "rooms_into" 1 [Q0,Z1,Q5] sp_rinto):aa P w K mg base CX0 2 f (PySem.W.fnX Z7 q_tg (a_g am) (a_e am) (a_a am) clos .none .none doc pm none (.ref c) ctv) ["state"] (d_k .t L (g_F W) (bR W.length) λH=>a_n H m L W B):=by
 refine fn_ofD (fvs:=[.ref m]) ho rfl hcd iX C (λvs H Q E h=>?_) (λA outer s H v0 Q E hr h=>?_)
 .obtain ⟨k,v,rfl,_⟩:=h;rfl
 .obtain ⟨k,v,ev,hv,hU,hM,q⟩:=h;obtain rfl:v0=v:=by simpa using ev
  refine(_,(a_f (a_k (ca ["state",Q0] rfl (by decide) (b_B rfl trange (pq1 (a_I e_A (by rfl) tlen boot_len (pq1 (xqV 1))))) (λcl C fp s' H'=>(a_M,(a_H yU hr (pq3 (pv 2) (pv 0) (pv 1)))))))),?_);unfold ThV at hv;rw[if_neg (by decide)]at hv;obtain⟨b,rfl,hb⟩:=hv;have hL3:=hMa.lt.hi;have hz:(tx L).length≤sizeLine:=a_j (by rw[b_b];exact le_trans hL3 (by decide));obtain⟨wy,mk,rows,h1,h2,h3,h4,h5⟩:=id hM;dsimp only[eR];refine f_y (n:=L.length) (λR h=>(ivT h1 aK (_,rfl,hz,by rw[b_b];exact h))) (le_trans hL3 (by decide)) (λD j ys H'=>∃ts:List Addr,ys=ts.map V.ref/\ts.length=j/\∀(i:Nat)(a:Addr),ts[i]?=some a->H' a=some (.tup (intsV (g_F W k i)))) (λD hD=>([],rfl,rfl,λi a e=>by simp at e)) ?_ ?_
  .intro D j ys H' R1 R2 hD hj hsm hDl hp k1 k2;obtain⟨ts,rfl,htl,hts⟩:=hp;refine tAlways_if (_,rfl,_,rfl,_,rfl,m,b,L,W,B,j,k,?_,hM.same hsm,hMa,hj,hsm _ _ hb,λt H4 s4 ht=>?_)
   .rw [Int.zero_add];rfl
   have hD5:=s4 _ _ hDl;refine k1 (.ref t) _ hD5 (Same.set (hsm.trans s4) hD) (ts++[t],by rw[map_append];rfl,by rw[qa5,htl];rfl,λi u e=>?_);rcases b_l e with z|⟨rfl,rfl⟩
   .exact upd_keep2 (s4 _ _ (hts i u z)) hD5 (by intro z;cases z)
   .rw [htl];exact upd_keep2 ht hD5 (by intro z;cases z)
  .intro D ys H' hD hsm hDl hp;obtain⟨ts,rfl,htl,hts⟩:=hp;refine q D (ts.map V.ref) H' hsm (.inr (hD,hDl)) (by rw[qa4,htl]) λj x hx=>?_;rw[qa6]at hx;obtain⟨a,ha,rfl⟩:=qb3 hx;unfold ThV;rw[if_neg (by decide)];exact(a,rfl,hts j a ha)
theorem mv(ho:base.get? f=some (kla_obj "<lambda>" q_tl e_x e_w l_scope clos pm c ctv))(hcd:base.CodeRec (.ref c) q_tl)(C:a_w base clos l_scope [] [])(Rest:Hp->Prop)(U:LL):aa P w K mg base CX0 1 f (kla_fn "<lambda>" q_tl e_x e_w l_scope clos pm (.ref c) ctv) ["state"] (e_X .t mW U Rest):=by
 refine g_e (fvs:=[]) ho rfl hcd ly C (λvs H Q E h=>?_) (λA outer s H vs Q E hr h=>?_)
 .obtain ⟨k,v,rfl,_⟩:=h;rfl
 .obtain ⟨k,v,rfl,hv,hU,hM,q⟩:=h;refine(_,c_K cc pe_int (pv 0) (by with_unfolding_all rfl),?_);unfold ThV at hv;rw[if_neg (by decide)]at hv;obtain⟨b,rfl,hb⟩:=hv;refine(_,rfl,b,_,rfl,.inr (SqT.of hb),rfl,g_c _,?_);have e:inV (.int 0) (intsV k)=mW k:=g_G 0 k;show Q (.bl (inV (.int 0) (intsV k))) H;rw[e];exact q H (Same.refl H)
end
theorem b_D:a_m [Q0,Z7,"start"] [Q0] (a_a s_walked_turned):=fsc
theorem gw(Wd:f_C X U σ H base')(sub:∀y a,clos.lookup y=some a->X.env.cells.lookup y=some a)(has:∀y∈sc.names,y.2=.free->∃a,clos.lookup y.1=some a):a_w base' clos sc [] []:=
 (λy z c h1 h2=>Wd.inj y z c (sub y c h1) (sub z c h2),has,λy c h=>Wd.cell y c (sub y c h),rfl,λi y v h1 h2=>by simp at h1)
set_option maxHeartbeats 8000000 in
theorem ok_wturn{P:Program}{w:World}{oc kV doc pm ct oc2 kV2 doc2 pm2 cdv2 ct2 ocD:Value}(lk:K.lookup f=some (oc,od,.func (fnOf "walked_turned" "walked_turned" (a_g s_walked_turned) (a_e s_walked_turned) (a_a s_walked_turned) .none kV doc pm an (.ref c) ct),osl))(hcd:codeIn K (.ref c) "walked_turned"=true)(lw:K.lookup fw=some (oc2,od2,.func (fnOf "walked" "walked" (a_g a_o) (a_e a_o) (a_a a_o) (.ref tD) kV2 doc2 pm2 an2 cdv2 ct2),osl2))(cw:codeIn K cdv2 "walked"=true)(kw:keepIn K (.ref fw)=true)(mw:mg "walked"=some (.ref fw))(lD:K.lookup tD=some (ocD,odD,.seq #[.none] nD,slD))(WT:WkT K mg cW fI fdI)(tlen:mg "len"=none)(tzip:mg "zip"=none)(ttup:mg "tuple"=none)(trange:mg "range"=none)(tenum:mg "enumerate"=none)(hC:CodeHd base c P1)(hB:d_g base mg)(DR:∀base:Heap,Df P w K mg base "rooms_into" 1 [Q0,Z1,Q5] sp_rinto):aa P w K mg base CX0 6 f (fnOf "walked_turned" "walked_turned" (a_g s_walked_turned) (a_e s_walked_turned) (a_a s_walked_turned) .none kV doc pm an (.ref c) ct) [Q0] (sp_wturn cW P1 sitesT):=by
 refine dQ lk hcd b_D (λvs H Q E h=>?_) (λA outer s H vs Q E hr h=>?_)
 .obtain ⟨m,L,W,B,rfl,_⟩:=h;rfl
 .obtain ⟨m,L,W,B,rfl,hM,hMa,hW8,hT,q⟩:=h;refine(_,(a_b ((b_S (i:=1) (qual:=q_tg) (c:=c) (P0:=P1) (sites:=sitesT) b_D.nd rfl (Or.inl rfl) rfl hC hB (by decide +kernel) (by decide +kernel))) (a_b ((stS 2 b_D.nd (a_E a_x (by rfl) ttup boot_tuple (pq1 (d_L [Q0,Z7,"start"] rfl (by decide) (e_K rfl tenum (pq1 (xqV 0))) (λcl C fp s' H'=>(iY (b_r (pv 1)),pv 0))))))) (a_f (a_k (e_n (dvs:=[.non]) rfl mw kw (c_r (kV:=kV2) (doc:=doc2) (pm:=pm2) (an:=an2) (cdv:=cdv2) (ct:=ct2) lD) (.cons rfl .nil) (a_T (xqV 0) (pq3 (pv 2) (pv 1) (f_R (qual:=q_tl) (c:=c) (P0:=P1) (sites:=sitesT) rfl hC hB (by decide +kernel) (by decide +kernel)))) (λ_=>rfl)))))),?_);refine(hT,λclos1 f1 c1 H1 sub1 has1 fr1 ne1 s1 hT1 hc1 hf1=>?_);have hM1:a_n H1 m L W B:=hM.tups (a_V s1 hT);obtain⟨wy,mk,rows,h1,h2,h3,h4,h5⟩:=id hM1;have hbl:=hMa.bl;have hn60:=hMa.n60;dsimp only[c_x];dsimp only[tNext,aO,aG,d_b,b_o,tBM,tCB];refine e_y (c:=mk) (λR h=>(ivT h1 bP h)) (.inr rfl) h3 (λD i ys H'=>ys=intsV ((List.range i).filter λr=>B.getD r false)) (by rw[qa4,hbl];exact a_j (le_trans hn60 (by decide))) (λD hD=>rfl) ?_ ?_
  .intro D i x ys H' H3 R1 R2 hD hx hsm hDl hp hsm3 k1 k2;rw[qa6]at hx;obtain⟨b,hb,rfl⟩:=qb3 hx;have eb:B.getD i false=b:=by rw[qa3,hb];rfl
   refine(_,rfl,_,rfl,?_);cases b with
   |true=>
    refine au (_,rfl,k1 _ H3 (hsm3 _ _ hDl) (Same.set (hsm.trans hsm3) hD) ?_);rw[hp,filter_snoc,eb];exact(c_Y _ _).symm
   |false=>
    refine ag (k2 H3 (hsm.trans hsm3) (hsm3 _ _ hDl) ?_);rw[hp,filter_snoc,eb];simp
  intro D ys H2 hD hsm hDl hp;rw[qa4,hbl]at hp;subst hp;refine(D,_,rfl,.inl (SqL.of hDl,λst hst=>?_));have s2:Same H1 (L2.upd H2 st (.tup (intsV ((List.range W.length).filter λr=>B.getD r false)))):=hsm.trans (Same.upd hst);have hst3:L2.upd H2 st (.tup (intsV ((List.range W.length).filter λr=>B.getD r false))) st=some (.tup (intsV (markR W B))):=a_c;generalize L2.upd H2 st (.tup (intsV ((List.range W.length).filter λr=>B.getD r false)))=H3 at s2 hst3;have hT3:=b_X hT1 s2;refine(ivT (s2 _ _ h1) aK (_,rfl,_,rfl,hT3,λclos2 f2 c2 H4 sub2 has2 fr2 ne2 s4 hT4 hc2 hf2=>?_));obtain⟨ps1,hP1,_⟩:=id hT1;obtain⟨ps3,hP3,_⟩:=id hT3;obtain⟨ps4,hP4,ht4,hall4⟩:=id hT4;have nP:∀{b:Addr}{φ:Heap->Prop},H1 b=some (.ext φ)->b≠P1:=λ{b φ}e z=>by rw[z,hP1]at e;cases e
  have hf1':H4 f1=some (fnHO f1 Z7 q_tg (a_g am) (a_e am) (a_a am) clos1 c1):=s4 f1 _ (nP hf1) (s2 _ _ hf1);have hc1':H4 c1=some (codeHO c1 q_tg):=s4 c1 _ (nP hc1) (s2 _ _ hc1);have hM4:a_n H4 m L W B:=(hM1.same s2).tups (a_V s4 hT3);have hst4:H4 st=some (.tup (intsV (markR W B))):=a_V s4 hT3 _ _ hst3;have hUx:∀u∈[f1,f2,c1,c2],∃φ,H4 u=some (.ext φ):=λu hu=>by
   simp only[mem_cons,not_mem_nil,or_false]at hu;rcases hu with rfl|rfl|rfl|rfl
   .exact (_,hf1')
   .exact (_,hf2)
   .exact (_,hc1')
   .exact (_,hc2)
  refine([f1,f2,c1,c2],hUx,λbase' Wd=>?_);obtain⟨doc1,pm1,ctv1,eb1⟩:=Wd.ext f1 _ (by simp) hf1';obtain⟨pm3,ctv3,eb2⟩:=Wd.ext f2 _ (by simp) hf2;have cd1:base'.CodeRec (.ref c1) q_tg:=Wd.ext c1 _ (by simp) hc1';have cd2:base'.CodeRec (.ref c2) q_tl:=Wd.ext c2 _ (by simp) hc2;have C1:=f_A (sc:=a_a am) (m:=m) Wd sub1 has1 rfl rfl rfl rfl (by decide +kernel);have C2:=gw (sc:=l_scope) Wd sub2 has2;have Fw:eC K "walked" "walked" a_o fw _:=((oc2,od2,.ref tD,kV2,doc2,pm2,an2,cdv2,ct2,osl2,rfl,lw,cw),kw);refine(5,b_O cW .t L (g_F W) mW (bR W.length) (λH=>a_n H m L W B) f1 f2,hr,c_n Fw WT tlen tzip ((my eb1 cd1 C1 hMa tlen trange (DR base')).mono (by decide)) ((mv eb2 cd2 C2 _ _).mono (by decide)) eb1 (_,rfl) eb2 (_,rfl) (.all λus hl=>by obtain⟨_,rfl⟩:=ln1 hl;rfl) (.all λus hl=>by obtain⟨_,rfl⟩:=ln1 hl;rfl) (λ_ _ s h=>h.same s),?_);have keepT:∀{b:Addr}{o:HO},H4 b=some o->(∀φ,o≠.ext φ)->b∉[f1,f2,c1,c2]:=λ{b o}e ho hb=>by
   obtain⟨φ,e2⟩:=hUx b hb;rw[e]at e2;exact ho φ (Option.some.inj e2)
  refine(markR W B,.ref st,none,rfl,hMa.lt,?_,c_z _ _,λk hk q hq=>c_z _ _,le_trans (eT hW8) (by decide),hM4.tups λb xs e=>by rw[a_q (keepT e (λ_ z=>nomatch z))];exact e,λwk t wd y md ks vks ws rows' R Bm H5 sm5 hW ht hth hwd hy hwr hmd bf ways bl mks sub le he hU5=>?_)
  .unfold ThV;rw[if_neg (by decide)];exact(st,rfl,by show untr _ H4 st=_;rw[a_q (keepT hst4 (λ_ z=>nomatch z))];exact hst4)
  have hR:R.length=ks.length:=by
   rcases he with z|⟨n,z,_⟩
   .exact z
   .cases z
  have out:∀{b:Addr}{o:HO},H5 b=some o->retr [f1,f2,c1,c2] H4 H5 b=some o:=λ{b o}e=>by
   rw[a_O λhb=>?_]
   .exact e
   .rw [hU5 b hb]at e;cases e
  have fwd:∀{b:Addr}{o:HO},H4 b=some o->retr [f1,f2,c1,c2] H4 H5 b=some o:=λ{b o}e=>by
   by_cases hb:b∈[f1,f2,c1,c2]
   .rw [c_I hb];exact e
   .exact out (sm5 b o (by rw[a_q hb];exact e))
  rw[hR]at bf;obtain⟨dx,ew⟩:=hW.ex;exact q wk t wd y md ks ws rows' R Bm _ (λb o hb e=>fwd (s4 b o hb (s2 _ _ (s1 b o hb e)))) (ps4,fwd hP4,ht4,λx hx=>(hall4 x hx).imp id λhZ0=>by obtain⟨c',e1,e2⟩:=hZ0;exact(c',e1,fwd e2)) (dx,out ew) (out hwd) (out hy) (hwr.1,λi a r e1 e2=>out (hwr.2 i a r e1 e2)) (out hmd) bf ways hR bl mks (le_trans le (eT hW8))
end Tu
end K26
namespace K26
open PySem L2 RA
namespace A
def sp_lot(K:Frag):Sp:=λvs H Q _=>∃(p:Addr)(ns:LN),vs=[.ref p]/\SqL K H p (intsV ns)/\(∀x∈ns,x<8)/\∀t H',Same H H'->H' t=some (.tup (intsV (bF ns)))->Q (.ref t) H'
def sp_hasm:Sp:=λvs H Q _=>∃(m v:Addr)(o:HO)(L:LN)(W:LL)(B:List Bool)(k:LN),vs=[.ref m,.ref v]/\a_n H m L W B/\Mach L W B/\(o=.lst (intsV k)\/o=.tup (intsV k))/\H v=some o/\k.length≤60/\(∀x∈k,x<W.length)/\∀H',Same H H'->Q (.bl (k.any λr=>B.getD r false)) H'
def pz(B:List Bool)(n:Nat)(Rest:Hp->Prop):Sp:=λvs H Q _=>∃(p:Addr)(l:LN),vs=[.ref p]/\H p=some (.lst (intsV l))/\(∀x∈l,x<n)/\l.length≤50/\Rest H/\∀t H',Same H H'->aY .q H' (iG B l) t->Q (.ref t) H'
abbrev s_again:Stmt:=top 30
abbrev bc:Stmt:=(a_e s_again).getD 1 (.Pass (0,0,0,0))
abbrev aX:Stmt:=(a_e s_again).getD 2 (.Pass (0,0,0,0))
abbrev q_ae:Str:="again.<locals>.entered"
abbrev q_ag:Str:="again.<locals>.goals_of"
abbrev q_al:Str:="again.<locals>.<lambda>"
abbrev o6:Expr:=match (a_e s_again).getD 3 (.Pass (0,0,0,0))with
 |.Return (some (.Call _ [.Call _ [_,_,_,l] _ _] _ _)) _=>l
 |_=>.Name "" (0,0,0,0)
abbrev e_x:Arguments:=match o6 with|.Lambda a _ _ _=>a|_=>([],[],none,[],[],none,[])
abbrev e_w:Expr:=match o6 with|.Lambda _ b _ _=>b|_=>.Name "" (0,0,0,0)
abbrev l_scope:Scope:=match o6 with|.Lambda _ _ s _=>s|_=>a_a aX
abbrev fz:Pos:=match o6 with|.Lambda _ _ _ p=>p|_=>(0,0,0,0)
def sitesA:List (Pos×Str):=[(e_E bc,q_ae,),(e_E aX,q_ag,),(fz,q_al,)]
theorem rH:a_B [Q5,"piece"] [Q5] ["piece"] (a_a bc):=(rfl,rfl,rfl,by decide +kernel,rfl,rfl,by decide,by decide +kernel,by decide +kernel)
theorem rG:a_B ["state","entered","piece"] ["state"] ["entered","piece"] (a_a aX):=(rfl,rfl,rfl,by decide +kernel,rfl,rfl,by decide,by decide +kernel,by decide +kernel)
theorem rF:a_B ["state"] ["state"] [] l_scope:=(rfl,rfl,rfl,by decide +kernel,rfl,rfl,by decide,by decide +kernel,by decide +kernel)
section
variable{P:Program}{w:World}{K:Frag}{mg:Str->Option Value}{base:Heap}{f c m g:Addr}{clos:List (Str×Addr)}{doc pm ctv:Value}{L:LN}{W:LL}{B:List Bool}
theorem rZ(ho:base.get? f=some (fnMade "entered" q_ae (a_g bc) (a_e bc) (a_a bc) clos doc pm c ctv))(hcd:base.CodeRec (.ref c) q_ae)(C:a_w base clos (a_a bc) ["piece"] [.ref m])(hMa:Mach L W B)(h8:W.length≤8)(yc:Df P w K mg base "has_marked" 1 [Q0,Q5] sp_hasm)(yi:Df P w K mg base "lot_of" 1 [Q5] (sp_lot K)):aa P w K mg base CX0 2 f (PySem.W.fnX "entered" q_ae (a_g bc) (a_e bc) (a_a bc) clos .none .none doc pm none (.ref c) ctv) [Q5] (pz B W.length λH=>a_n H m L W B):=by
 refine d_j (fvs:=[.ref m]) ho rfl hcd rH C (λvs H Q E h=>?_) (λA outer s H vs Q E hr h=>?_)
 .obtain ⟨p,l,rfl,_⟩:=h;rfl
 .obtain ⟨p,l,rfl,hp,hlW,hl50,hM,q⟩:=h;refine(_,(a_b ((a_W (b_r (a_H yc hr (pq2 (pv 1) (pv 0)))) ((a_f (a_k (c_J (pq2 d_t (a_H yi hr (pq1 (a_K mq (pv 0) (a_D (pq1 pe_int)))))))))) (a_t))) (a_f (a_k (c_J (pq2 d_t (a_H yi hr (pq1 (pv 0)))))))),?_);refine(_,rfl,_,rfl,m,p,_,L,W,B,l,rfl,hM,hMa,.inl rfl,hp,le_trans hl50 (by decide),hlW,λH1 s1=>(_,rfl,?_));have a8:∀x∈l,x<8:=λx hx=>lt_of_lt_of_le (hlW x hx) h8;have two:2≤sizeLine:=a_j (by decide);unfold iG at q;cases ha:l.any (λr=>B.getD r false)with
  |true=>
   rw[if_pos ha]at q;refine au ?_;refine(_,rfl,a_j (by show 1≤16777216;decide),λzl hzl=>?_);have s2:=s1.trans (Same.upd (o:=.lst [.int 0]) hzl);have e2:=a_i (u:=.lst [.int 0]) (s1 _ _ hp) hzl;have e3:L2.upd H1 zl (.lst [.int 0]) zl=some (.lst [.int 0]):=a_c;generalize L2.upd H1 zl (.lst [.int 0])=H2 at s2 e2 e3;refine(p,zl,_,_,rfl,rfl,e2,e3,a_j (by rw[intsV_len];show l.length+1≤16777216;omega),λcl hcl=>?_);have s3:=s2.trans (Same.upd (o:=.lst (intsV l++[.int 0])) hcl);have e4:L2.upd H2 cl (.lst (intsV l++[.int 0])) cl=some (.lst (intsV (l++[0]))):=by rw[a_c,intsV,intsV,map_append];rfl
   generalize L2.upd H2 cl (.lst (intsV l++[.int 0]))=H3 at s3 e4;refine(cl,l++[0],rfl,SqL.of e4,λx hx=>?_,λt H4 s4 ht=>(two,λst hst=>q st _ (s3.trans (s4.trans (Same.upd hst))) (t,1,_,rfl,le_refl _,a_c,a_i ht hst)));rcases mem_append.mp hx with z|z
   .exact a8 x z
   .rw [qb1 z];decide
  |false=>
   rw[if_neg (by rw[ha];exact Bool.false_ne_true)]at q;refine ag (_,rfl,p,l,rfl,SqL.of (s1 _ _ hp),a8,λt H4 s4 ht=>(two,λst hst=>q st _ (s1.trans (s4.trans (Same.upd hst))) (t,0,_,rfl,zero_le _,a_c,a_i ht hst)))
theorem rY(ho:base.get? f=some (fnMade Z7 q_ag (a_g aX) (a_e aX) (a_a aX) clos doc pm c ctv))(hcd:base.CodeRec (.ref c) q_ag)(C:a_w base clos (a_a aX) ["entered","piece"] [.ref g,.ref m])(hMa:Mach L W B)(h8:W.length≤8)(yd:Df P w K mg base "lots_after" 1 [Q0,Q5] sp_lotsafter)(hg:base.get? g=some (oc,od,.func fd,sl))(hbd:b_q K fd [Q5] [])(R:aa P w K mg base CX0 2 g fd [Q5] (pz B W.length λH=>a_n H m L W B)):aa P w K mg base CX0 3 f (PySem.W.fnX Z7 q_ag (a_g aX) (a_e aX) (a_a aX) clos .none .none doc pm none (.ref c) ctv) ["state"] (d_k .q L (gAg W B) (uAg W.length) λH=>a_n H m L W B):=by
 refine d_j (fvs:=[.ref g,.ref m]) ho rfl hcd rG C (λvs H Q E h=>?_) (λA outer s H vs Q E hr h=>?_)
 .obtain ⟨k,v,rfl,_⟩:=h;rfl
 .obtain ⟨k,v,rfl,hv,hU,hM,q⟩:=h;have hr1:=hr.mono (j:=1) (by decide);refine(_,(a_f (a_k (ca ["state","entered","piece"] rfl (by decide) (d_K (a_H yd hr1 (pq2 (pv 2) (xqV 0)))) (λcl C fp s' H'=>(a_M,d_M (i:=2) R hr hg hbd (pv 2) (pq1 (pv 0))))))),?_);obtain⟨b0,S,rfl,hb1,hS,hS8⟩:=lh hU;unfold ThV at hv;rw[if_neg (by decide)]at hv;obtain⟨b,rfl,c0,x,ks,e0,hx1,hb,hc0⟩:=hv;cases e0;have hL3:=hMa.lt.hi;dsimp only[eR];refine(_,rfl,ivT hb aF (m,c0,_,L,W,B,S,rfl,hM,hMa,.inr rfl,hc0,le_trans hS8 (by decide),hS,λl ls H1 s1 hl hll hls=>?_));refine(l,_,_,rfl,.inl rfl,hl,λJ ov=>f_z ov hl (λD j ys H'=>∃ts:List Addr,ys=ts.map V.ref/\ts.length=j/\∀(i:Nat)(a:Addr),ts[i]?=some a->aY .q H' (gAg W B (b0::S) i) a) (by rw[qa4,hll];exact a_j (le_trans hL3 (by decide))) (λD hD=>([],rfl,rfl,λi a e=>by simp at e)) ?_ ?_)
  .intro D j x ys H' R1 R2 hD hx hsm hDl hp k1 k2;obtain⟨ts,rfl,htl,hts⟩:=hp;rw[qa6]at hx;obtain⟨a,ha,rfl⟩:=qb3 hx;have hj:j<L.length:=by rw[<-hll];exact(qa1 ha).1
   refine tAlways_if (rfl,_,rfl,a,gA W S j,rfl,hsm _ _ (hls j a ha),cE hMa hS hj,by rw[gA,qa4];exact le_trans hS8 (by decide),(hM.same s1).same hsm,λt H4 s4 ht=>?_);have hD5:=s4 _ _ hDl;have up:∀{o:HO}b xs,H4 b=some (.tup xs)->L2.upd H4 D o b=some (.tup xs):=λb xs e=>upd_keep2 e hD5 (by intro z;cases z);refine k1 (.ref t) _ hD5 (Same.set (hsm.trans s4) hD) (ts++[t],by rw[map_append];rfl,by rw[qa5,htl];rfl,λi u e=>?_);rcases b_l e with z|⟨rfl,rfl⟩
   .exact ((hts i u z).same λb xs e=>s4 _ _ e).same up
   .rw [htl];exact ht.same up
  .intro D ys H' hD hsm hDl hp;obtain⟨ts,rfl,htl,hts⟩:=hp;rw[qa4,hll]at htl;refine q D (ts.map V.ref) H' (s1.trans hsm) (.inr (b_R s1 hD,hDl)) (by rw[qa4,htl]) λj x hx=>?_;rw[qa6]at hx;obtain⟨a,ha,rfl⟩:=qb3 hx;unfold ThV;rw[if_neg (by decide)];exact(a,rfl,hts j a ha)
theorem rX(ho:base.get? f=some (kla_obj "<lambda>" q_al e_x e_w l_scope clos pm c ctv))(hcd:base.CodeRec (.ref c) q_al)(C:a_w base clos l_scope [] [])(Rest:Hp->Prop)(U:LL):aa P w K mg base CX0 1 f (kla_fn "<lambda>" q_al e_x e_w l_scope clos pm (.ref c) ctv) ["state"] (e_X .q qq U Rest):=by
 refine g_e (fvs:=[]) ho rfl hcd rF C (λvs H Q E h=>?_) (λA outer s H vs Q E hr h=>?_)
 .obtain ⟨k,v,rfl,_⟩:=h;rfl
 .obtain ⟨k,v,rfl,hv,hU,hM,q⟩:=h;refine(_,xqV 0,?_);unfold ThV at hv;rw[if_neg (by decide)]at hv;obtain⟨b,rfl,c0,x,ks,rfl,hx1,hb,hc0⟩:=hv;exact(ivT hb aK (q H (Same.refl H)))
end
end A
end K26
namespace K26
open PySem L2 RA
namespace H
def sp_lot(K:Frag):Sp:=λvs H Q _=>∃(p:Addr)(ns:LN),vs=[.ref p]/\SqL K H p (intsV ns)/\(∀x∈ns,x<8)/\∀t H',Same H H'->H' t=some (.tup (intsV (bF ns)))->Q (.ref t) H'
def sp_hasm:Sp:=λvs H Q _=>∃(m v:Addr)(o:HO)(L:LN)(W:LL)(B:List Bool)(k:LN),vs=[.ref m,.ref v]/\a_n H m L W B/\Mach L W B/\(o=.lst (intsV k)\/o=.tup (intsV k))/\H v=some o/\k.length≤60/\(∀x∈k,x<W.length)/\∀H',Same H H'->Q (.bl (k.any λr=>B.getD r false)) H'
def g6(B1:List Bool)(n1 n2:Nat)(Rest:Hp->Prop):Sp:=λvs H Q _=>∃(r:Nat)(p:Addr)(l:LN),vs=[.int (r:Int),.ref p]/\H p=some (.lst (intsV l))/\r<n1/\(∀x∈l,x<n2)/\l.length≤50/\Rest H/\∀t H',Same H H'->aY .p H' (bT B1 r l) t->Q (.ref t) H'
abbrev s_then:Stmt:=top 29
abbrev aI:Stmt:=(a_e s_then).getD 3 (.Pass (0,0,0,0))
abbrev am:Stmt:=(a_e s_then).getD 4 (.Pass (0,0,0,0))
abbrev q_te:Str:="then.<locals>.entered"
abbrev q_tg:Str:="then.<locals>.goals_of"
abbrev q_tl:Str:="then.<locals>.<lambda>"
abbrev dU:Expr:=match (a_e s_then).getD 5 (.Pass (0,0,0,0))with
 |.Return (some (.Call _ [.Call _ [_,_,_,l] _ _] _ _)) _=>l
 |_=>.Name "" (0,0,0,0)
abbrev e_x:Arguments:=match dU with|.Lambda a _ _ _=>a|_=>([],[],none,[],[],none,[])
abbrev e_w:Expr:=match dU with|.Lambda _ b _ _=>b|_=>.Name "" (0,0,0,0)
abbrev l_scope:Scope:=match dU with|.Lambda _ _ s _=>s|_=>a_a am
abbrev fz:Pos:=match dU with|.Lambda _ _ _ p=>p|_=>(0,0,0,0)
def sitesH:List (Pos×Str):=[(e_E aI,q_te,),(e_E am,q_tg,),(fz,q_tl,)]
theorem rA:a_B [Z8,Q5,"ahead"] [Z8,Q5] ["ahead"] (a_a aI):=(rfl,rfl,rfl,by decide +kernel,rfl,rfl,by decide,by decide +kernel,by decide +kernel)
theorem iX:a_B ["state","goals","ahead","behind","entered"] ["state"] ["ahead","behind","entered"] (a_a am):=(rfl,rfl,rfl,by decide +kernel,rfl,rfl,by decide,by decide +kernel,by decide +kernel)
theorem ly:a_B ["state","behind"] ["state"] ["behind"] l_scope:=(rfl,rfl,rfl,by decide +kernel,rfl,rfl,by decide,by decide +kernel,by decide +kernel)
def Two(H:Hp)(m m2:Addr)(L:LN)(W1 W2:LL)(B1 B2:List Bool):Prop:=a_n H m L W1 B1/\a_n H m2 L W2 B2
section
variable{P:Program}{w:World}{K:Frag}{mg:Str->Option Value}{base:Heap}{f c m m2 g:Addr}{clos:List (Str×Addr)}{doc pm ctv:Value}{L:LN}{W1 W2:LL}{B1 B2:List Bool}
theorem pD(ho:base.get? f=some (fnMade "entered" q_te (a_g aI) (a_e aI) (a_a aI) clos doc pm c ctv))(hcd:base.CodeRec (.ref c) q_te)(C:a_w base clos (a_a aI) ["ahead"] [.ref m])(h1M:Mach L W1 B1)(h2M:Mach L W2 B2)(h8:W2.length≤8)(yi:Df P w K mg base "lot_of" 1 [Q5] (sp_lot K)):aa P w K mg base CX0 2 f (PySem.W.fnX "entered" q_te (a_g aI) (a_e aI) (a_a aI) clos .none .none doc pm none (.ref c) ctv) [Z8,Q5] (g6 B1 W1.length W2.length λH=>Two H m m2 L W1 W2 B1 B2):=by
 refine d_j (fvs:=[.ref m]) ho rfl hcd rA C (λvs H Q E h=>?_) (λA outer s H vs Q E hr h=>?_)
 .obtain ⟨r,p,l,rfl,_⟩:=h;rfl
 .obtain ⟨r,p,l,rfl,hp,hr1,hlW,hl50,hM,q⟩:=h;refine(_,(a_f (a_k (c_J (pq2 (pv 0) (a_H yi hr (pq1 (lZ (b_r (xqT (xqV 2) (pv 0))) (a_K mq (pv 1) (a_D (pq1 pe_int))) (pv 1)))))))),?_);obtain⟨wy,mk,rows,h1,h2,h3,h4,h5⟩:=id hM.1;have a8:∀x∈inT B1 r l,x<8:=λx hx=>lt_of_lt_of_le (bI hlW h2M.n1 x hx) h8;have two:2≤sizeLine:=a_j (by decide);unfold bT at q;refine(_,rfl,ivT h1 bP (_,rfl,iqT h3 (f_p (ee h1M.bl hr1)) (_,rfl,?_)));unfold inT at q a8;cases ha:B1.getD r false with
  |true=>
   rw[if_pos ha]at q a8;refine au ?_;refine(_,rfl,a_j (by show 1≤16777216;decide),λzl hzl=>?_);have s2:=Same.upd (o:=.lst [.int 0]) hzl;have e2:=a_i (u:=.lst [.int 0]) hp hzl;have e3:L2.upd H zl (.lst [.int 0]) zl=some (.lst [.int 0]):=a_c;generalize L2.upd H zl (.lst [.int 0])=H2 at s2 e2 e3;refine(p,zl,_,_,rfl,rfl,e2,e3,a_j (by rw[intsV_len];show l.length+1≤16777216;omega),λcl hcl=>?_);have s3:=s2.trans (Same.upd (o:=.lst (intsV l++[.int 0])) hcl);have e4:L2.upd H2 cl (.lst (intsV l++[.int 0])) cl=some (.lst (intsV (l++[0]))):=by rw[a_c,intsV,intsV,map_append];rfl
   generalize L2.upd H2 cl (.lst (intsV l++[.int 0]))=H3 at s3 e4;exact(cl,l++[0],rfl,SqL.of e4,a8,λt H4 s4 ht=>(two,λst hst=>q st _ (s3.trans (s4.trans (Same.upd hst))) (t,r,_,rfl,a_c,a_i ht hst)))
  |false=>
   rw[if_neg (by rw[ha];exact Bool.false_ne_true)]at q a8;exact ag (_,rfl,p,l,rfl,SqL.of hp,a8,λt H4 s4 ht=>(two,λst hst=>q st _ (s4.trans (Same.upd hst)) (t,r,_,rfl,a_c,a_i ht hst)))
theorem my(ho:base.get? f=some (fnMade Z7 q_tg (a_g am) (a_e am) (a_a am) clos doc pm c ctv))(hcd:base.CodeRec (.ref c) q_tg)(C:a_w base clos (a_a am) ["ahead","behind","entered"] [.ref m,.ref m2,.ref g])(h1M:Mach L W1 B1)(h2M:Mach L W2 B2)(tzip:mg "zip"=none)(yd:Df P w K mg base "lots_after" 1 [Q0,Q5] sp_lotsafter)(hg:base.get? g=some (oc,od,.func fd,sl))(hbd:b_q K fd [Z8,Q5] [])(R:aa P w K mg base CX0 2 g fd [Z8,Q5] (g6 B1 W1.length W2.length λH=>Two H m m2 L W1 W2 B1 B2)):aa P w K mg base CX0 3 f (PySem.W.fnX Z7 q_tg (a_g am) (a_e am) (a_a am) clos .none .none doc pm none (.ref c) ctv) ["state"] (d_k .p L (gTh W1 B1 W2) (uTh W1.length W2.length) λH=>Two H m m2 L W1 W2 B1 B2):=by
 refine d_j (fvs:=[.ref m,.ref m2,.ref g]) ho rfl hcd iX C (λvs H Q E h=>?_) (λA outer s H vs Q E hr h=>?_)
 .obtain ⟨k,v,rfl,_⟩:=h;rfl
 .obtain ⟨k,v,rfl,hv,hU,hM,q⟩:=h;have hr1:=hr.mono (j:=1) (by decide);refine(_,(a_b ((stS 1 iX.nd ((a_H yd hr1 (pq2 (pv 3) (xqV 0)))))) (a_f (a_k (d_L ["state","goals","ahead","behind","entered"] rfl (by decide) (lT rfl tzip (pq2 (xqT (xqV 2) (xqV 0)) (pv 1))) (λcl C fp s' H'=>(a_M,d_M (i:=6) R hr hg hbd (pv 6) (pq2 (pv 0) (pv 1)))))))),?_);obtain⟨r0,S,rfl,hr0,hS,hS8⟩:=gM hU;unfold ThV at hv;rw[if_neg (by decide)]at hv;obtain⟨b,rfl,c0,x,ks,e0,hb,hc0⟩:=hv;cases e0;have hL3:=h1M.lt.hi;obtain⟨hM1,hM2⟩:=hM;refine(_,rfl,ivT hb aF (m2,c0,_,L,W2,B2,S,rfl,hM2,h2M,.inr rfl,hc0,le_trans hS8 (by decide),hS,λl ls H1 s1 hl hll hls=>?_));obtain⟨wy,mk,rows,h1,h2,h3,h4,h5⟩:=id (hM1.same s1);obtain⟨rr,hrr⟩:∃rr,rows[r0]?=some rr:=(rows[r0]'(by rw[h4];exact hr0),qa2 _);obtain⟨ws,e5,e6⟩:=h5 _ _ hrr;have hws:=h1M.row ws (qb2 e5);have ew:W1.getD r0 []=ws:=by rw[qa3,e5];rfl
  dsimp only[eR];refine comp2T_zipTL (c:=rr) (d:=l) (λR h=>(ivT h1 aF (ivT (s1 _ _ hb) aK (iqT h2 (b_a V.ref hrr) (_,rfl,h))))) e6 hl (by rw[intsV_len,qa4,hll];exact hws.1)
   (λD j ys H'=>∃ts:List Addr,ys=ts.map V.ref/\ts.length=j/\∀(i:Nat)(a:Addr),ts[i]?=some a->aY .p H' (gTh W1 B1 W2 (r0::S) i) a) (by rw[intsV_len,hws.1];exact a_j (le_trans hL3 (by decide))) (λD hD=>([],rfl,rfl,λi a e=>by simp at e)) ?_ ?_
  .intro D j x z ys H' H3 R1 hD hx hz hsm hDl hp hsm3 k1;obtain⟨ts,rfl,htl,hts⟩:=hp;have hj:j<ws.length:=by have:=(qa1 hx).1;rwa [intsV_len]at this
   have hjL:j<L.length:=by rw[<-hws.1];exact hj
   rw[a_u hj]at hx;cases hx;rw[qa6]at hz;obtain⟨a,ha,rfl⟩:=qb3 hz;have s13:=s1.trans (hsm.trans hsm3);have eg:ws.getD j 0=goal W1 r0 j:=by unfold goal;rw[ew]
   refine(rfl,_,rfl,_,rfl,ws.getD j 0,a,gA W2 S j,rfl,(hsm.trans hsm3) _ _ (hls j a ha),by rw[eg];exact b_E h1M hr0 hjL,cE h2M hS hjL,by rw[gA,qa4];exact le_trans hS8 (by decide),(hM1.same s13,hM2.same s13),λt H4 s4 ht=>?_);rw[eg]at ht;have hD5:=s4 _ _ (hsm3 _ _ hDl);have up:∀{o:HO}b xs,H4 b=some (.tup xs)->L2.upd H4 D o b=some (.tup xs):=λb xs e=>upd_keep2 e hD5 (by intro z;cases z);refine k1 (.ref t) _ hD5 (Same.set (hsm.trans (hsm3.trans s4)) hD) (ts++[t],by rw[map_append];rfl,by rw[qa5,htl];rfl,λi u e=>?_);rcases b_l e with z|⟨rfl,rfl⟩
   .exact ((hts i u z).same λb xs e=>s4 _ _ (hsm3 _ _ e)).same up
   .rw [htl];exact ht.same up
  .intro D ys H' hD hsm hDl hp;obtain⟨ts,rfl,htl,hts⟩:=hp;rw[intsV_len,hws.1]at htl;refine q D (ts.map V.ref) H' (s1.trans hsm) (.inr (b_R s1 hD,hDl)) (by rw[qa4,htl]) λj x hx=>?_;rw[qa6]at hx;obtain⟨a,ha,rfl⟩:=qb3 hx;unfold ThV;rw[if_neg (by decide)];exact(a,rfl,hts j a ha)
theorem mv(ho:base.get? f=some (kla_obj "<lambda>" q_tl e_x e_w l_scope clos pm c ctv))(hcd:base.CodeRec (.ref c) q_tl)(C:a_w base clos l_scope ["behind"] [.ref m2])(h2M:Mach L W2 B2)(yc:Df P w K mg base "has_marked" 1 [Q0,Q5] sp_hasm):aa P w K mg base CX0 2 f (kla_fn "<lambda>" q_tl e_x e_w l_scope clos pm (.ref c) ctv) ["state"] (e_X .p (qp B2) (uTh W1.length W2.length) λH=>Two H m m2 L W1 W2 B1 B2):=by
 refine g_e (fvs:=[.ref m2]) ho rfl hcd ly C (λvs H Q E h=>?_) (λA outer s H vs Q E hr h=>?_)
 .obtain ⟨k,v,rfl,_⟩:=h;rfl
 .obtain ⟨k,v,rfl,hv,hU,hM,q⟩:=h;refine(_,(a_H yc hr (pq2 (pv 1) (xqV 0))),?_);obtain⟨r0,S,rfl,hr0,hS,hS8⟩:=gM hU;unfold ThV at hv;rw[if_neg (by decide)]at hv;obtain⟨b,rfl,c0,x,ks,e0,hb,hc0⟩:=hv;cases e0;exact(_,rfl,ivT hb aF (m2,c0,_,L,W2,B2,S,rfl,hM.2,h2M,.inr rfl,hc0,le_trans hS8 (by decide),hS,q))
end
end H
end K26
namespace K26
open PySem L2 RA
abbrev a_C:Stmt:=top 32
abbrev bb:Stmt:=(a_e a_C).getD 1 (.Pass (0,0,0,0))
abbrev ba:Stmt:=(a_e a_C).getD 2 (.Pass (0,0,0,0))
abbrev q_pg:Str:="paired.<locals>.goals_of"
abbrev q_pm:Str:="paired.<locals>.is_marked"
def bu:List (Pos×Str):=[(e_E bb,q_pg,),(e_E ba,q_pm,)]
theorem rC:a_B ["pair",Q0,Q3] ["pair"] [Q0,Q3] (a_a bb):=(rfl,rfl,rfl,by decide +kernel,rfl,rfl,by decide,by decide +kernel,by decide +kernel)
theorem rB:a_B ["pair","is_wanted",Q0,Q3] ["pair"] ["is_wanted",Q0,Q3] (a_a ba):=(rfl,rfl,rfl,by decide +kernel,rfl,rfl,by decide,by decide +kernel,by decide +kernel)
def Two(H:Hp)(m m2:Addr)(L:LN)(W1 W2:LL)(B1 B2:List Bool):Prop:=a_n H m L W1 B1/\a_n H m2 L W2 B2
section
variable{P:Program}{w:World}{K:Frag}{mg:Str->Option Value}{base:Heap}{f c m m2 g cg:Addr}{clos:List (Str×Addr)}{doc pm ctv:Value}{L:LN}{W1 W2:LL}{B1 B2:List Bool}{rule:Bool->Bool->Bool}
theorem rW(ho:base.get? f=some (fnMade Z7 q_pg (a_g bb) (a_e bb) (a_a bb) clos doc pm c ctv))(hcd:base.CodeRec (.ref c) q_pg)(C:a_w base clos (a_a bb) [Q0,Q3] [.ref m,.ref m2])(h1M:Mach L W1 B1)(h2M:Mach L W2 B2)(tlist:mg "list"=none)(tzip:mg "zip"=none):aa P w K mg base CX0 1 f (PySem.W.fnX Z7 q_pg (a_g bb) (a_e bb) (a_a bb) clos .none .none doc pm none (.ref c) ctv) ["pair"] (d_k .t L (gP W1 W2) (uP W1.length W2.length) λH=>Two H m m2 L W1 W2 B1 B2):=by
 refine d_j (fvs:=[.ref m,.ref m2]) ho rfl hcd rC C (λvs H Q E h=>?_) (λA outer s H vs Q E hr h=>?_)
 .obtain ⟨k,v,rfl,_⟩:=h;rfl
 .obtain ⟨k,v,rfl,hv,hU,hM,q⟩:=h;refine(_,(a_f (a_k (fb rfl rfl tlist rfl tzip (pq2 (xqT (xqV 1) (xqV 0)) (xqT (xqV 2) (xqV 0)))))),?_);obtain⟨a,b,rfl,ha,hb⟩:=gN hU;unfold ThV at hv;rw[if_neg (by decide)]at hv;obtain⟨pp,rfl,hpp⟩:=hv;obtain⟨hM1,hM2⟩:=hM;obtain⟨wy,mk,rows,h1,h2,h3,h4,h5⟩:=hM1;obtain⟨wy2,mk2,rows2,g1,g2,g3,g4,g5⟩:=hM2;obtain⟨rr,hrr⟩:∃rr,rows[a]?=some rr:=(rows[a]'(by rw[h4];exact ha),qa2 _);obtain⟨rr2,hrr2⟩:∃rr,rows2[b]?=some rr:=(rows2[b]'(by rw[g4];exact hb),qa2 _);obtain⟨ws,e5,e6⟩:=h5 _ _ hrr;obtain⟨ws2,f5,f6⟩:=g5 _ _ hrr2;have hws:=h1M.row ws (qb2 e5);have hws2:=h2M.row ws2 (qb2 f5);have hL3:=h1M.lt.hi;have hpp':H pp=some (.tup [.int (a:Int),.int (b:Int)]):=hpp;refine(ivT h1 aF (ivT hpp' aK (iqT h2 (b_a V.ref hrr) ?_)));refine(ivT g1 aF (ivT hpp' aF (iqT g2 (b_a V.ref hrr2) ?_)));refine(rr,rr2,_,_,rfl,e6,f6,by rw[intsV_len,intsV_len,hws.1,hws2.1],by rw[intsV_len,hws.1];omega,λl ts H2 tsl nd hl0 sm hl ht=>?_);refine q l (ts.map V.ref) H2 sm (.inr (hl0,hl)) (by rw[qa4,tsl,intsV_len];exact hws.1) λj x hx=>?_;rw[qa6]at hx;obtain⟨t,htj,rfl⟩:=qb3 hx;have hj:j<L.length:=by have:=(qa1 htj).1;rw[tsl,intsV_len,hws.1]at this;exact this
  unfold ThV;rw[if_neg (by decide)];have ew:W1.getD a []=ws:=by rw[qa3,e5];rfl
  have ew2:W2.getD b []=ws2:=by rw[qa3,f5];rfl
  refine(t,rfl,?_);have e:=ht j t _ _ htj (a_u (by rw[hws.1];exact hj)) (a_u (by rw[hws2.1];exact hj));show _=some (HO.tup (intsV [goal W1 a j,goal W2 b j]));rw[e];unfold goal;rw[ew,ew2];rfl
theorem rV(ho:base.get? f=some (fnMade Q9 q_pm (a_g ba) (a_e ba) (a_a ba) clos doc pm c ctv))(hcd:base.CodeRec (.ref c) q_pm)(C:a_w base clos (a_a ba) ["is_wanted",Q0,Q3] [.ref g,.ref m,.ref m2])(h1M:Mach L W1 B1)(h2M:Mach L W2 B2)(hg:base.get? g=some (oc,od,.func fd,sl))(hbd:b_q K fd [Y2,Y3] [])(R:aa P w K mg base CX0 1 g fd [Y2,Y3] (br rule)):aa P w K mg base CX0 2 f (PySem.W.fnX Q9 q_pm (a_g ba) (a_e ba) (a_a ba) clos .none .none doc pm none (.ref c) ctv) ["pair"] (e_X .t (mkP rule B1 B2) (uP W1.length W2.length) λH=>Two H m m2 L W1 W2 B1 B2):=by
 refine d_j (fvs:=[.ref g,.ref m,.ref m2]) ho rfl hcd rB C (λvs H Q E h=>?_) (λA outer s H vs Q E hr h=>?_)
 .obtain ⟨k,v,rfl,_⟩:=h;rfl
 .obtain ⟨k,v,rfl,hv,hU,hM,q⟩:=h;refine(_,(a_f (a_k (d_M (i:=1) R hr hg hbd (pv 1) (pq2 (xqT (xqV 2) (xqV 0)) (xqT (xqV 3) (xqV 0)))))),?_);obtain⟨a,b,rfl,ha,hb⟩:=gN hU;unfold ThV at hv;rw[if_neg (by decide)]at hv;obtain⟨pp,rfl,hpp⟩:=hv;obtain⟨hM1,hM2⟩:=hM;obtain⟨wy,mk,rows,h1,h2,h3,h4,h5⟩:=hM1;obtain⟨wy2,mk2,rows2,g1,g2,g3,g4,g5⟩:=hM2;have hpp':H pp=some (.tup [.int (a:Int),.int (b:Int)]):=hpp;exact(rfl,ivT h1 bP (ivT hpp' aK (iqT h3 (f_p (ee h1M.bl ha)) (ivT g1 bP (ivT hpp' aF (iqT g3 (f_p (ee h2M.bl hb)) (_,_,rfl,q H (Same.refl _))))))))
end
abbrev a_Y:Stmt:=top 25
abbrev d_I:Str:="either.<locals>.<lambda>"
abbrev e_O:Expr:=match (a_e a_Y).getD 0 (.Pass (0,0,0,0))with
 |.Return (some (.Call _ [_,_,l] _ _)) _=>l
 |_=>.Name "" (0,0,0,0)
abbrev gD:Arguments:=match e_O with|.Lambda a _ _ _=>a|_=>([],[],none,[],[],none,[])
abbrev gC:Expr:=match e_O with|.Lambda _ b _ _=>b|_=>.Name "" (0,0,0,0)
abbrev x_either:Scope:=match e_O with|.Lambda _ _ s _=>s|_=>a_a a_C
abbrev mj:Pos:=match e_O with|.Lambda _ _ _ p=>p|_=>(0,0,0,0)
def b_Y:List (Pos×Str):=[(mj,d_I,)]
theorem jN:a_B [Y2,Y3] [Y2,Y3] [] x_either:=(rfl,rfl,rfl,by decide +kernel,rfl,rfl,by decide,by decide +kernel,by decide +kernel)
theorem jT:a_m [Q0,Q3] [Q0,Q3] (a_a a_Y):=fsc
theorem j9(ho:base.get? f=some (kla_obj "<lambda>" d_I gD gC x_either clos pm c ctv))(hcd:base.CodeRec (.ref c) d_I)(C:a_w base clos x_either [] []):aa P w K mg base CX0 1 f (kla_fn "<lambda>" d_I gD gC x_either clos pm (.ref c) ctv) [Y2,Y3] (br (λa b=>a||b)):=by
 refine g_e (fvs:=[]) ho rfl hcd jN C (λvs H Q E h=>?_) (λA outer s H vs Q E hr h=>?_)
 .obtain ⟨a,b,rfl,_⟩:=h;rfl
 .obtain ⟨a,b,rfl,q⟩:=h;refine(_,(rP (pv 0) (f_g (pv 1))),?_);cases a with
  |true=>exact(_,rfl,_,rfl,au q)
  |false=>exact(_,rfl,_,rfl,ag (_,rfl,q))
abbrev c_C:Stmt:=top 26
abbrev bx:Str:="both.<locals>.<lambda>"
abbrev dX:Expr:=match (a_e c_C).getD 0 (.Pass (0,0,0,0))with
 |.Return (some (.Call _ [_,_,l] _ _)) _=>l
 |_=>.Name "" (0,0,0,0)
abbrev nM:Arguments:=match dX with|.Lambda a _ _ _=>a|_=>([],[],none,[],[],none,[])
abbrev nG:Expr:=match dX with|.Lambda _ b _ _=>b|_=>.Name "" (0,0,0,0)
abbrev x_both:Scope:=match dX with|.Lambda _ _ s _=>s|_=>a_a a_C
abbrev qg:Pos:=match dX with|.Lambda _ _ _ p=>p|_=>(0,0,0,0)
def c_Q:List (Pos×Str):=[(qg,bx,)]
theorem n9:a_B [Y2,Y3] [Y2,Y3] [] x_both:=(rfl,rfl,rfl,by decide +kernel,rfl,rfl,by decide,by decide +kernel,by decide +kernel)
theorem oj:a_m [Q0,Q3] [Q0,Q3] (a_a c_C):=fsc
theorem oE(ho:base.get? f=some (kla_obj "<lambda>" bx nM nG x_both clos pm c ctv))(hcd:base.CodeRec (.ref c) bx)(C:a_w base clos x_both [] []):aa P w K mg base CX0 1 f (kla_fn "<lambda>" bx nM nG x_both clos pm (.ref c) ctv) [Y2,Y3] (br (λa b=>a&&b)):=by
 refine g_e (fvs:=[]) ho rfl hcd n9 C (λvs H Q E h=>?_) (λA outer s H vs Q E hr h=>?_)
 .obtain ⟨a,b,rfl,_⟩:=h;rfl
 .obtain ⟨a,b,rfl,q⟩:=h;refine(_,(f_h (pv 0) (f_g (pv 1))),?_);cases a with
  |true=>exact(_,rfl,_,rfl,au (_,rfl,q))
  |false=>exact(_,rfl,_,rfl,ag q)
abbrev c_B:Stmt:=top 27
abbrev bw:Str:="less.<locals>.<lambda>"
abbrev dW:Expr:=match (a_e c_B).getD 0 (.Pass (0,0,0,0))with
 |.Return (some (.Call _ [_,_,l] _ _)) _=>l
 |_=>.Name "" (0,0,0,0)
abbrev nK:Arguments:=match dW with|.Lambda a _ _ _=>a|_=>([],[],none,[],[],none,[])
abbrev nF:Expr:=match dW with|.Lambda _ b _ _=>b|_=>.Name "" (0,0,0,0)
abbrev x_less:Scope:=match dW with|.Lambda _ _ s _=>s|_=>a_a a_C
abbrev qf:Pos:=match dW with|.Lambda _ _ _ p=>p|_=>(0,0,0,0)
def c_P:List (Pos×Str):=[(qf,bw,)]
theorem n8:a_B [Y2,Y3] [Y2,Y3] [] x_less:=(rfl,rfl,rfl,by decide +kernel,rfl,rfl,by decide,by decide +kernel,by decide +kernel)
theorem oi:a_m [Q0,Q3] [Q0,Q3] (a_a c_B):=fsc
theorem oB(ho:base.get? f=some (kla_obj "<lambda>" bw nK nF x_less clos pm c ctv))(hcd:base.CodeRec (.ref c) bw)(C:a_w base clos x_less [] []):aa P w K mg base CX0 1 f (kla_fn "<lambda>" bw nK nF x_less clos pm (.ref c) ctv) [Y2,Y3] (br (λa b=>a&&!b)):=by
 refine g_e (fvs:=[]) ho rfl hcd n8 C (λvs H Q E h=>?_) (λA outer s H vs Q E hr h=>?_)
 .obtain ⟨a,b,rfl,_⟩:=h;rfl
 .obtain ⟨a,b,rfl,q⟩:=h;refine(_,(f_h (pv 0) (f_g (ib (pv 1)))),?_);cases a with
  |true=>exact(_,rfl,_,rfl,au (_,rfl,_,rfl,q))
  |false=>exact(_,rfl,_,rfl,ag q)
namespace Lm
abbrev s_g:Stmt:=(a_e a_h).getD 0 (.Pass (0,0,0,0))
abbrev s_m:Stmt:=(a_e a_h).getD 1 (.Pass (0,0,0,0))
abbrev q_g:Str:="walked_machine.<locals>.goals_of"
abbrev q_m:Str:="walked_machine.<locals>.is_marked"
def e_E(s:Stmt):Pos:=match s with
 |.FunctionDef _ _ _ _ _ _ _ _ _ p=>p
 |_=>(0,0,0,0)
def sites:List (Pos×Str):=[(e_E s_g,q_g,),(e_E s_m,q_m,)]
section
variable{P:Program}{w:World}{K:Frag}{mg:Str->Option Value}{base:Heap}{f c m:Addr}{clos:List (Str×Addr)}{doc pm ctv:Value}{L:LN}{W:LL}{B:List Bool}
theorem qm(ho:base.get? f=some (fnMade Z7 q_g (a_g s_g) (a_e s_g) (a_a s_g) clos doc pm c ctv))(hcd:base.CodeRec (.ref c) q_g)(C:a_w base clos (a_a s_g) [Q0] [.ref m])(hMa:Mach L W B):aa P w K mg base CX0 1 f (PySem.W.fnX Z7 q_g (a_g s_g) (a_e s_g) (a_a s_g) clos .none .none doc pm none (.ref c) ctv) [Z8] (d_k .i L (gW W) (uW W) λH=>b_n H m L W B):=by
 refine d_j (fvs:=[.ref m]) ho rfl hcd rE C (λvs H Q E h=>?_) (λA outer s H vs Q E hr h=>?_)
 .obtain ⟨k,v,rfl,_⟩:=h;rfl
 .obtain ⟨k,v,rfl,hv,hU,hM,q⟩:=h;refine(_,(a_f (a_k (xqT (xqV 1) (pv 0)))),?_);obtain⟨n,rfl,hn⟩:=bq hU;unfold ThV at hv;rw[if_pos rfl]at hv;obtain⟨n',e,rfl⟩:=hv;injection e with e;subst e;obtain⟨wy,mk,rows,h1,h2,h3,h4,h5⟩:=hM;obtain⟨rr,hrr⟩:∃rr,rows[n]?=some rr:=(rows[n]'(by rw[h4];exact hn),qa2 _);obtain⟨ws,e5,e6⟩:=h5 _ _ hrr;have hws:=hMa.row ws (qb2 e5);refine(ivT h1 aF (_,rfl,iqT h2 (b_a V.ref hrr) ?_));refine q rr (intsV ws) H (Same.refl H) (.inl e6) (by rw[intsV_len];exact hws.1) λj x hx=>?_;unfold ThV;rw[if_pos rfl];rw[intsV,qa6]at hx;cases hj:ws[j]? with
  |none=>rw[hj]at hx;cases hx
  |some z=>
   rw[hj]at hx;cases hx;refine(z,?_,rfl);show[(W.getD n []).getD j 0]=[z];have e7:W.getD n []=ws:=by
    rw[qa3,e5];rfl
   rw[e7,qa3,hj];rfl
theorem ql(ho:base.get? f=some (fnMade Q9 q_m (a_g s_m) (a_e s_m) (a_a s_m) clos doc pm c ctv))(hcd:base.CodeRec (.ref c) q_m)(C:a_w base clos (a_a s_m) [Q0] [.ref m])(hMa:Mach L W B):aa P w K mg base CX0 1 f (PySem.W.fnX Q9 q_m (a_g s_m) (a_e s_m) (a_a s_m) clos .none .none doc pm none (.ref c) ctv) [Z8] (e_X .i (mkW B) (uW W) λH=>b_n H m L W B):=by
 refine d_j (fvs:=[.ref m]) ho rfl hcd rD C (λvs H Q E h=>?_) (λA outer s H vs Q E hr h=>?_)
 .obtain ⟨k,v,rfl,_⟩:=h;rfl
 .obtain ⟨k,v,rfl,hv,hU,hM,q⟩:=h;refine(_,(a_f (a_k (xqL (xqV 1) (pv 0)))),?_);obtain⟨n,rfl,hn⟩:=bq hU;unfold ThV at hv;rw[if_pos rfl]at hv;obtain⟨n',e,rfl⟩:=hv;injection e with e;subst e;obtain⟨wy,mk,rows,h1,h2,h3,h4,h5⟩:=hM;have hB:B[n]?=some (B.getD n false):=by
   rw[qa3,qa2 (by rw[hMa.bl];exact hn)];rfl
  exact(ivT h1 bP (_,rfl,iqL h3 (b_a V.bl hB) (q H (Same.refl H))))
end
set_option maxHeartbeats 8000000 in
theorem ok_wmach{P:Program}{w:World}{oc kV doc pm ct oc2 kV2 doc2 pm2 cdv2 ct2 ocD:Value}(lk:K.lookup f=some (oc,od,.func (fnOf "walked_machine" "walked_machine" (a_g a_h) (a_e a_h) (a_a a_h) .none kV doc pm an (.ref c) ct),osl))(hcd:codeIn K (.ref c) "walked_machine"=true)(lw:K.lookup fw=some (oc2,od2,.func (fnOf "walked" "walked" (a_g a_o) (a_e a_o) (a_a a_o) (.ref tD) kV2 doc2 pm2 an2 cdv2 ct2),osl2))(cw:codeIn K cdv2 "walked"=true)(kw:keepIn K (.ref fw)=true)(mw:mg "walked"=some (.ref fw))(lD:K.lookup tD=some (ocD,odD,.seq #[.none] nD,slD))(WT:WkT K mg cW fI fdI)(tlen:mg "len"=none)(tzip:mg "zip"=none)(hC:CodeHd base c P0)(hB:d_g base mg):aa P w K mg base CX0 6 f (fnOf "walked_machine" "walked_machine" (a_g a_h) (a_e a_h) (a_a a_h) .none kV doc pm an (.ref c) ct) [Q0] (e_U cW P0 sites):=by
 refine dQ lk hcd a_y (λvs H Q E h=>?_) (λA outer s H vs Q E hr h=>?_)
 .obtain ⟨m,L,W,B,rfl,_⟩:=h;rfl
 .obtain ⟨m,L,W,B,rfl,hM,hMa,hT,q⟩:=h;refine(_,(a_b ((b_S (i:=1) (qual:=q_g) (c:=c) (P0:=P0) (sites:=sites) a_y.nd rfl (Or.inl rfl) rfl hC hB (by decide +kernel) (by decide +kernel))) (a_b ((b_S (i:=2) (qual:=q_m) (c:=c) (P0:=P0) (sites:=sites) a_y.nd rfl (Or.inl rfl) rfl hC hB (by decide +kernel) (by decide +kernel))) (a_f (a_k (e_n (dvs:=[.non]) rfl mw kw (c_r (kV:=kV2) (doc:=doc2) (pm:=pm2) (an:=an2) (cdv:=cdv2) (ct:=ct2) lD) (.cons rfl .nil) (a_T (xqV 0) (pq3 pe_int (pv 1) (pv 2))) (λ_=>rfl)))))),?_);refine(hT,λclos1 f1 c1 H1 sub1 has1 fr1 ne1 s1 hT1 hc1 hf1=>(hT1,λclos2 f2 c2 H2 sub2 has2 fr2 ne2 s2 hT2 hc2 hf2=>?_));have s12:c_A P0 H H2:=b_s s1 s2;have hM2:b_n H2 m L W B:=hM.ofT (c_D.ofX s12 hT);obtain⟨ps1,hP1,_⟩:=id hT1;obtain⟨ps2,hP2,ht2,hall2⟩:=id hT2;have nP:∀{b:Addr}{φ:Heap->Prop},H1 b=some (.ext φ)->b≠P0:=λ{b φ}e z=>by rw[z,hP1]at e;cases e
  have hf1':H2 f1=some (fnHO f1 Z7 q_g (a_g s_g) (a_e s_g) (a_a s_g) clos1 c1):=s2 f1 _ (nP hf1) hf1;have hc1':H2 c1=some (codeHO c1 q_g):=s2 c1 _ (nP hc1) hc1;have hf2':H2 f2=some (fnHO f2 Q9 q_m (a_g s_m) (a_e s_m) (a_a s_m) clos2 c2):=hf2;have hM3:=hM2;obtain⟨wy,mk,rows,h1,h2,h3,h4,h5⟩:=hM2;have hUx:∀u∈[f1,f2,c1,c2],∃φ,H2 u=some (.ext φ):=λu hu=>by
   simp only[mem_cons,not_mem_nil,or_false]at hu;rcases hu with rfl|rfl|rfl|rfl
   .exact (_,hf1')
   .exact (_,hf2')
   .exact (_,hc1')
   .exact (_,hc2)
  refine(ivT h1 aK (_,rfl,_,rfl,[f1,f2,c1,c2],hUx,λbase' Wd=>?_));obtain⟨doc1,pm1,ctv1,eb1⟩:=Wd.ext f1 _ (by simp) hf1';obtain⟨doc3,pm3,ctv3,eb2⟩:=Wd.ext f2 _ (by simp) hf2';have cd1:base'.CodeRec (.ref c1) q_g:=Wd.ext c1 _ (by simp) hc1';have cd2:base'.CodeRec (.ref c2) q_m:=Wd.ext c2 _ (by simp) hc2;have C1:=f_A (sc:=a_a s_g) (m:=m) Wd sub1 has1 rfl rfl rfl rfl (by decide +kernel);have C2:=f_A (sc:=a_a s_m) (m:=m) Wd sub2 has2 rfl rfl rfl rfl (by decide +kernel);have Fw:eC K "walked" "walked" a_o fw _:=((oc2,od2,.ref tD,kV2,doc2,pm2,an2,cdv2,ct2,osl2,rfl,lw,cw),kw);refine(5,b_O cW .i L (gW W) (mkW B) (uW W) (λH=>b_n H m L W B) f1 f2,hr,c_n Fw WT tlen tzip ((qm eb1 cd1 C1 hMa).mono (by decide)) ((ql eb2 cd2 C2 hMa).mono (by decide)) eb1 (_,rfl) eb2 (_,rfl) (.all λus hl=>by obtain⟨_,rfl⟩:=ln1 hl;rfl) (.all λus hl=>by obtain⟨_,rfl⟩:=ln1 hl;rfl) (λ_ _ s h=>h.same s),?_);have keepT:∀{b:Addr}{o:HO},H2 b=some o->(∀φ,o≠.ext φ)->b∉[f1,f2,c1,c2]:=λ{b o}e ho hb=>by
   obtain⟨φ,e2⟩:=hUx b hb;rw[e]at e2;exact ho φ (Option.some.inj e2)
  have n60:=hMa.n60;refine([0],.int 0,none,rfl,hMa.lt,?_,gL.mpr hMa.n1,pj hMa,by rw[c9];omega,hM3.keep (λb xs e=>by rw[a_q (keepT e (λ_ z=>nomatch z))];exact e) (λb xs e=>by rw[a_q (keepT e (λ_ z=>nomatch z))];exact e),λwk t wd y md ks vks ws rows' R Bm H3 sm3 hW ht hth hwd hy hwr hmd bf ways bl mks sub le he hU3=>?_)
  .unfold ThV;rw[if_pos rfl];exact(0,rfl,rfl)
  have hR:R.length=ks.length:=by
   rcases he with z|⟨n,z,_⟩
   .exact z
   .cases z
  have out:∀{b:Addr}{o:HO},H3 b=some o->retr [f1,f2,c1,c2] H2 H3 b=some o:=λ{b o}e=>by
   rw[a_O λhb=>?_]
   .exact e
   .rw [hU3 b hb]at e;cases e
  have fwd:∀{b:Addr}{o:HO},H2 b=some o->retr [f1,f2,c1,c2] H2 H3 b=some o:=λ{b o}e=>by
   by_cases hb:b∈[f1,f2,c1,c2]
   .rw [c_I hb];exact e
   .exact out (sm3 b o (by rw[a_q hb];exact e))
  rw[hR]at bf;obtain⟨dx,ew⟩:=hW.ex;exact q wk t wd y md ks vks ws rows' R Bm _ (λb o hb e=>fwd (s12 b o hb e)) (ps2,fwd hP2,ht2,λx hx=>(hall2 x hx).imp id λhZ1=>by obtain⟨c',e1,e2⟩:=hZ1;exact(c',e1,fwd e2)) (dx,out ew) (out ht) (hth.same λb xs e=>out e) (out hwd) (out hy) (hwr.1,λi a r e1 e2=>out (hwr.2 i a r e1 e2)) (out hmd) bf ways hR bl mks sub (by rw[c9]at le;exact le)
end Lm
end K26
namespace K26
open PySem L2 RA
namespace H
theorem e_Z:a_m [Q0,Q3,"ahead","behind","entered",Z7] [Q0,Q3] (a_a s_then):=fsc
set_option maxHeartbeats 8000000 in
theorem ok_then{P:Program}{w:World}{K:Frag}(nd:(ts.map Prod.fst).Nodup)(i0:(P0,sites,)∈ts)(i1:(P1,sitesH,)∈ts){oc kV doc pm ct oc2 kV2 doc2 pm2 cdv2 ct2 ocD:Value}(lk:K.lookup f=some (oc,od,.func (fnOf "then" "then" (a_g s_then) (a_e s_then) (a_a s_then) .none kV doc pm an (.ref c) ct),osl))(hcd:codeIn K (.ref c) "then"=true)(lw:K.lookup fw=some (oc2,od2,.func (fnOf "walked" "walked" (a_g a_o) (a_e a_o) (a_a a_o) (.ref tD) kV2 doc2 pm2 an2 cdv2 ct2),osl2))(cw:codeIn K cdv2 "walked"=true)(kw:keepIn K (.ref fw)=true)(mw:mg "walked"=some (.ref fw))(lD:K.lookup tD=some (ocD,odD,.seq #[.none] nD,slD))(WT:WkT K mg cW fI fdI)(tlen:mg "len"=none)(tzip:mg "zip"=none)(hC:CodeHd base c P1)(hB:d_g base mg)(DL:∀base:Heap,Df P w K mg base "lots_after" 1 [Q0,Q5] sp_lotsafter)(DH:∀base:Heap,Df P w K mg base "has_marked" 1 [Q0,Q5] sp_hasm)(DT:∀base:Heap,Df P w K mg base "lot_of" 1 [Q5] (sp_lot K))(yu:DfX P w K mg base "need_same_letters" 1 [Q0,Q3] (c_t cOL))(y9:Df P w K mg base "least" 7 [Q0] (d_C P0 sites))(y7:DfX P w K mg base "told" 4 [Z0] (c_s cW cTM)):aa P w K mg base (CXE P w) 8 f (fnOf "then" "then" (a_g s_then) (a_e s_then) (a_a s_then) .none kV doc pm an (.ref c) ct) [Q0,Q3] (aP cTM ts f_U):=by
 refine c_Z lk hcd e_Z (λvs H Q E h=>?_) (λA outer s H vs Q E hr h=>?_)
 .obtain ⟨m,m2,L,W1,W2,B1,B2,rfl,_⟩:=h;rfl
 .obtain ⟨n1,n2,L,V1,V2,D1,D2,rfl,hN1,hNa1,hN2,hNa2,h18,h28,hA,qE,q⟩:=h;have hT0:=hA _ i0;have hr1:=hr.mono (j:=1) (by decide);have hr2:=hr.mono (j:=2) (by decide);have hr4:=hr.mono (j:=4) (by decide);have hr5:=hr.mono (j:=5) (by decide);refine(_,(a_b (b_j (a_l yu hr1 (a_d λ_ _ _ z=>z) (pq2 (pv 0) (pv 1)))) (a_b ((stS 2 e_Z.nd ((a_H y9 hr (pq1 (pv 0)))))) (a_b ((stS 3 e_Z.nd ((a_H y9 hr (pq1 (pv 1)))))) (a_b ((b_S (i:=4) (qual:=q_te) (c:=c) (P0:=P1) (sites:=sitesH) e_Z.nd rfl (Or.inr rfl) rfl hC hB (by decide +kernel) (by decide +kernel))) (a_b ((b_S (i:=5) (qual:=q_tg) (c:=c) (P0:=P1) (sites:=sitesH) e_Z.nd rfl (Or.inl rfl) rfl hC hB (by decide +kernel) (by decide +kernel))) (a_f (a_k (a_l y7 hr4 (a_d λ_ _ _ z=>z) (pq1 (e_n (dvs:=[.non]) rfl mw kw (c_r (kV:=kV2) (doc:=doc2) (pm:=pm2) (an:=an2) (cdv:=cdv2) (ct:=ct2) lD) (.cons rfl .nil) (a_T (xqV 2) (pq3 (lY (i:=4) [Z8,Q5] (pv 4) (pq2 pe_int (a_D d_i)) (λ_=>rfl)) (pv 5) (f_R (qual:=q_tl) (c:=c) (P0:=P1) (sites:=sitesH) rfl hC hB (by decide +kernel) (by decide +kernel)))) (λ_=>rfl))))))))))),?_);refine(_,rfl,_,rfl,n1,n2,L,L,V1,D1,V2,D2,rfl,hN1,hNa1,hN2,hNa2,λz=>absurd rfl z,λ_=>?_);refine(_,rfl,n1,L,V1,D1,rfl,hN1,hNa1,hT0,λm W1 B1 Ha sa hTa hMA hLe1=>?_);have kA:KT ts H Ha:=KT.ofX nd i0 sa hT0 hTa;have sTa:=kA.sm;refine(_,rfl,n2,L,V2,D2,rfl,hN2.tups sTa.tup,hNa2,hTa,λm2 W2 B2 H0 sb hTb hMB hLe2=>?_);have h1M:=hLe1.mach;have h2M:=hLe2.mach;have h1w:W1.length≤8:=le_trans hLe1.len h18;have h2w:W2.length≤8:=le_trans hLe2.len h28;have kB:KT ts Ha H0:=KT.ofX nd i0 sb hTa hTb;have hT:b_G H0 P1 sitesH:=kB.tb (kA.tb hA) _ i1;have sTb:=kB.sm;have hTwo0:Two H0 m m2 L W1 W2 B1 B2:=(hMA.tups sTb.tup,hMB);refine(hT,λclos1 f1 c1 H1 sub1 has1 fr1 ne1 s1 hT1 hc1 hf1=>(hT1,λclos2 f2 c2 H2 sub2 has2 fr2 ne2 s2 hT2 hc2 hf2=>?_));have s12:c_A P1 H0 H2:=b_s s1 s2;have tup2:=a_V s12 hT;have hTwo2:Two H2 m m2 L W1 W2 B1 B2:=(hTwo0.1.tups tup2,hTwo0.2.tups tup2);obtain⟨wy,mk,rows,h1,h2,h3,h4,h5⟩:=id hTwo2.1;obtain⟨ps1,hP1,_⟩:=id hT1;obtain⟨ps2,hP2,_⟩:=id hT2;have nP1:∀{b:Addr}{φ:Heap->Prop},H1 b=some (.ext φ)->b≠P1:=λ{b φ}e z=>by rw[z,hP1]at e;cases e
  have nP2:∀{b:Addr}{φ:Heap->Prop},H2 b=some (.ext φ)->b≠P1:=λ{b φ}e z=>by rw[z,hP2]at e;cases e
  have hf1b:H2 f1=some (fnHO f1 "entered" q_te (a_g aI) (a_e aI) (a_a aI) clos1 c1):=s2 _ _ (nP1 hf1) hf1;have hc1b:H2 c1=some (codeHO c1 q_te):=s2 _ _ (nP1 hc1) hc1;refine(ivT h1 aK (f1,rfl,(_,_,_,_,_,_,_,hf1b),zero_le _,λel hel=>?_));have sE:Same H2 (L2.upd H2 el (.lst [])):=Same.upd hel;have hel3:L2.upd H2 el (.lst []) el=some (.lst (intsV [])):=a_c;generalize L2.upd H2 el (.lst [])=H2' at sE hel3;have hf1e:=sE _ _ hf1b;have hc1e:=sE _ _ hc1b;have hTwoE:Two H2' m m2 L W1 W2 B1 B2:=(hTwo2.1.same sE,hTwo2.2.same sE);have hUe:∀u∈[f1,c1],∃φ,H2' u=some (.ext φ):=λu hu=>by
   simp only[mem_cons,not_mem_nil,or_false]at hu;rcases hu with rfl|rfl
   .exact (_,hf1e)
   .exact (_,hc1e)
  refine((_,_,_,_,_,_,_,hf1e),[f1,c1],hUe,λbase1 Wd1=>?_);obtain⟨doc5,pm5,ctv5,eb5⟩:=Wd1.ext f1 _ (by simp) hf1e;have cd5:base1.CodeRec (.ref c1) q_te:=Wd1.ext c1 _ (by simp) hc1e;have C5:a_w base1 clos1 (a_a aI) ["ahead"] [.ref m]:=c_c Wd1 sub1 has1 rfl λi y v e1 e2=>by
   match i,e1,e2 with
   |0,e1,e2=>cases e1;cases e2;exact((2,rfl,rfl),rfl,rfl)
   |i+1,e1,_=>simp at e1
  have keepE:∀{b:Addr}{o:HO},H2' b=some o->(∀φ,o≠.ext φ)->b∉[f1,c1]:=λ{b o}e ho hb=>by
   obtain⟨φ,e2⟩:=hUe b hb;rw[e]at e2;exact ho φ (Option.some.inj e2)
  have tupE:∀b xs,H2' b=some (.tup xs)->untr [f1,c1] H2' b=some (.tup xs):=λb xs e=>by rw[a_q (keepE e (λ_ z=>nomatch z))];exact e
  refine(2,g6 B1 W1.length W2.length (λH=>Two H m m2 L W1 W2 B1 B2),_,hr2,.all λus hl=>by obtain⟨_,_,rfl⟩:=ln2 hl;rfl,pD eb5 cd5 C5 h1M h2M h2w (DT base1),0,el,[],rfl,by rw[a_q (keepE hel3 (λ_ z=>nomatch z))];exact hel3,h1M.n1,by simp,by simp,(hTwoE.1.tups tupE,hTwoE.2.tups tupE),λst H3u s3u hst3u hU3=>?_);have s3:Same H2 (retr [f1,c1] H2' H3u):=λb o e=>by
   have e':=sE _ _ e;by_cases hb:b∈[f1,c1]
   .rw [c_I hb];exact e'
   .rw [a_O hb];exact s3u b o (by rw[a_q hb];exact e')
  have hst3:aY .p (retr [f1,c1] H2' H3u) (bT B1 0 []) st:=hst3u.same λb xs e=>by
   rw[a_O λhb=>?_]
   .exact e
   .rw [hU3 b hb]at e;cases e
  generalize retr [f1,c1] H2' H3u=H3 at s3 hst3;have hT3:=b_X hT2 s3;refine(_,rfl,hT3,λclos3 f3 c3 H4 sub3 has3 fr3 ne3 s4 hT4 hc3 hf3=>?_);obtain⟨ps4,hP4,ht4,hall4⟩:=id hT4;have up2:∀{b:Addr}{φ:Heap->Prop},H2 b=some (.ext φ)->H4 b=some (.ext φ):=λe=>s4 _ _ (nP2 e) (s3 _ _ e);have hf1':H4 f1=some (fnHO f1 "entered" q_te (a_g aI) (a_e aI) (a_a aI) clos1 c1):=up2 hf1b;have hc1':H4 c1=some (codeHO c1 q_te):=up2 hc1b;have hf2':H4 f2=some (fnHO f2 Z7 q_tg (a_g am) (a_e am) (a_a am) clos2 c2):=up2 hf2;have hc2':H4 c2=some (codeHO c2 q_tg):=up2 hc2;have tup4:=a_V s4 hT3;have hTwo4:Two H4 m m2 L W1 W2 B1 B2:=((hTwo2.1.same s3).tups tup4,(hTwo2.2.same s3).tups tup4);have hst4:aY .p H4 (bT B1 0 []) st:=hst3.same tup4;have hUx:∀u∈[f1,f2,f3,c1,c2,c3],∃φ,H4 u=some (.ext φ):=λu hu=>by
   simp only[mem_cons,not_mem_nil,or_false]at hu;rcases hu with rfl|rfl|rfl|rfl|rfl|rfl
   .exact (_,hf1')
   .exact (_,hf2')
   .exact (_,hf3)
   .exact (_,hc1')
   .exact (_,hc2')
   .exact (_,hc3)
  refine([f1,f2,f3,c1,c2,c3],hUx,λbase' Wd=>?_);obtain⟨doc1,pm1,ctv1,eb1⟩:=Wd.ext f1 _ (by simp) hf1';obtain⟨doc3,pm3,ctv3,eb2⟩:=Wd.ext f2 _ (by simp) hf2';obtain⟨pm4,ctv4,eb3⟩:=Wd.ext f3 _ (by simp) hf3;have cd1:base'.CodeRec (.ref c1) q_te:=Wd.ext c1 _ (by simp) hc1';have cd2:base'.CodeRec (.ref c2) q_tg:=Wd.ext c2 _ (by simp) hc2';have cd3:base'.CodeRec (.ref c3) q_tl:=Wd.ext c3 _ (by simp) hc3;have C1:a_w base' clos1 (a_a aI) ["ahead"] [.ref m]:=c_c Wd sub1 has1 rfl λi y v e1 e2=>by
   match i,e1,e2 with
   |0,e1,e2=>cases e1;cases e2;exact((2,rfl,rfl),rfl,rfl)
   |i+1,e1,_=>simp at e1
  have C2:a_w base' clos2 (a_a am) ["ahead","behind","entered"] [.ref m,.ref m2,.ref f1]:=c_c Wd sub2 has2 rfl λi y v e1 e2=>by
   match i,e1,e2 with
   |0,e1,e2=>cases e1;cases e2;exact((2,rfl,rfl),rfl,rfl)
   |1,e1,e2=>cases e1;cases e2;exact((3,rfl,rfl),rfl,rfl)
   |2,e1,e2=>cases e1;cases e2;exact((4,rfl,rfl),rfl,rfl)
   |i+3,e1,_=>simp at e1
  have C3:a_w base' clos3 l_scope ["behind"] [.ref m2]:=c_c Wd sub3 has3 rfl λi y v e1 e2=>by
   match i,e1,e2 with
   |0,e1,e2=>cases e1;cases e2;exact((3,rfl,rfl),rfl,rfl)
   |i+1,e1,_=>simp at e1
  have Fw:eC K "walked" "walked" a_o fw _:=((oc2,od2,.ref tD,kV2,doc2,pm2,an2,cdv2,ct2,osl2,rfl,lw,cw),kw);refine(5,b_O cW .p L (gTh W1 B1 W2) (qp B2) (uTh W1.length W2.length) (λH=>Two H m m2 L W1 W2 B1 B2) f2 f3,hr5,c_n Fw WT tlen tzip ((my eb2 cd2 C2 h1M h2M tzip (DL base') eb1 (.all λus hl=>by obtain⟨_,_,rfl⟩:=ln2 hl;rfl) (pD eb1 cd1 C1 h1M h2M h2w (DT base'))).mono (by decide)) ((mv eb3 cd3 C3 h2M (DH base')).mono (by decide)) eb2 (_,rfl) eb3 (_,rfl) (.all λus hl=>by obtain⟨_,rfl⟩:=ln1 hl;rfl) (.all λus hl=>by obtain⟨_,rfl⟩:=ln1 hl;rfl) (λ_ _ s h=>(h.1.same s,h.2.same s)),?_);have keepT:∀{b:Addr}{o:HO},H4 b=some o->(∀φ,o≠.ext φ)->b∉[f1,f2,f3,c1,c2,c3]:=λ{b o}e ho hb=>by
   obtain⟨φ,e2⟩:=hUx b hb;rw[e]at e2;exact ho φ (Option.some.inj e2)
  have tupU:∀b xs,H4 b=some (.tup xs)->untr [f1,f2,f3,c1,c2,c3] H4 b=some (.tup xs):=λb xs e=>by rw[a_q (keepT e (λ_ z=>nomatch z))];exact e
  have uLen:=nZ (n1:=W1.length) W2.length h1w;refine(bT B1 0 [],.ref st,none,rfl,h1M.lt,?_,gf h2w h2M.n1 h1M.n1 (by simp),oX h1M h2M h2w,le_trans uLen (by decide),(hTwo4.1.tups tupU,hTwo4.2.tups tupU),λwk t wd y md ks vks ws rows' R Bm H5 sm5 hW ht hth hwd hy hwr hmd bf ways bl mks sub le he hU5=>?_)
  .unfold ThV;rw[if_neg (by decide)];exact(st,rfl,hst4.same tupU)
  have hR:R.length=ks.length:=by
   rcases he with z|⟨n,z,_⟩
   .exact z
   .cases z
  have out:∀{b:Addr}{o:HO},H5 b=some o->retr [f1,f2,f3,c1,c2,c3] H4 H5 b=some o:=λ{b o}e=>by
   rw[a_O λhb=>?_]
   .exact e
   .rw [hU5 b hb]at e;cases e
  have fwd:∀{b:Addr}{o:HO},H4 b=some o->retr [f1,f2,f3,c1,c2,c3] H4 H5 b=some o:=λ{b o}e=>by
   by_cases hb:b∈[f1,f2,f3,c1,c2,c3]
   .rw [c_I hb];exact e
   .exact out (sm5 b o (by rw[a_q hb];exact e))
  rw[hR]at bf;obtain⟨dx,ew⟩:=hW.ex;have kT:KT ts H (retr [f1,f2,f3,c1,c2,c3] H4 H5):=(kA.trans (kB.trans ((KT.ofX nd i1 s12 hT hT2).trans ((KT.of s3).trans (KT.ofX nd i1 s4 hT3 hT4))))).trans (KT.of λb o e=>fwd e);have hRM:=c_k (Bm:=Bm) h1M.lt bf ways hR bl (le_trans le (le_trans uLen (by decide)));refine(wk,t,wd,y,md,rows',L,R,Bm,ws,rfl,(dx,out ew),out hy,(hwr.1,λi a r e1 e2=>out (hwr.2 i a r e1 e2)),out hmd,out hwd,by rw[hR];exact bf.len.symm,hRM,λi hi=>(_,b_H bf ways hR (qa2 (by rw[<-bf.len,<-hR];exact hi))),λH' s' _=>qE none H' (kT.trans (KT.of s')),λmm k ff H6 hm st6 hm8 s6 hf hMf=>?_);refine q ff _ _ H6 (kT.trans (KT.of s6)) hMf (b_V hm hRM) (c_N hm8) (c_q bf ways hR hRM st6 hm) λu hu=>?_;unfold Tks f_U;dsimp only;rw[b_K hm hRM st6 hu,b_M bf ways hR bl mks hu,ll h1M h2M h2w hu];constructor
  .rintro⟨x,v,rfl,e1,e2⟩;exact(x,v,rfl,by rw[<-hLe1.takes hNa1 λc hc=>hu c (by simp[hc])];exact e1,by rw[<-hLe2.takes hNa2 λc hc=>hu c (by simp[hc])];exact e2)
  .rintro⟨x,v,rfl,e1,e2⟩;exact(x,v,rfl,by rw[hLe1.takes hNa1 λc hc=>hu c (by simp[hc])];exact e1,by rw[hLe2.takes hNa2 λc hc=>hu c (by simp[hc])];exact e2)
end H
end K26
namespace K26
open PySem L2 RA
namespace A
theorem e_I:a_m [Q0,"piece","entered",Z7] [Q0] (a_a s_again):=fsc
set_option maxHeartbeats 8000000 in
theorem ok_again{P:Program}{w:World}{K:Frag}(nd:(ts.map Prod.fst).Nodup)(i0:(P0,sites,)∈ts)(i1:(P1,sitesA,)∈ts){oc kV doc pm ct oc2 kV2 doc2 pm2 cdv2 ct2 ocD:Value}(lk:K.lookup f=some (oc,od,.func (fnOf "again" "again" (a_g s_again) (a_e s_again) (a_a s_again) .none kV doc pm an (.ref c) ct),osl))(hcd:codeIn K (.ref c) "again"=true)(lw:K.lookup fw=some (oc2,od2,.func (fnOf "walked" "walked" (a_g a_o) (a_e a_o) (a_a a_o) (.ref tD) kV2 doc2 pm2 an2 cdv2 ct2),osl2))(cw:codeIn K cdv2 "walked"=true)(kw:keepIn K (.ref fw)=true)(mw:mg "walked"=some (.ref fw))(lD:K.lookup tD=some (ocD,odD,.seq #[.none] nD,slD))(WT:WkT K mg cW fI fdI)(tlen:mg "len"=none)(tzip:mg "zip"=none)(hC:CodeHd base c P1)(hB:d_g base mg)(DL:∀base:Heap,Df P w K mg base "lots_after" 1 [Q0,Q5] sp_lotsafter)(DH:∀base:Heap,Df P w K mg base "has_marked" 1 [Q0,Q5] sp_hasm)(DT:∀base:Heap,Df P w K mg base "lot_of" 1 [Q5] (sp_lot K))(y9:Df P w K mg base "least" 7 [Q0] (d_C P0 sites))(y7:DfX P w K mg base "told" 4 [Z0] (c_s cW cTM)):aa P w K mg base (CXE P w) 8 f (fnOf "again" "again" (a_g s_again) (a_e s_again) (a_a s_again) .none kV doc pm an (.ref c) ct) [Q0] (bt cTM ts Ag):=by
 refine c_Z lk hcd e_I (λvs H Q E h=>?_) (λA outer s H vs Q E hr h=>?_)
 .obtain ⟨m,L,W,B,rfl,_⟩:=h;rfl
 .obtain ⟨m0,L,W0,B0,rfl,hM0,hMa0,hW8,hA,qE,q⟩:=h;have hT0:=hA _ i0;have hr4:=hr.mono (j:=4) (by decide);have hr5:=hr.mono (j:=5) (by decide);refine(_,(a_b ((stS 1 e_I.nd ((a_H y9 hr (pq1 (pv 0)))))) (a_b ((b_S (i:=2) (qual:=q_ae) (c:=c) (P0:=P1) (sites:=sitesA) e_I.nd rfl (Or.inr rfl) rfl hC hB (by decide +kernel) (by decide +kernel))) (a_b ((b_S (i:=3) (qual:=q_ag) (c:=c) (P0:=P1) (sites:=sitesA) e_I.nd rfl (Or.inl rfl) rfl hC hB (by decide +kernel) (by decide +kernel))) (a_f (a_k (a_l y7 hr4 (a_d λ_ _ _ z=>z) (pq1 (e_n (dvs:=[.non]) rfl mw kw (c_r (kV:=kV2) (doc:=doc2) (pm:=pm2) (an:=an2) (cdv:=cdv2) (ct:=ct2) lD) (.cons rfl .nil) (a_T (xqV 1) (pq3 (c_J (pq2 d_t (c_J (pq1 pe_int)))) (pv 3) (f_R (qual:=q_al) (c:=c) (P0:=P1) (sites:=sitesA) rfl hC hB (by decide +kernel) (by decide +kernel)))) (λ_=>rfl))))))))),?_);refine(_,rfl,m0,L,W0,B0,rfl,hM0,hMa0,hT0,λm W B H0 s0 hT0' hM hLe=>?_);have hMa:=hLe.mach;have h8:W.length≤8:=le_trans hLe.len hW8;have kA:KT ts H H0:=KT.ofX nd i0 s0 hT0 hT0';have hT:b_G H0 P1 sitesA:=kA.tb hA _ i1;refine(hT,λclos1 f1 c1 H1 sub1 has1 fr1 ne1 s1 hT1 hc1 hf1=>(hT1,λclos2 f2 c2 H2 sub2 has2 fr2 ne2 s2 hT2 hc2 hf2=>?_));have s12:c_A P1 H0 H2:=b_s s1 s2;have hM2:a_n H2 m L W B:=hM.tups (a_V s12 hT);obtain⟨wy,mk,rows,h1,h2,h3,h4,h5⟩:=id hM2;refine(ivT h1 aK (a_j (by show 1≤16777216;decide),λzt hzt=>(a_j (by show 2≤16777216;decide),λst hst=>?_)));have s3:Same H2 (L2.upd (L2.upd H2 zt (.tup [.int 0])) st (.tup [.bl true,.ref zt])):=(Same.upd hzt).trans (Same.upd hst);have hst3:aY .q (L2.upd (L2.upd H2 zt (.tup [.int 0])) st (.tup [.bl true,.ref zt])) [1,0] st:=(zt,1,[0],rfl,le_refl _,a_c,a_i a_c hst);generalize L2.upd (L2.upd H2 zt (.tup [.int 0])) st (.tup [.bl true,.ref zt])=H3 at s3 hst3;have hT3:=b_X hT2 s3;refine(_,rfl,hT3,λclos3 f3 c3 H4 sub3 has3 fr3 ne3 s4 hT4 hc3 hf3=>?_);obtain⟨ps1,hP1,_⟩:=id hT1;obtain⟨ps2,hP2,_⟩:=id hT2;obtain⟨ps4,hP4,ht4,hall4⟩:=id hT4;have nP1:∀{b:Addr}{φ:Heap->Prop},H1 b=some (.ext φ)->b≠P1:=λ{b φ}e z=>by rw[z,hP1]at e;cases e
  have nP2:∀{b:Addr}{φ:Heap->Prop},H2 b=some (.ext φ)->b≠P1:=λ{b φ}e z=>by rw[z,hP2]at e;cases e
  have up2:∀{b:Addr}{φ:Heap->Prop},H2 b=some (.ext φ)->H4 b=some (.ext φ):=λe=>s4 _ _ (nP2 e) (s3 _ _ e);have up1:∀{b:Addr}{φ:Heap->Prop},H1 b=some (.ext φ)->H4 b=some (.ext φ):=λe=>up2 (s2 _ _ (nP1 e) e);have hf1':H4 f1=some (fnHO f1 "entered" q_ae (a_g bc) (a_e bc) (a_a bc) clos1 c1):=up1 hf1;have hc1':H4 c1=some (codeHO c1 q_ae):=up1 hc1;have hf2':H4 f2=some (fnHO f2 Z7 q_ag (a_g aX) (a_e aX) (a_a aX) clos2 c2):=up2 hf2;have hc2':H4 c2=some (codeHO c2 q_ag):=up2 hc2;have tup4:=a_V s4 hT3;have hM4:a_n H4 m L W B:=(hM2.same s3).tups tup4;have hst4:aY .q H4 [1,0] st:=hst3.same tup4;have hUx:∀u∈[f1,f2,f3,c1,c2,c3],∃φ,H4 u=some (.ext φ):=λu hu=>by
   simp only[mem_cons,not_mem_nil,or_false]at hu;rcases hu with rfl|rfl|rfl|rfl|rfl|rfl
   .exact (_,hf1')
   .exact (_,hf2')
   .exact (_,hf3)
   .exact (_,hc1')
   .exact (_,hc2')
   .exact (_,hc3)
  refine([f1,f2,f3,c1,c2,c3],hUx,λbase' Wd=>?_);obtain⟨doc1,pm1,ctv1,eb1⟩:=Wd.ext f1 _ (by simp) hf1';obtain⟨doc3,pm3,ctv3,eb2⟩:=Wd.ext f2 _ (by simp) hf2';obtain⟨pm4,ctv4,eb3⟩:=Wd.ext f3 _ (by simp) hf3;have cd1:base'.CodeRec (.ref c1) q_ae:=Wd.ext c1 _ (by simp) hc1';have cd2:base'.CodeRec (.ref c2) q_ag:=Wd.ext c2 _ (by simp) hc2';have cd3:base'.CodeRec (.ref c3) q_al:=Wd.ext c3 _ (by simp) hc3;have C1:a_w base' clos1 (a_a bc) ["piece"] [.ref m]:=c_c Wd sub1 has1 rfl λi y v e1 e2=>by
   match i,e1,e2 with
   |0,e1,e2=>cases e1;cases e2;exact((1,rfl,rfl),rfl,rfl)
   |i+1,e1,_=>simp at e1
  have C2:a_w base' clos2 (a_a aX) ["entered","piece"] [.ref f1,.ref m]:=c_c Wd sub2 has2 rfl λi y v e1 e2=>by
   match i,e1,e2 with
   |0,e1,e2=>cases e1;cases e2;exact((2,rfl,rfl),rfl,rfl)
   |1,e1,e2=>cases e1;cases e2;exact((1,rfl,rfl),rfl,rfl)
   |i+2,e1,_=>simp at e1
  have C3:=Tu.gw (sc:=l_scope) Wd sub3 has3;have Fw:eC K "walked" "walked" a_o fw _:=((oc2,od2,.ref tD,kV2,doc2,pm2,an2,cdv2,ct2,osl2,rfl,lw,cw),kw);refine(5,b_O cW .q L (gAg W B) qq (uAg W.length) (λH=>a_n H m L W B) f2 f3,hr5,c_n Fw WT tlen tzip ((rY eb2 cd2 C2 hMa h8 (DL base') eb1 (.all λus hl=>by obtain⟨_,rfl⟩:=ln1 hl;rfl) (rZ eb1 cd1 C1 hMa h8 (DH base') (DT base'))).mono (by decide)) ((rX eb3 cd3 C3 _ _).mono (by decide)) eb2 (_,rfl) eb3 (_,rfl) (.all λus hl=>by obtain⟨_,rfl⟩:=ln1 hl;rfl) (.all λus hl=>by obtain⟨_,rfl⟩:=ln1 hl;rfl) (λ_ _ s h=>h.same s),?_);have keepT:∀{b:Addr}{o:HO},H4 b=some o->(∀φ,o≠.ext φ)->b∉[f1,f2,f3,c1,c2,c3]:=λ{b o}e ho hb=>by
   obtain⟨φ,e2⟩:=hUx b hb;rw[e]at e2;exact ho φ (Option.some.inj e2)
  have tupU:∀b xs,H4 b=some (.tup xs)->untr [f1,f2,f3,c1,c2,c3] H4 b=some (.tup xs):=λb xs e=>by rw[a_q (keepT e (λ_ z=>nomatch z))];exact e
  refine([1,0],.ref st,none,rfl,hMa.lt,?_,uAg_mem (l:=[0]) (by simp) (le_refl _) (λx hx=>by rw[qb1 hx];exact hMa.n1),gAg_mem hMa h8,le_trans (iS _) (by decide),hM4.tups tupU,λwk t wd y md ks vks ws rows' R Bm H5 sm5 hW ht hth hwd hy hwr hmd bf ways bl mks sub le he hU5=>?_)
  .unfold ThV;rw[if_neg (by decide)];exact(st,rfl,hst4.same tupU)
  have hR:R.length=ks.length:=by
   rcases he with z|⟨n,z,_⟩
   .exact z
   .cases z
  have out:∀{b:Addr}{o:HO},H5 b=some o->retr [f1,f2,f3,c1,c2,c3] H4 H5 b=some o:=λ{b o}e=>by
   rw[a_O λhb=>?_]
   .exact e
   .rw [hU5 b hb]at e;cases e
  have fwd:∀{b:Addr}{o:HO},H4 b=some o->retr [f1,f2,f3,c1,c2,c3] H4 H5 b=some o:=λ{b o}e=>by
   by_cases hb:b∈[f1,f2,f3,c1,c2,c3]
   .rw [c_I hb];exact e
   .exact out (sm5 b o (by rw[a_q hb];exact e))
  rw[hR]at bf;obtain⟨dx,ew⟩:=hW.ex;have kT:KT ts H (retr [f1,f2,f3,c1,c2,c3] H4 H5):=(kA.trans ((KT.ofX nd i1 s12 hT hT2).trans ((KT.of s3).trans (KT.ofX nd i1 s4 hT3 hT4)))).trans (KT.of λb o e=>fwd e);have hRM:=c_k (Bm:=Bm) hMa.lt bf ways hR bl (le_trans le (le_trans (iS _) (by decide)));refine(wk,t,wd,y,md,rows',L,R,Bm,ws,rfl,(dx,out ew),out hy,(hwr.1,λi a r e1 e2=>out (hwr.2 i a r e1 e2)),out hmd,out hwd,by rw[hR];exact bf.len.symm,hRM,λi hi=>(_,b_H bf ways hR (qa2 (by rw[<-bf.len,<-hR];exact hi))),λH' s' _=>qE none H' (kT.trans (KT.of s')),λmm k ff H6 hm st6 hm8 s6 hf hMf=>?_);refine q ff _ _ H6 (kT.trans (KT.of s6)) hMf (b_V hm hRM) (c_N hm8) (c_q bf ways hR hRM st6 hm) λu hu=>?_;unfold Tks;rw[b_K hm hRM st6 hu,b_M bf ways hR bl mks hu,nJ hMa h8 hu];have tk:∀v:LN,(∀c∈v,c∈u)->B.getD (run L W 0 v) false=B0.getD (run L W0 0 v) false:=λv hv=>hLe.takes hMa0 λc hc=>hu c (hv c hc);exact(λz=>z.congr tk,λz=>z.congr λv hv=>(tk v hv).symm)
end A
end K26
namespace K26
open PySem L2 RA
def b_P(P:Program)(w:World)(K:Frag)(mg:Str->Option Value)(cTM:Addr)(ts:List (Addr×List (Pos×Str))):Sp:=λvs H Q E=>∃(m m2 g cg:Addr)(L:LN)(W1 W2:LL)(B1 B2:List Bool)(rule:Bool->Bool->Bool),vs=[.ref m,.ref m2,.ref g]/\a_n H m L W1 B1/\Mach L W1 B1/\a_n H m2 L W2 B2/\Mach L W2 B2/\W1.length≤8/\W2.length≤8/\qM P w K mg H g cg rule/\gG ts H/\(∀d H',KT ts H H'->E (.ref cTM) d H')/\
 ∀(f:Addr)(W':LL)(B':List Bool)(H':Hp),KT ts H H'->a_n H' f L W' B'->Mach L W' B'->W'.length≤8->(∃v,c_j L W' B' v)->(∀u:LN,(∀c∈u,c∈L)->(Tks L W' B' u=true↔b_F rule (Tks L W1 B1) (Tks L W2 B2) u))->Q (.ref f) H'
theorem f_a:a_m [Q0,Q3,"is_wanted",Z7,Q9] [Q0,Q3,"is_wanted"] (a_a a_C):=fsc
set_option maxHeartbeats 8000000 in
theorem kf{P:Program}{w:World}{K:Frag}(nd:(ts.map Prod.fst).Nodup)(i1:(P1,bu,)∈ts){oc kV doc pm ct oc2 kV2 doc2 pm2 cdv2 ct2 ocD:Value}(lk:K.lookup f=some (oc,od,.func (fnOf "paired" "paired" (a_g a_C) (a_e a_C) (a_a a_C) .none kV doc pm an (.ref c) ct),osl))(hcd:codeIn K (.ref c) "paired"=true)(lw:K.lookup fw=some (oc2,od2,.func (fnOf "walked" "walked" (a_g a_o) (a_e a_o) (a_a a_o) (.ref tD) kV2 doc2 pm2 an2 cdv2 ct2),osl2))(cw:codeIn K cdv2 "walked"=true)(kw:keepIn K (.ref fw)=true)(mw:mg "walked"=some (.ref fw))(lD:K.lookup tD=some (ocD,odD,.seq #[.none] nD,slD))(WT:WkT K mg cW fI fdI)(tlen:mg "len"=none)(tzip:mg "zip"=none)(tlist:mg "list"=none)(hC:CodeHd base c P1)(hB:d_g base mg)(yu:DfX P w K mg base "need_same_letters" 1 [Q0,Q3] (c_t cOL))(y7:DfX P w K mg base "told" 4 [Z0] (c_s cW cTM)):aa P w K mg base (CXE P w) 6 f (fnOf "paired" "paired" (a_g a_C) (a_e a_C) (a_a a_C) .none kV doc pm an (.ref c) ct) [Q0,Q3,"is_wanted"] (b_P P w K mg cTM ts):=by
 refine c_Z lk hcd f_a (λvs H Q E h=>?_) (λA outer s H vs Q E hr h=>?_)
 .obtain ⟨m,m2,g,cg,L,W1,W2,B1,B2,rule,rfl,_⟩:=h;rfl
 .obtain ⟨m,m2,g,cg,L,W1,W2,B1,B2,rule,rfl,hM1,h1M,hM2,h2M,h18,h28,hRu,hA,qE,q⟩:=h;have hT:=hA _ i1;have hr1:=hr.mono (j:=1) (by decide);have hr4:=hr.mono (j:=4) (by decide);refine(_,(a_b (b_j (a_l yu hr1 (a_d λ_ _ _ z=>z) (pq2 (pv 0) (pv 1)))) (a_b ((b_S (i:=3) (qual:=q_pg) (c:=c) (P0:=P1) (sites:=bu) f_a.nd rfl (Or.inl rfl) rfl hC hB (by decide +kernel) (by decide +kernel))) (a_b ((b_S (i:=4) (qual:=q_pm) (c:=c) (P0:=P1) (sites:=bu) f_a.nd rfl (Or.inl rfl) rfl hC hB (by decide +kernel) (by decide +kernel))) (a_f (a_k (a_l y7 hr4 (a_d λ_ _ _ z=>z) (pq1 (e_n (dvs:=[.non]) rfl mw kw (c_r (kV:=kV2) (doc:=doc2) (pm:=pm2) (an:=an2) (cdv:=cdv2) (ct:=ct2) lD) (.cons rfl .nil) (a_T (xqV 0) (pq3 (c_J (pq2 pe_int pe_int)) (pv 3) (pv 4))) (λ_=>rfl))))))))),?_);refine(_,rfl,_,rfl,m,m2,L,L,W1,B1,W2,B2,rfl,hM1,h1M,hM2,h2M,λz=>absurd rfl z,λ_=>?_);refine(hT,λclos1 f1 c1 H1 sub1 has1 fr1 ne1 s1 hT1 hc1 hf1=>(hT1,λclos2 f2 c2 H2 sub2 has2 fr2 ne2 s2 hT2 hc2 hf2=>?_));have s12:c_A P1 H H2:=b_s s1 s2;have hA2:a_n H2 m L W1 B1:=hM1.tups (a_V s12 hT);have hB2:a_n H2 m2 L W2 B2:=hM2.tups (a_V s12 hT);obtain⟨ps0,hP0,_⟩:=id hT;obtain⟨ps1,hP1,_⟩:=id hT1;obtain⟨qual,params,body,sc,clos,hg0,hcg0,hFn,hBd⟩:=hRu.ex;have nP:∀{b:Addr}{φ:Heap->Prop},H1 b=some (.ext φ)->b≠P1:=λ{b φ}e z=>by rw[z,hP1]at e;cases e
  have nP0:∀{b:Addr}{φ:Heap->Prop},H b=some (.ext φ)->b≠P1:=λ{b φ}e z=>by rw[z,hP0]at e;cases e
  have hg2:=s12 g _ (nP0 hg0) hg0;have hcg2:=s12 cg _ (nP0 hcg0) hcg0;have hf1':H2 f1=some (fnHO f1 Z7 q_pg (a_g bb) (a_e bb) (a_a bb) clos1 c1):=s2 f1 _ (nP hf1) hf1;have hc1':H2 c1=some (codeHO c1 q_pg):=s2 c1 _ (nP hc1) hc1;have hf2':H2 f2=some (fnHO f2 Q9 q_pm (a_g ba) (a_e ba) (a_a ba) clos2 c2):=hf2;obtain⟨wy,mk,rows,h1,h2,h3,h4,h5⟩:=id hA2;refine(ivT h1 aK (a_j (by show 2≤16777216;decide),λst hst=>?_));have s3:Same H2 (L2.upd H2 st (.tup [.int 0,.int 0])):=Same.upd hst;have hst3:L2.upd H2 st (.tup [.int 0,.int 0]) st=some (.tup (intsV [0,0])):=a_c;generalize L2.upd H2 st (.tup [.int 0,.int 0])=H3 at s3 hst3;have hA3:=hA2.same s3;have hB3:=hB2.same s3;obtain⟨ps3,hP3,ht3,hall3⟩:=b_X hT2 s3;have hUx:∀u∈[f1,f2,c1,c2,g,cg],∃φ,H3 u=some (.ext φ):=λu hu=>by
   simp only[mem_cons,not_mem_nil,or_false]at hu;rcases hu with rfl|rfl|rfl|rfl|rfl|rfl
   .exact (_,s3 _ _ hf1')
   .exact (_,s3 _ _ hf2')
   .exact (_,s3 _ _ hc1')
   .exact (_,s3 _ _ hc2)
   .exact (_,s3 _ _ hg2)
   .exact (_,s3 _ _ hcg2)
  refine(_,rfl,_,rfl,[f1,f2,c1,c2,g,cg],hUx,λbase' Wd=>?_);obtain⟨doc1,pm1,ctv1,eb1⟩:=Wd.ext f1 _ (by simp) (s3 _ _ hf1');obtain⟨doc3,pm3,ctv3,eb2⟩:=Wd.ext f2 _ (by simp) (s3 _ _ hf2');obtain⟨pm4,ctv4,eb3⟩:=Wd.ext g _ (by simp) (s3 _ _ hg2);have cd1:base'.CodeRec (.ref c1) q_pg:=Wd.ext c1 _ (by simp) (s3 _ _ hc1');have cd2:base'.CodeRec (.ref c2) q_pm:=Wd.ext c2 _ (by simp) (s3 _ _ hc2);have cd3:base'.CodeRec (.ref cg) qual:=Wd.ext cg _ (by simp) (s3 _ _ hcg2);have C1:a_w base' clos1 (a_a bb) [Q0,Q3] [.ref m,.ref m2]:=c_c Wd sub1 has1 rfl λi y v e1 e2=>by
   match i,e1,e2 with
   |0,e1,e2=>cases e1;cases e2;exact((0,rfl,rfl),rfl,rfl)
   |1,e1,e2=>cases e1;cases e2;exact((1,rfl,rfl),rfl,rfl)
   |i+2,e1,_=>simp at e1
  have C2:a_w base' clos2 (a_a ba) ["is_wanted",Q0,Q3] [.ref g,.ref m,.ref m2]:=c_c Wd sub2 has2 rfl λi y v e1 e2=>by
   match i,e1,e2 with
   |0,e1,e2=>cases e1;cases e2;exact((2,rfl,rfl),rfl,rfl)
   |1,e1,e2=>cases e1;cases e2;exact((0,rfl,rfl),rfl,rfl)
   |2,e1,e2=>cases e1;cases e2;exact((1,rfl,rfl),rfl,rfl)
   |i+3,e1,_=>simp at e1
  have Fw:eC K "walked" "walked" a_o fw _:=((oc2,od2,.ref tD,kV2,doc2,pm2,an2,cdv2,ct2,osl2,rfl,lw,cw),kw);refine(5,b_O cW .t L (gP W1 W2) (mkP rule B1 B2) (uP W1.length W2.length) (λH=>Two H m m2 L W1 W2 B1 B2) f1 f2,hr,c_n Fw WT tlen tzip ((rW eb1 cd1 C1 h1M h2M tlist tzip).mono (by decide)) ((rV eb2 cd2 C2 h1M h2M eb3 (hBd pm4 ctv4) (hFn base' pm4 ctv4 eb3 cd3)).mono (by decide)) eb1 (_,rfl) eb2 (_,rfl) (.all λus hl=>by obtain⟨_,rfl⟩:=ln1 hl;rfl) (.all λus hl=>by obtain⟨_,rfl⟩:=ln1 hl;rfl) (λ_ _ s h=>(h.1.same s,h.2.same s)),?_);have keepT:∀{b:Addr}{o:HO},H3 b=some o->(∀φ,o≠.ext φ)->b∉[f1,f2,c1,c2,g,cg]:=λ{b o}e ho hb=>by
   obtain⟨φ,e2⟩:=hUx b hb;rw[e]at e2;exact ho φ (Option.some.inj e2)
  have tupU:∀b xs,H3 b=some (.tup xs)->untr [f1,f2,c1,c2,g,cg] H3 b=some (.tup xs):=λb xs e=>by rw[a_q (keepT e (λ_ z=>nomatch z))];exact e
  refine([0,0],.ref st,none,rfl,h1M.lt,?_,lg h1M.n1 h2M.n1,qR h1M h2M,le_trans (pk h18 h28) (by decide),(hA3.tups tupU,hB3.tups tupU),λwk t wd y md ks vks ws rows' R Bm H5 sm5 hW ht hth hwd hy hwr hmd bf ways bl mks sub le he hU5=>?_)
  .unfold ThV;rw[if_neg (by decide)];exact(st,rfl,tupU _ _ hst3)
  have hR:R.length=ks.length:=by
   rcases he with z|⟨n,z,_⟩
   .exact z
   .cases z
  have out:∀{b:Addr}{o:HO},H5 b=some o->retr [f1,f2,c1,c2,g,cg] H3 H5 b=some o:=λ{b o}e=>by
   rw[a_O λhb=>?_]
   .exact e
   .rw [hU5 b hb]at e;cases e
  have fwd:∀{b:Addr}{o:HO},H3 b=some o->retr [f1,f2,c1,c2,g,cg] H3 H5 b=some o:=λ{b o}e=>by
   by_cases hb:b∈[f1,f2,c1,c2,g,cg]
   .rw [c_I hb];exact e
   .exact out (sm5 b o (by rw[a_q hb];exact e))
  rw[hR]at bf;obtain⟨dx,ew⟩:=hW.ex;have kT:KT ts H (retr [f1,f2,c1,c2,g,cg] H3 H5):=(KT.ofX nd i1 s12 hT hT2).trans (KT.of λb o e=>fwd (s3 _ _ e));have le64:=le_trans le (pk h18 h28);have hRM:=c_k (Bm:=Bm) h1M.lt bf ways hR bl (le_trans le64 (by decide));refine(wk,t,wd,y,md,rows',L,R,Bm,ws,rfl,(dx,out ew),out hy,(hwr.1,λi a r e1 e2=>out (hwr.2 i a r e1 e2)),out hmd,out hwd,by rw[hR];exact bf.len.symm,hRM,λi hi=>(_,b_H bf ways hR (qa2 (by rw[<-bf.len,<-hR];exact hi))),λH' s' _=>qE none H' (kT.trans (KT.of s')),λmm k ff H6 hm st6 hm8 s6 hf hMf=>?_);refine q ff _ _ H6 (kT.trans (KT.of s6)) hMf (b_V hm hRM) (c_N hm8) (c_q bf ways hR hRM st6 hm) λu hu=>?_;unfold Tks b_F;rw[b_K hm hRM st6 hu,b_M bf ways hR bl mks hu,rK];rfl
set_option maxHeartbeats 8000000 in
theorem kg{P:Program}(nd:(ts.map Prod.fst).Nodup)(i1:(Pj,b_Y,)∈ts){oc kV doc pm ct:Value}(lk:K.lookup f=some (oc,od,.func (fnOf "either" "either" (a_g a_Y) (a_e a_Y) (a_a a_Y) .none kV doc pm an (.ref c) ct),osl))(hcd:codeIn K (.ref c) "either"=true)(hC:CodeHd base c Pj)(hB:d_g base mg)(yj:DfX P w K mg base "paired" 6 [Q0,Q3,"is_wanted"] (b_P P w K mg cTM ts)):aa P w K mg base (CXE P w) 7 f (fnOf "either" "either" (a_g a_Y) (a_e a_Y) (a_a a_Y) .none kV doc pm an (.ref c) ct) [Q0,Q3] (aP cTM ts (b_F (λa b=>a||b))):=by
 refine c_Z lk hcd jT (λvs H Q E h=>?_) (λA outer s H vs Q E hr h=>?_)
 .obtain ⟨m,m2,L,W1,W2,B1,B2,rfl,_⟩:=h;rfl
 .obtain ⟨m,m2,L,W1,W2,B1,B2,rfl,hM1,h1M,hM2,h2M,h18,h28,hA,qE,q⟩:=h;have hTj:=hA _ i1;refine(_,(a_f (a_k (a_l yj hr (a_d λ_ _ _ z=>z) (pq3 (pv 0) (pv 1) (f_R (qual:=d_I) (c:=c) (P0:=Pj) (sites:=b_Y) rfl hC hB (by decide +kernel) (by decide +kernel)))))),?_);refine(_,rfl,_,rfl,hTj,λclos g cg H1 sub has fr ne s1 hT1 hcg hg=>?_);have kA:KT ts H H1:=KT.ofX nd i1 s1 hTj hT1;have sT:=kA.sm;have hno:∀y,clos.lookup y=none:=λy=>by
   cases e:clos.lookup y with
   |none=>rfl
   |some a=>exact nomatch (show(none:Option Addr)=some a from sub y a e)
  exact(m,m2,g,cg,L,W1,W2,B1,B2,(λa b=>a||b),rfl,hM1.tups sT.tup,h1M,hM2.tups sT.tup,h2M,h18,h28,(_,_,_,_,clos,hg,hcg,λbase' pm ctv eb cd=>j9 eb cd (d7 hno (by decide +kernel)),λpm ctv=>.all λus hl=>by obtain⟨_,_,rfl⟩:=ln2 hl;rfl),kA.tb hA,λd H' k=>qE d H' (kA.trans k),λff W' B' H' k=>q ff W' B' H' (kA.trans k))
set_option maxHeartbeats 8000000 in
theorem oH{P:Program}(nd:(ts.map Prod.fst).Nodup)(i1:(Pj,c_Q,)∈ts){oc kV doc pm ct:Value}(lk:K.lookup f=some (oc,od,.func (fnOf "both" "both" (a_g c_C) (a_e c_C) (a_a c_C) .none kV doc pm an (.ref c) ct),osl))(hcd:codeIn K (.ref c) "both"=true)(hC:CodeHd base c Pj)(hB:d_g base mg)(yj:DfX P w K mg base "paired" 6 [Q0,Q3,"is_wanted"] (b_P P w K mg cTM ts)):aa P w K mg base (CXE P w) 7 f (fnOf "both" "both" (a_g c_C) (a_e c_C) (a_a c_C) .none kV doc pm an (.ref c) ct) [Q0,Q3] (aP cTM ts (b_F (λa b=>a&&b))):=by
 refine c_Z lk hcd oj (λvs H Q E h=>?_) (λA outer s H vs Q E hr h=>?_)
 .obtain ⟨m,m2,L,W1,W2,B1,B2,rfl,_⟩:=h;rfl
 .obtain ⟨m,m2,L,W1,W2,B1,B2,rfl,hM1,h1M,hM2,h2M,h18,h28,hA,qE,q⟩:=h;have hTj:=hA _ i1;refine(_,(a_f (a_k (a_l yj hr (a_d λ_ _ _ z=>z) (pq3 (pv 0) (pv 1) (f_R (qual:=bx) (c:=c) (P0:=Pj) (sites:=c_Q) rfl hC hB (by decide +kernel) (by decide +kernel)))))),?_);refine(_,rfl,_,rfl,hTj,λclos g cg H1 sub has fr ne s1 hT1 hcg hg=>?_);have kA:KT ts H H1:=KT.ofX nd i1 s1 hTj hT1;have sT:=kA.sm;have hno:∀y,clos.lookup y=none:=λy=>by
   cases e:clos.lookup y with
   |none=>rfl
   |some a=>exact nomatch (show(none:Option Addr)=some a from sub y a e)
  exact(m,m2,g,cg,L,W1,W2,B1,B2,(λa b=>a&&b),rfl,hM1.tups sT.tup,h1M,hM2.tups sT.tup,h2M,h18,h28,(_,_,_,_,clos,hg,hcg,λbase' pm ctv eb cd=>oE eb cd (d7 hno (by decide +kernel)),λpm ctv=>.all λus hl=>by obtain⟨_,_,rfl⟩:=ln2 hl;rfl),kA.tb hA,λd H' k=>qE d H' (kA.trans k),λff W' B' H' k=>q ff W' B' H' (kA.trans k))
set_option maxHeartbeats 8000000 in
theorem oG{P:Program}(nd:(ts.map Prod.fst).Nodup)(i1:(Pj,c_P,)∈ts){oc kV doc pm ct:Value}(lk:K.lookup f=some (oc,od,.func (fnOf "less" "less" (a_g c_B) (a_e c_B) (a_a c_B) .none kV doc pm an (.ref c) ct),osl))(hcd:codeIn K (.ref c) "less"=true)(hC:CodeHd base c Pj)(hB:d_g base mg)(yj:DfX P w K mg base "paired" 6 [Q0,Q3,"is_wanted"] (b_P P w K mg cTM ts)):aa P w K mg base (CXE P w) 7 f (fnOf "less" "less" (a_g c_B) (a_e c_B) (a_a c_B) .none kV doc pm an (.ref c) ct) [Q0,Q3] (aP cTM ts (b_F (λa b=>a&&!b))):=by
 refine c_Z lk hcd oi (λvs H Q E h=>?_) (λA outer s H vs Q E hr h=>?_)
 .obtain ⟨m,m2,L,W1,W2,B1,B2,rfl,_⟩:=h;rfl
 .obtain ⟨m,m2,L,W1,W2,B1,B2,rfl,hM1,h1M,hM2,h2M,h18,h28,hA,qE,q⟩:=h;have hTj:=hA _ i1;refine(_,(a_f (a_k (a_l yj hr (a_d λ_ _ _ z=>z) (pq3 (pv 0) (pv 1) (f_R (qual:=bw) (c:=c) (P0:=Pj) (sites:=c_P) rfl hC hB (by decide +kernel) (by decide +kernel)))))),?_);refine(_,rfl,_,rfl,hTj,λclos g cg H1 sub has fr ne s1 hT1 hcg hg=>?_);have kA:KT ts H H1:=KT.ofX nd i1 s1 hTj hT1;have sT:=kA.sm;have hno:∀y,clos.lookup y=none:=λy=>by
   cases e:clos.lookup y with
   |none=>rfl
   |some a=>exact nomatch (show(none:Option Addr)=some a from sub y a e)
  exact(m,m2,g,cg,L,W1,W2,B1,B2,(λa b=>a&&!b),rfl,hM1.tups sT.tup,h1M,hM2.tups sT.tup,h2M,h18,h28,(_,_,_,_,clos,hg,hcg,λbase' pm ctv eb cd=>oB eb cd (d7 hno (by decide +kernel)),λpm ctv=>.all λus hl=>by obtain⟨_,_,rfl⟩:=ln2 hl;rfl),kA.tb hA,λd H' k=>qE d H' (kA.trans k),λff W' B' H' k=>q ff W' B' H' (kA.trans k))
section
variable{P:Program}{w:World}{K:Frag}{mg:Str->Option Value}{base:Heap}{P0 PT cW cTM:Addr}{ts:List (Addr×List (Pos×Str))}{tabs:List (Addr×Addr)}{cA_ cG_:Addr}
theorem d_l:a_m ["values","numbers","value"] ["values"] (a_a e_m):=fsc
theorem ok_numbered(F:Fun K "numbered" "numbered" e_m f fd)(T:Txt K mg cA_ cG_):aa P w K mg base CX0 1 f fd ["values"] sp_numbered:=by
 refine F.okA d_l ?_;rintro _ _ _ _ H _ _ _ hr⟨a,o,xs,ks,nest,rfl,ho,hH,hl,h1000,hk,q⟩;refine(_,(a_b ((stS 1 d_l.nd (oz))) (a_b ((c_m PassesOwn.never rfl (d_K (pv 0)) (pgN 2 d_l.nd) ((a_f ((a_W (a_S (j8 hr.units) (pv 2) (pv 1) (by with_unfolding_all rfl)) ((a_f (ps_asg (a_I call_lenD (by rfl) T.len boot_len (pq1 (pv 1))) (pg_sub (pv 1) (pv 2) (set_dictG hr.units))))) (a_t))))))) (a_f (a_k (b_w ["values","numbers","?"] rfl (by decide) (d_K (pv 0)) (λcl C fp s' H'=>(a_M,pe_ix (ky P w hr.units) (pv 2) (pv 0) (λ_ _=>rfl)))))))),?_);have hz:xs.length≤sizeLine:=a_j (by rw[hl];exact le_trans h1000 (by decide));have keyOf:∀{i:Nat}{x:V},xs[i]?=some x->∃k,ks[i]?=some k/\gF H k x/\isN k=nest:=λ{i x}hx=>by
  have hi:i<ks.length:=by rw[<-hl];exact(qa1 hx).1
  exact(ks[i],qa2 hi,hk i _ x (qa2 hi) hx)
 refine(if nest=true then .nest else .bl,λd hd=>?_);refine(_,rfl,a,o,xs,rfl,ho,a_i hH hd,λJ ov=>fR ov (λi σ' H'=>∃v0 ob,σ'=[some (.ref a),some (.ref d),v0]/\H'=L2.upd H d ob/\NumAt P w H' d nest (ks.take i)) (none,_,rfl,rfl,NumAt.new P w H d nest) ?_ ?_ ?_)
 .rintro i σ' H'⟨v0,ob,rfl,rfl,_⟩;exact a_i hH hd
 .rintro i x σ' H' hx⟨v0,ob,rfl,rfl,hn⟩;obtain⟨k,hki,hkv,hkn⟩:=keyOf hx;have hkv':gF (L2.upd H d ob) k x:=hkv.stay λb ys z=>a_i z hd;refine(_,rfl,_,rfl,d,_,rfl,hn.get hkv' hkn,_,rfl,?_);by_cases hm:k∈dis (ks.take i)
  .rw [show(!(dE (ks.take i) k).isSome)=false by rw[dE,if_pos hm];rfl];refine ag (_,_,rfl,rfl,?_);rw[a_U hki];exact hn.same hm
  .rw [show(!(dE (ks.take i) k).isSome)=true by rw[dE,if_neg hm];rfl];have hdl:(dis (ks.take i)).length<sizeLine:=by
    have h1:=jv (ks.take i);have h2:(ks.take i).length≤2100:=by rw[length_take];exact le_trans (Nat.min_le_right _ _) h1000
    exact lt_of_lt_of_le (Nat.lt_succ_of_le (le_trans h1 h2)) (a_j (by decide))
   obtain⟨ob2,hput,hn2⟩:=hn.put hkv' hkn hm hdl;refine au (_,rfl,d,_,rfl,hn.len,_,rfl,_,rfl,d,_,rfl,hput,?_);refine(some x,ob2,rfl,g_g,?_);rw[a_U hki];exact hn2
 .rintro σ' H'⟨v0,ob,rfl,rfl,hn⟩;rw[hl,take_length]at hn;have hH1:L2.upd H d ob a=some o:=a_i hH hd;have sm1:Same H (L2.upd H d ob):=Same.upd hd;refine(_,rfl,a,o,xs,rfl,ho,hH1,λJ ov=>f_z ov hH1 (λD j ys H'=>ys=(intsV (ao ks)).take j) hz (λD hD=>by simp) ?_ ?_)
  .intro D j x ys H' R1 R2 hD hx hsm hDl hp k1 k2;obtain⟨k,hki,hkv,hkn⟩:=keyOf hx;have hm:k∈dis ks:=mem_dis.mpr (qb2 hki);have hg:=(hn.mono hsm).get (hkv.stay λb ys z=>(sm1.trans hsm) _ _ z) hkn;rw[show dE ks k=some _ from if_pos hm]at hg;refine tAlways_if (_,rfl,_,rfl,d,_,rfl,hg,k1 _ H' hDl (Same.set hsm hD) ?_);rw[hp];refine(a_U ?_).symm;rw[intsV,ao,List.map_map,qa6,hki];rfl
  .intro D ys H' hD hsm hDl hp;refine q D H' (sm1.trans hsm) ?_;rw[hDl,hp,hl,take_of_length_le (by rw[intsV_len,d_T];exact le_refl _)]
end
section
variable{P:Program}{w:World}{K:Frag}{mg:Str->Option Value}{base:Heap}{P0 PT cW cTM:Addr}{ts:List (Addr×List (Pos×Str))}{tabs:List (Addr×Addr)}{cA_ cG_:Addr}
theorem dr:a_m [Z5] [Z5] (a_a d_o):=fsc
theorem ok_many_lots(F:Fun K "many_lots" "many_lots" d_o f fd)(T:Txt K mg cA_ cG_):aa P w K mg base CX0 1 f fd [Z5] sp_manyM:=by
 refine F.okA dr ?_;rintro _ _ _ _ _ _ _ _ _⟨a,ns,rfl,hH,hn,q⟩;refine(_,(a_f (a_k (a_K op_a (a_I (kP rfl) (by rfl) T.max PyProof.Rows.boot_max (pq1 (pv 0))) pe_int))),?_);refine(_,rfl,a,zs ns,rfl,by rw[hH,d_X],by rw[cY];exact hn,λM hM hmx=>(_,_,rfl,rfl,?_));obtain⟨m,hm,rfl⟩:=mem_map.mp hM;exact q m hm λx hx=>Int.ofNat_le.mp (hmx _ (mem_map.mpr (x,hx,rfl)))
end
section
variable{P:Program}{w:World}{K:Frag}{mg:Str->Option Value}{base:Heap}{P0 PT cW cTM:Addr}{ts:List (Addr×List (Pos×Str))}{tabs:List (Addr×Addr)}{cA_ cG_:Addr}
theorem b_Z:a_m [Y0,"marks","most","rounds",Z5,"finer"] [Y0,"marks","most"] (a_a d_n):=fsc
theorem ok_rounds_of(F:Fun K "rounds_of" "rounds_of" d_n f fd)(T:Txt K mg cA_ cG_)(yb:Df P w K mg base "numbered" 1 ["values"] sp_numbered)(yq:Df P w K mg base "many_lots" 1 [Z5] sp_manyM):aa P w K mg base CX0 2 f fd [Y0,"marks","most"] sp_roundsG:=by
 refine F.okA b_Z ?_;rintro _ _ _ _ H _ _ _ hr⟨wy,mk,rows,o,om,L,W,B,most,rfl,ho,hwy,hom,hmk,hrl,hrows,hMa,q⟩;refine(_,(a_b ((stS 3 b_Z.nd (a_D (pq1 (a_H yb hr (pq1 (pv 1))))))) (a_b (eY PassesOwn.never (a_S pC (a_H yq hr (pq1 (xqL (pv 3) (b9 f_M pe_int)))) (pv 2) (b_d _)) (a_b ((stS 4 b_Z.nd (xqL (pv 3) (b9 f_M pe_int)))) (a_b ((stS 5 b_Z.nd ((a_H yb hr (pq1 (fe [Y0,"marks","most","rounds",Z5,"finer"] rfl (by decide) (e_K rfl T.enumerate (pq1 (pv 0))) (λcl C fp s' H'=>c_J (pq2 (pe_ix (b_x K) (pv 6) (pv 0) (λ_ _=>rfl)) (a_E (f_B K) (by rfl) T.tuple boot_tuple (pq1 (b_w [Z8,"row",Y0,"marks","most","rounds",Z5,"finer"] rfl (show List.Nodup (["goal",Z8,"row",Y0,"marks","most","rounds",Z5,"finer"]:List Str) by decide) (d_K (pv 1)) (λcl C fp s' H'=>(a_M,pe_ix (b_x K) (pv 7) (pv 0) (λ_ _=>rfl)))))))))))))) (a_b ((a_W (a_S (qk hr.units0) (pv 5) (pv 4) (b_d _)) ((a_f (eZ))) (a_t))) (a_f (b_j (apQ (pv 3) (pv 5)))))))) (a_f (a_k (pv 3))))),?_);have hn60:=hMa.n60;have hn1:=hMa.n1;refine(_,rfl,mk,_,B.map V.bl,B.map (λb=>(KS.inl b:KS)),false,rfl,hom,hmk,by rw[qa4,qa4],by rw[qa4,hMa.bl];exact le_trans hn60 (by decide),?_,λp0 H1 s1 hp0=>(a_j (by show 1≤16777216;decide),λp hp=>?_))
 .intro i k x hk hx;rw[qa6]at hk hx;cases hb:B[i]? with
  |none=>rw[hb]at hk;cases hk
  |some b=>rw[hb]at hk hx;cases hk;cases hx;exact(rfl,rfl)
 rw[mB]at hp0;have hpH:H p=none:=b_R s1 hp;refine(pO H wy mk p W B most,(_,0,[p0],none,none,rfl,rfl,s1.trans (Same.upd hp),a_c,rfl,?_,λi hi=>absurd hi (Nat.not_lt_zero _)),?_)
 .intro i r e;match i,e with
  |0,e=>cases e;exact a_i hp0 hp
  |n+1,e=>simp at e
 rintro m σ' H'⟨k,lots,s4,s5,rfl,rfl,sm,hpl,hll,hlots,hne⟩;have hk:=iF hMa hne;obtain⟨la,hla⟩:∃la,lots[k]?=some la:=(lots[k]'(by rw[hll];exact lt_succ_self k),qa2 _);have hla1:=hlots k la hla;have hat:=e_d hll hla;have hlen:=c_d hMa k;refine(_,rfl,_,rfl,iqL hpl hat (la,Rd W B k,rfl,hla1,by rw[hlen];exact hn1,λM hM _=>(_,rfl,_,_,rfl,rfl,_,rfl,?_)));have hM2:=bQ hMa hM;refine aE (λhle=>?_) (λhgt=>?_)
 rotate_left
 .exact (_,rfl,q p lots k H' sm hpl hll hlots (.inr (M,hM,by have:¬ ((M:Int)+1)≤(most:Int):=hgt;omega)) hk)
 refine(λσ2 H2=>Rd W B (k+1)≠Rd W B k/\pO H wy mk p W B most (eM W.length (Rd W B (k+1))) σ2 H2,λσ2 H2 h=>(_,eL hMa h.1,h.2),?_);refine(_,rfl,_,rfl,iqL hpl hat ?_);dsimp only[c_x];dsimp only[tNext,aO,aG,d_b,b_o,tBM,tCB];refine gt (c:=wy) (λR h=>(_,rfl,h)) ho (sm _ _ hwy) (λD i ys H2=>∃ps:List Addr,ys=ps.map V.ref/\ps.length=i/\∀(j:Nat)(t:Addr),ps[j]?=some t->NIn H2 (cy W (Rd W B k) j) t) (by rw[qa4,hrl];exact a_j (le_trans hn60 (by decide))) (λD hD=>([],rfl,rfl,λj t e=>by simp at e)) ?_ ?_
 .intro D i x ys H2 H3 R1 hD hx hsm hDl hp hsm3 k1;obtain⟨ps,rfl,hpsl,hps⟩:=hp;rw[qa6]at hx;obtain⟨rr,hrr,rfl⟩:=qb3 hx;have hi:i<W.length:=by rw[<-hrl];exact(qa1 hrr).1
  obtain⟨ws,hws,orw,horw,hrow⟩:=hrows i rr hrr;have s3:Same H H3:=(sm.trans hsm).trans hsm3;have hrow3:=s3 _ _ hrow;have hla3:H3 la=some (.lst (intsV (Rd W B k))):=hsm3 _ _ (hsm _ _ hla1);have ew:W.getD i []=ws:=by rw[qa3,hws];rfl
  obtain⟨hwl,hwb⟩:=hMa.row ws (qb2 hws);have hL3:=hMa.lt.hi;refine(_,rfl,_,rfl,iqL hla3 (a_P (by rw[hlen];exact hi)) ?_);dsimp only[tNext,aO,aG,d_b,b_o,tBM,tCB];refine b_W (a:=rr) (λR h=>(_,rfl,h)) horw hrow3 (λD2 j zs2 H4=>zs2=(intsV (ws.map λg=>(Rd W B k).getD g 0)).take j) (by rw[intsV_len,hwl];exact a_j (le_trans hL3 (by decide))) (λD2 hD2=>by simp) ?_ ?_
  .intro D2 j y zs2 H4 R3 R4 hD2 hy hsm4 hD2l hp2 k3 k4;have hj:j<ws.length:=by have:=(qa1 hy).1;rwa [intsV_len]at this
   rw[a_u hj]at hy;cases hy;refine tAlways_if (_,rfl,_,rfl,iqL (hsm4 _ _ hla3) (a_P (by rw[hlen];exact hwb _ (d_y hj))) (k3 _ H4 hD2l (Same.set hsm4 hD2) ?_));rw[hp2];refine(a_U ?_).symm;rw[a_u (by rw[qa4];exact hj),g_D hj]
  .intro D2 zs2 H4 hD2 hsm4 hD2l hp2;rw[intsV_len,take_of_length_le (by rw[intsV_len,qa4];exact le_refl _)]at hp2;subst hp2;refine(D2,_,rfl,.inl (SqL.of hD2l,λb hb=>(a_j (by show 2≤16777216;decide),λt ht=>?_)));have s5:=hsm4.trans ((Same.upd (o:=.tup (intsV (ws.map λg=>(Rd W B k).getD g 0))) hb).trans (Same.upd (o:=.tup [.int (((Rd W B k).getD i 0:Nat):Int),.ref b]) ht));have hD5:=s5 _ _ (hsm3 _ _ hDl);refine k1 (.ref t) _ hD5 (Same.set (hsm.trans (hsm3.trans s5)) hD) (ps++[t],by rw[map_append];rfl,by rw[qa5,hpsl];rfl,λj u e=>?_);by_cases hj:j<ps.length
   .rw [getElem?_append_left hj]at e;exact nin_stay (λc cs z=>upd_keep2 ((hsm3.trans s5) _ _ z) hD5 (by intro z;cases z)) (hps j u e)
   .rw [getElem?_append_right (le_of_not_lt hj)]at e;have hj0:j=i:=(pL hj (qa1 e).1).trans hpsl;subst hj0;rw[hpsl,sub_self]at e;have et:t=u:=by simpa using e
    subst et;have ek:(zs (cy W (Rd W B k) j).2).map V.int=intsV (ws.map λg=>(Rd W B k).getD g 0):=by
     rw[<-d_X];show intsV ((W.getD j []).map _)=_;rw[ew]
    refine(b,upd_keep2 a_c hD5 (by intro z;cases z),?_);rw[ek];exact upd_keep2 (a_i a_c ht) hD5 (by intro z;cases z)
 intro D ys H2 hD hsm hDl hp;obtain⟨ps,rfl,hpsl,hps⟩:=hp;refine(D,_,ps.map V.ref,(d_W W (Rd W B k)).map (λx=>(KS.inr x:KS)),true,rfl,.inl rfl,hDl,by rw[qa4,qa4,a_v,hpsl,qa4,hrl],by rw[qa4,a_v];exact le_trans hn60 (by decide),?_,λfa H4 s4' hfa=>?_)
 .intro i kk x hk hx;rw[qa6]at hk hx;obtain⟨nk,e1,rfl⟩:=qb3 hk;obtain⟨t,e2,rfl⟩:=qb3 hx;have hi:i<W.length:=by have:=(qa1 e1).1;rwa [a_v]at this
  rw[e_p hi]at e1;cases e1;exact((t,rfl,hps i t e2),rfl)
 rw[mz]at hfa;have hfa':H4 fa=some (.lst (intsV (Rd W B (k+1)))):=hfa;have sm4:Same H H4:=sm.trans (hsm.trans s4');have la4:=(hsm.trans s4') _ _ hla1;have p4:=(hsm.trans s4') _ _ hpl;have lots4:=hlots.same (hsm.trans s4');refine(_,rfl,_,rfl,fa,la,zs (Rd W B (k+1)),zs (Rd W B k),rfl,rfl,by rw[hfa',d_X],by rw[la4,d_X],by rw[cY,cY,c_d hMa,c_d hMa],_,rfl,aE (λhe=>?_) (λhe=>?_))
 .exact (_,rfl,q p lots k H4 sm4 p4 hll lots4 (.inl (cZ he)) hk)
 have he':Rd W B (k+1)≠Rd W B k:=λz=>he (by rw[z]);have hl0:lots≠[]:=by
  intro z;rw[z]at hll;simp at hll
 refine(_,rfl,.inl (rfl,_,SqL.of p4),_,rfl,p,_,_,rfl,rfl,p4,?_,he',k+1,lots++[fa],_,_,rfl,rfl,Same.set sm4 hpH,?_,?_,?_,?_)
 .rw [qa4,hll];exact tI hk
 .rw [a_c,map_append];rfl
 .rw [qa5,hll];rfl
 .intro i r e;by_cases hi:i<lots.length
  .rw [getElem?_append_left hi]at e;have h1:=lots4 i r e;rw[upd_ne (jh h1 p4 hl0)];exact h1
  .rw [getElem?_append_right (le_of_not_lt hi)]at e;have hi0:i=k+1:=(pL hi (qa1 e).1).trans hll;subst hi0;rw[hll,sub_self]at e;have et:fa=r:=by simpa using e
   subst et;rw[upd_ne (jh hfa' p4 hl0)];exact hfa'
 .intro i hi;by_cases h:i=k
  .subst h;exact he'
  .exact hne i (sr hi h)
end
section
variable{P:Program}{w:World}{K:Frag}{mg:Str->Option Value}{base:Heap}{P0 PT cW cTM:Addr}{ts:List (Addr×List (Pos×Str))}{tabs:List (Addr×Addr)}{cA_ cG_:Addr}
theorem f_F:a_m [Z5] [Z5] (a_a c_u):=fsc
theorem f_I(F:Fun K "first_rooms" "first_rooms" c_u f fd)(T:Txt K mg cA_ cG_)(yq:Df P w K mg base "many_lots" 1 [Z5] sp_manyM):aa P w K mg base CX0 2 f fd [Z5] sp_firstrooms:=by
 refine F.okA f_F ?_;rintro _ _ _ _ _ _ _ _ hr⟨a,ns,rfl,hH,hn,h60,hx60,hdn,q⟩;refine(_,(a_f (a_k (b_w [Z5] rfl (by decide) (b_B rfl T.range (pq1 (a_H yq hr (pq1 (pv 0))))) (λcl C fp s' H'=>(a_M,j0 K (pv 1) (pq1 (pv 0))))))),?_);obtain⟨M,hM,hmx⟩:=mG hn;have hM60:=hx60 M hM;dsimp only[eR,c_x,tNext,aO,aG,d_b,b_o,tBM,tCB];refine f_y (n:=M+1) (λR h=>(_,rfl,a,ns,rfl,hH,hn,λM2 hM2 hmx2=>?_)) (by omega) (λD j ys H'=>ys=intsV ((List.range j).map λj=>ns.idxOf j)) (λD hD=>rfl) ?_ ?_
 .have e:M2=M:=le_antisymm (hmx M2 hM2) (hmx2 M hM);rw[e];exact h
 .intro D j ys H' R1 R2 hD hj hsm hDl hp k1 k2;refine tAlways_if (_,rfl,.inl (rfl,_,SqL.of (hsm _ _ hH)),_,rfl,a,zs ns,(0+(j:Int)),rfl,rfl,by rw[<-d_X];exact hsm _ _ hH,?_,?_)
  .rw [Int.zero_add];exact mem_map.mpr (j,hdn M j hM (Nat.le_of_lt_succ hj),rfl)
  .rw [Int.zero_add,lc];refine k1 _ H' hDl (Same.set hsm hD) ?_;rw[hp,List.range_succ,map_append];exact(c_Y _ _).symm
 .intro D ys H' hD hsm hDl hp;subst hp;exact q (M+1) D H' (Nat.succ_pos M,λx hx=>Nat.lt_succ_of_le (hmx x hx),λj hj=>hdn M j hM (Nat.le_of_lt_succ hj)) hsm hD hDl
end
section
variable{P:Program}{w:World}{K:Frag}{mg:Str->Option Value}{base:Heap}{P0 PT cW cTM:Addr}{ts:List (Addr×List (Pos×Str))}{tabs:List (Addr×Addr)}{cA_ cG_:Addr}
theorem a_r:a_m [Q4,Y0,"rounds",Y2,Y3,"needed","here","there","word",Z5,Z1] [Q4,Y0,"rounds",Y2,Y3] (a_a c_e):=fsc
theorem f_j(F:Fun K "parting_word" "parting_word" c_e f fd)(T:Txt K mg cA_ cG_):aa P w K mg base CX0 1 f fd [Q4,Y0,"rounds",Y2,Y3] sp_pwordL:=by
 refine F.okA a_r ?_;rintro _ _ _ s H _ _ _ _⟨wy,p,rows,lots,L,W,B,k,r,s,rfl,hwy,hwr,hMa,hp,hll,hlots,hst,hk36,hr0,hs0,q⟩;refine(_,(a_b ((a_W (cqE (xqL (xqL (pv 2) (b9 f_M pe_int)) (pv 3)) (xqL (xqL (pv 2) (b9 f_M pe_int)) (pv 4))) ((a_f (a_k f_Q))) (a_t))) (a_b ((stS 5 a_r.nd ((i9 plainAttrs_list PySem.F.slot_list_index PySem.F.type_list_index cj (b_w [Q4,Y0,"rounds",Y2,Y3,"needed","here","there","word","?",Z1] rfl (by decide) (d_K (pv 2)) (λcl C fp s' H'=>(a_M,c_K be (pe_ix (b_x K) (pv 0) (pv 4) (λ_ _=>rfl)) (pe_ix (b_x K) (pv 0) (pv 5) (λ_ _=>rfl)) (b_d _)))) (pq1 d_t))))) (a_b ((stS 6 a_r.nd (pv 3))) (a_b ((stS 7 a_r.nd (pv 4))) (a_b ((stS 8 a_r.nd (bB))) (a_b ((c_m PassesOwn.never rfl (qc rfl T.reversed (pq1 (e_L iV (pv 2) g_u (g_t (pv 5))))) (pgN 9 a_r.nd) ((a_b ((stS 10 a_r.nd ((i9 plainAttrs_list PySem.F.slot_list_index PySem.F.type_list_index cj (fe [Q4,Y0,"rounds",Y2,Y3,"needed","here","there","word",Z5,Z1] rfl (by decide) (iZ rfl T.zip (pq2 (xqL (pv 1) (pv 6)) (xqL (pv 1) (pv 7)))) (λcl C fp s' H'=>c_K be (pe_ix (b_x K) (pv 11) (pv 0) (λ_ _=>rfl)) (pe_ix (b_x K) (pv 11) (pv 1) (λ_ _=>rfl)) (b_d _))) (pq1 d_t))))) (a_b ((stS 8 a_r.nd (a_K c_U (pv 8) (pe_ix iz (pv 0) (pv 10) (λ_ _=>rfl))))) (a_b ((stS 6 a_r.nd (xqL (xqL (pv 1) (pv 6)) (pv 10)))) (a_f ((stS 7 a_r.nd (xqL (xqL (pv 1) (pv 7)) (pv 10))))))))))) (a_f (a_k (pv 8))))))))),?_);have hz:(tx L).length≤sizeLine:=a_j (by rw[b_b];exact le_trans hMa.lt.hi (by decide));obtain⟨la,hla⟩:∃la,lots[k]?=some la:=(lots[k]'(by rw[hll];exact lt_succ_self k),qa2 _);have hla1:=hlots k la hla;have hat:=e_d hll hla;have hlen:=c_d hMa k;refine(_,rfl,_,rfl,iqL hp hat (_,rfl,iqL hla1 (a_P (by rw[hlen];exact hr0)) ?_));refine(_,rfl,_,rfl,iqL hp hat (_,rfl,iqL hla1 (a_P (by rw[hlen];exact hs0)) (rfl,_,rfl,?_)));rw[g_M];refine aE (λhe=>?_) (λhe=>?_)
 .exact (hst he).elim
 obtain⟨hmem,hlt,hff,hfirst⟩:=fZ (f:=λj=>decide (lot W B j r=lot W B j s)) (n:=k+1) (j:=k) (lt_succ_self k) (decide_eq_false he);dsimp only[tNext,aO,aG,d_b,b_o,tBM,tCB];refine b_W (a:=p) (λR h=>(_,rfl,h)) (.inl rfl) hp (λD j ys H'=>ys=(((List.range (k+1)).map λj=>decide (lot W B j r=lot W B j s)).map V.bl).take j) (by rw[qa4,hll];exact a_j (le_trans (Nat.succ_le_succ hk36) (by decide))) (λD hD=>by simp) ?_ ?_
 .intro D j x ys H' R1 R2 hD hx hsm hDl hp2 k1 k2;rw[qa6]at hx;obtain⟨la',hla',rfl⟩:=qb3 hx;have hj:j<k+1:=by rw[<-hll];exact(qa1 hla').1
  have h1:=hsm _ _ (hlots j la' hla');refine tAlways_if (_,rfl,_,rfl,iqL h1 (a_P (by rw[c_d hMa];exact hr0)) (_,rfl,_,rfl,iqL h1 (a_P (by rw[c_d hMa];exact hs0)) (rfl,?_)));rw[g_M];refine k1 _ H' hDl (Same.set hsm hD) ?_;rw[hp2];refine(a_U ?_).symm;rw[qa6,qa6,getElem?_range hj];rfl
 intro D ys H1 hD hsm hDl hp2;rw[qa4,hll,take_of_length_le (by simp)]at hp2;subst hp2;refine(.inl (rfl,_,SqL.of hDl),D,_,rfl,rfl,hDl,hmem,?_);generalize ((List.range (k+1)).map λj=>decide (lot W B j r=lot W B j s)).idxOf false=t at hlt hff hfirst⊢;have hne:lot W B t r≠lot W B t s:=of_decide_eq_false hff;have heq:∀j<t,lot W B j r=lot W B j s:=λj hj=>of_decide_eq_true (hfirst j hj);refine(_,rfl,_,rfl,?_);refine(_,rfl,_,rfl,_,rfl,p,_,rfl,SqL.of (hsm _ _ hp),λpl hpl=>?_);rw[cL (by rw[qa4,hll];exact le_of_lt hlt)];have hxl:((lots.map V.ref).take t).length=t:=by rw[length_take,qa4,hll];exact Nat.min_eq_left (le_of_lt hlt)
 refine(pl,_,rfl,a_c,fR ml (λi σ' H'=>∃(h1 h2:Nat)(w:LN)(s9 s10:Option V),σ'=[some (.str (tx L)),some (.ref wy),some (.ref p),some (.int (r:Int)),some (.int (s:Int)),some (.int (t:Int)),some (.int (h1:Int)),some (.int (h2:Int)),some (.str (tx w)),s9,s10]/\Same (L2.upd H1 pl (.lst ((lots.map V.ref).take t))) H'/\h1<W.length/\h2<W.length/\w.length=i/\i≤t/\lot W B (t-i) h1≠lot W B (t-i) h2/\(∀j<t-i,lot W B j h1=lot W B j h2)/\w++pw L W B (t-i) h1 h2=pw L W B t r s) (r,s,[],none,none,by rw[<-g_L];rfl,Same.refl _,hr0,hs0,rfl,zero_le _,hne,heq,rfl) ?_ ?_ ?_)
 .rintro i σ' H'⟨h1,h2,w,s9,s10,rfl,sm2,_⟩;exact sm2 _ _ a_c
 .rintro i x σ' H2 hx⟨h1,h2,w,s9,s10,rfl,sm2,hh1,hh2,hwl,hit,hne2,heq2,hw⟩;have hi:i<t:=by have:=(qa1 hx).1;rwa [List.length_reverse,hxl]at this
  rw[List.getElem?_reverse (by rw[hxl];exact hi),hxl,List.getElem?_take,if_pos (pc hi),qa6]at hx;obtain⟨la2,hla2,rfl⟩:=qb3 hx;obtain⟨u,hu,hu1,hu2⟩:=qH hi;rw[hu1]at hla2;rw[hu]at hne2 heq2 hw;have s0:Same H H2:=hsm.trans ((Same.upd hpl).trans sm2);have hlaH:=s0 _ _ (hlots u la2 hla2);obtain⟨ra,hra,hraH⟩:=(hwr.sameL s0).row hh1;obtain⟨rb,hrb,hrbH⟩:=(hwr.sameL s0).row hh2;obtain⟨hpl1,hpl2,hpl3⟩:=lP hMa hh1 hh2 hne2 (heq2 u (lt_succ_self u));have l1:=(c_l hMa hh1).1;have l2:=(c_l hMa hh2).1;have hL3:=hMa.lt.hi;dsimp only[c_x];dsimp only[tNext,aO,aG,d_b,b_o,tBM,tCB];refine gr (c:=ra) (d:=rb) (λR h=>(_,rfl,_,rfl,iqL (s0 _ _ hwy) (b_a V.ref hra) (_,rfl,_,rfl,iqL (s0 _ _ hwy) (b_a V.ref hrb) h))) hraH hrbH (by rw[intsV_len,intsV_len,l1,l2]) (λD j ys H3=>ys=((f_G W B u h1 h2).map V.bl).take j) (by rw[intsV_len,l1];exact a_j (le_trans hL3 (by decide))) (λD hD=>by simp) ?_ ?_
  .intro D j x z ys H3 H4 R1 hD hx hz' hsm3 hDl hp3 hsm4 k1;have hj:j<L.length:=by have:=(qa1 hx).1;rwa [intsV_len,l1]at this
   rw[a_u (by rw[l1];exact hj)]at hx;rw[a_u (by rw[l2];exact hj)]at hz';cases hx;cases hz';have hla4:=hsm4 _ _ (hsm3 _ _ hlaH);refine(_,rfl,_,rfl,iqL hla4 (a_P (by rw[c_d hMa];exact b_E hMa hh1 hj)) (_,rfl,_,rfl,iqL hla4 (a_P (by rw[c_d hMa];exact b_E hMa hh2 hj)) (rfl,?_)));rw[g_M];refine k1 _ H4 (hsm4 _ _ hDl) (Same.set (hsm3.trans hsm4) hD) ?_;rw[hp3];refine(a_U ?_).symm;rw[qa6,d_N hMa hh1 hh2 hj];rfl
  intro D ys H3 hD hsm3 hDl hp3;rw[intsV_len,l1,take_of_length_le (by rw[qa4,f_i hMa hh1 hh2];exact le_refl _)]at hp3;subst hp3;have hmem2:false∈f_G W B u h1 h2:=List.idxOf_lt_length_iff.mp (by rw[f_i hMa hh1 hh2];exact hpl1);refine(.inl (rfl,_,SqL.of hDl),D,_,rfl,rfl,hDl,hmem2,?_);have s3:=s0.trans hsm3;have hget:L[place W B u h1 h2]?=some (L.getD (place W B u h1 h2) 0):=by rw[qa3,qa2 hpl1];rfl
  have hatL:atI (tx L).cps.toList ((place W B u h1 h2:Nat):Int)=some (L.getD (place W B u h1 h2) 0):=by
   rw[e_t];exact a_G hget
  have e1:=a_P (ns:=W.getD h1 []) (r:=place W B u h1 h2) (by rw[l1];exact hpl1);have e2:=a_P (ns:=W.getD h2 []) (r:=place W B u h1 h2) (by rw[l2];exact hpl1);refine(_,rfl,_,rfl,_,rfl,_,_,_,rfl,rfl,hz,hatL,_,_,rfl,rfl,?_,?_)
  .rw [b_b];show w.length+1≤sizeLine;exact a_j (sq hwl hi hlt hk36)
  refine(_,rfl,_,rfl,iqL (s3 _ _ hwy) (b_a V.ref hra) (_,rfl,iqL (hsm3 _ _ hraH) e1 ?_));refine(_,rfl,_,rfl,iqL (s3 _ _ hwy) (b_a V.ref hrb) (_,rfl,iqL (hsm3 _ _ hrbH) e2 ?_));rw[hu2];refine(goal W h1 (place W B u h1 h2),goal W h2 (place W B u h1 h2),w++[L.getD (place W B u h1 h2) 0],_,_,by rw[<-db];rfl,sm2.trans hsm3,b_E hMa hh1 hpl1,b_E hMa hh2 hpl1,by rw[qa5,hwl];rfl,hi,hpl2,λj hj=>((c_v hMa hh1 hh2).mp (heq2 (j+1) (Nat.succ_lt_succ hj))).2 _ hpl1,?_);rw[append_assoc];exact hw
 .rintro σ' H2⟨h1,h2,w,s9,s10,rfl,sm2,hh1,hh2,hwl,hit,hne2,heq2,hw⟩;rw[List.length_reverse,hxl,sub_self]at hw;have hw':w=pw L W B t r s:=by rw[<-hw];simp[pw]
  exact(_,rfl,q w H2 (hsm.trans ((Same.upd hpl).trans sm2)))
end
section
variable{P:Program}{w:World}{K:Frag}{mg:Str->Option Value}{base:Heap}{P0 PT cW cTM:Addr}{ts:List (Addr×List (Pos×Str))}{tabs:List (Addr×Addr)}{cA_ cG_:Addr}
theorem d_F:a_m [Z0,Z5,Q5,Y0,"marks"] [Z0,Z5] (a_a g_r):=fsc
theorem ok_folded(F:Fun K "folded" "folded" g_r f fd)(T:Txt K mg cA_ cG_)(WK:WkK K cW)(yt:Df P w K mg base "first_rooms" 2 [Z5] sp_firstrooms):aa P w K mg base CX0 3 f fd [Z0,Z5] (e_W cW):=by
 refine F.okA d_F ?_;rintro _ _ _ _ _ _ _ _ hr⟨wk,t,wd,y,md,lo,rows,L,R,Bm,k,rfl,hW,hy,hwr,hmd,hMa,hlo,q⟩;refine(_,(a_b ((stS 2 d_F.nd ((a_H yt hr (pq1 (pv 1)))))) (a_b (d_s [Z0,Z5,Q5,Y0,"marks"] (j:=3) rfl d_F.nd (by decide) rfl (Or.inl rfl) (d_K (pv 2)) (λcl C fp s' H'=>(a_M,a_E (f_B K) (by rfl) T.tuple boot_tuple (pq1 (b_w [Z8,Z0,Z5,Q5,Y0,"marks"] rfl (show List.Nodup (["goal",Z8,Z0,Z5,Q5,Y0,"marks"]:List Str) by decide) (d_K (pe_ix (b_x K) (dB (f:=Y0) K (pv 1) rfl) (pv 0) (λ_ _=>rfl))) (λcl C fp s' H'=>(a_M,pe_ix (b_x K) (pv 3) (pv 0) (λ_ _=>rfl)))))))) (a_b (d_s [Z0,Z5,Q5,Y0,"marks"] (j:=4) rfl d_F.nd (by decide) rfl (Or.inl rfl) (d_K (pv 2)) (λcl C fp s' H'=>(a_M,pe_ix (b_x K) (dB (f:="marks") K (pv 1) rfl) (pv 0) (λ_ _=>rfl)))) (a_f (a_k (c_J (pq3 (a_X (f:=Q4) (pv 0) rfl) (a_E a_x (by rfl) T.tuple boot_tuple (pq1 (pv 3))) (a_E a_x (by rfl) T.tuple boot_tuple (pq1 (pv 4)))))))))),?_);obtain⟨dx,ew⟩:=hW.ex;have hn60:=hMa.n60;have hll:=c_d hMa k;refine(_,rfl,lo,Rd R Bm k,rfl,hlo,by rw[hll];exact hMa.n1,by rw[hll];exact hn60,λx hx=>lt_of_lt_of_le (bQ hMa hx) hn60,λM j hM hj=>jB hM hj,λm p H1 hm s1 hpn hp=>?_);have hm60:m≤2100:=by
  have:=bQ hMa (hm.has (m-1) (by have:=hm.pos;omega));have:=hm.pos;omega
 have hpl:(intsV ((List.range m).map λj=>(Rd R Bm k).idxOf j)).length=m:=by rw[intsV_len,qa4,length_range]
 have room:∀{j:Nat}{x:V},(intsV ((List.range m).map λj=>(Rd R Bm k).idxOf j))[j]?=some x->j<m/\x=.int (((Rd R Bm k).idxOf j:Nat):Int):=λ{j x}e=>by
  have hj:j<m:=by have:=(qa1 e).1;rwa [hpl]at this
  rw[a_u (by rw[qa4,length_range];exact hj)]at e;cases e;refine(hj,?_);rw[qa3,qa6,getElem?_range hj];rfl
 dsimp only[c_x];dsimp only[tNext,aO,aG,d_b,b_o,tBM,tCB];refine b_W (a:=p) (λR h=>(_,rfl,h)) (.inl rfl) hp (λD j ys H'=>∃ps:List Addr,ys=ps.map V.ref/\ps.length=j/\∀(i:Nat)(t:Addr),ps[i]?=some t->i<m/\H' t=some (.tup (intsV ((a_N R (Rd R Bm k) m).getD i [])))) (by rw[hpl];exact a_j (le_trans hm60 (by decide))) (λD hD=>([],rfl,rfl,λi t e=>by simp at e)) ?_ ?_
 .intro D j x ys H' R1 R2 hD hx hsm hDl hpv k1 k2;obtain⟨ps,rfl,hpsl,hps⟩:=hpv;obtain⟨hj,rfl⟩:=room hx;obtain⟨f1,f2⟩:=c_p hm hMa hj;have s2:=s1.trans hsm;obtain⟨ra,hra⟩:∃ra,rows[(Rd R Bm k).idxOf j]?=some ra:=(rows[(Rd R Bm k).idxOf j]'(by rw[hwr.1];exact f1),qa2 _);have hraH:=s2 _ _ (hwr.2 _ ra _ hra (qa2 f1));obtain⟨hwl,hwb⟩:=hMa.row _ (getElem_mem f1);refine tAlways_if ?_;dsimp only[tNext,aO,aG,d_b,b_o,tBM,tCB];refine b_W (a:=ra) (λR h=>(_,rfl,wk,cW,dx,_,_,rfl,s2 _ _ ew,WK.cls,WK.na4,rfl,_,rfl,iqL (s2 _ _ hy) (b_a V.ref hra) h)) (.inl rfl) hraH (λD2 i zs2 H4=>zs2=(intsV (R[(Rd R Bm k).idxOf j].map λg=>(Rd R Bm k).getD g 0)).take i) (by rw[intsV_len,hwl];exact a_j (le_trans hMa.lt.hi (by decide))) (λD2 hD2=>by simp) ?_ ?_
  .intro D2 i y2 zs2 H4 R3 R4 hD2 hy2 hsm4 hD2l hp2 k3 k4;have hi:i<R[(Rd R Bm k).idxOf j].length:=by have:=(qa1 hy2).1;rwa [intsV_len]at this
   rw[a_u hi]at hy2;cases hy2;refine tAlways_if (_,rfl,_,rfl,iqL (hsm4 _ _ (s2 _ _ hlo)) (a_P (by rw[hll];exact hwb _ (d_y hi))) (k3 _ H4 hD2l (Same.set hsm4 hD2) ?_));rw[hp2];refine(a_U ?_).symm;rw[a_u (by rw[qa4];exact hi),g_D hi]
  .intro D2 zs2 H4 hD2 hsm4 hD2l hp2;rw[intsV_len,take_of_length_le (by rw[intsV_len,qa4];exact le_refl _)]at hp2;subst hp2;refine(D2,_,rfl,.inl (SqL.of hD2l,λb hb=>?_));have s5:=hsm4.trans (Same.upd (o:=.tup (intsV (R[(Rd R Bm k).idxOf j].map λg=>(Rd R Bm k).getD g 0))) hb);refine k1 (.ref b) _ (s5 _ _ hDl) (Same.set (hsm.trans s5) hD) (ps++[b],by rw[map_append];rfl,by rw[qa5,hpsl];rfl,λi u e=>?_);have hD5:=s5 _ _ hDl;rcases b_l e with z|⟨rfl,rfl⟩
   .obtain ⟨a1,a2⟩:=hps i u z;exact(a1,upd_keep2 (s5 _ _ a2) hD5 (by intro z;cases z))
   .rw [hpsl];refine(hj,upd_keep2 ?_ hD5 (by intro z;cases z));rw[a_c,cF hj,qa3,qa2 f1];rfl
 intro Dw ys H2 hDw hsm2 hDwl hpv;obtain⟨ps,rfl,hpsl,hps⟩:=hpv;rw[hpl]at hpsl;have hp2:=hsm2 _ _ hp;have s2:=s1.trans hsm2;dsimp only[c_x];dsimp only[tNext,aO,aG,d_b,b_o,tBM,tCB];refine b_W (a:=p) (λR h=>(_,rfl,h)) (.inl rfl) hp2 (λD j ys H'=>ys=((d_d Bm (Rd R Bm k) m).map V.bl).take j) (by rw[hpl];exact a_j (le_trans hm60 (by decide))) (λD hD=>by simp) ?_ ?_
 .intro D j x ys H' R1 R2 hD hx hsm hDl hpv k1 k2;obtain⟨hj,rfl⟩:=room hx;obtain⟨f1,f2⟩:=c_p hm hMa hj;have s3:=s2.trans hsm;refine tAlways_if (_,rfl,wk,cW,dx,_,_,rfl,s3 _ _ ew,WK.cls,WK.na5,rfl,_,rfl,iqL (s3 _ _ hmd) (f_p (by rw[hMa.bl];exact f1)) (k1 _ H' hDl (Same.set hsm hD) ?_));rw[hpv];refine(a_U ?_).symm;rw[qa6,d_d,qa6,getElem?_range hj];rfl
 intro Dm ys H3 hDm hsm3 hDml hpv;rw[hpl,take_of_length_le (by rw[qa4,d_d,qa4,length_range];exact le_refl _)]at hpv;subst hpv;have s3:=s2.trans hsm3;refine(_,rfl,wk,cW,dx,_,_,rfl,s3 _ _ ew,WK.cls,WK.na1,rfl,?_);refine(_,rfl,Dw,_,rfl,.inl (SqL.of (hsm3 _ _ hDwl),λtw htw=>?_));refine(_,rfl,Dm,_,rfl,.inl (SqL.of (a_i hDml htw),λtm htm=>(a_j (by show 3≤16777216;decide),λf hf=>?_)));have u1:Same H3 (L2.upd H3 tw (.tup (ps.map V.ref))):=Same.upd htw;have u2:=u1.trans (Same.upd (o:=.tup ((d_d Bm (Rd R Bm k) m).map V.bl)) htm);have u3:=u2.trans (Same.upd (o:=.tup [.str (tx L),.ref tw,.ref tm]) hf);refine q m f _ hm (s3.trans u3) (b_R (s3.trans u2) hf) (tw,tm,ps,a_c,a_i (a_i a_c htm) hf,a_i a_c hf,by rw[hpsl,a_N,qa4,length_range],λi r e=>?_);obtain⟨a1,a2⟩:=hps i r e;refine((a_N R (Rd R Bm k) m).getD i [],?_,(hsm3.trans u3) _ _ a2);rw[qa3,a_N,qa6,getElem?_range a1];rfl
end
section
variable{P:Program}{w:World}{K:Frag}{mg:Str->Option Value}{base:Heap}{P0 PT cW cTM:Addr}{ts:List (Addr×List (Pos×Str))}{tabs:List (Addr×Addr)}{cA_ cG_:Addr}
theorem b_Q:a_m [Z0,"rounds",Q5,"tails","i",Y2,"j"] [Z0,"rounds",Q5] (a_a e_l):=fsc
theorem ok_tails_of(F:Fun K "tails_of" "tails_of" e_l f fd)(T:Txt K mg cA_ cG_)(WK:WkK K cW)(yX:Df P w K mg base "parting_word" 1 [Q4,Y0,"rounds",Y2,Y3] sp_pwordL):aa P w K mg base CX0 2 f fd [Z0,"rounds",Q5] (eU cW):=by
 refine F.okA b_Q ?_;rintro _ _ _ _ H _ _ _ hr⟨wk,t,wd,y,md,p,rm,rows,lots,L,R,Bm,k,rs,rfl,hW,hy,hwr,hMa,hp,hll,hlots,hk,hrm,hr9,hrR,hne,q⟩;refine(_,(a_b ((stS 3 b_Q.nd (a_D d_i))) (a_b ((c_m PassesOwn.never rfl (e_K rfl T.enumerate (pq1 (pv 2))) (ia rfl (c_T (pgN 4 b_Q.nd) (c_T (pgN 5 b_Q.nd) dA))) (a_f ((c_m PassesOwn.never rfl (jZ rfl T.range (pq2 (a_K op_a (pv 4) pe_int) (lqQ T.len (pv 2)))) (pgN 6 b_Q.nd) ((a_f (b_j (apQ (pv 3) (c_J (pq3 (pv 4) (pv 6) (a_H yX hr (a_T ((a_X (f:=Q4) (pv 0) rfl)) (a_T ((a_X (f:=Y0) (pv 0) rfl)) (pq3 (pv 1) (pv 5) (xqL (pv 2) (pv 6))))))))))))))))) (a_f (a_k (pv 3))))),?_);obtain⟨dx,ew⟩:=hW.ex;have hrl:(intsV rs).length=rs.length:=intsV_len _;refine(zero_le _,λtl htl=>?_);have s0:=Same.upd (o:=.lst []) htl;refine(_,rfl,rm,_,rfl,.inr (s0 _ _ hrm,?_));have lim:10000≤sizeLine:=a_j (by decide);refine kK (xs:=intsV rs) (λi σ' H'=>∃(xs:List V)(s4 s5 s6:Option V),σ'=[some (.ref wk),some (.ref p),some (.ref rm),some (.ref tl),s4,s5,s6]/\Same H H'/\H' tl=some (.lst xs)/\xs.length≤100*i) ([],none,none,none,rfl,s0,a_c,zero_le _) ?_ ?_ ?_
 .rintro i σ' H'⟨xs,s4,s5,s6,rfl,sm,_⟩;exact sm _ _ hrm
 .rintro i x pp σ' H1 hx hpp⟨xs,s4,s5,s6,rfl,sm,htl1,hxl⟩;have hi:i<rs.length:=by have:=(qa1 hx).1;rwa [hrl]at this
  rw[a_u hi]at hx;cases hx;have smp:=sm.trans (Same.upd (o:=.tup [.int (i:Int),.int ((rs.getD i 0:Nat):Int)]) hpp);have htl2:=a_i (u:=.tup [.int (i:Int),.int ((rs.getD i 0:Nat):Int)]) htl1 hpp;refine(pp,_,rfl,SqT.of a_c,rfl,_,_,rfl,_,_,rfl,rfl,?_);generalize L2.upd H1 pp (.tup [.int (i:Int),.int ((rs.getD i 0:Nat):Int)])=H2 at smp htl2;refine(_,rfl,_,_,rfl,rfl,_,rfl,rm,_,rfl,.inl (SqL.of (smp _ _ hrm)),_,_,rfl,(by omega,by omega,by rw[hrl];omega,by rw[hrl];omega),?_);rw[hrl];refine b_U (n:=(((rs.length:Nat):Int)-((i:Int)+1)).toNat) (λj σ' H'=>∃(xs:List V)(s6:Option V),σ'=[some (.ref wk),some (.ref p),some (.ref rm),some (.ref tl),some (.int (i:Int)),some (.int ((rs.getD i 0:Nat):Int)),s6]/\Same H H'/\H' tl=some (.lst xs)/\xs.length≤100*i+j) (xs,s6,rfl,smp,htl2,by omega) ?_ ?_
  .rintro j σ' H3 hj⟨xs2,s6',rfl,sm3,htl3,hxl3⟩;have hjr:i+1+j<rs.length:=by omega
   have e1:rs[i]?=some (rs.getD i 0):=by rw[qa3,qa2 hi];rfl
   have e2:rs[i+1+j]?=some (rs.getD (i+1+j) 0):=by rw[qa3,qa2 hjr];rfl
   have hat:atI (intsV rs) ((i:Int)+1+(j:Int))=some (.int ((rs.getD (i+1+j) 0:Nat):Int)):=by
    rw[show(i:Int)+1+(j:Int)=((i+1+j:Nat):Int) by omega];exact a_P hjr
   have ew3:=sm3 _ _ ew;refine(_,rfl,.inl (rfl,_,SqL.of htl3),_,rfl,_,rfl,_,rfl,wk,cW,dx,_,_,rfl,ew3,WK.cls,WK.na1,rfl,_,rfl,wk,cW,dx,_,_,rfl,ew3,WK.cls,WK.na4,rfl,_,rfl,_,rfl,_,rfl,_,rfl,iqL (sm3 _ _ hrm) hat ?_);refine(y,p,rows,lots,L,R,Bm,k,rs.getD i 0,rs.getD (i+1+j) 0,rfl,sm3 _ _ hy,hwr.sameL sm3,hMa,sm3 _ _ hp,hll,hlots.same sm3,hne i (i+1+j) _ _ (by omega) e1 e2,hk,hrR _ (qb2 e1),hrR _ (qb2 e2),λw H4 s4'=>(a_j (by show 3≤16777216;decide),λtt htt=>?_));have htl4:=a_i (u:=.tup [.int (i:Int),.int ((i:Int)+1+(j:Int)),.str (tx w)]) (s4' _ _ htl3) htt;refine(tl,_,_,rfl,rfl,htl4,by omega,?_);have h0:H tl=none:=htl;exact(_,_,rfl,Same.set ((sm3.trans s4').trans (Same.upd htt)) h0,a_c,by rw[qa5];show xs2.length+1≤_;omega)
  .rintro σ' H3⟨xs2,s6',rfl,sm3,htl3,hxl3⟩;exact(xs2,_,_,_,rfl,sm3,htl3,by omega)
 .rintro σ' H1⟨xs,s4,s5,s6,rfl,sm,htl1,hxl⟩;exact(_,rfl,q tl xs H1 sm htl1)
end
section
variable{P:Program}{w:World}{K:Frag}{mg:Str->Option Value}{base:Heap}{P0 PT cW cTM:Addr}{ts:List (Addr×List (Pos×Str))}{tabs:List (Addr×Addr)}{cA_ cG_:Addr}
theorem g_k:a_m [Z0,"rounds",Z5,Q5] [Z0] (a_a hV):=fsc
theorem oF(F:Fun K "told" "told" hV f fd)(T:Txt K mg cA_ cG_)(WK:WkK K cW)(WN:a_A K cW Q7)(TM:TmK K mg cTM cRE fX fdX)(yr:Df P w K mg base "rounds_of" 2 [Y0,"marks","most"] sp_roundsG)(yq:Df P w K mg base "many_lots" 1 [Z5] sp_manyM)(yn:Df P w K mg base "folded" 3 [Z0,Z5] (e_W cW))(yt:Df P w K mg base "first_rooms" 2 [Z5] sp_firstrooms)(yV:Df P w K mg base "tails_of" 2 [Z0,"rounds",Q5] (eU cW)):aa P w K mg base (CXE P w) 4 f fd [Z0] (c_s cW cTM):=by
 refine F.okX g_k (λvs H Q E h=>?_) (λcdv A outer s H vs Q E hr h=>?_)
 .obtain ⟨wk,t,wd,y,md,rows,L,R,Bm,ws,rfl,_⟩:=h;rfl
 .obtain ⟨wk,t,wd,y,md,rows,L,R,Bm,ws,rfl,hW,hy,hwr,hmd,hwd,hwl,hMa,reach,qE,q⟩:=h;obtain⟨tm,hmost⟩:=T.most;have hr1:=hr.mono (j:=1) (by decide);have hr2:=hr.mono (j:=2) (by decide);have hr3:=hr.mono (j:=3) (by decide);refine(_,(a_b ((stS 1 g_k.nd ((a_H yr hr2 (pq3 ((a_X (f:=Y0) (pv 0) rfl)) ((a_X (f:="marks") (pv 0) rfl)) ((pe_glob (v:=.int 8) (by rfl) hmost (_,rfl)))))))) (a_b ((stS 2 g_k.nd (xqL (pv 1) (b9 f_M pe_int)))) (a_b ((a_W (a_S pC (a_H yq hr1 (pq1 (pv 2))) (pe_glob (v:=.int 8) (by rfl) hmost (_,rfl)) (b_d _)) ((a_f (a_k (a_H yn hr3 (pq2 (pv 0) (pv 2)))))) (a_t))) (a_b ((stS 3 g_k.nd (e_L iV (a_H yt hr2 (pq1 (pv 2))) g_u (g_t (a_K op_a (pe_glob (v:=.int 8) (by rfl) hmost (_,rfl)) pe_int))))) (a_f ((jW rfl rfl eQ TM.own TM.fn (ka TM T.list) (hr.mono (j:=2) (by decide)) (TM.ini.binds (ps:=["self",Q7,"tails","part"]) (λ_ _ _ _ _ _ us hl=>by obtain⟨_,_,_,_,rfl⟩:=sZ hl;rfl)) jb TM.kT (pq3 (b_w [Z0,"rounds",Z5,Q5] rfl (by decide) (d_K (pv 3)) (λcl C fp s' H'=>(a_M,pe_ix (b_x K) (dB (f:=Q7) K (pv 1) rfl) (pv 0) (λ_ _=>rfl)))) (a_H yV hr2 (pq3 (pv 0) (pv 1) (pv 3))) f_Q)))))))),?_);obtain⟨dx,ew⟩:=hW.ex;have hn60:=hMa.n60;have hn1:=hMa.n1;refine(_,rfl,wk,cW,dx,_,_,rfl,ew,WK.cls,WK.na4,rfl,_,rfl,wk,cW,dx,_,_,rfl,ew,WK.cls,WK.na5,rfl,?_);refine(y,md,rows,_,_,L,R,Bm,8,rfl,.inl rfl,hy,.inl rfl,hmd,hwr.1,hwr.toQ,hMa,λp lots k H1 s1 hp hll hlots st hk=>?_);obtain⟨la,hla⟩:∃la,lots[k]?=some la:=(lots[k]'(by rw[hll];exact lt_succ_self k),qa2 _);have hla1:=hlots k la hla;have hat:=e_d hll hla;have hlen:=c_d hMa k;refine(_,rfl,_,rfl,iqL hp hat ?_);refine(_,rfl,la,Rd R Bm k,rfl,hla1,by rw[hlen];exact hn1,λM hM hmx=>(_,_,rfl,rfl,_,rfl,aE (λhle=>?_) (λhgt=>?_)))
  .have hle:(M:Int)+1≤8:=hle;have hst:Rd R Bm (k+1)=Rd R Bm k:=by
    rcases st with z|⟨M2,hM2,z⟩
    .exact z
    .have:=hmx M2 hM2;omega
   refine(_,rfl,_,rfl,wk,t,wd,y,md,la,rows,L,R,Bm,k,rfl,(dx,s1 _ _ ew),s1 _ _ hy,hwr.sameL s1,s1 _ _ hmd,hMa,hla1,λm f H2 hm s2 hf hMf=>?_);have hm8:m≤8:=by
    have h1:=hm.has (m-1) (by have:=hm.pos;omega);have h2:=hmx _ h1;omega
   exact q m k f H2 hm hst hm8 (s1.trans s2) (b_R s1 hf) hMf
  .refine (_,rfl,la,Rd R Bm k,rfl,hla1,by rw[hlen];exact hn1,by rw[hlen];exact hn60,λx hx=>lt_of_lt_of_le (bQ hMa hx) hn60,λM j hM hj=>jB hM hj,λm rl H2 hm s2 hrl0 hrl=>?_);refine(_,_,rfl,rfl,_,rfl,rl,_,rfl,SqL.of hrl,λrm hrm=>?_);have s12:=s1.trans s2;have hm9:9≤m:=by
    have:=hm.lt M hM;have hgt:¬ (M:Int)+1≤8:=hgt;omega
   have e9:cutV (intsV ((List.range m).map λj=>(Rd R Bm k).idxOf j)) none (some (8+1))=intsV (((List.range m).map λj=>(Rd R Bm k).idxOf j).take 9):=by
    have e:=cL (xs:=intsV ((List.range m).map λj=>(Rd R Bm k).idxOf j)) (t:=9) (by rw[intsV_len,qa4,length_range];exact hm9);refine e.trans ?_;unfold intsV;rw[List.map_take]
   rw[e9];have hrs:∀(i a:Nat),(((List.range m).map λj=>(Rd R Bm k).idxOf j).take 9)[i]?=some a->i<m/\a=(Rd R Bm k).idxOf i:=λi a e=>by
    rw[List.getElem?_take]at e;split at e
    .have hi:i<m:=by have:=(qa1 e).1;rwa [qa4,length_range]at this
     rw[qa6,getElem?_range hi]at e;cases e;exact(hi,rfl)
    .cases e
   have hr9:(((List.range m).map λj=>(Rd R Bm k).idxOf j).take 9).length≤9:=by rw[length_take];exact Nat.min_le_left _ _
   generalize ((List.range m).map λj=>(Rd R Bm k).idxOf j).take 9=rs at hrs hr9;have hrR:∀r∈rs,r<R.length:=λr hr=>by
    obtain⟨i,hi⟩:=mem_iff_getElem?.mp hr;obtain⟨a1,rfl⟩:=hrs i r hi;exact(c_p hm hMa a1).1
   have s3:=s12.trans (Same.upd (o:=.lst (intsV rs)) hrm);have hrm3:L2.upd H2 rm (.lst (intsV rs)) rm=some (.lst (intsV rs)):=a_c;have p3:=(s2.trans (Same.upd (o:=.lst (intsV rs)) hrm)) _ _ hp;have lots3:=hlots.same (s2.trans (Same.upd (o:=.lst (intsV rs)) hrm));generalize L2.upd H2 rm (.lst (intsV rs))=H3 at s3 hrm3 p3 lots3;dsimp only[c_x,tNext,aO,iU,b_o];refine b_W (a:=rm) (λR h=>(_,rfl,h)) (.inl rfl) hrm3 (λ_ _ _ _=>True) (by rw[intsV_len];exact a_j (le_trans hr9 (by decide))) (λD hD=>trivial) ?_ ?_
   .intro D j x ys H' R1 R2 hD hx hsm hDl _ k1 k2;have hj:j<rs.length:=by have:=(qa1 hx).1;rwa [intsV_len]at this
    rw[a_u hj]at hx;cases hx;have hjR:rs.getD j 0<ws.length:=by rw[hwl];exact hrR _ (d_y hj)
    have s4:=s3.trans hsm;refine tAlways_if (_,rfl,wk,cW,dx,_,_,rfl,s4 _ _ ew,WK.cls,WN,rfl,_,rfl,iqL (s4 _ _ hwd) (b_a (λv=>V.str (tx v)) (qa2 hjR)) (k1 _ H' hDl (Same.set hsm hD) trivial))
   .intro D ys H4 hD hsm hDl _;have s4:=s3.trans hsm;refine(_,rfl,_,rfl,_,rfl,wk,t,wd,y,md,p,rm,rows,lots,L,R,Bm,k,rs,rfl,(dx,s4 _ _ ew),s4 _ _ hy,hwr.sameL s4,hMa,hsm _ _ p3,hll,lots3.same hsm,hk,hsm _ _ hrm3,hr9,hrR,λi j a b hij e1 e2=>?_,λtl xs H5 s5 htl=>(a_j (by show 3≤16777216;decide),λe he=>(e,D,tl,.non,_,_,rfl,a_c,a_i (s5 _ _ hDl) he,a_i htl he,λH6 d k6 hd=>(rfl,some d,hd,?_))))
    .obtain ⟨a1,rfl⟩:=hrs i a e1;obtain⟨b1,rfl⟩:=hrs j b e2;rw[(c_p hm hMa a1).2,(c_p hm hMa b1).2];omega
    .refine qE _ (λb o z=>?_) λW0 B0 h0 e0=>by
      have:=mI hMa reach hm h0 e0;omega
     have z5:=s5 _ _ (s4 _ _ z);have n1:b≠e:=ne_of_none z5 he;rw[bO n1];exact k6 b o n1 (a_i z5 he)
end
section
variable{P:Program}{w:World}{K:Frag}{mg:Str->Option Value}{base:Heap}{P0 PT cW cTM:Addr}{ts:List (Addr×List (Pos×Str))}{tabs:List (Addr×Addr)}{cA_ cG_:Addr}
theorem a_R:a_m [Q0,Q3,Q4,"others"] [Q0,Q3] (a_a a_Z):=fsc
theorem d_c(F:Fun K "need_same_letters" "need_same_letters" a_Z f fd)(T:Txt K mg cA_ cG_):aa P w K mg base (CXE P w) 1 f fd [Q0,Q3] (c_t cG_):=by
 refine F.okX a_R (λvs H Q E h=>?_) (λcdv A outer s H vs Q E hr h=>?_)
 .obtain ⟨m,m2,L,L',W,B,W2,B2,rfl,_⟩:=h;rfl
 .obtain ⟨m,m2,L,L',W,B,W2,B2,rfl,hM,hMa,hN,hNa,qE,q⟩:=h;refine(_,(a_b ((stS 2 a_R.nd (xqV 0))) (a_b ((stS 3 a_R.nd (xqV 1))) (a_f ((a_W (cqN (pv 2) (pv 3)) ((a_f ((lL rfl gX T.oG_ T.kG_ (pq1 (qe (c:=λσ=>pf 2 σ/\pf 3 σ) (fQ,fP 2 (pv 2) (λ_ z=>z.1),fQ,fP 3 (pv 3) (λ_ z=>z.2),trivial))))))) (a_t)))))),?_);obtain⟨wy,mk,rows,h1,h2,h3,h4,h5⟩:=id hM;obtain⟨wy2,mk2,rows2,g1,g2,g3,g4,g5⟩:=id hN;refine(ivT h1 aK ?_);refine(ivT g1 aK ?_);refine(_,rfl,_,rfl,rfl,_,rfl,?_);by_cases e:L=L'
  .exact f_t (by rw[e]) (q e)
  .rw [decide_eq_false (λz=>e (pS (V.str.inj z)))];exact au ((hMa.lt.sm.txt rfl,hNa.lt.sm.txt rfl),λx=>(a_j (by show 1≤16777216;decide),qE e))
end
section
variable{P:Program}{w:World}{K:Frag}{mg:Str->Option Value}{base:Heap}{P0 PT cW cTM:Addr}{ts:List (Addr×List (Pos×Str))}{tabs:List (Addr×Addr)}{cA_ cG_:Addr}
theorem g_m:a_m [Q0,Z0,"rounds"] [Q0] (a_a du):=fsc
theorem ok_least(F:Fun K "least" "least" du f fd)(T:Txt K mg cA_ cG_)(WK:WkK K cW)(yh:Df P w K mg base "walked_machine" 6 [Q0] (g_h cW P0 sites))(yr:Df P w K mg base "rounds_of" 2 [Y0,"marks","most"] sp_roundsG)(yn:Df P w K mg base "folded" 3 [Z0,Z5] (e_W cW)):aa P w K mg base CX0 7 f fd [Q0] (d_C P0 sites):=by
 refine F.okA g_m ?_;rintro _ _ _ _ _ _ _ _ hr⟨m,L,W,B,rfl,hM,hMa,hT,q⟩;have hr2:=hr.mono (j:=2) (by decide);have hr3:=hr.mono (j:=3) (by decide);refine(_,(a_b ((stS 1 g_m.nd ((a_H yh hr (pq1 (pv 0)))))) (a_b ((stS 2 g_m.nd ((a_H yr hr2 (pq3 ((a_X (f:=Y0) (pv 1) rfl)) ((a_X (f:="marks") (pv 1) rfl)) ((lqQ T.len ((a_X (f:=Y0) (pv 1) rfl))))))))) (a_f (a_k (a_H yn hr3 (pq2 (pv 1) (xqL (pv 2) (b9 f_M pe_int)))))))),?_);refine(_,rfl,m,L,W,B,rfl,hM,hMa,hT,λwk t wd y md ks vks ws rows R Bm H1 s1 hT1 hW ht hth hwd hy hwr hmd bf ways hR bl mks sub le=>?_);have hRM:=jF hMa bf ways hR bl le;obtain⟨dx,ew⟩:=hW.ex;refine(_,rfl,wk,cW,dx,_,_,rfl,ew,WK.cls,WK.na4,rfl,_,rfl,wk,cW,dx,_,_,rfl,ew,WK.cls,WK.na5,rfl,_,rfl,wk,cW,dx,_,_,rfl,ew,WK.cls,WK.na4,rfl,y,_,rfl,.inl (SqL.of hy),?_);refine(y,md,rows,_,_,L,R,Bm,R.length,by rw[qa4,hwr.1];rfl,.inl rfl,hy,.inl rfl,hmd,hwr.1,λi r e=>?_,hRM,λp lots k H2 s2 hp hll hlots st0 hk=>?_)
 .have hi:i<R.length:=by rw[<-hwr.1];exact(qa1 e).1
  exact(R[i],qa2 hi,_,.inl rfl,hwr.2 i r _ e (qa2 hi))
 have st:Rd R Bm (k+1)=Rd R Bm k:=by
  rcases st0 with z|⟨M,hM,z⟩
  .exact z
  .have:=bQ hRM hM;omega
 obtain⟨la,hla⟩:∃la,lots[k]?=some la:=(lots[k]'(by rw[hll];exact lt_succ_self k),qa2 _);have hla1:=hlots k la hla;have hat:=e_d hll hla;refine(_,rfl,_,rfl,_,rfl,iqL hp hat ?_);refine(wk,t,wd,y,md,la,rows,L,R,Bm,k,rfl,(dx,s2 _ _ ew),s2 _ _ hy,(hwr.1,λi a r a1 a2=>s2 _ _ (hwr.2 i a r a1 a2)),s2 _ _ hmd,hRM,hla1,λmm f H3 hm s3 hf hMf=>?_);exact q f _ _ H3 (b_s s1 (lz (s2.trans s3))) (b_X (b_X hT1 s2) s3) hMf (ks,ws,R,Bm,k,mm,bf,ways,hR,bl,mks,sub,le,hRM,st,hm,rfl,rfl)
end
section
variable{P:Program}{w:World}{K:Frag}{mg:Str->Option Value}{base:Heap}{P0 PT cW cTM:Addr}{ts:List (Addr×List (Pos×Str))}{tabs:List (Addr×Addr)}{cA_ cG_:Addr}
theorem d_E:a_m [Q0,Q5,"rows"] [Q0,Q5] (a_a c_G):=fsc
theorem d_P(F:Fun K "lots_after" "lots_after" c_G f fd)(T:Txt K mg cA_ cG_):aa P w K mg base CX0 1 f fd [Q0,Q5] sp_lotsafter:=by
 refine F.okA d_E ?_;rintro _ _ _ _ _ _ _ _ _⟨m,v,o,L,W,B,k,rfl,hM,hMa,ho,hv,hk60,hkW,q⟩;refine(_,(a_b ((stS 2 d_E.nd (b_w [Q0,Q5,"rows"] rfl (by decide) (d_K (pv 1)) (λcl C fp s' H'=>(a_M,pe_ix (e_q K) (pe_ix (e_q K) (pv 1) pe_int (λ_ _=>rfl)) (pv 0) (λ_ _=>rfl)))))) (a_f (a_k (me [Q0,Q5,"rows"] rfl (by decide) (b_B rfl T.range (pq1 (lqS T.len (xqV 0)))) (λcl C fp s' H'=>(a_M,b_w [Z1,Q0,Q5,"rows"] rfl (show List.Nodup (["row",Z1,Q0,Q5,"rows"]:List Str) by decide) (d_K (pv 3)) (λcl C fp s' H'=>(a_M,pe_ix (e_q K) (pv 0) (pv 1) (λ_ _=>rfl))))))))),?_);obtain⟨wy,mk,rows,h1,h2,h3,h4,h5⟩:=id hM;have hz:(tx L).length≤sizeLine:=a_j (by rw[b_b];exact le_trans hMa.lt.hi (by decide));have hk1:(intsV k).length≤sizeLine:=by rw[intsV_len];exact a_j (le_trans hk60 (by decide))
 have rowAt:∀{j:Nat}{x:V},(intsV k)[j]?=some x->j<k.length/\x=.int ((k.getD j 0:Nat):Int)/\k.getD j 0<W.length:=λ{j x}e=>by
  have hj:j<k.length:=by have:=(qa1 e).1;rwa [intsV_len]at this
  rw[a_u hj]at e;cases e;exact(hj,rfl,hkW _ (d_y hj))
 dsimp only[c_x];dsimp only[tNext,aO,aG,d_b,b_o,tBM,tCB];refine b_W (a:=v) (λR h=>(_,rfl,h)) ho hv (λD j ys H'=>∃rs:List Addr,ys=rs.map V.ref/\rs.length=j/\∀(i:Nat)(a:Addr),rs[i]?=some a->H' a=some (.tup (intsV (W.getD (k.getD i 0) [])))) hk1 (λD hD=>([],rfl,rfl,λi a e=>by simp at e)) ?_ ?_
 .intro D j x ys H' R1 R2 hD hx hsm hDl hp k1 k2;obtain⟨rs,rfl,hrl,hrs⟩:=hp;obtain⟨hj,rfl,hjW⟩:=rowAt hx;obtain⟨ra,hra,hraH⟩:=a_n.row h4 (h5.same hsm) hjW;refine tAlways_if (ivT (hsm _ _ h1) aF (_,rfl,iqT (hsm _ _ h2) (b_a V.ref hra) (k1 _ H' hDl (Same.set hsm hD) (rs++[ra],by rw[map_append];rfl,by rw[qa5,hrl];rfl,λi u e=>?_))));rcases b_l e with z|⟨rfl,rfl⟩
  .exact upd_keep2 (hrs i u z) hDl (by intro z;cases z)
  .rw [hrl];exact upd_keep2 hraH hDl (by intro z;cases z)
 intro Dw ys H2 hDw hsm2 hDwl hpv;obtain⟨rs,rfl,hrl,hrs⟩:=hpv;rw[intsV_len]at hrl;dsimp only[eR,c_x,tNext,aO,aG,d_b,b_o,tBM,tCB];refine f_y (n:=L.length) (λR h=>(ivT (hsm2 _ _ h1) aK (_,rfl,hz,by rw[b_b];exact h))) (le_trans hMa.lt.hi (by decide)) (λD j ys H'=>∃ls:List Addr,ys=ls.map V.ref/\ls.length=j/\∀(q:Nat)(a:Addr),ls[q]?=some a->a≠D/\H' a=some (.lst (intsV (gA W k q)))) (λD hD=>([],rfl,rfl,λi a e=>by simp at e)) ?_ ?_
 .intro D q0 ys H' R1 R2 hD hq hsm hDl hp k1 k2;obtain⟨ls,rfl,hll,hls⟩:=hp;have s2:=hsm2.trans hsm;refine tAlways_if ?_;refine b_W (a:=Dw) (λR h=>(_,rfl,h)) (.inl rfl) (hsm _ _ hDwl) (λD2 j zs2 H4=>zs2=(intsV (gA W k q0)).take j) (by rw[qa4,hrl];exact a_j (le_trans hk60 (by decide))) (λD2 hD2=>by simp) ?_ ?_
  .intro D2 j y zs2 H4 R3 R4 hD2 hy hsm4 hD2l hp2 k3 k4;rw[qa6]at hy;obtain⟨ra,hra,rfl⟩:=qb3 hy;have hj:j<k.length:=by rw[<-hrl];exact(qa1 hra).1
   have hjW:=hkW _ (d_y (ws:=k) hj);have l1:=(c_l hMa hjW).1;refine tAlways_if (_,rfl,_,rfl,iqT (hsm4 _ _ (hsm _ _ (hrs j ra hra))) (by rw[Int.zero_add];exact a_P (by rw[l1];exact hq)) (k3 _ H4 hD2l (Same.set hsm4 hD2) ?_));rw[hp2];refine(a_U ?_).symm;rw[a_u (by rw[gA,qa4];exact hj),gA,g_D hj]
  .intro D2 zs2 H4 hD2 hsm4 hD2l hp2;rw[qa4,hrl,take_of_length_le (by rw[intsV_len,gA,qa4];exact le_refl _)]at hp2;subst hp2;have hD5:=hsm4 _ _ hDl;refine k1 (.ref D2) H4 hD5 (Same.set (hsm.trans hsm4) hD) (ls++[D2],by rw[map_append];rfl,by rw[qa5,hll];rfl,λi u e=>?_);rcases b_l e with z|⟨rfl,rfl⟩
   .obtain ⟨z1,z2⟩:=hls i u z;exact(z1,by rw[upd_ne z1];exact hsm4 _ _ z2)
   .have hne:u≠D:=λzz=>by rw[zz,hDl]at hD2;cases hD2
    exact(hne,by rw[hll,upd_ne hne];exact hD2l)
 .intro D ys H' hD hsm hDl hp;obtain⟨ls,rfl,hll,hls⟩:=hp;exact q D ls H' (hsm2.trans hsm) hDl hll λq a e=>(hls q a e).2
end
section
variable{P:Program}{w:World}{K:Frag}{mg:Str->Option Value}{base:Heap}{P0 PT cW cTM:Addr}{ts:List (Addr×List (Pos×Str))}{tabs:List (Addr×Addr)}{cA_ cG_:Addr}
theorem jS:a_m [Q5] [Q5] (a_a g_p):=fsc
theorem ok_lot_of(F:Fun K "lot_of" "lot_of" g_p f fd)(T:Txt K mg cA_ cG_):aa P w K mg base CX0 1 f fd [Q5] (H.sp_lot K):=by
 refine F.okA jS ?_;rintro _ _ _ _ _ _ _ _ _⟨p,ns,rfl,hp,h8,q⟩;refine(_,(a_f (a_k (a_E a_x (by rfl) T.tuple boot_tuple (pq1 (a_I (iK rfl) (by rfl) T.sorted PyProof.Rows.boot_sorted (pq1 (a_E (kO rfl) (by rfl) T.set PyProof.Rows.boot_set (pq1 (pv 0))))))))),?_);refine(_,rfl,p,ns,rfl,hp,h8,λa ha=>(a,c_a ns,rfl,g_C h8,a_c,λl hl=>(l,_,rfl,.inl (SqL.of a_c,λt ht=>?_))));exact q t _ ((Same.upd ha).trans ((Same.upd hl).trans (Same.upd ht))) a_c
end
section
variable{P:Program}{w:World}{K:Frag}{mg:Str->Option Value}{base:Heap}{P0 PT cW cTM:Addr}{ts:List (Addr×List (Pos×Str))}{tabs:List (Addr×Addr)}{cA_ cG_:Addr}
theorem g_n:a_m [Q0,Q5] [Q0,Q5] (a_a c_H):=fsc
theorem d_Q(F:Fun K "has_marked" "has_marked" c_H f fd)(T:Txt K mg cA_ cG_):aa P w K mg base CX0 1 f fd [Q0,Q5] H.sp_hasm:=by
 refine F.okA g_n ?_;rintro _ _ _ _ _ _ _ _ _⟨m,v,o,L,W,B,k,rfl,hM,hMa,ho,hv,hk60,hkW,q⟩;refine(_,(a_f (a_k (a_I (kQ rfl) (by rfl) T.any PyProof.Rows.boot_any (pq1 (b_w [Q0,Q5] rfl (by decide) (d_K (pv 1)) (λcl C fp s' H'=>(a_M,pe_ix (e_q K) (pe_ix (e_q K) (pv 1) pe_int (λ_ _=>rfl)) (pv 0) (λ_ _=>rfl)))))))),?_);obtain⟨wy,mk,rows,h1,h2,h3,h4,h5⟩:=id hM;have hk1:(intsV k).length≤sizeLine:=by rw[intsV_len];exact a_j (le_trans hk60 (by decide))
 dsimp only[eR,tNext,aO,aG,d_b,b_o,tBM,tCB];refine b_W (a:=v) (λR h=>(_,rfl,h)) ho hv (λD j ys H'=>ys=((k.map λr=>B.getD r false).take j).map V.bl) hk1 (λD hD=>rfl) ?_ ?_
 .intro D j x ys H' R1 R2 hD hx hsm hDl hp k1 k2;have hj:j<k.length:=by have:=(qa1 hx).1;rwa [intsV_len]at this
  rw[a_u hj]at hx;cases hx;have hjW:=hkW _ (d_y (ws:=k) hj);refine tAlways_if (ivT (hsm _ _ h1) bP (_,rfl,iqT (hsm _ _ h3) (f_p (ee hMa.bl hjW)) (k1 _ H' hDl (Same.set hsm hD) ?_)));rw[hp,List.take_add_one,qa6,qa2 hj,map_append,g_I hj];rfl
 .intro D ys H1 hD hsm hDl hp;rw[intsV_len,<-qa4 (f:=λr=>B.getD r false),take_length]at hp;subst hp;refine(D,_,rfl,hDl,?_);have:=q H1 hsm;rw[List.any_map];exact this
end
section
variable{P:Program}{w:World}{K:Frag}{mg:Str->Option Value}{base:Heap}{P0 PT cW cTM:Addr}{ts:List (Addr×List (Pos×Str))}{tabs:List (Addr×Addr)}{cA_ cG_:Addr}
theorem g_l:a_m [Q0,Z1,Q5] [Q0,Z1,Q5] (a_a c_F):=fsc
theorem d_O(F:Fun K "rooms_into" "rooms_into" c_F f fd)(T:Txt K mg cA_ cG_):aa P w K mg base CX0 1 f fd [Q0,Z1,Q5] Tu.sp_rinto:=by
 refine F.okA g_l ?_;rintro _ _ _ _ _ _ _ _ _⟨m,st,L,W,B,j,S,rfl,hM,hMa,hj,hst,q⟩;refine(_,(a_f (a_k (a_E a_x (by rfl) T.tuple boot_tuple (pq1 (d_L [Q0,Z1,Q5] rfl (by decide) (e_K rfl T.enumerate (pq1 (xqV 0))) (λcl C fp s' H'=>(iY (a_S (ic K) (pe_ix (e_q K) (pv 1) (pv 3) (λ_ _=>rfl)) (pv 4) (by with_unfolding_all rfl)),pv 0))))))),?_);obtain⟨wy,mk,rows,h1,h2,h3,h4,h5⟩:=id hM;have hrl:(rows.map V.ref).length=W.length:=by rw[qa4,h4]
 have hn60:=hMa.n60;dsimp only[eR,tCB,b_o];refine e_y (c:=wy) (λR h=>(ivT h1 aF h)) (.inr rfl) h2 (λD i ys H'=>ys=intsV ((List.range i).filter λr=>S.contains (goal W r j))) (by rw[hrl];exact a_j (le_trans hn60 (by decide))) (λD hD=>rfl) ?_ ?_
 .intro D i x ys H' H3 R1 R2 hD hx hsm hDl hp hsm3 k1 k2;rw[qa6]at hx;obtain⟨ra,hra,rfl⟩:=qb3 hx;have hi:i<W.length:=by rw[<-h4];exact(qa1 hra).1
  obtain⟨ws,hws,hra0⟩:=h5 i ra hra;have ew:W.getD i []=ws:=by rw[qa3,hws];rfl
  have s3:=hsm.trans hsm3;have hwl:=(hMa.row ws (qb2 hws)).1;refine(_,rfl,_,rfl,iqT (s3 _ _ hra0) (a_P (by rw[hwl];exact hj)) (_,rfl,st,_,rfl,.inr (SqT.of (s3 _ _ hst)),rfl,g_c _,_,rfl,?_));have eg:ws.getD j 0=goal W i j:=by unfold goal;rw[ew]
  rw[eg];show if (inV (.int ((goal W i j:Nat):Int)) (intsV S))=true then _ else _
  rw[g_G];cases hc:S.contains (goal W i j)with
  |true=>
   refine au (_,rfl,k1 _ H3 (hsm3 _ _ hDl) (Same.set s3 hD) ?_);rw[hp,filter_snoc,hc];exact(c_Y _ _).symm
  |false=>
   refine ag (k2 H3 s3 (hsm3 _ _ hDl) ?_);rw[hp,filter_snoc,hc];simp
 .intro D ys H' hD hsm hDl hp;rw[hrl]at hp;subst hp;exact(D,_,rfl,.inl (SqL.of hDl,λp hp=>q p _ (hsm.trans (Same.upd hp)) a_c))
end
section
variable{P:Program}{w:World}{K:Frag}{mg:Str->Option Value}{base:Heap}{P0 PT cW cTM:Addr}{ts:List (Addr×List (Pos×Str))}{tabs:List (Addr×Addr)}{cA_ cG_:Addr}
theorem f_P:a_m [Q0,"marks"] [Q0] (a_a f_c):=fsc
theorem ig(F:Fun K "outside" "outside" f_c f fd)(T:Txt K mg cA_ cG_)(nd:(ts.map Prod.fst).Nodup)(i0:(P0,sites,)∈ts)(yh:Df P w K mg base "walked_machine" 6 [Q0] (e_U cW P0 sites))(y7:DfX P w K mg base "told" 4 [Z0] (c_s cW cTM)):aa P w K mg base (CXE P w) 7 f fd [Q0] (bt cTM ts fh):=by
 refine F.okX f_P (λvs H Q E h=>?_) (λcdv A outer s H vs Q E hr h=>?_)
 .obtain ⟨m,L,W,B,rfl,_⟩:=h;rfl
 .obtain ⟨m,L,W,B,rfl,hM,hMa,hW8,hA,qE,q⟩:=h;have hT:=hA _ i0;have hr4:=hr.mono (j:=4) (by decide);refine(_,(a_b (d_s [Q0,"marks"] (j:=1) rfl f_P.nd (by decide) rfl (Or.inl rfl) (d_K (xqV 0)) (λcl C fp s' H'=>(a_M,ib (pv 0)))) (a_f (a_k (a_l y7 hr4 (a_d λ_ _ _ z=>z) (pq1 ((a_H yh hr (pq1 (c_J (pq3 (xqV 0) (xqV 0) (pv 1))))))))))),?_);obtain⟨wy,mk,rows,h1,h2,h3,h4,h5⟩:=id hM;have n60:=hMa.n60;dsimp only[c_x,tNext,aO,aG,d_b,b_o,tBM,tCB];refine b_W (a:=mk) (λR h=>(ivT h1 bP h)) (.inr rfl) h3 (λD j ys H'=>ys=((B.map not).take j).map V.bl) (by rw[qa4,hMa.bl];exact a_j (le_trans n60 (by decide))) (λD hD=>rfl) ?_ ?_
  .intro D j x ys H' R1 R2 hD hx hsm hDl hp k1 k2;rw[qa6]at hx;obtain⟨b,hb,rfl⟩:=qb3 hx;refine tAlways_if (_,rfl,b,rfl,k1 _ H' hDl (Same.set hsm hD) ?_);rw[hp,List.take_add_one,qa6,hb,map_append];rfl
  .intro D ys H1 hD hsm hDl hp;rw[qa4,<-qa4 (f:=not),take_length]at hp;subst hp;have hm1:=hsm _ _ h1;refine(ivT hm1 aK (ivT hm1 aF (_,rfl,a_j (by show 3≤16777216;decide),λt ht=>?_)));have s2:=hsm.trans (Same.upd (o:=.tup [.str (tx L),.ref wy,.ref D]) ht);have ht2:L2.upd H1 t (.tup [.str (tx L),.ref wy,.ref D]) t=some (.tup [.str (tx L),.ref wy,.ref D]):=a_c;have hD2:=a_i (u:=.tup [.str (tx L),.ref wy,.ref D]) hDl ht;generalize L2.upd H1 t (.tup [.str (tx L),.ref wy,.ref D])=H2 at s2 ht2 hD2;have hMn:Mach L W (B.map not):={hMa with bl:=by rw[qa4];exact hMa.bl};have hT2:=b_X hT s2;refine(t,L,W,B.map not,rfl,(wy,D,rows,ht2,s2 _ _ h2,hD2,h4,λi a e=>by obtain⟨ws,e1,e2⟩:=h5 i a e;exact(ws,e1,s2 _ _ e2)),hMn,hT2,λwk t' wd y md ks vks ws rows' R Bm H3 s3 hT3 hW ht' hth hwd hy hwr hmd bf ways hR bl mks sub le=>?_);have kT:KT ts H H3:=(KT.of s2).trans (KT.ofX nd i0 s3 hT2 hT3);have hRM:=c_k (Bm:=Bm) hMa.lt bf ways hR bl (le_trans le n60);refine(wk,t',wd,y,md,rows',L,R,Bm,ws,rfl,hW,hy,hwr,hmd,hwd,by rw[hR];exact bf.len.symm,hRM,λi hi=>(_,b_H bf ways hR (qa2 (by rw[<-bf.len,<-hR];exact hi))),λH' s' _=>qE none H' (kT.trans (KT.of s')),λmm k ff H4 hm st4 hm8 s4 hf hMf=>?_);refine q ff _ _ H4 (kT.trans (KT.of s4)) hMf (b_V hm hRM) (c_N hm8) (c_q bf ways hR hRM st4 hm) λu hu=>?_;unfold Tks fh;dsimp only;rw[b_K hm hRM st4 hu,b_M bf ways hR bl mks hu];rw[g_s 0 u.length u rfl];have hlt:=b_A hMa (w:=u) hMa.n1 hu;show(B.map not).getD (run L W 0 u) false=true↔_;have hlB:run L W 0 u<B.length:=by rw[hMa.bl];exact hlt
   rw[qa3,qa6,qa3,qa2 hlB];show(!B[run L W 0 u])=true↔B[run L W 0 u]=false;rw[not_eq_true']
end
section
variable{P:Program}{w:World}{K:Frag}{mg:Str->Option Value}{base:Heap}{P0 PT cW cTM:Addr}{ts:List (Addr×List (Pos×Str))}{tabs:List (Addr×Addr)}{cA_ cG_:Addr}
theorem jR:a_m [Q0] [Q0] (a_a g_o):=fsc
theorem ke(F:Fun K "turned" "turned" g_o f fd)(T:Txt K mg cA_ cG_)(nd:(ts.map Prod.fst).Nodup)(i0:(P0,sites,)∈ts)(iT:(PT,Tu.sitesT,)∈ts)(y7:DfX P w K mg base "told" 4 [Z0] (c_s cW cTM))(yW:Df P w K mg base "walked_turned" 6 [Q0] (Tu.sp_wturn cW PT Tu.sitesT))(y9:Df P w K mg base "least" 7 [Q0] (d_C P0 sites)):aa P w K mg base (CXE P w) 8 f fd [Q0] (bt cTM ts f_T):=by
 refine F.okX jR (λvs H Q E h=>?_) (λcdv A outer s H vs Q E hr h=>?_)
 .obtain ⟨m,L,W,B,rfl,_⟩:=h;rfl
 .obtain ⟨m,L,W,B,rfl,hM,hMa,hW8,hA,qE,q⟩:=h;have hT0:=hA _ i0;have hr4:=hr.mono (j:=4) (by decide);have hr6:=hr.mono (j:=6) (by decide);refine(_,(a_f (a_k (a_l y7 hr4 (a_d λ_ _ _ z=>z) (pq1 ((a_H yW hr6 (pq1 ((a_H y9 hr (pq1 (pv 0))))))))))),?_);refine(_,rfl,m,L,W,B,rfl,hM,hMa,hT0,λf W1 B1 H1 s1 hT0' hM1 hLe=>?_);have kA:KT ts H H1:=KT.ofX nd i0 s1 hT0 hT0';have hT1':=kA.tb hA _ iT;refine(f,L,W1,B1,rfl,hM1,hLe.mach,le_trans hLe.len hW8,hT1',λwk t wd y md ks ws rows R Bm H2 s2 hT2 hW hwd hy hwr hmd bf ways hR bl mks le=>?_);have kT:KT ts H H2:=kA.trans (KT.ofX nd iT s2 hT1' hT2);have hRM:=c_k (Bm:=Bm) hMa.lt bf ways hR bl (le_trans le (by decide));refine(wk,t,wd,y,md,rows,L,R,Bm,ws,rfl,hW,hy,hwr,hmd,hwd,by rw[hR];exact bf.len.symm,hRM,λi hi=>(_,b_H bf ways hR (qa2 (by rw[<-bf.len,<-hR];exact hi))),λH' s' _=>qE none H' (kT.trans (KT.of s')),λmm k g H3 hm st hm8 s3 hg hMg=>?_);refine q g _ _ H3 (kT.trans (KT.of s3)) hMg (b_V hm hRM) (c_N hm8) (c_q bf ways hR hRM st hm) λu hu=>?_;unfold Tks f_T;dsimp only;have hu':∀c∈u.reverse,c∈L:=λc hc=>hu c (mem_reverse.mp hc);rw[b_K hm hRM st hu,b_M bf ways hR bl mks hu,gO hLe.mach hu,hLe.takes hMa hu']
end
section
variable{P:Program}{w:World}{K:Frag}{mg:Str->Option Value}{base:Heap}{P0 PT cW cTM:Addr}{ts:List (Addr×List (Pos×Str))}{tabs:List (Addr×Addr)}{cA_ cG_:Addr}
theorem f_b:a_m ["_law_script","_law_k"] ["_law_script","_law_k"] (a_a c_h):=fsc
theorem f_m(F:Fun K "_law_cell_at" "_law_cell_at" c_h f fd)(T:Txt K mg cA_ cG_):aa P w K mg base CX0 1 f fd ["_law_script","_law_k"] (di K):=by
 refine F.okA f_b ?_;rintro _ _ _ _ _ _ _ _ _⟨a,ns,k,rfl,hS,h0,q⟩;refine(_,(a_b ((a_W (a_S jd (pv 1) (lqQ T.len (pv 0)) (b_d _)) ((a_f (a_k (xqL (pv 0) (pv 1))))) (a_t))) (a_f (a_k pe_int))),?_);refine(_,rfl,_,rfl,a,_,rfl,.inl hS,_,_,rfl,rfl,_,rfl,?_);refine aE (λhlt=>?_) (λ_=>q 0);obtain⟨v,hv,hv2⟩:=nI (xs:=ns.map V.int) h0 hlt;obtain⟨z,rfl⟩:∃z,v=V.int z:=by
  rw[qa6]at hv2;cases e:ns[k.toNat]? with
  |none=>rw[e]at hv2;cases hv2
  |some z=>rw[e]at hv2;exact(z,(Option.some.inj hv2).symm)
 exact(_,rfl,_,rfl,a,_,_,_,rfl,rfl,hS,hv,q z)
end
section
variable{P:Program}{w:World}{K:Frag}{mg:Str->Option Value}{base:Heap}{P0 PT cW cTM:Addr}{ts:List (Addr×List (Pos×Str))}{tabs:List (Addr×Addr)}{cA_ cG_:Addr}
theorem a_p:a_m ["_law_cell","_law_left","_law_number","_law_many","_law_found","_law_k","_law_at"] ["_law_cell"] (a_a c_g):=fsc
theorem f_l(F:Fun K "_law_letters" "_law_letters" c_g f fd)(T:Txt K mg cA_ cG_):aa P w K mg base CX0 1 f fd ["_law_cell"] sp_letters:=by
 refine F.okA a_p ?_;rintro _ _ _ _ H _ _ _ _⟨c,rfl,q⟩;refine(_,(a_b ((stS 1 a_p.nd (bB))) (a_b ((stS 2 a_p.nd (a_K bC (pv 0) pe_int))) (a_b ((stS 3 a_p.nd (a_K ie pe_int (a_K bC (pv 2) pe_int)))) (a_b ((stS 2 a_p.nd (a_K dD (pv 2) pe_int))) (a_b ((stS 4 a_p.nd (bB))) (a_b ((c_m PassesOwn.never rfl (b_B rfl T.range (pq1 (pv 3))) (pgN 5 a_p.nd) ((a_b ((stS 6 a_p.nd (a_K bC (pv 2) (lqS T.len (pv 1))))) (a_b ((stS 2 a_p.nd (a_K dD (pv 2) (lqS T.len (pv 1))))) (a_b ((stS 4 a_p.nd (a_K c_U (pv 4) (pe_ix iz (pv 1) (pv 6) (λ_ _=>rfl))))) (a_f ((stS 1 a_p.nd (a_K c_U (e_L lr (pv 1) g_u (g_t (pv 6))) (e_L lr (pv 1) (g_t (a_K ie (pv 6) pe_int)) g_u))))))))))) (a_f (a_k (pv 4))))))))),?_);obtain⟨N,en,n1,n2⟩:=pd (c%46800) 1 3 (by decide);have en:(N:Int)=1+c%46800%3:=en;have n3:N≤3:=Nat.le_of_lt_succ n2;refine(_,rfl,_,_,rfl,rfl,(by show(0:Int)<46800;decide),_,rfl,_,_,rfl,rfl,(by show(0:Int)<3;decide),_,_,rfl,rfl,_,rfl,_,_,rfl,rfl,(by decide,by decide),_,rfl,_,rfl,by rw[<-en];exact(ec (le_trans (le_of_lt n2) (by decide))).1,by rw[<-en];exact(ec (le_trans (le_of_lt n2) (by decide))).2,?_);generalize hM:(1:Int)+c%46800%3=M at en⊢;have hMN:M.toNat=N:=by rw[<-en];rfl
 refine b_U (n:=M.toNat) (λi σ H'=>∃f l n k0 a0,σ=[some (.int c),some (.str (tx l)),some (.int n),some (.int M),some (.str (tx f)),k0,a0]/\H'=H/\0≤n/\f.length=i/\l.length+i=26/\(f++l).Nodup/\∀c∈f++l,97≤c/\c≤122) ?_ ?_ ?_
 .refine ([],List.range' 97 26,c%46800/3,none,none,?_,rfl,Int.ediv_nonneg (Int.emod_nonneg _ (by decide)) (by decide),rfl,rfl,by decide,by decide);show[some (V.int c),some (V.str _),some (V.int _),some (V.int _),some (V.str _),none,none]=_;rw[qL,g_L,hM]
 .rintro i σ H1 hi⟨f,l,n,k0,a0,rfl,rfl,hn,hf,hl,nd,az⟩;have hi3:i<3:=lt_of_lt_of_le (hMN▸hi) n3;obtain⟨l1,l26⟩:=qI hl (le_of_lt hi3);have hz:(tx l).length≤sizeLine:=a_j (by rw[b_b];exact le_trans l26 (by decide));have hlp:(0:Int)<((tx l).length:Int):=by rw[b_b];exact jz l1
  have hr0:=Int.emod_nonneg n (Int.ne_of_gt hlp);have hr1:=Int.emod_lt_of_pos n hlp;have hd0:0≤n/((tx l).length:Int):=Int.ediv_nonneg hn (Int.le_of_lt hlp);have hRl:(n%((tx l).length:Int)).toNat<l.length:=Nat.lt_of_lt_of_eq (ar_toNat hr0 hr1) (b_b l);obtain⟨v,hv,hv2⟩:=nI (xs:=(tx l).cps.toList) hr0 (by rw[e_t];exact Int.lt_of_lt_of_le hr1 (Int.le_of_eq (congrArg Nat.cast (b_b l))));rw[e_t]at hv2;have ev:v=l[(n%((tx l).length:Int)).toNat]:=by
   rw[qa2 hRl]at hv2;exact(Option.some.inj hv2).symm
  subst ev;refine(_,rfl,_,rfl,_,rfl,hz,_,_,rfl,rfl,hlp,_,rfl,_,rfl,_,rfl,hz,_,_,rfl,rfl,(hlp,by rw[b_b];exact sw l26),_,rfl,_,rfl,_,rfl,_,_,_,rfl,rfl,hz,hv,_,_,rfl,rfl,?_,_,rfl,_,rfl,_,rfl,_,rfl,hz,_,rfl,_,rfl,_,_,rfl,rfl,_,rfl,_,rfl,hz,_,_,rfl,rfl,?_,?_)
  .refine a_j ?_;rw[b_b];show f.length+1≤_;rw[hf];exact le_trans hi3 (by decide)
  .refine a_j ?_;have h1:=Txt.slice_le (tx l) none (some (n%((tx l).length:Int)));have h2:=Txt.slice_le (tx l) (some ((n%((tx l).length:Int))+1)) none;exact qG h1 h2 (by rw[b_b];exact l26)
  .obtain ⟨d1,d2⟩:=nn hRl nd;refine(f++[l[(n%((tx l).length:Int)).toNat]],l.take (n%((tx l).length:Int)).toNat++l.drop ((n%((tx l).length:Int)).toNat+1),n/((tx l).length:Int),some (.int (0+(i:Int))),some (.int (n%((tx l).length:Int))),?_,rfl,hd0,by rw[qa5,hf];rfl,?_,d1,λc hc=>az c (d2 c hc))
   .have e1:=lq (tx l) hr0;have e2:=g9 (tx l) (i:=(n%((tx l).length:Int))+1) (Int.le_trans hr0 (Int.le_of_lt (Int.lt_succ _))) (by rw[e_t];exact Int.lt_of_lt_of_le hr1 (Int.le_of_eq (congrArg Nat.cast (b_b l))));rw[e_t]at e1 e2;rw[pb hr0]at e2;show[some (V.int c),some (V.str (Txt.slice (tx l) none (some (n%((tx l).length:Int)))++Txt.slice (tx l) (some ((n%((tx l).length:Int))+1)) none)),some (V.int _),some (V.int M),some (V.str (tx f++⟨#[l[(n%((tx l).length:Int)).toNat]]⟩)),some _,some _]=_;rw[e1,e2,db,show(⟨#[l[(n%((tx l).length:Int)).toNat]]⟩:Str)=tx [l[(n%((tx l).length:Int)).toNat]]from rfl,db]
   .rw [qa5,length_take,List.length_drop];exact pe hRl hl
 .rintro σ H1⟨f,l,n,k0,a0,rfl,rfl,hn,hf,hl,nd,az⟩;refine(_,rfl,q f (by rw[hf,hMN];exact n1,by rw[hf,hMN];exact n3,(List.nodup_append.mp nd).1,λc hc=>az c (mem_append_left _ hc)))
end
section
variable{P:Program}{w:World}{K:Frag}{mg:Str->Option Value}{base:Heap}{P0 PT cW cTM:Addr}{ts:List (Addr×List (Pos×Str))}{tabs:List (Addr×Addr)}{cA_ cG_:Addr}
theorem a_s:a_m ["_law_script","_law_at","_law_rooms","_law_letters_here","_law_ways_here","_law_marks","_law_number","_law_k","_law_rest","_law_row","_law_sign"] ["_law_script","_law_at","_law_rooms","_law_letters_here"] (a_a c_f):=fsc
theorem f_k(F:Fun K "_law_machine" "_law_machine" c_f f fd)(T:Txt K mg cA_ cG_)(yw:Df P w K mg base "_law_cell_at" 1 ["_law_script","_law_k"] (di K)):aa P w K mg base CX0 2 f fd ["_law_script","_law_at","_law_rooms","_law_letters_here"] (f_O K):=by
 refine F.okA a_s ?_;rintro _ _ _ _ H _ _ _ hr⟨a,ns,p,n,L,rfl,hS,hp0,hn1,hn60,hL,q⟩;refine(_,(a_b ((stS 4 a_s.nd (a_D d_i))) (a_b ((stS 5 a_s.nd (a_D d_i))) (a_b ((stS 6 a_s.nd (pe_int))) (a_b ((c_m PassesOwn.never rfl (b_B rfl T.range (pq1 (pv 2))) (pgN 7 a_s.nd) ((a_b ((stS 6 a_s.nd (a_K g_w (a_K op_a (a_K op_a (a_K rQ (pv 6) (pv 6)) (a_K rQ pe_int (a_K op_m (a_H yw hr (pq2 (pv 0) (a_K op_a (pv 1) (pv 7)))) (a_K qj pe_int pe_int)))) (pv 7)) pe_int))) (a_b ((stS 8 a_s.nd (pv 6))) (a_b ((stS 9 a_s.nd (a_D d_i))) (a_b ((c_m PassesOwn.never rfl (qb (pv 3)) (pgN 10 a_s.nd) ((a_b (b_j (apQ (pv 9) (a_K g_w (pv 8) (pv 2)))) (a_f ((stS 8 a_s.nd (a_K mo (pv 8) (pv 2))))))))) (a_b (b_j (apQ (pv 4) ((a_E a_x (by rfl) T.tuple boot_tuple (pq1 (pv 9)))))) (a_f (b_j (apQ (pv 5) (c_K be (a_K g_w (pv 8) pe_int) pe_int (b_d _))))))))))))) (a_f (a_k (c_J (pq3 (pv 3) (a_E a_x (by rfl) T.tuple boot_tuple (pq1 (pv 4))) (a_E a_x (by rfl) T.tuple boot_tuple (pq1 (pv 5))))))))))),?_);refine(zero_le _,λwa hwa=>(zero_le _,λmk hmk=>?_));have hwm:wa≠mk:=ne_of_none a_c hmk;have hmk0:H mk=none:=by rw[upd_ne hwm.symm]at hmk;exact hmk
 refine(_,rfl,_,rfl,(ec (le_trans hn60 (by decide))).1,(ec (le_trans hn60 (by decide))).2,?_);refine b_U (n:=(n:Int).toNat) (λi σ H'=>∃(rows:List Addr)(W:LL)(B:List Bool)(num:Int)(k0 rest row sg:Option V),σ=[some (.ref a),some (.int p),some (.int (n:Int)),some (.str (tx L)),some (.ref wa),some (.ref mk),some (.int num),k0,rest,row,sg]/\
  Same H H'/\H' wa=some (.lst (rows.map V.ref))/\H' mk=some (.lst (B.map V.bl))/\rows.length=i/\W.length=i/\B.length=i/\0≤num/\num<2147483647/\e_C H' rows W/\∀ws∈W,ws.length=L.length/\∀x∈ws,x<n) ?_ ?_ ?_
 .exact ([],[],[],0,none,none,none,none,rfl,λb o e=>a_i (a_i e hwa) hmk,a_i a_c hmk,a_c,rfl,rfl,rfl,by decide,by decide,λi r e=>by simp at e,λws e=>by simp at e)
 .rintro i σ H1 hi⟨rows,W,B,num,k0,rest0,row0,sg0,rfl,hsame,h1wa,h1mk,hrl,hWl,hBl,hn0,hn1',hrows,hW⟩;refine(_,rfl,_,rfl,_,_,rfl,rfl,.inl (su hn0 hn1'),_,rfl,_,rfl,_,rfl,_,_,rfl,rfl,a,ns,_,rfl,hsame.seq hS,tH hp0 i,λz=>?_);refine(_,_,rfl,rfl,(by decide,by decide,by decide),_,_,rfl,rfl,by decide,_,_,rfl,rfl,.inl (by decide,by decide),_,_,rfl,rfl,_,rfl,_,_,rfl,rfl,_,_,rfl,rfl,by decide,λnum2 hm0 hm1=>?_);refine(_,rfl,zero_le _,λrw hrw=>?_);have rwa:wa≠rw:=ne_of_none h1wa hrw;have rmk:mk≠rw:=ne_of_none h1mk hrw;refine(_,rfl,_,rfl,oZ (x:=tx L) (λj σ' H2=>∃(ws:LN)(rest:Int)(sg:Option V),σ'=[some (.ref a),some (.int p),some (.int (n:Int)),some (.str (tx L)),some (.ref wa),some (.ref mk),some (.int num2),some (.int (0+(i:Int))),some (.int rest),some (.ref rw),sg]/\
   H2=upd H1 rw (.lst (intsV ws))/\ws.length=j/\(∀x∈ws,x<n)/\0≤rest) ([],num2,sg0,rfl,rfl,rfl,λx e=>by simp at e,hm0) ?_ ?_)
  .rintro j c σ2 H2 hc⟨ws,rest,sg,rfl,rfl,hwl,hwn,hr0⟩;have hjl:j<4:=by
    have h9:=(Array.getElem?_eq_some_iff.mp hc).1;have e:(tx L).cps.size=L.length:=b_b L;rw[e]at h9;exact lt_of_lt_of_le h9 (le_trans hL.hi (by decide))
   refine(_,rfl,.inl (rfl,_,SqL.of a_c),_,rfl,_,rfl,_,_,rfl,rfl,jz hn1,λr hr0' hr1=>(rw,_,_,rfl,rfl,a_c,?_,_,rfl,_,rfl,_,_,rfl,rfl,ss hn1 (le_trans hn60 (by decide)),hr0,λq2 hq2=>?_))
   .unfold intsV;rw[qa4,hwl];exact e_Y (le_trans (le_of_lt hjl) (by decide))
   .refine (ws++[r.toNat],q2,some (.str ⟨#[c]⟩),rfl,?_,by rw[qa5,hwl];rfl,λx hx=>?_,hq2)
    .have e:((r.toNat:Nat):Int)=r:=Int.toNat_of_nonneg hr0';rw[g_g];unfold intsV;rw[map_append];show _=upd H1 rw (.lst (_++[V.int ((r.toNat:Nat):Int)]));rw[e]
    .rcases mem_append.mp hx with hx|hx
     .exact hwn x hx
     .rw [qb1 hx];exact ar_toNat hr0' hr1
  .rintro σ2 H2⟨ws,rest,sg,rfl,rfl,hwl,hwn,hr0⟩;rw[b_b]at hwl;have a1:upd H1 rw (.lst (intsV ws)) wa=some (.lst (rows.map V.ref)):=by rw[upd_ne rwa];exact h1wa
   have a2:upd H1 rw (.lst (intsV ws)) mk=some (.lst (B.map V.bl)):=by rw[upd_ne rmk];exact h1mk
   refine(_,rfl,.inl (rfl,_,SqL.of a1),_,rfl,rw,_,rfl,.inl (SqL.of a_c,λtp htp=>?_));have twa:wa≠tp:=ne_of_none a1 htp;have tmk:mk≠tp:=ne_of_none a2 htp;refine(wa,_,_,rfl,rfl,(by rw[upd_ne twa];exact a1),(by rw[qa4,hrl];exact e_Y (le_trans (le_of_lt hi) (le_trans hn60 (by decide)))),?_);refine(_,rfl,.inl (rfl,_,SqL.of (by rw[upd_ne hwm.symm,upd_ne tmk];exact a2)),_,rfl,_,_,rfl,rfl,by decide,λr3 _ _=>(rfl,mk,_,_,rfl,rfl,(by rw[upd_ne hwm.symm,upd_ne tmk];exact a2),(by rw[qa4,hBl];exact e_Y (le_trans (le_of_lt hi) (le_trans hn60 (by decide)))),?_));have hk:∀b o,H1 b=some o->b≠wa->b≠mk->upd (upd (upd (upd H1 rw (.lst (intsV ws))) tp (.tup (intsV ws))) wa (.lst (rows.map V.ref++[.ref tp]))) mk (.lst (B.map V.bl++[.bl (decide (V.int r3=V.int 1))])) b=some o:=λb o e e1 e2=>by
    rw[upd_ne e2,upd_ne e1,upd_ne (ne_of_none (a_i e hrw) htp),upd_ne (ne_of_none e hrw)];exact e
   refine(rows++[tp],W++[ws],B++[decide (V.int r3=V.int 1)],num2,some (.int (0+(i:Int))),some (.int rest),some (.ref rw),sg,rfl,λb o e=>?_,?_,?_,?_,?_,?_,hm0,hm1,λj r e=>?_,λv hv=>?_)
   .exact hk b o (hsame b o e) (ne_of_none e hwa) (ne_of_none e hmk0)
   .rw [upd_ne hwm,a_c,map_append];rfl
   .rw [a_c,map_append];rfl
   .rw [qa5,hrl];rfl
   .rw [qa5,hWl];rfl
   .rw [qa5,hBl];rfl
   .exact jV hrows (hrl.trans hWl.symm) (λb xs z=>hk b _ z (ne_of z h1wa (by intro z;cases z)) (ne_of z h1mk (by intro z;cases z))) (by rw[upd_ne tmk.symm,upd_ne twa.symm,a_c]) j r e
   .rcases mem_append.mp hv with hv|hv
    .exact hW v hv
    .rw [qb1 hv];exact(hwl,hwn)
 .rintro σ H1⟨rows,W,B,num,k0,rest0,row0,sg0,rfl,hsame,h1wa,h1mk,hrl,hWl,hBl,hn0,hn1',hrows,hW⟩;refine(_,rfl,_,rfl,wa,_,rfl,.inl (SqL.of h1wa,λtw htw=>(_,rfl,mk,_,rfl,.inl (SqL.of (a_i h1mk htw),λtm htm=>(a_j (by show 3≤16777216;decide),λm hm=>?_)))));have up:∀b o,H1 b=some o->upd (upd (upd H1 tw (.tup (rows.map V.ref))) tm (.tup (B.map V.bl))) m (.tup [.str (tx L),.ref tw,.ref tm]) b=some o:=λb o e=>a_i (a_i (a_i e htw) htm) hm;have hWn:W.length=n:=hWl;exact q m W B _ (λb o e=>up b o (hsame b o e)) (tw,tm,rows,a_c,a_i (a_i a_c htm) hm,a_i a_c hm,hrl.trans hWl.symm,hrows.same up) (hL,by rw[hWn];exact hn1,by rw[hWn];exact le_trans hn60 (by decide),hBl.trans hWl.symm,λws hws=>((hW ws hws).1,λx hx=>by rw[hWn];exact(hW ws hws).2 x hx)) hWn
end
section
variable{P:Program}{w:World}{K:Frag}{mg:Str->Option Value}{base:Heap}{P0 PT cW cTM:Addr}{ts:List (Addr×List (Pos×Str))}{tabs:List (Addr×Addr)}{cA_ cG_:Addr}
theorem b_g:a_m ["_law_found","_law_letters_here","_law_row","_law_goal"] ["_law_found","_law_letters_here"] (a_a b_t):=fsc
theorem d_R(F:Fun K "_law_is_machine" "_law_is_machine" b_t f fd)(T:Txt K mg cA_ cG_):aa P w K mg base CX0 1 f fd ["_law_found","_law_letters_here"] sp_ismach:=by
 refine F.okA b_g ?_;rintro _ _ _ s H _ _ _ _⟨m,L,W,B,rfl,hM,hMa,q⟩;refine(_,(a_b ((a_W ((e_D (d_J (b_r (isQ T.isinst T.tuple boot_tuple (pv 0)))) (e_D (cqN (lqQ T.len (pv 0)) pe_int) (e_D (d_J (b_r (isQ T.isinst T.str boot_str (xqV 0)))) (f_e (cqN (xqV 0) (pv 1)))))).pt) ((a_f (a_k d_t))) (a_t))) (a_b ((a_W ((e_D (d_J (b_r (isQ T.isinst T.tuple boot_tuple (xqV 0)))) (e_D (d_J (b_r (isQ T.isinst T.tuple boot_tuple (xqV 0)))) (f_e (cqE (lqQ T.len (xqV 0)) pe_int)))).pt) ((a_f (a_k d_t))) (a_t))) (a_b ((c_m PassesOwn.never rfl (lW (xqV 0)) (pgN 2 b_g.nd) ((a_b ((a_W ((e_D (d_J (b_r (isQ T.isinst T.tuple boot_tuple (pv 2)))) (f_e (cqN (lqQ T.len (pv 2)) (lqS T.len (pv 1))))).pt) ((a_f (a_k d_t))) (a_t))) (a_f ((c_m PassesOwn.never rfl (lW (pv 2)) (pgN 3 b_g.nd) ((a_f ((a_W ((e_D (d_J (b_r (isQ T.isinst T.int boot_int (pv 3)))) (e_D (b_r (isQ T.isinst T.bool boot_bool (pv 3))) (e_D (a_S jd (pv 3) pe_int (b_d _)) (f_e (a_S rT (pv 3) (lqQ T.len (xqV 0)) (b_d _)))))).pt) ((a_f (a_k d_t))) (a_t)))))))))))) (a_f (a_k (f_h (c_K be (lqQ T.len (xqV 0)) (lqQ T.len (xqV 0)) (b_d _)) (f_g (a_I (kS rfl) (by rfl) T.all PyProof.Rows.boot_all (pq1 (b_w ["_law_found","_law_letters_here","_law_row","_law_goal"] rfl (by decide) (d_K (xqV 0)) (λcl C fp s' H'=>(a_M,(a_I (nB (T:="bool") K) (by rfl) T.isinst PyProof.Rows.boot_isinstance (pq2 (pv 0) (ja (v:=.ty "bool") (by rfl) T.bool boot_bool rfl))))))))))))))),?_);obtain⟨wy,mk,rows,h1,h2,h3,h4,h5⟩:=hM;have hz:(tx L).length≤sizeLine:=a_j (by rw[b_b];exact le_trans hMa.lt.hi (by decide));have hrl:(rows.map V.ref).length=W.length:=by rw[qa4,h4]
 have hn1:=hMa.n1;have a0:∀{H':Hp},Same H H'->SqT K H' m [.str (tx L),.ref wy,.ref mk]:=λs=>SqT.of (s _ _ h1);have rf:=Same.refl H;refine(_,rfl,_,_,_,rfl,ae.tup h1,(c_i K).1,_,rfl,ag (_,rfl,m,_,rfl,.inr (SqT.of h1),rfl,_,rfl,f_t rfl ?_));refine(ivT h1 aK (_,_,_,rfl,ae.str _,kit_ss K,_,rfl,ag ?_));refine(ivT h1 aK (_,rfl,rfl,_,rfl,f_t rfl ?_));refine(ivT h1 aF (_,_,_,rfl,ae.tup h2,(c_i K).1,_,rfl,ag ?_));refine(ivT h1 bP (_,_,_,rfl,ae.tup h3,(c_i K).1,_,rfl,ag ?_));refine(ivT h1 aF (wy,_,rfl,.inr (SqT.of h2),rfl,_,rfl,?_));rw[hrl,nw (by omega)];refine ag ?_;refine(ivT h1 aF (wy,rfl,(_,SqT.of h2),?_));refine jq (K:=K) (a:=wy) (xs:=rows.map V.ref) (λi σ' H'=>∃s2 s3,σ'=[some (.ref m),some (.str (tx L)),s2,s3]/\H'=H) (none,none,rfl,rfl) ?_ ?_ ?_
 .rintro i σ' H' hi⟨s2,s3,rfl,rfl⟩;exact SqT.of h2
 .rintro i x σ' H' hx⟨s2,s3,rfl,rfl⟩;rw[qa6]at hx;obtain⟨ra,hra,rfl⟩:=qb3 hx;obtain⟨ws,hws,hrow⟩:=h5 i ra hra;obtain⟨hwl,hwb⟩:=hMa.row ws (qb2 hws);refine(_,rfl,_,_,_,rfl,ae.tup hrow,(c_i K).1,_,rfl,ag (_,rfl,ra,_,rfl,.inr (SqT.of hrow),_,rfl,_,rfl,hz,rfl,_,rfl,?_));rw[intsV_len,hwl,b_b];refine f_t rfl ?_;refine(_,rfl,ra,rfl,(_,SqT.of hrow),?_);refine jq (K:=K) (a:=ra) (xs:=intsV ws) (λi σ' H2=>∃s3,σ'=[some (.ref m),some (.str (tx L)),some (.ref ra),s3]/\H2=H') (_,rfl,rfl) ?_ ?_ ?_
  .rintro j σ' H2 hj⟨s3,rfl,rfl⟩;exact SqT.of hrow
  .rintro j x σ' H2 hxj⟨s3,rfl,rfl⟩;have hj:j<ws.length:=by have:=(qa1 hxj).1;rwa [intsV_len]at this
   rw[a_u hj]at hxj;cases hxj;have hg:=hwb _ (d_y hj);refine(_,rfl,_,_,_,rfl,ae.int _,iw K,_,rfl,ag (_,rfl,_,_,_,rfl,ae.int _,ix K,_,rfl,ag (_,rfl,_,_,rfl,rfl,_,rfl,?_)));rw[decide_eq_false (Int.not_lt.mpr (Int.natCast_nonneg _))];refine ag (_,rfl,ivT h1 aF (wy,_,rfl,.inr (SqT.of h2),_,_,rfl,rfl,_,rfl,?_));rw[hrl,decide_eq_false (Int.not_le.mpr (Int.ofNat_lt.mpr hg))];exact ag (_,rfl,rfl)
  .rintro σ' H2⟨s3,rfl,rfl⟩;exact(_,_,rfl,rfl)
 .rintro σ' H'⟨s2,s3,rfl,rfl⟩;refine(ivT h1 bP (mk,_,rfl,.inr (SqT.of h3),ivT h1 aF (wy,_,rfl,.inr (SqT.of h2),rfl,_,rfl,?_)));rw[hrl,qa4,hMa.bl,g_M,decide_eq_true rfl];refine au ?_;dsimp only[tCB,b_o];refine b_W (a:=mk) (λR h=>(ivT h1 bP h)) (.inr rfl) h3 (λD j ys H2=>ys=(replicate j true).map V.bl) (by rw[qa4,hMa.bl];exact a_j (le_trans hMa.n60 (by decide))) (λD hD=>rfl) ?_ ?_
  .intro D j x ys H2 R1 R2 hD hxj hsm hDl hp k1 k2;rw[qa6]at hxj;obtain⟨b,hb,rfl⟩:=qb3 hxj;refine tAlways_if (_,rfl,_,_,_,rfl,ae.bl _,kit_bb K,k1 _ H2 hDl (Same.set hsm hD) ?_);rw[hp,List.replicate_succ',map_append];rfl
  .intro D ys H2 hD hsm hDl hp;subst hp;exact(D,_,rfl,hDl,λb hb=>(List.mem_replicate.mp hb).2,q _ hsm)
end
section
variable{P:Program}{w:World}{K:Frag}{mg:Str->Option Value}{base:Heap}{P0 PT cW cTM:Addr}{ts:List (Addr×List (Pos×Str))}{tabs:List (Addr×Addr)}{cA_ cG_:Addr}
theorem sc__law_same:a_m ["_law_found","_law_due","_law_k"] ["_law_found","_law_due"] (a_a d_q):=fsc
theorem ok__law_same(F:Fun K "_law_same" "_law_same" d_q f fd)(T:Txt K mg cA_ cG_)(hm:mg "_law_same"=some (.ref f))(hbi:b_q K fd ["_law_found","_law_due"] []):aa P w K mg base CX0 4 f fd ["_law_found","_law_due"] (e_V 3):=by
 have step:∀(d:Nat)(sp':Sp),Df P w K mg base "_law_same" d ["_law_found","_law_due"] sp'->(∀d' x y H Q E,d=d'+1->eB H d' x y->Q (.bl true) H->sp' [x,y] H Q E)->aa P w K mg base CX0 (d+1) f fd ["_law_found","_law_due"] (e_V d):=by
  intro d sp' yf hsp;refine F.ok sc__law_same (λvs H Q E h=>?_) (λcdv A outer s H vs Q E hr h=>?_)
  .obtain ⟨x,y,rfl,_⟩:=h;rfl
  .obtain ⟨x,y,rfl,hlike,q⟩:=h;refine(_,(a_b ((a_W ((e_D (b_r (isQ T.isinst T.tuple boot_tuple (pv 1))) (f_e (b_r (isQ T.isinst T.list boot_list (pv 1))))).pt) ((a_b ((a_W ((e_D (cqN (isQ T.isinst T.tuple boot_tuple (pv 0)) (isQ T.isinst T.tuple boot_tuple (pv 1))) (f_e (cqN (isQ T.isinst T.list boot_list (pv 0)) (isQ T.isinst T.list boot_list (pv 1))))).pt) ((a_f (a_k d_t))) (a_t))) (a_b ((a_W (cqN (lqQ T.len (pv 0)) (lqQ T.len (pv 1))) ((a_f (a_k d_t))) (a_t))) (a_b ((c_m PassesOwn.never rfl (b_B rfl T.range (pq1 (lqQ T.len (pv 1)))) (pgN 2 sc__law_same.nd) ((a_f ((a_W (d_J (b_r (a_H yf hr (pq2 (pe_ix mM (pv 0) (pv 2) (λ_ _=>rfl)) (pe_ix mM (pv 1) (pv 2) (λ_ _=>rfl)))))) ((a_f (a_k d_t))) (a_t))))))) (a_f (a_k d_t)))))) (a_t))) (a_b ((a_W (b_r (isQ T.isinst T.bool boot_bool (pv 1))) ((a_f (a_k (f_h (isQ T.isinst T.bool boot_bool (pv 0)) (f_g (c_K be (pv 0) (pv 1) (b_d _))))))) (a_t))) (a_b ((a_W (b_r (isQ T.isinst T.int boot_int (pv 1))) ((a_f (a_k (f_h (isQ T.isinst T.int boot_int (pv 0)) (f_h (ib (isQ T.isinst T.bool boot_bool (pv 0))) (f_g (c_K be (pv 0) (pv 1) (b_d _)))))))) (a_t))) (a_b ((a_W (b_r (isQ T.isinst T.str boot_str (pv 1))) ((a_f (a_k (f_h (isQ T.isinst T.str boot_str (pv 0)) (f_g (c_K be (pv 0) (pv 1) (b_d _))))))) (a_t))) (a_f (lO)))))),?_);have hcase:(x=y/\bL x=true)\/∃d' p q xs ys,d=d'+1/\x=.ref p/\y=.ref q/\((H p=some (.tup xs)/\H q=some (.tup ys))\/(H p=some (.lst xs)/\H q=some (.lst ys)))/\xs.length=ys.length/\xs.length≤2100/\∀(i:Nat)(x y:V),xs[i]?=some x->ys[i]?=some y->eB H d' x y:=by
    cases d with
    |zero=>exact .inl hlike
    |succ d'=>exact hlike.elim .inl λ⟨p,q,xs,ys,h⟩=>.inr (d',p,q,xs,ys,rfl,h)
   rcases hcase with⟨rfl,hf⟩|⟨d',p,p2,xs,ys,hd,rfl,rfl,hpq,hlen,h1000,hall⟩
   .cases x with
    |bl b=>
     refine(_,rfl,_,_,_,rfl,ae.bl _,qy K,_,rfl,ag (_,rfl,_,_,_,rfl,ae.bl _,qz K,_,rfl,ag ?_));refine(_,rfl,_,_,_,rfl,ae.bl _,kit_bb K,_,rfl,au (_,rfl,_,_,_,rfl,ae.bl _,kit_bb K,_,rfl,au (_,rfl,_,rfl,rfl,?_)));show Q (.bl (decide (V.bl b=V.bl b))) H;rw[decide_eq_true rfl];exact q
    |int b=>
     refine(_,rfl,_,_,_,rfl,ae.int _,qw K,_,rfl,ag (_,rfl,_,_,_,rfl,ae.int _,qx K,_,rfl,ag ?_));refine(_,rfl,_,_,_,rfl,ae.int _,ix K,_,rfl,ag ?_);refine(_,rfl,_,_,_,rfl,ae.int _,iw K,_,rfl,au (_,rfl,_,_,_,rfl,ae.int _,iw K,_,rfl,au (_,rfl,_,_,_,rfl,ae.int _,ix K,_,rfl,_,rfl,au (_,rfl,_,rfl,rfl,?_))));show Q (.bl (decide (V.int b=V.int b))) H;rw[decide_eq_true rfl];exact q
    |str b=>
     refine(_,rfl,_,_,_,rfl,ae.str _,qr K,_,rfl,ag (_,rfl,_,_,_,rfl,ae.str _,qt K,_,rfl,ag ?_));refine(_,rfl,_,_,_,rfl,ae.str _,qv K,_,rfl,ag ?_);refine(_,rfl,_,_,_,rfl,ae.str _,qu K,_,rfl,ag ?_);refine(_,rfl,_,_,_,rfl,ae.str _,kit_ss K,_,rfl,au (_,rfl,_,_,_,rfl,ae.str _,kit_ss K,_,rfl,au (_,rfl,_,rfl,rfl,?_)));show Q (.bl (decide (V.str b=V.str b))) H;rw[decide_eq_true rfl];exact q
    |_=>exact absurd (show false=true from hf) Bool.false_ne_true
   .have hseq1:SqL K H p xs\/SqT K H p xs:=hpq.elim (λz=>.inr (SqT.of z.1)) (λz=>.inl (SqL.of z.1));have hseq2:SqL K H p2 ys\/SqT K H p2 ys:=hpq.elim (λz=>.inr (SqT.of z.2)) (λz=>.inl (SqL.of z.2));rcases hpq with⟨hp,hq⟩|⟨hp,hq⟩
    .refine (_,rfl,_,_,_,rfl,ae.tup hq,(c_i K).1,_,rfl,au (au ?_));refine(_,rfl,_,_,_,rfl,ae.tup hp,(c_i K).1,_,rfl,_,_,_,rfl,ae.tup hq,(c_i K).1,rfl,_,rfl,f_t rfl (_,rfl,_,_,_,rfl,ae.tup hp,mL K,_,rfl,_,_,_,rfl,ae.tup hq,mL K,rfl,_,rfl,f_t rfl ?_));refine(_,rfl,p,xs,rfl,hseq1,_,rfl,p2,ys,rfl,hseq2,rfl,_,rfl,f_t (by rw[hlen]) ?_);refine(_,rfl,p2,ys,rfl,hseq2,_,rfl,by omega,by omega,?_);refine b_U (n:=ys.length) (λi σ H'=>∃s0,σ=[some (.ref p),some (.ref p2),s0]/\H'=H) (none,rfl,rfl) ?_ ?_
     .rintro i σ H1 hi⟨s0,rfl,rfl⟩;have hx:=qa2 (l:=xs) (i:=i) (by omega);have hy:=qa2 (l:=ys) (i:=i) (by omega);have hat1:atI xs (0+(i:Int))=some xs[i]:=by rw[Int.zero_add];exact a_G hx
      have hat2:atI ys (0+(i:Int))=some ys[i]:=by rw[Int.zero_add];exact a_G hy
      exact(_,rfl,_,rfl,.inr (.inl (p,xs,_,_,rfl,rfl,SqT.of hp,hat1,_,rfl,_,rfl,.inr (.inl (p2,ys,_,_,rfl,rfl,SqT.of hq,hat2,hsp d' _ _ _ _ _ hd (hall i _ _ hx hy) (_,rfl,ag (_,rfl,rfl)))))))
     .rintro σ H1⟨s0,rfl,rfl⟩;exact q
    .refine (_,rfl,_,_,_,rfl,ae.lst hq,iu K,_,rfl,ag (_,rfl,_,_,_,rfl,ae.lst hq,(c_i K).2.1,_,rfl,au ?_));refine(_,rfl,_,_,_,rfl,ae.lst hp,iu K,_,rfl,_,_,_,rfl,ae.lst hq,iu K,rfl,_,rfl,f_t rfl (_,rfl,_,_,_,rfl,ae.lst hp,(c_i K).2.1,_,rfl,_,_,_,rfl,ae.lst hq,(c_i K).2.1,rfl,_,rfl,f_t rfl ?_));refine(_,rfl,p,xs,rfl,hseq1,_,rfl,p2,ys,rfl,hseq2,rfl,_,rfl,f_t (by rw[hlen]) ?_);refine(_,rfl,p2,ys,rfl,hseq2,_,rfl,by omega,by omega,?_);refine b_U (n:=ys.length) (λi σ H'=>∃s0,σ=[some (.ref p),some (.ref p2),s0]/\H'=H) (none,rfl,rfl) ?_ ?_
     .rintro i σ H1 hi⟨s0,rfl,rfl⟩;have hx:=qa2 (l:=xs) (i:=i) (by omega);have hy:=qa2 (l:=ys) (i:=i) (by omega);have hat1:atI xs (0+(i:Int))=some xs[i]:=by rw[Int.zero_add];exact a_G hx
      have hat2:atI ys (0+(i:Int))=some ys[i]:=by rw[Int.zero_add];exact a_G hy
      exact(_,rfl,_,rfl,.inl (p,xs,_,_,rfl,rfl,SqL.of hp,hat1,_,rfl,_,rfl,.inl (p2,ys,_,_,rfl,rfl,SqL.of hq,hat2,hsp d' _ _ _ _ _ hd (hall i _ _ hx hy) (_,rfl,ag (_,rfl,rfl)))))
     .rintro σ H1⟨s0,rfl,rfl⟩;exact q
 have all:∀d:Nat,aa P w K mg base CX0 (d+1) f fd ["_law_found","_law_due"] (e_V d):=by
  intro d;induction d with
  |zero=>exact step 0 (λ_ _ _ _=>False) (f,fd,hm,F.kp,hbi,(λ_ _ _ _ h=>h.elim,λ_ _ _ _ _ _ _ _ _ _ _ _ _ h=>h.elim)) (λd' _ _ _ _ _ h=>by cases h)
  |succ d ih=>exact step (d+1) (e_V d) (f,fd,hm,F.kp,hbi,ih) (λd' x y H Q E h hl q=>by cases h;exact(x,y,rfl,hl,q))
 exact all 3
end
section
variable{P:Program}{w:World}{K:Frag}{mg:Str->Option Value}{base:Heap}{P0 PT cW cTM:Addr}{ts:List (Addr×List (Pos×Str))}{tabs:List (Addr×Addr)}{cA_ cG_:Addr}
theorem d_G:a_m ["_law_kind","_law_a","_law_b","_law_c"] ["_law_kind","_law_a","_law_b","_law_c"] (a_a b_u):=fsc
theorem d_S(F:Fun K "_law_first_ways" "_law_first_ways" b_u f fd)(T:Txt K mg cA_ cG_)(yz:DfX P w K mg base "outside" 7 [Q0] (bt cTM ts fh))(yy:DfX P w K mg base "either" 7 [Q0,Q3] (aP cTM ts (b_F (λa b=>a||b))))(yg:DfX P w K mg base "both" 7 [Q0,Q3] (aP cTM ts (b_F (λa b=>a&&b))))(y0:DfX P w K mg base "then" 8 [Q0,Q3] (aP cTM ts f_U))(y8:DfX P w K mg base "again" 8 [Q0] (bt cTM ts Ag))(yk:DfX P w K mg base "turned" 8 [Q0] (bt cTM ts f_T))(yY:DfX P w K mg base "less" 7 [Q0,Q3] (aP cTM ts (b_F (λa b=>a&&!b)))):aa P w K mg base (CXE P w) 9 f fd ["_law_kind","_law_a","_law_b","_law_c"] (e_j cTM ts):=by
 refine F.okX d_G (λvs H Q E h=>?_) (λcdv A outer s H vs Q E hr h=>?_)
 .obtain ⟨k,a,b,c,L,Wa,Wb,Wc,Ba,Bb,Bc,rfl,_⟩:=h;rfl
 .obtain ⟨k,a,b,c,L,Wa,Wb,Wc,Ba,Bb,Bc,rfl,ha,hb,hc,hT,qE,q⟩:=h;have hr7:=hr.mono (j:=7) (by decide);have k0:KT ts H H:=KT.refl;have b2:(2:Nat)≤sizeLine:=a_j (by show 2≤16777216;decide);have fin:∀{f g:Addr}{Wf Wg:LL}{Bf Bg:List Bool}{H':Hp},KT ts H H'->Mc H' f L Wf Bf->Mc H' g L Wg Bg->(∃v,c_j L Wf Bf v)->(∃v,c_j L Wg Bg v)->Lg L Wf Bf=Lg L Wg Bg->∀l,H' l=none->Q (.ref l) (L2.upd H' l (.lst [.ref f,.ref g])):=by
   intro f g Wf Wg Bf Bg H' k mf mh cf cg e l hl;obtain⟨v1,c1⟩:=cf;obtain⟨v2,c2⟩:=cg;obtain⟨rfl,rfl⟩:=ji c1 c2 e;have s:=Same.upd (o:=.lst [.ref f,.ref g]) hl;exact q l _ _ _ _ _ (k.trans (KT.of s)) a_c (mf.kt (KT.of (ts:=ts) s)) (mh.kt (KT.of (ts:=ts) s))
  refine(_,(a_b ((a_W (cqE (pv 0) pe_int) ((a_f (a_k (a_D (pq2 ((a_l yz hr7 (a_d λ_ _ _ z=>z) (pq1 ((a_l yy hr7 (a_d λ_ _ _ z=>z) (pq2 (pv 1) (pv 2))))))) ((a_l yg hr7 (a_d λ_ _ _ z=>z) (pq2 ((a_l yz hr7 (a_d λ_ _ _ z=>z) (pq1 (pv 1)))) ((a_l yz hr7 (a_d λ_ _ _ z=>z) (pq1 (pv 2)))))))))))) (a_t))) (a_b ((a_W (cqE (pv 0) pe_int) ((a_f (a_k (a_D (pq2 ((a_l y0 hr (a_d λ_ _ _ z=>z) (pq2 ((a_l yy hr7 (a_d λ_ _ _ z=>z) (pq2 (pv 1) (pv 2)))) (pv 3)))) ((a_l yy hr7 (a_d λ_ _ _ z=>z) (pq2 ((a_l y0 hr (a_d λ_ _ _ z=>z) (pq2 (pv 1) (pv 3)))) ((a_l y0 hr (a_d λ_ _ _ z=>z) (pq2 (pv 2) (pv 3)))))))))))) (a_t))) (a_b ((a_W (cqE (pv 0) pe_int) ((a_f (a_k (a_D (pq2 ((a_l y8 hr (a_d λ_ _ _ z=>z) (pq1 ((a_l y8 hr (a_d λ_ _ _ z=>z) (pq1 (pv 1))))))) ((a_l y8 hr (a_d λ_ _ _ z=>z) (pq1 (pv 1))))))))) (a_t))) (a_b ((a_W (cqE (pv 0) pe_int) ((a_f (a_k (a_D (pq2 ((a_l yk hr (a_d λ_ _ _ z=>z) (pq1 ((a_l y0 hr (a_d λ_ _ _ z=>z) (pq2 (pv 1) (pv 2))))))) ((a_l y0 hr (a_d λ_ _ _ z=>z) (pq2 ((a_l yk hr (a_d λ_ _ _ z=>z) (pq1 (pv 2)))) ((a_l yk hr (a_d λ_ _ _ z=>z) (pq1 (pv 1)))))))))))) (a_t))) (a_b ((a_W (cqE (pv 0) pe_int) ((a_f (a_k (a_D (pq2 ((a_l yY hr7 (a_d λ_ _ _ z=>z) (pq2 (pv 1) (pv 2)))) ((a_l yg hr7 (a_d λ_ _ _ z=>z) (pq2 (pv 1) ((a_l yz hr7 (a_d λ_ _ _ z=>z) (pq1 (pv 2)))))))))))) (a_t))) (a_f (a_k (a_D (pq2 ((a_l y0 hr (a_d λ_ _ _ z=>z) (pq2 ((a_l y0 hr (a_d λ_ _ _ z=>z) (pq2 (pv 1) (pv 2)))) (pv 3)))) ((a_l y0 hr (a_d λ_ _ _ z=>z) (pq2 (pv 1) ((a_l y0 hr (a_d λ_ _ _ z=>z) (pq2 (pv 2) (pv 3)))))))))))))))),?_);refine(_,rfl,rfl,_,rfl,aE (λ_=>(_,rfl,(_,rfl,(a,b,L,Wa,Wb,Ba,Bb,rfl,(ha.kt k0).mt,(ha.kt k0).ma,(hb.kt k0).mt,(hb.kt k0).ma,(ha.kt k0).le,(hb.kt k0).le,k0.tb hT,λd H' j=>qE d H' (k0.trans j),λf1 W1 B1 H1 j1 x1 y1 z1 c1 t1=>(f1,L,W1,B1,rfl,(Mc.mk x1 y1 z1).mt,(Mc.mk x1 y1 z1).ma,(Mc.mk x1 y1 z1).le,(k0.trans j1).tb hT,λd H' j=>qE d H' ((k0.trans j1).trans j),λf2 W2 B2 H2 j2 x2 y2 z2 c2 t2=>(_,rfl,(a,L,Wa,Ba,rfl,(ha.kt ((k0.trans j1).trans j2)).mt,(ha.kt ((k0.trans j1).trans j2)).ma,(ha.kt ((k0.trans j1).trans j2)).le,((k0.trans j1).trans j2).tb hT,λd H' j=>qE d H' (((k0.trans j1).trans j2).trans j),λf3 W3 B3 H3 j3 x3 y3 z3 c3 t3=>(_,rfl,(b,L,Wb,Bb,rfl,(hb.kt (((k0.trans j1).trans j2).trans j3)).mt,(hb.kt (((k0.trans j1).trans j2).trans j3)).ma,(hb.kt (((k0.trans j1).trans j2).trans j3)).le,(((k0.trans j1).trans j2).trans j3).tb hT,λd H' j=>qE d H' ((((k0.trans j1).trans j2).trans j3).trans j),λf4 W4 B4 H4 j4 x4 y4 z4 c4 t4=>(f3,f4,L,W3,W4,B3,B4,rfl,((Mc.mk x3 y3 z3).kt j4).mt,((Mc.mk x3 y3 z3).kt j4).ma,(Mc.mk x4 y4 z4).mt,(Mc.mk x4 y4 z4).ma,((Mc.mk x3 y3 z3).kt j4).le,(Mc.mk x4 y4 z4).le,((((k0.trans j1).trans j2).trans j3).trans j4).tb hT,λd H' j=>qE d H' (((((k0.trans j1).trans j2).trans j3).trans j4).trans j),λf5 W5 B5 H5 j5 x5 y5 z5 c5 t5=>(b2,λl hl=>fin (((((k0.trans j1).trans j2).trans j3).trans j4).trans j5) ((((Mc.mk x2 y2 z2).kt j3).kt j4).kt j5) (Mc.mk x5 y5 z5) c2 c5 (by rw[dI t2,bh t1,bH t5,dI t3,dI t4];exact w0) l hl))))))))))) (λ_=>?_));refine(_,rfl,rfl,_,rfl,aE (λ_=>(_,rfl,(_,rfl,(a,b,L,Wa,Wb,Ba,Bb,rfl,(ha.kt k0).mt,(ha.kt k0).ma,(hb.kt k0).mt,(hb.kt k0).ma,(ha.kt k0).le,(hb.kt k0).le,k0.tb hT,λd H' j=>qE d H' (k0.trans j),λf1 W1 B1 H1 j1 x1 y1 z1 c1 t1=>(_,rfl,(f1,c,L,W1,Wc,B1,Bc,rfl,(Mc.mk x1 y1 z1).mt,(Mc.mk x1 y1 z1).ma,(hc.kt (k0.trans j1)).mt,(hc.kt (k0.trans j1)).ma,(Mc.mk x1 y1 z1).le,(hc.kt (k0.trans j1)).le,(k0.trans j1).tb hT,λd H' j=>qE d H' ((k0.trans j1).trans j),λf2 W2 B2 H2 j2 x2 y2 z2 c2 t2=>(_,rfl,(_,rfl,(a,c,L,Wa,Wc,Ba,Bc,rfl,(ha.kt ((k0.trans j1).trans j2)).mt,(ha.kt ((k0.trans j1).trans j2)).ma,(hc.kt ((k0.trans j1).trans j2)).mt,(hc.kt ((k0.trans j1).trans j2)).ma,(ha.kt ((k0.trans j1).trans j2)).le,(hc.kt ((k0.trans j1).trans j2)).le,((k0.trans j1).trans j2).tb hT,λd H' j=>qE d H' (((k0.trans j1).trans j2).trans j),λf3 W3 B3 H3 j3 x3 y3 z3 c3 t3=>(_,rfl,(_,rfl,(b,c,L,Wb,Wc,Bb,Bc,rfl,(hb.kt (((k0.trans j1).trans j2).trans j3)).mt,(hb.kt (((k0.trans j1).trans j2).trans j3)).ma,(hc.kt (((k0.trans j1).trans j2).trans j3)).mt,(hc.kt (((k0.trans j1).trans j2).trans j3)).ma,(hb.kt (((k0.trans j1).trans j2).trans j3)).le,(hc.kt (((k0.trans j1).trans j2).trans j3)).le,(((k0.trans j1).trans j2).trans j3).tb hT,λd H' j=>qE d H' ((((k0.trans j1).trans j2).trans j3).trans j),λf4 W4 B4 H4 j4 x4 y4 z4 c4 t4=>(f3,f4,L,W3,W4,B3,B4,rfl,((Mc.mk x3 y3 z3).kt j4).mt,((Mc.mk x3 y3 z3).kt j4).ma,(Mc.mk x4 y4 z4).mt,(Mc.mk x4 y4 z4).ma,((Mc.mk x3 y3 z3).kt j4).le,(Mc.mk x4 y4 z4).le,((((k0.trans j1).trans j2).trans j3).trans j4).tb hT,λd H' j=>qE d H' (((((k0.trans j1).trans j2).trans j3).trans j4).trans j),λf5 W5 B5 H5 j5 x5 y5 z5 c5 t5=>(b2,λl hl=>fin (((((k0.trans j1).trans j2).trans j3).trans j4).trans j5) ((((Mc.mk x2 y2 z2).kt j3).kt j4).kt j5) (Mc.mk x5 y5 z5) c2 c5 (by rw[a_Q t2,bh t1,bh t5,a_Q t3,a_Q t4];exact w1) l hl)))))))))))))) (λ_=>?_));refine(_,rfl,rfl,_,rfl,aE (λ_=>(_,rfl,(a,L,Wa,Ba,rfl,(ha.kt k0).mt,(ha.kt k0).ma,(ha.kt k0).le,k0.tb hT,λd H' j=>qE d H' (k0.trans j),λf1 W1 B1 H1 j1 x1 y1 z1 c1 t1=>(f1,L,W1,B1,rfl,(Mc.mk x1 y1 z1).mt,(Mc.mk x1 y1 z1).ma,(Mc.mk x1 y1 z1).le,(k0.trans j1).tb hT,λd H' j=>qE d H' ((k0.trans j1).trans j),λf2 W2 B2 H2 j2 x2 y2 z2 c2 t2=>(_,rfl,(a,L,Wa,Ba,rfl,(ha.kt ((k0.trans j1).trans j2)).mt,(ha.kt ((k0.trans j1).trans j2)).ma,(ha.kt ((k0.trans j1).trans j2)).le,((k0.trans j1).trans j2).tb hT,λd H' j=>qE d H' (((k0.trans j1).trans j2).trans j),λf3 W3 B3 H3 j3 x3 y3 z3 c3 t3=>(b2,λl hl=>fin (((k0.trans j1).trans j2).trans j3) ((Mc.mk x2 y2 z2).kt j3) (Mc.mk x3 y3 z3) c2 c3 (by rw[b_k t2,b_k t1,b_k t3];exact w2) l hl))))))) (λ_=>?_));refine(_,rfl,rfl,_,rfl,aE (λ_=>(_,rfl,(_,rfl,(a,b,L,Wa,Wb,Ba,Bb,rfl,(ha.kt k0).mt,(ha.kt k0).ma,(hb.kt k0).mt,(hb.kt k0).ma,(ha.kt k0).le,(hb.kt k0).le,k0.tb hT,λd H' j=>qE d H' (k0.trans j),λf1 W1 B1 H1 j1 x1 y1 z1 c1 t1=>(f1,L,W1,B1,rfl,(Mc.mk x1 y1 z1).mt,(Mc.mk x1 y1 z1).ma,(Mc.mk x1 y1 z1).le,(k0.trans j1).tb hT,λd H' j=>qE d H' ((k0.trans j1).trans j),λf2 W2 B2 H2 j2 x2 y2 z2 c2 t2=>(_,rfl,(b,L,Wb,Bb,rfl,(hb.kt ((k0.trans j1).trans j2)).mt,(hb.kt ((k0.trans j1).trans j2)).ma,(hb.kt ((k0.trans j1).trans j2)).le,((k0.trans j1).trans j2).tb hT,λd H' j=>qE d H' (((k0.trans j1).trans j2).trans j),λf3 W3 B3 H3 j3 x3 y3 z3 c3 t3=>(_,rfl,(a,L,Wa,Ba,rfl,(ha.kt (((k0.trans j1).trans j2).trans j3)).mt,(ha.kt (((k0.trans j1).trans j2).trans j3)).ma,(ha.kt (((k0.trans j1).trans j2).trans j3)).le,(((k0.trans j1).trans j2).trans j3).tb hT,λd H' j=>qE d H' ((((k0.trans j1).trans j2).trans j3).trans j),λf4 W4 B4 H4 j4 x4 y4 z4 c4 t4=>(f3,f4,L,W3,W4,B3,B4,rfl,((Mc.mk x3 y3 z3).kt j4).mt,((Mc.mk x3 y3 z3).kt j4).ma,(Mc.mk x4 y4 z4).mt,(Mc.mk x4 y4 z4).ma,((Mc.mk x3 y3 z3).kt j4).le,(Mc.mk x4 y4 z4).le,((((k0.trans j1).trans j2).trans j3).trans j4).tb hT,λd H' j=>qE d H' (((((k0.trans j1).trans j2).trans j3).trans j4).trans j),λf5 W5 B5 H5 j5 x5 y5 z5 c5 t5=>(b2,λl hl=>fin (((((k0.trans j1).trans j2).trans j3).trans j4).trans j5) ((((Mc.mk x2 y2 z2).kt j3).kt j4).kt j5) (Mc.mk x5 y5 z5) c2 c5 (by rw[d_x t2,a_Q t1,a_Q t5,d_x t3,d_x t4];exact w3) l hl))))))))))) (λ_=>?_));refine(_,rfl,rfl,_,rfl,aE (λ_=>(_,rfl,(_,rfl,(a,b,L,Wa,Wb,Ba,Bb,rfl,(ha.kt k0).mt,(ha.kt k0).ma,(hb.kt k0).mt,(hb.kt k0).ma,(ha.kt k0).le,(hb.kt k0).le,k0.tb hT,λd H' j=>qE d H' (k0.trans j),λf1 W1 B1 H1 j1 x1 y1 z1 c1 t1=>(_,rfl,(_,rfl,(b,L,Wb,Bb,rfl,(hb.kt (k0.trans j1)).mt,(hb.kt (k0.trans j1)).ma,(hb.kt (k0.trans j1)).le,(k0.trans j1).tb hT,λd H' j=>qE d H' ((k0.trans j1).trans j),λf2 W2 B2 H2 j2 x2 y2 z2 c2 t2=>(a,f2,L,Wa,W2,Ba,B2,rfl,(ha.kt ((k0.trans j1).trans j2)).mt,(ha.kt ((k0.trans j1).trans j2)).ma,(Mc.mk x2 y2 z2).mt,(Mc.mk x2 y2 z2).ma,(ha.kt ((k0.trans j1).trans j2)).le,(Mc.mk x2 y2 z2).le,((k0.trans j1).trans j2).tb hT,λd H' j=>qE d H' (((k0.trans j1).trans j2).trans j),λf3 W3 B3 H3 j3 x3 y3 z3 c3 t3=>(b2,λl hl=>fin (((k0.trans j1).trans j2).trans j3) (((Mc.mk x1 y1 z1).kt j2).kt j3) (Mc.mk x3 y3 z3) c1 c3 (by rw[oR t1,bH t3,dI t2];exact w4) l hl))))))))) (λ_=>?_));exact(_,rfl,(_,rfl,(a,b,L,Wa,Wb,Ba,Bb,rfl,(ha.kt k0).mt,(ha.kt k0).ma,(hb.kt k0).mt,(hb.kt k0).ma,(ha.kt k0).le,(hb.kt k0).le,k0.tb hT,λd H' j=>qE d H' (k0.trans j),λf1 W1 B1 H1 j1 x1 y1 z1 c1 t1=>(_,rfl,(f1,c,L,W1,Wc,B1,Bc,rfl,(Mc.mk x1 y1 z1).mt,(Mc.mk x1 y1 z1).ma,(hc.kt (k0.trans j1)).mt,(hc.kt (k0.trans j1)).ma,(Mc.mk x1 y1 z1).le,(hc.kt (k0.trans j1)).le,(k0.trans j1).tb hT,λd H' j=>qE d H' ((k0.trans j1).trans j),λf2 W2 B2 H2 j2 x2 y2 z2 c2 t2=>(_,rfl,(_,rfl,(_,rfl,(b,c,L,Wb,Wc,Bb,Bc,rfl,(hb.kt ((k0.trans j1).trans j2)).mt,(hb.kt ((k0.trans j1).trans j2)).ma,(hc.kt ((k0.trans j1).trans j2)).mt,(hc.kt ((k0.trans j1).trans j2)).ma,(hb.kt ((k0.trans j1).trans j2)).le,(hc.kt ((k0.trans j1).trans j2)).le,((k0.trans j1).trans j2).tb hT,λd H' j=>qE d H' (((k0.trans j1).trans j2).trans j),λf3 W3 B3 H3 j3 x3 y3 z3 c3 t3=>(a,f3,L,Wa,W3,Ba,B3,rfl,(ha.kt (((k0.trans j1).trans j2).trans j3)).mt,(ha.kt (((k0.trans j1).trans j2).trans j3)).ma,(Mc.mk x3 y3 z3).mt,(Mc.mk x3 y3 z3).ma,(ha.kt (((k0.trans j1).trans j2).trans j3)).le,(Mc.mk x3 y3 z3).le,(((k0.trans j1).trans j2).trans j3).tb hT,λd H' j=>qE d H' ((((k0.trans j1).trans j2).trans j3).trans j),λf4 W4 B4 H4 j4 x4 y4 z4 c4 t4=>(b2,λl hl=>fin ((((k0.trans j1).trans j2).trans j3).trans j4) (((Mc.mk x2 y2 z2).kt j3).kt j4) (Mc.mk x4 y4 z4) c2 c4 (by rw[a_Q t2,a_Q t1,a_Q t4,a_Q t3];exact w5) l hl)))))))))))
end
section
variable{P:Program}{w:World}{K:Frag}{mg:Str->Option Value}{base:Heap}{P0 PT cW cTM:Addr}{ts:List (Addr×List (Pos×Str))}{tabs:List (Addr×Addr)}{cA_ cG_:Addr}
theorem d_m:a_m ["_law_kind","_law_a","_law_b","_law_c"] ["_law_kind","_law_a","_law_b","_law_c"] (a_a b_h):=fsc
theorem d_u(F:Fun K "_law_second_ways" "_law_second_ways" b_h f fd)(T:Txt K mg cA_ cG_)(nd:(ts.map Prod.fst).Nodup)(i0:(P0,sites,)∈ts)(yy:DfX P w K mg base "either" 7 [Q0,Q3] (aP cTM ts (b_F (λa b=>a||b))))(yg:DfX P w K mg base "both" 7 [Q0,Q3] (aP cTM ts (b_F (λa b=>a&&b))))(y0:DfX P w K mg base "then" 8 [Q0,Q3] (aP cTM ts f_U))(y8:DfX P w K mg base "again" 8 [Q0] (bt cTM ts Ag))(yk:DfX P w K mg base "turned" 8 [Q0] (bt cTM ts f_T))(y9:Df P w K mg base "least" 7 [Q0] (d_C P0 sites)):aa P w K mg base (CXE P w) 9 f fd ["_law_kind","_law_a","_law_b","_law_c"] (e_j cTM ts):=by
 refine F.okX d_m (λvs H Q E h=>?_) (λcdv A outer s H vs Q E hr h=>?_)
 .obtain ⟨k,a,b,c,L,Wa,Wb,Wc,Ba,Bb,Bc,rfl,_⟩:=h;rfl
 .obtain ⟨k,a,b,c,L,Wa,Wb,Wc,Ba,Bb,Bc,rfl,ha,hb,hc,hT,qE,q⟩:=h;have hr7:=hr.mono (j:=7) (by decide);have k0:KT ts H H:=KT.refl;have b2:(2:Nat)≤sizeLine:=a_j (by show 2≤16777216;decide);have fin:∀{f g:Addr}{Wf Wg:LL}{Bf Bg:List Bool}{H':Hp},KT ts H H'->Mc H' f L Wf Bf->Mc H' g L Wg Bg->(∃v,c_j L Wf Bf v)->(∃v,c_j L Wg Bg v)->Lg L Wf Bf=Lg L Wg Bg->∀l,H' l=none->Q (.ref l) (L2.upd H' l (.lst [.ref f,.ref g])):=by
   intro f g Wf Wg Bf Bg H' k mf mh cf cg e l hl;obtain⟨v1,c1⟩:=cf;obtain⟨v2,c2⟩:=cg;obtain⟨rfl,rfl⟩:=ji c1 c2 e;have s:=Same.upd (o:=.lst [.ref f,.ref g]) hl;exact q l _ _ _ _ _ (k.trans (KT.of s)) a_c (mf.kt (KT.of (ts:=ts) s)) (mh.kt (KT.of (ts:=ts) s))
  refine(_,(a_b ((a_W (cqE (pv 0) pe_int) ((a_f (a_k (a_D (pq2 ((a_l y8 hr (a_d λ_ _ _ z=>z) (pq1 ((a_l yy hr7 (a_d λ_ _ _ z=>z) (pq2 (pv 1) (pv 2))))))) ((a_l y8 hr (a_d λ_ _ _ z=>z) (pq1 ((a_l y0 hr (a_d λ_ _ _ z=>z) (pq2 ((a_l y8 hr (a_d λ_ _ _ z=>z) (pq1 (pv 1)))) ((a_l y8 hr (a_d λ_ _ _ z=>z) (pq1 (pv 2))))))))))))))) (a_t))) (a_b ((a_W (cqE (pv 0) pe_int) ((a_f (a_k (a_D (pq2 ((a_l y0 hr (a_d λ_ _ _ z=>z) (pq2 (pv 1) ((a_l y8 hr (a_d λ_ _ _ z=>z) (pq1 ((a_l y0 hr (a_d λ_ _ _ z=>z) (pq2 (pv 2) (pv 1)))))))))) ((a_l y0 hr (a_d λ_ _ _ z=>z) (pq2 ((a_l y8 hr (a_d λ_ _ _ z=>z) (pq1 ((a_l y0 hr (a_d λ_ _ _ z=>z) (pq2 (pv 1) (pv 2))))))) (pv 1))))))))) (a_t))) (a_b ((a_W (cqE (pv 0) pe_int) ((a_f (a_k (a_D (pq2 ((a_l yg hr7 (a_d λ_ _ _ z=>z) (pq2 (pv 1) ((a_l yy hr7 (a_d λ_ _ _ z=>z) (pq2 (pv 2) (pv 3))))))) ((a_l yy hr7 (a_d λ_ _ _ z=>z) (pq2 ((a_l yg hr7 (a_d λ_ _ _ z=>z) (pq2 (pv 1) (pv 2)))) ((a_l yg hr7 (a_d λ_ _ _ z=>z) (pq2 (pv 1) (pv 3)))))))))))) (a_t))) (a_b ((a_W (cqE (pv 0) pe_int) ((a_f (a_k (a_D (pq2 ((a_l yk hr (a_d λ_ _ _ z=>z) (pq1 ((a_l yk hr (a_d λ_ _ _ z=>z) (pq1 (pv 1))))))) ((a_H y9 hr7 (pq1 (pv 1))))))))) (a_t))) (a_b ((a_W (cqE (pv 0) pe_int) ((a_f (a_k (a_D (pq2 ((a_l yk hr (a_d λ_ _ _ z=>z) (pq1 ((a_l y8 hr (a_d λ_ _ _ z=>z) (pq1 (pv 1))))))) ((a_l y8 hr (a_d λ_ _ _ z=>z) (pq1 ((a_l yk hr (a_d λ_ _ _ z=>z) (pq1 (pv 1)))))))))))) (a_t))) (a_f (a_k (a_D (pq2 ((a_l y0 hr (a_d λ_ _ _ z=>z) (pq2 (pv 1) ((a_l yy hr7 (a_d λ_ _ _ z=>z) (pq2 (pv 2) (pv 3))))))) ((a_l yy hr7 (a_d λ_ _ _ z=>z) (pq2 ((a_l y0 hr (a_d λ_ _ _ z=>z) (pq2 (pv 1) (pv 2)))) ((a_l y0 hr (a_d λ_ _ _ z=>z) (pq2 (pv 1) (pv 3)))))))))))))))),?_);refine(_,rfl,rfl,_,rfl,aE (λ_=>(_,rfl,(_,rfl,(a,b,L,Wa,Wb,Ba,Bb,rfl,(ha.kt k0).mt,(ha.kt k0).ma,(hb.kt k0).mt,(hb.kt k0).ma,(ha.kt k0).le,(hb.kt k0).le,k0.tb hT,λd H' j=>qE d H' (k0.trans j),λf1 W1 B1 H1 j1 x1 y1 z1 c1 t1=>(f1,L,W1,B1,rfl,(Mc.mk x1 y1 z1).mt,(Mc.mk x1 y1 z1).ma,(Mc.mk x1 y1 z1).le,(k0.trans j1).tb hT,λd H' j=>qE d H' ((k0.trans j1).trans j),λf2 W2 B2 H2 j2 x2 y2 z2 c2 t2=>(_,rfl,(a,L,Wa,Ba,rfl,(ha.kt ((k0.trans j1).trans j2)).mt,(ha.kt ((k0.trans j1).trans j2)).ma,(ha.kt ((k0.trans j1).trans j2)).le,((k0.trans j1).trans j2).tb hT,λd H' j=>qE d H' (((k0.trans j1).trans j2).trans j),λf3 W3 B3 H3 j3 x3 y3 z3 c3 t3=>(_,rfl,(b,L,Wb,Bb,rfl,(hb.kt (((k0.trans j1).trans j2).trans j3)).mt,(hb.kt (((k0.trans j1).trans j2).trans j3)).ma,(hb.kt (((k0.trans j1).trans j2).trans j3)).le,(((k0.trans j1).trans j2).trans j3).tb hT,λd H' j=>qE d H' ((((k0.trans j1).trans j2).trans j3).trans j),λf4 W4 B4 H4 j4 x4 y4 z4 c4 t4=>(f3,f4,L,W3,W4,B3,B4,rfl,((Mc.mk x3 y3 z3).kt j4).mt,((Mc.mk x3 y3 z3).kt j4).ma,(Mc.mk x4 y4 z4).mt,(Mc.mk x4 y4 z4).ma,((Mc.mk x3 y3 z3).kt j4).le,(Mc.mk x4 y4 z4).le,((((k0.trans j1).trans j2).trans j3).trans j4).tb hT,λd H' j=>qE d H' (((((k0.trans j1).trans j2).trans j3).trans j4).trans j),λf5 W5 B5 H5 j5 x5 y5 z5 c5 t5=>(f5,L,W5,B5,rfl,(Mc.mk x5 y5 z5).mt,(Mc.mk x5 y5 z5).ma,(Mc.mk x5 y5 z5).le,(((((k0.trans j1).trans j2).trans j3).trans j4).trans j5).tb hT,λd H' j=>qE d H' ((((((k0.trans j1).trans j2).trans j3).trans j4).trans j5).trans j),λf6 W6 B6 H6 j6 x6 y6 z6 c6 t6=>(b2,λl hl=>fin ((((((k0.trans j1).trans j2).trans j3).trans j4).trans j5).trans j6) (((((Mc.mk x2 y2 z2).kt j3).kt j4).kt j5).kt j6) (Mc.mk x6 y6 z6) c2 c6 (by rw[b_k t2,bh t1,b_k t6,a_Q t5,b_k t3,b_k t4];exact w6) l hl)))))))))))) (λ_=>?_));refine(_,rfl,rfl,_,rfl,aE (λ_=>(_,rfl,(_,rfl,(_,rfl,(b,a,L,Wb,Wa,Bb,Ba,rfl,(hb.kt k0).mt,(hb.kt k0).ma,(ha.kt k0).mt,(ha.kt k0).ma,(hb.kt k0).le,(ha.kt k0).le,k0.tb hT,λd H' j=>qE d H' (k0.trans j),λf1 W1 B1 H1 j1 x1 y1 z1 c1 t1=>(f1,L,W1,B1,rfl,(Mc.mk x1 y1 z1).mt,(Mc.mk x1 y1 z1).ma,(Mc.mk x1 y1 z1).le,(k0.trans j1).tb hT,λd H' j=>qE d H' ((k0.trans j1).trans j),λf2 W2 B2 H2 j2 x2 y2 z2 c2 t2=>(a,f2,L,Wa,W2,Ba,B2,rfl,(ha.kt ((k0.trans j1).trans j2)).mt,(ha.kt ((k0.trans j1).trans j2)).ma,(Mc.mk x2 y2 z2).mt,(Mc.mk x2 y2 z2).ma,(ha.kt ((k0.trans j1).trans j2)).le,(Mc.mk x2 y2 z2).le,((k0.trans j1).trans j2).tb hT,λd H' j=>qE d H' (((k0.trans j1).trans j2).trans j),λf3 W3 B3 H3 j3 x3 y3 z3 c3 t3=>(_,rfl,(_,rfl,(a,b,L,Wa,Wb,Ba,Bb,rfl,(ha.kt (((k0.trans j1).trans j2).trans j3)).mt,(ha.kt (((k0.trans j1).trans j2).trans j3)).ma,(hb.kt (((k0.trans j1).trans j2).trans j3)).mt,(hb.kt (((k0.trans j1).trans j2).trans j3)).ma,(ha.kt (((k0.trans j1).trans j2).trans j3)).le,(hb.kt (((k0.trans j1).trans j2).trans j3)).le,(((k0.trans j1).trans j2).trans j3).tb hT,λd H' j=>qE d H' ((((k0.trans j1).trans j2).trans j3).trans j),λf4 W4 B4 H4 j4 x4 y4 z4 c4 t4=>(f4,L,W4,B4,rfl,(Mc.mk x4 y4 z4).mt,(Mc.mk x4 y4 z4).ma,(Mc.mk x4 y4 z4).le,((((k0.trans j1).trans j2).trans j3).trans j4).tb hT,λd H' j=>qE d H' (((((k0.trans j1).trans j2).trans j3).trans j4).trans j),λf5 W5 B5 H5 j5 x5 y5 z5 c5 t5=>(_,rfl,(f5,a,L,W5,Wa,B5,Ba,rfl,(Mc.mk x5 y5 z5).mt,(Mc.mk x5 y5 z5).ma,(ha.kt (((((k0.trans j1).trans j2).trans j3).trans j4).trans j5)).mt,(ha.kt (((((k0.trans j1).trans j2).trans j3).trans j4).trans j5)).ma,(Mc.mk x5 y5 z5).le,(ha.kt (((((k0.trans j1).trans j2).trans j3).trans j4).trans j5)).le,(((((k0.trans j1).trans j2).trans j3).trans j4).trans j5).tb hT,λd H' j=>qE d H' ((((((k0.trans j1).trans j2).trans j3).trans j4).trans j5).trans j),λf6 W6 B6 H6 j6 x6 y6 z6 c6 t6=>(b2,λl hl=>fin ((((((k0.trans j1).trans j2).trans j3).trans j4).trans j5).trans j6) ((((Mc.mk x3 y3 z3).kt j4).kt j5).kt j6) (Mc.mk x6 y6 z6) c3 c6 (by rw[a_Q t3,b_k t2,a_Q t1,a_Q t6,b_k t5,a_Q t4];exact w7) l hl)))))))))))))) (λ_=>?_));refine(_,rfl,rfl,_,rfl,aE (λ_=>(_,rfl,(_,rfl,(_,rfl,(b,c,L,Wb,Wc,Bb,Bc,rfl,(hb.kt k0).mt,(hb.kt k0).ma,(hc.kt k0).mt,(hc.kt k0).ma,(hb.kt k0).le,(hc.kt k0).le,k0.tb hT,λd H' j=>qE d H' (k0.trans j),λf1 W1 B1 H1 j1 x1 y1 z1 c1 t1=>(a,f1,L,Wa,W1,Ba,B1,rfl,(ha.kt (k0.trans j1)).mt,(ha.kt (k0.trans j1)).ma,(Mc.mk x1 y1 z1).mt,(Mc.mk x1 y1 z1).ma,(ha.kt (k0.trans j1)).le,(Mc.mk x1 y1 z1).le,(k0.trans j1).tb hT,λd H' j=>qE d H' ((k0.trans j1).trans j),λf2 W2 B2 H2 j2 x2 y2 z2 c2 t2=>(_,rfl,(_,rfl,(a,b,L,Wa,Wb,Ba,Bb,rfl,(ha.kt ((k0.trans j1).trans j2)).mt,(ha.kt ((k0.trans j1).trans j2)).ma,(hb.kt ((k0.trans j1).trans j2)).mt,(hb.kt ((k0.trans j1).trans j2)).ma,(ha.kt ((k0.trans j1).trans j2)).le,(hb.kt ((k0.trans j1).trans j2)).le,((k0.trans j1).trans j2).tb hT,λd H' j=>qE d H' (((k0.trans j1).trans j2).trans j),λf3 W3 B3 H3 j3 x3 y3 z3 c3 t3=>(_,rfl,(_,rfl,(a,c,L,Wa,Wc,Ba,Bc,rfl,(ha.kt (((k0.trans j1).trans j2).trans j3)).mt,(ha.kt (((k0.trans j1).trans j2).trans j3)).ma,(hc.kt (((k0.trans j1).trans j2).trans j3)).mt,(hc.kt (((k0.trans j1).trans j2).trans j3)).ma,(ha.kt (((k0.trans j1).trans j2).trans j3)).le,(hc.kt (((k0.trans j1).trans j2).trans j3)).le,(((k0.trans j1).trans j2).trans j3).tb hT,λd H' j=>qE d H' ((((k0.trans j1).trans j2).trans j3).trans j),λf4 W4 B4 H4 j4 x4 y4 z4 c4 t4=>(f3,f4,L,W3,W4,B3,B4,rfl,((Mc.mk x3 y3 z3).kt j4).mt,((Mc.mk x3 y3 z3).kt j4).ma,(Mc.mk x4 y4 z4).mt,(Mc.mk x4 y4 z4).ma,((Mc.mk x3 y3 z3).kt j4).le,(Mc.mk x4 y4 z4).le,((((k0.trans j1).trans j2).trans j3).trans j4).tb hT,λd H' j=>qE d H' (((((k0.trans j1).trans j2).trans j3).trans j4).trans j),λf5 W5 B5 H5 j5 x5 y5 z5 c5 t5=>(b2,λl hl=>fin (((((k0.trans j1).trans j2).trans j3).trans j4).trans j5) ((((Mc.mk x2 y2 z2).kt j3).kt j4).kt j5) (Mc.mk x5 y5 z5) c2 c5 (by rw[bH t2,bh t1,bh t5,bH t3,bH t4];exact w8) l hl)))))))))))))) (λ_=>?_));refine(_,rfl,rfl,_,rfl,aE (λ_=>(_,rfl,(a,L,Wa,Ba,rfl,(ha.kt k0).mt,(ha.kt k0).ma,(ha.kt k0).le,k0.tb hT,λd H' j=>qE d H' (k0.trans j),λf1 W1 B1 H1 j1 x1 y1 z1 c1 t1=>(f1,L,W1,B1,rfl,(Mc.mk x1 y1 z1).mt,(Mc.mk x1 y1 z1).ma,(Mc.mk x1 y1 z1).le,(k0.trans j1).tb hT,λd H' j=>qE d H' ((k0.trans j1).trans j),λf2 W2 B2 H2 j2 x2 y2 z2 c2 t2=>(_,rfl,(a,L,Wa,Ba,rfl,(ha.kt ((k0.trans j1).trans j2)).mt,(ha.kt ((k0.trans j1).trans j2)).ma,(((k0.trans j1).trans j2).tb hT) _ i0,λf3 W3 B3 H3 s3 t3' n3 l3=>(b2,λl hl=>fin (((k0.trans j1).trans j2).trans (KT.ofX nd i0 s3 ((((k0.trans j1).trans j2).tb hT) _ i0) t3')) ((Mc.mk x2 y2 z2).kt (KT.ofX nd i0 s3 ((((k0.trans j1).trans j2).tb hT) _ i0) t3')) ((n3,l3.mach,le_trans l3.len ha.le):Mc _ _ _ _ _) c2 (l3.canon ha.ma) (by have lgl3:Lg L W3 B3=Lg L Wa Ba:=ax λu=>(λz=>(z.1,(l3.takes ha.ma z.1).symm.trans z.2),λz=>(z.1,(l3.takes ha.ma z.1).trans z.2));rw[d_x t2,d_x t1,lgl3];exact w9) l hl))))))) (λ_=>?_));refine(_,rfl,rfl,_,rfl,aE (λ_=>(_,rfl,(a,L,Wa,Ba,rfl,(ha.kt k0).mt,(ha.kt k0).ma,(ha.kt k0).le,k0.tb hT,λd H' j=>qE d H' (k0.trans j),λf1 W1 B1 H1 j1 x1 y1 z1 c1 t1=>(f1,L,W1,B1,rfl,(Mc.mk x1 y1 z1).mt,(Mc.mk x1 y1 z1).ma,(Mc.mk x1 y1 z1).le,(k0.trans j1).tb hT,λd H' j=>qE d H' ((k0.trans j1).trans j),λf2 W2 B2 H2 j2 x2 y2 z2 c2 t2=>(_,rfl,(a,L,Wa,Ba,rfl,(ha.kt ((k0.trans j1).trans j2)).mt,(ha.kt ((k0.trans j1).trans j2)).ma,(ha.kt ((k0.trans j1).trans j2)).le,((k0.trans j1).trans j2).tb hT,λd H' j=>qE d H' (((k0.trans j1).trans j2).trans j),λf3 W3 B3 H3 j3 x3 y3 z3 c3 t3=>(f3,L,W3,B3,rfl,(Mc.mk x3 y3 z3).mt,(Mc.mk x3 y3 z3).ma,(Mc.mk x3 y3 z3).le,(((k0.trans j1).trans j2).trans j3).tb hT,λd H' j=>qE d H' ((((k0.trans j1).trans j2).trans j3).trans j),λf4 W4 B4 H4 j4 x4 y4 z4 c4 t4=>(b2,λl hl=>fin ((((k0.trans j1).trans j2).trans j3).trans j4) (((Mc.mk x2 y2 z2).kt j3).kt j4) (Mc.mk x4 y4 z4) c2 c4 (by rw[d_x t2,b_k t1,b_k t4,d_x t3];exact w10) l hl)))))))) (λ_=>?_));exact(_,rfl,(_,rfl,(_,rfl,(b,c,L,Wb,Wc,Bb,Bc,rfl,(hb.kt k0).mt,(hb.kt k0).ma,(hc.kt k0).mt,(hc.kt k0).ma,(hb.kt k0).le,(hc.kt k0).le,k0.tb hT,λd H' j=>qE d H' (k0.trans j),λf1 W1 B1 H1 j1 x1 y1 z1 c1 t1=>(a,f1,L,Wa,W1,Ba,B1,rfl,(ha.kt (k0.trans j1)).mt,(ha.kt (k0.trans j1)).ma,(Mc.mk x1 y1 z1).mt,(Mc.mk x1 y1 z1).ma,(ha.kt (k0.trans j1)).le,(Mc.mk x1 y1 z1).le,(k0.trans j1).tb hT,λd H' j=>qE d H' ((k0.trans j1).trans j),λf2 W2 B2 H2 j2 x2 y2 z2 c2 t2=>(_,rfl,(_,rfl,(a,b,L,Wa,Wb,Ba,Bb,rfl,(ha.kt ((k0.trans j1).trans j2)).mt,(ha.kt ((k0.trans j1).trans j2)).ma,(hb.kt ((k0.trans j1).trans j2)).mt,(hb.kt ((k0.trans j1).trans j2)).ma,(ha.kt ((k0.trans j1).trans j2)).le,(hb.kt ((k0.trans j1).trans j2)).le,((k0.trans j1).trans j2).tb hT,λd H' j=>qE d H' (((k0.trans j1).trans j2).trans j),λf3 W3 B3 H3 j3 x3 y3 z3 c3 t3=>(_,rfl,(_,rfl,(a,c,L,Wa,Wc,Ba,Bc,rfl,(ha.kt (((k0.trans j1).trans j2).trans j3)).mt,(ha.kt (((k0.trans j1).trans j2).trans j3)).ma,(hc.kt (((k0.trans j1).trans j2).trans j3)).mt,(hc.kt (((k0.trans j1).trans j2).trans j3)).ma,(ha.kt (((k0.trans j1).trans j2).trans j3)).le,(hc.kt (((k0.trans j1).trans j2).trans j3)).le,(((k0.trans j1).trans j2).trans j3).tb hT,λd H' j=>qE d H' ((((k0.trans j1).trans j2).trans j3).trans j),λf4 W4 B4 H4 j4 x4 y4 z4 c4 t4=>(f3,f4,L,W3,W4,B3,B4,rfl,((Mc.mk x3 y3 z3).kt j4).mt,((Mc.mk x3 y3 z3).kt j4).ma,(Mc.mk x4 y4 z4).mt,(Mc.mk x4 y4 z4).ma,((Mc.mk x3 y3 z3).kt j4).le,(Mc.mk x4 y4 z4).le,((((k0.trans j1).trans j2).trans j3).trans j4).tb hT,λd H' j=>qE d H' (((((k0.trans j1).trans j2).trans j3).trans j4).trans j),λf5 W5 B5 H5 j5 x5 y5 z5 c5 t5=>(b2,λl hl=>fin (((((k0.trans j1).trans j2).trans j3).trans j4).trans j5) ((((Mc.mk x2 y2 z2).kt j3).kt j4).kt j5) (Mc.mk x5 y5 z5) c2 c5 (by rw[a_Q t2,bh t1,bh t5,a_Q t3,a_Q t4];exact w11) l hl)))))))))))))
end
section
variable{P:Program}{w:World}{K:Frag}{mg:Str->Option Value}{base:Heap}{P0 PT cW cTM:Addr}{ts:List (Addr×List (Pos×Str))}{tabs:List (Addr×Addr)}{cA_ cG_:Addr}
theorem b_z:a_m ["_law_kind","_law_a","_law_b","_law_c","_law_found"] ["_law_kind","_law_a","_law_b","_law_c"] (a_a d_p):=fsc
theorem ok__law_ways(F:Fun K "_law_ways" "_law_ways" d_p f fd)(T:Txt K mg cA_ cG_)(TM:TmK K mg cTM cRE fX fdX)(yJ:DfX P w K mg base "_law_first_ways" 9 ["_law_kind","_law_a","_law_b","_law_c"] (e_j cTM ts))(yQ:DfX P w K mg base "_law_second_ways" 9 ["_law_kind","_law_a","_law_b","_law_c"] (e_j cTM ts)):aa P w K mg base CX0 10 f fd ["_law_kind","_law_a","_law_b","_law_c"] (eV ts):=by
 refine F.okA b_z ?_;rintro _ _ _ _ _ _ _ _ hr⟨k,a,b,c,L,Wa,Wb,Wc,Ba,Bb,Bc,rfl,ha,hb,hc,hT,q1,q2⟩;refine(_,(a_b ((stS 4 b_z.nd (f_Q))) (a_b ((lK (R:=cTM) (rfl,rfl,rfl,rfl,TM.kT,λv=>(a_f ((stS 4 b_z.nd (f_Q)))),by decide) (rO (a_S jd (pv 0) pe_int (b_d _)) (lJ (j:=4) b_z.nd yJ hr (a_T (pv 0) (pq3 (pv 1) (pv 2) (pv 3))) rfl (Or.inl rfl)) (lJ (j:=4) b_z.nd yQ hr (a_T (pv 0) (pq3 (pv 1) (pv 2) (pv 3))) rfl (Or.inl rfl))))) (a_f (a_k (pv 4))))),?_);refine(_,rfl,_,_,rfl,rfl,_,rfl,aE (λ_=>?_) (λ_=>?_));all_goals exact(_,rfl,_,rfl,_,rfl,_,rfl,k,a,b,c,L,Wa,Wb,Wc,Ba,Bb,Bc,rfl,ha,hb,hc,hT,λd H' kk=>(TM.exm,_,rfl,q1 H' kk),λl f g W B H' kk hl mf mg=>(_,rfl,q2 l f g W B H' kk hl mf mg))
end
section
variable{P:Program}{w:World}{K:Frag}{mg:Str->Option Value}{base:Heap}{P0 PT cW cTM:Addr}{ts:List (Addr×List (Pos×Str))}{tabs:List (Addr×Addr)}{cA_ cG_:Addr}
theorem d_h:a_m ["_law_script","_law_letters_here","_law_at","_law_k","_law_most","_law_told","_law_j","_law_rooms","_law_found"] ["_law_script"] (a_a g_q):=fsc
theorem ok_law(F:Fun K "law" "law" g_q f fd)(T:Txt K mg cA_ cG_)(hts:∀p∈ts,∃c,(c,p.1,)∈tabs)(yw:Df P w K mg base "_law_cell_at" 1 ["_law_script","_law_k"] (di K))(yK:Df P w K mg base "_law_letters" 1 ["_law_cell"] sp_letters)(ya:Df P w K mg base "_law_machine" 2 ["_law_script","_law_at","_law_rooms","_law_letters_here"] (f_O K))(yZ:Df P w K mg base "_law_ways" 10 ["_law_kind","_law_a","_law_b","_law_c"] (eV ts))(yG:Df P w K mg base "_law_is_machine" 1 ["_law_found","_law_letters_here"] sp_ismach)(yf:Df P w K mg base "_law_same" 4 ["_law_found","_law_due"] (e_V 3)):aa P w K mg base CX0 11 f fd ["_law_script"] (dk K tabs):=by
 refine F.okA d_h ?_;rintro _ _ _ _ H _ _ _ hr⟨a,ns,rfl,hS,hlen,hT0,kq⟩;have hr1:=hr.mono (j:=1) (by decide);have hr2:=hr.mono (j:=2) (by decide);have hr4:=hr.mono (j:=4) (by decide);refine(_,(a_b ((stS 1 d_h.nd ((a_H yK hr1 (pq1 ((a_H yw hr1 (pq2 (pv 0) (pe_int))))))))) (a_b ((stS 2 d_h.nd (pe_int))) (a_b ((c_m PassesOwn.never rfl (b_B rfl T.range (pq1 pe_int)) (pgN 3 d_h.nd) ((a_b ((stS 4 d_h.nd (xqL (a_D (a_T pe_int (pq3 pe_int pe_int pe_int))) (pv 3)))) (a_b ((stS 5 d_h.nd (a_D d_i))) (a_b ((c_m PassesOwn.never rfl (b_B rfl T.range (pq1 pe_int)) (pgN 6 d_h.nd) ((a_b ((stS 7 d_h.nd (a_K op_a pe_int (a_K g_w (a_H yw hr1 (pq2 (pv 0) (a_K op_a (a_K op_a (pv 2) pe_int) (pv 6)))) (pv 4))))) (a_f (b_j (apQ (pv 5) ((a_H ya hr2 (a_T (pv 0) (pq3 (a_K op_a (a_K op_a (pv 2) pe_int) (a_K op_mul (pv 4) (pv 6))) (pv 7) (pv 1)))))))))))) (a_b ((stS 8 d_h.nd ((a_H yZ hr (a_T (a_K op_m (a_H yw hr1 (pq2 (pv 0) (pv 2))) pe_int) (pq3 (xqL (pv 5) pe_int) (xqL (pv 5) pe_int) (xqL (pv 5) pe_int))))))) (a_b ((stS 2 d_h.nd (a_K op_a (a_K op_a (pv 2) pe_int) (a_K op_mul pe_int (pv 4))))) (a_f ((a_W (a_S op_notN (pv 8) f_Q (b_d _)) ((a_f ((a_W ((e_D (d_J (b_r (a_H yG hr1 (pq2 (xqL (pv 8) pe_int) (pv 1))))) (f_e (d_J (b_r (a_H yf hr4 (pq2 (xqL (pv 8) pe_int) (xqL (pv 8) pe_int))))))).pt) ((a_f (a_k d_t))) (a_t))))) (a_t)))))))))))) (a_f (a_k d_t))))),?_);have hT:gG ts H:=λp hp=>by
  obtain⟨c,hc⟩:=hts p hp;exact(#[],hT0 (c,p.1,) hc,eP,λq _=>.inl rfl)
 have b4:(4:Nat)≤sizeLine:=a_j (by show 4≤16777216;decide);refine(_,rfl,a,ns,1,rfl,hS,by decide,λz0=>(z0,rfl,λL hL=>?_));refine(_,rfl,by decide,by decide,?_);refine b_U (n:=(4:Int).toNat) (λi σ' H'=>∃(n:Nat)(u3 u4 u5 u6 u7 u8:Option V),σ'=[some (.ref a),some (.str (tx L)),some (.int (n:Int)),u3,u4,u5,u6,u7,u8]/\n≤2+13*i/\KT ts H H') (2,_,_,_,_,_,_,rfl,le_refl _,KT.refl) ?_ ?_
 .rintro i σ' H1 hi⟨n,u3,u4,u5,u6,u7,u8,rfl,hn,k1⟩;have hi4:i<4:=hi;obtain⟨d,hd,hd1,hd3⟩:∃d:Nat,atI [V.int 3,.int 2,.int 2,.int 2] (0+(i:Int))=some (.int (d:Int))/\1≤d/\d≤3:=by
   match i,hi4 with
   |0,_=>exact(3,rfl,by decide,by decide)
   |1,_=>exact(2,rfl,by decide,by decide)
   |2,_=>exact(2,rfl,by decide,by decide)
   |3,_=>exact(2,rfl,by decide,by decide)
  refine(b4,λlm hlm=>(_,rfl,iqL a_c hd ?_));have s2:=Same.upd (o:=.lst [V.int 3,.int 2,.int 2,.int 2]) hlm;generalize L2.upd H1 lm (.lst [V.int 3,.int 2,.int 2,.int 2])=H2 at s2;refine(zero_le _,λtl htl=>?_);have s3:=Same.upd (o:=.lst []) htl;have e3:L2.upd H2 tl (.lst []) tl=some (.lst []):=a_c;generalize L2.upd H2 tl (.lst [])=H3 at s3 e3;have k2:KT ts H H2:=k1.trans (KT.of s2);refine(_,rfl,by decide,by decide,?_);refine b_U (n:=(3:Int).toNat) (λj σ' H'=>∃(ms:List Addr)(u6 u7:Option V),σ'=[some (.ref a),some (.str (tx L)),some (.int (n:Int)),some (.int (0+(i:Int))),some (.int (d:Int)),some (.ref tl),u6,u7,u8]/\Same H2 H'/\H' tl=some (.lst (ms.map V.ref))/\ms.length=j/\∀m∈ms,∃W B,Mc H' m L W B) ([],_,_,rfl,s3,e3,rfl,λm hm=>nomatch hm) ?_ ?_
  .rintro j σ' H4 hj⟨ms,v6,v7,rfl,s4,htl4,hml,hms⟩;have k4:=k2.trans (KT.of (ts:=ts) s4);have hj3:j<3:=hj;have hS4:=pB k4.sm hS;refine(_,rfl,_,rfl,_,_,rfl,rfl,_,rfl,_,_,rfl,rfl,a,ns,_,rfl,hS4,by omega,λz2=>(_,rfl,_,_,rfl,rfl,by omega,λr5 h50 h51=>(_,_,rfl,rfl,?_)));obtain⟨o,ho⟩:=Int.eq_ofNat_of_zero_le (show 0≤1+r5 by omega);have ho1:1≤o:=by omega
   have ho3:o≤3:=by omega
   rw[ho];have em:(n:Int)+4+(d:Int)*(0+(j:Int))=((n+4+d*j:Nat):Int):=by rw[Int.zero_add,Int.natCast_add,Int.natCast_add,Int.natCast_mul];rfl
   have dj:d*j≤3*2:=Nat.mul_le_mul hd3 (Nat.le_of_lt_succ hj3);refine(_,rfl,.inl (rfl,_,SqL.of htl4),_,rfl,_,rfl,_,_,rfl,rfl,_,rfl,_,rfl,_,_,rfl,rfl,.inl (by omega,by omega),_,_,rfl,rfl,_,rfl,_,rfl,a,ns,_,o,L,rfl,hS4,by rw[em];omega,ho1,le_trans ho3 (by decide),hL,λm W B H5 s5 hM hMa hW=>?_);refine(tl,_,_,rfl,rfl,s5 _ _ htl4,by rw[qa4];exact d_w (by omega),ms++[m],_,_,rfl,?_,by rw[a_c,map_append];rfl,by rw[qa5,hml];rfl,?_)
   .exact Same.set (s4.trans s5) htl
   .have tk:∀b xs,H5 b=some (.tup xs)->L2.upd H5 tl (.lst (ms.map V.ref++[.ref m])) b=some (.tup xs):=λb xs e=>upd_keep2 e (s5 _ _ htl4) (by intro z;cases z);intro m' hm';rcases mem_append.mp hm' with z|z
    .obtain ⟨W',B',h⟩:=hms m' z;exact(W',B',(h.mt.same s5).tups tk,h.ma,h.le)
    .rw [qb1 z];exact(W,B,hM.tups tk,hMa,by omega)
  .rintro σ' H4⟨ms,v6,v7,rfl,s4,htl4,hml,hms⟩;have k4:=k2.trans (KT.of (ts:=ts) s4);obtain⟨m1,m2,m3,rfl⟩:∃m1 m2 m3,ms=[m1,m2,m3]:=by
    match ms,hml with
    |[x,y,z],_=>exact(x,y,z,rfl)
   obtain⟨Wa,Ba,ha⟩:=hms m1 (by simp);obtain⟨Wb,Bb,hb⟩:=hms m2 (by simp);obtain⟨Wc,Bc,hc⟩:=hms m3 (by simp);have hS4:=pB k4.sm hS;have ed:(n:Int)+4+3*(d:Int)=((n+4+3*d:Nat):Int):=by omega
   refine(_,rfl,_,rfl,a,ns,_,rfl,hS4,by omega,λz3=>(_,_,rfl,rfl,by decide,_,rfl,tl,_,_,_,rfl,rfl,SqL.of htl4,a_G (j:=0) rfl,_,rfl,tl,_,_,_,rfl,rfl,SqL.of htl4,a_G (j:=1) rfl,_,rfl,tl,_,_,_,rfl,rfl,SqL.of htl4,a_G (j:=2) rfl,?_));refine(_,m1,m2,m3,L,Wa,Wb,Wc,Ba,Bb,Bc,rfl,ha,hb,hc,k4.tb hT,λH5 k5=>?_,λl f g W B H5 k5 hl mf mg=>?_)
   .refine (_,rfl,_,_,rfl,rfl,_,rfl,_,_,rfl,rfl,.inl (by decide,by decide),_,_,rfl,rfl,_,rfl,rfl,_,rfl,ag ?_);rw[ed];exact(_,_,_,_,_,_,_,rfl,by omega,k4.trans k5)
   .refine (_,rfl,_,_,rfl,rfl,_,rfl,_,_,rfl,rfl,.inl (by decide,by decide),_,_,rfl,rfl,_,rfl,rfl,_,rfl,au ?_);rw[ed];refine(_,rfl,l,_,_,_,rfl,rfl,SqL.of hl,a_G (j:=0) rfl,_,rfl,f,L,W,B,rfl,mf.mt,mf.ma,λH6 s6=>(_,rfl,ag ?_));refine(_,rfl,l,_,_,_,rfl,rfl,SqL.of (s6 _ _ hl),a_G (j:=1) rfl,_,rfl,l,_,_,_,rfl,rfl,SqL.of (s6 _ _ hl),a_G (j:=0) rfl,_,_,rfl,?_,_,rfl,ag (_,_,_,_,_,_,_,rfl,by omega,(k4.trans k5).trans (KT.of s6)));exact ir (mg.mt.same s6) (mf.mt.same s6) mf.ma
 .rintro σ' H1⟨n,u3,u4,u5,u6,u7,u8,rfl,hn,k1⟩;exact kq _
end
theorem all_mk{l:PySem.W.OpenLaw}{w:World}{K K0:Frag}{h:Heap}{mg:Str->Option Value}{fa cT0 cT1 cT2 cT3 cT4 cT5 cT6 cT7 P0 P1 P2 P3 P4 P5 P6 P7:Addr}(hK:K=a_F [P0,P1,P2,P3,P4,P5,P6,P7] K0)(hnd:[P0,P1,P2,P3,P4,P5,P6,P7].Nodup)(X:K.In h)(G:h.Ns mainGlobals mg)(hfa:mg "law"=some (.ref fa)){fI:Addr}{odI anI:Option Addr}{slI:Array (Option Value)}{ocI kVI dcI pmI ctI:Value}{cdI:Addr}{cW:Addr}(nW:nsIn K mainGlobals "Walk"=some (some (.ref cW)))(hI0:PySem.W.findIn K0 (.ref cW) "__init__"=some (some (.ref fI)))(cls:Cls K cW)(mk:Mk K cW fI)(na1:a_A K cW "letters")(na2:a_A K cW "things")(na3:a_A K cW "words")(na4:a_A K cW "ways")(na5:a_A K cW "marks")(lI:K.lookup fI=some (ocI,odI,.func (fnOf "__init__" "Walk.__init__" (a_g e_k) (a_e e_k) (a_a e_k) .none kVI dcI pmI anI (.ref cdI) ctI),slI))(cI:codeIn K (.ref cdI) "Walk.__init__"=true){fX:Addr}{odX anX:Option Addr}{slX:Array (Option Value)}{ocX kVX dcX pmX ctX:Value}{cdX:Addr}{cTM cRE:Addr}(nT:nsIn K mainGlobals "TooMany"=some (some (.ref cTM)))(nRE:nsIn K mainGlobals "RoomError"=some (some (.ref cRE)))(hX0:PySem.W.findIn K0 (.ref cTM) "__init__"=some (some (.ref fX)))(xo:OwnI K cTM fX)(xc:iM K cTM)(xn1:a_A K cTM "words")(xn2:a_A K cTM "tails")(xn3:a_A K cTM "part")(xb:nX K cRE)(xf:isFn K (.ref fX)=true)(xe:exmOne K (.ref cTM) (.ref cTM)=some true)(lX:K.lookup fX=some (ocX,odX,.func (fnOf "__init__" "TooMany.__init__" (a_g c_R) (a_e c_R) (a_a c_R) .none kVX dcX pmX anX (.ref cdX) ctX),slX))(cX:codeIn K (.ref cdX) "TooMany.__init__"=true){tD:Addr}{ocD:Value}{odD:Option Addr}{slD:Array (Option Value)}{nD:Nat}{fV:Addr}{odV anV:Option Addr}{slV:Array (Option Value)}{ocV kVV dcV pmV ctV:Value}{cdV:Addr}(aV:nsIn K mainGlobals "walked"=some (some (.ref fV)))(lV:K.lookup fV=some (ocV,odV,.func (fnOf "walked" "walked" (a_g a_o) (a_e a_o) (a_a a_o) (.ref tD) kVV dcV pmV anV (.ref cdV) ctV),slV))(cV:codeIn K (.ref cdV) "walked"=true)(lD:K.lookup tD=some (ocD,odD,.seq #[.none] nD,slD)){fM:Addr}{odM anM:Option Addr}{slM:Array (Option Value)}{ocM kVM dcM pmM ctM:Value}(aM:nsIn K mainGlobals "walked_machine"=some (some (.ref fM)))(lM:K.lookup fM=some (ocM,odM,.func (fnOf "walked_machine" "walked_machine" (a_g a_h) (a_e a_h) (a_a a_h) .none kVM dcM pmM anM (.ref cT0) ctM),slM))(cM:codeIn K (.ref cT0) "walked_machine"=true){fA:Addr}{odA anA:Option Addr}{slA:Array (Option Value)}{ocA kVA dcA pmA ctA:Value}(aA:nsIn K mainGlobals "paired"=some (some (.ref fA)))(lA:K.lookup fA=some (ocA,odA,.func (fnOf "paired" "paired" (a_g a_C) (a_e a_C) (a_a a_C) .none kVA dcA pmA anA (.ref cT1) ctA),slA))(cA:codeIn K (.ref cT1) "paired"=true){fB:Addr}{odB anB:Option Addr}{slB:Array (Option Value)}{ocB kVB dcB pmB ctB:Value}(aB:nsIn K mainGlobals "either"=some (some (.ref fB)))(lB:K.lookup fB=some (ocB,odB,.func (fnOf "either" "either" (a_g a_Y) (a_e a_Y) (a_a a_Y) .none kVB dcB pmB anB (.ref cT2) ctB),slB))(cB:codeIn K (.ref cT2) "either"=true){fC:Addr}{odC anC:Option Addr}{slC:Array (Option Value)}{ocC kVC dcC pmC ctC:Value}(aC:nsIn K mainGlobals "both"=some (some (.ref fC)))(lC:K.lookup fC=some (ocC,odC,.func (fnOf "both" "both" (a_g c_C) (a_e c_C) (a_a c_C) .none kVC dcC pmC anC (.ref cT3) ctC),slC))(cC:codeIn K (.ref cT3) "both"=true){fS:Addr}{odS anS:Option Addr}{slS:Array (Option Value)}{ocS kVS dcS pmS ctS:Value}(aS:nsIn K mainGlobals "less"=some (some (.ref fS)))(lS:K.lookup fS=some (ocS,odS,.func (fnOf "less" "less" (a_g c_B) (a_e c_B) (a_a c_B) .none kVS dcS pmS anS (.ref cT4) ctS),slS))(cS:codeIn K (.ref cT4) "less"=true){fH:Addr}{odH anH:Option Addr}{slH:Array (Option Value)}{ocH kVH dcH pmH ctH:Value}(aH:nsIn K mainGlobals "then"=some (some (.ref fH)))(lH:K.lookup fH=some (ocH,odH,.func (fnOf "then" "then" (a_g H.s_then) (a_e H.s_then) (a_a H.s_then) .none kVH dcH pmH anH (.ref cT5) ctH),slH))(cH:codeIn K (.ref cT5) "then"=true){fN:Addr}{odN anN:Option Addr}{slN:Array (Option Value)}{ocN kVN dcN pmN ctN:Value}(aN:nsIn K mainGlobals "again"=some (some (.ref fN)))(lN:K.lookup fN=some (ocN,odN,.func (fnOf "again" "again" (a_g A.s_again) (a_e A.s_again) (a_a A.s_again) .none kVN dcN pmN anN (.ref cT6) ctN),slN))(cN:codeIn K (.ref cT6) "again"=true){fU:Addr}{odU anU:Option Addr}{slU:Array (Option Value)}{ocU kVU dcU pmU ctU:Value}(aU:nsIn K mainGlobals "walked_turned"=some (some (.ref fU)))(lU:K.lookup fU=some (ocU,odU,.func (fnOf "walked_turned" "walked_turned" (a_g Tu.s_walked_turned) (a_e Tu.s_walked_turned) (a_a Tu.s_walked_turned) .none kVU dcU pmU anU (.ref cT7) ctU),slU))(cU:codeIn K (.ref cT7) "walked_turned"=true)(l0:FnX K "numbered" e_m)(l1:FnX K "many_lots" d_o)(l2:FnX K "rounds_of" d_n)(l3:FnX K "first_rooms" c_u)(l4:FnX K "parting_word" c_e)(l5:FnX K "folded" g_r)(l6:FnX K "tails_of" e_l)(l7:FnX K "told" hV)(l8:FnX K "need_same_letters" a_Z)(l9:FnX K "least" du)(l10:FnX K "lots_after" c_G)(l11:FnX K "lot_of" g_p)(l12:FnX K "has_marked" c_H)(l13:FnX K "rooms_into" c_F)(l14:FnX K "outside" f_c)(l15:FnX K "turned" g_o)(l16:FnX K "_law_cell_at" c_h)(l17:FnX K "_law_letters" c_g)(l18:FnX K "_law_machine" c_f)(l19:FnX K "_law_is_machine" b_t)(l20:FnX K "_law_same" d_q)(l21:FnX K "_law_first_ways" b_u)(l22:FnX K "_law_second_ways" b_h)(l23:FnX K "_law_ways" d_p){f24:Addr}{od24 an24:Option Addr}{sl24:Array (Option Value)}{oc24 kV24 dc24 pm24 ct24:Value}{cd24:Addr}(a24:nsIn K mainGlobals "law"=some (some (.ref f24)))(l24:K.lookup f24=some (oc24,od24,.func (fnOf "law" "law" (a_g g_q) (a_e g_q) (a_a g_q) .none kV24 dc24 pm24 an24 (.ref cd24) ct24),sl24))(c24:codeIn K (.ref cd24) "law"=true){cA_:Addr}(nA_:nsIn K mainGlobals "RoomError"=some (some (.ref cA_))){cG_:Addr}(nG_:nsIn K mainGlobals "OtherLetters"=some (some (.ref cG_)))(oG_:OwnX K cG_)(eG_:nV K cG_)(mG_:exmOne K (.ref cG_) (.ref cA_)=some true)(iGG_:kitOne K (.ref cG_) (.ref cG_)=some true)(vG_:kitOne K (.ref cG_) (.type "ValueError")=some true)(z_len:nsIn K mainGlobals "len"=some none)(z_range:nsIn K mainGlobals "range"=some none)(z_isinst:nsIn K mainGlobals "isinstance"=some none)(z_int:nsIn K mainGlobals "int"=some none)(z_bool:nsIn K mainGlobals "bool"=some none)(z_tuple:nsIn K mainGlobals "tuple"=some none)(z_list:nsIn K mainGlobals "list"=some none)(z_str:nsIn K mainGlobals "str"=some none)(z_zip:nsIn K mainGlobals "zip"=some none)(z_enumerate:nsIn K mainGlobals "enumerate"=some none)(z_reversed:nsIn K mainGlobals "reversed"=some none)(z_max:nsIn K mainGlobals "max"=some none)(z_all:nsIn K mainGlobals "all"=some none)(z_any:nsIn K mainGlobals "any"=some none)(z_set:nsIn K mainGlobals "set"=some none)(z_sorted:nsIn K mainGlobals "sorted"=some none){t_most:Tok}(z_most:nsIn K mainGlobals "MOST_ROOMS"=some (some (.int 8 t_most)))
  :∃fd:FuncData,(∀(s:Shared)(v:Value),BindsTo s fd ([v],[]) [("_law_script",v,)])/\∀base:Heap,K.In base->base.Ns mainGlobals mg->d_g base mg->(∀q∈[(cT0,P0,),(cT1,P1,),(cT2,P2,),(cT3,P3,),(cT4,P4,),(cT5,P5,),(cT6,P6,),(cT7,P7,)],CodeHd base q.1 q.2)->aa l.prog w K mg base CX0 11 fa fd ["_law_script"] (dk K [(cT0,P0,),(cT1,P1,),(cT2,P2,),(cT3,P3,),(cT4,P4,),(cT5,P5,),(cT6,P6,),(cT7,P7,)]):=by
 have e:=hfa.symm.trans (mg_of X G a24);cases e;have T:Txt K mg cA_ cG_:=(mg_of X G nA_,mg_of X G nG_,oG_,eG_,mG_,iGG_,vG_,mg_none_of X G z_len,mg_none_of X G z_range,mg_none_of X G z_isinst,mg_none_of X G z_int,mg_none_of X G z_bool,mg_none_of X G z_tuple,mg_none_of X G z_list,mg_none_of X G z_str,mg_none_of X G z_zip,mg_none_of X G z_enumerate,mg_none_of X G z_reversed,mg_none_of X G z_max,mg_none_of X G z_all,mg_none_of X G z_any,mg_none_of X G z_set,mg_none_of X G z_sorted,(t_most,mg_of X G z_most));obtain⟨f0,a0,_,F0⟩:=l0;obtain⟨f1,a1,_,F1⟩:=l1;obtain⟨f2,a2,_,F2⟩:=l2;obtain⟨f3,a3,_,F3⟩:=l3;obtain⟨f4,a4,_,F4⟩:=l4;obtain⟨f5,a5,_,F5⟩:=l5;obtain⟨f6,a6,_,F6⟩:=l6;obtain⟨f7,a7,_,F7⟩:=l7;obtain⟨f8,a8,_,F8⟩:=l8;obtain⟨f9,a9,_,F9⟩:=l9;obtain⟨f10,a10,_,F10⟩:=l10;obtain⟨f11,a11,_,F11⟩:=l11;obtain⟨f12,a12,_,F12⟩:=l12;obtain⟨f13,a13,_,F13⟩:=l13;obtain⟨f14,a14,_,F14⟩:=l14;obtain⟨f15,a15,_,F15⟩:=l15;obtain⟨f16,a16,_,F16⟩:=l16;obtain⟨f17,a17,_,F17⟩:=l17;obtain⟨f18,a18,_,F18⟩:=l18;obtain⟨f19,a19,_,F19⟩:=l19;obtain⟨f20,a20,_,F20⟩:=l20;obtain⟨f21,a21,_,F21⟩:=l21;obtain⟨f22,a22,_,F22⟩:=l22;obtain⟨f23,a23,_,F23⟩:=l23;have F24:=c_o (st:=g_q) l24 c24 (b_p l24);have WT:=WkT.mk (mg_of X G nW) cls mk na1 na2 na3 na4 na5 (c_o (st:=e_k) lI cI (b_p lI));have TM:TmK K mg cTM cRE fX _:=(mg_of X G nT,mg_of X G nRE,xo,xc,xn1,xn2,xn3,xb,xf,xe,c_o (st:=c_R) lX cX (b_p lX));have WK:WkK K cW:=(cls,na1,na4,na5);have DL:∀base:Heap,Df l.prog w K mg base "lots_after" 1 ["machine","rooms"] sp_lotsafter:=λbase=>@dfm l.prog w K mg base h X G _ _ _ _ _ _ _ a10 F10 (bn2 F10 (by intros;rfl)) (d_P F10 T);have DH:∀base:Heap,Df l.prog w K mg base "has_marked" 1 ["machine","rooms"] H.sp_hasm:=λbase=>@dfm l.prog w K mg base h X G _ _ _ _ _ _ _ a12 F12 (bn2 F12 (by intros;rfl)) (d_Q F12 T);have DT:∀base:Heap,Df l.prog w K mg base "lot_of" 1 ["rooms"] (H.sp_lot K):=λbase=>@dfm l.prog w K mg base h X G _ _ _ _ _ _ _ a11 F11 (bn1 F11 (by intros;rfl)) (ok_lot_of F11 T);have DR:∀base:Heap,Df l.prog w K mg base "rooms_into" 1 ["machine","place","rooms"] Tu.sp_rinto:=λbase=>@dfm l.prog w K mg base h X G _ _ _ _ _ _ _ a13 F13 (bn3 F13 (by intros;rfl)) (d_O F13 T);refine(fnOf "law" "law" (a_g g_q) (a_e g_q) (a_a g_q) .none kV24 dc24 pm24 an24 (.ref cd24) ct24,λs v=>.of_eq rfl,λbase _ _ hB hC=>?_);have dm:=@dfm l.prog w K mg base h X G;obtain⟨ts,ets⟩:∃ts:List (Addr×List (Pos×Str)),ts=[(P0,sites,),(P1,bu,),(P2,b_Y,),(P3,c_Q,),(P4,c_P,),(P5,H.sitesH,),(P6,A.sitesA,),(P7,Tu.sitesT,)]:=(_,rfl);have nd:(ts.map Prod.fst).Nodup:=by rw[ets];exact hnd
 have i0:(P0,sites,)∈ts:=by rw[ets];simp
 have i1:(P1,bu,)∈ts:=by rw[ets];simp
 have i2:(P2,b_Y,)∈ts:=by rw[ets];simp
 have i3:(P3,c_Q,)∈ts:=by rw[ets];simp
 have i4:(P4,c_P,)∈ts:=by rw[ets];simp
 have i5:(P5,H.sitesH,)∈ts:=by rw[ets];simp
 have i6:(P6,A.sitesA,)∈ts:=by rw[ets];simp
 have i7:(P7,Tu.sitesT,)∈ts:=by rw[ets];simp
 have hts:∀p∈ts,∃c,(c,p.1,)∈[(cT0,P0,),(cT1,P1,),(cT2,P2,),(cT3,P3,),(cT4,P4,),(cT5,P5,),(cT6,P6,),(cT7,P7,)]:=by
  rw[ets];intro p hp;simp only[mem_cons,not_mem_nil,or_false]at hp;rcases hp with rfl|rfl|rfl|rfl|rfl|rfl|rfl|rfl
  .exact (cT0,by simp)
  .exact (cT1,by simp)
  .exact (cT2,by simp)
  .exact (cT3,by simp)
  .exact (cT4,by simp)
  .exact (cT5,by simp)
  .exact (cT6,by simp)
  .exact (cT7,by simp)
 have hC0:CodeHd base cT0 P0:=hC (cT0,P0,) (by simp);have hC1:CodeHd base cT1 P1:=hC (cT1,P1,) (by simp);have hC2:CodeHd base cT2 P2:=hC (cT2,P2,) (by simp);have hC3:CodeHd base cT3 P3:=hC (cT3,P3,) (by simp);have hC4:CodeHd base cT4 P4:=hC (cT4,P4,) (by simp);have hC5:CodeHd base cT5 P5:=hC (cT5,P5,) (by simp);have hC6:CodeHd base cT6 P6:=hC (cT6,P6,) (by simp);have hC7:CodeHd base cT7 P7:=hC (cT7,P7,) (by simp);have yh:Df l.prog w K mg base "walked_machine" 6 ["machine"] (g_h cW P0 sites):=(fM,_,mg_of X G aM,b_p lM,bn1 (c_o (st:=a_h) lM cM (b_p lM)) (by intros;rfl),ok_wmach lM cM lV cV (b_p lV) (mg_of X G aV) lD WT (mg_none_of X G z_len) (mg_none_of X G z_zip) hC0 hB);have yP:Df l.prog w K mg base "walked_machine" 6 ["machine"] (e_U cW P0 sites):=(fM,_,mg_of X G aM,b_p lM,bn1 (c_o (st:=a_h) lM cM (b_p lM)) (by intros;rfl),Lm.ok_wmach lM cM lV cV (b_p lV) (mg_of X G aV) lD WT (mg_none_of X G z_len) (mg_none_of X G z_zip) hC0 hB);have yW:Df l.prog w K mg base "walked_turned" 6 ["machine"] (Tu.sp_wturn cW P7 Tu.sitesT):=(fU,_,mg_of X G aU,b_p lU,bn1 (c_o (st:=Tu.s_walked_turned) lU cU (b_p lU)) (by intros;rfl),Tu.ok_wturn lU cU lV cV (b_p lV) (mg_of X G aV) lD WT (mg_none_of X G z_len) (mg_none_of X G z_zip) (mg_none_of X G z_tuple) (mg_none_of X G z_range) (mg_none_of X G z_enumerate) hC7 hB DR);have yb:=dm a0 F0 (bn1 F0 (by intros;rfl)) (ok_numbered F0 T );have yq:=dm a1 F1 (bn1 F1 (by intros;rfl)) (ok_many_lots F1 T );have yr:=dm a2 F2 (bn3 F2 (by intros;rfl)) (ok_rounds_of F2 T yb yq);have yt:=dm a3 F3 (bn1 F3 (by intros;rfl)) (f_I F3 T yq);have yX:=dm a4 F4 (bn5 F4 (by intros;rfl)) (f_j F4 T );have yn:=dm a5 F5 (bn2 F5 (by intros;rfl)) (ok_folded F5 T WK yt);have yV:=dm a6 F6 (bn3 F6 (by intros;rfl)) (ok_tails_of F6 T WK yX);have y7:DfX l.prog w K mg base "told" 4 ["walk"] (c_s cW cTM):=(f7,_,mg_of X G a7,F7.kp,bn1 F7 (by intros;rfl),oF F7 T WK na3 TM yr yq yn yt yV);have yu:DfX l.prog w K mg base "need_same_letters" 1 ["machine","second"] (c_t cG_):=(f8,_,mg_of X G a8,F8.kp,bn2 F8 (by intros;rfl),d_c F8 T );have y9:=dm a9 F9 (bn1 F9 (by intros;rfl)) (ok_least F9 T WK yh yr yn);have yd:=dm a10 F10 (bn2 F10 (by intros;rfl)) (d_P F10 T );have yi:=dm a11 F11 (bn1 F11 (by intros;rfl)) (ok_lot_of F11 T );have yc:=dm a12 F12 (bn2 F12 (by intros;rfl)) (d_Q F12 T );have yU:=dm a13 F13 (bn3 F13 (by intros;rfl)) (d_O F13 T );have yz:DfX l.prog w K mg base "outside" 7 ["machine"] (bt cTM ts fh):=(f14,_,mg_of X G a14,F14.kp,bn1 F14 (by intros;rfl),ig F14 T nd i0 yP y7);have yk:DfX l.prog w K mg base "turned" 8 ["machine"] (bt cTM ts f_T):=(f15,_,mg_of X G a15,F15.kp,bn1 F15 (by intros;rfl),ke F15 T nd i0 i7 y7 yW y9);have yw:=dm a16 F16 (bn2 F16 (by intros;rfl)) (f_m F16 T );have yK:=dm a17 F17 (bn1 F17 (by intros;rfl)) (f_l F17 T );have ya:=dm a18 F18 (bn4 F18 (by intros;rfl)) (f_k F18 T yw);have yG:=dm a19 F19 (bn2 F19 (by intros;rfl)) (d_R F19 T );have yf:=dm a20 F20 (bn2 F20 (by intros;rfl)) (ok__law_same F20 T  (mg_of X G a20) (bn2 F20 (by intros;rfl)));have yj:DfX l.prog w K mg base "paired" 6 ["machine","second","is_wanted"] (b_P l.prog w K mg cTM ts):=(fA,_,mg_of X G aA,b_p lA,bn3 (c_o (st:=a_C) lA cA (b_p lA)) (by intros;rfl),kf nd i1 lA cA lV cV (b_p lV) (mg_of X G aV) lD WT (mg_none_of X G z_len) (mg_none_of X G z_zip) (mg_none_of X G z_list) hC1 hB yu y7);have yy:DfX l.prog w K mg base "either" 7 ["machine","second"] (aP cTM ts (b_F (λa b=>a||b))):=(fB,_,mg_of X G aB,b_p lB,bn2 (c_o (st:=a_Y) lB cB (b_p lB)) (by intros;rfl),kg nd i2 lB cB hC2 hB yj);have yg:DfX l.prog w K mg base "both" 7 ["machine","second"] (aP cTM ts (b_F (λa b=>a&&b))):=(fC,_,mg_of X G aC,b_p lC,bn2 (c_o (st:=c_C) lC cC (b_p lC)) (by intros;rfl),oH nd i3 lC cC hC3 hB yj);have yY:DfX l.prog w K mg base "less" 7 ["machine","second"] (aP cTM ts (b_F (λa b=>a&&!b))):=(fS,_,mg_of X G aS,b_p lS,bn2 (c_o (st:=c_B) lS cS (b_p lS)) (by intros;rfl),oG nd i4 lS cS hC4 hB yj);have y0:DfX l.prog w K mg base "then" 8 ["machine","second"] (aP cTM ts f_U):=(fH,_,mg_of X G aH,b_p lH,bn2 (c_o (st:=H.s_then) lH cH (b_p lH)) (by intros;rfl),H.ok_then nd i0 i5 lH cH lV cV (b_p lV) (mg_of X G aV) lD WT (mg_none_of X G z_len) (mg_none_of X G z_zip) hC5 hB DL DH DT yu y9 y7);have y8:DfX l.prog w K mg base "again" 8 ["machine"] (bt cTM ts Ag):=(fN,_,mg_of X G aN,b_p lN,bn1 (c_o (st:=A.s_again) lN cN (b_p lN)) (by intros;rfl),A.ok_again nd i0 i6 lN cN lV cV (b_p lV) (mg_of X G aV) lD WT (mg_none_of X G z_len) (mg_none_of X G z_zip) hC6 hB DL DH DT y9 y7);have yJ:DfX l.prog w K mg base "_law_first_ways" 9 ["_law_kind","_law_a","_law_b","_law_c"] (e_j cTM ts):=(f21,_,mg_of X G a21,F21.kp,bn4 F21 (by intros;rfl),d_S F21 T yz yy yg y0 y8 yk yY);have yQ:DfX l.prog w K mg base "_law_second_ways" 9 ["_law_kind","_law_a","_law_b","_law_c"] (e_j cTM ts):=(f22,_,mg_of X G a22,F22.kp,bn4 F22 (by intros;rfl),d_u F22 T nd i0 yy yg y0 y8 yk y9);have yZ:=dm a23 F23 (bn4 F23 (by intros;rfl)) (ok__law_ways F23 T TM yJ yQ);exact ok_law F24 T hts yw yK ya yZ yG yf
end K26
end
structure PySem.W.Fast:Prop where
 (tw18283349319577207922 tw15791220664661935413 tw13616272854645800075 tw9583229993999744619 tw17319147409905824822 tw16749374832363647257 tw9404620712315601014 tw6194364594620922732 tw814491760355130208 tw15176807835576407811 tw6446719366694738 tw7949186639939044790 tw5267406758749841859 tw9717503507515672948 tw11919439111346939052 tw10308536687689396705 tw17516000928716843808 tw5289107103020955815 tw13315913160834067651 tw4624678793551647838 tw5003698630180193563 tw17169380114516282896 tw14697530357429344454 tw2108046680352208943 tw2720838468560483855 tw14863651472435626755 tw14862412076737056164 tw7893081509816376664 tw6007903182434421613 tw10986514782788082665 tw6607101935785922915 tw528161258340779156 tw11031799352983741632 tw3946870202027414977 tw16943606382746084844 tw9525333901306671321 tw12063304967470324684 tw14159033985908657067 tw3905437434650685529 tw9366049373805445102 tw14175828613539281991 tw17997092482804759161 tw4560773914501622693 tw2022837130745988834 tw12861990616098497687 tw9014309365863150878 tw6303173625271538863 tw12553259558250546478 tw4128052508054610921 tw10580586293218992590 tw17448182212159179272 tw12985287222361381460 tw98847949128686398 tw14465330913562002848 tw12558153910202520775 tw13321707623468599399 tw10775799721739034336 tw5672516653706767556 tw7981395508433325395 tw13930632858578143924 tw12030090807931028592 tw184031177985591823 tw304287289166449501 tw9438010428101979516 tw148868644595034385 tw2639357133652708667 tw4907145435693285504 tw11143080382591476517 tw14256398481272518059 tw5158414291524336524 tw13844395537141405894 tw3730422645612071686 tw10153318033339584008 tw14558899329660033708 tw5639741501932473674 tw3014114331582150995 tw2707413414511702324 tw10594979289163704849 tw3023955992013186330 tw11560958607633347225 tw1291880235298148773 tw289384525510644409 tw5012383463571882908 tw17176330164990887506 tw16854452956692271911 tw8712339178773418984 tw17143930864725800325 tw6789107364431475996 tw15997998260593313214 tw6670734772695567894 tw8243169578488185828 tw16922836499582374832 tw2374521401114773973 tw15188643603351369504 tw15254668392360344947 tw14951589926416233155 tw15939302681565121547 tw11412068059097075943 tw15364969275740668063 tw15894250771120588726 tw13683724174223026942 tw4619341434860952159 tw11822761656951971276 tw8214311724187579100 tw2695857551042639953 tw17953566948212277978 tw14902334586132365703 tw5411754877955195363 tw1038647280522547854 tw2546431251410136097 tw10210292070485450909 tw15491856838251138752 tw3017550050743212830 tw14475584625418308780 tw9331923834990923196 tw7865694475800569277 tw9727250849325069424 tw15997801167292021571 tw14986668505163843935 tw15469564003983410190 tw17126754165745077701 tw1127192395752482058 tw11753997350888527964 tw7273676549776349463 tw3782392032209089661 tw5769616646805876303 tw320861336115914494 tw6958256448382901334 tw3435235207562565241 tw13074799227367630350 tw7865457878380679638 tw13006040598890131572 tw819718866200909635 tw10125058203338178985 tw3847449283689974585 tw1332311145982418751 tw11653706474291895509 tw2783749231258141834 tw3957744250010306668 tw5754686712166093049 tw8456239651122542702 tw13797359152791831054 tw12517886210579778386 tw17149825526255811173 tw11668049718580574381 tw7767339658674293913 tw1932253132710272579 tw2708006413251062410 tw11081494660743500212 tw18156755260845170117 tw11784005524114870061 tw13984189900355274855 tw11061448411498193521 tw2067629947304323613 tw5672569964571131239 tw15898852124365532296 tw9999415645884447079 tw13800052103266679146 tw14605817410035801408 tw15523776063612519466 tw12265886310441373128 tw4332898062249902282 tw5359277261088216832 tw2678258325328281434:True)
open PySem PySem.W PyProof.Rows
set_option maxRecDepth 100000 in
set_option maxHeartbeats 0 in
theorem PySem.Challenge.cw_roomalgebra_k26_joins_that_come_to_the_s_holds : PySem.Challenge.rw_roomalgebra_k26_joins_that_come_to_the_s.Holds := by
 w_on;o_law;z_head;(case hw=>w_witness2)
 k_fill
 intro w sa sb mg mb G ye fa ob pm cd dc dv kv e1 e2 e3 e4 e5 e6 gs vs bs La c1 c2 c3 c4 c5
 z_open ye La KX ZH ZN ZT
 clear ye La ZH ZN ZT
 refine L2.walk63t (k:=11) (x:="_law_script") (l:=PySem.Challenge.rw_roomalgebra_k26_joins_that_come_to_the_s) (tabs:=[(132,128),(208,204),(161,157),(168,164),(175,171),(187,183),(194,190),(154,152)]) rfl rfl ⟨rfl,by decide,by decide⟩ ?T ?F w sa sb mg mb G KX fa ob pm cd dc dv kv e1 e2 e3 e4 e5 e6 gs vs bs c1 c2 c3 c4 c5
 case T=>
  intro p q hq
  simp only [mem_cons,not_mem_nil,or_false] at hq
  rcases hq with rfl|rfl|rfl|rfl|rfl|rfl|rfl|rfl
  all_goals exact ⟨by kernel_rfl,by kernel_rfl⟩
 case F=>
  intro w mg fa h KX G hmg
  refine' K26.all_mk rfl (by decide) KX G hmg ?nW ?hI0 ?cls ?mk ?na1 ?na2 ?na3 ?na4 ?na5 ?lI ?cI ?nT ?nRE ?hX0 ?xo ?xc ?xn1 ?xn2 ?xn3 ?xb ?xf ?xe ?lX ?cX ?aV ?lV ?cV ?lD ?aM ?lM ?cM ?aA ?lA ?cA ?aB ?lB ?cB ?aC ?lC ?cC ?aS ?lS ?cS ?aH ?lH ?cH ?aN ?lN ?cN ?aU ?lU ?cU ?l0 ?l1 ?l2 ?l3 ?l4 ?l5 ?l6 ?l7 ?l8 ?l9 ?l10 ?l11 ?l12 ?l13 ?l14 ?l15 ?l16 ?l17 ?l18 ?l19 ?l20 ?l21 ?l22 ?l23 ?a24 ?l24 ?c24 ?nA_ ?nG_ ?oG_ ?eG_ ?mG_ ?iGG_ ?vG_ ?z_len ?z_range ?z_isinst ?z_int ?z_bool ?z_tuple ?z_list ?z_str ?z_zip ?z_enumerate ?z_reversed ?z_max ?z_all ?z_any ?z_set ?z_sorted ?z_most
  (case nW|nT|nRE|aV|aM|aA|aB|aC|aS|aH|aN|aU|a24|nA_|nG_|z_len|z_range|z_isinst|z_int|z_bool|z_tuple|z_list|z_str|z_zip|z_enumerate|z_reversed|z_max|z_all|z_any|z_set|z_sorted|z_most=>exact L2.nsD (by k_is) (by decide))
  (case hI0|hX0=>k_is)
  (case cls|mk=>exact ⟨by kernel_rfl,by kernel_rfl,by kernel_rfl,by kernel_rfl⟩)
  (case na1|na2|na3|na4|na5|xn1|xn2|xn3=>unfold L2.a_A;kernel_rfl)
  (case lI|lX|lV|lD|lM|lA|lB|lC|lS|lH|lN|lU|l24=>exact L2.lkD (by k_is) (by decide))
  (case cI|cX|cV|cM|cA|cB|cC|cS|cH|cN|cU|c24=>exact L2.cdD (by k_is) (by decide))
  (case xo=>unfold L2.OwnI;kernel_rfl)
  (case xc|xb=>exact ⟨by kernel_rfl,by kernel_rfl,by kernel_rfl⟩)
  (case xf|xe|mG_|iGG_|vG_=>kernel_rfl)
  (case l0|l1|l2|l3|l4|l5|l6|l7|l8|l9|l10|l11|l12|l13|l14|l15|l16|l17|l18|l19|l20|l21|l22|l23=>exact ⟨_,L2.nsD (by k_is) (by decide),L2.fn_in (L2.lkD (by k_is) (by decide)) (L2.cdD (by k_is) (by decide))⟩)
  (case oG_=>unfold L2.OwnX;kernel_rfl)
  (case eG_=>exact ⟨by kernel_rfl,by kernel_rfl,by kernel_rfl,by kernel_rfl,by kernel_rfl,by kernel_rfl,by kernel_rfl,by kernel_rfl⟩)
#print axioms PySem.Challenge.cw_roomalgebra_k26_joins_that_come_to_the_s_holds
