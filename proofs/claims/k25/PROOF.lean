import PyProof.Rows.All
import Wide.All
import OpenK.AllK
import Wide.FinOn
import Lean
import PyProof.EqAt
import PyProof.EqKinds
import PyProof.TupleCall
import PyProof.Draws
import PyProof.ZipIter
import PySem.Challenge.RW_roomalgebra_k25_eight_rooms_or_nine_word
set_option Elab.async false
set_option linter.all false
set_option maxRecDepth 100000
noncomputable section
local macro_rules|`($a <* $b)=>`($a=some $b)
local macro_rules|`($x⁻¹)=>`(($x).heap.objs.size)
local macro_rules|`(!$n:num)=>match n.getNat with|0=>`(by decide)|1=>`(by simp)|2=>`(by omega)|3=>`(by decide +kernel)|4=>`(by rfl)|5=>`(by intro z;cases z)|6=>`(by lia)|_=>Lean.Macro.throwUnsupported
local macro_rules|`(($a,$b,*))=>if b.elemsAndSeps.size%2==1 then `(⟨$a,$b,*⟩)else Lean.Macro.throwUnsupported
abbrev LN:=List Nat
abbrev LL:=List LN
open PySem.W (Frag fnOf nsIn mg_of codeIn mg_none_of CodeHd fnMade keepIn kla_obj kla_fn hideAll emptyDict hideAll_get envX exmOne instObj hideAll_none tabObj takerIn of_hideAll isFn any_some callWith_K looks_clsIn plainGet set_plain methodObj)
open List (getElem?_eq_getElem length_map getD_eq_getElem?_getD getElem?_map mem_cons length_append mem_singleton mem_of_getElem? mem_range map_append all_eq_true size_toArray mem_append getElem_mem mem_map getElem?_append_left not_mem_nil getElem?_append_right length_range idxOf_lt_length_of_mem mem_iff_getElem? lookup_cons mem_append_right mem_cons_of_mem length_cons map_cons getElem?_range getElem_idxOf forIn_cons find?_cons append_nil mem_filter take_length append_assoc forIn_nil length_replicate take_of_length_le nodup_cons cons_append take_add_one mem_cons_self length_eq_zero_iff replicate length_take getElem?_toArray getElem?_eq_none range_succ idxOf_cons getElem?_zip_eq_some mem_flatMap length_reverse Perm of_mem_zip mem_append_left getElem_inj contains_iff_mem any_eq_true)
open PySem.Heap (get?_push_of_some lt_size get?_push_size SameBut size_push get?_update_self get?_update_other DictOfH)
open Nat (le_trans le_refl ne_of_lt lt_of_lt_of_le zero_le lt_succ_self lt_trans le_of_not_lt le_of_lt ne_of_gt le_of_eq le_add_right lt_of_le_of_lt lt_succ_of_lt lt_irrefl not_lt le_succ sub_self le_antisymm sub_succ_lt_self lt_trichotomy)
open PyProof.Rows (boot_tuple boot_isinstance boot_list boot_bool boot_str boot_zip boot_int boot_all)
open Option (map_eq_some_iff)
open PySem.Obj (mapSeq mapFields data_mapFields)
open PySem.F (called_set store_object plainAttrs_str excBase_ValueError type_str_find slot_str_find plainAttrs_list)
open Bool (and_eq_true_iff and_eq_true not_eq_true')
open PySem (boot_len)
open Array (length_toList getElem?_toList forIn_toList)
open Int (ofNat_lt toNat_natCast)
open PySem.Str (length)
theorem l'{b:Type _}{l:List b}{i:Nat}{a:b}(h:l[i]?<*a):∃h:i<l.length,l[i]=a:=List.getElem?_eq_some_iff.mp h
theorem j1{a:Type _}{l:List a}{i:Nat}(h:i<l.length):l[i]?<*l[i]:=List.getElem?_eq_getElem h
theorem m8{b:Type _}{l:List b}{i:Nat}{a:b}:l.getD i a=l[i]?.getD a:=List.getD_eq_getElem?_getD
theorem j_{a:Type _}{b:Type _}{l:List a}(f:a->b):(l.map f).length=l.length:=List.length_map f
theorem uA{a:Type _}{l m:List a}:(l++m).length=l.length+m.length:=List.length_append
theorem n'{a:Type _}{b:Type _}{f:a->b}{l:List a}{i:Nat}:(l.map f)[i]?=Option.map f l[i]?:=List.getElem?_map
abbrev d_:=@PySem.wpAny_bind
abbrev j2:=@PySem.wpAny_pure
abbrev nb:=@PySem.Heap.get?_push_of_some
theorem uN{c:Type _}{a b:c}:a∈[b]->a=b:=List.mem_singleton.mp
theorem uM{b:Type _}{l:List b}{i:Nat}{a:b}(h:l[i]?<*a):a∈l:=List.mem_of_getElem? h
theorem v8{d:Type _}{c:Type _}{f:d->c}{x:Option d}{b:c}(h:Option.map f x<*b):∃a,x=some a/\f a=b:=Option.map_eq_some_iff.mp h
namespace L2
open PySem PySem.Spec PyProof.Rows
abbrev wn:=Sum Int Str
noncomputable def pY:wn->Value->Bool
 |.inl k,v=>Value.isInt k v
 |.inr x,v=>Value.isStrOf x v
noncomputable def uh(w:World):wn->Int
 |.inl k=>hashInt k
 |.inr x=>hashStr w x
theorem nl:∀{k:wn}{v:Value},pY k v=true->(∃i t,k=Sum.inl i/\v=Value.int i t)\/(∃x t,k=Sum.inr x/\v=Value.str x t)
 |.inl i,v,h=>by
  obtain⟨t,e⟩:=Value.isInt_shape (k:=i) (v:=v) h;exact .inl (i,t,rfl,e)
 |.inr x,v,h=>by
  obtain⟨t,e⟩:=Value.isStrOf_shape (x:=x) (v:=v) h;exact .inr (x,t,rfl,e)
theorem q9(a b:Int):decide ((Sum.inl a:wn)=Sum.inl b)=(a==b):=by
 by_cases e:a=b
 .subst e;simp
 .have h:¬ (Sum.inl a:wn)=Sum.inl b:=λq=>e (Sum.inl.inj q);rw[decide_eq_false h];exact(beq_eq_false_iff_ne.mpr e).symm
theorem qX(a b:Str):decide ((Sum.inr a:wn)=Sum.inr b)=decide (a=b):=by
 by_cases e:a=b
 .subst e;simp
 .have h:¬ (Sum.inr a:wn)=Sum.inr b:=λq=>e (Sum.inr.inj q);rw[decide_eq_false h,decide_eq_false e]
theorem qZ(a:Int)(b:Str):decide ((Sum.inl a:wn)=Sum.inr b)=false:=decide_eq_false (λq=>nomatch q)
theorem qY(a:Str)(b:Int):decide ((Sum.inr a:wn)=Sum.inl b)=false:=decide_eq_false (λq=>nomatch q)
noncomputable def ju(prog:Program)(w:World):PySem.KeyKind prog w wn where
 is:=pY
 hash:=uh w
 inj:=λv a b ha hb=>by
  rcases nl ha with⟨i,t,rfl,rfl⟩|⟨x,t,rfl,rfl⟩
  .rcases nl hb with⟨j,u,rfl,e⟩|⟨y,u,rfl,e⟩
   .injection e with e1 _;rw[e1]
   .exact nomatch e
  .rcases nl hb with⟨j,u,rfl,e⟩|⟨y,u,rfl,e⟩
   .exact nomatch e
   .injection e with e1 _;rw[e1]
 byValue:=λk v h=>by
  rcases nl h with⟨i,t,rfl,rfl⟩|⟨x,t,rfl,rfl⟩<;>rfl
 pyHash:=λhv h=>by
  rcases nl hv with⟨i,t,rfl,rfl⟩|⟨x,t,rfl,rfl⟩
  .exact wpAny_pyHash_int h
  .exact wpAny_pyHash_str h
 eqBool:=λhu hv h=>by
  rcases nl hu with⟨i,t,rfl,rfl⟩|⟨x,t,rfl,rfl⟩
  .rcases nl hv with⟨j,u,rfl,rfl⟩|⟨y,u,rfl,rfl⟩
   .rw [q9]at h;exact wpAny_eqBool_int h
   .rw [qZ]at h;exact SeqAt.EqAt.int_str i t y u _ _ _ _ h
  .rcases nl hv with⟨j,u,rfl,rfl⟩|⟨y,u,rfl,rfl⟩
   .rw [qY]at h;exact SeqAt.EqAt.str_int x t j u _ _ _ _ h
   .rw [qX]at h;exact wpAny_eqBool_str h
 «strs»:=λk x t v h=>by
  rcases nl h with⟨i,u,rfl,e⟩|⟨y,u,rfl,e⟩
  .exact nomatch e
  .injection e with e1 _
   subst e1
   cases v<;>rfl
inductive V where
 |non|bl (b:Bool)|int (i:Int)|str (x:Str)|byt (b:Array UInt8)|flt (b:UInt64)|ref (a:Addr)|ty (n:String)
 deriving DecidableEq
noncomputable def ad:V->Value->Prop
 |.non,u=>u=Value.none
 |.bl b,u=>u=Value.bool b
 |.int i,u=>∃t,u=Value.int i t
 |.str x,u=>∃t,u=Value.str x t
 |.byt b,u=>∃t,u=Value.bytes b t
 |.flt b,u=>∃t,u=Value.float b t
 |.ref a,u=>u=Value.ref a
 |.ty n,u=>u=Value.type n
abbrev ac:List V->List Value->Prop:=Paired ad
theorem ac.length(r:ac xs a):xs.length=a.length:=Paired.length r
theorem ac.get:∀{xs:List V}{a:List Value}{i:Nat}{x:V},ac xs a->xs[i]?<*x->∃u,a[i]?=some u/\ad x u
 |_,_,_,_,.nil,e=>by simp at e
 |_,_,0,_,.cons r _,e=>by simp at e;subst e;exact(_,rfl,r)
 |_,_,i+1,x,.cons _ t,e=>by
  obtain⟨u,h1,h2⟩:=ac.get (i:=i) (x:=x) t (by simpa using e);exact(u,by simpa using h1,h2)
theorem ac.set{x:V}{u:Value}(r:ad x u):∀{xs:List V}{a:List Value}(i:Nat),ac xs a->ac (xs.set i x) (a.set i u)
 |_,_,_,.nil=>.nil
 |_,_,0,.cons _ t=>.cons r t
 |_,_,i+1,.cons q t=>.cons q (ac.set r i t)
theorem ac.append:∀{xs ys:List V}{a ws:List Value},ac xs a->ac ys ws->ac (xs++ys) (a++ws)
 |_,_,_,_,.nil,s=>s
 |_,_,_,_,.cons r t,s=>.cons r (ac.append t s)
theorem ac.take:∀{xs:List V}{a:List Value}(n:Nat),ac xs a->ac (xs.take n) (a.take n)
 |_,_,0,_=>.nil
 |_,_,_+1,.nil=>.nil
 |_,_,n+1,.cons r t=>.cons r (ac.take n t)
theorem ac.drop:∀{xs:List V}{a:List Value}(n:Nat),ac xs a->ac (xs.drop n) (a.drop n)
 |_,_,0,r=>r
 |_,_,_+1,.nil=>.nil
 |_,_,n+1,.cons _ t=>ac.drop n t
noncomputable def au:Option V->Option Value->Prop
 |some v,some u=>ad v u
 |none,none=>True
 |_,_=>False
noncomputable def KV{κ:Type}:List (κ×V)->List (κ×Value)->Prop:=Paired λ(p:κ×V)(q:κ×Value)=>p.1=q.1/\ad p.2 q.2
noncomputable def kV:wn->V
 |.inl i=>.int i
 |.inr x=>.str x
inductive HO where
  |lst (xs:List V)
  |tup (xs:List V)
  |dK (kvs:List (wn×V))|dT (kvs:List (List wn×V))
  |set (S:Int->Bool) (n:Nat)
  |ins (C dx:Addr) (fs:List (Str×V))
  |own (x:Addr)
  |xd (fs:List (Str×V))
  |met (f x:Addr)
  |rng (lo hi:Int)
  |frz (o:Obj) (u:HO)
  |tbl (ps:Array Value)
  |ext (φ:Heap->Prop)
abbrev Hp:=Addr->Option HO
noncomputable def upd(H:Hp)(a:Addr)(o:HO):Hp:=λb=>if b=a then some o else H b
theorem j':upd H a o a<*o:=by unfold upd;rw[if_pos rfl]
theorem a_(h:b≠a):upd H a o b=H b:=by unfold upd;rw[if_neg h]
theorem Ba:upd (upd H a o) a u=upd H a u:=by
 funext b;unfold upd;split<;>rfl
theorem n_{H:Hp}(h:H a<*o)(h':H b<*u)(d:o≠u):a≠b:=by
 intro e;subst e;rw[h]at h';exact d (Option.some.inj h')
theorem f_{H:Hp}(h:H a<*o)(h':H b=none):a≠b:=by
 intro e;subst e;rw[h]at h';cases h'
section
variable(P:Program)(w:World)
noncomputable def uS(H:Hp)(h:Heap)(a:Addr):HO->Prop
 |.lst xs=>xs.length≤sizeLine/\∃(its:List Value)(n:Nat),ac xs its/\h.get? a<*{cls:=.type "list",data:=.seq its.toArray n}
 |.tup xs=>xs.length≤sizeLine/\∃its:List Value,ac xs its/\IsTup h a its.toArray
 |.dK kvs=>kvs.length≤sizeLine/\(a==sysModules)=false/\∃vs,KV kvs vs/\h.DictOf (ju P w) a vs
 |.dT kvs=>kvs.length≤sizeLine/\(a==sysModules)=false/\∃xs:List (List wn×Addr×Value),
   Paired (λ(p:List wn×V)(q:List wn×Addr×Value)=>p.1=q.1/\H q.2.1=some (.tup (p.1.map kV))/\ad p.2 q.2.2) kvs xs/\
   ∃o es ep,h.get? a=some o/\o.ExactDict/\o.data=.dict es ep/\es.toList=xs.map (entryOfKey (tupleKind (ju P w)))/\(xs.map (·.1)).Nodup
 |.set S n=>h.SetOf (intKind P w) a S n
 |.ins C dx fs=>H dx=some (.own a)/\fs.length≤1000/\dx≠a/\h.get? a=some (instObj C dx)/\
   ∃mA,h.Ns1 dx mA/\(∀f,au (fs.lookup f) (mA f))/\PySem.Within mA (fs.map (·.1))
 |.own _=>∃o,h.get? a<*o
 |.xd fs=>∃mA,h.Ns1 a mA/\∀f,au (fs.lookup f) (mA f)
 |.rng lo hi=>∃t u v,h.get? a<*{cls:=.type "range",data:=.fields #[.int lo t,.int hi u,.int 1 v]}
 |.frz o u=>h.get? a=some o/\uS H h a u
 |.tbl ps=>h.get? a<*{cls:=.none,data:=.fields ps}
 |.met f x=>h.get? a<*methodObj (.ref f) (.ref x)
 |.ext φ=>φ h/\(∃o,h.get? a<*o)/\∀h1 h2:Heap,φ h1->(∀o,h1.get? a<*o->h2.get? a<*o)->φ h2
noncomputable def uO(H:Hp)(h:Heap):Prop:=∀a o,H a<*o->uS P w H h a o
end
section
variable{P:Program}{w:World}{H H':Hp}{h h':Heap}{a:Addr}{o:HO}
theorem uS.lt(x:uS P w H h a o):a<h.objs.size:=by
 cases o with
 |lst xs=>obtain⟨_,_,_,_,e⟩:=x;exact lt_size e
 |tup xs=>obtain⟨_,_,_,p⟩:=x;exact p.lt
 |dK kvs=>obtain⟨_,_,_,_,o,_,_,e,_⟩:=x;exact lt_size e
 |dT kvs=>obtain⟨_,_,_,_,o,_,_,e,_⟩:=x;exact lt_size e
 |set S n=>obtain⟨o,_,_,_,e,_⟩:=x;exact lt_size e
 |ins C dx b=>obtain⟨_,_,_,e,_⟩:=x;exact lt_size e
 |own y=>obtain⟨_,e⟩:=x;exact lt_size e
 |xd b=>obtain⟨_,⟨_,_,_,e,_⟩,_⟩:=x;exact lt_size e
 |rng lo d=>obtain⟨_,_,_,e⟩:=x;exact lt_size e
 |frz c u=>obtain⟨e,_⟩:=x;exact lt_size e
 |tbl ps=>exact lt_size (show h.get? a<*_ from x)
 |met f y=>exact lt_size (show h.get? a<*_ from x)
 |ext φ=>obtain⟨_,⟨_,e⟩,_⟩:=x;exact lt_size e
theorem Paired.mapP{g e:Type}{F G:g->e->Prop}:∀{d:List g}{c:List e},Paired F d c->(∀a b,F a b->G a b)->Paired G d c
 |_,_,.nil,_=>.nil
 |_,_,.cons r t,f=>.cons (f _ _ r) (Paired.mapP t f)
theorem uS.stay(x:uS P w H h a o)(k:∀b u,(b=a\/H b<*.own a)->h.get? b<*u->h'.get? b<*u)(F:∀b,H b<*.own a->H' b<*.own a)(E:∀b xs,H b<*.tup xs->H' b<*.tup xs):uS P w H' h' a o:=by
 induction o with
 |lst xs=>obtain⟨z,l,n,r,e⟩:=x;exact(z,l,n,r,k _ _ (.inl rfl) e)
 |tup xs=>obtain⟨z,l,r,g,e,c⟩:=x;exact(z,l,r,g,k _ _ (.inl rfl) e,c)
 |dK kvs=>obtain⟨z,y,A,r,g,i,j,e,c⟩:=x;exact(z,y,A,r,g,i,j,k _ _ (.inl rfl) e,c)
 |dT kvs=>
  obtain⟨z,y,xs,r,g,i,j,e,c⟩:=x;exact(z,y,xs,Paired.mapP r λp q z=>(z.1,E _ _ z.2.1,z.2.2),g,i,j,k _ _ (.inl rfl) e,c)
 |set S n=>obtain⟨g,i,j,t,e,c⟩:=x;exact(g,i,j,t,k _ _ (.inl rfl) e,c)
 |ins C dx G=>
  obtain⟨d,z,B,e,s,⟨m,i,j,I,c⟩,r⟩:=x;exact(F _ d,z,B,k _ _ (.inl rfl) e,s,(m,i,j,k _ _ (.inr d) I,c),r)
 |own y=>obtain⟨g,e⟩:=x;exact(g,k _ _ (.inl rfl) e)
 |xd G=>obtain⟨s,⟨m,i,j,e,c⟩,r⟩:=x;exact(s,(m,i,j,k _ _ (.inl rfl) e,c),r)
 |rng lo J=>obtain⟨t,u,v,e⟩:=x;exact(t,u,v,k _ _ (.inl rfl) e)
 |frz g u D=>obtain⟨e,q⟩:=x;exact(k _ _ (.inl rfl) e,D q)
 |tbl ps=>
  have e:h.get? a<*{cls:=.none,data:=.fields ps}:=x;show h'.get? a<*{cls:=.none,data:=.fields ps};exact k a _ (.inl rfl) e
 |met f y=>
  have e:h.get? a<*methodObj (.ref f) (.ref y):=x;show h'.get? a<*methodObj (.ref f) (.ref y);exact k a _ (.inl rfl) e
 |ext φ=>obtain⟨p,⟨o,e⟩,st⟩:=x;exact(st _ _ p λo q=>k _ _ (.inl rfl) q,(o,k _ _ (.inl rfl) e),st)
theorem uO.lt(x:uO P w H h)(e:H a<*o):a<h.objs.size:=(x a o e).lt
theorem uO.fresh(x:uO P w H h)(e:h.objs.size≤a):H a=none:=by
 cases q:H a with
 |none=>rfl
 |some u=>exact absurd (lt_of_lt_of_le (x.lt q) e) (lt_irrefl _)
theorem uO.kept(x:uO P w H h)(k:∀b u,h.get? b<*u->h'.get? b<*u):uO P w H h':=λa o e=>
 (x a o e).stay (λb u _ q=>k b u q) (λ_ q=>q) λ_ _ q=>q
theorem uO.laid(x:uO P w H h)(k:∀b u,h.get? b<*u->h'.get? b<*u)(hp:h.objs.size≤a)(d:uS P w (upd H a o) h' a o):uO P w (upd H a o) h':=λb u e=>by
 have f:=x.fresh hp;by_cases g:b=a
 .subst g;rw[j']at e;cases e;exact d
 .rw [a_ g]at e;exact(x b u e).stay (λc v _ q=>k c v q) (λc q=>by rw[a_ (f_ q f)];exact q) λc xs q=>by rw[a_ (f_ q f)];exact q
end
noncomputable def Rd(H:Hp)(a:Addr)(u:HO):Prop:=H a<*u\/∃o,H a<*.frz o u
theorem Rd.ok(r:Rd H a u)(x:uO P w H h):uS P w H h a u:=by
 rcases r with r|⟨o,r⟩
 .exact x a u r
 .obtain ⟨_,q⟩:=x a _ r;exact q
noncomputable def BP:Option HO->Prop
 |some (.lst _)=>True
 |some (.dK _)=>True
 |some (.dT _)=>True
 |some (.set _ _)=>True
 |some (.ins _ _ _)=>True
 |some (.ext _)=>True
 |_=>False
section
variable{P:Program}{w:World}{H:Hp}{h h':Heap}{x e:Addr}{o':HO}
theorem uO.write(ok:uO P w H h)(g:BP (H x))(o:e=x\/H e<*.own x)(k:∀b u,b≠e->h.get? b<*u->h'.get? b<*u)(m:∃u,h'.get? e<*u)(l:uS P w (upd H x o') h' x o'):uO P w (upd H x o') h':=λb u q=>by
 have d:∀c y,H c<*.own y->c≠x:=λc y r z=>by subst z;rw[r]at g;exact g
 have f:∀c xs,H c<*.tup xs->c≠x:=λc xs r z=>by subst z;rw[r]at g;exact g
 by_cases j:b=x
 .subst j;rw[j']at q;cases q;exact l
 .rw [a_ j]at q;by_cases a:b=e
  .have n:H b<*.own x:=by
    rcases o with z|z
    .exact absurd (a.trans z) j
    .rw [a];exact z
   rw[q]at n;cases n;obtain⟨v,p⟩:=m;exact(v,by rw[a];exact p)
  .refine (ok b u q).stay (λc v i r=>k c v ?_ r) (λc r=>by rw[a_ (d c b r)];exact r) λc xs r=>by rw[a_ (f c xs r)];exact r
   rcases i with rfl|i
   .exact a
   .rintro rfl;rcases o with z|z
    .exact d c b i z
    .rw [i]at z;cases z;exact j rfl
end
structure Un(fs ex:List Addr)(H H':Hp)(h h':Heap):Prop where
 keep:∀b o,h.get? b<*o->H b=none->b∉fs->b∉ex->h'.get? b<*o
 slot:∀b o,h.get? b<*o->H b=none->b∈fs->b∉ex->∃sl,h'.get? b<*{o with slots:=sl}
 free:∀b o,h.get? b<*o->H b=none->b∉ex->H' b=none
 there:∀b o,h.get? b<*o->b∉ex->∃o',h'.get? b<*o'
 tups:∀b xs,H b<*.tup xs->H' b<*.tup xs
 frzs:∀b o u,H b<*.frz o u->H' b<*.frz o u
 tbls:∀b ps,H b<*.tbl ps->∃more,H' b<*.tbl (ps++more)
section
variable{fs fs' ex ex':List Addr}{H H1 H2:Hp}{h h1 h2 h':Heap}{a x e:Addr}{o:HO}
theorem Un.any(u:Un fs ex H H1 h h1)(q:h.get? b<*c)(n:H b=none)(d:b∉ex):∃g,h1.get? b<*{c with slots:=g}:=by
 by_cases f:b∈fs
 .exact u.slot b c q n f d
 .exact (c.slots,u.keep b c q n f d)
theorem Un.kept(k:∀b u,h.get? b<*u->h'.get? b<*u):Un fs ex H H h h':=
 (λb c q _ _ _=>k b c q,λb c q _ _ _=>(c.slots,k b c q),λ_ _ _ n _=>n,λb c q _=>(c,k b c q),λ_ _ q=>q,λ_ _ _ q=>q,λ_ ps q=>(#[],by rw[q];simp))
theorem Un.refl:Un fs ex H H h h:=Un.kept λ_ _ q=>q
theorem Un.laid(k:∀b u,h.get? b<*u->h'.get? b<*u)(hp:h.objs.size≤a)(c:H a=none):Un fs ex H (upd H a o) h h' where
 keep:=λb u q _ _ _=>k b u q
 slot:=λb u q _ _ _=>(u.slots,k b u q)
 free:=λb u q n _=>by rw[a_ (ne_of_lt (lt_of_lt_of_le (lt_size q) hp))];exact n
 there:=λb u q _=>(u,k b u q)
 tups:=λb xs q=>by rw[a_ (f_ q c)];exact q
 frzs:=λb u xs q=>by rw[a_ (f_ q c)];exact q
 tbls:=λb ps q=>(#[],by rw[a_ (f_ q c),q];simp)
theorem Un.write(d:BP (H x))(l:e=x\/H e<*.own x)(k:∀b u,b≠e->h.get? b<*u->h'.get? b<*u)(g:∃u,h'.get? e<*u):Un fs ex H (upd H x o) h h':=by
 have i:∀b,H b=none->b≠x:=λb n z=>by subst z;rw[n]at d;exact d
 have j:∀b,H b=none->b≠e:=λb n z=>by
  subst z;rcases l with r|r
  .exact i b n r
  .rw [n]at r;cases r
 have f:∀b u,H b<*u->¬ BP (some u)->b≠x:=λb u q nm z=>by subst z;rw[q]at d;exact nm d
 refine(λb u q n _ _=>k b u (j b n) q,λb u q n _ _=>(u.slots,k b u (j b n) q),λb u q n _=>by rw[a_ (i b n)];exact n,λb u q _=>?_,
  λb xs q=>by rw[a_ (f b _ q λz=>z)];exact q,λb u xs q=>by rw[a_ (f b _ q λz=>z)];exact q,λb ps q=>(#[],by rw[a_ (f b _ q λz=>z),q];simp))
 by_cases c:b=e
 .subst c;exact g
 .exact (u,k b u c q)
end
noncomputable def Ay(h:Heap)(H:Hp):List Addr:=(List.range h.objs.size).filter λa=>(H a).isSome
noncomputable def bH(h:Heap)(H:Hp):Heap:=hideAll h (Ay h H)
theorem lf(h:Heap)(H:Hp):(bH h H).objs.size=h.objs.size:=PySem.W.hideAll_size _ _
theorem ng(e:h.get? b<*o)(n:H b=none):(bH h H).get? b<*o:=
 hideAll_get _ e λa=>by
  have q:(H b).isSome=true:=(mem_filter.mp a).2;rw[n]at q;simp at q
theorem pc(e:(bH h H).get? b<*o):h.get? b=some o/\H b=none:=by
 have e':h.get? b<*o:=of_hideAll (Ay h H) e;refine(e',?_);cases q:H b with
 |none=>rfl
 |some x=>
  have a:b∈Ay h H:=mem_filter.mpr (mem_range.mpr (lt_size e'),by simp[q]);have z:(bH h H).get? b=none:=hideAll_none (Ay h H) a;rw[z]at e;cases e
structure Mod(K:Frag)(mg:Str->Option Value)(base:Heap):Prop where
 kin:K.In base
 glob:base.Ns mainGlobals mg
 blt:∃mb,base.Ns builtinsNs mb/\∀x:Str,x≠"__name__"->mb x=bootBuiltins x
 nolimit:base.NoLimit
structure Cx where
 prog:Program
 w:World
 K:Frag
 mg:Str->Option Value
 base:Heap
 A:Around
 N:List Str
 s₀:Shared
 H₀:Hp
 env:Env
 outer:List Env
 stack:List Env
 ex:List Addr
 fn:Str->Bool
 calm:Bool
 pn:List (Addr×Obj)
 xe:Value->Shared->Prop
noncomputable def tf(l:List Env):List Addr:=l.filterMap (·.frame)
abbrev Cx.fs(X:Cx):List Addr:=tf X.outer
noncomputable def AQ(sc:Scope)(x:Str):Prop:=sc.names.lookup x<*.local\/sc.names.lookup x<*.cell\/sc.names.lookup x<*.free
noncomputable def zd(sc:Scope)(x:Str):Prop:=sc.names.lookup x<*.local\/sc.names.lookup x<*.cell
noncomputable def tH(env:Env)(h:Heap)(m:Str->Option Value)(x:Str)(u:Value):Prop:=
 (env.kindOf x=some .local/\m x<*u)\/((env.kindOf x<*.cell\/env.kindOf x<*.free)/\∃c,env.cells.lookup x=some c/\h.IsCell c (some u))
structure Cx.Ok(X:Cx):Prop where
 mod:Mod X.K X.mg X.base
 kind:X.env.scope.kind=.function
 glob:X.env.globals=mainGlobals
 blt:X.env.builtins=builtinsNs
 above:X.s₀⁻¹≤X.env.locals
 inj:∀x y c,X.env.cells.lookup x<*c->X.env.cells.lookup y<*c->x=y
 has:∀x,(X.env.kindOf x<*.cell\/X.env.kindOf x<*.free)->∃c,X.env.cells.lookup x<*c
 cab:∀x c,X.fn x=true->X.env.cells.lookup x<*c->X.s₀⁻¹≤c
 hd:X.calm=true->X.A.handled=none
 frames:X.A.frames<*X.stack
 stk:X.stack=X.outer\/(X.stack=X.env::X.outer/\X.env.frame<*X.env.locals)
 exf:∀b∈X.ex,b≠X.env.locals/\∀x c,X.env.cells.lookup x<*c->c≠b
 bs:∀b o,X.base.get? b<*o->X.s₀.heap.get? b=some o/\X.H₀ b=none
 bsz:X.base.objs.size≤X.s₀⁻¹
 noex:∀b o,X.base.get? b<*o->b∉X.ex
 exfs:∀b∈X.ex,b∉X.fs
 funs:X.s₀.heap.FunFrames X.base X.outer
 frf:∀b∈X.fs,X.H₀ b=none
structure f'(X:Cx)(pins:List (Addr×Obj))(σ:List (Option V))(H:Hp)(s:Shared):Prop where
 ok:X.Ok
 os:s.os=X.s₀.os
 bare:AllBare s.gens
 base:Un X.fs X.ex X.H₀ H X.s₀.heap s.heap
 loc:∃m,s.heap.Ns X.env.locals m/\∀(i:Nat)(x:Str)(v:V),X.N[i]?<*x->σ[i]?<*some v->AQ X.env.scope x->∃u,ad v u/\tH X.env s.heap m x u
 cell:∀x c,X.env.cells.lookup x<*c->∃v,s.heap.IsCell c v
 free:H X.env.locals=none
 freeC:∀x c,X.env.cells.lookup x<*c->H c=none
 pin:∀p∈X.pn++pins,s.heap.get? p.1=some p.2/\H p.1=none/\p.1≠X.env.locals/\p.1∉X.fs/\∀v,p.2.data≠.cell v
 hok:uO X.prog X.w H s.heap
 len:σ.length=X.N.length
section
variable{X:Cx}{pins:List (Addr×Obj)}{σ:List (Option V)}{H H':Hp}{s:Shared}{h':Heap}
theorem Cx.Ok.nofr(ok:X.Ok)(e:X.base.get? b<*o):b∉X.fs:=λa=>by
 have:=(ok.funs.mem a).1;rw[e]at this;cases this
theorem f'.bs(I:f' X pins σ H s):∀b o,X.base.get? b<*o->s.heap.get? b=some o/\H b=none:=λb o e=>
 (I.base.keep b o (I.ok.bs b o e).1 (I.ok.bs b o e).2 (I.ok.nofr e) (I.ok.noex b o e),I.base.free b o (I.ok.bs b o e).1 (I.ok.bs b o e).2 (I.ok.noex b o e))
theorem f'.bk(I:f' X pins σ H s):∀b o,X.base.get? b<*o->s.heap.get? b<*o:=λb o e=>(I.bs b o e).1
theorem f'.mod(I:f' X pins σ H s):Mod X.K X.mg X.base:=I.ok.mod
theorem f'.kIn(I:f' X pins σ H s):X.K.In s.heap:=I.ok.mod.kin.keeps I.bk
theorem f'.lt(I:f' X pins σ H s):X.env.locals<s⁻¹:=let⟨_,a,_⟩:=I.loc;a.lt
theorem f'.sz(I:f' X pins σ H s):X.s₀⁻¹≤s⁻¹:=le_trans I.ok.above (le_of_lt I.lt)
theorem f'.nofs(I:f' X pins σ H s){a:Addr}(h:s⁻¹≤a):a∉X.fs:=λc=>by
 obtain⟨_,o,b,_⟩:=I.ok.funs.mem c;exact absurd (lt_of_lt_of_le (lt_size b) (le_trans I.sz h)) (lt_irrefl _)
theorem f'.cne(I:f' X pins σ H s):∀x c,X.env.cells.lookup x<*c->c≠X.env.locals:=λx c e z=>by
 obtain⟨v,o,d,f⟩:=I.cell x c e;obtain⟨m,⟨g,h,i,a,b,_⟩,_⟩:=I.loc;rw[z,a]at d;cases d;rw[b]at f;cases f
theorem f'.funs(I:f' X pins σ H s):s.heap.FunFrames X.base X.outer:=by
 have all:∀(l:List Env),(∀b∈tf l,b∈X.fs)->X.s₀.heap.FunFrames X.base l->s.heap.FunFrames X.base l:=by
  intro l;induction l with
  |nil=>intro _ _;trivial
  |cons env r g=>
   intro f k;obtain⟨m,⟨L,o,a,j,i,n⟩,h⟩:=k;have d:L∈X.fs:=f L (by unfold tf;rw[List.filterMap_cons,a];exact mem_cons_self);obtain⟨p,e⟩:=I.base.slot L o i (I.ok.frf L d) d λz=>I.ok.exfs L z d;exact(m,(L,_,a,j,e,n),g (λb c=>f b (by unfold tf;rw[List.filterMap_cons,a];exact mem_cons_of_mem _ c)) h)
 exact all X.outer (λ_ c=>c) I.ok.funs
theorem f'.stack(I:f' X pins σ H s):s.heap.FunFrames X.base X.stack:=by
 rcases I.ok.stk with e|⟨e,b⟩
 .rw [e];exact I.funs
 .rw [e];obtain⟨m,a,_⟩:=I.loc;refine .cons (by rw[I.ok.kind];decide) b a ?_ I.funs;exact Heap.get?_none_of_le (le_trans I.ok.bsz I.ok.above)
theorem f'.stkSub(I:f' X pins σ H s):∀b∈tf X.stack,b∈X.env.locals::X.fs:=λb a=>by
 rcases I.ok.stk with e|⟨e,c⟩
 .rw [e]at a;exact mem_cons_of_mem _ a
 .rw [e]at a;unfold tf at a;rw[List.filterMap_cons,c]at a;exact a
theorem f'.stkFree(I:f' X pins σ H s):∀b∈tf X.stack,H b=none:=λb a=>by
 rcases mem_cons.mp (I.stkSub b a)with e|a
 .rw [e];exact I.free
 .obtain ⟨_,o,c,_⟩:=I.ok.funs.mem a;exact I.base.free b o c (I.ok.frf b a) λz=>I.ok.exfs b z a
theorem f'.step{ch:List Addr}(I:f' X pins σ H s)(j:∀b∈ch,(b∈X.ex\/X.s₀⁻¹≤b)/\b≠X.env.locals/\(∀x c,X.env.cells.lookup x<*c->c≠b)/\∀p∈X.pn++pins,p.1≠b)(h:∀b o,b≠X.env.locals->b∉X.fs->b∉ch->s.heap.get? b<*o->H b=none->h'.get? b<*o)(B:∀b o,b≠X.env.locals->b∈X.fs->b∉ch->s.heap.get? b<*o->H b=none->∃P,h'.get? b<*{o with slots:=P})(f:∀b o,b∉ch->s.heap.get? b<*o->H b=none->H' b=none)(C:∀b o,b∉ch->s.heap.get? b<*o->∃J,h'.get? b<*J)(F:∀b xs,H b<*.tup xs->H' b<*.tup xs)(M:∀b o u,H b<*.frz o u->H' b<*.frz o u)(G:∀b ps,H b<*.tbl ps->∃more,H' b<*.tbl (ps++more))(ns:∀m,s.heap.Ns X.env.locals m->h'.Ns X.env.locals m)(Q:uO X.prog X.w H' h')(hg:AllBare g'):f' X pins σ H' {s with heap:=h',gens:=g',drawn:=d',toks:=t'}:=by
 have L:∀b o,X.s₀.heap.get? b<*o->b≠X.env.locals:=λb o e=>ne_of_lt (lt_of_lt_of_le (lt_size e) I.ok.above);have y:∀b o,X.s₀.heap.get? b<*o->b∉X.ex->b∉ch:=λb o e a D=>by
  rcases(j b D).1 with z|z
  .exact a z
  .exact absurd (lt_of_lt_of_le (lt_size e) z) (lt_irrefl _)
 have t:∀x c,X.env.cells.lookup x<*c->∀v,s.heap.IsCell c v->h'.IsCell c v:=λx c e v S=>by
  obtain⟨o,E,R⟩:=S;have g:c∉ch:=λz=>(j c z).2.2.1 x c e rfl;by_cases U:c∈X.fs
  .obtain ⟨P,q⟩:=B c o (I.cne x c e) U g E (I.freeC x c e);exact(_,q,R)
  .exact (o,h c o (I.cne x c e) U g E (I.freeC x c e),R)
 refine(I.ok,I.os,hg,(λb o e n D a=>?_,λb o e n D a=>?_,λb o e n a=>?_,λb o e a=>?_,λb xs e=>F b xs (I.base.tups b xs e),λb o xs e=>M b o xs (I.base.frzs b o xs e),λb ps e=>?_),?_,λx c e=>?_,?_,λx c e=>?_,λp hp=>?_,Q,I.len)
 .exact h b o (L b o e) D (y b o e a) (I.base.keep b o e n D a) (I.base.free b o e n a)
 .obtain ⟨P,A⟩:=I.base.slot b o e n D a;obtain⟨O,N⟩:=B b _ (L b o e) D (y b o e a) A (I.base.free b o e n a);exact(O,N)
 .obtain ⟨J,A⟩:=I.base.there b o e a;exact f b J (y b o e a) A (I.base.free b o e n a)
 .obtain ⟨J,A⟩:=I.base.there b o e a;exact C b J (y b o e a) A
 .obtain ⟨Y,A⟩:=I.base.tbls b ps e;obtain⟨W,N⟩:=G b _ A;exact(Y++W,by rw[N,Array.append_assoc])
 .obtain ⟨m,Z,hl⟩:=I.loc;refine(m,ns m Z,λi x v A N e3=>?_);obtain⟨u,r,l⟩:=hl i x v A N e3;refine(u,r,?_);rcases l with l|⟨k,c,e,z⟩
  .exact .inl l
  .exact .inr (k,c,e,t x c e _ z)
 .obtain ⟨v,z⟩:=I.cell x c e;exact(v,t x c e v z)
 .obtain ⟨m,⟨o,_,_,E,_⟩,_⟩:=I.loc;exact f _ o (λz=>(j _ z).2.1 rfl) E I.free
 .obtain ⟨v,o,E,R⟩:=I.cell x c e;exact f c o (λz=>(j c z).2.2.1 x c e rfl) E (I.freeC x c e)
 .obtain ⟨e,n,T,nf,d⟩:=I.pin p hp;have g:p.1∉ch:=λz=>(j p.1 z).2.2.2 p hp rfl;exact(h p.1 p.2 T nf g e n,f p.1 p.2 g e n,T,nf,d)
theorem f'.un(I:f' X pins σ H s)(u:Un X.fs [] H H' s.heap h')(c:uO X.prog X.w H' h'):f' X pins σ H' {s with heap:=h',toks:=t'}:=by
 obtain⟨m,⟨o,t,v,h,r⟩,_⟩:=id I.loc;obtain⟨l,k⟩:=u.any h I.free (!1);exact I.step (g':=s.gens) (d':=s.drawn) (ch:=[]) (λ_ z=>nomatch z) (λb o _ d _ e n=>u.keep b o e n d (!1)) (λb o _ d _ e n=>u.slot b o e n d (!1)) (λb o _ e n=>u.free b o e n (!1)) (λb o _ e=>u.there b o e (!1)) u.tups u.frzs u.tbls (λq j=>by
  obtain⟨p,f,g,a,i⟩:=j;rw[h]at a;cases a;exact(_,f,g,k,i)) c I.bare
theorem f'.call(I:f' X pins σ H s)(u:Un (tf X.stack) ch H H' s.heap h')(g:uO X.prog X.w H' h')(t:AllBare g')(f:∀b∈ch,(b∈X.ex\/X.s₀⁻¹≤b)/\b≠X.env.locals/\(∀x c,X.env.cells.lookup x<*c->c≠b)/\∀p∈X.pn++pins,p.1≠b):f' X pins σ H' {s with heap:=h',gens:=g',drawn:=d',toks:=t'}:=by
 obtain⟨m,⟨o,C,D,k,r⟩,_⟩:=id I.loc;obtain⟨y,h⟩:=u.any k I.free λz=>(f _ z).2.1 rfl;exact I.step (ch:=ch) f (λb o h v a e n=>u.keep b o e n (λz=>(mem_cons.mp (I.stkSub b z)).elim h v) a) (λb o _ _ a e n=>u.any e n a) (λb o a e n=>u.free b o e n a) (λb o a e=>u.there b o e a) u.tups u.frzs u.tbls (λB q=>by
  obtain⟨A,i,j,d,l⟩:=q;rw[k]at d;cases d;exact(_,i,j,h,l)) g t
theorem f'.turned(I:f' X pins σ H s)(k:∀b o,b≠it->s.heap.get? b<*o->h'.get? b<*o)(h:H it=none)(f:it≠X.env.locals)(h1:it∈X.ex\/X.s₀⁻¹≤it)(h2:∀x c,X.env.cells.lookup x<*c->c≠it)(l:∀p∈X.pn++pins,p.1≠it):f' X pins σ H {s with heap:=h',toks:=t'}:=by
 have d:∀b u,H b<*u->b≠it:=λb u e z=>by rw[z,h]at e;cases e
 refine I.step (g':=s.gens) (d':=s.drawn) (ch:=[it]) (λb j=>?_) (λb o _ _ a e _=>k b o (λz=>a (by simp[z])) e) (λb o _ _ a e _=>(o.slots,k b o (λz=>a (by simp[z])) e)) (λ_ _ _ _ n=>n)
  (λb o a e=>(o,k b o (λz=>a (by simp[z])) e)) (λ_ _ e=>e) (λ_ _ _ e=>e) (λb ps e=>(#[],by rw[e];simp)) (λm i=>?_) (λb u e=>?_) I.bare
 .have e:b=it:=by simpa using j
  subst e;exact(h1,f,h2,l)
 .obtain ⟨o,t,w,g,r⟩:=i;exact(o,t,w,k _ o (Ne.symm f) g,r)
 .refine (I.hok b u e).stay (λc v a q=>k c v ?_ q) (λ_ q=>q) λ_ _ q=>q;rcases a with z|z
  .rw [z];exact d b u e
  .exact d c _ z
theorem f'.tok(I:f' X pins σ H s)(t:Nat):f' X pins σ H {s with toks:=t}:=I.un (h':=s.heap) (t':=t) Un.refl I.hok
theorem f'.kept(I:f' X pins σ H s)(k:∀b u,s.heap.get? b<*u->h'.get? b<*u):f' X pins σ H {s with heap:=h',toks:=t'}:=I.un (Un.kept k) (I.hok.kept k)
theorem f'.laid{a:Addr}(I:f' X pins σ H s)(k:∀b u,s.heap.get? b<*u->h'.get? b<*u)(hp:s⁻¹≤a)(c:uS X.prog X.w (upd H a o) h' a o):f' X pins σ (upd H a o) {s with heap:=h',toks:=t'}:=I.un (Un.laid k hp (I.hok.fresh hp)) (I.hok.laid k hp c)
theorem f'.write(I:f' X pins σ H s)(d:BP (H x))(f:e=x\/H e<*.own x)(k:∀b u,b≠e->s.heap.get? b<*u->h'.get? b<*u)(a:∃u,h'.get? e<*u)(c:uS X.prog X.w (upd H x o) h' x o):f' X pins σ (upd H x o) {s with heap:=h',toks:=t'}:=I.un (Un.write d f k a) (I.hok.write d f k a c)
theorem f'.pins_of(I:f' X pins σ H s)(h:∀p∈a,s.heap.get? p.1=some p.2/\H p.1=none/\p.1≠X.env.locals/\p.1∉X.fs/\∀v,p.2.data≠.cell v):f' X a σ H s:=
 (I.ok,I.os,I.bare,I.base,I.loc,I.cell,I.free,I.freeC,λp hp=>(mem_append.mp hp).elim (λz=>I.pin p (mem_append_left _ z)) (h p),I.hok,I.len)
theorem vr{N:List Str}(c:N.Nodup){i j:Nat}(a:N[i]?<*x)(b:N[j]?<*x):i=j:=by
 obtain⟨h1,e⟩:=l' a;obtain⟨h2,d⟩:=l' b;exact(getElem_inj c).mp (e.trans d.symm)
theorem bS(I:f' X pins σ H s)(hN:X.N.Nodup)(T:X.N[i]?<*x)(B:zd X.env.scope x)(r:ad v u)(h:∀s',f' X pins (σ.set i (some v)) H s'->(∃a,SameBut a s.heap s'.heap/\(a=X.env.locals\/X.env.cells.lookup x<*a))->Q () s')(hf:X.fn x=true\/X.env.scope.names.lookup x<*.local:=by first|exact .inl rfl|exact .inr rfl|assumption):wpAny M A (storeName X.env x u) Q E s:=by
 obtain⟨m,hn,hl⟩:=id I.loc;have U:(X.env.scope.kind==.class||(X.env.scope.kind==.module&&X.env.locals != X.env.globals))=false:=by rw[I.ok.kind];rfl
 have G:i<σ.length:=by rw[I.len];exact(l' T).1
 have P:=I.cne;have g:∀{a:Addr}{h':Heap},(∃o,s.heap.get? a=some o/\H a=none)->SameBut a s.heap h'->uO X.prog X.w H h':=λ{a h'}ha f b ob e=>by
  obtain⟨_,_,C⟩:=ha;refine(I.hok b ob e).stay (λc Z t q=>(f.2 c ?_).trans q) (λ_ q=>q) λ_ _ q=>q;rintro rfl;rcases t with rfl|t
  .rw [C]at e;cases e
  .rw [C]at t;cases t
 rcases B with F|F
 .refine wpAny_storeName_local F hn (λh' ag f=>?_) U;obtain⟨oL,_,_,ab,_⟩:=id hn;refine h _ (I.ok,I.os,I.bare,(λb o e n O B=>?_,λb o e n O B=>?_,I.base.free,λb o e B=>?_,I.base.tups,I.base.frzs,I.base.tbls),(_,ag,λj y v' l D e3=>?_),λy c e=>?_,I.free,I.freeC,λp hp=>?_,g (oL,ab,I.free) f,by simpa using I.len) (_,f,.inl rfl)
  .exact (f.2 b (ne_of_lt (lt_of_lt_of_le (lt_size e) I.ok.above))).trans (I.base.keep b o e n O B)
  .obtain ⟨sl,l⟩:=I.base.slot b o e n O B;exact(sl,(f.2 b (ne_of_lt (lt_of_lt_of_le (lt_size e) I.ok.above))).trans l)
  .obtain ⟨o',l⟩:=I.base.there b o e B;exact(o',(f.2 b (ne_of_lt (lt_of_lt_of_le (lt_size e) I.ok.above))).trans l)
  .by_cases J:j=i
   .subst J;rw[T]at l;cases l;rw[List.getElem?_set_self G]at D;cases D;exact(u,r,.inl (F,!1))
   .rw [List.getElem?_set_ne (Ne.symm J)]at D;obtain⟨u',r',q⟩:=hl j y v' l D e3;refine(u',r',?_);rcases q with⟨k,e⟩|⟨k,c,e,z⟩
    .refine .inl (k,?_);have:y≠x:=λe=>J (vr hN l (e▸T));simp[this,e]
    .exact .inr (k,c,e,z.sameBut f (P y c e))
  .obtain ⟨Z,z⟩:=I.cell y c e;exact(Z,z.sameBut f (P y c e))
  .obtain ⟨e,n,ne,nf,d⟩:=I.pin p hp;exact((f.2 p.1 ne).trans e,n,ne,nf,d)
 .have L:X.fn x=true:=by
   rcases hf with z|z
   .exact z
   .rw [z]at F;cases F
  obtain⟨c,t⟩:=I.ok.has x (.inl F);obtain⟨Z,z⟩:=I.cell x c t;refine wpAny_storeName_cell I.ok.kind F t z (λh' Y f=>?_);obtain⟨oc,S,R⟩:=id z;refine h {s with heap:=h'} (I.ok,I.os,I.bare,(λb o e n O B=>?_,λb o e n O B=>?_,I.base.free,λb o e B=>?_,I.base.tups,I.base.frzs,I.base.tbls),(m,hn.sameBut f (Ne.symm (P x c t)),λj y v' l D e3=>?_),λy c' e=>?_,I.free,I.freeC,λp hp=>?_,g (oc,S,I.freeC x c t) f,by simpa using I.len) (c,f,.inr t)
  .exact (f.2 b (ne_of_lt (lt_of_lt_of_le (lt_size e) (I.ok.cab x c L t)))).trans (I.base.keep b o e n O B)
  .obtain ⟨sl,l⟩:=I.base.slot b o e n O B;exact(sl,(f.2 b (ne_of_lt (lt_of_lt_of_le (lt_size e) (I.ok.cab x c L t)))).trans l)
  .obtain ⟨o',l⟩:=I.base.there b o e B;exact(o',(f.2 b (ne_of_lt (lt_of_lt_of_le (lt_size e) (I.ok.cab x c L t)))).trans l)
  .by_cases J:j=i
   .subst J;rw[T]at l;cases l;rw[List.getElem?_set_self G]at D;cases D;exact(u,r,.inr (.inl F,c,t,Y))
   .rw [List.getElem?_set_ne (Ne.symm J)]at D;obtain⟨u',r',q⟩:=hl j y v' l D e3;refine(u',r',?_);rcases q with q|⟨k,c',e,z'⟩
    .exact .inl q
    .refine .inr (k,c',e,z'.sameBut f ?_);rintro rfl;exact J (vr hN l (I.ok.inj _ _ _ e t▸T))
  .by_cases W:c'=c
   .subst W;exact(_,Y)
   .obtain ⟨w2,z2⟩:=I.cell y c' e;exact(w2,z2.sameBut f W)
  .obtain ⟨e,n,ne,nf,d⟩:=I.pin p hp;refine((f.2 p.1 ?_).trans e,n,ne,nf,d);intro q;rw[q,S]at e;have q':oc=p.2:=Option.some.inj e;exact d Z (by rw[<-q'];exact R)
theorem uX(I:f' X pins σ H s)(d:X.N.Nodup)(b:X.N[i]?<*x)(a:zd X.env.scope x)(r:ad v u)(h:∀s',f' X pins (σ.set i (some v)) H s'->Q () s')(c:X.fn x=true\/X.env.scope.names.lookup x<*.local:=by first|exact .inl rfl|exact .inr rfl|assumption):wpAny M A (storeName X.env x u) Q E s:=
 bS I d b a r (λs' e _=>h s' e) c
theorem f'.call'(I:f' X pins σ H s)(g:s'.os=s.os)(u:Un (tf X.stack) ch H H' s.heap s'.heap)(a:uO X.prog X.w H' s'.heap)(h:AllBare s'.gens)(d:∀b∈ch,(b∈X.ex\/X.s₀⁻¹≤b)/\b≠X.env.locals/\(∀x c,X.env.cells.lookup x<*c->c≠b)/\∀p∈X.pn++pins,p.1≠b):f' X pins σ H' s':=by
 obtain⟨h',g',d',t',f⟩:=s';have e:f=s.os:=g;subst e;exact I.call (g':=g') (t':=t') (d':=d') u a h d
end
abbrev XK:=Value->Option Addr->Hp->Prop
abbrev St:=List (Option V)
abbrev VK:=V->Hp->Prop
abbrev TE:=St->Hp->VK->Prop
abbrev TT:=St->Hp->(Bool->Hp->Prop)->Prop
abbrev TA:=St->Hp->(List V->Hp->Prop)->Prop
structure Ends where
 nx:St->Hp->Prop
 rt:VK
 bk:St->Hp->Prop:=λ_ _=>False
 ct:St->Hp->Prop:=λ_ _=>False
abbrev TS:=Ends->St->Hp->Prop
noncomputable def EP(X:Cx)(pins:List (Addr×Obj))(σ:St)(Q:VK)(u:Value)(s':Shared):Prop:=∃v H',f' X pins σ H' s'/\ad v u/\Q v H'
noncomputable def TP(X:Cx)(pins:List (Addr×Obj))(σ:St)(Q:Bool->Hp->Prop)(b:Bool)(s':Shared):Prop:=∃H',f' X pins σ H' s'/\Q b H'
noncomputable def AP(X:Cx)(pins:List (Addr×Obj))(σ:St)(Q:List V->Hp->Prop)(us:List Value)(s':Shared):Prop:=∃vs H',f' X pins σ H' s'/\ac vs us/\Q vs H'
noncomputable def SP(X:Cx)(pins:List (Addr×Obj))(D:Ends)(f:Flow)(s':Shared):Prop:=
 match f with
 |.next=>∃σ' H',f' X pins σ' H' s'/\D.nx σ' H'
 |.brk=>∃σ' H',f' X pins σ' H' s'/\D.bk σ' H'
 |.cont=>∃σ' H',f' X pins σ' H' s'/\D.ct σ' H'
 |.ret u=>∃v σ' H',f' X pins σ' H' s'/\ad v u/\D.rt v H'
noncomputable def PE(X:Cx)(e:Expr)(t:TE):Prop:=
 ∀(pins:List (Addr×Obj))(s:Shared)(σ:St)(H:Hp)(Q:VK),f' X pins σ H s->t σ H Q->wpAny (model X.prog X.w) X.A (eval e X.env) (EP X pins σ Q) X.xe s
noncomputable def PT(X:Cx)(e:Expr)(t:TT):Prop:=
 ∀(pins:List (Addr×Obj))(s:Shared)(σ:St)(H:Hp)(Q:Bool->Hp->Prop),f' X pins σ H s->t σ H Q->wpAny (model X.prog X.w) X.A (isTrue e X.env (eval e X.env)) (TP X pins σ Q) X.xe s
noncomputable def PW(X:Cx)(e:Expr)(t:TT):Prop:=
 ∀(whole:Sem Value)(pins:List (Addr×Obj))(s:Shared)(σ:St)(H:Hp)(Q:Bool->Hp->Prop),f' X pins σ H s->t σ H Q->wpAny (model X.prog X.w) X.A (isTrue e X.env whole) (TP X pins σ Q) X.xe s
theorem PW.pt(h:PW X e t):PT X e t:=h _
noncomputable def PA(X:Cx)(es:List Expr)(t:TA):Prop:=
 ∀(pos:Pos)(pins:List (Addr×Obj))(s:Shared)(σ:St)(H:Hp)(Q:List V->Hp->Prop),f' X pins σ H s->t σ H Q->wpAny (model X.prog X.w) X.A (spliced (backTo pos (starEach es X.env))) (AP X pins σ Q) X.xe s
noncomputable def PS(X:Cx)(st:Stmt)(t:TS):Prop:=
 ∀(pins:List (Addr×Obj))(s:Shared)(σ:St)(H:Hp)(D:Ends),f' X pins σ H s->t D σ H->wpAny (model X.prog X.w) X.A (exec st X.env) (SP X pins D) X.xe s
noncomputable def vH(X:Cx)(st:List Stmt)(t:TS):Prop:=
 ∀(pins:List (Addr×Obj))(s:Shared)(σ:St)(H:Hp)(D:Ends),f' X pins σ H s->t D σ H->wpAny (model X.prog X.w) X.A (execs st X.env) (SP X pins D) X.xe s
theorem n0{t:Sem c}{Q b:c->Shared->Prop}(h:wpAny M A t Q E s)(d:∀a s,Q a s->b a s):wpAny M A t b E s:=wpAny_mono h d λ_ _ x=>x
section
variable{X:Cx}
noncomputable def aL(i:Nat):TE:=λσ H Q=>∃v,σ[i]?=some (some v)/\Q v H
noncomputable def tC(v:V):TE:=λ_ H Q=>Q v H
theorem qA{pos:Pos}(w:X.N[i]?<*x)(o:AQ X.env.scope x)(g:(x==("__debug__":Str))=false:=by decide)(j:(x==("__classdict__":Str))=false:=by decide):PE X (.Name x pos) (aL i):=by
 intro f s n H Q I h;obtain⟨v,e,h⟩:=h;obtain⟨m,p,t⟩:=I.loc;obtain⟨u,r,l⟩:=t i x v w e o;have d:EP X f n Q u s:=(v,H,I,r,h);rcases l with⟨b,q⟩|⟨b,c,k,a⟩
 .exact wpAny_Name (wpAny_loadName_local I.ok.kind b p q d) g
 .rcases b with b|b
  .exact wpAny_Name (wpAny_loadName_cell I.ok.kind b k a d) g
  .exact wpAny_Name (wpAny_loadName_free I.ok.kind b k a d j) g
theorem c_{i j pos}:PE X (.Constant (.int i) j pos) (tC (.int i)):=λ_ _ _ H _ I h=>wpAny_Constant_int (.int i,H,I.tok _,(_,rfl),h)
theorem vD{b j pos}:PE X (.Constant (.bool b) j pos) (tC (.bl b)):=λ_ _ _ H _ I h=>Constant_bool (.bl b,H,I,rfl,h)
theorem AR{j pos}:PE X (.Constant .none j pos) (tC .non):=λ_ _ _ H _ I h=>Constant_none (.non,H,I,rfl,h)
theorem wH{x j pos}:PE X (.Constant (.str x) j pos) (tC (.str x)):=λ_ _ _ H _ I h=>Calls.Constant_str (.str x,H,I.tok _,(_,rfl),h)
noncomputable def Gl(X:Cx)(x:Str):Prop:=X.env.kindOf x<*.globalImplicit
theorem uB{b:St}(I:f' X a b H s)(d:Gl X x)(c:X.mg x<*u)(h:Q u s)(e:(x==("__debug__":Str))=false:=by decide):wpAny (model X.prog X.w) X.A (eval (.Name x pos) X.env) Q E s:=
 Calls.Name_function_global I.ok.kind d (Calls.loadGlobal_global (by rw[I.ok.glob];exact I.mod.glob.keeps I.bk) c h) e
theorem t5{E:Value->Shared->Prop}{b:St}{pos:Pos}(I:f' X a b H s)(f:Gl X x)(e:X.mg x=none)(c:bootBuiltins x<*u)(h:Q u s)(d:x≠"__name__":=by decide)(g:(x==("__debug__":Str))=false:=by decide):wpAny (model X.prog X.w) X.A (eval (.Name x pos) X.env) Q E s:=by
 obtain⟨i,h1,h2⟩:=I.mod.blt;exact Calls.Name_function_global I.ok.kind f (Calls.loadGlobal_builtin (by rw[I.ok.glob];exact I.mod.glob.keeps I.bk) e (by rw[I.ok.blt];exact h1.keeps I.bk) ((h2 x d).trans c) h) g
theorem xQ(b:Gl X x)(a:X.mg x<*u)(r:ad v u)(c:(x==("__debug__":Str))=false:=by decide):PE X (.Name x pos) (tC v):=
 λ_ _ _ H _ I h=>uB I b a (v,H,I,r,h) c
theorem Ci{pos:Pos}(d:Gl X x)(c:X.mg x=none)(a:bootBuiltins x<*u)(r:ad v u)(b:x≠"__name__":=by decide)(e:(x==("__debug__":Str))=false:=by decide):PE X (.Name x pos) (tC v):=
 λ_ _ _ H _ I h=>t5 I d c a (v,H,I,r,h) b e
variable{a b:Expr}{ta tb:TE}{pos:Pos}
noncomputable def tB(t:TE):TT:=λσ H Q=>t σ H λx H1=>∃c,x=.bl c/\Q c H1
theorem uV(h:PE X e t)(l:∀c,isTrue e X.env c=(do let v <-c;standAt e.pos;holding [v] (truthy v)):=by intro _;rfl):PT X e (tB t):=by
 intro f s i H Q I hw;refine isTrue_plain (n0 (h f s i H _ I hw) λv o g=>?_) (l _);obtain⟨x,n,m,j,k⟩:=g;obtain⟨d,rfl,q⟩:=k;cases j;exact wpAny_truthy_bool (n,m,q)
variable{tA tB':TT}{rest:List Expr}
noncomputable def tV(t u:TT):TT:=λσ H Q=>t σ H λc H1=>if c=true then u σ H1 Q else Q false H1
noncomputable def Fl(t u:TT):TT:=λσ H Q=>t σ H λc H1=>if c=true then Q true H1 else u σ H1 Q
noncomputable def rQ(t:TT):TT:=λσ H Q=>t σ H λc H1=>Q (!c) H1
theorem jm(g:PT X a tA):PW X (.BoolOp .And [a] pos) tA:=by
 intro i d s f H Q I h;refine isTrue_and (n0 (g d s f H Q I h) λc j e=>?_);cases c with
 |true=>exact isTrue_and_nil e
 |false=>exact e
theorem zK(g:PT X a tA):PW X (.BoolOp .Or [a] pos) tA:=by
 intro i d s f H Q I h;refine isTrue_or (n0 (g d s f H Q I h) λc j e=>?_);cases c with
 |false=>exact isTrue_or_nil e
 |true=>exact e
theorem mq(n:PT X a tA)(m:PW X (.BoolOp .And (b::rest) pos) tB'):PW X (.BoolOp .And (a::b::rest) pos) (tV tA tB'):=by
 intro k d s f H Q I h;refine isTrue_and (n0 (n d s f H _ I h) λc l e=>?_);obtain⟨j,i,g⟩:=e;cases c with
 |true=>exact m k d l f j Q i g
 |false=>exact(j,i,g)
theorem wM(n:PT X a tA)(m:PW X (.BoolOp .Or (b::rest) pos) tB'):PW X (.BoolOp .Or (a::b::rest) pos) (Fl tA tB'):=by
 intro k d s f H Q I h;refine isTrue_or (n0 (n d s f H _ I h) λc l e=>?_);obtain⟨j,i,g⟩:=e;cases c with
 |true=>exact(j,i,g)
 |false=>exact m k d l f j Q i g
theorem xE(f:PT X a tA):PT X (.UnaryOp .Not a pos) (rQ tA):=by
 intro d s e H Q I h;exact isTrue_not (f d s e H (λc g=>Q (!c) g) I h)
noncomputable def lW(ta tb:TE):TE:=λσ H Q=>ta σ H λx H1=>∃c,x=.bl c/\if c=true then tb σ H1 Q else Q (.bl false) H1
noncomputable def rP(ta tb:TE):TE:=λσ H Q=>ta σ H λx H1=>∃c,x=.bl c/\if c=true then Q (.bl true) H1 else tb σ H1 Q
noncomputable def pS(ta:TE):TE:=λσ H Q=>ta σ H λx H1=>∃c,x=.bl c/\Q (.bl (!c)) H1
theorem w_{op}(h:PE X a t):PE X (.BoolOp op [a] pos) t:=λc s d H Q I hw=>BoolOp_one (h c s d H Q I hw)
theorem xF(n:PE X a ta)(m:PE X (.BoolOp .And (b::rest) pos) tb):PE X (.BoolOp .And (a::b::rest) pos) (lW ta tb):=by
 intro d s g H Q I h;refine BoolOp_and (n0 (n d s g H _ I h) λv k f=>?_);obtain⟨x,j,i,l,e⟩:=f;obtain⟨c,rfl,e⟩:=e;cases l;refine wpAny_truthy_bool ?_;cases c with
 |true=>exact m d k g j Q i e
 |false=>exact(.bl false,j,i,rfl,e)
theorem jo(n:PE X a ta)(m:PE X (.BoolOp .Or (b::rest) pos) tb):PE X (.BoolOp .Or (a::b::rest) pos) (rP ta tb):=by
 intro d s g H Q I h;refine BoolOp_or (n0 (n d s g H _ I h) λv k f=>?_);obtain⟨x,j,i,l,e⟩:=f;obtain⟨c,rfl,e⟩:=e;cases l;refine wpAny_truthy_bool ?_;cases c with
 |false=>exact m d k g j Q i e
 |true=>exact(.bl true,j,i,rfl,e)
theorem bB(j:PE X a ta):PE X (.UnaryOp .Not a pos) (pS ta):=by
 intro d s g H Q I h;refine UnaryOp_ (n0 (j d s g H _ I h) λv m f=>?_);obtain⟨x,l,k,i,e⟩:=f;obtain⟨c,rfl,e⟩:=e;cases i;exact not_of (wpAny_truthy_bool (.bl (!c),l,k,rfl,e))
noncomputable def Fn(t:TT)(ta tb:TE):TE:=λσ H Q=>t σ H λc H1=>if c=true then ta σ H1 Q else tb σ H1 Q
theorem mD(m:PT X c tA)(o:PE X a ta)(n:PE X b tb):PE X (.IfExp c a b pos) (Fn tA ta tb):=by
 intro e s f H Q I h;refine wpAny_IfExp (n0 (m e s f H _ I h) λd i g=>?_);obtain⟨l,k,j⟩:=g;cases d with
 |true=>exact o e i f l Q k j
 |false=>exact n e i f l Q k j
end
noncomputable def lb(K:Frag)(H:Hp)(a:Addr)(xs:List V):Prop:=
 Rd H a (.lst xs) \/
  ∃(o:Obj)(its:Array Value)(n:Nat),K.lookup a=some o/\o.cls=.type "list"/\o.dict=none/\o.data=.seq its n/\its.size≤sizeLine/\ac xs its.toList
noncomputable def pa(K:Frag)(H:Hp)(a:Addr)(xs:List V):Prop:=
 Rd H a (.tup xs) \/
  ∃(o:Obj)(its:Array Value)(n:Nat),K.lookup a=some o/\o.cls=.type "tuple"/\o.data=.seq its n/\its.size≤sizeLine/\ac xs its.toList
noncomputable def ux:Value->Option V
 |.none=>some .non
 |.bool b=>some (.bl b)
 |.int i _=>some (.int i)
 |.str x _=>some (.str x)
 |.bytes b _=>some (.byt b)
 |.float b _=>some (.flt b)
 |.ref a=>some (.ref a)
 |.type n=>some (.ty n)
 |_=>none
theorem ad.abs(r:ad x u):ux u<*x:=by
 cases x with
 |non=>cases r;rfl
 |bl _=>cases r;rfl
 |int _=>obtain⟨t,rfl⟩:=r;rfl
 |str _=>obtain⟨t,rfl⟩:=r;rfl
 |byt _=>obtain⟨t,rfl⟩:=r;rfl
 |flt _=>obtain⟨t,rfl⟩:=r;rfl
 |ref _=>cases r;rfl
 |ty _=>cases r;rfl
theorem ad.inj(r:ad x u)(q:ad y u):x=y:=Option.some.inj (r.abs.symm.trans q.abs)
theorem ac.inj:∀{xs ys:List V}{a:List Value},ac xs a->ac ys a->xs=ys
 |_,_,_,.nil,.nil=>rfl
 |_,_,_,.cons r t,.cons b t'=>by rw[r.inj b,ac.inj t t']
section
variable{X:Cx}{pins:List (Addr×Obj)}{σ:St}{H:Hp}{s:Shared}{a:Addr}{xs ys:List V}
theorem lb.of{K:Frag}(h:H a<*.lst xs):lb K H a xs:=.inl (.inl h)
theorem pa.of{K:Frag}(h:H a<*.tup xs):pa K H a xs:=.inl (.inl h)
theorem f'.list(I:f' X pins σ H s)(h:lb X.K H a xs):∃b:List Value,ac xs b/\PlainL s.heap a b.toArray/\xs.length≤sizeLine:=by
 rcases h with h|⟨o,b,n,d,g,f,c,hz,r⟩
 .obtain ⟨z,b,n,r,e⟩:=h.ok I.hok;exact(b,r,(_,n,e,rfl,rfl,rfl),z)
 .refine (b.toList,r,(o,n,I.kIn a o d,g,f,by simpa using c),?_);have e:=r.length;simp only[length_toList]at e;lia
theorem f'.tuple(I:f' X pins σ H s)(h:pa X.K H a xs):∃b:List Value,ac xs b/\IsTup s.heap a b.toArray/\xs.length≤sizeLine:=by
 rcases h with h|⟨o,b,n,d,f,c,hz,r⟩
 .obtain ⟨z,b,r,p⟩:=h.ok I.hok;exact(b,r,p,z)
 .refine (b.toList,r,(o,I.kIn a o d,f,n,by simpa using c),?_);have e:=r.length;simp only[length_toList]at e;lia
theorem f'.list_inj(I:f' X pins σ H s)(h:lb X.K H a xs)(h':lb X.K H a ys):xs=ys:=by
 obtain⟨b,r,⟨o,n,e,_,_,d⟩,_⟩:=I.list h;obtain⟨its',c,⟨f,g,e',_,_,d'⟩,_⟩:=I.list h';rw[e]at e';cases e';rw[d]at d';injection d' with d1 _;have:b=its':=by simpa using congrArg Array.toList d1
 subst this;exact r.inj c
theorem f'.tuple_inj(I:f' X pins σ H s)(h:pa X.K H a xs)(h':pa X.K H a ys):xs=ys:=by
 obtain⟨b,r,⟨o,e,_,n,d⟩,_⟩:=I.tuple h;obtain⟨its',c,⟨f,e',_,g,d'⟩,_⟩:=I.tuple h';rw[e]at e';cases e';rw[d]at d';injection d' with d1 _;have:b=its':=by simpa using congrArg Array.toList d1
 subst this;exact r.inj c
end
abbrev Cx.wish(X:Cx)(E:Value->Shared->Prop):Cx:={X with xe:=E}
abbrev Cx.nox(X:Cx):Cx:=X.wish λ_ _=>False
theorem Cx.Ok.wish{X:Cx}(ok:X.Ok)(E:Value->Shared->Prop):(X.wish E).Ok:=
 (ok.mod,ok.kind,ok.glob,ok.blt,ok.above,ok.inj,ok.has,ok.cab,ok.hd,ok.frames,ok.stk,ok.exf,ok.bs,ok.bsz,ok.noex,ok.exfs,ok.funs,ok.frf)
theorem Cx.Ok.unwish{X:Cx}(ok:(X.wish E).Ok):X.Ok:=
 (ok.mod,ok.kind,ok.glob,ok.blt,ok.above,ok.inj,ok.has,ok.cab,ok.hd,ok.frames,ok.stk,ok.exf,ok.bs,ok.bsz,ok.noex,ok.exfs,ok.funs,ok.frf)
section
variable{X:Cx}{pins:List (Addr×Obj)}{σ:St}{H:Hp}{s:Shared}{E:Value->Shared->Prop}
theorem f'.wish(I:f' X pins σ H s)(E:Value->Shared->Prop):f' (X.wish E) pins σ H s:=(I.ok.wish E,I.os,I.bare,I.base,I.loc,I.cell,I.free,I.freeC,I.pin,I.hok,I.len)
theorem f'.unwish(I:f' (X.wish E) pins σ H s):f' X pins σ H s:=(I.ok.unwish,I.os,I.bare,I.base,I.loc,I.cell,I.free,I.freeC,I.pin,I.hok,I.len)
theorem SP.unwish(h:SP (X.wish E) pins D f s'):SP X pins D f s':=by
 cases f with
 |next=>obtain⟨a,H',I,q⟩:=h;exact(a,H',I.unwish,q)
 |brk=>obtain⟨a,H',I,q⟩:=h;exact(a,H',I.unwish,q)
 |cont=>obtain⟨a,H',I,q⟩:=h;exact(a,H',I.unwish,q)
 |ret u=>obtain⟨v,a,H',I,r,q⟩:=h;exact(v,a,H',I.unwish,r,q)
theorem vH.nox{st:List Stmt}(h:vH X.nox st t):vH X st t:=λpins s σ H D I hw=>
 wpAny_mono (h pins s σ H D (I.wish _) hw) (λ_ _ q=>q.unwish) λ_ _ z=>False.elim z
end
section
variable{X:Cx}{st:Stmt}{rest:List Stmt}{t u:TS}{e:Expr}{te:TE}{pos:Pos}
noncomputable def tNext:TS:=λD σ H=>D.nx σ H
noncomputable def aF(t u:TS):TS:=λD σ H=>t {D with nx:=u D} σ H
theorem t6:vH X [] tNext:=λ_ _ a H _ I h=>wpAny_execs_nil (a,H,I,h)
theorem j3(h1:PS X st t)(h2:vH X rest u):vH X (st::rest) (aF t u):=by
 intro a s c H D I h;refine wpAny_execs_cons (n0 (h1 a s c H {D with nx:=u D} I h) λf d q=>?_);cases f with
 |next=>
  obtain⟨b,H',g,q⟩:=q;exact h2 a d b H' D g q
 |ret v=>exact q
 |brk=>exact q
 |cont=>exact q
theorem kd(h1:PS X st t):vH X [st] t:=by
 intro a s b H D I h;refine wpAny_execs_cons (n0 (h1 a s b H D I h) λf c q=>?_);cases f with
 |next=>exact wpAny_execs_nil q
 |ret v=>exact q
 |brk=>exact q
 |cont=>exact q
noncomputable def tBreak:TS:=λD σ H=>D.bk σ H
theorem fo:PS X (.Break pos) tBreak:=λ_ _ a H _ I h=>wpAny_Break (a,H,I,h)
theorem f'.quiet{b:St}(I:f' X a b H s):interactive X.env=false:=by simp[interactive,I.ok.kind]
noncomputable def rX(te:TE):TS:=λD σ H=>te σ H λ_ H1=>D.nx σ H1
theorem vI(g:PE X e te)(f:swapsWith e none pos.line X.env=pure false:=by rfl):PS X (.Expr e pos) (rX te):=by
 intro a s c H D I h;exact wpAny_Expr_any (n0 (g a s c H _ I h) λv k b=>by obtain⟨x,j,i,l,d⟩:=b;exact(c,j,i,d)) I.quiet f
noncomputable def eX(te:TE):TS:=λD σ H=>te σ H D.rt
theorem n6(g:PE X e te):PS X (.Return (some e) pos) (eX te):=by
 intro a s c H D I h;exact wpAny_Return_some (n0 (g a s c H _ I h) λv k b=>by obtain⟨x,j,i,d,f⟩:=b;exact(x,c,j,i,d,f))
noncomputable def rT(c:TT)(t u:TS):TS:=λD σ H=>c σ H λb H1=>if b=true then t D σ H1 else u D σ H1
theorem t_(n:PT X c tc)(p:vH X a t)(o:vH X b u):PS X (.If c a b pos) (rT tc t u):=by
 intro f s g H D I h;refine wpAny_If (n0 (n f s g H _ I h) λd j i=>?_);obtain⟨m,l,k⟩:=i;cases d with
 |true=>exact p f j g m D l k
 |false=>exact o f j g m D l k
noncomputable def tNever:TS:=λ_ _ _=>False
theorem ms:PS X st tNever:=λ_ _ _ _ _ _ h=>h.elim
end
abbrev TG:=V->St->Hp->(St->Hp->Prop)->Prop
abbrev TGs:=List V->St->Hp->(St->Hp->Prop)->Prop
noncomputable def PG(X:Cx)(target:Expr)(t:TG):Prop:=
 ∀(pins:List (Addr×Obj))(s:Shared)(σ:St)(H:Hp)(v:V)(u:Value)(Q:St->Hp->Prop),f' X pins σ H s->ad v u->t v σ H Q->
  wpAny (model X.prog X.w) X.A (assign target X.env u) (λ_ s'=>∃σ' H',f' X pins σ' H' s'/\Q σ' H') X.xe s
noncomputable def Cj(X:Cx)(ts:List Expr)(t:TGs):Prop:=
 ∀(pins:List (Addr×Obj))(s:Shared)(σ:St)(H:Hp)(vs:List V)(us:List Value)(Q:St->Hp->Prop),f' X pins σ H s->ac vs us->t vs σ H Q->
  wpAny (model X.prog X.w) X.A (assignInOrder ((assignEach ts X.env).map (·.2)) us) (λ_ s'=>∃σ' H',f' X pins σ' H' s'/\Q σ' H') X.xe s
abbrev TSet:=V->V->V->Hp->(Hp->Prop)->Prop
noncomputable def pN(X:Cx)(t:TSet):Prop:=
 ∀(pins:List (Addr×Obj))(s:Shared)(σ:St)(H:Hp)(o i v:V)(ov iv u:Value)(Q:Hp->Prop),f' X pins σ H s->ad o ov->ad i iv->ad v u->t o i v H Q->
  wpAny (model X.prog X.w) X.A (setItem ov iv u) (λ_ s'=>∃H',f' X pins σ H' s'/\Q H') X.xe s
section
variable{X:Cx}{pos:Pos}
noncomputable def vW(i:Nat):TG:=λv σ H Q=>Q (σ.set i (some v)) H
theorem BQ(e:X.N.Nodup)(c:X.N[i]?<*x)(b:zd X.env.scope x)(d:X.fn x=true\/X.env.scope.names.lookup x<*.local:=by first|exact .inl rfl|exact .inr rfl|assumption):PG X (.Name x pos) (vW i):=by
 intro a s g H v u Q I r h;exact wpAny_assign_Name (uX I e c b r (λs' f=>(_,H,f,h)) d)
noncomputable def gNil:TGs:=λvs σ H Q=>vs=[]/\Q σ H
noncomputable def nw(t:TG)(u:TGs):TGs:=λvs σ H Q=>∃v r,vs=v::r/\t v σ H λσ' H'=>u r σ' H' Q
theorem Ck:Cj X [] gNil:=by
 intro a s b H c d Q I r h;obtain⟨e,h⟩:=h;subst e;cases r;exact assignInOrder_nil (b,H,I,h)
theorem Az(h1:PG X e t)(h2:Cj X d u)(k:(assignEach (e::d) X.env).map (·.2)=assign e X.env::(assignEach d X.env).map (·.2):=by rfl):Cj X (e::d) (nw t u):=by
 intro a s f H o q Q I r h;obtain⟨v,p,l,h⟩:=h;subst l;cases r with
 |cons r i=>
  rw[k];refine assignInOrder_cons (n0 (h1 a s f H _ _ _ I r h) λ_ g c=>?_);obtain⟨b,n,m,j⟩:=c;exact h2 a g b n _ _ Q m i j
noncomputable def sV(K:Frag)(n:Nat)(t:TGs):TG:=λv σ H Q=>∃a xs,v=.ref a/\pa K H a xs/\xs.length=n/\t xs σ H Q
theorem wo{k:Nat}(x:X.calm=true)(h:Cj X f t)(q:(assignEach f X.env).length=n:=by rfl)(d:(assignEach f X.env).findIdx? (·.1)=none:=by rfl):PG X (.Tuple f k pos) (sV X.K n t):=by
 intro c s g H v u Q I r hw;obtain⟨a,xs,y,p,w,hw⟩:=hw;subst y;cases r;obtain⟨j,i,m,hz⟩:=I.tuple p;refine assign_Tuple_tuple (I.ok.hd x) m (by simp[q,<-w,i.length]) d λh' l=>?_;have z:f' X c g H {s with heap:=h'}:=I.kept (t':=s.toks) λb o e=>l b o (ne_of_lt (lt_size e)) e;exact h c _ g H xs _ Q z (by simpa using i) hw
noncomputable def uo(to ti:TE)(t:TSet):TG:=λv σ H Q=>to σ H λo H1=>ti σ H1 λi H2=>t o i v H2 λH3=>Q σ H3
theorem vM(z:PE X o to)(A:PE X i j)(w:pN X t)(B:∀v,assign (.Subscript o i pos) X.env v=(do
   let b <-holding [v] (eval o X.env)
   let c <-holding [v,b] (eval i X.env)
   standAt pos
   holding [v,b,c] (setItem b c v)
   release [v,b,c] []):=by intro _;rfl):PG X (.Subscript o i pos) (uo to j t):=by
 intro a s d H v u Q I r h;rw[B];refine d_ (wpAny_holding (n0 (z a s d H _ I h) λb k g=>?_));obtain⟨x,J,E,m,q⟩:=g;refine d_ (wpAny_holding (n0 (A a k d J _ E q) λc s2 f=>?_));obtain⟨y,G,D,l,p⟩:=f;refine d_ (wpAny_standAt (d_ (wpAny_holding (n0 (w a s2 d G x y v b c u _ D m l r p) λ_ L e=>?_))));obtain⟨F,C,n⟩:=e;exact wpAny_release (d,F,C,n)
noncomputable def aD(te:TE)(g:TG):TS:=λD σ H=>te σ H λx H1=>g x σ H1 D.nx
theorem Bb(n:PE X e f)(m:PG X b g)(l:swapsWithSole [b] e pos.line X.env=pure false:=by rfl)(hw:swappedStores [b] e X.env=pure none:=by rfl)(h1:(assignEach [b] X.env).map (·.2)=[assign b X.env]:=by rfl):PS X (.Assign [b] e pos) (aD f g):=by
 intro a s d H D I h;refine wpAny_Assign_stores (n0 (n a s d H _ I h) λv i c=>?_) l hw;obtain⟨x,p,o,j,k⟩:=c;rw[h1];exact n0 (m a i d p x v _ o j k) λ_ s2 q=>q
theorem qy(p:X.N.Nodup)(m:X.N[i]?<*x)(k:zd X.env.scope x)(o:PE X e f)(l:swapsWith e (some (.Name x a)) pos.line X.env=pure false:=by rfl)(n:X.fn x=true\/X.env.scope.names.lookup x<*.local:=by first|exact .inl rfl|exact .inr rfl|assumption):PS X (.Assign [.Name x a] e pos) (aD f (vW i)):=by
 intro b s d H D I h;refine wpAny_Assign_Name (n0 (o b s d H _ I h) λv u c=>?_) l;obtain⟨y,t,r,g,j⟩:=c;exact uX r p m k g (λs2 q=>(_,t,q,j)) n
noncomputable def qo(c:TT)(tb:TS):TS:=λD σ H=>∃W:Nat->St->Hp->Prop,(∃m,W m σ H)/\∀m σ H,W m σ H->
 c σ H λb H1=>if b=true then ∃N:St->Hp->Prop,(∀σ' H',N σ' H'->∃m',m'<m/\W m' σ' H')/\tb {D with nx:=N,ct:=N,bk:=D.nx} σ H1 else D.nx σ H1
theorem fj(hp:PassesOwn (model X.prog X.w) X.A X.env X.xe)(M:PT X c tc)(O:vH X j G):PS X (.While c j [] pos) (qo tc G):=by
 intro d s C H D I h;obtain⟨W,⟨L,F⟩,i⟩:=h;refine wpAny_While (codeAny_whileLoop (λn s'=>∃g H',f' X d g H' s'/\W n g H') ?_ L (C,H,I,F));rintro n J⟨e,B,P,E⟩;refine wpAny_passesOwn hp (n0 (M d J e B _ P (i n e B E)) λb s2 t=>?_);obtain⟨z,y,m⟩:=t;cases b with
 |true=>
  obtain⟨N,x,m⟩:=m;rw[if_pos rfl];refine wpAny_passesOwn hp (n0 (O d s2 e z _ y m) λf Q l=>?_);cases f with
  |next=>
   obtain⟨a,k,u,p⟩:=l;obtain⟨q,r,o⟩:=x a k p;exact(q,r,a,k,u,o)
  |cont=>
   obtain⟨a,k,u,p⟩:=l;obtain⟨q,r,o⟩:=x a k p;exact(q,r,a,k,u,o)
  |brk=>exact l
  |ret v=>exact l
 |false=>
  rw[if_neg Bool.false_ne_true];exact wpAny_execs_nil (e,z,y,m)
end
structure It where
 go:Nat->Hp->Prop
 yld:Nat->Hp->V->Hp->Prop
 stop:Nat->Hp->Prop
noncomputable def aY(X:Cx)(pins:List (Addr×Obj))(H:Hp)(b:Addr):Prop:=
 H b=none/\b≠X.env.locals/\b∉X.fs/\(b∈X.ex\/X.s₀⁻¹≤b)/\(∀x c,X.env.cells.lookup x<*c->c≠b)/\∀p∈X.pn++pins,p.1≠b
theorem f'.fpOk{f:St}{b:Addr}(I:f' X a f H s)(d:s⁻¹≤b)(g:H' b=none):aY X a H' b:=by
 refine(g,ne_of_gt (lt_of_lt_of_le I.lt d),I.nofs d,.inr (le_trans I.sz d),λx c e z=>?_,λp hp z=>?_)
 .obtain ⟨v,q⟩:=I.cell x c e;exact absurd (lt_of_lt_of_le q.lt (by rw[z];exact d)) (lt_irrefl _)
 .exact absurd (lt_of_lt_of_le (lt_size (I.pin p hp).1) (by rw[z];exact d)) (lt_irrefl _)
structure bP(P:Program)(w:World)(K:Frag)(tg:Expr)(J:It)(fp:List Addr)(it:Addr)(tn:Nat->Heap->Prop):Prop where
 mem:it∈fp
 obj:∀i h,tn i h->∀b∈fp,∃o,h.get? b=some o/\∀v,o.data≠.cell v
 keep:∀i h h',tn i h->(∀b∈fp,∀o,h.get? b<*o->h'.get? b<*o)->tn i h'
 item:∀(X:Cx),X.prog=P->X.w=w->X.K=K->X.calm=true->∀(i:Nat)(pins:List (Addr×Obj))(s:Shared)(σ:St)(H:Hp)(E:Value->Shared->Prop),f' X pins σ H s->(∀b∈fp,aY X pins H b)->tn i s.heap->J.go i H->
  wpAny (model P w) X.A (pyNext (.ref it)) (λr s1=>∃u,r=some u/\
   wpAny (model P w) X.A (letOwnedTupleGo tg (.ref it) u) (λ_ s2=>∃x H',f' X pins σ H' s2/\ad x u/\J.yld i H x H'/\tn (i+1) s2.heap/\∀b∈fp,H' b=none) E s1) E s
 done:∀(X:Cx),X.prog=P->X.w=w->X.K=K->X.calm=true->∀(i:Nat)(pins:List (Addr×Obj))(s:Shared)(σ:St)(H:Hp)(E:Value->Shared->Prop),f' X pins σ H s->(∀b∈fp,aY X pins H b)->tn i s.heap->J.stop i H->
  wpAny (model P w) X.A (pyNext (.ref it)) (λr s1=>r=none/\f' X pins σ H s1) E s
 self:∀(A:Around)(i:Nat)(s:Shared)(Q:Value->Shared->Prop)(E:Value->Shared->Prop),tn i s.heap->Q (.ref it) s->wpAny (model P w) A (pyIter (.ref it)) Q E s
abbrev TI:=St->Hp->(It->Hp->Prop)->Prop
noncomputable def De(X:Cx)(pins:List (Addr×Obj))(σ:St)(tg:Expr)(R:It->Hp->Prop)(itv:Value)(s2:Shared):Prop:=
 ∃(it:Addr)(fp:List Addr)(tn:Nat->Heap->Prop)(J:It)(H':Hp),itv=.ref it/\f' X pins σ H' s2/\bP X.prog X.w X.K tg J fp it tn/\tn 0 s2.heap/\(∀b∈fp,aY X pins H' b)/\R J H'
noncomputable def PI(X:Cx)(tg iter:Expr)(wi:TI):Prop:=
 ∀(pins:List (Addr×Obj))(s:Shared)(σ:St)(H:Hp)(R:It->Hp->Prop),f' X pins σ H s->wi σ H R->
  wpAny (model X.prog X.w) X.A (eval iter X.env) (λv s1=>wpAny (model X.prog X.w) X.A (pyIter v) (De X pins σ tg R) X.xe s1) X.xe s
theorem cE{M:Model}{A:Around}(d:s.heap.get? it<*o)(g:o.cls=.type n)(f:o.data=.fields b)(e:["enumerate","zip","dict_itemiterator","dict_reverseitemiterator","odict_iterator","itertools.zip_longest","itertools.pairwise"].contains n=false)(a:Q () s):wpAny M A (letOwnedTupleGo c (.ref it) u) Q E s:=by
 unfold letOwnedTupleGo;cases c<;>first
  |exact j2 a
  | (cases u<;>first
    |exact j2 a
    | (refine d_ (wpAny_load d ?_)
       rw[g,f];show wpAny M A (if (["enumerate","zip","dict_itemiterator","dict_reverseitemiterator","odict_iterator","itertools.zip_longest","itertools.pairwise"].contains n&&b[0]?==some (rawInt _))=true then _ else _) Q E s;rw[if_neg (by intro h;rw[e,Bool.false_and]at h;cases h)];exact j2 a))
noncomputable def EE(K:Frag)(a:Addr):It:=
 ⟨λi H=>∃xs x,lb K H a xs/\xs[i]?<*x,λi H x H'=>H'=H/\∀xs,lb K H a xs->xs[i]?<*x,λi H=>∃xs,lb K H a xs/\xs.length≤i⟩
noncomputable def Bc(K:Frag)(a:Addr):It:=
 ⟨λi H=>∃xs x,pa K H a xs/\xs[i]?<*x,λi H x H'=>H'=H/\∀xs,pa K H a xs->xs[i]?<*x,λi H=>∃xs,pa K H a xs/\xs.length≤i⟩
noncomputable def zL(lo:Int)(n:Nat):It:=(λi _=>i<n,λi H x H'=>H'=H/\x=.int (lo+i),λi _=>n≤i)
theorem jY{K:Frag}(a it:Addr):bP P w K U (EE K a) [it] it (λi h=>h.IsListIter it a i)  where
 mem:=by simp
 obj:=λi h st b g=>by
  have e:b=it:=by simpa using g
  subst e;obtain⟨o,e,c,d⟩:=st;exact(o,e,λv z=>by rw[d]at z;cases z)
 keep:=λi h h' st k=>st.at λo e=>k it (!1) o e
 item:=by
  intro X y hw A L i f s J H E I m st t;subst y hw A;obtain⟨xs,x,l,r⟩:=t;obtain⟨q,n,p,hz⟩:=I.list l;obtain⟨u,Q,N⟩:=n.get r;obtain⟨G,F,R,D,C,B⟩:=m it (!1);refine wpAny_pyNext_list_item st p.isList (x:=u) (by simpa using Q) λh' j M=>?_;have T:f' X f J H {s with heap:=h'}:=I.turned (t':=s.toks) (λb o g e=>(M.2 b g).trans e) G F D C B;obtain⟨o,e,c,d⟩:=id j;exact(u,rfl,cE (s:={s with heap:=h'}) e c d (!0) (x,H,T,N,(rfl,λys O=>by rw[I.list_inj O l];exact r),j,λb g=>(m b g).1))
 done:=by
  intro X y hw A L i f s J H E I m st t;subst y hw A;obtain⟨xs,l,r⟩:=t;obtain⟨q,n,p,hz⟩:=I.list l;obtain⟨G,F,R,D,C,B⟩:=m it (!1);have W:=n.length;exact wpAny_pyNext_list_end (I.ok.hd L) st p.isList (by simp;lia) λh' S=>(rfl,I.turned (t':=s.toks) (λb o g e=>S b o g e) G F D C B)
 self:=λ_ _ _ _ _ st h=>wpAny_pyIter_listiter st h
theorem EF{K:Frag}(a it:Addr):bP P w K U (Bc K a) [it] it (λi h=>h.IsTupleIter it a i)  where
 mem:=by simp
 obj:=λi h st b j=>by
  have e:b=it:=by simpa using j
  subst e;obtain⟨o,e,c,d⟩:=st;exact(o,e,λv z=>by rw[d]at z;cases z)
 keep:=λi h h' st k=>st.at λo e=>k it (!1) o e
 item:=by
  intro X y hw A L i f s J H E I n st t;subst y hw A;obtain⟨xs,x,m,r⟩:=t;obtain⟨g,q,p,hz⟩:=I.tuple m;obtain⟨u,Q,N⟩:=q.get r;obtain⟨G,F,R,D,C,B⟩:=n it (!1);refine wpAny_pyNext_tuple_item st (show s.heap.IsTuple a g.toArray from p) (x:=u) (by simpa using Q) λh' l M=>?_;have T:f' X f J H {s with heap:=h'}:=I.turned (t':=s.toks) (λb o j e=>(M.2 b j).trans e) G F D C B;obtain⟨o,e,c,d⟩:=id l;exact(u,rfl,cE (s:={s with heap:=h'}) e c d (!0) (x,H,T,N,(rfl,λys O=>by rw[I.tuple_inj O m];exact r),l,λb j=>(n b j).1))
 done:=by
  intro X y hw A L i f s J H E I n st t;subst y hw A;obtain⟨xs,m,r⟩:=t;obtain⟨g,q,p,hz⟩:=I.tuple m;obtain⟨G,F,R,D,C,B⟩:=n it (!1);have W:=q.length;exact wpAny_pyNext_tuple_end (I.ok.hd L) st (show s.heap.IsTuple a g.toArray from p) (by simp;lia) λh' S=>(rfl,I.turned (t':=s.toks) (λb o j e=>S b o j e) G F D C B)
 self:=λ_ _ _ _ _ st h=>wpAny_pyIter_tupleiter st h
theorem hJ{K:Frag}(it:Addr)(lo:Int)(n:Nat):bP P w K L (zL lo n) [it] it (λi h=>IsRangeIter h it (lo+(i:Nat)*1) ((n:Int)-(i:Nat)) 1)  where
 mem:=by simp
 obj:=λi h st b c=>by
  have e:b=it:=by simpa using c
  subst e;exact(_,st,λv z=>by
   have B:Data.fields _=Data.cell v:=z;cases B)
 keep:=λi h h' st k=>k it (!1) _ st
 item:=by
  intro X l hw m j i a s y H E I f st g;subst l hw m;obtain⟨x,u,F,r,q,p⟩:=f it (!1);have W:=Walks.range (prog:=X.prog) (w:=X.w) (I.ok.hd j) it lo 1 n;refine W.item i s _ _ g st λv h' A D d C=>?_;obtain⟨t,rfl⟩:=D;have J:f' X a y H {s with heap:=h',toks:=A}:=I.turned (λb o c e=>C b o (by simpa using c) e) x u r q p;refine(_,rfl,cE (s:={s with heap:=h',toks:=A}) (n:="range_iterator") d rfl rfl (!0) (.int (lo+i),H,J,(t,?_),(rfl,rfl),d,λb c=>(f b c).1));rw[Int.mul_one]
 done:=by
  intro X l hw m j i a s y H E I f st g;subst l hw m;obtain⟨x,u,F,r,q,p⟩:=f it (!1);exact wpAny_pyNext_range_end (I.ok.hd j) st (by have:n≤i:=g;lia) λh' G=>(rfl,I.turned (t':=s.toks) (λb o c e=>G b o c e) x u r q p)
 self:=λ_ _ _ _ _ st h=>wpAny_pyIter_rangeiter st h
section
variable{X:Cx}{tg:Expr}
noncomputable def ul(K:Frag)(tl:TE):TI:=λσ H R=>tl σ H λx H1=>∃a,x=.ref a/\(∃xs,pa K H1 a xs)/\R (Bc K a) H1
theorem mz(t:PE X l k):PI X tg l (ul X.K k):=by
 intro d s j H R I h;refine n0 (t d s j H _ I h) λv c i=>?_;obtain⟨x,w,f,m,n⟩:=i;obtain⟨a,e,⟨xs,r⟩,q⟩:=n;subst e;cases m;obtain⟨g,y,p,hz⟩:=f.tuple r;refine wpAny_pyIter_tuple (show c.heap.IsTuple a g.toArray from p) ?_;refine(c⁻¹,[c⁻¹],_,_,w,rfl,f.kept (t':=c.toks) λb o e=>nb _ e,EF a _,(_,get?_push_size _ rfl,rfl,rfl),λb u=>?_,q);have e:b=c⁻¹:=by simpa using u
 subst e;exact f.fpOk (le_refl _) (f.hok.fresh (le_refl _))
theorem fi{d:St}{lo a:Int}(I:f' X c d H s)(h1:-(2^62)≤lo)(h2:lo<2^62)(j:-(2^62)≤a)(i:a<2^62)(q:R (zL lo (a-lo).toNat) H):wpAny (model X.prog X.w) X.A (pyIter (.ref s⁻¹)) (De X c d tg R) E {s with heap:=s.heap.push {cls:=.type "range",data:=.fields #[.int lo t,.int a u,.int 1 v]},toks:=g}:=by
 refine wpAny_pyIter_range (IsRange.new ..) (small_one h1 h2 j i) ?_;have f:f' X c d H {s with heap:=s.heap.push {cls:=.type "range",data:=.fields #[.int lo t,.int a u,.int 1 v]},toks:=g}:=I.kept λb o e=>nb _ e;refine((s.heap.push {cls:=.type "range",data:=.fields #[.int lo t,.int a u,.int 1 v]}).objs.size,[(s.heap.push {cls:=.type "range",data:=.fields #[.int lo t,.int a u,.int 1 v]}).objs.size],_,_,H,rfl,
  f.kept (t':=g) λb o e=>nb _ e,hJ _ lo (a-lo).toNat,?_,λb h=>?_,q)
 .have l:lo+((0:Nat):Int)*1=lo:=by simp
  have k:(((a-lo).toNat:Nat):Int)-((0:Nat):Int)=Builtin.Range.rangeSize lo a 1:=by rw[rangeSize_one];split<;>lia
  show IsRangeIter _ _ (lo+((0:Nat):Int)*1) ((((a-lo).toNat:Nat):Int)-((0:Nat):Int)) 1;rw[l,k];exact get?_push_size _ rfl
 .have e:b=(s.heap.push {cls:=.type "range",data:=.fields #[.int lo t,.int a u,.int 1 v]}).objs.size:=by simpa using h
  subst e;exact f.fpOk (le_refl _) (f.hok.fresh (le_refl _))
noncomputable def p5(ta:TA):TI:=λσ H R=>ta σ H λvs H1=>∃j:Int,vs=[.int j]/\-(2^62)≤j/\j<2^62/\R (zL 0 j.toNat) H1
noncomputable def sS(ta:TA):TI:=λσ H R=>ta σ H λvs H1=>∃i j:Int,vs=[.int i,.int j]/\(-(2^62)≤i/\i<2^62/\-(2^62)≤j/\j<2^62)/\R (zL i (j-i).toNat) H1
theorem ze(o:Gl X "range")(n:X.mg "range"=none)(u:PA X [a] g)(m:starEach [a] X.env=[(false,eval a X.env,)]:=by rfl):PI X tg (.Call (.Name "range" p) [a] [] pos) (p5 g):=by
 intro b s f H R I h;refine Call_ (t5 I o n boot_range (PyProof.Rows.callWith_type1 (n0 (u pos b s f H _ I h) λx y d=>?_) m rfl));obtain⟨w,z,v,k,c⟩:=d;obtain⟨j,e,c,l,q⟩:=c;subst e;cases k with
 |cons r i=>
  cases i;obtain⟨t,rfl⟩:=r;exact call_range_1 (fi v (!6) (!6) c l (by simpa using q))
theorem bZ{p pos:Pos}(z:Gl X "range")(y:X.mg "range"=none)(A:PA X [a,b] m)(x:starEach [a,b] X.env=[(false,eval a X.env,),(false,eval b X.env,)]:=by rfl)(d:starEach [b] X.env=[(false,eval b X.env,)]:=by rfl):PI X tg (.Call (.Name "range" p) [a,b] [] pos) (sS m):=by
 intro c s l H R I h;refine Call_ (t5 I z y boot_range (PyProof.Rows.callWith_type1 (n0 (A pos c s l H _ I h) λD E k=>?_) (by rw[x,d]) (by rw[d];rfl)));obtain⟨C,F,B,n,g⟩:=k;obtain⟨i,j,e,⟨g,w,v,u⟩,q⟩:=g;subst e;cases n with
 |cons r f=>
  cases f with
  |cons o f=>
   cases f;obtain⟨t,rfl⟩:=r;obtain⟨t',rfl⟩:=o;exact call_range_2 (fi B g w v u q)
noncomputable def tT(wi:TI)(g:TG)(tb:TS):TS:=λD σ H=>wi σ H λJ H1=>∃W:Nat->Nat->St->Hp->Prop,(∃m,W 0 m σ H1)/\∀i m σ H,W i m σ H->
 (J.stop i H/\D.nx σ H)\/(J.go i H/\∃N:St->Hp->Prop,(∀σ' H',N σ' H'->∃m',m'<m/\W (i+1) m' σ' H')/\∀x H',J.yld i H x H'->g x σ H' λσ2 H2=>tb {D with nx:=N,ct:=N,bk:=D.nx} σ2 H2)
noncomputable def bz(fp:List Addr)(h:Heap):List (Addr×Obj):=fp.filterMap λb=>(h.get? b).map λo=>(b,o,)
theorem AA(a:b∈c)(e:h.get? b<*o):(b,o,)∈bz c h:=List.mem_filterMap.mpr (b,a,by rw[e];rfl)
theorem kE(hp:p∈bz c h):p.1∈c/\h.get? p.1<*p.2:=by
 obtain⟨b,a,e⟩:=List.mem_filterMap.mp hp;cases q:h.get? b with
 |none=>rw[q]at e;cases e
 |some o=>
  rw[q]at e;have e':(b,o,)=p:=Option.some.inj e;subst e';exact(a,q)
theorem f'.pinned{c:St}(I:f' X a c H s)(i:∀b∈g,aY X a H b)(h:∀b∈g,∃o,s.heap.get? b=some o/\∀v,o.data≠.cell v):f' X (a++bz g s.heap) c H s:=
 I.pins_of λp hp=>(mem_append.mp hp).elim (λz=>I.pin p (mem_append_right _ z)) λz=>by
  obtain⟨f,e⟩:=kE z;obtain⟨l,k,j,_⟩:=i p.1 f;obtain⟨o,e',d⟩:=h p.1 f;rw[e]at e';cases e';exact(e,l,k,j,d)
theorem f'.unpinned{b:St}(I:f' X (a++pl) b H s):f' X a b H s:=I.pins_of λp hp=>I.pin p (mem_append_right _ (mem_append_left _ hp))
theorem wI(hp:PassesOwn (model X.prog X.w) X.A X.env X.xe)(hc:X.calm=true)(hi:PI X tg iter wi)(hg:PG X tg g)(p:vH X L tb)(hs:∀x,foldedSetIterable iter X.env x=pure x:=by intro _;rfl):PS X (.For tg iter L [] pos) (tT wi g tb):=by
 intro c s σ H D I h;refine wpAny_For (n0 (hi c s σ H _ I h) λv s1 h1=>n0 h1 λab s2 h2=>?_) hs;obtain⟨it,G,tn,J,H2,e,I2,T,P,f2,W,⟨m0,w0⟩,B⟩:=h2;subst e;have l:∀{H':Hp},(∀b∈G,H' b=none)->∀b∈G,aY X c H' b:=λhn b p=>(hn b p,(f2 b p).2);refine codeAny_forLoop_any (λn s'=>∃i k H',f' X c k H' s'/\tn i s'.heap/\(∀b∈G,H' b=none)/\W i n k H') ?_ m0 (0,σ,H2,I2,P,λb p=>(f2 b p).1,w0);rintro n s3⟨i,j,M,I3,C,F,w3⟩;rcases B i n j M w3 with⟨stop,qn⟩|⟨go,N,hN,step⟩
 .refine wpAny_passesOwn hp (n0 (T.done X rfl rfl rfl hc i c s3 j M X.xe I3 (l F) C stop) λr s4⟨R,I4⟩=>?_);subst R;exact wpAny_execs_nil (j,M,I4,qn)
 .refine wpAny_passesOwn hp (n0 (T.item X rfl rfl rfl hc i c s3 j M X.xe I3 (l F) C go) λr s4⟨u,R,h4⟩=>?_);subst R;refine wpAny_passesOwn hp (n0 h4 λ_ s5 U=>?_);obtain⟨x,H5,I5,r5,y5,z,Y⟩:=U;have Z:=I5.pinned (l Y) (T.obj _ _ z);refine wpAny_passesOwn hp (n0 (hg _ s5 j H5 x u _ Z r5 (step x H5 y5)) λ_ s6 S=>?_);obtain⟨O,H6,I6,q6⟩:=S;refine wpAny_passesOwn hp (n0 (p _ s6 O H6 _ I6 q6) λf Q y=>?_);have again:∀{a:St}{t:Hp},f' X (c++bz G s5.heap) a t Q->N a t->∃m,m<n/\∃i k H',f' X c k H' Q/\tn i Q.heap/\(∀b∈G,H' b=none)/\W i m k H':=λ{a t}q E=>by
   obtain⟨m',hm,w7⟩:=hN a t E;refine(m',hm,i+1,a,t,q.unpinned,T.keep _ _ _ z λb p o e=>(q.pin (b,o,) (mem_append_right _ (mem_append_right _ (AA p e)))).1,λb p=>?_,w7);obtain⟨o,e,d⟩:=T.obj _ _ z b p;exact(q.pin (b,o,) (mem_append_right _ (mem_append_right _ (AA p e)))).2.1
  cases f with
  |next=>obtain⟨a,t,q,E⟩:=y;exact again q E
  |cont=>obtain⟨a,t,q,E⟩:=y;exact again q E
  |brk=>obtain⟨a,t,q,y⟩:=y;exact(a,t,q.unpinned,y)
  |ret v=>obtain⟨x7,a,t,q,r7,y⟩:=y;exact(x7,a,t,q.unpinned,r7,y)
end
theorem jF{K:Frag}{g:TG}{k:TS}{D:Ends}(c:Nat->St->Hp->Prop)(h0:c 0 b H)(r:∀i b H,i≤xs.length->c i b H->pa K H a xs)(o:∀i x b H,xs[i]?<*x->c i b H->g x b H λd j=>k {D with nx:=c (i+1),ct:=c (i+1),bk:=D.nx} d j)(t:∀b H,c xs.length b H->D.nx b H):∃W:Nat->Nat->St->Hp->Prop,(∃m,W 0 m b H)/\∀i m b H,W i m b H->
   ((Bc K a).stop i H/\D.nx b H)\/((Bc K a).go i H/\∃N:St->Hp->Prop,(∀f H',N f H'->∃l,l<m/\W (i+1) l f H')/\∀x H',(Bc K a).yld i H x H'->g x b H' λd j=>k {D with nx:=N,ct:=N,bk:=D.nx} d j):=by
 refine(λi m b H=>m=xs.length-i/\i≤xs.length/\c i b H,(xs.length,!1,zero_le _,h0),?_);rintro i m b H⟨rfl,s,p⟩;have q:=r i b H s p;by_cases h:i<xs.length
 .refine .inr ((xs,xs[i],q,by simp[h]),c (i+1),λf H' n=>(xs.length-(i+1),!2,rfl,h,n),λx H' y=>?_);obtain⟨e,y⟩:=y;subst e;exact o i x b _ (y xs q) p
 .have e:i=xs.length:=by lia
  subst e;exact .inl ((xs,q,le_refl _),t b H p)
theorem z7{lo:Int}{g:TG}{j:TS}{D:Ends}(f:Nat->St->Hp->Prop)(h0:f 0 a H)(o:∀i a H,i<n->f i a H->g (.int (lo+i)) a H λb h=>j {D with nx:=f (i+1),ct:=f (i+1),bk:=D.nx} b h)(q:∀a H,f n a H->D.nx a H):∃W:Nat->Nat->St->Hp->Prop,(∃m,W 0 m a H)/\∀i m a H,W i m a H->
   ((zL lo n).stop i H/\D.nx a H)\/((zL lo n).go i H/\∃N:St->Hp->Prop,(∀c H',N c H'->∃k,k<m/\W (i+1) k c H')/\∀x H',(zL lo n).yld i H x H'->g x a H' λb h=>j {D with nx:=N,ct:=N,bk:=D.nx} b h):=by
 refine(λi m a H=>m=n-i/\i≤n/\f i a H,(n,!1,zero_le _,h0),?_);rintro i m a H⟨rfl,r,p⟩;by_cases d:i<n
 .refine .inr (d,f (i+1),λc H' l=>(n-(i+1),!2,rfl,d,l),λx H' y=>?_);obtain⟨e,y⟩:=y;subst e y;exact o i a _ d p
 .have e:i=n:=by lia
  subst e;exact .inl (le_refl _,q a H p)
abbrev R2:=V->V->Hp->VK->Prop
noncomputable def vd(X:Cx)(f:Value->Value->Sem Value)(r:R2):Prop:=
 ∀(pins:List (Addr×Obj))(s:Shared)(σ:St)(H:Hp)(x y:V)(v u:Value)(Q:VK),f' X pins σ H s->ad x v->ad y u->r x y H Q->
  wpAny (model X.prog X.w) X.A (f v u) (EP X pins σ Q) X.xe s
noncomputable def Dg(X:Cx)(f:Value->Sem Value)(r:V->Hp->VK->Prop):Prop:=
 ∀(pins:List (Addr×Obj))(s:Shared)(σ:St)(H:Hp)(x:V)(v:Value)(Q:VK),f' X pins σ H s->ad x v->r x H Q->
  wpAny (model X.prog X.w) X.A (f v) (EP X pins σ Q) X.xe s
noncomputable def wN(X:Cx)(f:Value)(r:List V->Hp->VK->Prop):Prop:=
 ∀(pins:List (Addr×Obj))(s:Shared)(σ:St)(H:Hp)(xs:List V)(us:List Value)(Q:VK),f' X pins σ H s->ac xs us->r xs H Q->
  wpAny (model X.prog X.w) X.A (call f us) (EP X pins σ Q) X.xe s
noncomputable def zf(r:R2)(ta tb:TE):TE:=λσ H Q=>ta σ H λx H1=>tb σ H1 λy H2=>r x y H2 Q
noncomputable def Fo(r:V->Hp->VK->Prop)(ta:TE):TE:=λσ H Q=>ta σ H λx H1=>r x H1 Q
noncomputable def rI(C:Int->Int->Prop)(g:Int->Int->V):R2:=λx y H Q=>∃i j,x=.int i/\y=.int j/\C i j/\Q (g i j) H
noncomputable def AS(g:Int->Int->V):R2:=λx y H Q=>∃i j,x=.int i/\y=.int j/\Q (g i j) H
noncomputable def rU(g:Int->V):V->Hp->VK->Prop:=λx H Q=>∃i,x=.int i/\Q (g i) H
section
variable{X:Cx}{a b c:Expr}{ta tb tc:TE}{pos:Pos}
theorem AT(B:PE X a ta)(z:PE X b tb){e:St}{R:V->V->Hp->Prop}(I:f' X d e H s)(h:ta e H λx m=>tb e m λy g=>R x y g){f:Value->Value->Sem Value}(t:∀v u s2 x y g,f' X d e g s2->ad x v->ad y u->R x y g->wpAny (model X.prog X.w) X.A (f v u) Q X.xe s2):wpAny (model X.prog X.w) X.A (eval a X.env) (λv j=>wpAny (model X.prog X.w) X.A (eval b X.env) (λu i=>wpAny (model X.prog X.w) X.A (f v u) Q X.xe i) X.xe j) X.xe s:=by
 refine n0 (B d s e H _ I h) λv n k=>?_;obtain⟨x,m,D,p,r⟩:=k;refine n0 (z d n e m _ D r) λu s2 l=>?_;obtain⟨y,g,C,o,q⟩:=l;exact t v u s2 x y g C p o q
theorem uQ(i:vd X (binaryOp op) r)(k:PE X a ta)(j:PE X b tb):PE X (.BinOp a op b pos) (zf r ta tb):=by
 intro d s e H Q I h;exact wpAny_BinOp (AT k j I h λv u s2 x y m l g f q=>i d s2 e m x y v u Q l g f q)
theorem b7(k:Dg X (unaryOp op) r)(l:PE X a ta):PE X (.UnaryOp op a pos) (Fo r ta):=by
 intro d s f H Q I h;exact UnaryOp_ (n0 (l d s f H _ I h) λv g e=>by obtain⟨x,n,m,i,j⟩:=e;exact k d g f n x v Q m i j)
theorem Cm{g:Int->Int->Int}(rule:∀(i j:Int)(t u:Tok)(s:Shared)(Q:Value->Shared->Prop)(E:Value->Shared->Prop),C i j->Q (.int (g i j) s.toks) {s with toks:=s.toks+1}->wpAny (model X.prog X.w) X.A (f (.int i t) (.int j u)) Q E s):vd X f (rI C λi j=>.int (g i j)):=by
 intro d s m H x y v u Q I k e h;obtain⟨i,j,rfl,rfl,l,q⟩:=h;obtain⟨t,rfl⟩:=k;obtain⟨t',rfl⟩:=e;exact rule i j t t' s _ _ l (.int (g i j),H,I.tok _,(_,rfl),q)
theorem ud{g:Int->Int->Int}(rule:∀(i j:Int)(t u:Tok)(s:Shared)(Q:Value->Shared->Prop)(E:Value->Shared->Prop),Q (.int (g i j) s.toks) {s with toks:=s.toks+1}->wpAny (model X.prog X.w) X.A (f (.int i t) (.int j u)) Q E s):vd X f (AS λi j=>.int (g i j)):=by
 intro d s l H x y v u Q I k e h;obtain⟨i,j,rfl,rfl,q⟩:=h;obtain⟨t,rfl⟩:=k;obtain⟨t',rfl⟩:=e;exact rule i j t t' s _ _ (.int (g i j),H,I.tok _,(_,rfl),q)
theorem oZ{g:Int->Int->Bool}(rule:∀(i j:Int)(t u:Tok)(s:Shared)(Q:Value->Shared->Prop)(E:Value->Shared->Prop),Q (.bool (g i j)) s->wpAny (model X.prog X.w) X.A (f (.int i t) (.int j u)) Q E s):vd X f (AS λi j=>.bl (g i j)):=by
 intro d s l H x y v u Q I k e h;obtain⟨i,j,rfl,rfl,q⟩:=h;obtain⟨t,rfl⟩:=k;obtain⟨t',rfl⟩:=e;exact rule i j t t' s _ _ (.bl (g i j),H,I,rfl,q)
noncomputable def tL(i j:Int):Prop:=0<j/\j<1073741824
noncomputable def uz(i j:Int):Prop:=0≤j/\j≤1000000/\i.natAbs<2^64
noncomputable def rE(i j:Int):Prop:=(-(2^64)<i/\i<2^64)\/(-(2^64)<j/\j<2^64)
theorem rE.ok(h:rE i j):IntMulOk i j:=by
 rcases h with⟨h1,h2⟩|⟨h1,h2⟩
 .exact .of_left (intBits_le_64 h1 h2)
 .exact .of_right (intBits_le_64 h1 h2)
theorem im:vd X (binaryOp .Add) (AS λi j=>.int (i+j)):=ud λ_ _ _ _ _ _ _ q=>add_int q
theorem qI:vd X (binaryOp .Mult) (rI rE λi j=>.int (i*j)):=Cm λ_ _ _ _ _ _ _ d q=>mul_int q d.ok
theorem Cn:vd X (binaryOp .FloorDiv) (rI tL λi j=>.int (i/j)):=Cm λi j _ _ _ _ _ d q=>by
 have h1:(0:Int)<j:=d.1;have h2:j<1073741824:=d.2;exact floordiv_int (!6) (by rw[Int.fdiv_eq_ediv_of_nonneg i (!6)];exact q) (.inl (PyProof.noPylong_small (!2)))
theorem bC:vd X (binaryOp .Mod) (rI (λ_ j=>0<j) λi j=>.int (i%j)):=Cm λi j _ _ _ _ _ d q=>by
 have h1:(0:Int)<j:=d;exact mod_int' (!6) (by rw[Int.fmod_eq_emod_of_nonneg i (!6)];exact q)
theorem qH:vd X (binaryOp .Pow) (rI uz λi j=>.int (i^j.toNat)):=Cm λ_ _ _ _ _ _ _ d q=>pow_int_small d.1 d.2.1 d.2.2 q
theorem Fp{g:Int->Int}(rule:∀(i:Int)(t:Tok)(s:Shared)(Q:Value->Shared->Prop)(E:Value->Shared->Prop),Q (.int (g i) s.toks) {s with toks:=s.toks+1}->wpAny (model X.prog X.w) X.A (f (.int i t)) Q E s):Dg X f (rU λi=>.int (g i)):=by
 intro d s j H x v Q I e h;obtain⟨i,rfl,q⟩:=h;obtain⟨t,rfl⟩:=e;exact rule i t s _ _ (.int (g i),H,I.tok _,(_,rfl),q)
theorem Bd:Dg X (unaryOp .USub) (rU λi=>.int (-i)):=Fp λ_ _ _ _ _ q=>neg_int q
end
noncomputable def sf:V->V->Bool
 |.non,.non=>true|.non,.int _=>true|.int _,.non=>true|.non,.bl _=>true|.bl _,.non=>true|.non,.str _=>true|.str _,.non=>true
 |.int _,.int _=>true|.bl _,.bl _=>true|.str _,.str _=>true|.byt _,.byt _=>true
 |.int _,.str _=>true|.str _,.int _=>true|.bl _,.str _=>true|.str _,.bl _=>true
 |_,_=>false
noncomputable def rEq:R2:=λx y H Q=>sf x y=true/\Q (.bl (decide (x=y))) H
noncomputable def rNe:R2:=λx y H Q=>sf x y=true/\Q (.bl (!decide (x=y))) H
theorem jM:decide (V.int i=V.int j)=(i==j):=by
 rw[Bool.eq_iff_iff];simp
theorem nV:decide (V.bl i=V.bl j)=(i==j):=by
 rw[Bool.eq_iff_iff];simp
theorem jL:decide (V.str i=V.str j)=(i==j):=by
 rw[Bool.eq_iff_iff];simp
theorem jN:decide (V.byt i=V.byt j)=(i.toList==j.toList):=by
 rw[Bool.eq_iff_iff];cases i;cases j;simp
section
variable{X:Cx}{a b c:Expr}{ta tb tc:TE}{pos:Pos}
theorem vi{f:St}(I:f' X d f H s)(q:Q (.bl k) H)(e:k=k'):EP X d f Q (.bool k') s:=by
 subst e;exact(.bl k,H,I,rfl,q)
theorem zg:vd X (compareOp .Eq) rEq:=by
 intro g s k H x y v u Q I f d h;obtain⟨e,q⟩:=h;cases x with
 |non=>
  cases f;cases y with
  |non=>cases d;exact PySem.EqNone.eq_none_none (vi I q (!1))
  |bl j=>cases d;exact PySem.EqNone.eq_none_bool (vi I q (!1))
  |int j=>obtain⟨t',rfl⟩:=d;exact PySem.EqNone.eq_none_int (vi I q (!1))
  |str j=>obtain⟨t',rfl⟩:=d;exact PySem.EqNone.eq_none_str (vi I q (!1))
  |_=>exact absurd (show false=true from e) Bool.false_ne_true
 |bl i=>
  cases f;cases y with
  |non=>cases d;exact PySem.EqNone.eq_bool_none (vi I q (!1))
  |bl j=>cases d;exact eq_bool (vi I q nV)
  |str j=>obtain⟨t',rfl⟩:=d;exact PySem.EqMixed.eq_bool_str (vi I q (!1))
  |_=>exact absurd (show false=true from e) Bool.false_ne_true
 |int i=>
  obtain⟨t,rfl⟩:=f;cases y with
  |non=>cases d;exact PySem.EqNone.eq_int_none (vi I q (!1))
  |int j=>obtain⟨t',rfl⟩:=d;exact eq_int (vi I q jM)
  |str j=>obtain⟨t',rfl⟩:=d;exact PySem.EqMixed.eq_int_str (vi I q (!1))
  |_=>exact absurd (show false=true from e) Bool.false_ne_true
 |str i=>
  obtain⟨t,rfl⟩:=f;cases y with
  |non=>cases d;exact PySem.EqNone.eq_str_none (vi I q (!1))
  |bl j=>cases d;exact PySem.EqMixed.eq_str_bool (vi I q (!1))
  |int j=>obtain⟨t',rfl⟩:=d;exact PySem.EqMixed.eq_str_int (vi I q (!1))
  |str j=>obtain⟨t',rfl⟩:=d;exact eq_str (vi I q jL)
  |_=>exact absurd (show false=true from e) Bool.false_ne_true
 |byt i=>
  obtain⟨t,rfl⟩:=f;cases y with
  |byt j=>obtain⟨t',rfl⟩:=d;exact PySem.W.eq_bytes (vi I q jN)
  |_=>exact absurd (show false=true from e) Bool.false_ne_true
 |_=>cases y<;>exact absurd (show false=true from e) Bool.false_ne_true
theorem sD:vd X (compareOp .NotEq) rNe:=by
 intro g s k H x y v u Q I f d h;obtain⟨e,q⟩:=h;cases x with
 |non=>
  cases f;cases y with
  |non=>cases d;exact PySem.EqNone.ne_none_none (vi I q (!1))
  |bl j=>cases d;exact PySem.EqNone.ne_none_bool (vi I q (!1))
  |int j=>obtain⟨t',rfl⟩:=d;exact PySem.EqNone.ne_none_int (vi I q (!1))
  |str j=>obtain⟨t',rfl⟩:=d;exact PySem.EqNone.ne_none_str (vi I q (!1))
  |_=>exact absurd (show false=true from e) Bool.false_ne_true
 |bl i=>
  cases f;cases y with
  |non=>cases d;exact PySem.EqNone.ne_bool_none (vi I q (!1))
  |bl j=>cases d;exact ne_bool (vi I q (congrArg not nV))
  |str j=>obtain⟨t',rfl⟩:=d;exact PySem.EqMixed.ne_bool_str (vi I q (!1))
  |_=>exact absurd (show false=true from e) Bool.false_ne_true
 |int i=>
  obtain⟨t,rfl⟩:=f;cases y with
  |non=>cases d;exact PySem.EqNone.ne_int_none (vi I q (!1))
  |int j=>obtain⟨t',rfl⟩:=d;exact ne_int (vi I q (congrArg not jM))
  |str j=>obtain⟨t',rfl⟩:=d;exact PySem.EqMixed.ne_int_str (vi I q (!1))
  |_=>exact absurd (show false=true from e) Bool.false_ne_true
 |str i=>
  obtain⟨t,rfl⟩:=f;cases y with
  |non=>cases d;exact PySem.EqNone.ne_str_none (vi I q (!1))
  |bl j=>cases d;exact PySem.EqMixed.ne_str_bool (vi I q (!1))
  |int j=>obtain⟨t',rfl⟩:=d;exact PySem.EqMixed.ne_str_int (vi I q (!1))
  |str j=>obtain⟨t',rfl⟩:=d;exact ne_str (vi I q (congrArg not jL))
  |_=>exact absurd (show false=true from e) Bool.false_ne_true
 |byt i=>
  obtain⟨t,rfl⟩:=f;cases y with
  |byt j=>obtain⟨t',rfl⟩:=d;exact PySem.W.ne_bytes (vi I q (congrArg not jN))
  |_=>exact absurd (show false=true from e) Bool.false_ne_true
 |_=>cases y<;>exact absurd (show false=true from e) Bool.false_ne_true
theorem mI:vd X (compareOp .Lt) (AS λi j=>.bl (decide (i<j))):=oZ λ_ _ _ _ _ _ _ q=>lt_int q
theorem js:vd X (compareOp .LtE) (AS λi j=>.bl (decide (i≤j))):=oZ λ_ _ _ _ _ _ _ q=>le_int q
theorem pW:vd X (compareOp .Gt) (AS λi j=>.bl (decide (j<i))):=oZ λ_ _ _ _ _ _ _ q=>gt_int q
theorem sF:vd X (compareOp .GtE) (AS λi j=>.bl (decide (j≤i))):=oZ λ_ _ _ _ _ _ _ q=>ge_int q
theorem wq:vd X (compareOp .IsNot) (λx y H Q=>y=.non/\Q (.bl (!decide (x=.non))) H):=by
 intro e s g H x y v u Q I d f h;obtain⟨rfl,q⟩:=h;cases f;refine isnot_none_gen (vi I q ?_);cases x<;>first
  |(cases d;rfl)
  |(obtain⟨t,rfl⟩:=d;rfl)
theorem dH:vd X (compareOp .NotIn) (λx y H Q=>∃i j,x=.str i/\y=.str j/\Q (.bl (!(!(Builtin.Str.occurrences j i 0 j.length 1).isEmpty))) H):=by
 intro d s g H x y v u Q I f e h;obtain⟨i,j,rfl,rfl,q⟩:=h;obtain⟨t,rfl⟩:=f;obtain⟨t',rfl⟩:=e;exact notIn_str (vi I q rfl)
theorem vz(b:Expr)(h:op≠.In:=by decide)(h2:op≠.NotIn:=by decide):behindInMarks op b=false:=by
 have e:(op==CmpOp.In)=false:=by cases op<;>first|rfl|exact absurd rfl h
 have d:(op==CmpOp.NotIn)=false:=by cases op<;>first|rfl|exact absurd rfl h2
 cases b<;>simp[behindInMarks,e,d]
theorem xR(i:vd X (compareOp op) r)(l:PE X a ta)(k:PE X b tb)(j:behindInMarks op b=false):PE X (.Compare a [op] [b] pos) (zf r ta tb):=by
 intro d s e H Q I h;exact wpAny_Compare1 (AT l k I h λv u s2 x y n m g f q=>i d s2 e n x y v u Q m g f q) j
noncomputable def jf(t:TE):TT:=λσ H Q=>t σ H λx H'=>∃k,x=.bl k/\Q k H'
theorem wt(p:vd X (compareOp op) r)(w:PE X a ta)(t:PE X b tb)(q:behindInMarks op b=false):PT X (.Compare a [op] [b] pos) (jf (zf r ta tb)):=by
 intro d s f H Q I h;refine wpAny_isTrue_Compare1 (n0 (w d s f H _ I h) λv g⟨x,F,C,l,o⟩=>n0 (t d g f F _ C o) λu s2⟨y,E,B,j,n⟩=>
  n0 (p d s2 f E x y v u _ B l j n) λc G⟨z,D,A,i,k,e,m⟩=>?_) q
 subst e;cases i;exact wpAny_truthy_bool (D,A,m)
theorem Be:(sizeLine:Nat)<2^63:=by rw[sizeLine_eq];decide
theorem Bh:vd X (binaryOp .Add) (λx y H Q=>∃i j,x=.str i/\y=.str j/\i.length+j.length≤sizeLine/\Q (.str (i++j)) H):=by
 intro d s g H x y v u Q I f e h;obtain⟨i,j,rfl,rfl,hz,q⟩:=h;obtain⟨t,rfl⟩:=f;obtain⟨t',rfl⟩:=e;exact add_str (λt' k=>(.str (i++j),H,I.tok _,(_,rfl),q)) hz
theorem xm(r:ac [x] d):∃u,d=[u]/\ad x u:=by
 cases r with
 |cons f e=>cases e;exact(_,rfl,f)
theorem bc(r:ac [x,y] e):∃u d,e=[u,d]/\ad x u/\ad y d:=by
 cases r with
 |cons i h=>
  cases h with
  |cons g f=>cases f;exact(_,_,rfl,i,g)
end
structure lJ(h:Heap)(x dx C:Addr)(mA:Str->Option Value):Prop where
 obj:h.get? x<*instObj C dx
 ns:h.Ns1 dx mA
 ne:dx≠x
theorem Dh{h:Heap}(n:h.Ns1 dx f):∃c,h.get? dx=some c/\∀name,PySem.W.lookIn name c<*f name:=by
 obtain⟨o,d,p,i,l,k,_,j⟩:=n;refine(o,i,λname=>?_);have e:=j name;unfold nsFind findBy at e;rw[<-Array.find?_toList]at e;unfold PySem.W.lookIn;rw[l];dsimp only;split
 .rename_i y q;rw[q]at e;exact congrArg some e
 .rename_i q;rw[q]at e;have a:d.toList.any (·.refKey)=false:=by
   rw[List.any_eq_false];intro y g;obtain⟨z,t,b⟩:=k y (Array.mem_toList_iff.mp g);simp[DictEntry.refKey,b]
  have m:¬ d.toList.any (·.refKey)=true:=by rw[a];exact Bool.false_ne_true
  rw[if_neg m];exact congrArg some e
theorem lJ.look(I:lJ h x dx C b):∃a,PySem.W.InstAt h x (instObj C dx) C (some a)/\∀name,PySem.W.lookIn name a<*b name:=
 let⟨a,c,d⟩:=Dh I.ns
 (a,(I.obj,rfl,rfl,c),d)
section
variable{prog:Program}{w:World}{A:Around}{E:Value->Shared->Prop}{s:Shared}{K:Frag}{x dx C f:Addr}{mA:Str->Option Value}{name:Str}{v:Value}
theorem pA(X:K.In s.heap)(I:lJ s.heap x dx C mA)(e:plainGet K C name=true)(d:PySem.W.hasDictIn K C=true)(g:PySem.W.findIn K (.ref C) name<*none)(b:mA name<*v)(a:PySem.W.handedIn v=true)(h:Q v {s with toks:=s.toks+1}):wpAny (model prog w) A (getAttr (.ref x) name expr) Q E s:=by
 obtain⟨i,J,c⟩:=I.look;exact PySem.W.get_value X J (PySem.W.plainGet_of e).1 (PySem.W.findObj_own d g rfl (by rw[c,b])) a h
theorem oK(X:K.In s.heap)(I:lJ s.heap x dx C mA)(m:PySem.W.findIn K (.ref C) "__setattr__"<*some (.builtin "object.__setattr__"))(hp:PySem.W.plainOver K C=true)(l:takerIn K C name<*none)(n:PySem.W.hasDictIn K C=true)(hw:PySem.Within mA ns)(hsz:ns.length≤sizeLine)(h:∀h',lJ h' x dx C (λy=>if y=name then some v else mA y)->SameBut dx s.heap h'->Q () {s with heap:=h',toks:=s.toks+2}):wpAny (model prog w) A (setAttr (.ref x) name v) Q E s:=by
 obtain⟨t,J,z⟩:=I.look;refine set_plain X J m (PySem.W.osa_open (s:={s with toks:=s.toks+1}) (r:=none) X J hp l λb=>?_);obtain⟨B,o,i⟩:=any_some n;have k:s.heap.get? x<*(.ref C,some dx,.plain,#[]):=I.obj;refine d_ (j2 (d_ (d_ (wpAny_loadPart k (d_ (PySem.W.Looks.here (s:={s with toks:=s.toks+1}) (looks_clsIn X o) ?_))))));rw[i];refine j2 (a:=some dx) (d_ (j2 (d_ ?_)));refine wpAny_nsSet1 (s:={s with toks:=s.toks+1}) I.ns λh' d c=>?_;obtain⟨u,p,q,e,g,j⟩:=d.count (PySem.Within.cons name v hw);refine d_ (wpAny_lookBehind e (by rw[g];exact pastItsLine_dict (le_trans j (by rw[length_cons];lia))) ?_);exact j2 (h _ ((c.2 _ (Ne.symm I.ne)).trans I.obj,d,I.ne) c)
theorem mX(X:K.In s.heap)(e:PySem.W.makesIn K C=true)(i:PySem.W.findIn K (.ref C) "__init__"<*some (.ref f))(j:PySem.W.typeIn K (.ref f)<*.type "function")(h:codeAny (model prog w) (A.under (.builtin "type.__call__" (.ref C::b,c))) (.call (.ref f) (.ref (s⁻¹+1)::b,c)) (PySem.W.InitBack (s⁻¹+1) R)
   {s with heap:=(s.heap.push emptyDict).push (instObj C s⁻¹)}):codeAny (model prog w) A (.call (.ref C) (b,c)) R s:=by
 obtain⟨k,g,d,t,os⟩:=s;exact PySem.W.make_core (PySem.W.makes_of X e) (PySem.W.looks_findIn X i) (λa=>PySem.W.bind_fn X a j) (.inl rfl) h
end
noncomputable def al(f:Str)(v:V):List (Str×V)->List (Str×V)
 |[]=>[(f,v,)]
 |(g,x)::r=>if g=f then(g,v,)::r else(g,x,)::al f v r
theorem Di(f g:Str)(v:V):∀c:List (Str×V),(al f v c).lookup g=if g=f then some v else c.lookup g
 |[]=>by
  show List.lookup g [(f,v,)]=_;by_cases h:g=f
  .have a:(g==f)=true:=beq_iff_eq.mpr h;simp only[List.lookup,a,if_pos h]
  .have a:(g==f)=false:=beq_eq_false_iff_ne.mpr h;simp only[List.lookup,a,if_neg h]
 |(k,x)::r=>by
  have d:=Di f g v r;rw[show al f v ((k,x,)::r)=(if k=f then(k,v,)::r else(k,x,)::al f v r)from rfl];by_cases b:k=f
  .rw [if_pos b];by_cases h:g=k
   .have a:(g==k)=true:=beq_iff_eq.mpr h;simp only[List.lookup,a,if_pos (h.trans b)]
   .have a:(g==k)=false:=beq_eq_false_iff_ne.mpr h;simp only[List.lookup,a,if_neg (λe:g=f=>h (e.trans b.symm))]
  .rw [if_neg b];by_cases h:g=k
   .have a:(g==k)=true:=beq_iff_eq.mpr h;simp only[List.lookup,a,if_neg (λe:g=f=>b (h.symm.trans e))]
   .have a:(g==k)=false:=beq_eq_false_iff_ne.mpr h;simp only[List.lookup,a];exact d
theorem BR(f:Str)(v:V):∀b:List (Str×V),f∈(al f v b).map (·.1)/\∀g,g∈b.map (·.1)->g∈(al f v b).map (·.1)
 |[]=>(by simp[al],λg h=>by simp at h)
 |(k,x)::r=>by
  obtain⟨i1,i2⟩:=BR f v r;rw[show al f v ((k,x,)::r)=(if k=f then(k,v,)::r else(k,x,)::al f v r)from rfl];by_cases a:k=f
  .rw [if_pos a];subst a;exact(!1,λg h=>by simpa using h)
  .rw [if_neg a];refine(?_,λg h=>?_)
   .rw [map_cons];exact mem_cons_of_mem _ i1
   .rw [map_cons]at h⊢;rcases mem_cons.mp h with e|e
    .exact mem_cons.mpr (.inl e)
    .exact mem_cons_of_mem _ (i2 g e)
theorem vE(f:Str)(v:V):∀b:List (Str×V),(al f v b).length≤b.length+1
 |[]=>by simp[al]
 |(k,x)::r=>by
  have c:=vE f v r;rw[show al f v ((k,x,)::r)=(if k=f then(k,v,)::r else(k,x,)::al f v r)from rfl];by_cases a:k=f
  .rw [if_pos a,length_cons,length_cons];lia
  .rw [if_neg a,length_cons,length_cons];lia
theorem au.some_of(r:au (some v) o):∃u,o=some u/\ad v u:=by
 cases o with
 |none=>exact(show False from r).elim
 |some u=>exact(u,rfl,r)
theorem au.none_of(r:au none o):o=none:=by
 cases o with
 |none=>rfl
 |some u=>exact(show False from r).elim
theorem cD(r:ad v u):PySem.W.handedIn u=true:=by
 cases v with
 |non=>cases(show u=Value.none from r);rfl
 |bl b=>cases(show u=Value.bool b from r);rfl
 |int i=>obtain⟨t,e⟩:=(show ∃t,u=Value.int i t from r);cases e;rfl
 |str x=>obtain⟨t,e⟩:=(show ∃t,u=Value.str x t from r);cases e;rfl
 |byt b=>obtain⟨t,e⟩:=(show ∃t,u=Value.bytes b t from r);cases e;rfl
 |flt b=>obtain⟨t,e⟩:=(show ∃t,u=Value.float b t from r);cases e;rfl
 |ref a=>cases(show u=Value.ref a from r);rfl
 |ty n=>cases(show u=Value.type n from r);rfl
section
variable{P:Program}{w:World}{H H':Hp}{h h':Heap}{a C dx:Addr}{fs fs':List (Str×V)}
theorem dR(c:uO P w H h)(e:H a<*.ins C dx fs):∃b,lJ h a dx C b/\(∀f,au (fs.lookup f) (b f))/\PySem.Within b (fs.map (·.1))/\fs.length≤1000/\H dx<*.own a:=by
 obtain⟨d,z,i,g,b,n,r,q⟩:=(show uS P w H h a (.ins C dx fs)from c a _ e);exact(b,(g,n,i),r,q,z,d)
end
structure zM(K:Frag)(C:Addr):Prop where
 pg:plainGet K C Str.empty=true
 hd:PySem.W.hasDictIn K C=true
 po:PySem.W.plainOver K C=true
 sa:PySem.W.findIn K (.ref C) "__setattr__"<*some (.builtin "object.__setattr__")
theorem zM.get{K:Frag}(c:zM K C)(f:Str):plainGet K C f=true:=c.pg
noncomputable def vj(K:Frag)(C:Addr)(f:Str):Prop:=PySem.W.findIn K (.ref C) f<*none
theorem vj.taker{K:Frag}(n:vj K C f):takerIn K C f<*none:=by
 unfold takerIn;rw[show PySem.W.findIn K (.ref C) f<*none from n];rfl
section
variable{X:Cx}{pins:List (Addr×Obj)}{σ:St}{H:Hp}{s:Shared}{a C dx:Addr}{fs:List (Str×V)}{f:Str}{v:V}{A:Around}{E:Value->Shared->Prop}
theorem iM(I:f' X pins σ H s)(e:H a<*.ins C dx fs)(c:zM X.K C)(n:vj X.K C f)(l:fs.lookup f<*v)(h:∀u s',f' X pins σ H s'->ad v u->Q u s'):wpAny (model X.prog X.w) A (getAttr (.ref a) f b) Q E s:=by
 obtain⟨g,O,r,_,_,_⟩:=dR I.hok e;obtain⟨u,i,d⟩:=au.some_of (v:=v) (o:=g f) (by rw[<-l];exact r f);exact pA I.kIn O (c.get f) c.hd n i (cD d) (h u _ (I.tok _) d)
theorem ie(I:f' X pins σ H s)(e:H a<*.ins C dx fs)(c:zM X.K C)(n:vj X.K C f)(D:fs.length<1000)(m:ad y u)(h:∀s',f' X pins σ (upd H a (.ins C dx (al f y fs))) s'->Q () s'):wpAny (model X.prog X.w) A (setAttr (.ref a) f u) Q E s:=by
 obtain⟨j,O,r,i,_,k⟩:=dR I.hok e;have hz:(fs.map (·.1)).length≤sizeLine:=by rw[j_,sizeLine_eq];exact le_trans (le_of_lt D) (!0)
 refine oK I.kIn O c.sa c.po n.taker c.hd i hz λh' d l=>h _ ?_;have t:∃o,h'.get? dx<*o:=let⟨o,_,_,e',_⟩:=d.ns;(o,e');refine I.write (x:=a) (e:=dx) (by rw[e];exact True.intro) (.inr k) (λb q B z=>(l.2 b B).trans z) t ?_;refine(by rw[a_ O.ne];exact k,?_,O.ne,d.obj,_,d.ns,λg=>?_,λg p=>?_)
 .have:=vE f y fs;lia
 .show au ((al f y fs).lookup g) (if g=f then some u else j g);rw[Di];by_cases q:g=f
  .rw [if_pos q,if_pos q];exact m
  .rw [if_neg q,if_neg q];exact r g
 .by_cases q:g=f
  .rw [q];exact(BR f y fs).1
  .refine (BR f y fs).2 g (i g λz=>p ?_);show(if g=f then some u else j g)=none;rw[if_neg q];exact z
theorem f'.made(I:f' X pins σ H s):f' X pins σ (upd (upd H s⁻¹ (.own (s⁻¹+1))) (s⁻¹+1) (.ins C s⁻¹ []))
  {s with heap:=(s.heap.push emptyDict).push (instObj C s⁻¹)}:=by
 have d:(s.heap.push emptyDict).get? s⁻¹<*emptyDict:=get?_push_size s.heap rfl;have j:((s.heap.push emptyDict).push (instObj C s⁻¹)).get? (s⁻¹+1)<*instObj C s⁻¹:=by
  have:=get?_push_size (s.heap.push emptyDict) (o:=instObj C s⁻¹) rfl
  rwa [size_push]at this
 have i:(s.heap.push emptyDict).Ns s⁻¹ (λ_=>none):=(emptyDict,#[],_,d,rfl,(λe h=>absurd h (!1)),λ_=>rfl);have k:=I.laid (a:=s⁻¹) (o:=.own (s⁻¹+1)) (h':=s.heap.push emptyDict) (t':=s.toks) (λb u q=>nb _ q) (le_refl _) (_,d);refine k.laid (a:=s⁻¹+1) (o:=.ins C s⁻¹ []) (t':=s.toks) (λb u q=>nb _ q) (le_of_eq (size_push _ _)) ?_;have c:s⁻¹≠s⁻¹+1:=ne_of_lt (lt_succ_self _);refine(by rw[a_ c,j'],zero_le _,c,j,λ_=>none,(Heap.Ns1.of_empty i).at λo q=>nb _ q,λ_=>True.intro,λy g=>absurd rfl g)
theorem xG(c:attributeBase e f env (eval e env)=eval e env)(h:wpAny (model prog w) A (eval e env) (λo b=>wpAny (model prog w) A (getAttr o f true) Q E b) E s):wpAny (model prog w) A (eval (.Attribute e f pos) env) Q E s:=
 Attribute_any_ h (by rw[arm_eval_Attribute,c])
end
noncomputable def rW(K:Frag)(ta:TE)(f:Str):TE:=λσ H Q=>ta σ H λx H1=>∃a C dx fs v,x=.ref a/\H1 a=some (.ins C dx fs)/\zM K C/\vj K C f/\fs.lookup f=some v/\Q v H1
noncomputable def tX(K:Frag)(ta tv:TE)(f:Str):TS:=λD σ H=>tv σ H λy H1=>ta σ H1 λx H2=>∃a C dx fs,x=.ref a/\H2 a=some (.ins C dx fs)/\zM K C/\vj K C f/\fs.length<1000/\
 D.nx σ (upd H2 a (.ins C dx (al f y fs)))
section
variable{X:Cx}{o e value:Expr}{f:Str}{pos pos' tpos:Pos}{ta tv:TE}
theorem v9(k:PE X e ta)(m:attributeBase e f X.env (eval e X.env)=eval e X.env):PE X (.Attribute e f pos) (rW X.K ta f):=by
 intro b s g H Q I h;refine xG m (n0 (k b s g H _ I h) λu A d=>?_);obtain⟨x,y,w,i,a,C,dx,B,v,p,r,c,n,l,q⟩:=d;subst p;obtain rfl:u=Value.ref a:=i;exact iM w r c n l λz s2 t j=>(v,y,t,j,q)
theorem bx(v:PE X o ta)(r:PE X value tv)(t:swapsWith value (some (.Attribute o f pos')) pos.line X.env=pure false):PS X (.Assign [.Attribute o f pos'] value pos) (tX X.K ta tv f):=by
 intro b s d H D I h;refine plainObj_wpAny_Assign_Attribute (n0 (r b s d H _ I h) λu i⟨y,F,E,j,q⟩=>n0 (v b i d F _ E q) λp s2 g=>?_) t;obtain⟨x,L,B,k,a,C,dx,J,w,z,c,n,l,m⟩:=g;subst w;obtain rfl:p=Value.ref a:=k;exact ie B z c n l j λG A=>(d,_,A,m)
end
section
variable{X:Cx}{pins:List (Addr×Obj)}{σ:St}{H:Hp}{s:Shared}{A:Around}{E:Value->Shared->Prop}{Q:Value->Shared->Prop}{c:Value}{b:Bool}
inductive af(K:Frag)(H:Hp):V->Value->Prop where
 |non:af K H .non (.type "NoneType")
 |bl (x:Bool):af K H (.bl x) (.type "bool")
 |int (i:Int):af K H (.int i) (.type "int")
 |str (x:Str):af K H (.str x) (.type "str")
 |flt (x:UInt64):af K H (.flt x) (.type "float")
 |lst {a:Addr} {xs:List V} (e:H a<*.lst xs):af K H (.ref a) (.type "list")
 |frz {a:Addr} {o:Obj} {xs:List V} (e:H a<*.frz o (.lst xs)):af K H (.ref a) (.type "list")
 |tup {a:Addr} {xs:List V} (e:H a<*.tup xs):af K H (.ref a) (.type "tuple")
 |dK {a:Addr} {kvs:List (wn×V)} (e:H a<*.dK kvs):af K H (.ref a) (.type "dict")
 |dT {a:Addr} {kvs:List (List wn×V)} (e:H a<*.dT kvs):af K H (.ref a) (.type "dict")
 |ins {a C dx:Addr} {fs:List (Str×V)} (e:H a<*.ins C dx fs) (cl:zM K C) (ha:PySem.W.findIn K (.ref C) "__class__"<*some (.builtin "object.__class__"))
   (hn:PySem.W.specialIn K (.builtin "object.__class__") "__get__"<*some (.builtin "getset_descriptor.__get__")) (htk:PySem.W.takesIn K (.builtin "object.__class__")<*true)
   (hm:PySem.W.mroIn K C (.type "object")<*true):af K H (.ref a) (.ref C)
theorem kX(I:f' X pins σ H s)(d:ad x u)(ty:af X.K H x t)(e:PySem.W.kitOne X.K t c<*b)(h:∀j,Q (.bool b) {s with toks:=j}):wpAny (model X.prog X.w) A (call (.builtin "isinstance") [u,c]) Q E s:=by
 cases ty with
 |non=>cases(show u=Value.none from d);exact PySem.W.kia_one PySem.W.kitx_none I.kIn True.intro e (λz=>nomatch z) h
 |bl y=>cases(show u=Value.bool y from d);exact PySem.W.kia_one PySem.W.kitx_bool I.kIn True.intro e (λz=>nomatch z) h
 |int i=>obtain⟨t,q⟩:=(show ∃t,u=Value.int i t from d);cases q;exact PySem.W.kia_one PySem.W.kitx_int I.kIn True.intro e (λz=>nomatch z) h
 |str y=>obtain⟨t,q⟩:=(show ∃t,u=Value.str y t from d);cases q;exact PySem.W.kia_one PySem.W.kitx_str I.kIn True.intro e (λz=>nomatch z) h
 |flt y=>obtain⟨t,q⟩:=(show ∃t,u=Value.float y t from d);cases q;exact PySem.W.kia_one PySem.W.kitx_float I.kIn True.intro e (λz=>nomatch z) h
 |@lst a xs f=>
  cases(show u=Value.ref a from d);obtain⟨_,_,n,_,h1⟩:=(show uS X.prog X.w H s.heap a (.lst xs)from I.hok a _ f);exact PySem.W.kia_one PySem.W.kitx_list I.kIn (_,h1,rfl) e (λz=>nomatch z) h
 |@frz a k xs f=>
  cases(show u=Value.ref a from d);obtain⟨_,_,_,n,_,h1⟩:=(show uS X.prog X.w H s.heap a (.frz k (.lst xs))from I.hok a _ f);exact PySem.W.kia_one PySem.W.kitx_list I.kIn (_,h1,rfl) e (λz=>nomatch z) h
 |@tup a xs f=>
  cases(show u=Value.ref a from d);obtain⟨_,_,_,p⟩:=(show uS X.prog X.w H s.heap a (.tup xs)from I.hok a _ f);obtain⟨o,h1,h2,_⟩:=p;exact PySem.W.kia_one PySem.W.kitx_tuple I.kIn (o,h1,h2) e (λz=>nomatch z) h
 |@dK a kvs f=>
  cases(show u=Value.ref a from d);obtain⟨_,_,D,_,p⟩:=(show uS X.prog X.w H s.heap a (.dK kvs)from I.hok a _ f);obtain⟨o,v,B,h1,h2,_⟩:=p;exact PySem.W.kia_one PySem.W.kitx_dict I.kIn (o,h1,h2.1) e (λz=>nomatch z) h
 |@dT a kvs f=>
  cases(show u=Value.ref a from d);obtain⟨_,_,xs,_,o,v,B,h1,h2,_⟩:=(show uS X.prog X.w H s.heap a (.dT kvs)from I.hok a _ f);exact PySem.W.kia_one PySem.W.kitx_dict I.kIn (o,h1,h2.1) e (λz=>nomatch z) h
 |@ins a C dx L f g r l htk m=>
  cases(show u=Value.ref a from d);obtain⟨G,O,_⟩:=dR I.hok f;obtain⟨F,J,_⟩:=O.look;exact PySem.W.kia_one (PySem.W.kitx_own (g.get _) g.hd r l htk m) I.kIn J e (λz=>nomatch z) h
end
structure ah(k:Nat)(A:Around):Prop where
 hd:A.handled=none
 dp:A.depth+3*k+5<recursionLimit
 un:A.units+16*k+200<cLine
theorem ah.mono(r:ah k A)(h:j≤k):ah j A:=(r.hd,by have:=r.dp;lia,by have:=r.un;lia)
theorem ah.deeper(r:ah (k+1) A)(env:Env):ah k (A.deeper env):=
 (r.hd,by have:=r.dp;show A.depth+1+3*k+5<_;lia,by have:=r.un;show A.units+3+16*k+200<_;lia)
theorem ix{A:Around}:(A.under (.builtin "type.__call__" (.ref C::a,b))).depth=A.depth+1:=by
 first|rfl|simp[Around.under,Code.weight,Code.isCreation,Code.isGuard,Code.isCaller,Code.frames,Code.isFrame,guardIds]
theorem iw{A:Around}:(A.under (.builtin "type.__call__" (.ref C::a,b))).units=A.units+1:=by
 first|rfl|simp[Around.under,Code.cUnits,Code.frames,Code.isFrame]
theorem ah.make(r:ah (k+1) A)(C:Addr)(a:List Value)(b:List (Str×Value)):ah k (A.under (.builtin "type.__call__" (.ref C::a,b))):=
 (r.hd,by have:=r.dp;rw[ix];lia,by have:=r.un;rw[iw];lia)
theorem ah.depth(r:ah k A):A.depth<recursionLimit:=by have:=r.dp;lia
theorem ah.units(r:ah k A):A.units+64<cLine:=by have:=r.un;lia
theorem ah.units0(r:ah k A):A.units<cLine:=by have:=r.un;lia
noncomputable def tNil:TA:=λ_ H Q=>Q [] H
noncomputable def vq(ta:TE)(tr:TA):TA:=λσ H Q=>ta σ H λx H1=>tr σ H1 λxs H2=>Q (x::xs) H2
section
variable{X:Cx}{e:Expr}{es:List Expr}{te:TE}{t:TA}{pos:Pos}
theorem zN:PA X [] tNil:=λ_ _ _ _ H Q I h=>Calls.spliced_nil ([],H,I,.nil,h)
theorem v_(n:PE X e te)(m:PA X es t)(l:starEach (e::es) X.env=(false,eval e X.env,)::starEach es X.env:=by rfl):PA X (e::es) (vq te t):=by
 intro pos a s d H Q I h;rw[l];show wpAny _ _ (spliced ((false,eval e X.env,)::backTo pos (starEach es X.env))) _ _ s;refine Calls.spliced_cons (n0 (n a s d H _ I h) λu f c=>?_);obtain⟨x,r,p,i,k⟩:=c;exact n0 (m pos a f d r _ p k) λv s2 b=>by obtain⟨xs,q,o,g,j⟩:=b;exact(x::xs,q,o,.cons i g,j)
noncomputable def tN(t:TA):TE:=λσ H Q=>t σ H λxs H1=>xs.length≤sizeLine/\∀p,H1 p=none->Q (.ref p) (upd H1 p (.tup xs))
noncomputable def tQ(t:TA):TE:=λσ H Q=>t σ H λxs H1=>xs.length≤sizeLine/\∀p,H1 p=none->Q (.ref p) (upd H1 p (.lst xs))
theorem yC{i}(h:PA X es t):PE X (.Tuple es i pos) (tN t):=by
 intro a s g H Q I k;refine wpAny_Tuple_spliced (n0 (h pos a s g H _ I k) λj c⟨xs,f,d,r,z,q⟩=>(by rw[<-r.length];exact z,?_));have l:f c⁻¹=none:=d.hok.fresh (le_refl _);refine(.ref c⁻¹,upd f c⁻¹ (.tup xs),d.laid (t':=c.toks) (λb u e=>nb _ e) (le_refl _) ?_,rfl,q _ l);exact(z,j,r,(_,get?_push_size _ rfl,rfl,_,rfl))
theorem wc(h:PA X es t):PE X (.List es pos) (tQ t):=by
 intro a s g H Q I j;refine wpAny_List_spliced (n0 (h pos a s g H _ I j) λi c⟨xs,f,d,r,z,q⟩=>(by rw[<-r.length];exact z,?_));have k:f c⁻¹=none:=d.hok.fresh (le_refl _);refine(.ref c⁻¹,upd f c⁻¹ (.lst xs),d.laid (t':=c.toks) (λb u e=>nb _ e) (le_refl _) ?_,rfl,q _ k);exact(z,i,0,r,get?_push_size _ rfl)
end
abbrev Sp:=List V->Hp->VK->XK->Prop
abbrev CXT:=List Env->Hp->Shared->XK->Value->Shared->Prop
structure bn(P:Program)(w:World)(K:Frag)(mg:Str->Option Value)(base:Heap)(A:Around)(outer:List Env)(s:Shared)(H:Hp):Prop where
 frames:A.frames<*outer
 mod:Mod K mg base
 bs:∀b o,base.get? b<*o->s.heap.get? b=some o/\H b=none
 bsz:base.objs.size≤s⁻¹
 funs:s.heap.FunFrames base outer
 frf:∀b∈tf outer,H b=none
 hok:uO P w H s.heap
 bare:AllBare s.gens
noncomputable def CE(outer:List Env)(P:Program)(w:World)(H:Hp)(s:Shared)(Q:VK)(u:Value)(s':Shared):Prop:=
 ∃v H',s'.os=s.os/\AllBare s'.gens/\Un (tf outer) [] H H' s.heap s'.heap/\uO P w H' s'.heap/\ad v u/\Q v H'
noncomputable def CR(CX:CXT)(outer:List Env)(P:Program)(w:World)(H:Hp)(s:Shared)(Q:VK)(E:XK)(r:Result)(s':Shared):Prop:=
 match r with
 |.ok (.ret u)=>CE outer P w H s Q u s'
 |.ok _=>False
 |.error e=>CX outer H s E e s'
structure aa(P:Program)(w:World)(K:Frag)(mg:Str->Option Value)(base:Heap)(CX:CXT)(k:Nat)(f:Addr)(fd:FuncData)(ps:List Str)(sp:Sp):Prop where
 len:∀vs H Q E,sp vs H Q E->vs.length=ps.length
 run:∀(A:Around)(outer:List Env)(s:Shared)(H:Hp)(args:Args)(us:List Value)(vs:List V)(Q:VK)(E:XK),ah k A->bn P w K mg base A outer s H->BindsTo s fd args (ps.zip us)->ac vs us->sp vs H Q E->
  codeAny (model P w) A (.call (.ref f) args) (CR CX outer P w H s Q E) s
theorem aa.mono{P:Program}{w:World}{K:Frag}(F:aa P w K mg base l j f i ps e)(h:j≤k):aa P w K mg base l k f i ps e:=(F.len,λA a s H b d c Q E g=>F.run A a s H b d c Q E (g.mono h))
theorem bn.make{K:Frag}(e:bn P w K mg base A a s H)(C:Addr)(b:List Value)(c:List (Str×Value)):bn P w K mg base (A.under (.builtin "type.__call__" (.ref C::b,c))) a s H:=(by first|exact e.frames|(simpa[Around.under,Code.envs,Code.isFrame,pushEnvs]using e.frames),e.mod,e.bs,e.bsz,e.funs,e.frf,e.hok,e.bare)
section
variable{X:Cx}{pins:List (Addr×Obj)}{σ:St}{H:Hp}{s s':Shared}
theorem f'.env0(I:f' X pins σ H s):bn X.prog X.w X.K X.mg X.base X.A X.stack s H:=
 (I.ok.frames,I.ok.mod,I.bs,le_trans I.ok.bsz I.sz,I.stack,I.stkFree,I.hok,I.bare)
theorem f'.after(I:f' X pins σ H s)(h:CE X.stack X.prog X.w H s Q u s'):EP X pins σ Q u s':=by
 obtain⟨v,H',os,a,f,e,r,q⟩:=h;obtain⟨i,g,d,t,c⟩:=s';obtain rfl:c=s.os:=os;exact(v,H',I.call (h':=i) (g':=g) (d':=d) (t':=t) (ch:=[]) f e a (λb z=>absurd z (!1)),r,q)
end
noncomputable def w'(sp:Sp)(dvs:List V)(E:XK)(t:TA):TE:=λσ H Q=>t σ H λvs H1=>sp (vs++dvs) H1 Q E
noncomputable def rS(C:Addr)(sp:Sp)(dvs:List V)(E:XK)(t:TA):TE:=λσ H Q=>t σ H λvs H1=>∀x dx,H1 x=none->H1 dx=none->dx≠x->
 sp (.ref x::(vs++dvs)) (upd (upd H1 dx (.own x)) x (.ins C dx [])) (λv H2=>v=.non/\Q (.ref x) H2) E
noncomputable def vw(K:Frag)(fd:FuncData)(ps:List Str)(ds:List Value):Prop:=
 ∀(s:Shared)(us:List Value),K.In s.heap->(us++ds).length=ps.length->BindsTo s fd (us,[]) (ps.zip (us++ds))
theorem vw.all{K:Frag}(h:∀a:List Value,a.length=ps.length->bindArgs c (a,[])=pure (ps.zip a)):vw K c ps []:=λs a _ b=>by
 rw[append_nil]at b⊢;exact .of_eq (h a b)
noncomputable def z8(CX:CXT)(X:Cx)(E:XK):Prop:=∀(pins:List (Addr×Obj))(σ:St)(H:Hp)(s:Shared)(e:Value)(s':Shared),f' X pins σ H s->CX X.stack H s E e s'->X.xe e s'
section
variable{X:Cx}{CX:CXT}{k:Nat}{f C:Addr}{fd:FuncData}{ps:List Str}{sp:Sp}{dvs:List V}{ds:List Value}{E:XK}{x m:Str}{p pos apos:Pos}{e o:Expr}{es:List Expr}{ta:TE}{t:TA}
theorem mn{d:St}(F:aa X.prog X.w X.K X.mg X.base CX k f fd ps sp)(l:ah k X.A)(v:vw X.K fd ps ds)(q:ac dvs ds)(j:z8 CX X E)(I:f' X a d H s)(r:ac g b)(h:sp (g++dvs) H Q E):wpAny (model X.prog X.w) X.A (call (.ref f) b) (EP X a d Q) X.xe s:=by
 have i:ac (g++dvs) (b++ds):=r.append q;have n:(b++ds).length=ps.length:=by rw[<-i.length];exact F.len _ _ _ _ h
 refine wpAny_call (codeAny_mono (F.run X.A X.stack s H (b,[]) (b++ds) (g++dvs) Q E l I.env0 (v s b I.kIn n) i h) λr s' c=>?_);cases r with
 |error e=>exact j a d H s e s' I c
 |ok y=>
  cases y with
  |ret u=>exact I.after c
  |next=>exact False.elim c
  |brk=>exact False.elim c
  |cont=>exact False.elim c
theorem jp(F:aa X.prog X.w X.K X.mg X.base CX k f fd ps sp)(j:ah k X.A)(u:Gl X x)(l:X.mg x<*.ref f)(n:keepIn X.K (.ref f)=true)(z:vw X.K fd ps ds)(y:ac dvs ds)(i:z8 CX X E)(B:PA X (e::es) t)(c:(x==("__debug__":Str))=false:=by decide)(v:starEach (e::es) X.env=(false,eval e X.env,)::starEach es X.env:=by rfl)(b:(backTo pos (starEach es X.env)).any (·.1)=false:=by rfl):PE X (.Call (.Name x p) (e::es) [] pos) (w' sp dvs E t):=by
 intro a s g H Q I h;refine wpAny_Call_Name_kw (uB I u l ?_ c);refine callWith_K (h₀:=X.base) I.ok.mod.kin n (n0 (B pos a s g H _ I h) λG J⟨D,L,d,r,q⟩=>(d.kIn,?_)) v b;exact mn F j z y i d r q
structure Mk(K:Frag)(C f:Addr):Prop where
 makes:PySem.W.makesIn K C=true
 init:PySem.W.findIn K (.ref C) "__init__"<*some (.ref f)
 fn:isFn K (.ref f)=true
 kp:keepIn K (.ref C)=true
theorem ml{g:St}(M:Mk X.K C f)(F:aa X.prog X.w X.K X.mg X.base CX k f fd ps sp)(z:ah (k+1) X.A)(G:vw X.K fd ps ds)(D:ac dvs ds)(y:z8 CX X E)(I:f' X c g H s)(r:ac i b)(h:∀x dx,H x=none->H dx=none->dx≠x->sp (.ref x::(i++dvs)) (upd (upd H dx (.own x)) x (.ins C dx [])) (λv O=>v=.non/\Q (.ref x) O) E):wpAny (model X.prog X.w) X.A (call (.ref C) b) (EP X c g Q) X.xe s:=by
 have l:=h (s⁻¹+1) s⁻¹ (I.hok.fresh (le_succ _)) (I.hok.fresh (le_refl _)) (ne_of_lt (lt_succ_self _));have d:=f'.made (C:=C) I;have j:ac (V.ref (s⁻¹+1)::(i++dvs)) (Value.ref (s⁻¹+1)::(b++ds)):=.cons rfl (r.append D);have B:(Value.ref (s⁻¹+1)::b++ds).length=ps.length:=by
  have e:=j.length;rw[F.len _ _ _ _ l]at e;exact e.symm
 refine wpAny_call (mX (f:=f) I.kIn M.makes M.init (beq_iff_eq.mp M.fn) (codeAny_mono (F.run _ X.stack _ _ (Value.ref (s⁻¹+1)::b,[]) (Value.ref (s⁻¹+1)::(b++ds)) _ _ E (z.make C b [])
  (d.env0.make C b []) (G _ (Value.ref (s⁻¹+1)::b) d.kIn B) j l) λr s' a=>?_))
 cases r with
 |error e=>exact y c g _ _ e s' d a
 |ok J=>
  cases J with
  |ret u=>
   obtain⟨v,H',N,n,L,q⟩:=d.after a;subst L;exact(n,(V.ref (s⁻¹+1),H',N,rfl,q))
  |next=>exact False.elim a
  |brk=>exact False.elim a
  |cont=>exact False.elim a
theorem oX(M:Mk X.K C f)(F:aa X.prog X.w X.K X.mg X.base CX k f fd ps sp)(j:ah (k+1) X.A)(n:Gl X x)(l:X.mg x<*.ref C)(y:vw X.K fd ps ds)(v:ac dvs ds)(i:z8 CX X E)(z:PA X (e::es) t)(c:(x==("__debug__":Str))=false:=by decide)(u:starEach (e::es) X.env=(false,eval e X.env,)::starEach es X.env:=by rfl)(b:(backTo pos (starEach es X.env)).any (·.1)=false:=by rfl):PE X (.Call (.Name x p) (e::es) [] pos) (rS C sp dvs E t):=by
 intro a s g H Q I h;refine wpAny_Call_Name_kw (uB I n l ?_ c);refine callWith_K (h₀:=X.base) I.ok.mod.kin M.kp (n0 (z pos a s g H _ I h) λD G⟨B,J,d,r,q⟩=>(d.kIn,?_)) u b;exact ml M F j y v i d r q
end
section
variable{X:Cx}{CX:CXT}{k:Nat}{f C:Addr}{fd:FuncData}{ps ks:List Str}{sp:Sp}{E:XK}{x m:Str}{p pos apos kpos:Pos}{e o:Expr}{es:List Expr}{kws:List Keyword}{te ta:TE}{t tk:TA}{nm:Option Str}
variable{g:List Value->List Value->List Value}{gV:List V->List V->List V}
end
structure s_(N P:List Str)(sc:Scope):Prop where
 kind:sc.kind=.function
 co:sc.isCoroutine=false
 gen:sc.isGenerator=false
 nd:N.Nodup
 pre:N.take P.length=P
 par:∀x∈P,sc.names.lookup x<*.local\/sc.names.lookup x<*.cell
 nofree:∀y∈sc.names,y.2≠.free
theorem cT{kindOf:Str->Option NameKind}{x:Str}:∀{a:List (Str×Value)}{m:Str->Option Value},(∀v,(x,v,)∉a)->bindL kindOf a m x=m x
 |[],_,_=>rfl
 |(n,v)::r,m,h=>by
  unfold bindL;rw[cT λw hw=>h w (mem_cons_of_mem _ hw)];split
  .have:x≠n:=by rintro rfl;exact h v mem_cons_self
   simp[this]
  .rfl
theorem we{kindOf:Str->Option NameKind}{x:Str}:∀{a:List (Str×Value)}{m:Str->Option Value},(∀v,(x,v,)∉a)->bindC kindOf a m x=m x
 |[],_,_=>rfl
 |(n,v)::r,m,h=>by
  unfold bindC;rw[we λw hw=>h w (mem_cons_of_mem _ hw)];split
  .rfl
  .have:x≠n:=by rintro rfl;exact h v mem_cons_self
   simp[this]
theorem wf{kindOf:Str->Option NameKind}{x:Str}{v:Value}:∀{P:List Str}{a:List Value}{i:Nat}{m:Str->Option Value},P.Nodup->P[i]?<*x->a[i]?<*v->kindOf x<*.local->
  bindL kindOf (P.zip a) m x<*v
 |[],_,_,_,_,h,_,_=>by simp at h
 |_::_,[],_,_,_,_,h,_=>by simp at h
 |p::P,w::a,0,m,b,h1,h2,c=>by
  simp at h1 h2;subst h1;subst h2;show bindL kindOf ((p,w,)::P.zip a) m p=_;unfold bindL;rw[cT λv d=>(nodup_cons.mp b).1 (of_mem_zip d).1,if_pos c];simp
 |p::P,w::a,i+1,m,b,h1,h2,c=>by
  show bindL kindOf ((p,w,)::P.zip a) m x=_;unfold bindL;exact wf (i:=i) (nodup_cons.mp b).2 (by simpa using h1) (by simpa using h2) c
theorem cY{kindOf:Str->Option NameKind}{x:Str}{v:Value}:∀{P:List Str}{a:List Value}{i:Nat}{m:Str->Option Value},P.Nodup->P[i]?<*x->a[i]?<*v->kindOf x≠some .local->
  bindC kindOf (P.zip a) m x<*v
 |[],_,_,_,_,h,_,_=>by simp at h
 |_::_,[],_,_,_,_,h,_=>by simp at h
 |p::P,w::a,0,m,b,h1,h2,c=>by
  simp at h1 h2;subst h1;subst h2;show bindC kindOf ((p,w,)::P.zip a) m p=_;unfold bindC;rw[we λv d=>(nodup_cons.mp b).1 (of_mem_zip d).1,if_neg c];simp
 |p::P,w::a,i+1,m,b,h1,h2,c=>by
  show bindC kindOf ((p,w,)::P.zip a) m x=_;unfold bindC;exact cY (i:=i) (nodup_cons.mp b).2 (by simpa using h1) (by simpa using h2) c
noncomputable def start(N:List Str)(vs:List V):St:=vs.map some++replicate (N.length-vs.length) none
noncomputable def aK(CX:CXT)(P:Program)(w:World)(K:Frag)(mg:Str->Option Value)(base:Heap)(N:List Str)(qual:Str)(scope:Scope)(f:Addr)(cd:Value)(A:Around)(outer:List Env)(s:Shared)(H:Hp)(E:XK):Cx where
 prog:=P
 w:=w
 K:=K
 mg:=mg
 base:=base
 A:=A.deeper (envOfC qual scope s⁻¹ f cd)
 N:=N
 s₀:=s
 H₀:=H
 env:=envOfC qual scope s⁻¹ f cd
 outer:=outer
 stack:=envOfC qual scope s⁻¹ f cd::outer
 ex:=[]
 calm:=true
 fn:=λ_=>true
 pn:=[]
 xe:=λe s'=>wpAny (model P w) (A.deeper (envOfC qual scope s⁻¹ f cd)) (leaving (envOfC qual scope s⁻¹ f cd) e) (λ_ s''=>CX outer H s E e s'') (λe' s''=>CX outer H s E e' s'') s'
theorem wO{sc:Scope}(h:sc.names.lookup x<*.cell):∃c,(cellsFrom n sc.names []).lookup x<*c:=by
 have q:=PySem.W.cellsFrom_some sc.names n [] (.inl h);exact Option.isSome_iff_exists.mp q
theorem kY{J:CXT}{P:Program}{w:World}{K:Frag}{mg:Str->Option Value}{base:Heap}{N ps:List Str}{qual:Str}{d:Scope}{f:Addr}{C:Value}{A:Around}{g:List Env}{s F:Shared}{H:Hp}{E:XK}{D:List Value}{l:List V}(S:s_ N ps d)(O:A.handled=none)(j:bn P w K mg base A g s H)(T:l.length=ps.length)(r:ac l D)(x:InCallC s s⁻¹ (bindL (envOfC qual d s⁻¹ f C).kindOf (ps.zip D) λ_=>none) (cellsFrom (s⁻¹+1) d.names []) (bindC (envOfC qual d s⁻¹ f C).kindOf (ps.zip D) λ_=>none) F):f' (aK J P w K mg base N qual d f C A g s H E) [] (start N l) H F:=by
 have M:ps.length≤N.length:=by have:=congrArg List.length S.pre;rw[length_take]at this;lia
 obtain⟨h1,R,rfl,I⟩:=x.done;have m:∀b:Addr,b∉(aK J P w K mg base N qual d f C A g s H E).ex:=λb z=>absurd (show b∈([]:List Addr)from z) (!1);refine((j.mod,S.kind,rfl,rfl,le_refl _,λy z c h1 h2=>?_,λy o=>?_,λy c _ h=>?_,λ_=>O,Around.frames_deeper j.frames,.inr (rfl,rfl),λb z=>absurd z (m b),j.bs,j.bsz,λb _ _=>m b,λb z=>absurd z (m b),j.funs,j.frf),
  rfl,j.bare,Un.kept I,(_,x.toInCall.ns,λi y v h1 h2 U=>?_),λy c h=>(_,x.cell y c h),j.hok.fresh (le_refl _),λy c h=>?_,λp hp=>absurd (show p∈([]:List (Addr×Obj))from hp) (!1),j.hok.kept I,?_)
 .exact name_of_addr x.apart (PySem.mem_of_lookup h1) (PySem.mem_of_lookup h2)
 .have o:d.names.lookup y<*.cell\/d.names.lookup y<*.free:=o;rcases o with o|o
  .exact wO o
  .exact absurd rfl (S.nofree _ (PySem.mem_of_lookup o))
 .exact le_of_lt (x.above y c (PySem.mem_of_lookup h))
 .have B:i<l.length:=by
   unfold start at h2;by_cases B:i<l.length
   .exact B
   .rw [getElem?_append_right (by simpa using B)]at h2;rw[List.getElem?_replicate]at h2;split at h2<;>cases h2
  have Q:l[i]?<*v:=by
   unfold start at h2;rw[getElem?_append_left (by simpa using B),n']at h2;cases e:l[i]? with
   |none=>rw[e]at h2;cases h2
   |some a=>rw[e]at h2;cases h2;rfl
  obtain⟨u,G,L⟩:=r.get Q;have hp:ps[i]?<*y:=by
   rw[<-S.pre,List.getElem?_take_of_lt (!6)];exact h1
  have t:ps.Nodup:=by rw[<-S.pre];exact S.nd.sublist (List.take_sublist _ _)
  refine(u,L,?_);rcases S.par y (uM hp)with k|k
  .exact .inl (k,wf t hp G k)
  .obtain ⟨c,e⟩:=wO (n:=s⁻¹+1) k;refine .inr (.inl k,c,e,?_);have q:=x.cell y c e;rw[cY t hp G (by show d.names.lookup y≠_;rw[k];decide)]at q;exact q
 .exact j.hok.fresh (le_of_lt (x.above y c (PySem.mem_of_lookup h)))
 .unfold start;show _=N.length;rw[uA,j_,length_replicate];lia
theorem gj{C:CXT}{P:Program}{w:World}{K:Frag}{mg:Str->Option Value}{base:Heap}{k:Nat}{f:Addr}{name qual:Str}{d:Arguments}{g:List Stmt}{a:Scope}{U kV doc pm cdv ct oc:Value}{an od:Option Addr}{G:Array (Option Value)}{N ps:List Str}{D:Sp}(lk:K.lookup f<*(oc,od,.func (fnOf name qual d g a U kV doc pm an cdv ct),G))(O:codeIn K cdv qual=true)(S:s_ N ps a)(len:∀i H Q E,D i H Q E->i.length=ps.length)(l:∀(A:Around)(c:List Env)(s:Shared)(H:Hp)(i:List V)(Q:VK)(E:XK),ah k (A.deeper (envOfC qual a s⁻¹ f cdv))->D i H Q E->
   ∃t,vH (aK C P w K mg base N qual a f cdv A c s H E) g t/\t {nx:=λ_ H'=>Q .non H',rt:=Q} (start N i) H):aa P w K mg base C (k+1) f (fnOf name qual d g a U kV doc pm an cdv ct) ps D:=by
 refine(len,λA c s H X Z i Q E M B hb r p=>?_);have hl:=len _ _ _ _ p;have Y:K.In s.heap:=B.mod.kin.keeps λb o e=>(B.bs b o e).1;have L:s.heap.NoLimit:=B.mod.nolimit.keeps λb o e=>(B.bs b o e).1;have j:∀y∈ps.zip Z,a.names.lookup y.1<*.local\/(a.names.lookup y.1=some .cell/\((cellsFrom (s⁻¹+1) a.names []).lookup y.1).isSome=true):=λR hy=>by
  obtain⟨n,v⟩:=R;rcases S.par n (of_mem_zip hy).1 with q|q
  .exact .inl q
  .exact .inr (q,PySem.W.cellsFrom_some _ _ _ (.inl q))
 refine codeAny_call_function M.depth (Y _ _ lk) rfl S.co S.gen rfl (PySem.W.codeRec_of Y O) (hb _ _ _ _ ?_);refine wpAny_newFunctionEnv_cells S.kind j λenv he T x=>?_;subst he;refine(L.keeps x.toInCall.keep,codeAny_func ?_);obtain⟨t,ht,hq⟩:=l A c s H i Q E (M.deeper _) p;have I:f' (aK C P w K mg base N qual a f cdv A c s H E) [] (start N i) H T:=kY S M.hd B hl r x;refine wpAny_mono (ht [] T (start N i) H _ I hq) (λfl s' m=>?_) λe s' m=>m;have z:∀{h:St}{H':Hp}{v:V}{u:Value},f' (aK C P w K mg base N qual a f cdv A c s H E) [] h H' s'->ad v u->Q v H'->CE c P w H s Q u s':=
  λ{h H' v u}J F q=>(v,H',J.os,J.bare,J.base,J.hok,F,q)
 cases fl with
 |ret u=>
  obtain⟨v,h,H',J,F,q⟩:=m;exact z J F q
 |next=>
  obtain⟨h,H',J,q⟩:=m;exact z (v:=V.non) (u:=Value.none) J rfl q
 |brk=>
  obtain⟨_,_,_,q⟩:=m;exact False.elim q
 |cont=>
  obtain⟨_,_,_,q⟩:=m;exact False.elim q
section
variable{X:Cx}{x:Str}{p pos:Pos}{e:Expr}{es:List Expr}{t:TA}{id T:String}{r:List V->Hp->VK->Prop}
noncomputable def vX(r:List V->Hp->VK->Prop)(t:TA):TE:=λσ H Q=>t σ H λvs H1=>r vs H1 Q
theorem vx(v:wN X (.builtin id) r)(q:Gl X x)(o:X.mg x=none)(m:bootBuiltins x<*.builtin id)(w:PA X (e::es) t)(n:x≠"__name__":=by decide)(c:(x==("__debug__":Str))=false:=by decide)(u:starEach (e::es) X.env=(false,eval e X.env,)::starEach es X.env:=by rfl)(b:(backTo pos (starEach es X.env)).any (·.1)=false:=by rfl):PE X (.Call (.Name x p) (e::es) [] pos) (vX r t):=by
 intro a s f H Q I h;refine wpAny_Call_Name_kw (t5 I q o m ?_ n c);exact PyProof.Rows.callWith_builtin1 (n0 (w pos a s f H _ I h) λi j d=>by obtain⟨g,z,y,k,l⟩:=d;exact v a j f z g i Q y k l) u b
theorem xS(v:wN X (.type T) r)(q:Gl X x)(o:X.mg x=none)(m:bootBuiltins x<*.type T)(w:PA X (e::es) t)(n:x≠"__name__":=by decide)(c:(x==("__debug__":Str))=false:=by decide)(u:starEach (e::es) X.env=(false,eval e X.env,)::starEach es X.env:=by rfl)(b:(backTo pos (starEach es X.env)).any (·.1)=false:=by rfl):PE X (.Call (.Name x p) (e::es) [] pos) (vX r t):=by
 intro a s f H Q I h;refine wpAny_Call_Name_kw (t5 I q o m ?_ n c);exact PyProof.Rows.callWith_type1 (n0 (w pos a s f H _ I h) λi j d=>by obtain⟨g,z,y,k,l⟩:=d;exact v a j f z g i Q y k l) u b
end
end L2
namespace HT
open PySem PyProof.Rows
section
open PySem.SeqAt
open PySem.AutoSeq1 (wpAny_loadPart')
open PySem.MeetsSeq PySem.MeetsSeq2 PySem.MeetsSeq3
end
section
variable{prog:Program}{w:World}{A:Around}{E:Value->Shared->Prop}{s:Shared}
noncomputable def wP(n d:Nat):Option Int->Nat
 |none=>d
 |some v=>if v<0 then(v+(n:Int)).toNat else min v.toNat n
theorem zh(n d:Nat):wP n d none=d:=rfl
theorem z9(n d k:Nat):wP n d (some (k:Int))=min k n:=by
 show(if (k:Int)<0 then((k:Int)+(n:Int)).toNat else min (k:Int).toNat n)=min k n;rw[if_neg (!6),toNat_natCast]
end
end HT
namespace L2
open PySem PySem.Spec PyProof.Rows
abbrev TO:=St->Hp->(Option Int->Hp->Prop)->Prop
noncomputable def PO(X:Cx)(e:Option Expr)(t:TO):Prop:=
 ∀(pins:List (Addr×Obj))(s:Shared)(σ:St)(H:Hp)(Q:Option Int->Hp->Prop),f' X pins σ H s->t σ H Q->
  wpAny (model X.prog X.w) X.A (evalPart e X.env) (λu s'=>∃o H',f' X pins σ H' s'/\IsPart u o/\Q o H') X.xe s
noncomputable def tNoPart:TO:=λ_ H Q=>Q none H
noncomputable def rO(t:TE):TO:=λσ H Q=>t σ H λx H1=>∃i,x=.int i/\Q (some i) H1
section
variable{X:Cx}{e:Expr}{te:TE}{lo hi:Option Expr}{tl th:TO}{pos p2:Pos}
theorem Co:PO X none tNoPart:=by
 intro a s b H Q I h;rw[evalPart_none];exact j2 (none,H,I,.none,h)
theorem Cp(h:PE X e te):PO X (some e) (rO te):=by
 intro a s c H Q I hw;rw[evalPart_some];refine n0 (h a s c H _ I hw) λu k b=>?_;obtain⟨x,j,g,d,f⟩:=b;obtain⟨i,rfl,q⟩:=f;obtain⟨t,rfl⟩:=d;exact(some i,j,g,.int i t,q)
noncomputable def Dj(X:Cx)(r:V->Option Int->Option Int->Hp->VK->Prop):Prop:=
 ∀(pins:List (Addr×Obj))(s:Shared)(σ:St)(H:Hp)(x:V)(v vl vu:Value)(lo hi:Option Int)(sl:Addr)(Q:VK),f' X pins σ H s->ad x v->s.heap.IsSliceOf sl vl vu .none->IsPart vl lo->IsPart vu hi->r x lo hi H Q->
  ∃T id,typeLookup (.type T) "__getitem__"=pure (some (.builtin id))/\s.TypeIs v T/\wpAny (model X.prog X.w) X.A (getItem v (.ref sl)) (EP X pins σ Q) X.xe s
noncomputable def Fq(r:V->Option Int->Option Int->Hp->VK->Prop)(te:TE)(tl th:TO):TE:=λσ H Q=>te σ H λx H1=>tl σ H1 λl H2=>th σ H2 λu H3=>r x l u H3 Q
theorem Cq(B:Dj X r)(E:PE X e te)(C:PO X lo tl)(y:PO X hi th):PE X (.Subscript e (.Slice lo hi none p2) pos) (Fq r te tl th):=by
 intro a s d H Q I h;refine Subscript_ (n0 (E a s d H _ I h) λv k i=>?_);obtain⟨x,O,M,m,p⟩:=i;refine wpAny_Slice (n0 (C a k d O _ M p) λf s2⟨l,N,L,pl,o⟩=>n0 (y a s2 d N _ L o) λvu c g=>?_);obtain⟨u,j,J,t,n⟩:=g;rw[evalPart_none];refine j2 ?_;have G:f' X a d j {c with heap:=c.heap.push {cls:=.type "slice",data:=.fields #[f,vu,.none]} }:=J.kept (t':=c.toks) λb P q=>nb _ q;obtain⟨T,id,F,z,D⟩:=B a {c with heap:=c.heap.push {cls:=.type "slice",data:=.fields #[f,vu,.none]} } d j x v f vu l u c⁻¹ Q G m (Heap.IsSliceOf.new ..) pl t n;show wpAny (model X.prog X.w) X.A (subscriptTail e (.Slice lo hi none p2) v (.ref c⁻¹)) (EP X a d Q) X.xe {c with heap:=c.heap.push {cls:=.type "slice",data:=.fields #[f,vu,.none]} };exact tail_any (ops:=[.ref c⁻¹,v]) z F D (by with_unfolding_all rfl)
noncomputable def xn(xs:List V)(lo hi:Option Int):List V:=(xs.drop (HT.wP xs.length 0 lo)).take (HT.wP xs.length xs.length hi-HT.wP xs.length 0 lo)
theorem gD(xs:List V)(lo hi:Option Int):(xn xs lo hi).length≤xs.length:=by
 unfold xn;rw[length_take,List.length_drop];lia
end
noncomputable def xT(n:Nat)(i:Int):Option Nat:=if 0≤i then(if i<n then some i.toNat else none)else if -(n:Int)≤i then some (i+n).toNat else none
noncomputable def vt{α:Type}(xs:List α)(i:Int):Option α:=(xT xs.length i).bind λj=>xs[j]?
theorem jz(h:xT n i<*j):seqIndex? i n=some j/\j<n/\-(n:Int)≤i/\i<n:=by
 unfold xT at h;by_cases h0:0≤i
 .rw [if_pos h0]at h;by_cases h1:i<n
  .rw [if_pos h1]at h;have e:i.toNat=j:=Option.some.inj h;exact(by rw[seqIndex_of h0 h1,e],!6,!6,h1)
  .rw [if_neg h1]at h;cases h
 .rw [if_neg h0]at h;by_cases h1:-(n:Int)≤i
  .rw [if_pos h1]at h;have e:(i+n).toNat=j:=Option.some.inj h;exact(by rw[seqIndex_neg (!6) h1,e],!6,h1,!6)
  .rw [if_neg h1]at h;cases h
theorem em{xs:List a}{v:a}(h:vt xs i<*v):∃j,seqIndex? i xs.length=some j/\xs[j]?=some v/\j<xs.length/\-(xs.length:Int)≤i/\i<xs.length:=by
 unfold vt at h;cases e:xT xs.length i with
 |none=>rw[e]at h;cases h
 |some j=>
  rw[e]at h;obtain⟨h1,h2,c,b⟩:=jz e;exact(j,h1,h,h2,c,b)
theorem vJ{xs:List a}{j:Nat}{v:a}(h:xs[j]?<*v):vt xs (j:Int)<*v:=by
 have b:j<xs.length:=(l' h).1;have e:xT xs.length (j:Int)<*j:=by
  unfold xT;rw[if_pos (!6),if_pos (!6)];simp
 unfold vt;rw[e];exact h
theorem oh(xs:List a)(v:a):vt (xs++[v]) (-1)<*v:=by
 have b:(xs++[v]).length=xs.length+1:=by simp
 have e:xT (xs++[v]).length (-1)<*xs.length:=by
  unfold xT;rw[b,if_neg (!0),if_pos (!6)];congr 1;lia
 unfold vt;rw[e];show(xs++[v])[xs.length]?<*v;simp
noncomputable def eE(b:Expr):Prop:=∀o i,subscripted b false o i=operate [o,i] (getItem o i)
noncomputable def xH(X:Cx)(r:R2):Prop:=
 ∀(value slice:Expr)(pins:List (Addr×Obj))(s:Shared)(σ:St)(H:Hp)(x y:V)(v u:Value)(Q:VK),f' X pins σ H s->ad x v->ad y u->r x y H Q->
  subscripted slice false v u=operate [v,u] (getItem v u)->wpAny (model X.prog X.w) X.A (subscriptTail value slice v u) (EP X pins σ Q) X.xe s
noncomputable def EG(X:Cx)(id:String)(r:V->List V->Hp->VK->Prop):Prop:=
 ∀(pins:List (Addr×Obj))(s:Shared)(σ:St)(H:Hp)(x:V)(xs:List V)(v:Value)(us:List Value)(Q:VK),f' X pins σ H s->ad x v->ac xs us->r x xs H Q->
  wpAny (model X.prog X.w) X.A (call (.builtin id) (v::us)) (EP X pins σ Q) X.xe s
section
variable{X:Cx}{a b:Expr}{ta tb:TE}{pos:Pos}
theorem xH.or(h:xH X r)(h':xH X k):xH X (λx y H Q=>r x y H Q\/k x y H Q):=by
 intro c d e s f H x y v u Q I i g q j;rcases q with q|q
 .exact h c d e s f H x y v u Q I i g q j
 .exact h' c d e s f H x y v u Q I i g q j
theorem nT(i:xH X r)(k:PE X a ta)(j:PE X b tb)(g:eE b):PE X (.Subscript a b pos) (zf r ta tb):=by
 intro c s d H Q I h;exact Subscript_ (AT k j I h λv u s2 x y m l f e q=>i a b c s2 d m x y v u Q l f e q (g _ _))
noncomputable def mo(K:Frag):R2:=λx y H Q=>∃p xs i v,x=.ref p/\y=.int i/\lb K H p xs/\vt xs i=some v/\Q v H
noncomputable def ik(K:Frag):R2:=λx y H Q=>∃p xs i v,x=.ref p/\y=.int i/\pa K H p xs/\vt xs i=some v/\Q v H
noncomputable def rIxS:R2:=λx y H Q=>∃z i c,x=.str z/\y=.int i/\z.length≤sizeLine/\vt z.cps.toList i=some c/\Q (.str ⟨#[c]⟩) H
theorem dQ:xH X (mo X.K):=by
 intro e f c s m H x y v u Q I B A h n;obtain⟨p,xs,i,z,rfl,rfl,C,E,q⟩:=h;cases B;obtain⟨t,rfl⟩:=A;obtain⟨k,r,pl,hz⟩:=I.list C;obtain⟨j,h1,h2,L,G,F⟩:=em E;obtain⟨w,o,g⟩:=r.get h2;have D:=r.length;have J:=Be;have d:EP X c m Q w s:=(z,H,I,g,q);by_cases h0:0≤i
 .have l:i.toNat=j:=by
   rw[seqIndex_of h0 F]at h1;exact Option.some.inj h1
  exact item_listR pl.isList h0 (!6) (by rw[l];simpa using o) d n
 .have l:(i+(k.toArray.size:Int)).toNat=j:=by
   rw[seqIndex_neg (!6) G]at h1;rw[size_toArray,<-D];exact Option.some.inj h1
  exact subscriptTail_builtinR (x:=w) pl.isList.typeIs slot_list_getitem.lookup
   (wpAny_getItem_list_neg (Q:=λr s'=>r=w/\EP X c m Q r s') pl.isList (!6) (by rw[size_toArray]<;>lia) (!6) (by rw[l];simpa using o) (rfl,d)) n
theorem dP:xH X (ik X.K):=by
 intro d e c s k H x y v u Q I m l h o;obtain⟨p,xs,i,z,rfl,rfl,A,C,q⟩:=h;cases m;obtain⟨t,rfl⟩:=l;obtain⟨n,r,pl,hz⟩:=I.tuple A;obtain⟨j,h1,h2,J,G,F⟩:=em C;obtain⟨w,D,f⟩:=r.get h2;have B:=r.length;have E:=Be;have g:EP X c k Q w s:=(z,H,I,f,q);exact subscriptTail_builtinR (x:=w) pl.typeIs slot_tuple_getitem.lookup
  (getItem_tuple (j:=j) (Q:=λr s'=>r=w/\EP X c k Q r s') pl (!6) (!6) (by rw[size_toArray,<-B];exact h1) (by simpa using D) (rfl,g)) o
theorem iH:xH X rIxS:=by
 intro d e f s A H x y v u Q I k g h l;obtain⟨z,i,c,rfl,rfl,hz,n,q⟩:=h;obtain⟨t,rfl⟩:=k;obtain⟨t',rfl⟩:=g;obtain⟨j,h1,h2,C,p,o⟩:=em n;have m:z.cps.toList.length=z.length:=by simp[length]
 rw[m]at h1 p o;have B:=Be;exact tail_any (typeIs_str s z t) slot_str_getitem.lookup (getItem_str (c:=c) (by
  have w:decide (i < -(2^63:Int))=false:=decide_eq_false (!6);have r:decide (i≥2^63)=false:=decide_eq_false (!6);rw[w,r,Bool.or_false]) (by rw[h1];simpa using h2) (.str ⟨#[c]⟩,H,I.tok _,(_,rfl),q)) l
noncomputable def Fs(K:Frag):R2:=λx y H Q=>mo K x y H Q\/ik K x y H Q\/rIxS x y H Q
theorem m3:xH X (Fs X.K):=dQ.or (dP.or iH)
theorem iu(c:List Value)(n j:Nat)(u:Value):mapSeq (·.setIfInBounds j u) {cls:=.type "list",data:=.seq c.toArray n}={cls:=.type "list",data:=.seq (c.set j u).toArray n}:=by
 simp[mapSeq]
theorem f'.lst{f:St}(I:f' X d f H s)(h:H p<*.lst xs):∃(c:List Value)(n:Nat),ac xs c/\s.heap.get? p=some {cls:=.type "list",data:=.seq c.toArray n}/\xs.length≤sizeLine:=by
 obtain⟨z,c,n,r,e⟩:=I.hok p _ h;exact(c,n,r,e,z)
theorem f'.lstUpd{g:St}{d its':List Value}(I:f' X c g H s)(h:H p<*.lst xs)(k:s.heap.get? p<*{cls:=.type "list",data:=.seq d.toArray n})(j:f {cls:=.type "list",data:=.seq d.toArray n}={cls:=.type "list",data:=.seq its'.toArray i})(r:ac ys its')(hz:ys.length≤sizeLine)(t:Nat):f' X c g (upd H p (.lst ys)) {s with heap:=s.heap.update p f,toks:=t}:=by
 have e:(s.heap.update p f).get? p<*{cls:=.type "list",data:=.seq its'.toArray i}:=by
  rw[get?_update_self f k (by rw[j]<;>rfl),j]
 refine I.write (x:=p) (e:=p) (by rw[h];trivial) (.inl rfl) (λb u l q=>(get?_update_other _ _ (Ne.symm l)).trans q) (_,e) ?_;exact(hz,its',i,r,e)
noncomputable def rSetL:V->V->V->Hp->(Hp->Prop)->Prop:=λo i v H Q=>∃p xs k j,o=.ref p/\i=.int k/\H p=some (.lst xs)/\xT xs.length k=some j/\Q (upd H p (.lst (xs.set j v)))
theorem Dk:pN X rSetL:=by
 intro c s x H o i v C D u Q I z A y h;obtain⟨p,xs,k,j,rfl,rfl,hp,B,q⟩:=h;cases z;obtain⟨t,rfl⟩:=A;obtain⟨d,n,r,e,hz⟩:=I.lst hp;obtain⟨h1,h2,m,l⟩:=jz B;have f:=r.length;have E:=Be;have w:f' X c x (upd H p (.lst (xs.set j v))) {s with heap:=s.heap.update p (mapSeq (·.setIfInBounds j u))}:=
  I.lstUpd hp e (iu d n j u) (r.set y j) (by rw[List.length_set];exact hz) s.toks
 by_cases h0:0≤k
 .have g:k.toNat=j:=by
   rw[seqIndex_of h0 l]at h1;exact Option.some.inj h1
  exact PySem.W.ki_setAt e h0 (!6) (by rw[size_toArray,<-f];exact l) (by rw[g];exact(_,w,q))
 .have g:(k+(d.toArray.size:Int)).toNat=j:=by
   rw[seqIndex_neg (!6) m]at h1;rw[size_toArray,<-f];exact Option.some.inj h1
  exact PySem.W.ki_setBack e (!6) (by rw[size_toArray,<-f];exact m) (!6) (by rw[g];exact(_,w,q))
theorem dz(lo c:Option Int)(n:Nat):(sliceBounds lo c none n).1=((HT.wP n 0 lo:Nat):Int)/\(sliceBounds lo c none n).2.1=((HT.wP n n c:Nat):Int)/\(sliceBounds lo c none n).2.2=1:=by
 refine(?_,?_,rfl)
 .cases lo with
  |none=>simp[sliceBounds,HT.wP]
  |some i=>
   simp only[sliceBounds,HT.wP,Option.getD_none,show(1:Int)>0 by decide,if_true];by_cases h:i<0
   .simp only[h,if_true]<;>lia
   .simp only[h,if_false]<;>lia
 .cases c with
  |none=>simp[sliceBounds,HT.wP]
  |some i=>
   simp only[sliceBounds,HT.wP,Option.getD_none,show(1:Int)>0 by decide,if_true];by_cases h:i<0
   .simp only[h,if_true]<;>lia
   .simp only[h,if_false]<;>lia
theorem Ft(c:List Value)(lo d:Option Int):slicePick c.toArray lo d none=((c.drop (HT.wP c.length 0 lo)).take (HT.wP c.length c.length d-HT.wP c.length 0 lo)).toArray:=by
 obtain⟨h1,h2,e⟩:=dz lo d c.toArray.size;unfold slicePick;rw[h1,h2,e];simp only[sliceRange_one,pick_run,size_toArray]<;>rfl
noncomputable def tY(K:Frag):V->Option Int->Option Int->Hp->VK->Prop:=λx lo hi H Q=>∃a xs,x=.ref a/\lb K H a xs/\∀p,H p=none->Q (.ref p) (upd H p (.lst (xn xs lo hi)))
theorem ji:Dj X (tY X.K):=by
 intro e s m H x v n vu lo d p Q I g l pl i h;obtain⟨a,xs,rfl,k,q⟩:=h;cases g;obtain⟨j,r,f,hz⟩:=I.list k;have c:=r.length;refine("list",_,slot_list_getitem.lookup,f.isList.typeIs,?_);refine wpAny_getItem_list_slice f.isList l pl i .none (!1) ?_ (by rw[size_toArray]<;>lia);rw[Ft,<-c];refine(.ref s⁻¹,_,I.laid (t':=s.toks) (o:=.lst (xn xs lo d)) (λb t q=>nb _ q) (le_refl _) ?_,rfl,q _ (I.hok.fresh (le_refl _)));exact(le_trans (gD xs lo d) hz,_,0,(r.drop (HT.wP xs.length 0 lo)).take (HT.wP xs.length xs.length d-HT.wP xs.length 0 lo),get?_push_size _ rfl)
noncomputable def yD:V->Bool
 |.non=>true
 |.bl _=>true
 |.int _=>true
 |.str _=>true
 |_=>false
noncomputable def yE:V->V->Bool
 |.non,.non=>true
 |.bl a,.bl b=>a==b
 |.bl a,.int b=>(if a then 1 else 0)==b
 |.int a,.bl b=>a==(if b then 1 else 0)
 |.int a,.int b=>a==b
 |.str a,.str b=>a==b
 |_,_=>false
theorem zi(d:ad y u)(c:ad x v)(f:yD y=true)(e:yD x=true):SeqAt.EqAt A s u v (yE y x):=by
 cases y with
 |non=>
  cases d;cases x with
  |non=>cases c;exact SeqAt.EqAt.same _
  |bl b=>cases c;exact SeqAt.EqAt.none_bool b
  |int b=>obtain⟨t,rfl⟩:=c;exact SeqAt.EqAt.none_int b t
  |str b=>obtain⟨t,rfl⟩:=c;exact SeqAt.EqAt.none_str b t
  |_=>exact absurd (show false=true from e) Bool.false_ne_true
 |bl a=>
  cases d;cases x with
  |non=>cases c;exact SeqAt.EqAt.bool_none a
  |bl b=>cases c;exact SeqAt.EqAt.bool_bool a b
  |int b=>obtain⟨t,rfl⟩:=c;exact SeqAt.EqAt.bool_int a b t
  |str b=>obtain⟨t,rfl⟩:=c;exact SeqAt.EqAt.bool_str a b t
  |_=>exact absurd (show false=true from e) Bool.false_ne_true
 |int a=>
  obtain⟨t',rfl⟩:=d;cases x with
  |non=>cases c;exact SeqAt.EqAt.int_none a t'
  |bl b=>cases c;exact SeqAt.EqAt.int_bool a t' b
  |int b=>obtain⟨t,rfl⟩:=c;exact SeqAt.EqAt.int_int a t' b t
  |str b=>obtain⟨t,rfl⟩:=c;exact SeqAt.EqAt.int_str a t' b t
  |_=>exact absurd (show false=true from e) Bool.false_ne_true
 |str a=>
  obtain⟨t',rfl⟩:=d;cases x with
  |non=>cases c;exact SeqAt.EqAt.str_none a t'
  |bl b=>cases c;exact SeqAt.EqAt.str_bool a t' b
  |int b=>obtain⟨t,rfl⟩:=c;exact SeqAt.EqAt.str_int a t' b t
  |str b=>obtain⟨t,rfl⟩:=c;exact SeqAt.EqAt.str_str a t' b t
  |_=>exact absurd (show false=true from e) Bool.false_ne_true
 |_=>exact absurd (show false=true from f) Bool.false_ne_true
noncomputable def z_(x:V)(u:Value):Bool:=match u with
 |.none=>yE .non x
 |.bool b=>yE (.bl b) x
 |.int i _=>yE (.int i) x
 |.str z _=>yE (.str z) x
 |_=>false
theorem zj(r:ad y u)(f:yD y=true):z_ x u=yE y x:=by
 cases y with
 |non=>cases r;rfl
 |bl b=>cases r;rfl
 |int i=>obtain⟨t,rfl⟩:=r;rfl
 |str z=>obtain⟨t,rfl⟩:=r;rfl
 |_=>exact absurd (show false=true from f) Bool.false_ne_true
theorem eC{x:V}:∀{xs:List V}{c:List Value},ac xs c->xs.all yD=true->c.any (z_ x)=xs.any λy=>yE y x
 |_,_,.nil,_=>rfl
 |y::xs,u::c,.cons r t,f=>by
  rw[List.all_cons,and_eq_true]at f;rw[List.any_cons,List.any_cons,zj r f.1,eC t f.2]
theorem vN{A:Around}{s:Shared}{x:V}{v:Value}(e:ad x v)(g:yD x=true):∀{xs:List V}{d:List Value},ac xs d->xs.all yD=true->∀u∈d,SeqAt.EqAt A s u v (z_ x u)
 |_,_,.nil,_=>λu c=>by cases c
 |y::xs,u::d,.cons r t,f=>λh c=>by
  rw[List.all_cons,and_eq_true]at f;rcases mem_cons.mp c with rfl|c
  .rw [zj r f.1];exact zi r e f.1 g
  .exact vN e g t f.2 h c
noncomputable def AU(x:V)(xs:List V):Bool:=xs.any λy=>yE y x
noncomputable def EH(K:Frag)(neg:Bool):R2:=λx y H Q=>∃p xs,y=.ref p/\(lb K H p xs\/pa K H p xs)/\yD x=true/\xs.all yD=true/\Q (.bl (if neg then !AU x xs else AU x xs)) H
theorem cb:vd X (compareOp .In) (EH X.K false):=by
 intro g s k H x y v u Q I f j h;obtain⟨p,xs,rfl,d,i,e,q⟩:=h;cases j;rcases d with d|d
 .obtain ⟨c,r,pl,hz⟩:=I.list d;refine SeqAt.in_listAt (z_ x) pl.isList (λw hw=>vN f i r e w (by simpa using hw)) (.bl _,H,I,rfl,?_);rw[show c.toArray.any (z_ x)=c.any (z_ x) by simp,eC r e];exact q
 .obtain ⟨c,r,pl,hz⟩:=I.tuple d;refine SeqAt.in_tupleAt (z_ x) pl (λw hw=>vN f i r e w (by simpa using hw)) (.bl _,H,I,rfl,?_);rw[show c.toArray.any (z_ x)=c.any (z_ x) by simp,eC r e];exact q
theorem Bi:wN X (.builtin "len") (λxs H Q=>∃p ys,xs=[.ref p]/\(lb X.K H p ys\/pa X.K H p ys)/\Q (.int ys.length) H):=by
 intro g s j H xs k Q I r h;obtain⟨p,ys,rfl,d,q⟩:=h;obtain⟨u,rfl,i⟩:=xm r;cases i;have l:=Be;rcases d with d|d
 .obtain ⟨f,e,pl,hz⟩:=I.list d;have c:=e.length;exact Calls.call_len_list pl.isList (by simp only[size_toArray]<;>lia) (.int ys.length,H,I.tok _,(s.toks+1,by rw[size_toArray,c]),q)
 .obtain ⟨f,e,pl,hz⟩:=I.tuple d;have c:=e.length;exact len_tuple pl (by simp only[size_toArray]<;>lia) (.int ys.length,H,I.tok _,(s.toks+1,by rw[size_toArray,c]),q)
theorem EI:wN X (.builtin "len") (λxs H Q=>∃z,xs=[.str z]/\z.length≤sizeLine/\Q (.int z.length) H):=by
 intro c s d H xs e Q I r h;obtain⟨z,rfl,hz,q⟩:=h;obtain⟨u,rfl,t,rfl⟩:=xm r;have f:=Be;exact len_str (!6) (.int z.length,H,I.tok _,(_,rfl),q)
theorem EJ:wN X (.type "list") (λxs H Q=>∃p ys,xs=[.ref p]/\(lb X.K H p ys\/pa X.K H p ys)/\∀l,H l=none->Q (.ref l) (upd H l (.lst ys))):=by
 intro g s z H xs B Q I r h;obtain⟨p,ys,rfl,j,q⟩:=h;obtain⟨u,rfl,A⟩:=xm r;cases A;have m:∀(c:List Value),ac ys c->ys.length≤sizeLine->∀(h':Heap)(f:Nat),(∀b y,s.heap.get? b<*y->h'.get? b<*y)->
   h'.get? s⁻¹<*{cls:=.type "list",dict:=none,data:=.seq c.toArray f,slots:=#[]}->EP X g z Q (.ref s⁻¹) {s with heap:=h'}:=λc d hz h' f i e=>
  (.ref s⁻¹,_,I.laid (t':=s.toks) i (le_refl _) (show uS X.prog X.w _ h' _ (.lst ys)from(hz,c,f,d,e)),rfl,q _ (I.hok.fresh (le_refl _)))
 rcases j with j|j
 .obtain ⟨c,d,pl,hz⟩:=I.list j;have k:=d.length;obtain⟨o,t,x,n,v⟩:=pl.isList;exact call_list_seq p (.inl rfl) t x v (λh' f i e=>m c d hz h' f i e) (by simp only[size_toArray]<;>lia)
 .obtain ⟨c,d,pl,hz⟩:=I.tuple j;have k:=d.length;obtain⟨o,t,x,n,v⟩:=pl;exact call_list_seq p (.inr rfl) t x v (λh' f i e=>m c d hz h' f i e) (by simp only[size_toArray]<;>lia)
theorem Aa:wN X (.type "tuple") (λxs H Q=>∃p ys,xs=[.ref p]/\((lb X.K H p ys/\∀l,H l=none->Q (.ref l) (upd H l (.tup ys)))\/(pa X.K H p ys/\Q (.ref p) H))):=by
 intro c s i H xs v Q I r h;obtain⟨p,ys,rfl,h⟩:=h;obtain⟨u,rfl,m⟩:=xm r;cases m;rcases h with⟨g,q⟩|⟨g,q⟩
 .obtain ⟨d,f,pl,hz⟩:=I.list g;have j:=f.length;refine call_tuple_list pl.isList (λh' n=>?_) (by simp only[size_toArray]<;>lia);have k:f' X c i H {s with heap:=h'}:=I.kept (t':=s.toks) n;have t:f' X c i (upd H h'.objs.size (.tup ys)) {s with heap:=h'.push {cls:=.type "tuple",data:=.seq d.toArray} }:=
   k.laid (t':=s.toks) (λb o e=>nb _ e) (le_refl _) (show uS X.prog X.w _ _ _ (.tup ys)from(hz,d,f,IsTup.new _ _))
  exact(.ref h'.objs.size,_,t,rfl,q _ (k.hok.fresh (le_refl _)))
 .obtain ⟨d,f,pl,hz⟩:=I.tuple g;exact call_tuple_same pl (.ref p,H,I,rfl,q)
noncomputable def EK(K:Frag)(T:String)(x:V)(H:Hp):Prop:=match x with
 |.str _=>T="str"
 |.int _=>T="int"
 |.ref p=>(T="list"/\∃xs,lb K H p xs)\/(T="tuple"/\∃o,K.lookup p=some o/\o.cls=.type "tuple"/\o.dict=none) \/
   (T="dict"/\((∃kvs,H p<*.dK kvs)\/∃kvs,H p<*.dT kvs))\/(T="set"/\∃S n,H p<*.set S n)
 |_=>False
theorem qi{l:St}(I:f' X j l H s)(r:ad x v)(ty:EK X.K T x H):s.TypeIs v T/\∀a,v=.ref a->∃k,s.heap.get? a=some k/\k.dict=none:=by
 cases x with
 |str z=>
  obtain⟨t,rfl⟩:=r;cases(show T="str" from ty);exact(typeIs_str s z t,λ_ e=>nomatch e)
 |int i=>
  obtain⟨t,rfl⟩:=r;cases(show T="int" from ty);exact(typeIs_int s i t,λ_ e=>nomatch e)
 |ref p=>
  cases r;rcases ty with⟨rfl,xs,q⟩|⟨rfl,o,d,u,g⟩|⟨rfl,d⟩|⟨rfl,S,n,d⟩
  .obtain ⟨m,_,pl,_⟩:=I.list q;refine(pl.isList.typeIs,λa e=>?_);cases e;obtain⟨o,n,e,c,g,_⟩:=pl;exact(o,e,g)
  .refine ((o,I.kIn p o d,u),λa e=>?_);cases e;exact(o,I.kIn _ o d,g)
  .have z:∃o,s.heap.get? p=some o/\o.ExactDict:=by
    rcases d with⟨kvs,d⟩|⟨kvs,d⟩
    .obtain ⟨_,_,_,_,o,_,_,e,f,_⟩:=I.hok p _ d;exact(o,e,f)
    .obtain ⟨_,_,_,_,o,_,_,e,f,_⟩:=I.hok p _ d;exact(o,e,f)
   obtain⟨o,e,f⟩:=z;refine((o,e,f.1),λa h=>?_);cases h;exact(o,e,f.2.1)
  .obtain ⟨o,_,_,_,e,f,_⟩:=I.hok p _ d;refine((o,e,f.1),λa h=>?_);cases h;exact(o,e,f.2.1)
 |_=>exact False.elim ty
noncomputable def xa(K:Frag)(T:String)(r:V->List V->Hp->VK->Prop)(to:TE)(t:TA):TE:=λσ H Q=>to σ H λx H1=>EK K T x H1/\t σ H1 λxs H2=>r x xs H2 Q
variable{o e:Expr}{es:List Expr}{to:TE}{t:TA}{name:Str}{apos cpos:Pos}{T id:String}{r:V->List V->Hp->VK->Prop}
theorem be(D:PlainAttrs T)(i:Slot T name id)(l:typeOf (.builtin id)=pure (.type "method_descriptor"))(G:EG X id r)(F:PE X o to)(J:PA X (e::es) t)(g:attributeBase o name X.env (eval o X.env)=eval o X.env:=by rfl)(j:((backTo cpos (starEach (e::es) X.env)).all (λx=>!x.1)&&(backToKw cpos (keywordEach [] X.env)).all (λx=>x.1.isSome)
   && decide ((e::es).length+([]:List Keyword).length+(if ([]:List Keyword).isEmpty then 0 else 1)<30))=true:=by rfl)(f:(apos.endLine==cpos.line)=true:=by rfl)(E:starEach (e::es) X.env=(false,eval e X.env,)::starEach es X.env:=by rfl)(d:(backTo cpos (starEach es X.env)).any (·.1)=false:=by rfl):PE X (.Call (.Attribute o name apos) (e::es) [] cpos) (xa X.K T r to t):=by
 intro c s k H Q I h;refine wpAny_Call_method_late g j f rfl (n0 (F c s k H _ I h) λv z n=>?_);obtain⟨x,N,u,p,ty,C⟩:=n;obtain⟨h1,h2⟩:=qi u p ty;refine(T,id,D,i,l,h1,h2,?_);have q:=J cpos c z k N _ u C;rw[E]at q⊢;refine Calls.callWith_builtin (by show(false||(backTo cpos (starEach es X.env)).any (·.1))=false;rw[d]<;>rfl) (Calls.evalArgs_plain ?_);exact n0 q λy s2 m=>by obtain⟨w,M,L,A,B⟩:=m;exact G c s2 k M x w v y Q L p A B
end
noncomputable def Dl(X:Cx)(id:String)(r:V->List V->Hp->VK->Prop):Prop:=
 ∀(pins:List (Addr×Obj))(s:Shared)(σ:St)(H:Hp)(x:V)(xs:List V)(v:Value)(us:List Value)(Q:VK),f' X pins σ H s->ad x v->ac xs us->r x xs H Q->
  wpAny (model X.prog X.w) X.A (call (.builtin id) (v::us)) (EP X pins σ Q) X.xe s
theorem ac.one:∀{x:V}{a:List Value},ac [x] a->∃u,a=[u]/\ad x u
 |_,_,.cons r .nil=>(_,rfl,r)
section
variable{X:Cx}{pins:List (Addr×Obj)}{σ:St}{H:Hp}{s:Shared}{l b:Addr}{xs ys zs:List V}
theorem f'.lset{a its':List Value}(I:f' X pins σ H s)(i:H l<*.lst xs)(e:s.heap.get? l<*{cls:=.type "list",data:=.seq a.toArray n})(g:f a.toArray=its'.toArray)(c:ac ys its')(hz:ys.length≤sizeLine):f' X pins σ (upd H l (.lst ys)) {s with heap:=s.heap.update l (mapSeq f),toks:=t'}:=by
 have q:=PySem.IsL.update e f;rw[g]at q;refine I.write (x:=l) (e:=l) (by rw[i];exact trivial) (.inl rfl) (λj u h d=>(get?_update_other s.heap (mapSeq f) (Ne.symm h)).trans d) (_,q) ?_;exact(hz,its',_,c,q)
theorem f'.lnew(I:f' X pins σ H s)(c:ac ys a)(hz:ys.length≤sizeLine):f' X pins σ (upd H s⁻¹ (.lst ys)) {s with heap:=s.heap.push {cls:=.type "list",data:=.seq a.toArray},toks:=t'}:=
 I.laid (λ_ _ q=>nb _ q) (le_refl _) (hz,a,0,c,get?_push_size _ rfl)
theorem f'.fresh(I:f' X pins σ H s):H s⁻¹=none:=I.hok.fresh (le_refl _)
theorem f'.lstM(I:f' X pins σ H s)(c:H l<*.lst xs):xs.length≤sizeLine/\∃(a:List Value)(n:Nat),ac xs a/\xs.length=a.length/\s.heap.get? l<*{cls:=.type "list",data:=.seq a.toArray n}:=by
 obtain⟨z,a,n,r,e⟩:=I.hok l _ c;exact(z,a,n,r,r.length,e)
end
section
variable{X:Cx}
noncomputable def rAppend:V->List V->Hp->VK->Prop:=λx vs H Q=>∃l xs y,x=.ref l/\vs=[y]/\H l=some (.lst xs)/\xs.length<sizeLine/\Q .non (upd H l (.lst (xs++[y])))
theorem Dn:Dl X "list.append" rAppend:=by
 intro b s i H x j v k Q I d f h;obtain⟨l,xs,y,rfl,rfl,c,hz,q⟩:=h;cases d;obtain⟨u,rfl,g⟩:=f.one;obtain⟨z,a,n,r,m,e⟩:=I.lstM c;refine call_meets F.slot_list_append (_,e,rfl) F.entry_list_append (F.args_list_append_2 _ _) (PySem.list_append l a.toArray n u (by rw[size_toArray];lia)) (e,?_);refine(.non,_,I.lset (its':=a++[u]) c e (!1) (r.append (.cons g .nil)) ?_,rfl,q);rw[uA,List.length_singleton];lia
noncomputable def rCat:R2:=λx y H Q=>∃l b xs zs,x=.ref l/\y=.ref b/\H l=some (.lst xs)/\H b=some (.lst zs)/\xs.length+zs.length≤sizeLine/\∀p,H p=none->Q (.ref p) (upd H p (.lst (xs++zs)))
theorem mK:vd X (binaryOp .Add) rCat:=by
 intro d s t H x y v u Q I g f h;obtain⟨l,b,xs,zs,rfl,rfl,k,m,hz,q⟩:=h;cases g;cases f;obtain⟨z,c,n,r,B,e⟩:=I.lstM k;obtain⟨w,a,A,i,j,p⟩:=I.lstM m;refine PySem.P.add_list e p ?_ (by rw[size_toArray,size_toArray];lia);have o:c.toArray++a.toArray=(c++a).toArray:=by simp
 rw[o];exact(.ref _,_,I.lnew (t':=s.toks) (r.append i) (by rw[uA];omega),rfl,q _ I.fresh)
end
section
variable{prog:Program}{w:World}{A:Around}{E:Value->Shared->Prop}{s:Shared}
end
section
variable{X:Cx}
end
end L2
namespace Att
open PySem PySem.W PySem.Calls PyProof.Rows
theorem Fu:∀(ns:List Int)(c:List Value),WellAll P h c (ns.map WData.int)->IntsAre c ns:=by
 intro ns;induction ns with
 |nil=>
  intro c w;rw[List.map_nil]at w;cases w;exact .nil
 |cons n ns d=>
  intro c w;rw[map_cons]at w;cases w with
  |cons a b=>
   cases a;exact .cons _ _ (d _ b)
theorem j9{l:OpenLaw}(w:l.most<*n)(c:l.row.toRowW.claim.pre b=true)(k:WellAll P h e b):∃a o ns,e=[Value.ref a]/\b=[WData.list (ns.map WData.int)]/\h.get? a=some {cls:=.type "list",data:=.seq o.toArray}/\IntsAre o ns/\ns.length≤n:=by
 have m:WShape.hasAll [] b [.list .int]=true:=(pre_splitW c).1;have p:l.pre.holds [] {args:=b}=true:=(pre_splitW c).2;obtain⟨d,r,rfl,h1,h2⟩:=hasAllW_cons m;obtain rfl:=hasAllW_nil h2;obtain⟨xs,rfl,x⟩:=hasW_list h1;obtain⟨ns,rfl⟩:=items_int x;have f:ns.length≤n:=by
  unfold OpenLaw.pre at p;have j:(WTm.not (.lt (.lit (.int (n:Int))) (.len (.arg 0)))).holds [] {args:=[.list (ns.map .int)]}=true:=by
   have j:=(holds_andW p).1;rw[w]at j;exact j
  have i:=condW_of j (w_not (w_lt w_lit (w_len_list (w_arg rfl))));rw[j_]at i;refine le_of_not_lt λq=>?_;have u:(n:Int)<((ns.length:Nat):Int):=by omega
  first
   |(rw[decide_eq_true u]at i;exact absurd i (!0))
   |(simp at i;omega)
 cases k with
 |cons t s=>
  cases s;cases t with
  |list v g=>exact(_,_,ns,rfl,rfl,v,Fu ns _ g,f)
theorem kl(l:OpenLaw)(a:List WData):l.row.toRowW.claim.post a (.bool true) a=true:=
 postW_of (r:=l.row.toRowW) (X:=(true==true))
  (show WShape.has [] (.bool true) .bool=true by first|rfl|decide|simp[WShape.has,WShape.arms,WShape.armsAll])
  (show(WTm.eq .res (.lit (.bool true))).value [] {args:=a,res:=some (.bool true),after:=a}<*.bool (true==true)from w_eq_bool (w_res rfl) w_lit) rfl
theorem wQ{l:OpenLaw}(D:l.most<*n)(t:d.params.defaults=[])(call:∀(w:World)(c b:Shared)(mg m:Str->Option Value)(fa:Addr)(o:Obj)(pm k doc:Value)(a:Addr)(g:List Value)(ns:List Int),
   Ground q loose [] XP w c mg m b.heap->YP w b.heap->
   b.heap.get? fa<*o->o.data=.func (docDef d.name d.params d.body d.scope pm k doc)->b.heap.CodeRec k d.name->mg d.name<*.ref fa->
   b.heap.get? a<*{cls:=.type "list",data:=.seq g.toArray}->IntsAre g ns->ns.length≤n->b.gens=#[]->
   codeAny (model l.prog w) callerA (.call (.ref fa) ([.ref a],[])) (λr s'=>r=.ok (.ret (.bool true))/\OldK b.heap s'.heap/\s'.os=b.os/\AllBare s'.gens) b):WalkO q loose XP YP l.row.toRowW d [] (λf g=>PySem.call f g):=by
 intro w c b mg m G Y fa o pm k doc M kV C I u y s H z v N h x A p F;obtain rfl:M=.none:=Dflts.none y t;obtain rfl:kV=.none:=Dflts.noKw y;obtain⟨a,g,ns,rfl,rfl,i,e,j⟩:=j9 D h p;refine enter_call (codeAny_mono (call w c b mg m fa o pm k doc a g ns G Y C (fd_plain I) u s i e j H) λr s' B=>?_);obtain⟨rfl,h2,L,J⟩:=B;exact(.inl (.bool true,.bool true,[],rfl,λ_=>rfl,.bool true,kl l _,λ_=>(List.Pairwise.nil,λ_ E=>(nomatch E))),h2,L,J)
section
variable{prog:Program}{w:World}{A:Around}{E:Value->Shared->Prop}{s:Shared}{K:Frag}
end
end Att
namespace L2
open PySem PySem.Spec PyProof.Rows
theorem c_W:∀{a:List Value}{ns:List Int},IntsAre a ns->ac (ns.map V.int) a
 |_,_,.nil=>.nil
 |_,_,.cons n t h=>.cons (t,rfl) (c_W h)
noncomputable def jC(s:Stmt)(j:Nat):Stmt:=match s with
 |.ClassDef _ _ _ body _ _ _ _ _ _ _=>body.getD j (.Pass (0,0,0,0))
 |_=>.Pass (0,0,0,0)
noncomputable def nt(s:Stmt):Arguments:=match s with
 |.FunctionDef _ a _ _ _ _ _ _ _ _=>a
 |_=>{posonlyargs:=[],args:=[],vararg:=none,kwonlyargs:=[],kw_defaults:=[],kwarg:=none,defaults:=[]}
noncomputable def ln(s:Stmt):List Stmt:=match s with
 |.FunctionDef _ _ b _ _ _ _ _ _ _=>b
 |_=>[]
noncomputable def h7(s:Stmt):Scope:=match s with
 |.FunctionDef _ _ _ _ _ _ sc _ _ _=>sc
 |_=>{kind:=.function,names:=[],isGenerator:=false,isCoroutine:=false}
abbrev nq:CXT:=λ_ _ _ _ _ _=>False
abbrev E0:XK:=λ_ _ _=>False
theorem jq:z8 nq X E0:=λ_ _ _ _ _ _ _ h=>h.elim
structure tS(K:Frag)(x qual:Str)(st:Stmt)(f:Addr)(fd:FuncData):Prop where
 ex:∃(oc:Value)(od:Option Addr)(kV doc pm:Value)(an:Option Addr)(cdv ct:Value)(osl:Array (Option Value)),
  fd=fnOf x qual (nt st) (ln st) (h7 st) .none kV doc pm an cdv ct/\K.lookup f=some (oc,od,.func fd,osl)/\codeIn K cdv qual=true
 kp:keepIn K (.ref f)=true
section
variable{P:Program}{w:World}{K:Frag}{mg:Str->Option Value}{base:Heap}
theorem tS.ok{st:Stmt}(F:tS K x qual st f l)(S:s_ N ps (h7 st))(len:∀b H Q E,g b H Q E->b.length=ps.length)(c:∀(cdv:Value)(A:Around)(a:List Env)(s:Shared)(H:Hp)(b:List V)(Q:VK)(E:XK),ah k (A.deeper (envOfC qual (h7 st) s⁻¹ f cdv))->g b H Q E->
   ∃t,vH (aK nq P w K mg base N qual (h7 st) f cdv A a s H E).nox (ln st) t/\t {nx:=λ_ H'=>Q .non H',rt:=Q} (start N b) H):aa P w K mg base nq (k+1) f l ps g:=by
 obtain⟨n,m,kV,doc,pm,an,cdv,ct,i,rfl,lk,e⟩:=F.ex;refine gj lk e S len λA a s H b Q E j d=>?_;obtain⟨t,h,q⟩:=c cdv A a s H b Q E j d;exact(t,h.nox,q)
theorem tS.binds{st:Stmt}(F:tS K x qual st f d)(h:∀(kV doc pm:Value)(an:Option Addr)(cdv ct:Value)(a:List Value),a.length=ps.length->bindArgs (fnOf x qual (nt st) (ln st) (h7 st) .none kV doc pm an cdv ct) (a,[])=pure (ps.zip a)):vw K d ps []:=by
 obtain⟨g,e,kV,doc,pm,an,cdv,ct,b,rfl,lk,c⟩:=F.ex;exact .all (h kV doc pm an cdv ct)
theorem xU{st:Stmt}{kV doc pm cdv ct:Value}(l:K.lookup f<*(d,b,.func (fnOf x qual (nt st) (ln st) (h7 st) .none kV doc pm an cdv ct),a))(c:codeIn K cdv qual=true)(k:keepIn K (.ref f)=true):tS K x qual st f (fnOf x qual (nt st) (ln st) (h7 st) .none kV doc pm an cdv ct):=((d,b,kV,doc,pm,an,cdv,ct,a,rfl,l,c),k)
end
theorem Cr(h:n≤1000):n<sizeLine:=lt_of_le_of_lt h (!0)
section
variable{X:Cx}
theorem pv(i:Nat){pos:Pos}(d:X.N[i]?<*x:=by rfl)(b:AQ X.env.scope x:=by first|exact Or.inl rfl|exact Or.inr (Or.inl rfl)|exact Or.inr (Or.inr rfl))(c:(x==("__debug__":Str))=false:=by decide)(a:(x==("__classdict__":Str))=false:=by decide):PE X (.Name x pos) (aL i):=qA d b c a
end
theorem ae{A B:Prop}(h:B):if false=true then A else B:=by
 rw[if_neg Bool.false_ne_true];exact h
theorem ai{A B:Prop}(h:A):if true=true then A else B:=by
 rw[if_pos rfl];exact h
theorem xp{c A B:Prop}[Decidable c](a:c)(h:B):if (!decide c)=true then A else B:=by
 rw[decide_eq_true a];exact ae h
noncomputable def a'(H H':Hp):Prop:=∀b o,H b<*o->H' b<*o
theorem a'.refl(H:Hp):a' H H:=λ_ _ h=>h
theorem a'.trans(a:a' H e)(b:a' e d):a' H d:=λc o h=>b c o (a c o h)
theorem a'.seq{K:Frag}(e:a' H H')(h:lb K H a xs):lb K H' a xs:=by
 rcases h with(h|⟨o,h⟩)|h
 .exact .inl (.inl (e _ _ h))
 .exact .inl (.inr (o,e _ _ h))
 .exact .inr h
end L2
set_option Elab.async false
set_option maxRecDepth 100000
set_option maxHeartbeats 4000000
namespace L2
open PySem PySem.Spec PyProof.Rows
noncomputable def Ab(x:Str):It:=(λi _=>i<x.length,λi H v H'=>H'=H/\∃c,x.cps[i]?=some c/\v=.str ⟨#[c]⟩,λi _=>x.length≤i)
theorem jX{K:Frag}(x:Str)(t:Tok)(it:Addr):bP P w K L (Ab x) [it] it (λi h=>h.IsStrIter it "str_ascii_iterator" x t i)  where
 mem:=by simp
 obj:=λi h st b g=>by
  have e:b=it:=by simpa using g
  subst e;obtain⟨o,e,c,d⟩:=st;exact(o,e,λv z=>by rw[d]at z;cases z)
 keep:=λi h h' st k=>by
  obtain⟨o,e,r⟩:=st;exact(o,k it (!1) o e,r)
 item:=by
  intro X m hw n C i a s B H E I l st f;subst m hw n;have f:i<x.cps.size:=f;obtain⟨A,y,F,u,q,p⟩:=l it (!1);refine wpAny_pyNext_ascii_item st (c:=x.cps[i]) (by simp[f]) λh' j D=>?_;have J:f' X a B H {s with heap:=h',toks:=s.toks+1}:=I.turned (t':=s.toks+1) (λb o g e=>(D.2 b g).trans e) A y u q p;obtain⟨o,e,c,d⟩:=id j;exact(_,rfl,cE (s:={s with heap:=h',toks:=s.toks+1}) e c d (!0) (.str ⟨#[x.cps[i]]⟩,H,J,(_,rfl),(rfl,_,by simp[f],rfl),j,λb g=>(l b g).1))
 done:=by
  intro X m hw n C i a s B H E I l st f;subst m hw n;have f:x.cps.size≤i:=f;obtain⟨A,y,F,u,q,p⟩:=l it (!1);exact wpAny_pyNext_ascii_end (I.ok.hd C) st (by simp[f]) λh' G=>(rfl,I.turned (t':=s.toks) (λb o g e=>G b o g e) A y u q p)
 self:=λ_ _ _ _ _ st h=>wpAny_pyIter_striter_ascii st h
theorem jW{K:Frag}(x:Str)(t:Tok)(it:Addr):bP P w K L (Ab x) [it] it (λi h=>h.IsStrIter it "str_iterator" x t i)  where
 mem:=by simp
 obj:=λi h st b g=>by
  have e:b=it:=by simpa using g
  subst e;obtain⟨o,e,c,d⟩:=st;exact(o,e,λv z=>by rw[d]at z;cases z)
 keep:=λi h h' st k=>by
  obtain⟨o,e,r⟩:=st;exact(o,k it (!1) o e,r)
 item:=by
  intro X m hw n C i a s B H E I l st f;subst m hw n;have f:i<x.cps.size:=f;obtain⟨A,y,F,u,q,p⟩:=l it (!1);refine wpAny_pyNext_wide_item st (c:=x.cps[i]) (by simp[f]) λh' j D=>?_;have J:f' X a B H {s with heap:=h',toks:=s.toks+1}:=I.turned (t':=s.toks+1) (λb o g e=>(D.2 b g).trans e) A y u q p;obtain⟨o,e,c,d⟩:=id j;exact(_,rfl,cE (s:={s with heap:=h',toks:=s.toks+1}) e c d (!0) (.str ⟨#[x.cps[i]]⟩,H,J,(_,rfl),(rfl,_,by simp[f],rfl),j,λb g=>(l b g).1))
 done:=by
  intro X m hw n C i a s B H E I l st f;subst m hw n;have f:x.cps.size≤i:=f;obtain⟨A,y,F,u,q,p⟩:=l it (!1);exact wpAny_pyNext_wide_end (I.ok.hd C) st (by simp[f]) λh' G=>(rfl,I.turned (t':=s.toks) (λb o g e=>G b o g e) A y u q p)
 self:=λ_ _ _ _ _ st h=>wpAny_pyIter_striter_wide st h
noncomputable def sR(tl:TE):TI:=λσ H R=>tl σ H λv H1=>∃x,v=.str x/\R (Ab x) H1
theorem bA(r:PE X l m):PI X u l (sR m):=by
 intro d s k H R I h;refine n0 (r d s k H _ I h) λv a g=>?_;obtain⟨y,j,c,n,p⟩:=g;obtain⟨x,rfl,q⟩:=p;obtain⟨t,rfl⟩:=n;cases i:x.cps.all (· < 128)
 .refine wpAny_pyIter_wide i ?_;refine(a⁻¹,[a⁻¹],_,_,j,rfl,c.kept (t':=a.toks) λb o e=>nb _ e,jW x t _,(_,get?_push_size _ rfl,rfl,rfl),λb f=>?_,q);have e:b=a⁻¹:=by simpa using f
  subst e;exact c.fpOk (le_refl _) (c.hok.fresh (le_refl _))
 .refine wpAny_pyIter_ascii i ?_;refine(a⁻¹,[a⁻¹],_,_,j,rfl,c.kept (t':=a.toks) λb o e=>nb _ e,jX x t _,(_,get?_push_size _ rfl,rfl,rfl),λb f=>?_,q);have e:b=a⁻¹:=by simpa using f
  subst e;exact c.fpOk (le_refl _) (c.hok.fresh (le_refl _))
theorem Cs{g:TG}{k:TS}{D:Ends}(f:Nat->St->Hp->Prop)(h0:f 0 a H)(o:∀i c a H,x.cps[i]?<*c->f i a H->g (.str ⟨#[c]⟩) a H λb j=>k {D with nx:=f (i+1),ct:=f (i+1),bk:=D.nx} b j)(r:∀a H,f x.length a H->D.nx a H):∃W:Nat->Nat->St->Hp->Prop,(∃m,W 0 m a H)/\∀i m a H,W i m a H->
   ((Ab x).stop i H/\D.nx a H)\/((Ab x).go i H/\∃N:St->Hp->Prop,(∀d H',N d H'->∃l,l<m/\W (i+1) l d H')/\∀y H',(Ab x).yld i H y H'->g y a H' λb j=>k {D with nx:=N,ct:=N,bk:=D.nx} b j):=by
 refine(λi m a H=>m=x.length-i/\i≤x.length/\f i a H,(x.length,!1,zero_le _,h0),?_);rintro i m a H⟨rfl,u,p⟩;by_cases h:i<x.length
 .refine .inr (h,f (i+1),λd H' n=>(x.length-(i+1),!2,rfl,h,n),λy H' q=>?_);obtain⟨e,c,s,t⟩:=q;subst e t;exact o i c a _ s p
 .have e:i=x.length:=by lia
  subst e;exact .inl (le_refl _,r a H p)
section
variable{X:Cx}
noncomputable def rSlS:V->Option Int->Option Int->Hp->VK->Prop:=λx lo hi H Q=>∃z,x=.str z/\z.length≤sizeLine/\Q (.str (Txt.slice z lo hi)) H
theorem ma:Dj X rSlS:=by
 intro b s g H x v r vu lo p w Q I m n pl f h;obtain⟨z,rfl,hz,q⟩:=h;obtain⟨t,rfl⟩:=m;refine("str",_,PySem.F.slot_str_getitem.lookup,typeIs_str _ _ _,?_);have a:∀t' k,EP X b g Q (.str (Txt.slice z lo p) t') {s with toks:=k}:=λt' k=>(.str _,H,I.tok k,(t',rfl),q);obtain⟨o,c,e,d⟩:=n;cases pl with
 |none=>
  cases f with
  |none=>exact wpAny_getItem_str_slice (l:=none) (u:=none) (st:=none) (o,c,e,d) rfl (post_val_or_str (le_trans (Txt.slice_le z _ _) hz,λt' k=>a t' k))
  |int j uj=>exact wpAny_getItem_str_slice (l:=none) (u:=some (j,uj,)) (st:=none) (o,c,e,d) rfl (post_val_or_str (le_trans (Txt.slice_le z _ _) hz,λt' k=>a t' k))
 |int i ui=>
  cases f with
  |none=>exact wpAny_getItem_str_slice (l:=some (i,ui,)) (u:=none) (st:=none) (o,c,e,d) rfl (post_val_or_str (le_trans (Txt.slice_le z _ _) hz,λt' k=>a t' k))
  |int j uj=>exact wpAny_getItem_str_slice (l:=some (i,ui,)) (u:=some (j,uj,)) (st:=none) (o,c,e,d) rfl (post_val_or_str (le_trans (Txt.slice_le z _ _) hz,λt' k=>a t' k))
theorem Ct:EG X "str.find" (λx xs H Q=>∃z y,x=.str z/\xs=[.str y]/\Q (.int (Txt.find z y)) H):=by
 intro a s c H x xs v d Q I b rs h;obtain⟨z,y,rfl,rfl,q⟩:=h;obtain⟨t,rfl⟩:=b;obtain⟨u,rfl,t',rfl⟩:=xm rs;exact SC.find (.int _,H,I.tok _,(_,rfl),q)
theorem EL:wN X (.builtin "isinstance") (λxs H Q=>∃x t,xs=[x,.ty T]/\af X.K H x t/\PySem.W.kitOne X.K t (.type T)=some b/\Q (.bl b) H):=by
 intro a s g H xs j Q I r h;obtain⟨x,t,rfl,ty,e,q⟩:=h;obtain⟨u,i,rfl,f,d⟩:=bc r;cases d;exact kX I f ty e λc=>(.bl b,H,I.tok c,rfl,q)
end
noncomputable def mu(X:Cx)(x:Str)(sc:Scope)(cl:List (Str×Addr))(C:Addr)(fp:List Addr)(s:Shared)(H:Hp):Cx where
 prog:=X.prog
 w:=X.w
 K:=X.K
 mg:=X.mg
 base:=X.base
 A:=X.A
 N:=x::X.N
 s₀:=s
 H₀:=H
 env:=compEnvC sc cl C X.env
 outer:=X.stack
 stack:=X.stack
 ex:=fp
 fn:=λ_=>false
 calm:=X.calm
 pn:=[]
 xe:=λ_ _=>False
noncomputable def AB(X:Cx)(ifs:List Expr)(t:TT):Prop:=
 ∀(pins:List (Addr×Obj))(s:Shared)(σ:St)(H:Hp)(Q:Bool->Hp->Prop),f' X pins σ H s->t σ H Q->
  wpAny (model X.prog X.w) X.A (forIn ifs true λc r=>if r=true then do let ok <-isTrue c X.env (eval c X.env);pure (ForInStep.yield ok)else pure (ForInStep.yield r)) (TP X pins σ Q) X.xe s
noncomputable def tAlways:TT:=λ_ H Q=>Q true H
theorem i_{A B:Hp->Prop}(h:A H):tAlways c H (λb a=>if b=true then A a else B a):=ai (A:=A H) (B:=B H) h
theorem vY:AB X [] tAlways:=λ_ _ _ H _ I h=>wpAny_tests_nil (H,I,h)
theorem dC(h:PT X c t):AB X [c] t:=λa s b H Q I hw=>wpAny_tests_one (h a s b H Q I hw)
noncomputable def bq(wi:TI)(tt:TT)(te:TE):TE:=λσ H Q=>wi σ H λJ H1=>∀D,H1 D=none->∃W:Nat->Nat->List V->Hp->Prop,
 (∃m,W 0 m [] (upd H1 D (.lst [])))/\∀i m ys H2,W i m ys H2->H2 D=some (.lst ys)/\((J.stop i H2/\Q (.ref D) H2)\/(J.go i H2/\ys.length<sizeLine/\∀x H3,J.yld i H2 x H3->
  tt (some x::σ) H3 λb H4=>if b=true then te (some x::σ) H4 λy H5=>H5 D=some (.lst ys)/\∃m',m'<m/\W (i+1) m' (ys++[y]) (upd H5 D (.lst (ys++[y])))
   else ∃m',m'<m/\W (i+1) m' ys H4))
theorem AV{a b:Nat}(h:a≠b):(show Addr from a)≠(show Addr from b):=h
theorem Cu(z:∀y∈sc.names,y.2=.free->∃c,env.cells.lookup y.1<*c):∃f,closureFor sc env=pure f/\(∀y c,f.lookup y<*c->env.cells.lookup y<*c)/\∀y∈sc.names,y.2=.free->∃c,f.lookup y.1<*c:=by
 have B:∀(l:List (Str×NameKind))(b:List (Str×Addr)),(∀y∈l,y.2=.free->∃c,env.cells.lookup y.1<*c)->(∀y c,b.lookup y<*c->env.cells.lookup y<*c)->
   ∃f,(forIn l b λ(p:Str×NameKind)r=>if (p.2==.free)=true then do let a <-cellOf env p.1;pure (ForInStep.yield ((p.1,a,)::r))else pure (ForInStep.yield r):Sem (List (Str×Addr)))=pure f/\
    (∀y c,f.lookup y<*c->env.cells.lookup y<*c)/\(∀y c,b.lookup y<*c->∃g,f.lookup y<*g)/\∀y∈l,y.2=.free->∃c,f.lookup y.1<*c:=by
  intro l;induction l with
  |nil=>intro b _ o;exact(b,rfl,o,λy c e=>(c,e),λy d=>by simp at d)
  |cons p r w=>
   intro b t o;obtain⟨n,k⟩:=p;by_cases u:k=.free
   .subst u;obtain⟨c,x⟩:=t (n,.free,) mem_cons_self rfl;have C:cellOf env n=pure c:=by unfold cellOf;rw[x]
    have v:∀y g,((n,c,)::b).lookup y<*g->env.cells.lookup y<*g:=λy g e=>by
     by_cases d:(y==n)=true
     .rw [lookup_cons,d]at e;cases e;rw[eq_of_beq d];exact x
     .rw [lookup_cons,Bool.eq_false_iff.mpr d]at e;exact o y g e
    obtain⟨f,h1,h2,q,m⟩:=w ((n,c,)::b) (λy d=>t y (mem_cons_of_mem _ d)) v;have j:∀y g,b.lookup y<*g->∃i,((n,c,)::b).lookup y<*i:=λy g e=>by
     by_cases d:(y==n)=true
     .exact (c,by rw[lookup_cons,d])
     .exact (g,by rw[lookup_cons,Bool.eq_false_iff.mpr d];exact e)
    refine(f,?_,h2,λy g e=>?_,λy d h=>?_)
    .rw [forIn_cons];simp only[beq_self_eq_true,if_true,C,pure_bind];exact h1
    .obtain ⟨i,e'⟩:=j y g e;exact q y i e'
    .rcases mem_cons.mp d with rfl|d
     .exact q n c (by rw[lookup_cons,beq_self_eq_true])
     .exact m y d h
   .have A:(k==NameKind.free)=false:=by simpa using u
    obtain⟨f,h1,h2,q,m⟩:=w b (λy d=>t y (mem_cons_of_mem _ d)) o;refine(f,?_,h2,q,λy d h=>?_)
    .rw [forIn_cons];simp only[A,Bool.false_eq_true,if_false,pure_bind];exact h1
    .rcases mem_cons.mp d with rfl|d
     .exact absurd h u
     .exact m y d h
 obtain⟨f,h1,h2,_,m⟩:=B sc.names [] z (λy c e=>by simp at e);refine(f,?_,h2,m);show((forIn sc.names [] λ(p:Str×NameKind)r=>if (p.2==.free)=true then do let a <-cellOf env p.1;pure (ForInStep.yield ((p.1,a,)::r))else pure (ForInStep.yield r):Sem (List (Str×Addr)))>>=λs=>pure s)=pure f;rw[bind_pure,h1]
theorem kb(h:(relabel sc env).names.lookup y<*k):sc.names.lookup y<*k\/(k=.cell/\sc.names.lookup y=some .free/\env.kindOf y<*.cell):=by
 have f:∀(l:List (Str×NameKind)),(l.map λ(n,k)=>if (k==.free&&env.scope.kind==.function&&env.kindOf n==some .cell)then(n,NameKind.cell,)else(n,k,)).lookup y<*k->
   l.lookup y<*k\/(k=.cell/\l.lookup y=some .free/\env.kindOf y<*.cell):=by
  intro l;induction l with
  |nil=>intro h;simp at h
  |cons p r d=>
   obtain⟨n,c⟩:=p;intro h;simp only[map_cons]at h;by_cases b:(c==NameKind.free&&env.scope.kind==.function&&env.kindOf n==some .cell)=true
   .rw [if_pos b]at h;rw[lookup_cons]at h⊢;cases a:y==n with
    |true=>
     rw[a]at h;have e:k=.cell:=(Option.some.inj h).symm;have i:c=.free:=by
      have:=(and_eq_true_iff.mp (and_eq_true_iff.mp b).1).1;simpa using this
     have g:env.kindOf n<*.cell:=by
      have:=(and_eq_true_iff.mp b).2;simpa using this
     rw[eq_of_beq a];exact .inr (e,by rw[i],g)
    |false=>
     rw[a]at h;exact d h
   .rw [if_neg b]at h;rw[lookup_cons]at h⊢;cases a:y==n with
    |true=>rw[a]at h;exact .inl h
    |false=>rw[a]at h;exact d h
 exact f sc.names h
section
variable{X:Cx}{elt iter:Expr}{x:Str}{px pos:Pos}{ifs:List Expr}{sc:Scope}{wi:TI}{tt:TT}{te:TE}
end
theorem iV{k:TT}{h:St}{Q:VK}(p:Nat->Bool)(hz:x.length≤sizeLine)(r:∀(i:Nat)(c:Nat)(H':Hp)(R:Bool->Hp->Prop),x.cps[i]?<*c->R (p c) H'->k (some (.str ⟨#[c]⟩)::h) H' R)(s:∀D,H D=none->Q (.ref D) (upd H D (.lst ((x.cps.toList.filter p).map λc=>V.str ⟨#[c]⟩)))):∀D,H D=none->∃W:Nat->Nat->List V->Hp->Prop,
 (∃m,W 0 m [] (upd H D (.lst [])))/\∀i m ys a,W i m ys a->a D=some (.lst ys)/\(((Ab x).stop i a/\Q (.ref D) a)\/((Ab x).go i a/\ys.length<sizeLine/\∀y j,(Ab x).yld i a y j->
  k (some y::h) j λb o=>if b=true then aL 0 (some y::h) o λz n=>n D=some (.lst ys)/\∃f,f<m/\W (i+1) f (ys++[z]) (upd n D (.lst (ys++[z])))
   else ∃f,f<m/\W (i+1) f ys o)):=by
 intro D t;refine(λi m ys a=>m=x.length-i/\i≤x.length/\ys=((x.cps.toList.take i).filter p).map (λc=>V.str ⟨#[c]⟩)/\a=upd H D (.lst ys),(x.length,!1,zero_le _,!1,rfl),?_);rintro i m ys a⟨rfl,v,rfl,rfl⟩;refine(j',?_);by_cases d:i<x.length
 .refine .inr (d,?_,λy j q=>?_)
  .rw [j_];have:=List.length_filter_le p (x.cps.toList.take i);rw[length_take]at this;lia
  .obtain ⟨e,c,l,u⟩:=q;subst e u;have g:x.cps.toList[i]?<*c:=by simpa using l
   refine r i c _ _ l ?_;cases hp:p c with
   |true=>
    refine ai (_,rfl,j',x.length-(i+1),!2,rfl,d,?_,?_)
    .rw [take_add_one,g,List.filter_append,map_append];simp[hp]
    .rw [Ba]
   |false=>
    refine ae (x.length-(i+1),!2,rfl,d,?_,rfl);rw[take_add_one,g,List.filter_append,map_append];simp[hp]
 .have e:i=x.length:=by lia
  subst e;refine .inl (le_refl _,?_);rw[show x.length=x.cps.toList.length by simp[length],take_length];exact s D t
theorem gE{a:St}(p:Nat->Bool)(d:a[j]?<*some (.str x))(hz:x.length≤sizeLine)(e:∀(i:Nat)(c:Nat)(H':Hp)(R:Bool->Hp->Prop),x.cps[i]?<*c->R (p c) H'->b (some (.str ⟨#[c]⟩)::a) H' R)(f:∀D,H D=none->Q (.ref D) (upd H D (.lst ((x.cps.toList.filter p).map λc=>V.str ⟨#[c]⟩)))):bq (sR (aL j)) b (aL 0) a H Q:=(_,d,x,rfl,iV p hz e f)
noncomputable def Df(P:Program)(w:World)(K:Frag)(mg:Str->Option Value)(base:Heap)(x:Str)(k:Nat)(ps:List Str)(sp:Sp):Prop:=
 ∃(f:Addr)(fd:FuncData),mg x=some (.ref f)/\keepIn K (.ref f)=true/\vw K fd ps []/\aa P w K mg base nq k f fd ps sp
theorem ri{p pos:Pos}(D:Df X.prog X.w X.K X.mg X.base x k ps d)(g:ah k X.A)(j:PA X (e::a) t)(h:Gl X x:=by rfl)(c:(x==("__debug__":Str))=false:=by decide)(i:starEach (e::a) X.env=(false,eval e X.env,)::starEach a X.env:=by rfl)(b:(backTo pos (starEach a X.env)).any (·.1)=false:=by rfl):PE X (.Call (.Name x p) (e::a) [] pos) (w' d [] E0 t):=by
 obtain⟨f,m,h1,h2,l,F⟩:=D;exact jp F g h h1 h2 l .nil jq j c i b
theorem sQ{c A B:Prop}[Decidable c](a:c)(h:A):if decide c=true then A else B:=by
 rw[decide_eq_true a];exact ai h
theorem rc{c A B:Prop}[Decidable c](a:¬ c)(h:B):if decide c=true then A else B:=by
 rw[decide_eq_false a];exact ae h
theorem aI{c A B:Prop}[Decidable c](h1:c->A)(h2:¬ c->B):if decide c=true then A else B:=by
 by_cases h:c
 .exact sQ h (h1 h)
 .exact rc h (h2 h)
theorem a'.upd(n:H D=none):a' H (upd H D o):=λb u e=>by rw[a_ (f_ e n)];exact e
theorem o9(h:n≤16777216):n≤sizeLine:=by rw[sizeLine_eq];exact h
theorem oi{xs:List b}{i:Int}(h0:0≤i)(h1:i<xs.length):∃v,vt xs i=some v/\xs[i.toNat]?<*v:=by
 obtain⟨j,rfl⟩:=Int.eq_ofNat_of_zero_le h0;have a:j<xs.length:=by lia
 exact(xs[j],vJ (by simp[a]),by simp[a])
noncomputable def tU(t u:TS):TS:=λD σ H=>∃M:St->Hp->Prop,t {D with nx:=M} σ H/\∀σ' H',M σ' H'->u D σ' H'
theorem BS{st:Stmt}(h1:PS X st t)(h2:vH X rest u):vH X (st::rest) (tU t u):=by
 intro a s c H D I h;obtain⟨M,h,e⟩:=h;refine wpAny_execs_cons (n0 (h1 a s c H {D with nx:=M} I h) λf d q=>?_);cases f with
 |next=>
  obtain⟨b,H',g,q⟩:=q;exact h2 a d b H' D g (e b H' q)
 |ret v=>exact q
 |brk=>exact q
 |cont=>exact q
section
variable{X:Cx}
theorem BU:vd X (binaryOp .Mod) (λx y H Q=>∃i j,x=.int i/\y=.int j/\0<j/\Q (.int (i%j)) H):=bC
theorem Do:vd X (binaryOp .FloorDiv) (λx y H Q=>∃i j,x=.int i/\y=.int j/\(0<j/\j<1073741824)/\Q (.int (i/j)) H):=Cn
theorem vO:vd X (binaryOp .Add) (λx y H Q=>∃i j,x=.int i/\y=.int j/\Q (.int (i+j)) H):=im
theorem sC:vd X (binaryOp .Mult) (λx y H Q=>∃i j,x=.int i/\y=.int j/\((-(2^64)<i/\i<2^64)\/(-(2^64)<j/\j<2^64))/\Q (.int (i*j)) H):=qI
end
end L2
namespace RA
open PySem PySem.StrLaws Builtin Builtin.Str
noncomputable def tx(l:LN):Str:=⟨l.toArray⟩
theorem zk(l:LN):(tx l).cps.toList=l:=by simp[tx]
theorem vn(l:LN):(tx l).length=l.length:=by simp[tx,length]
theorem Bj(a b:LN):tx a++tx b=tx (a++b):=by
 apply Str.ext';show a.toArray++b.toArray=(a++b).toArray;simp
theorem qj(h:tx a=tx b):a=b:=by
 have:=congrArg (λs:Str=>s.cps.toList) h;simpa[tx]using this
theorem dh(l:LN)(i:Nat):(tx l).cps[i]?=l[i]?:=by simp[tx]
theorem i9(l:LN)(c i:Nat):At (tx l) ⟨#[c]⟩ (tx l).length i↔l[i]?<*c:=by
 have h:=subAt_one (tx l) c i;rw[zk]at h;exact h
theorem d9(l:LN)(c:Nat):Txt.contains (tx l) ⟨#[c]⟩=decide (c∈l):=by
 have h:=found_one (tx l) c;rw[zk]at h;exact h
theorem Dp:∀{l:LN}{c i:Nat},l[i]?<*c->l.idxOf c≤i
 |[],_,_,h=>by simp at h
 |a::l,c,0,h=>by
  have e:a=c:=by simpa using h
  subst e;simp
 |a::l,c,i+1,h=>by
  rw[idxOf_cons];cases e:a==c with
  |true=>simp
  |false=>
   have:=Dp (l:=l) (c:=c) (i:=i) (by simpa using h);simp;omega
theorem Cv(h:c∈l):Txt.find (tx l) ⟨#[c]⟩=(l.idxOf c:Nat):=by
 unfold Txt.find;rcases occ_head (tx l) ⟨#[c]⟩ 1 (le_refl _)with⟨_,b⟩|⟨i,r,e,f,b⟩
 .obtain ⟨i,d⟩:=mem_iff_getElem?.mp h;exact absurd ((i9 l c i).mpr d) (b i)
 .rw [e];have d:=(i9 l c i).mp f;have a:l.idxOf c<l.length:=idxOf_lt_length_of_mem h;have g:l[l.idxOf c]?<*c:=by
   rw[j1 a,getElem_idxOf a]
  have h1:¬ l.idxOf c<i:=λz=>b _ z ((i9 l c _).mpr g);have h2:l.idxOf c≤i:=by
   exact Dp d
  have:i=l.idxOf c:=by lia
  rw[this]
theorem lZ(x:Str)(h:0≤j):Txt.slice x none (some j)=tx (x.cps.toList.take j.toNat):=by
 have c:∀j:Int,0≤j->j≤x.cps.toList.length->Txt.slice x none (some j)=tx (x.cps.toList.take j.toNat):=λj h0 h1=>by
  have e:Txt.slice x none (some j)=sliceText x none (some j):=rfl;rw[e,sliceText_to (h0,h1)];simp[tx]
 by_cases f:j≤x.cps.toList.length
 .exact c j h f
 .have e:Txt.slice x none (some j)=Txt.slice x none (some (x.length:Int)):=by
   have d:x.length=x.cps.toList.length:=by simp[length]
   have g:strSliceIndices none (some j) 1 x.length=strSliceIndices none (some (x.length:Int)) 1 x.length:=by
    have a:¬ (j<0):=by lia
    have b:¬ ((x.length:Int)<0):=by lia
    have m:min j (x.length:Int)=(x.length:Int):=by lia
    simp[strSliceIndices,a,b,m]
   unfold Txt.slice;rw[g]
  rw[e,c _ (!6) (by simp[length])];have d:x.length=x.cps.toList.length:=by simp[length]
  rw[take_of_length_le (i:=j.toNat) (!6),take_of_length_le (!6)]
theorem ic(x:Str){i:Int}(h:0≤i)(h1:i≤x.cps.toList.length):Txt.slice x (some i) none=tx (x.cps.toList.drop i.toNat):=by
 have e:Txt.slice x (some i) none=sliceText x (some i) none:=rfl;rw[e,sliceText_from (h,h1)];have a:((x.cps.toList.length:Int)-i).toNat=(x.cps.toList.drop i.toNat).length:=by rw[List.length_drop];lia
 rw[a,take_length];rfl
theorem iG:∀d:LN,Txt.join Str.empty (d.map λc=>(⟨#[c]⟩:Str))=tx d:=by
 intro d;unfold Txt.join;rw[glued_eq_join];have f:∀(d:LN),Str.join Str.empty (d.map λc=>(⟨#[c]⟩:Str))=tx d:=by
  intro d;induction d with
  |nil=>rfl
  |cons a r e=>
   cases r with
   |nil=>rfl
   |cons b r=>
    show(⟨#[a]⟩:Str)++Str.empty++Str.join Str.empty ((b::r).map λc=>(⟨#[c]⟩:Str))=tx (a::b::r);rw[e,Str.append_empty];exact Bj [a] (b::r)
 exact f d
structure AC(L:LN):Prop where
 lo:1≤L.length
 hi:L.length≤3
 nd:L.Nodup
 az:∀c∈L,97≤c/\c≤122
theorem Bl{L:LN}(b:L.Nodup)(h:i<L.length):L.idxOf L[i]=i:=by
 have h1:=Dp (l:=L) (c:=L[i]) (i:=i) (by simp[h]);have a:L.idxOf L[i]<L.length:=by exact lt_of_le_of_lt h1 h
 have e:=getElem_idxOf a;by_cases d:L.idxOf L[i]<i
 .exact absurd e (List.pairwise_iff_getElem.mp b _ _ a h d)
 .lia
theorem nQ{f l:LN}(b:i<l.length)(a:(f++l).Nodup):((f++[l[i]])++(l.take i++l.drop (i+1))).Nodup/\∀c,c∈(f++[l[i]])++(l.take i++l.drop (i+1))->c∈f++l:=by
 have e:l=l.take i++l[i]::l.drop (i+1):=by
  conv=>lhs;rw[<-List.take_append_drop i l,List.drop_eq_getElem_cons b]
 have p:(f++l).Perm ((f++[l[i]])++(l.take i++l.drop (i+1))):=by
  conv=>lhs;rw[e]
  rw[append_assoc];refine Perm.append_left f ?_;show(l.take i++l[i]::l.drop (i+1)).Perm (l[i]::(l.take i++l.drop (i+1)));exact List.perm_middle
 exact(p.nodup_iff.mp a,λc d=>p.mem_iff.mpr d)
end RA
namespace RA
open PySem L2
theorem rB:(Str.ofString "abcdefghijklmnopqrstuvwxyz")=tx (List.range' 97 26):=by decide +kernel
theorem Dq:(Str.ofString "")=tx []:=by decide +kernel
theorem lr:(Str.ofString "")=Str.empty:=by decide +kernel
end RA
namespace RA
open PySem L2 Builtin Builtin.Str
theorem eY:∀a:LN,((a.map λc=>(⟨#[c]⟩:Str)).map (·.length)).sum=a.length
 |[]=>rfl
 |_::a=>by
  rw[map_cons,map_cons,List.sum_cons,eY a,length_cons];show 1+_=_;lia
theorem kQ(a:LN)(h:a.length≤16777216):((a.map λc=>(⟨#[c]⟩:Str)).map (·.length)).sum+(a.map λc=>(⟨#[c]⟩:Str)).length*(Str.ofString "").length≤16777216:=by
 rw[eY,show(Str.ofString "").length=0 by rw[lr];rfl];omega
end RA
namespace L2
open PySem PySem.Spec PyProof.Rows
section
variable{X:Cx}
theorem Bn:vd X (binaryOp .Mod) (λx y H Q=>∃i j,x=.int i/\y=.int j/\0<j/\∀r,0≤r->r<j->Q (.int r) H):=by
 intro a s c H x y v u Q I e d h;obtain⟨i,j,g,f,b,q⟩:=h;exact bC a s c H x y v u Q I e d (i,j,g,f,b,q _ (Int.emod_nonneg _ (!6)) (Int.emod_lt_of_pos _ b))
theorem mJ:vd X (binaryOp .FloorDiv) (λx y H Q=>∃i j,x=.int i/\y=.int j/\tL i j/\0≤i/\∀r,0≤r->Q (.int r) H):=by
 intro a s c H x y v u Q I e d h;obtain⟨i,j,k,g,b,f,q⟩:=h;exact Cn a s c H x y v u Q I e d (i,j,k,g,b,q _ (Int.ediv_nonneg f (by have:=b.1;lia)))
end
theorem p_(h:H a<*o)(n:H b=none):upd H b u a<*o:=by
 rw[a_ (f_ h n)];exact h
theorem n7(h:H a<*o)(n:H b<*v)(d:o≠v):upd H b u a<*o:=by
 rw[a_ (n_ h n d)];exact h
theorem iE(K:Frag):PySem.W.kitOne K (.type "int") (.type "bool")<*false:=by kernel_rfl
theorem iD(K:Frag):PySem.W.kitOne K (.type "int") (.type "int")<*true:=by with_unfolding_all rfl
theorem xq(K:Frag):PySem.W.kitOne K (.type "bool") (.type "bool")<*true:=by with_unfolding_all rfl
theorem xr(K:Frag):PySem.W.kitOne K (.type "str") (.type "str")<*true:=by with_unfolding_all rfl
end L2
namespace RA
open PySem L2
structure g_(L:LN)(W:LL)(B:List Bool):Prop where
 lt:AC L
 n1:1≤W.length
 n60:W.length≤2100
 bl:B.length=W.length
 row:∀ws∈W,ws.length=L.length/\∀x∈ws,x<W.length
noncomputable def vP(L:LN)(W:LL)(r c:Nat):Nat:=(W.getD r []).getD (L.idxOf c) 0
noncomputable def run(L:LN)(W:LL)(r:Nat)(w:LN):Nat:=w.foldl (vP L W) r
theorem g_.at(h:g_ L W B)(b:r<W.length)(e:c∈L):∃ws x,W[r]?=some ws/\ws[L.idxOf c]?=some x/\vP L W r c=x/\x<W.length:=by
 have hw:W[r]?<*W[r]:=by simp[b]
 obtain⟨h1,h2⟩:=h.row W[r] (getElem_mem b);have d:L.idxOf c<W[r].length:=by rw[h1];exact idxOf_lt_length_of_mem e
 have a:W[r][L.idxOf c]?<*W[r][L.idxOf c]:=by simp[d]
 refine(W[r],W[r][L.idxOf c],hw,a,?_,h2 _ (getElem_mem d));unfold vP;have f:W.getD r []=W[r]:=by
  rw[m8,hw];rfl
 rw[f,m8,a];rfl
theorem xV(L:LN)(W:LL)(r:Nat)(w:LN)(c:Nat):run L W r (w++[c])=vP L W (run L W r w) c:=by
 unfold run;rw[List.foldl_append];rfl
theorem vQ{L:LN}{W:LL}{B:List Bool}(h:g_ L W B):∀{w:LN}{r:Nat},r<W.length->(∀c∈w,c∈L)->run L W r w<W.length
 |[],_,a,_=>a
 |c::w,r,a,hw=>by
  obtain⟨ws,x,_,_,e,b⟩:=h.at a (hw c (!1));exact vQ h (w:=w) (r:=vP L W r c) (by rw[e];exact b) λd f=>hw d (by simp[f])
noncomputable def b'(ws:LN):List V:=ws.map λ(n:Nat)=>V.int (n:Int)
noncomputable def AD(H:Hp)(rows:List Addr)(W:LL):Prop:=∀(i:Nat)(r:Addr),rows[i]?<*r->∃ws,W[i]?=some ws/\H r<*.tup (b' ws)
noncomputable def ol(H:Hp)(m:Addr)(L:LN)(W:LL)(B:List Bool):Prop:=
 ∃(wy mk:Addr)(rows:List Addr),H m=some (.tup [.str (tx L),.ref wy,.ref mk])/\H wy=some (.tup (rows.map V.ref))/\H mk=some (.tup (B.map V.bl))/\rows.length=W.length/\AD H rows W
theorem AD.same(h:AD H a W)(s:a' H H'):AD H' a W:=λi r e=>by
 obtain⟨ws,h1,h2⟩:=h i r e;exact(ws,h1,s _ _ h2)
theorem ol.same(h:ol H m L W B)(s:a' H H'):ol H' m L W B:=by
 obtain⟨b,mk,a,h1,h2,e,d,c⟩:=h;exact(b,mk,a,s _ _ h1,s _ _ h2,s _ _ e,d,c.same s)
theorem vZ{a b:Type}{xs:List a}(f:a->b){x:a}(h:xs[i]?<*x):vt (xs.map f) ((i:Nat):Int)<*f x:=vJ (by rw[n',h];rfl)
end RA
namespace RA
end RA
namespace L2
open PySem
namespace ZP
noncomputable def aQ(S:List Addr)(h h':Heap):Prop:=h'.objs.size=h.objs.size/\∀c o,c∉S->h.get? c<*o->h'.get? c<*o
theorem aQ.one(x:SameBut a h h')(m:a∈S):aQ S h h':=(x.1,λc o b e=>(x.2 c λq=>b (q▸m)).trans e)
theorem aQ.trans(x:aQ S h h1)(y:aQ S h1 h2):aQ S h h2:=(y.1.trans x.1,λc o a e=>y.2 c o a (x.2 c o a e))
section
variable{prog:Program}{w:World}{A:Around}{E:Value->Shared->Prop}{s:Shared}{z TI TO i1 i2:Addr}{f1 f2:List Addr}{n1 n2 k:Nat}{P1 P2:Nat->Value->Prop}{S1 S2:Nat->Heap->Prop}{a b:Value}
theorem AE{Q:Value->Shared->Prop}(D1:Draws prog w A i1 f1 n1 P1 S1)(Z:Draws prog w A i2 f2 n2 P2 S2)(m1:∀c∈f1,c=i1\/c∉[z,TO,i1,i2])(m2:∀c∈f2,c=i2\/c∉[z,TO,i1,i2])(d:ZipApart z TI TO i1 i2 TI TI)(hz:IsZip s.heap z TI TO .none)(B:IsPair s.heap TI (.ref i1) (.ref i2))(P:IsPair s.heap TO a b)(h1:S1 k s.heap)(h2:S2 k s.heap)(l1:k<n1)(l2:k<n2)(hQ:∀x y h' tk,P1 k x->P2 k y->IsZip h' z TI TO (rawInt s⁻¹)->IsPair h' TI (.ref i1) (.ref i2)->IsPair h' TO x y->S1 (k+1) h'->S2 (k+1) h'->IsPair h' s⁻¹ x y->
   (∀c o,c∉[z,TO,i1,i2]->s.heap.get? c<*o->h'.get? c<*o)->Q (.ref s⁻¹) {s with heap:=h',toks:=tk}):wpAny (model prog w) A (Builtin.«zip.__next__» ([.ref z],[])) (λR s'=>∃v,R=.done (.ret v)/\Q v s') E s:=by
 unfold Builtin.«zip.__next__»;refine d_ (wpAny_of_eq (a:=(Value.ref z,[],)) rfl (d_ (wpAny_field hz rfl (x:=.bool false) rfl (d_ (wpAny_field hz rfl (x:=.ref TI) rfl (d_ (wpAny_seqItems B rfl ?_)))))));refine wpAny_ite_false (!1) (d_ ?_);unfold Builtin.SmallTypes.ownedTupleIsFree;refine d_ (wpAny_field hz rfl (x:=.none) rfl (j2 (wpAny_ite_true (!0) (d_ (wpAny_rule (d_ (wpAny_field hz rfl (x:=.ref TO) rfl (d_ (wpAny_setField_rec hz (!1) λg1 z1 I=>?_)))))))));have k1:aQ [z,TO,i1,i2] s.heap g1:=.one I (!1);have n:∀{j:Nat}{g g':Heap},(∀c o,c∉[z,TO,i1,i2]->g.get? c<*o->g'.get? c<*o)->S1 j g->(∀o,g.get? i1<*o->g'.get? i1<*o)->S1 j g':=λk st e=>D1.frame _ _ _ st λc h=>by
  rcases m1 c h with rfl|O
  .exact e
  .exact λo q=>k c o O q
 have l:∀{j:Nat}{g g':Heap},(∀c o,c∉[z,TO,i1,i2]->g.get? c<*o->g'.get? c<*o)->S2 j g->(∀o,g.get? i2<*o->g'.get? i2<*o)->S2 j g':=λk st e=>Z.frame _ _ _ st λc h=>by
  rcases m2 c h with rfl|O
  .exact e
  .exact λo q=>k c o O q
 simp only[List.zipIdx_cons,List.zipIdx_nil,forIn_cons,forIn_nil];refine d_ (d_ (d_ (wpAny_onRaise (d_ (m:=Builtin.SmallTypes.nextOf (.ref i1)) (D1.item k _ _ _ l1 (n k1.2 h1 λo e=>(I.2 i1 d.i1z).trans e) λx g2 t2 p1 d1 D=>j2 ?_)))));have W:IsPair g2 TO a b:=(D.2 TO d.TOi1).trans ((I.2 TO d.TOz).trans P);refine d_ (wpAny_seqItems W rfl (d_ (wpAny_updateSeq_pair W λg3 o3 r=>d_ (wpAny_letGo (j2 (d_ (d_ (wpAny_onRaise (d_ (m:=Builtin.SmallTypes.nextOf (.ref i2)) (Z.item k _ _ _ l2 (l ((k1.trans (.one D (!1))).trans (.one r (!1))).2 h2 λo e=>?_) λy g4 t4 p2 d2 C=>j2 ?_))))))))))
 .exact (r.2 i2 d.TOi2.symm).trans ((D.2 i2 d.i12.symm).trans ((I.2 i2 d.i2z).trans e))
 have U:IsPair g4 TO x b:=(C.2 TO d.TOi2).trans o3;refine d_ (wpAny_seqItems U rfl (d_ (wpAny_updateSeq_pair U λf G p=>d_ (wpAny_letGo (j2 (j2 ?_))))));replace G:IsPair f TO x y:=G;have k5:aQ [z,TO,i1,i2] s.heap f:=(((k1.trans (.one D (!1))).trans (.one r (!1))).trans (.one C (!1))).trans (.one p (!1));have T:IsZip f z TI TO .ellipsis:=(p.2 z d.TOz.symm).trans ((C.2 z d.i2z.symm).trans ((r.2 z d.TOz.symm).trans ((D.2 z d.i1z.symm).trans z1)));have N:S1 (k+1) f:=n (((aQ.one (S:=[z,TO,i1,i2]) r (!1)).trans (.one C (!1))).trans (.one p (!1))).2 d1 λo e=>(p.2 i1 d.TOi1.symm).trans ((C.2 i1 d.i12).trans ((r.2 i1 d.TOi1.symm).trans e));have M:S2 (k+1) f:=l (aQ.one (S:=[z,TO,i1,i2]) p (!1)).2 d2 λo e=>(p.2 i2 d.TOi2.symm).trans e;refine d_ (wpAny_seqItems G rfl (d_ (wpAny_newTuple ?_)));unfold Builtin.SmallTypes.ownedTupleHandOut;have z6:IsZip (f.push {cls:=.type "tuple",data:=.seq #[x,y]}) z TI TO .ellipsis:=nb _ T;refine d_ (d_ (wpAny_setField_rec z6 (!1) λg7 J Y=>?_));replace J:IsZip g7 z TI TO (rawInt f.objs.size):=J;refine wpAny_setField_rec J (!1) λH F X=>j2 (_,rfl,?_);replace F:IsZip H z TI TO (rawInt f.objs.size):=F;have i:∀c o,c≠z->f.get? c<*o->H.get? c<*o:=λc o h e=>(X.2 c h).trans ((Y.2 c h).trans (nb _ e));have t:f.objs.size≠z:=ne_of_gt (lt_size T);have u:IsPair H f.objs.size x y:=(X.2 _ t).trans ((Y.2 _ t).trans (get?_push_size _ rfl));have sz:f.objs.size=s⁻¹:=k5.1;have L:IsPair f TI (.ref i1) (.ref i2):=k5.2 TI _ (by simp[d.TIz,d.TITO,d.TIi1,d.TIi2]) B;show Q (.ref f.objs.size) _;rw[sz]at F u⊢;exact hQ x y H t4 p1 p2 F (i _ _ d.TIz L) (i _ _ d.TOz G) (n (λc o h e=>i c o (λq=>h (by simp[q])) e) N λo e=>i _ o d.i1z e) (l (λc o h e=>i c o (λq=>h (by simp[q])) e) M λo e=>i _ o d.i2z e) u λc o h e=>i c o (λq=>h (by simp[q])) (k5.2 c o h e)
theorem zl(J:Draws prog w A i1 f1 n1 P1 S1)(S:Draws prog w A i2 f2 n2 P2 S2)(Z:∀c∈f1,c=i1\/c∉[z,TO,i1,i2])(Y:∀c∈f2,c=i2\/c∉[z,TO,i1,i2])(d:ZipApart z TI TO i1 i2 TI TI)(hz:IsZip s.heap z TI TO .none)(F:IsPair s.heap TI (.ref i1) (.ref i2))(D:IsPair s.heap TO a b)(h1:S1 k s.heap)(h2:S2 k s.heap)(p:k=n1\/(k<n1/\k=n2))(hE:∀h' e l,(∀c o,c∉[z,TO,i1,i2]->s.heap.get? c<*o->h'.get? c<*o)->(∃o,h'.get? e=some o/\o.cls=.type "StopIteration")->E (.ref e) {s with heap:=h',toks:=l}):wpAny (model prog w) A (Builtin.«zip.__next__» ([.ref z],[])) Q E s:=by
 unfold Builtin.«zip.__next__»;refine d_ (wpAny_of_eq (a:=(Value.ref z,[],)) rfl (d_ (wpAny_field hz rfl (x:=.bool false) rfl (d_ (wpAny_field hz rfl (x:=.ref TI) rfl (d_ (wpAny_seqItems F rfl (wpAny_ite_false (!1) (d_ ?_)))))))));unfold Builtin.SmallTypes.ownedTupleIsFree;refine d_ (wpAny_field hz rfl (x:=.none) rfl (j2 (wpAny_ite_true (!0) (d_ (wpAny_rule (d_ (wpAny_field hz rfl (x:=.ref TO) rfl (d_ (wpAny_setField_rec hz (!1) λG M v=>?_)))))))));have k1:aQ [z,TO,i1,i2] s.heap G:=.one v (!1);have I:∀{j:Nat}{g g':Heap},(∀c o,c∉[z,TO,i1,i2]->g.get? c<*o->g'.get? c<*o)->S1 j g->(∀o,g.get? i1<*o->g'.get? i1<*o)->S1 j g':=λk st e=>J.frame _ _ _ st λc i=>by
  rcases Z c i with rfl|B
  .exact e
  .exact λo q=>k c o B q
 have H:∀{j:Nat}{g g':Heap},(∀c o,c∉[z,TO,i1,i2]->g.get? c<*o->g'.get? c<*o)->S2 j g->(∀o,g.get? i2<*o->g'.get? i2<*o)->S2 j g':=λk st e=>S.frame _ _ _ st λc i=>by
  rcases Y c i with rfl|B
  .exact e
  .exact λo q=>k c o B q
 have N:S1 k G:=I k1.2 h1 λo e=>(v.2 i1 d.i1z).trans e;have out:∀(it:Addr)(g g':Heap)(e:Addr)(l:Nat),it=i1\/it=i2->aQ [z,TO,i1,i2] s.heap g->IsZip g z TI TO .ellipsis->Heap.ExtBut it g g'->(∃o,g'.get? e=some o/\o.cls=.type "StopIteration")->
   wpAny (model prog w) A (setField (.ref z) 0 .none) (λ_ s'=>E (.ref e) s') E {s with heap:=g',toks:=l}:=λit g g' e l n hk hg P f=>by
  obtain⟨X,f,R⟩:=f;have y:z≠it:=by rcases n with q|q<;>rw[q];exact d.i1z.symm;exact d.i2z.symm
  have L:IsZip g' z TI TO .ellipsis:=P z _ y hg;have ez:e≠z:=λq=>by
   rw[q]at f;have:=congrArg (Option.map Obj.cls) (f.symm.trans L);rw[Option.map_some,Option.map_some,R]at this;exact absurd (show Value.type "StopIteration"=Value.type "zip" from Option.some.inj this) (!0)
  refine wpAny_setField_rec (s:={s with heap:=g',toks:=l}) L (!1) λt _ h=>hE t e l (λc o i q=>?_) (X,(h.2 e ez).trans f,R);refine(h.2 c λr=>i (by simp[r])).trans (P c o (λr=>i ?_) (hk.2 c o i q));rcases n with q|q<;>rw[r,q]<;>simp
 simp only[List.zipIdx_cons,List.zipIdx_nil,forIn_cons,forIn_nil];rcases p with rfl|⟨C,rfl⟩
 .refine d_ (d_ (d_ (wpAny_onRaise (d_ (m:=Builtin.SmallTypes.nextOf (.ref i1)) (J.done _ _ _ N λt e U f=>?_)))));exact out i1 G t e s.toks (.inl rfl) k1 M U f
 .refine d_ (d_ (d_ (wpAny_onRaise (d_ (m:=Builtin.SmallTypes.nextOf (.ref i1)) (J.item k _ _ _ C N λx t W p1 d1 h=>j2 ?_)))));have O:IsPair t TO a b:=(h.2 TO d.TOi1).trans ((v.2 TO d.TOz).trans D);refine d_ (wpAny_seqItems O rfl (d_ (wpAny_updateSeq_pair O λg3 o3 u=>d_ (wpAny_letGo (j2 (d_ (d_ (wpAny_onRaise (d_ (m:=Builtin.SmallTypes.nextOf (.ref i2)) (S.done _ _ _ (H ((k1.trans (.one h (!1))).trans (.one u (!1))).2 h2 λo e=>?_) λg4 e T f=>?_))))))))))
  .exact (u.2 i2 d.TOi2.symm).trans ((h.2 i2 d.i12.symm).trans ((v.2 i2 d.i2z).trans e))
  .exact out i2 g3 g4 e W (.inr rfl) ((k1.trans (.one h (!1))).trans (.one u (!1))) ((u.2 z d.TOz.symm).trans ((h.2 z d.i1z.symm).trans M)) T f
end
section
variable{prog:Program}{w:World}{A:Around}{E:Value->Shared->Prop}{s:Shared}{z TI TO i1 i2:Addr}{n1 n2 k:Nat}{P1 P2:Nat->Value->Prop}{S1 S2:Nat->Heap->Prop}{a b:Value}
noncomputable def zm(x:Str)(t:Tok):Obj:={cls:=.type (if x.cps.all (· < 128)then "str_ascii_iterator" else "str_iterator"),data:=.fields #[.str x t,.int 0 0]}
theorem kU(h:Q (.ref s⁻¹) {s with heap:=s.heap.push (zm x t)}):wpAny (model prog w) A (pyIter (.str x t)) Q E s:=by
 unfold zm at h;cases e:x.cps.all (· < 128)<;>rw[e]at h
 .exact wpAny_pyIter_wide e h
 .exact wpAny_pyIter_ascii e h
noncomputable def xI(x:Str)(t:Tok)(it:Addr)(i:Nat)(h:Heap):Prop:=h.IsStrIter it (if x.cps.all (· < 128)then "str_ascii_iterator" else "str_iterator") x t i
theorem draws(d:A.handled=none)(it:Addr)(x:Str)(t:Tok):Draws prog w A it [it] x.cps.size (λi v=>∃c u,x.cps[i]?=some c/\v=.str ⟨#[c]⟩ u) (xI x t it):=by
 unfold xI;cases x.cps.all (· < 128)
 .exact Draws.strWide d it x t
 .exact Draws.strAscii d it x t
end
end ZP
end L2
namespace L2
open PySem PySem.Spec PyProof.Rows
section
variable{X:Cx}{pins:List (Addr×Obj)}{σ:St}{H:Hp}{s:Shared}{h':Heap}
theorem uJ{S:List Addr}(f:∀b∈S,H b=none)(e:H b<*u):b∉S:=λa=>by rw[f b a]at e;cases e
theorem f'.turnedL{S:List Addr}(I:f' X pins σ H s)(k:∀b o,b∉S->s.heap.get? b<*o->h'.get? b<*o)(f:∀b∈S,aY X pins H b):f' X pins σ H {s with heap:=h',toks:=t'}:=by
 refine I.call (g':=s.gens) (d':=s.drawn) (ch:=S) (λb o e _ _ d=>k b o d e,λb o e _ _ d=>(o.slots,k b o d e),λ_ _ _ n _=>n,λb o e d=>(o,k b o d e),λ_ _ e=>e,λ_ _ _ e=>e,λ_ ps e=>(#[],by rw[e];simp))
  (λb u e=>(I.hok b u e).stay (λc v d q=>k c v ?_ q) (λ_ q=>q) λ_ _ q=>q) I.bare λb a=>((f b a).2.2.2.1,(f b a).2.1,(f b a).2.2.2.2.1,(f b a).2.2.2.2.2)
 rcases d with z|z
 .rw [z];exact uJ (λb a=>(f b a).1) e
 .exact uJ (λb a=>(f b a).1) z
theorem f'.turnedNew{S:List Addr}{t':Nat}{o:HO}(I:f' X pins σ H s)(k:∀b o,b∉S->s.heap.get? b<*o->h'.get? b<*o)(f:∀b∈S,aY X pins H b)(h:uS X.prog X.w (upd H s⁻¹ o) h' s⁻¹ o):f' X pins σ (upd H s⁻¹ o) {s with heap:=h',toks:=t'}:=by
 have i:H s⁻¹=none:=I.hok.fresh (le_refl _);have g:∀b u,H b<*u->b≠s⁻¹:=λb u e=>f_ e i;refine I.call (g':=s.gens) (d':=s.drawn) (ch:=S) (λb o e _ _ d=>k b o d e,λb o e _ _ d=>(o.slots,k b o d e),λb o e n _=>?_,λb o e d=>(o,k b o d e),λb xs e=>by rw[a_ (g b _ e)];exact e,λb o u e=>by rw[a_ (g b _ e)];exact e,λb ps e=>(#[],by rw[a_ (g b _ e),e];simp))
  (λb u e=>?_) I.bare λb a=>((f b a).2.2.2.1,(f b a).2.1,(f b a).2.2.2.2.1,(f b a).2.2.2.2.2)
 .rw [a_ (ne_of_lt (lt_size e))];exact n
 .by_cases a:b=s⁻¹
  .subst a;rw[j']at e;cases e;exact h
  .rw [a_ a]at e;refine(I.hok b u e).stay (λc v d q=>k c v ?_ q) (λc q=>by rw[a_ (g c _ q)];exact q) λc xs q=>by rw[a_ (g c _ q)];exact q
   rcases d with z|z
   .rw [z];exact uJ (λb a=>(f b a).1) e
   .exact uJ (λb a=>(f b a).1) z
end
noncomputable def uC{α:Type}:Sem α->Prop
 |.pure _=>True
 |.raise _=>True
 |.unsupported _=>True
 |.load _ _ k=>∀o,uC (k o)
 |.update _ _ f k=>(∀o,(f o).dict=o.dict)/\uC (k ())
 |.alloc _ k=>∀a,uC (k a)
 |.stack k=>∀a,uC (k a)
 |.ask k=>∀a,uC (k a)
 |.handled _ k=>∀a,uC (k a)
 |_=>False
noncomputable def DK(h h':Heap):Prop:=∀(b:Addr)(o:Obj),h.objs[b]?<*o->∃o',h'.objs[b]?=some o'/\o'.dict=o.dict
theorem DK.refl:DK h h:=λ_ o e=>(o,e,rfl)
theorem DK.trans(a:DK h h1)(b:DK h1 h2):DK h h2:=λx o e=>let⟨_,f,d1⟩:=a x o e;let⟨c,d,d2⟩:=b x _ f;(c,d,d2.trans d1)
theorem i'{f:c->Sem e}(d:∀a,uC (f a)):∀{t:Sem c},uC t->uC (t>>=f):=by
 intro t;show uC t->uC (Sem.bind t f);induction t with
 |pure a=>exact λ_=>d a
 |raise=>exact id
 |unsupported=>exact id
 |load a p k b=>exact λh o=>b o (h o)
 |update a p g k b=>exact λh=>(h.1,b () h.2)
 |alloc o k b=>exact λh a=>b a (h a)
 |stack k b=>exact λh a=>b a (h a)
 |ask k b=>exact λh a=>b a (h a)
 |handled o k b=>exact λh a=>b a (h a)
 |_=>exact λh=>h.elim
theorem pB{Q:i->Pos->Shared->Prop}:∀(t:Sem i)(p:Pos)(s:Shared),uC t->DK h0 s.heap->Sem.wp M Γ t (λa p s'=>DK h0 s'.heap->Q a p s') E p s->Sem.wp M Γ t Q E p s:=by
 intro t;induction t with
 |pure a=>exact λp s _ d h=>h d
 |raise=>exact λp s _ d h=>h
 |unsupported=>exact λp s _ d h=>h
 |load a q k c=>exact λp s g d⟨o,e,h⟩=>(o,e,c o p s (g o) d h)
 |update a q f k c=>
  refine λp s g d⟨e,h⟩=>(e,c () p _ g.2 (d.trans λb o z=>?_) h);show ∃j,(s.heap.objs.modify a f)[b]?=some j/\_;rw[Array.getElem?_modify];split
  .rw [z];exact(f o,rfl,g.1 o)
  .exact (o,z,rfl)
 |alloc o k c=>
  refine λp s g d h=>c _ p _ (g _) (d.trans λb u z=>(u,?_,rfl)) h;show(s.heap.objs.push o)[b]?<*u;rw[Array.getElem?_push,if_neg (ne_of_lt (Array.getElem?_eq_some_iff.mp z).1)];exact z
 |stack k c=>exact λp s g d h=>c _ p s (g _) d h
 |ask k c=>exact λp s g d h=>c _ p s (g _) d h
 |handled o k c=>exact λp s g d h=>c _ p s (g _) d h
 |_=>exact λp s g=>g.elim
theorem uY{t:Sem b}{Q:b->Shared->Prop}(g:uC t)(h:wpAny M A t (λa s'=>DK s.heap s'.heap->Q a s') E s):wpAny M A t Q E s:=
 λΓ p c=>pB t p s g .refl (h Γ p c)
theorem fZ(h:∀o,(f o).dict=o.dict):uC (update a f):=(h,True.intro)
theorem Dr(a:Addr):uC (load a):=λ_=>True.intro
theorem vo:uC stack:=λ_=>True.intro
theorem uR(v:Value)(i:Nat):uC (field v i):=by
 unfold field fieldsOf;refine i' (λa=>by split<;>exact True.intro) ?_;split
 .refine i' (λo=>by split<;>exact True.intro) (Dr _)
 .exact True.intro
theorem vR(v:Value)(i:Nat)(x:Value):uC (setField v i x):=by
 unfold setField updateField;split
 .refine i' (λo=>?_) (Dr _);split
  .split
   .exact (λo=>by unfold mapFields;split<;>rfl,True.intro)
   .exact True.intro
  .exact True.intro
 .exact True.intro
theorem uZ(e:Value)(f:Option Addr):uC (setFlight e f):=by
 unfold setFlight;exact i' (λa=>by split;exact vR _ _ _;exact True.intro) (uR _ _)
theorem EM:∀l:List Env,uC (readyFrames l)
 |[]=>True.intro
 |env::r=>by
  unfold readyFrames;split
  .refine i' (λo=>?_) (Dr _);split
   .exact True.intro
   .refine i' (λb=>i' (λv=>i' (λ_=>EM r) ?_) ?_) ?_
    .exact fZ λ_=>rfl
    .unfold keptBack;split
     .split
      .exact True.intro
      .refine i' (λ_=>?_) ?_
       .exact True.intro
       unfold underTheClaimsCaller;exact i' (λ_=>by first|exact True.intro|(split<;>exact True.intro)) vo
     .exact True.intro
    .unfold behindIsImport;split
     .exact True.intro
     .split
      .exact True.intro
      .refine i' (λ_=>?_) (uR _ _);exact True.intro
  .exact True.intro
theorem zn(T:String)(b:List Value):uC (newFields T b):=by
 unfold newFields newObj newObjAsIs;dsimp only;split
 .exact True.intro
 .refine i' (λa=>?_) ?_
  .exact True.intro
  .exact λ_=>True.intro
theorem wg(e:Value)(env:Env):uC (noteFrame e env):=by
 unfold noteFrame;split
 .refine i' (λh=>?_) (uR _ _);have rest:∀b:Bool,uC (do setField e 1 (<-EntryCells.newEntry h (<-PySem.frameOf env) .none (rawInt ‹Addr›) .none (<-entryPlaceOf ‹Addr› b))):=λb=>by
   refine i' (λc=>i' (λpl=>i' (λx=>vR _ _ _) ?_) ?_) ?_
   .exact zn _ _
   .unfold entryPlaceOf;refine i' (λa=>by split<;>exact True.intro) vo
   .unfold PySem.frameOf frameEnvs;refine i' (λd=>i' (λo=>by split<;>exact True.intro) ?_) (i' (λ_=>?_) vo)
    rotate_left
    .exact True.intro
    unfold frameObject;split
    .exact True.intro
    .refine i' (λ_=>?_) (EM _);exact True.intro
  split
  .refine i' (λx=>?_) (uR _ _);split
   .exact True.intro
   .exact i' (λ_=>rest _) (vR _ _ _)
  .exact rest _
 .exact True.intro
theorem vv(env:Env)(e:Value):uC (leaving env e):=i' (λ_=>uZ _ _) (wg _ _)
noncomputable def AF(h:Heap)(e T:Addr)(cls a0:Value)(d:Option Addr):Prop:=
 ∃oe vs oT ts,h.get? e=some oe/\(oe.cls=cls/\vs[0]?<*a0)/\oe.data=.fields vs/\vs[1]?=some (.ref T)/\T≠e/\h.get? T=some oT/\oT.data=.fields ts/\ts[3]?=some .none/\∀x,d<*x->oe.dict<*x
theorem AF.traced(x:AF h e T cls a0 d)(n:base.get? T=none):h.TracedW base e cls a0:=by
 obtain⟨b,a,c,ts,h1,h2,l,k,j,i,g,f,_⟩:=x;exact(b,a,T,c,ts,h1,h2,l,k,n,j,i,g,f)
theorem iP(x:h.TracedW base e cls a0):∃T,base.get? T=none/\AF h e T cls a0 none:=by
 obtain⟨b,a,T,c,ts,h1,h2,k,j,n,i,g,f,d⟩:=x;exact(T,n,b,a,c,ts,h1,h2,k,j,i,g,f,d,λ_ z=>nomatch z)
theorem Cw{h:Heap}(e:h.get? a<*o):h.objs[a]?<*o:=by
 unfold Heap.get? at e;split at e
 .cases e
 .exact e
theorem AF.up(f:AF h' e T cls a0 none)(k:DK h h')(g:h.get? e<*o)(r:∀x,d<*x->o.dict<*x):AF h' e T cls a0 d:=by
 obtain⟨c,b,i,ts,h1,h2,q,p,n,m,l,j,_⟩:=f;obtain⟨t,a,s⟩:=k e o (Cw g);rw[Cw h1]at a;cases a;exact(c,b,i,ts,h1,h2,q,p,n,m,l,j,λx z=>s.trans (r x z))
noncomputable def ve(P:Program)(w:World):CXT:=λouter H s E ev s'=>∃(e T:Addr)(C a0:Value)(dd:Option Addr)(H':Hp),ev=.ref e/\s'.os=s.os/\AllBare s'.gens/\Un (tf outer) [] H H' s.heap s'.heap/\uO P w H' s'.heap/\
 s.heap.get? e=none/\s.heap.get? T=none/\H' e=none/\H' T=none/\AF s'.heap e T C a0 dd/\E C dd H'
theorem Bo{h base:Heap}{a:List Addr}:∀{l:List Env},h.FunFrames base l->(∀b∈tf l,b∈a)->h.FunFrames (hideAll h a) l
 |[],_,_=>trivial
 |env::r,i,c=>by
  obtain⟨j,⟨L,o,d,n,g,k⟩,f⟩:=i;have e:tf (env::r)=L::tf r:=by unfold tf;rw[List.filterMap_cons,d]
  exact(j,(L,o,d,hideAll_none _ (c L (by rw[e];exact mem_cons_self)),g,k),Bo f λb m=>c b (by rw[e];exact mem_cons_of_mem _ m))
theorem Cy{h base:Heap}:∀{l:List Env},h.FunFrames base l->∀b∈tf l,∃o,h.get? b=some o/\∀c,o.data≠.fields c
 |env::r,g,b,a=>by
  obtain⟨m,⟨L,o,i,k,f,j⟩,d⟩:=g;have e:tf (env::r)=L::tf r:=by unfold tf;rw[List.filterMap_cons,i]
  rw[e]at a;rcases mem_cons.mp a with rfl|a
  .exact (o,f,j)
  .exact Cy d b a
section
variable{X:Cx}{pins:List (Addr×Obj)}{σ:St}{H H':Hp}{s:Shared}{h1 h2:Heap}
theorem f'.flown{S:List Addr}(I:f' X pins σ H s)(g:Un (tf X.stack) [] H H' s.heap h1)(x:uO X.prog X.w H' h1)(t:∀b∈S,s.heap.get? b=none)(off:∀b∈S,H' b=none)(d:∀b o,h1.get? b<*o->b∉S->b∉tf X.stack->h2.get? b<*o)(D:h1.UpToSlots h2)(M:AllBare g'):f' X pins σ H' {s with heap:=h2,gens:=g',drawn:=d',toks:=t'}/\Un (tf X.stack) [] H H' s.heap h2/\uO X.prog X.w H' h2:=by
 have h:∀b o,s.heap.get? b<*o->b∉S:=λb o e a=>by rw[t b a]at e;cases e
 have A:∀b∈tf X.stack,∃o,s.heap.get? b=some o/\∀F,o.data≠.fields F:=Cy I.stack;have r:∀b∈tf X.stack,H' b=none:=λb a=>by
  obtain⟨o,L,_⟩:=A b a;exact g.free b o L (I.stkFree b a) (!1)
 have l:Un (tf X.stack) [] H H' s.heap h2:=by
  refine(λb o e n a k=>d b o (g.keep b o e n a k) (h b o e) a,λb o e n a k=>?_,g.free,λb o e k=>?_,g.tups,g.frzs,g.tbls)
  .obtain ⟨G,C⟩:=g.slot b o e n a k;obtain⟨J,f,y⟩:=A b a;rw[e]at f;cases f;obtain⟨m,B⟩:=D b _ C y;exact(m,B)
  .obtain ⟨E,C⟩:=g.there b o e k;by_cases a:b∈tf X.stack
   .obtain ⟨J,f,y⟩:=A b a;rw[e]at f;cases f;obtain⟨G,B⟩:=g.slot b o e (I.stkFree b a) a k;obtain⟨m,N⟩:=D b _ B y;exact(_,N)
   .exact (E,d b E C (h b o e) a)
 have i:uO X.prog X.w H' h2:=λb u e=>(x b u e).stay (λc v j q=>d c v q (λp=>?_) λp=>?_) (λ_ q=>q) λ_ _ q=>q
 .exact (I.call (g':=g') (d':=d') (t':=t') (ch:=[]) l i M (λ_ z=>nomatch z),l,i)
 .rcases j with rfl|j
  .rw [off c p]at e;cases e
  .rw [off c p]at j;cases j
 .rcases j with rfl|j
  .rw [r c p]at e;cases e
  .rw [r c p]at j;cases j
theorem vF(I:f' X pins σ H s)(a:X.ex=[])(d:s.heap.get? b=none):X.s₀.heap.get? b=none:=by
 cases e:X.s₀.heap.get? b with
 |none=>rfl
 |some o=>
  obtain⟨c,q⟩:=I.base.there b o e (by rw[a];simp);rw[d]at q;cases q
theorem Cz(c:uO P w H h)(d:h.get? b=none):H b=none:=by
 cases e:H b with
 |none=>rfl
 |some u=>
  obtain⟨o,q⟩:∃o,h.get? b<*o:=by
   have z:=c b u e;cases u with
   |lst=>obtain⟨_,a,n,_,q⟩:=z;exact(_,q)
   |tup=>obtain⟨_,a,_,o,q,_⟩:=z;exact(_,q)
   |dK=>obtain⟨_,_,i,_,o,f,g,q,_⟩:=z;exact(_,q)
   |dT=>obtain⟨_,_,xs,_,o,f,g,q,_⟩:=z;exact(_,q)
   |set=>obtain⟨o,f,g,t,q,_⟩:=z;exact(o,q)
   |ins=>obtain⟨_,_,_,q,_⟩:=z;exact(_,q)
   |own=>exact z
   |xd=>obtain⟨j,⟨o,f,g,q,_⟩,_⟩:=z;exact(o,q)
   |rng=>obtain⟨t,u,v,q⟩:=z;exact(_,q)
   |frz=>exact(_,z.1)
   |tbl=>exact(_,z)
   |met=>exact(_,z)
   |ext=>exact z.2.1
  rw[d]at q;cases q
theorem Ds(j:AF h e T cls a0 d)(f:h.FunFrames base l):T∉tf l:=λc=>by
 obtain⟨m,k,n,ts,_,_,_,_,_,i,a,_⟩:=j;obtain⟨o,b,g⟩:=Cy f T c;rw[i]at b;cases b;exact g ts a
end
section
variable{X:Cx}{E:XK}
theorem kO(g:X.ex=[])(c:X.stack=X.env::X.outer)(i:X.env.frame<*X.env.locals){r:St}(I:f' X l r H s)(mk:Heap.MadeExcOf s.heap h1 e C D)(q:E C none H):wpAny (model X.prog X.w) X.A (leaving X.env (.ref e)) (λ_ a=>ve X.prog X.w X.outer X.H₀ X.s₀ E (.ref e) a) (λe' a=>ve X.prog X.w X.outer X.H₀ X.s₀ E e' a) {s with heap:=h1}:=by
 have f:s.heap.FunFrames X.base (X.env::X.outer):=c▸I.stack;refine wpAny_leaves_madeW (s:={s with heap:=h1}) (base:=hideAll s.heap (tf X.stack)) (h:=s.heap) (by rw[<-c];exact I.ok.frames) i (λb o z=>of_hideAll _ z) (Bo f (by rw[c];exact λ_ z=>z)) mk λh' t n tup F u=>?_;obtain⟨j,v,d⟩:=I.flown (H':=H) (h1:=s.heap) (h2:=h') (g':=s.gens) (d':=s.drawn) (t':=s.toks) (S:=[]) Un.refl I.hok (λ_ z=>nomatch z) (λ_ z=>nomatch z) (λb o z _ y=>n.1 b o (hideAll_get _ z y))
  (λb o z x=>u b o (mk.keeps b o z) x) I.bare
 obtain⟨T,m,p⟩:=iP n.2.2.2;have dT:s.heap.get? T=none:=by
  cases z:s.heap.get? T with
  |none=>rfl
  |some o=>
   have B:=Ds p j.stack;rw[hideAll_get _ z B]at m;cases m
 have k:=j.base;rw[g]at k;exact(e,T,C,.ref t,none,H,rfl,j.os,I.bare,k,d,vF I g mk.new,vF I g dT,Cz I.hok mk.new,Cz I.hok dT,p,q)
theorem mY(G:X.ex=[])(h:X.stack=X.env::X.outer)(J:X.env.frame<*X.env.locals)(hE:∀C d H,E' C d H->E C d H){N:St}(I:f' X l N H s)(cx:ve X.prog X.w X.stack H s E' Y s'):wpAny (model X.prog X.w) X.A (leaving X.env Y) (λ_ f=>ve X.prog X.w X.outer X.H₀ X.s₀ E Y f) (λe' f=>ve X.prog X.w X.outer X.H₀ X.s₀ E e' f) s':=by
 obtain⟨e,T,C,a0,dd,H',rfl,os,a,B,i,Z,dT,Q,R,W,q⟩:=cx;obtain⟨c,g,d,k,F⟩:=s';obtain rfl:F=s.os:=os;have I1:f' X l N H' {s with heap:=c,gens:=g,drawn:=d,toks:=k}:=I.call (g':=g) (d':=d) (t':=k) (ch:=[]) B i a (λ_ z=>nomatch z);have D:c.FunFrames X.base (X.env::X.outer):=h▸I1.stack;have fl:Heap.FlyingW (hideAll c (e::T::tf X.stack)) (X.env::X.outer) e C a0 c:=
  (λb o z=>of_hideAll _ z,hideAll_none _ (!1),Bo D (by rw[<-h];exact λb z=>mem_cons_of_mem _ (mem_cons_of_mem _ z)),W.traced (hideAll_none _ (!1)))
 refine uY (s:=(c,g,d,k,s.os)) (vv _ _) (wpAny_leaves_onW (s:=(c,g,d,k,s.os)) (by rw[<-h];exact I.ok.frames) J fl λh' v up dk=>?_);have m:∀b o,c.get? b<*o->b∉[e,T]->b∉tf X.stack->h'.get? b<*o:=λb o z U t=>v.1 b o (hideAll_get _ z λp=>by
  rcases mem_cons.mp p with y|p
  .exact U (by rw[y];simp)
  .rcases mem_cons.mp p with y|p
   .exact U (by rw[y];simp)
   .exact t p)
 obtain⟨M,ab,n⟩:=I.flown (H':=H') (h1:=c) (h2:=h') (g':=g) (d':=d) (t':=k) (S:=[e,T]) B i (λb t=>by rcases mem_cons.mp t with z|z;rw[z];exact Z;rw[uN z];exact dT)
  (λb t=>by rcases mem_cons.mp t with z|z;rw[z];exact Q;rw[uN z];exact R) m up a
 obtain⟨T',P,j⟩:=iP v.2.2.2;have x:s.heap.get? T'=none/\H' T'=none:=by
  cases z:c.get? T' with
  |none=>
   refine(?_,Cz i z);cases y:s.heap.get? T' with
   |none=>rfl
   |some o=>
    obtain⟨o',r⟩:=B.there T' o y (!1);rw[z]at r;cases r
  |some o=>
   by_cases u:T'=T
   .rw [u];exact(dT,R)
   .have hTe:T'≠e:=by obtain⟨_,_,_,_,_,_,_,_,z,_⟩:=j;exact z
    have L:=Ds j M.stack;rw[hideAll_get _ z (by simp[u,hTe,L])]at P;cases P
 have O:=M.base;rw[G]at O;obtain⟨oe,_,_,_,g1,_,_,_,_,_,_,_,g2⟩:=W;exact(e,T',C,a0,dd,H',rfl,M.os,a,O,n,vF I G Z,vF I G x.1,Q,x.2,j.up dk g1 g2,hE _ _ _ q)
end
section
variable{X:Cx}
noncomputable def oz(X:Cx)(e:Expr)(c:St->Prop):Prop:=∀(pins:List (Addr×Obj))(s:Shared)(σ:St)(H:Hp)(Q:Value->Shared->Prop),f' X pins σ H s->c σ->(∀y t s',f' X pins σ H s'->y.length≤100000->Q (.str y t) s')->
 wpAny (model X.prog X.w) X.A (eval e X.env) Q X.xe s
noncomputable def jb(X:Cx):List Expr->(St->Prop)->Prop
 |[],_=>True
 |e::es,c=>oz X e c/\jb X es c
theorem gf(h:x.length≤100000:=by decide):oz X (.Constant (.str x) j pos) c:=λ_ _ _ _ _ I _ q=>Calls.Constant_str (q x _ _ (I.tok _) h)
noncomputable def pM(i:Nat)(σ:St):Prop:=∃x:Str,σ[i]?=some (some (.str x))/\x.length≤5000/\∀c∈x.cps.toList,c<1000000
theorem qt(h:n≤100000):n≤sizeLine:=by rw[sizeLine_eq];exact le_trans h (!0)
theorem gb(i:Nat)(j:PE X v (aL i))(k:∀a,c a->pM i a):oz X (.FormattedValue v (-1) none pos) c:=λb s a H Q I l q=>by
 obtain⟨x,e,r,_⟩:=k a l;refine PyProof.Rows.FormattedValue_plain (n0 (j b s a H (λw f=>w=.str x/\f=H) I (_,e,rfl,rfl)) λu p d=>?_);obtain⟨w,f,o,h,n,m⟩:=d;subst n m;obtain⟨t,rfl⟩:=h;exact PyProof.Rows.formatField_str (λt' g=>q x t' _ (o.tok g) (le_trans r (!0))) (qt (le_trans r (!0)))
theorem EN{c:St->Prop}{a:List (Addr×Obj)}{f:St}{H:Hp}{Q:Str->Shared->Prop}(g:c f)(q:∀out s,f' X a f H s->out.length≤3000000->Q out s):∀{d:List Expr}{b:Str}{s:Shared},jb X d c->d.length≤20->b.length+d.length*100000≤3000000->f' X a f H s->
  Joins (model X.prog X.w) X.A X.xe (evalEach d X.env) b Q s
 |[],b,s,_,_,hz,I=>by
  rw[show evalEach [] X.env=[] by rfl];exact q b s I (by simpa using hz)
 |e::d,b,s,h,i,hz,I=>by
  rw[show evalEach (e::d) X.env=eval e X.env::evalEach d X.env by rfl];refine h.1 a s f H _ I g λy t s' j k=>(y,t,rfl,?_,?_)
  .rw [Str.length_append,sizeLine_eq];simp at hz;lia
  .refine EN g q h.2 (by simp at i;exact le_trans i (!0)) ?_ j;rw[Str.length_append];simp at hz;lia
noncomputable def tP(c:St->Prop):TE:=λσ H Q=>c σ/\∀x,Q (.str x) H
theorem qB(h:jb X (b::a::rest) c)(e:(b::a::rest).length≤20:=by decide):PE X (.JoinedStr (b::a::rest) pos) (tP c):=by
 intro d s i H Q I ⟨f,q⟩;refine wpAny_JoinedStr (EN f (λout s' g hz=>(?_,.str out,H,g.tok _,(_,rfl),q out)) h e ?_ I)
 .have:Str.empty.length=0:=rfl;simp at e⊢;lia
 .rw [sizeLine_eq];exact le_trans hz (!0)
end
noncomputable def xt(K:Frag)(C:Addr):Prop:=PySem.W.excIn K C [.type "ValueError",.type "Exception",.type "BaseException",.type "object"] "ValueError.__new__"=true
theorem xt.obj{K:Frag}(q:xt K C)(X:K.In h):∃bm N nm j bs hdct sn sub ab col dd k0 k1 k2 k3 k5 mN,h.get? C=some (excClassObj nm j C N bs bm hdct sn sub ab col dd k0 k1 k2 k3 k5 "ValueError.__new__")/\h.Ns N mN/\mN "__init__"=none/\
  OwnTail h [.type "ValueError",.type "Exception",.type "BaseException",.type "object"] bm:=by
 unfold xt PySem.W.excIn at q;split at q;case h_2=>cases q
 case h_1 o dd n i c=>
  split at q;case h_2=>cases q
  case h_1 D bm k0 k1 k2 k3 mk k5 m k=>
   obtain⟨q,a⟩:=and_eq_true_iff.mp q;obtain⟨q,b⟩:=and_eq_true_iff.mp q;obtain⟨q,g⟩:=and_eq_true_iff.mp q;obtain⟨q,d⟩:=and_eq_true_iff.mp q;obtain⟨f,e⟩:=and_eq_true_iff.mp q;cases beq_iff_eq.mp f;cases beq_iff_eq.mp e;obtain⟨l⟩:=i;cases k;cases n;cases m;cases not_eq_true' _▸d;exact(bm,_,_,_,_,_,_,_,_,_,dd,k0,k1,k2,k3,k5,_,X _ _ c,.of_isNs (PySem.W.isNs_of_in X b),PySem.W.nsMap_none_of_in X b (beq_iff_eq.mp a),PySem.W.tail_of_in X g)
noncomputable def ot(X:Cx)(E:XK):Prop:=∀(pins:List (Addr×Obj))(σ:St)(H:Hp)(s:Shared)(h1:Heap)(e:Addr)(C:Value)(vs:List Value),f' X pins σ H s->Heap.MadeExcOf s.heap h1 e C vs->E C none H->X.xe (.ref e) {s with heap:=h1}
noncomputable def qp(C:Addr)(E:XK)(t:TA):TS:=λ_ σ H=>t σ H λvs H1=>vs.length≤sizeLine/\E (.ref C) none H1
theorem mr{r a pos:Pos}(z:X.calm=true)(B:ot X E)(G:xt X.K C)(u:X.mg x<*.ref C)(A:PA X (j::rest) t)(w:Gl X x:=by rfl)(y:(x==("__debug__":Str))=false:=by decide)(l:starEach (j::rest) X.env=(false,eval j X.env,)::starEach rest X.env:=by rfl)(d:(backTo a (starEach rest X.env)).any (·.1)=false:=by rfl):PS X (.Raise (some (.Call (.Name x r) (j::rest) [] a)) none pos) (qp C E t):=by
 intro b s k H D I h;obtain⟨bm,N,nm,p,bs,hdct,sn,sub,ab,col,dd,k0,k1,k2,k3,k5,mN,i,F,f,n⟩:=G.obj I.ok.mod.kin;refine wpAny_Raise_call_subT (C:=C) (nm:=nm) (q:=p) (N:=N) (bs:=bs) (bm:=bm) (hdct:=hdct) (sn:=sn) (sub:=sub) (ab:=ab) (col:=col) (dd:=dd) (k0:=k0) (k1:=k1) (k2:=k2) (k3:=k3) (k5:=k5) excBase_ValueError (mN:=mN)
  (n.hasType excBase_ValueError.hasBase) (I.ok.hd z) (by rw[l];show(false||(backTo a (starEach rest X.env)).any (·.1))=false;rw[d];rfl) f (uB I w u (rfl,?_) y)
 have m:=A a b s k H _ I h;rw[l]at m⊢;exact Calls.evalArgs_plain (n0 m λM s2 g=>by obtain⟨L,J,c,o,v,q⟩:=g;exact(rfl,by rw[<-o.length];exact v,c.bk _ _ i,F.keeps c.bk,n.keeps c.bk,λh' e mk=>B b k J s2 h' e _ _ c mk q))
section
variable{P:Program}{w:World}{K:Frag}{mg:Str->Option Value}{base:Heap}{N:List Str}{qual:Str}{scope:Scope}{f:Addr}{cd:Value}{A:Around}{outer:List Env}{s:Shared}{H:Hp}{E:XK}
theorem hZ:ot (aK (ve P w) P w K mg base N qual scope f cd A outer s H E) E:=λa b g d h1 e C c I mk q=>kO (X:=aK (ve P w) P w K mg base N qual scope f cd A outer s H E) rfl rfl rfl I mk q
theorem wR(b:∀C d H,e C d H->E C d H):z8 (ve P w) (aK (ve P w) P w K mg base N qual scope f cd A outer s H E) e:=λa g j h i s' I c=>mY (X:=aK (ve P w) P w K mg base N qual scope f cd A outer s H E) rfl rfl rfl b I c
end
theorem tS.okX{P:Program}{w:World}{K:Frag}{st:Stmt}(F:tS K x qual st f j)(S:s_ N ps (h7 st))(len:∀b H Q E,g b H Q E->b.length=ps.length)(c:∀(cdv:Value)(A:Around)(a:List Env)(s:Shared)(H:Hp)(b:List V)(Q:VK)(E:XK),ah k (A.deeper (envOfC qual (h7 st) s⁻¹ f cdv))->g b H Q E->
   ∃t,vH (aK (ve P w) P w K mg base N qual (h7 st) f cdv A a s H E) (ln st) t/\t {nx:=λ_ H'=>Q .non H',rt:=Q} (start N b) H):aa P w K mg base (ve P w) (k+1) f j ps g:=by
 obtain⟨m,l,kV,doc,pm,an,cdv,ct,h,rfl,lk,e⟩:=F.ex;exact gj lk e S len λA a s H b Q E i d=>c cdv A a s H b Q E i d
noncomputable def vk(P:Program)(w:World)(K:Frag)(mg:Str->Option Value)(base:Heap)(x:Str)(k:Nat)(ps:List Str)(sp:Sp):Prop:=
 ∃(f:Addr)(fd:FuncData),mg x=some (.ref f)/\keepIn K (.ref f)=true/\vw K fd ps []/\aa P w K mg base (ve P w) k f fd ps sp
theorem wS{X:Cx}{p pos:Pos}(D:vk X.prog X.w X.K X.mg X.base x k ps d)(g:ah k X.A)(hp:z8 (ve X.prog X.w) X E)(j:PA X (e::a) t)(h:Gl X x:=by rfl)(c:(x==("__debug__":Str))=false:=by decide)(i:starEach (e::a) X.env=(false,eval e X.env,)::starEach a X.env:=by rfl)(b:(backTo pos (starEach a X.env)).any (·.1)=false:=by rfl):PE X (.Call (.Name x p) (e::a) [] pos) (w' d [] E t):=by
 obtain⟨f,m,h1,h2,l,F⟩:=D;exact jp F g h h1 h2 l .nil hp j c i b
noncomputable def gn(e:Addr)(C:Value)(d:Option Addr):HO:=.ext λh=>∃o,h.get? e=some o/\o.cls=C/\(∃vs,o.data=.fields vs)/\∀x,d<*x->o.dict<*x
abbrev Cx.held(X:Cx)(v:Value):Cx:={X with A:=X.A.mark (some v),calm:=false,xe:=λ_ _=>False}
section
variable{X:Cx}{pins:List (Addr×Obj)}{σ:St}{H:Hp}{s:Shared}
theorem f'.held(I:f' X pins σ H s)(v:Value):f' (X.held v) pins σ H s:=
 ((I.ok.mod,I.ok.kind,I.ok.glob,I.ok.blt,I.ok.above,I.ok.inj,I.ok.has,I.ok.cab,λz=>Bool.noConfusion z,I.ok.frames,I.ok.stk,I.ok.exf,I.ok.bs,I.ok.bsz,I.ok.noex,I.ok.exfs,I.ok.funs,I.ok.frf),I.os,I.bare,I.base,I.loc,I.cell,I.free,I.freeC,I.pin,I.hok,I.len)
theorem f'.unheld(I:f' (X.held v) pins σ H s)(ok:X.Ok):f' X pins σ H s:=(ok,I.os,I.bare,I.base,I.loc,I.cell,I.free,I.freeC,I.pin,I.hok,I.len)
theorem f'.track(I:f' X pins σ H s)(l:H e=none)(m:X.s₀.heap.get? e=none)(i:X.env.locals≠e)(j:∀x c,X.env.cells.lookup x<*c->c≠e)(h:∀p∈X.pn++pins,p.1≠e)(k:φ s.heap)(a:∃o,s.heap.get? e<*o)(st:∀h1 h2:Heap,φ h1->(∀o,h1.get? e<*o->h2.get? e<*o)->φ h2):f' X pins σ (upd H e (.ext φ)) s:=by
 have d:∀b u,H b<*u->b≠e:=λb u q=>f_ q l;have g:∀b o,X.s₀.heap.get? b<*o->b≠e:=λb o q z=>by rw[z,m]at q;cases q
 refine(I.ok,I.os,I.bare,(I.base.keep,I.base.slot,λb o q n f=>?_,I.base.there,λb xs q=>?_,λb o u q=>?_,λb ps q=>?_),I.loc,I.cell,?_,λx c q=>?_,λp hp=>?_,λb u q=>?_,I.len)
 .rw [a_ (g b o q)];exact I.base.free b o q n f
 .have z:=I.base.tups b xs q;rw[a_ (d b _ z)];exact z
 .have z:=I.base.frzs b o u q;rw[a_ (d b _ z)];exact z
 .obtain ⟨more,z⟩:=I.base.tbls b ps q;exact(more,by rw[a_ (d b _ z)];exact z)
 .rw [a_ i];exact I.free
 .rw [a_ (j x c q)];exact I.freeC x c q
 .obtain ⟨w,v,t⟩:=I.pin p hp;exact(w,by rw[a_ (h p hp)];exact v,t)
 .by_cases f:b=e
  .subst f;rw[j']at q;cases q;exact(k,a,st)
  .rw [a_ f]at q;exact(I.hok b u q).stay (λ_ _ _ r=>r) (λc r=>by rw[a_ (d c _ r)];exact r) λc xs r=>by rw[a_ (d c _ r)];exact r
theorem f'.reframed{e:St}(I:f' X pins σ H s)(f:SameBut X.env.locals s.heap h')(ns:h'.Ns X.env.locals k)(lk:∀(i:Nat)(x:Str)(v:V),X.N[i]?<*x->e[i]?<*some v->AQ X.env.scope x->∃u,ad v u/\tH X.env h' k x u)(w:e.length=X.N.length):f' X pins e H {s with heap:=h',toks:=t'}:=by
 have g:∀b o,X.s₀.heap.get? b<*o->b≠X.env.locals:=λb o q=>ne_of_lt (lt_of_lt_of_le (lt_size q) I.ok.above);have j:∀b u,H b<*u->b≠X.env.locals:=λb u q=>f_ q I.free;refine(I.ok,I.os,I.bare,(λb o q n h a=>(f.2 b (g b o q)).trans (I.base.keep b o q n h a),λb o q n h a=>?_,I.base.free,λb o q a=>?_,I.base.tups,I.base.frzs,I.base.tbls),(k,ns,lk),λx c q=>?_,I.free,I.freeC,λp hp=>?_,λb u q=>?_,w)
 .obtain ⟨m,z⟩:=I.base.slot b o q n h a;exact(m,(f.2 b (g b o q)).trans z)
 .obtain ⟨t,z⟩:=I.base.there b o q a;exact(t,(f.2 b (g b o q)).trans z)
 .obtain ⟨v,o,z,d⟩:=I.cell x c q;exact(v,o,(f.2 c (I.cne x c q)).trans z,d)
 .obtain ⟨B,A,l,y⟩:=I.pin p hp;exact((f.2 p.1 l).trans B,A,l,y)
 .refine (I.hok b u q).stay (λc v a r=>(f.2 c ?_).trans r) (λ_ r=>r) λ_ _ r=>r;rcases a with rfl|a
  .exact j c u q
  .exact j c _ a
theorem f'.goes(I:f' X pins σ H s)(g:X.N.Nodup)(B:X.N[i]?<*n)(y:X.env.kindOf n<*.local)(q:∀s',f' X pins (σ.set i none) H s'->Q () s'):wpAny (model X.prog X.w) A (do bindName X.env n .none;unbindBehindTheSuite X.env n pos) Q E s:=by
 obtain⟨m,p,t⟩:=id I.loc;refine wpAny_nameGoes_keeps y p (by rw[I.ok.kind];rfl) λh' v ns f=>q _ (I.reframed f ns (λj x w e hw k=>?_) (by rw[List.length_set];exact I.len));have a:j≠i:=λz=>by
  subst z;have d:j<σ.length:=by rw[I.len];exact(l' e).1
  rw[List.getElem?_set_self d]at hw;cases hw
 rw[List.getElem?_set_ne (Ne.symm a)]at hw;have b:x≠n:=λz=>a (vr g e (by rw[z];exact B));obtain⟨u,r,l⟩:=t j x w e hw k;refine(u,r,?_);rcases l with⟨k1,k2⟩|⟨k1,c,k2,o,k3,h⟩
 .exact .inl (k1,by show(if x=n then v else m x)<*u;rw[if_neg b];exact k2)
 .exact .inr (k1,c,k2,o,(f.2 c (I.cne x c k2)).trans k3,h)
end
noncomputable def fW(i:Nat)(D:Ends):Ends:={nx:=λσ' H'=>D.nx (σ'.set i none) H',rt:=λ_ _=>False}
noncomputable def oA(K:Frag)(R:Addr)(i:Nat)(ts:TS)(D:Ends)(σ:St):XK:=λC d H'=>exmOne K C (.ref R)=some true/\∀e,H' e=none->ts (fW i D) (σ.set i (some (.ref e))) (upd H' e (gn e C d))
theorem nX{X:Cx}{j:List (Addr×Obj)}{Z:St}{H:Hp}{s s':Shared}(hex:X.ex=[])(J:X.stack=X.env::X.outer)(as:X.env.frame<*X.env.locals)(nd:X.N.Nodup)(hi:X.N[i]?<*n)(hk:X.env.kindOf n<*.local)(hl:zd X.env.scope n)(hf:X.fn n=true\/X.env.scope.names.lookup n<*.local)(hg:Gl X x)(hm:X.mg x<*.ref R)(hs:∀v,vH (X.held v) (b0::suite) ts)(I:f' X j Z H s)(cx:ve X.prog X.w X.stack H s (oA X.K R i ts D Z) ev s')(hd:(x==("__debug__":Str))=false):wpAny (model X.prog X.w) X.A (noteFrame ev X.env) (λ_ s2=>wpAny (model X.prog X.w) X.A (setFlight ev none) (λ_ s3=>wpAny (model X.prog X.w) X.A (handleBy ev X.env [.ExceptHandler (some (.Name x np)) (some n) (b0::suite) hpos]) (SP X j D) X.xe s3) X.xe s2) X.xe s':=by
 obtain⟨e,T,C,a0,dd,H',rfl,os,G,un,Q,de,dT,he,hT,fT,E,q⟩:=cx;obtain⟨F,g,d,B,an⟩:=s';obtain rfl:an=s.os:=os;have I1:f' X j Z H' {s with heap:=F,gens:=g,drawn:=d,toks:=B}:=I.call (g':=g) (d':=d) (t':=B) (ch:=[]) un Q G (λ_ z=>nomatch z);have ag:F.FunFrames X.base (X.env::X.outer):=J▸I1.stack;have fl:Heap.FlyingW (hideAll F (e::T::tf X.stack)) (X.env::X.outer) e C a0 F:=
  (λb o z=>of_hideAll _ z,hideAll_none _ (!1),Bo ag (by rw[<-J];exact λb z=>mem_cons_of_mem _ (mem_cons_of_mem _ z)),fT.traced (hideAll_none _ (!1)))
 have seen:∀(h':Heap),(hideAll F (e::T::tf X.stack)).StaysIn h'->F.UpToSlots h'->f' X j Z H' {s with heap:=h',gens:=g,drawn:=d,toks:=B}:=λh' fk up=>
  (I.flown (H':=H') (h1:=F) (h2:=h') (g':=g) (d':=d) (t':=B) (S:=[e,T]) un Q (λb U=>by rcases mem_cons.mp U with z|z;rw[z];exact de;rw[uN z];exact dT)
   (λb U=>by rcases mem_cons.mp U with z|z;rw[z];exact he;rw[uN z];exact hT) (λb o z hS U=>fk b o (hideAll_get _ z λl=>by
    rcases mem_cons.mp l with y|l
    .exact hS (by rw[y];simp)
    .rcases mem_cons.mp l with y|l
     .exact hS (by rw[y];simp)
     .exact U l)) up G).1
 refine uY (s:=(F,g,d,B,s.os)) (wg _ _) (wpAny_looks_onW (s:=(F,g,d,B,s.os)) (by rw[<-J];exact I.ok.frames) as fl λh2 aM P aT=>uY (s:=(h2,g,d,B,s.os)) (uZ _ _) (wpAny_landsW (s:=(h2,g,d,B,s.os)) aM λh3 M O aS=>?_));have I3:=seen h3 M.1 (P.trans O);obtain⟨oe,ar,aB⟩:=M.there;have ty:PySem.W.Looks (model X.prog X.w) h3 (typeOf (.ref e)) C:=aB▸(PySem.W.Looks.ld ar).andThen .now;refine wpAny_handleBy_cons (codeAny_handlers_test (uB (X:=X.held (.ref e)) (I3.held _) hg hm ?_ hd)) (!5);refine(PySem.W.exm_one I3.kIn ty E).here ?_;refine codeAny_handlers_suite_as (uY (s:=(h3,g,d,B,s.os)) (uZ _ _) (lands_againW (s:=(h3,g,d,B,s.os)) M λh4 Y ab aN=>?_));have I4:=seen h4 Y.1 ((P.trans O).trans ab);obtain⟨o4,v4,L,aC,az,_⟩:=Y.first;have t:∀b o,s.heap.get? b<*o->b≠e:=λb o z y=>by rw[y,de]at z;cases z
 have aA:∀x,dd<*x->o4.dict<*x:=λx z=>by
  obtain⟨ap,_,_,_,g1,_,_,_,_,_,_,_,g2⟩:=fT;obtain⟨o',e1,e2⟩:=((aT.trans aS).trans aN) e ap (Cw g1);rw[Cw L]at e1;cases e1;exact e2.trans (g2 x z)
 have I5:=I4.track (e:=e) (φ:=λh=>∃o,h.get? e=some o/\o.cls=C/\(∃vs,o.data=.fields vs)/\∀x,dd<*x->o.dict<*x) he (vF I hex de) (by obtain⟨m,⟨o,es,ep,z,_⟩,_⟩:=I.loc;exact t _ o z) (λy c z=>by obtain⟨v,o,r,_⟩:=I.cell y c z;exact t c o r)
  (λp hp=>t p.1 p.2 (I.pin p hp).1) (o4,L,aC,(v4,az),aA) (o4,L) λa b aH k=>by obtain⟨o,y,z⟩:=aH;exact(o,k o y,z)
 refine uX I5 nd hi hl (v:=.ref e) rfl (λs5 I6=>?_) hf;refine wpAny_mono (hs (.ref e) j s5 _ _ (fW i D) (I6.held _) (q e he)) (λf s6 h6=>?_) λ_ _ z=>z.elim;cases f with
 |next=>
  obtain⟨aU,H7,I7,q7⟩:=h6;exact(I7.unheld I.ok).goes nd hi hk λs8 I8=>(_,H7,I8,q7)
 |ret u=>
  obtain⟨_,_,_,_,_,z⟩:=h6;exact z.elim
 |brk=>
  obtain⟨_,_,_,z⟩:=h6;exact z.elim
 |cont=>
  obtain⟨_,_,_,z⟩:=h6;exact z.elim
section
variable{X:Cx}{pins:List (Addr×Obj)}{σ:St}{H:Hp}{s:Shared}{x n y fx:Str}{R:Addr}{i j k:Nat}{np hpos pos p cp yp ap:Pos}{b0:Stmt}{suite:List Stmt}{ts:TS}{D:Ends}{ps:List Str}{sp:Sp}{e:Expr}{es:List Expr}{t:TA}
structure tG(X:Cx)(x n:Str)(R:Addr)(i:Nat)(b0:Stmt)(suite:List Stmt)(ts:TS):Prop where
 hex:X.ex=[]
 hst:X.stack=X.env::X.outer
 hfr:X.env.frame<*X.env.locals
 nd:X.N.Nodup
 hi:X.N[i]?<*n
 hk:X.env.kindOf n<*.local
 hl:zd X.env.scope n
 hf:X.fn n=true\/X.env.scope.names.lookup n<*.local
 hg:Gl X x
 hm:X.mg x<*.ref R
 hs:∀v,vH (X.held v) (b0::suite) ts
 hd:(x==("__debug__":Str))=false
end
end L2
namespace L2
open PySem PySem.Spec PySem.W PyProof.Rows Builtin Builtin.ObjectAttr Builtin.Getset_descriptor
structure zo(K:Frag)(C:Addr):Prop where
 ga:findIn K (.ref C) "__getattribute__"<*some (.builtin "BaseException.__getattribute__")
 noHook:findIn K (.ref C) "__getattr__"<*none
 cls:findIn K (.ref C) "__class__"<*some (.builtin "object.__class__")
 get:specialIn K (.builtin "object.__class__") "__get__"<*some (.builtin "getset_descriptor.__get__")
 tk:takesIn K (.builtin "object.__class__")<*true
 obj:mroIn K C (.type "object")<*true
 exc:mroIn K C (.type "BaseException")<*true
 isC:isClsIn K C=true
noncomputable def c9(e C:Addr)(h:Heap):Prop:=∃o,h.get? e=some o/\o.cls=.ref C
theorem c9.ty(x:c9 e C h):Looks M h (typeOf (.ref e)) (.ref C):=by
 obtain⟨o,a,b⟩:=x;exact b▸(Looks.ld a).andThen .now
section
variable{prog:Program}{w:World}{A:Around}{E:Value->Shared->Prop}{s:Shared}{K:Frag}{e C:Addr}
theorem ko:(".".intercalate ("object.__class__".cutAt '.').dropLast)="object":=by decide +kernel
theorem lj(x:c9 e C s.heap)(h:R (.ok (.ret (.ref C))) s):codeAny (model prog w) A (.builtin "object.__class__" ([.ref e],[])) R s:=by
 have a:=x.ty (M:=model prog w);refine codeAny_builtin KF.entry_class ?_
 wp_walk using a.here
 exact h
theorem xu(F:zo K C)(X:K.In s.heap)(x:c9 e C s.heap)(h:R (.ok (.ret (.ref C))) s):codeAny (model prog w) A (.call (.builtin "getset_descriptor.__get__") ([.builtin "object.__class__",.ref e,tp],[])) R s:=by
 have a:∀j,wpAny (model prog w) j (Builtin.«getset_descriptor.__get__» ([.builtin "object.__class__",.ref e,tp],[]))
   (λg s'=>match g with|.done f=>R (.ok f) s'|.again i=>i.quiet=true/\codeAny (model prog w) A i R s') (λe s'=>R (.error e) s') s:=λj=>by
  have d:=x.ty (M:=model prog w);have c:=looks_mroIn (M:=model prog w) X F.obj
  wp_walk using d.here
  simp only[ko];refine c.here ?_
  wp_walk
  exact(Code.quiet_builtin _ (!3),lj x h)
 have b:=KF.args_gs (.builtin "object.__class__") (.ref e) tp;exact codeAny_call_builtin KF.slot_gs.plain KF.entry_gs (KF.slot_gs.check _ _ _ _ _ _ _ _ KF.type_class b (a _))
theorem lq(F:zo K C)(X:K.In s.heap)(x:c9 e C s.heap)(h:Q (some (.ref C)) {s with toks:=s.toks+1}):wpAny (model prog w) A (getAttr? (.ref e) "__class__") Q E s:=by
 obtain⟨p,g,d,t,os⟩:=s;have b:=x.ty (M:=model prog w);have m:=looks_findIn (M:=model prog w) X F.ga;have c:=looks_findIn (M:=model prog w) X F.noHook;have n:=looks_findIn (M:=model prog w) X F.cls;have q:=looks_specialIn (M:=model prog w) X F.get;have j:=looks_takesIn (M:=model prog w) X F.tk;have f:=looks_mroIn (M:=model prog w) X F.exc;have i:=PySem.F.attrBase_ValueError.ga.bind (.ref e);unfold getAttr? getAttrBy? getAttrBy;refine d_ (wpAny_mkText (d_ (wpAny_attempt (wpAny_holding (d_ (b.at (d_ (m.at ?_))))))));have a:(onTheHeap (.ref C)&&Value.builtin "BaseException.__getattribute__"==Value.builtin "object.__getattribute__")=false:=by
  rw[show(Value.builtin "BaseException.__getattribute__"==Value.builtin "object.__getattribute__")=false by decide +kernel,Bool.and_false]
 refine wpAny_ite_false (by rw[a];decide) ?_;unfold getAttrByItsOwn hookBefore callGetattribute boundAndCalled;refine d_ (wpAny_ite_true (!4) (c.at (d_ (wpAny_attempt (wpAny_holding (wpAny_ite_false (!4) (d_ (wpAny_of_eq i (wpAny_call ?_)))))))));refine codeAny_call_builtin PySem.F.attrBase_ValueError.ga.plain PySem.F.entry_bexc_ga ?_;have l:builtinKind "BaseException.__getattribute__"<*.slot:=by decide +kernel
 have k:splitId "BaseException.__getattribute__"<*("BaseException","__getattribute__",):=by decide +kernel
 have o:=PySem.F.args_bexc_ga (.ref e) (.str (Str.ofString "__class__") t);simp only[checkBuiltinCall,l,k];refine d_ ?_;unfold isInstance;refine d_ (b.at (f.at ?_));refine wpAny_ite_false (!0) (wpAny_of_eq o ?_);unfold Builtin.«object.__getattribute__» find getOf;repeat (first|with_reducible refine wpAny_call ?_|lk)
 refine xu F X x (j2 ?_);exact handed_on rfl (j2 h)
theorem zp(F:zo K C):KitX K (.ref e) (.ref C) (c9 e C) where
 ty:=λ_ _ _ x=>x.ty
 it:=λM h X x=>by
  obtain⟨f,a⟩:=Option.isSome_iff_exists.mp F.isC;unfold clsIn at a;split at a;case h_2=>cases a
  case h_1 c=>exact λl i j s' k q=>by unfold isType loadHead;exact d_ (wpAny_loadPart (k _ _ (X _ _ c)) (j2 q))
 ne:=λh tp dd d n g X b=>by
  obtain⟨f,a⟩:=Option.isSome_iff_exists.mp F.isC;unfold clsIn at a;split at a;case h_2=>cases a
  case h_1 c=>
   refine Bool.eq_false_iff.mpr λq=>?_;cases beq_iff_eq.mp q;cases(X _ _ c).symm.trans b
 ca:=λX x k=>lq F X x k
end
noncomputable def qw(K:Frag)(D:Value)(d:V):List V->Hp->VK->Prop:=λxs H Q=>∃e C b dd,xs=[.ref e,d]/\H e=some (gn e (.ref C) dd)/\zo K C/\kitOne K (.ref C) D=some b/\Q (.bl b) H
theorem zq(w:ad d D)(k:∀u,ad d u->u=D):wN X (.builtin "isinstance") (qw X.K D d):=by
 intro a s p H xs v Q I r h;obtain⟨e,C,b,dd,rfl,j,l,i,q⟩:=h;obtain⟨u,t,rfl,g,f⟩:=bc r;cases g;cases k _ f;obtain⟨⟨o,n,m,_⟩,_⟩:=I.hok e _ j;exact kia_one (zp l) I.kIn (o,n,m) i (λz=>nomatch z) λc=>(.bl b,H,I.tok c,rfl,q)
end L2
namespace RA
end RA
namespace RA
open PySem L2
structure Sm(w:LN):Prop where
 len:w.length≤4000
 cod:∀c∈w,c<1000000
theorem AC.sm(h:AC L):Sm L:=(by have:=h.hi;lia,λc a=>by have:=(h.az c a).2;lia)
theorem Sm.txt(h:Sm w)(e:a[i]?<*some (.str (tx w))):pM i a:=(tx w,e,by rw[vn];have:=h.len;lia,by rw[zk];exact h.cod)
end RA
namespace RA
noncomputable def ak(L:LN):LN->LN->Bool
 |c::a,d::b=>if c=d then ak L a b else decide (L.idxOf c<L.idxOf d)
 |_,_=>false
noncomputable def uF(L a b:LN):Bool:=if a.length≠b.length then decide (a.length<b.length)else ak L a b
end RA
namespace L2
open PySem PySem.Spec PyProof.Rows
theorem nJ:∀{x:V},yD x=true->yE x x=true:=by
 intro x h;cases x with
 |non=>rfl
 |bl a=>simp[yE]
 |int a=>simp[yE]
 |str a=>simp[yE]
 |_=>exact absurd (show false=true from h) Bool.false_ne_true
theorem a'.set(s:a' H H')(n:H a=none):a' H (L2.upd H' a o):=λb u e=>by
 rw[a_ (f_ e n)];exact s b u e
end L2
namespace RA
open PySem L2
end RA
namespace L2
theorem ly:PySem.bootBuiltins "ValueError"<*.type "ValueError":=by decide +kernel
end L2
namespace L2
open PySem PySem.Spec PyProof.Rows
section
variable{K:Frag}{tl:TE}{a:Addr}{xs:List V}{tt:TT}{te:TE}{σ:St}{H:Hp}{Q:VK}
end
theorem xW(K:Frag):PySem.W.kitOne K (.type "tuple") (.type "tuple")=some true/\PySem.W.kitOne K (.type "list") (.type "list")=some true/\PySem.W.kitOne K (.type "str") (.type "str")<*true:=
 (by with_unfolding_all rfl,by with_unfolding_all rfl,by with_unfolding_all rfl)
theorem mZ(K:Frag):PySem.W.kitOne K (.type "tuple") (.type "list")<*false:=by kernel_rfl
theorem iC(K:Frag):PySem.W.kitOne K (.type "list") (.type "tuple")<*false:=by kernel_rfl
theorem qT(K:Frag):PySem.W.kitOne K (.type "int") (.type "tuple")<*false:=by kernel_rfl
theorem qU(K:Frag):PySem.W.kitOne K (.type "int") (.type "list")<*false:=by kernel_rfl
theorem qV(K:Frag):PySem.W.kitOne K (.type "bool") (.type "tuple")<*false:=by kernel_rfl
theorem qW(K:Frag):PySem.W.kitOne K (.type "bool") (.type "list")<*false:=by kernel_rfl
theorem qP(K:Frag):PySem.W.kitOne K (.type "str") (.type "tuple")<*false:=by kernel_rfl
theorem qQ(K:Frag):PySem.W.kitOne K (.type "str") (.type "list")<*false:=by kernel_rfl
theorem qS(K:Frag):PySem.W.kitOne K (.type "str") (.type "bool")<*false:=by kernel_rfl
theorem qR(K:Frag):PySem.W.kitOne K (.type "str") (.type "int")<*false:=by kernel_rfl
theorem gK:wN X (.builtin "isinstance") (λxs H Q=>∃x t b,xs=[x,.ty T]/\af X.K H x t/\PySem.W.kitOne X.K t (.type T)=some b/\Q (.bl b) H):=by
 intro a s c H xs d Q I r h;obtain⟨x,t,b,h1,h2,e,q⟩:=h;exact EL (b:=b) a s c H xs d Q I r (x,t,h1,h2,e,q)
section
variable{X:Cx}{elt iter:Expr}{x:Str}{px pos:Pos}{ifs:List Expr}{sc:Scope}{wi:TI}{tt:TT}{te:TE}
theorem xX(f:swapsWith (.ListComp elt [(.Name x px,iter,ifs,0)] sc pos) (some (.Name y c)) a.line env=pure true)(h:∀p,wpAny M A (comprehension (.ListComp elt [(.Name x px,iter,ifs,0)] sc pos) sc env p (newList []) false (eval iter env) (some (assign (.Name y c) env))) (λ_ s'=>Q .next s') E s):wpAny M A (exec (.Assign [.Name y c] (.ListComp elt [(.Name x px,iter,ifs,0)] sc pos) a) env) Q E s:=by
 have b:wpAny M A (evalThenUse (.ListComp elt [(.Name x px,iter,ifs,0)] sc pos) env (assign (.Name y c) env)) (λ_ s'=>Q .next s') E s:=
  d_ (wpAny_mono (h iter.pos) (λ_ _ q=>j2 q) λ_ _ e=>e)
 have d:=exec_Assign_Name_used (env:=env) y c (.ListComp elt [(.Name x px,iter,ifs,0)] sc pos) a f;exact d▸d_ (wpAny_standAt (d_ (wpAny_mono b (λ_ _ q=>j2 q) λ_ _ e=>e)))
end
theorem nZ(K:Frag)(a:X.K=K:=by rfl):wN X (.builtin "isinstance") (λxs H Q=>∃x t b,xs=[x,.ty T]/\af K H x t/\PySem.W.kitOne K t (.type T)=some b/\Q (.bl b) H):=by
 subst a;exact gK
theorem EO(K:Frag)(a:X.K=K:=by rfl):wN X (.type "tuple") (λxs H Q=>∃p ys,xs=[.ref p]/\((lb K H p ys/\∀l,H l=none->Q (.ref l) (upd H l (.tup ys)))\/(pa K H p ys/\Q (.ref p) H))):=by
 subst a;exact Aa
section
variable{X:Cx}{elt iter:Expr}{x:Str}{px pos:Pos}{ifs:List Expr}{sc:Scope}{wi:TI}{tt:TT}{te:TE}
end
end L2
namespace RA
open PySem L2
noncomputable def gO(H:Hp)(rows:List Addr)(Rs:List (List Int)):Prop:=rows.length=Rs.length/\∀(i:Nat)(r:Addr),rows[i]?<*r->∃R,Rs[i]?=some R/\H r<*.tup (R.map V.int)
theorem gO.at(h:gO H a Rs){i:Nat}(e:(a.map V.ref)[i]?<*x):∃r R,x=.ref r/\a[i]?=some r/\Rs[i]?=some R/\H r<*.tup (R.map V.int):=by
 rw[n']at e;cases b:a[i]? with
 |none=>rw[b]at e;cases e
 |some r=>
  rw[b]at e;obtain⟨R,h1,h2⟩:=h.2 i r b;exact(r,R,(Option.some.inj e).symm,rfl,h1,h2)
noncomputable def ow(H:Hp)(m:Addr)(L:LN)(Rs:List (List Int))(Bs:List Bool):Prop:=
 ∃(wy mk:Addr)(rows:List Addr),H m=some (.tup [.str (tx L),.ref wy,.ref mk])/\H wy=some (.tup (rows.map V.ref))/\H mk=some (.tup (Bs.map V.bl))/\gO H rows Rs
noncomputable def bJ:V->Bool
 |.bl _=>true
 |.int _=>true
 |.str _=>true
 |_=>false
noncomputable def eG(H:Hp):Nat->V->V->Prop
 |0,x,y=>x=y/\bJ x=true
 |d+1,x,y=>(x=y/\bJ x=true)\/∃p q xs ys,x=.ref p/\y=.ref q/\((H p=some (.tup xs)/\H q<*.tup ys)\/(H p=some (.lst xs)/\H q<*.lst ys))/\xs.length=ys.length/\xs.length≤2100/\
   ∀(i:Nat)(x y:V),xs[i]?<*x->ys[i]?<*y->eG H d x y
theorem cm(h:bJ x=true):eG H d x x:=by
 cases d with
 |zero=>exact(rfl,h)
 |succ d=>exact Or.inl (rfl,h)
theorem Dt{xs:List V}(h:xs.all bJ=true):∀(i:Nat)(x y:V),xs[i]?<*x->xs[i]?<*y->eG H d x y:=λi x y b a=>by
 rw[b]at a;cases a;exact cm (all_eq_true.mp h x (uM b))
theorem lc(R:List Int):(R.map V.int).all bJ=true:=by
 rw[all_eq_true];intro x a;obtain⟨z,_,rfl⟩:=mem_map.mp a;rfl
theorem n8(R:List Bool):(R.map V.bl).all bJ=true:=by
 rw[all_eq_true];intro x a;obtain⟨z,_,rfl⟩:=mem_map.mp a;rfl
theorem iA(h1:gO H g Rs)(h2:gO H f Rs)(hz:∀R∈Rs,R.length≤2100):∀(i:Nat)(x y:V),(g.map V.ref)[i]?<*x->(f.map V.ref)[i]?<*y->eG H (d+1) x y:=λi x y j h=>by
 obtain⟨a,R,rfl,_,e,l⟩:=h1.at j;obtain⟨b,m,rfl,_,c,k⟩:=h2.at h;rw[e]at c;cases c;exact Or.inr (a,b,_,_,rfl,rfl,.inl (l,k),rfl,by rw[j_];exact hz R (uM e),Dt (lc R))
theorem kN(h1:ow H j L Rs Bs)(h2:ow H h L Rs Bs)(m:Rs.length≤2100)(o:Bs.length≤2100)(hz:∀R∈Rs,R.length≤2100):eG H 3 (.ref j) (.ref h):=by
 obtain⟨l,mk,g,u,t,s,f⟩:=h1;obtain⟨c,e,d,r,q,p,k⟩:=h2;refine Or.inr (j,h,_,_,rfl,rfl,.inl (u,r),rfl,by show 3≤2100;decide,λi x y a b=>?_);match i,a,b with
 |0,a,b=>cases a;cases b;exact cm rfl
 |1,a,b=>cases a;cases b;exact Or.inr (l,c,_,_,rfl,rfl,.inl (t,q),by rw[j_,j_,f.1,k.1],by rw[j_,f.1];exact m,iA f k hz)
 |2,a,b=>cases a;cases b;exact Or.inr (mk,e,_,_,rfl,rfl,.inl (s,p),rfl,by rw[j_];exact o,Dt (n8 Bs))
 |n+3,a,b=>cases a
end RA
namespace L2
theorem iJ{n:Nat}(h0:0≤k)(h1:k<(n:Int)):xT n k<*k.toNat:=by
 unfold xT;simp[h0,h1]
end L2
namespace RA
open PySem L2
end RA
namespace L2
open PySem PySem.Spec PyProof.Rows
section
variable{κ:Type}[DecidableEq κ]
noncomputable def aR(kvs:List (κ×V))(k:κ):Option V:=(kvs.find? λkv=>decide (kv.1=k)).map (·.2)
theorem eR{p:κ×V}{r:List (κ×V)}{k:κ}(e:p.1=k):aR (p::r) k<*p.2:=by simp[aR,find?_cons,e]
theorem eS{p:κ×V}{r:List (κ×V)}{k:κ}(e:¬ p.1=k):aR (p::r) k=aR r k:=by simp[aR,find?_cons,e]
theorem KV.val{kvs:List (κ×V)}{c:List (κ×Value)}(r:KV kvs c)(k:κ):au (aR kvs k) (valueAt c k):=by
 unfold KV at r;induction r with
 |nil=>exact True.intro
 |@cons p q ps a h t d=>
  obtain⟨h1,h2⟩:=h;by_cases e:p.1=k
  .have e':q.1=k:=h1.symm.trans e;have b:valueAt (q::a) k<*q.2:=by simp[valueAt,find?_cons,e']
   rw[eR e,b];exact h2
  .have e':¬ q.1=k:=λz=>e (h1.trans z);have b:valueAt (q::a) k=valueAt a k:=by simp[valueAt,find?_cons,e']
   rw[eS e,b];exact d
end
section
variable{X:Cx}{d:Addr}{kvs:List (wn×V)}
end
end L2
namespace RA
section
variable{κ:Type}[DecidableEq κ]
noncomputable def aE(acc:List κ):List κ->List κ
 |[]=>acc
 |k::ks=>aE (if k∈acc then acc else acc++[k]) ks
noncomputable def sg(ks:List κ):List κ:=aE [] ks
noncomputable def ao(ks:List κ):LN:=ks.map λk=>(sg ks).idxOf k
theorem cL(k:κ):∀(ks a:List κ),aE a (ks++[k])=if k∈aE a ks then aE a ks else aE a ks++[k]
 |[],_=>rfl
 |_::ks,_=>cL k ks _
theorem gv:∀(ks b:List κ)(k:κ),k∈b\/k∈ks↔k∈aE b ks
 |[],b,k=>by simp[aE]
 |a::ks,b,k=>by
  show _↔k∈aE (if a∈b then b else b++[a]) ks;rw[<-gv ks];by_cases h:a∈b
  .rw [if_pos h,mem_cons];constructor
   .rintro (x|rfl|x)
    .exact .inl x
    .exact .inl h
    .exact .inr x
   .rintro (x|x)
    .exact .inl x
    .exact .inr (.inr x)
  .rw [if_neg h,mem_cons,mem_append,mem_singleton];constructor
   .rintro (x|x|x)
    .exact .inl (.inl x)
    .exact .inl (.inr x)
    .exact .inr x
   .rintro ((x|x)|x)
    .exact .inl x
    .exact .inr (.inl x)
    .exact .inr (.inr x)
theorem mem_dis{ks:List κ}{k:κ}:k∈sg ks↔k∈ks:=by
 rw[sg,<-gv];simp
theorem u0(ks:List κ)(k:κ):sg (ks++[k])=if k∈sg ks then sg ks else sg ks++[k]:=cL k ks []
theorem gw:∀(ks b:List κ),(aE b ks).length≤b.length+ks.length
 |[],_=>by simp[aE]
 |a::ks,b=>by
  have h:=gw ks (if a∈b then b else b++[a]);have h2:(if a∈b then b else b++[a]).length≤b.length+1:=by
   split
   .lia
   .simp
  show(aE (if a∈b then b else b++[a]) ks).length≤_;rw[length_cons];lia
theorem jK(ks:List κ):(sg ks).length≤ks.length:=by
 have:=gw ks [];simpa[sg]using this
theorem xJ{l:List κ}{a b:κ}(c:a∈l)(h:l.idxOf a=l.idxOf b):a=b:=by
 have h1:l.idxOf a<l.length:=idxOf_lt_length_of_mem c;have h2:l.idxOf b<l.length:=by lia
 have e:=getElem_idxOf h1;have d:=getElem_idxOf h2;rw[<-e,<-d];congr 1
theorem Bp{l:List κ}{c:κ}:∀{i:Nat},l[i]?<*c->l.idxOf c≤i:=by
 induction l with
 |nil=>intro i e;simp at e
 |cons a l d=>
  intro i e;by_cases b:a=c
  .subst b;rw[List.idxOf_cons_self];exact zero_le _
  .cases i with
   |zero=>simp at e;exact absurd e b
   |succ i=>
    have h1:=d (i:=i) (by simpa using e);have h2:(a::l).idxOf c=l.idxOf c+1:=by
     rw[idxOf_cons,beq_eq_false_iff_ne.mpr b];rfl
    lia
theorem BV(ks:List κ):(ao ks).length=ks.length:=by simp[ao]
theorem BW{ks:List κ}{i:Nat}{k:κ}(h:ks[i]?<*k):(ao ks).getD i 0=(sg ks).idxOf k:=by
 rw[m8,ao,n',h];rfl
theorem EQ{ks:List κ}{x:Nat}(h:x∈ao ks):x<ks.length:=by
 obtain⟨k,a,rfl⟩:=mem_map.mp h;exact lt_of_lt_of_le (idxOf_lt_length_of_mem (mem_dis.mpr a)) (jK ks)
theorem Bq{ks:List κ}{i j:Nat}{a b:κ}(c:ks[i]?<*a)(d:ks[j]?<*b):(ao ks).getD i 0=(ao ks).getD j 0↔a=b:=by
 rw[BW c,BW d];constructor
 .exact xJ (mem_dis.mpr (uM c))
 .rintro rfl;rfl
theorem vK{l m:List κ}{a:κ}(h:a∈l):(l++m).idxOf a=l.idxOf a:=by
 rw[List.idxOf_append,if_pos h]
theorem jD{l:List κ}{a:κ}(h:a∉l):(l++[a]).idxOf a=l.length:=by
 rw[List.idxOf_append,if_neg h];simp
theorem kF{q:Type}[DecidableEq q]:∀(n:Nat)(ks:List κ)(c:List q),ks.length=n->c.length=n->
  (∀(i j:Nat)(a b:κ)(f x:q),ks[i]?<*a->ks[j]?<*b->c[i]?<*f->c[j]?<*x->(a=b↔f=x))->
  (sg ks).length=(sg c).length/\∀(i:Nat)(a:κ)(f:q),ks[i]?<*a->c[i]?<*f->(sg ks).idxOf a=(sg c).idxOf f:=by
 intro n;induction n with
 |zero=>
  intro ks c h1 h2 _;rw[length_eq_zero_iff]at h1 h2;subst h1 h2;exact(rfl,λi a f h=>by simp at h)
 |succ n D=>
  intro ks c h1 h2 hp;obtain⟨k,l,rfl⟩:∃k l,ks=l++[k]:=(ks.getLast (by intro z;rw[z]at h1;cases h1),ks.dropLast,(List.dropLast_concat_getLast _).symm);obtain⟨k',r,rfl⟩:∃k l,c=l++[k]:=(c.getLast (by intro z;rw[z]at h2;cases h2),c.dropLast,(List.dropLast_concat_getLast _).symm);have l1:l.length=n:=by simpa using h1
  have l2:r.length=n:=by simpa using h2
  have s:∀{w:Type}{l:List w}{k:w}{i:Nat}{a:w},l[i]?<*a->(l++[k])[i]?<*a:=λ{w l k i a}e=>by
   rw[getElem?_append_left (l' e).1];exact e
  have p:(l++[k])[n]?<*k:=by rw[getElem?_append_right (!6),l1];simp
  have d:(r++[k'])[n]?<*k':=by rw[getElem?_append_right (!6),l2];simp
  obtain⟨A,y⟩:=D l r l1 l2 λi j a b f x m o F E=>hp i j a b f x (s m) (s o) (s F) (s E);have C:k∈sg l↔k'∈sg r:=by
   rw[mem_dis,mem_dis];constructor
   .intro t;obtain⟨i,v⟩:=mem_iff_getElem?.mp t;have g:i<r.length:=by have:=(l' v).1;lia
    have e:=(hp i n k k r[i] k' (s v) p (s (j1 g)) d).mp rfl;rw[<-e];exact getElem_mem g
   .intro t;obtain⟨i,v⟩:=mem_iff_getElem?.mp t;have g:i<l.length:=by have:=(l' v).1;lia
    have e:=(hp i n l[i] k k' k' (s (j1 g)) p (s v) d).mpr rfl;rw[<-e];exact getElem_mem g
  have split:∀{i:Nat}{a:κ}{f:q},(l++[k])[i]?<*a->(r++[k'])[i]?<*f->(l[i]?=some a/\r[i]?<*f)\/(i=n/\a=k/\f=k'):=λ{i a f}m o=>by
   by_cases v:i<n
   .rw [getElem?_append_left (!6)]at m o;exact .inl (m,o)
   .have:i=n:=by
     have:=(l' m).1;simp at this;lia
    subst this;rw[p]at m;rw[d]at o;exact .inr (rfl,(Option.some.inj m).symm,(Option.some.inj o).symm)
  rw[u0,u0];by_cases t:k∈sg l
  .have u:=C.mp t;rw[if_pos t,if_pos u];refine(A,λi a f m o=>?_);rcases split m o with⟨m,o⟩|⟨rfl,rfl,rfl⟩
   .exact y i a f m o
   .obtain ⟨j,B⟩:=mem_iff_getElem?.mp (mem_dis.mp t);have g:j<r.length:=by have:=(l' B).1;lia
    have e:=(hp j i a a r[j] f (s B) p (s (j1 g)) d).mp rfl;exact y j a f B (by rw[<-e];exact j1 g)
  .have u:k'∉sg r:=λz=>t (C.mpr z);rw[if_neg t,if_neg u];refine(by simp[A],λi a f m o=>?_);rcases split m o with⟨m,o⟩|⟨rfl,rfl,rfl⟩
   .rw [vK (mem_dis.mpr (uM m)),vK (mem_dis.mpr (uM o))];exact y i a f m o
   .rw [jD t,jD u,A]
theorem CA{d:Type}[DecidableEq d]{ks:List κ}{c:List d}(l:ks.length=c.length)(hp:∀(i j:Nat)(a b:κ)(k g:d),ks[i]?<*a->ks[j]?<*b->c[i]?<*k->c[j]?<*g->(a=b↔k=g)):ao ks=ao c:=by
 obtain⟨_,h⟩:=kF c.length ks c l rfl hp;refine List.ext_getElem? λi=>?_;by_cases m:i<ks.length
 .have f:ks[i]?<*ks[i]:=j1 m;have e:c[i]?<*(c[i]'(!6)):=j1 (!6);rw[ao,ao,n',n',f,e];exact congrArg some (h i _ _ f e)
 .rw [getElem?_eq_none (by rw[BV];lia),getElem?_eq_none (by rw[BV];lia)]
end
noncomputable def cy(W:LL)(lots:LN)(i:Nat):Nat×LN:=(lots.getD i 0,(W.getD i []).map λg=>lots.getD g 0,)
noncomputable def zO(W:LL)(lots:LN):List (Nat×LN):=(List.range W.length).map (cy W lots)
noncomputable def Rd(W:LL)(B:List Bool):Nat->LN
 |0=>ao B
 |k+1=>ao (zO W (Rd W B k))
theorem Du(h:i<W.length):(zO W a)[i]?<*cy W a i:=by
 rw[zO,n',getElem?_range h];rfl
theorem xK(W:LL)(a:LN):(zO W a).length=W.length:=by simp[zO]
theorem xL{L:LN}{W:LL}{B:List Bool}(h:g_ L W B):∀k,(Rd W B k).length=W.length
 |0=>by rw[Rd,BV,h.bl]
 |k+1=>by rw[Rd,BV,xK]
theorem bM(h:g_ L W B)(a:x∈Rd W B k):x<W.length:=by
 cases k with
 |zero=>rw[<-h.bl];exact EQ a
 |succ k=>rw[<-xK W (Rd W B k)];exact EQ a
noncomputable def l_(W:LL)(B:List Bool)(k r:Nat):Nat:=(Rd W B k).getD r 0
theorem CB(h:g_ L W B)(d:r<W.length)(c:s<W.length):l_ W B 0 r=l_ W B 0 s↔B.getD r false=B.getD s false:=by
 have b:B[r]?<*(B[r]'(by rw[h.bl];exact d)):=j1 _;have a:B[s]?<*(B[s]'(by rw[h.bl];exact c)):=j1 _;rw[l_,l_,Rd,Bq b a,m8,m8,b,a];rfl
theorem xv(h:g_ L W B)(a:r<W.length):(W.getD r []).length=L.length/\∀x∈W.getD r [],x<W.length:=by
 have e:W.getD r []=W[r]:=by rw[m8,j1 a];rfl
 rw[e];exact h.row _ (getElem_mem a)
noncomputable def goal(W:LL)(r i:Nat):Nat:=(W.getD r []).getD i 0
theorem wu(h:g_ L W B)(a:r<W.length)(b:i<L.length):goal W r i<W.length:=by
 obtain⟨h1,h2⟩:=xv h a;rw[goal,m8,j1 (!6)];exact h2 _ (getElem_mem _)
theorem AG(L:LN)(W:LL)(r c:Nat):vP L W r c=goal W r (L.idxOf c):=rfl
theorem zP(h:g_ L W B)(b:r<W.length)(a:s<W.length):l_ W B (k+1) r=l_ W B (k+1) s↔l_ W B k r=l_ W B k s/\∀i<L.length,l_ W B k (goal W r i)=l_ W B k (goal W s i):=by
 rw[l_,l_,Rd,Bq (Du b) (Du a),cy,cy,Prod.mk.injEq];obtain⟨f,_⟩:=xv h b;obtain⟨d,_⟩:=xv h a;refine and_congr Iff.rfl (λe i c=>?_,λe=>List.ext_getElem? λi=>?_)
 .have:=congrArg (λl=>l[i]?) e;simp only[n']at this;rw[j1 (!6),j1 (!6)]at this;rw[goal,goal,m8 (l:=W.getD r []),m8 (l:=W.getD s []),j1 (!6),j1 (!6)];exact Option.some.inj this
 .by_cases c:i<L.length
  .have:=e i c;rw[goal,goal,m8 (l:=W.getD r []),m8 (l:=W.getD s []),j1 (!6),j1 (!6)]at this;rw[n',n',j1 (!6),j1 (!6)];exact congrArg some this
  .rw [n',n',getElem?_eq_none (!6),getElem?_eq_none (!6)]
theorem Dv(h:g_ L W B)(f:r<W.length)(d:s<W.length):∀{j:Nat},j≤k->l_ W B k r=l_ W B k s->l_ W B j r=l_ W B j s:=by
 induction k with
 |zero=>intro j b e;rw[Nat.le_zero.mp b];exact e
 |succ k c=>
  intro j b e;by_cases a:j=k+1
  .subst a;exact e
  .exact c (!6) ((zP h f d).mp e).1
theorem CC{L:LN}{W:LL}{B:List Bool}(h:g_ L W B):∀{k:Nat}{w:LN}{r s:Nat},r<W.length->s<W.length->w.length≤k->(∀c∈w,c∈L)->l_ W B k r=l_ W B k s->B.getD (run L W r w) false=B.getD (run L W s w) false
 |k,[],r,s,b,a,_,_,e=>(CB h b a).mp (Dv h b a (zero_le k) e)
 |0,c::w,r,s,b,a,f,_,e=>by simp at f
 |k+1,c::w,r,s,b,a,f,hw,e=>by
  have g:L.idxOf c<L.length:=idxOf_lt_length_of_mem (hw c (!1));exact CC h (k:=k) (w:=w) (wu h b g) (wu h a g) (by simpa using f) (λd i=>hw d (by simp[i])) (((zP h b a).mp e).2 _ g)
theorem jQ{W:LL}{B:List Bool}{k:Nat}(e:Rd W B (k+1)=Rd W B k):∀j,Rd W B (k+j)=Rd W B k
 |0=>rfl
 |j+1=>by
  show ao (zO W (Rd W B (k+j)))=_;rw[jQ e j];exact e
theorem pq(h:g_ L W B)(e:Rd W B (k+1)=Rd W B k)(q:l_ W B k r=l_ W B k s)(b:r<W.length)(a:s<W.length)(j:Nat):l_ W B j r=l_ W B j s:=by
 by_cases c:j≤k
 .exact Dv h b a c q
 .have:=jQ e (j-k);rw[show k+(j-k)=j by lia]at this;rw[l_,l_,this];exact q
noncomputable def eU(n:Nat)(lots:LN):Nat:=(List.range n).countP λx=>decide (∃y,y<x/\lots.getD y 0=lots.getD x 0)
theorem Dx{e:Type}{p q:e->Bool}:∀{l:List e},(∀x∈l,p x=true->q x=true)->(∃x∈l,q x=true/\p x=false)->l.countP p<l.countP q
 |[],_,⟨x,b,_⟩=>by simp at b
 |a::l,d,⟨x,b,f,hp⟩=>by
  have g:l.countP p≤l.countP q:=List.countP_mono_left λy c=>d y (by simp[c]);rw[List.countP_cons,List.countP_cons];rcases mem_cons.mp b with rfl|b
  .rw [f,hp];simp;lia
  .have:=Dx (l:=l) (λy c=>d y (by simp[c])) (x,b,f,hp);have h1:=d a (!1);cases hpa:p a with
   |false=>simp;lia
   |true=>rw[h1 hpa];simp;omega
theorem eT(h:g_ L W B)(e:Rd W B (k+1)≠Rd W B k):eU W.length (Rd W B (k+1))<eU W.length (Rd W B k):=by
 refine Dx (λx o hp=>?_) ?_
 .have o:=mem_range.mp o;obtain⟨y,D,f⟩:=of_decide_eq_true hp;exact decide_eq_true (y,D,((zP h (lt_trans D o) o).mp f).1)
 .refine Classical.byContradiction λF=>e ?_;have A:∀s,s<W.length->∀r,r<s->l_ W B k r=l_ W B k s->l_ W B (k+1) r=l_ W B (k+1) s:=by
   intro s;induction s using Nat.strongRecOn with
   |_ s C=>
    intro d r g q;refine Classical.byContradiction λp=>F (s,mem_range.mpr d,decide_eq_true (r,g,q),decide_eq_false ?_);rintro⟨z,hz,l⟩;have l:l_ W B (k+1) z=l_ W B (k+1) s:=l;have E:=((zP h (lt_trans hz d) d).mp l).1;rcases lt_trichotomy r z with c|c|c
    .exact p ((C z hz (lt_trans hz d) r c (q.trans E.symm)).trans l)
    .subst c;exact p l
    .exact p ((C r g (lt_trans g d) z c (E.trans q.symm)).symm.trans l)
  have m:∀r s,r<W.length->s<W.length->(l_ W B (k+1) r=l_ W B (k+1) s↔l_ W B k r=l_ W B k s):=λr s g d=>by
   refine(λq=>((zP h g d).mp q).1,λq=>?_);rcases lt_trichotomy r s with c|c|c
   .exact A s d r c q
   .rw [c]
   .exact (A r g s c q.symm).symm
  cases k with
  |zero=>
   show ao (zO W (Rd W B 0))=ao B;refine CA (by rw[xK,h.bl]) λi j a b H G f n w v=>?_;have u:i<W.length:=by have:=(l' f).1;rwa [xK]at this
   have t:j<W.length:=by have:=(l' n).1;rwa [xK]at this
   rw[<-Bq f n,<-Bq w v];exact m i j u t
  |succ k=>
   show ao (zO W (Rd W B (k+1)))=ao (zO W (Rd W B k));refine CA (by rw[xK,xK]) λi j a b H G f n w v=>?_;have u:i<W.length:=by have:=(l' f).1;rwa [xK]at this
   have t:j<W.length:=by have:=(l' n).1;rwa [xK]at this
   rw[<-Bq f n,<-Bq w v];exact m i j u t
noncomputable def zQ(W:LL)(B:List Bool)(k r s:Nat):List Bool:=((W.getD r []).zip (W.getD s [])).map λp=>decide (l_ W B k p.1=l_ W B k p.2)
noncomputable def place(W:LL)(B:List Bool)(k r s:Nat):Nat:=(zQ W B k r s).idxOf false
noncomputable def pw(L:LN)(W:LL)(B:List Bool):Nat->Nat->Nat->LN
 |0,_,_=>[]
 |k+1,r,s=>L.getD (place W B k r s) 0::pw L W B k (goal W r (place W B k r s)) (goal W s (place W B k r s))
theorem CD(h:g_ L W B)(b:r<W.length)(a:s<W.length)(c:i<L.length):(zQ W B k r s)[i]?<*decide (l_ W B k (goal W r i)=l_ W B k (goal W s i)):=by
 obtain⟨f,_⟩:=xv h b;obtain⟨d,_⟩:=xv h a;rw[zQ,n',goal,goal,m8 (l:=W.getD r []),m8 (l:=W.getD s [])];have e:((W.getD r []).zip (W.getD s []))[i]?<*((W.getD r [])[i]'(!6),(W.getD s [])[i]'(!6),):=by
  rw[getElem?_zip_eq_some];exact(j1 _,j1 _)
 rw[e,j1 (!6),j1 (!6)];rfl
theorem Dy(h:g_ L W B)(b:r<W.length)(a:s<W.length):(zQ W B k r s).length=L.length:=by
 obtain⟨d,_⟩:=xv h b;obtain⟨c,_⟩:=xv h a;rw[zQ,j_,List.length_zip];lia
theorem fq(h:g_ L W B)(d:r<W.length)(c:s<W.length)(l:l_ W B (k+1) r≠l_ W B (k+1) s)(n:l_ W B k r=l_ W B k s):place W B k r s<L.length/\l_ W B k (goal W r (place W B k r s))≠l_ W B k (goal W s (place W B k r s))/\∀i<place W B k r s,l_ W B k (goal W r i)=l_ W B k (goal W s i):=by
 have m:false∈zQ W B k r s:=by
  refine Classical.byContradiction λj=>l ((zP h d c).mpr (n,λi f=>Classical.byContradiction λq=>j ?_));have:=CD h (k:=k) d c f;rw[decide_eq_false q]at this;exact uM this
 have a:place W B k r s<(zQ W B k r s).length:=idxOf_lt_length_of_mem m;have g:place W B k r s<L.length:=by rw[Dy h d c]at a;exact a
 refine(g,?_,λi f=>?_)
 .have p:=getElem_idxOf a;have b:=CD h (k:=k) d c g;rw[j1 a]at b;have o:decide (l_ W B k (goal W r (place W B k r s))=l_ W B k (goal W s (place W B k r s)))=false:=by
   rw[<-Option.some.inj b];exact p
  exact of_decide_eq_false o
 .have b:=CD h (k:=k) d c (i:=i) (lt_trans f g);refine Classical.byContradiction λq=>?_;rw[decide_eq_false q]at b;have:(zQ W B k r s).idxOf false≤i:=by
   have e:=(l' b);obtain⟨h1,h2⟩:=e;exact Bp b
  have t:place W B k r s≤i:=this;lia
theorem jl{L:LN}{W:LL}{B:List Bool}(h:g_ L W B):∀{k r s:Nat},r<W.length->s<W.length->l_ W B k r≠l_ W B k s->(∀j<k,l_ W B j r=l_ W B j s)->
  (pw L W B k r s).length=k/\(∀c∈pw L W B k r s,c∈L)/\B.getD (run L W r (pw L W B k r s)) false≠B.getD (run L W s (pw L W B k r s)) false/\
  ∀u:LN,(∀c∈u,c∈L)->B.getD (run L W r u) false≠B.getD (run L W s u) false->uF L u (pw L W B k r s)=false
 |0,r,s,o,n,z,_=>by
  refine(rfl,λc l=>by simp[pw]at l,λe=>z ((CB h o n).mpr e),λu _ _=>?_);show uF L u []=false;unfold uF;by_cases m:u.length=0
  .rw [length_eq_zero_iff.mp m];rfl
  .rw [if_pos (by simpa using m)];simp
 |k+1,r,s,o,n,z,F=>by
  obtain⟨q,A,f⟩:=fq h o n z (F k (!6));have N:=wu h o q;have M:=wu h n q;have D:∀j<k,l_ W B j (goal W r (place W B k r s))=l_ W B j (goal W s (place W B k r s)):=λj O=>((zP h o n).mp (F (j+1) (!6))).2 _ q;obtain⟨i1,i2,I,H⟩:=jl h N M A D;have i:L.getD (place W B k r s) 0=L[place W B k r s]:=by rw[m8,j1 q];rfl
  have b:L.idxOf (L.getD (place W B k r s) 0)=place W B k r s:=by rw[i];exact Bl h.lt.nd q
  have w:L.getD (place W B k r s) 0∈L:=by rw[i];exact getElem_mem q
  have n1:vP L W r (L.getD (place W B k r s) 0)=goal W r (place W B k r s):=by rw[AG,b]
  have G:vP L W s (L.getD (place W B k r s) 0)=goal W s (place W B k r s):=by rw[AG,b]
  refine(by rw[pw,length_cons,i1],λc l=>?_,?_,λu m v=>?_)
  .rw [pw,mem_cons]at l;rcases l with rfl|l
   .exact w
   .exact i2 c l
  .show B.getD (run L W (vP L W r (L.getD (place W B k r s) 0)) (pw L W B k _ _)) false≠B.getD (run L W (vP L W s (L.getD (place W B k r s) 0)) (pw L W B k _ _)) false;rw[n1,G];exact I
  .have g:k+1≤u.length:=Nat.lt_of_not_le λa=>v (CC h o n a m (F k (!6)));have y:(pw L W B (k+1) r s).length=k+1:=by rw[pw,length_cons,i1]
   cases u with
   |nil=>simp at g
   |cons c u=>
    have l:=m c (!1);have x:L.idxOf c<L.length:=idxOf_lt_length_of_mem l;by_cases a:(c::u).length=k+1
    .have hpu':B.getD (run L W (vP L W r c) u) false≠B.getD (run L W (vP L W s c) u) false:=v;have t:u.length=k:=by simpa using a
     have J:place W B k r s≤L.idxOf c:=le_of_not_lt λC=>hpu' (CC h (wu h o x) (wu h n x) (le_of_eq t) (λd E=>m d (by simp[E])) (f _ C));unfold uF;rw[if_neg (by rw[y];simpa using a),pw,ak];by_cases p:c=L.getD (place W B k r s) 0
     .rw [if_pos p];have:=H u (λd E=>m d (by simp[E])) (by rw[p,n1,G]at hpu';exact hpu');unfold uF at this;rw[if_neg (by rw[i1];simpa using t)]at this;exact this
     .rw [if_neg p,b];simp;omega
    .unfold uF;rw[if_pos (by rw[y];exact a),y];simp;simp at g a;omega
noncomputable def eF(L:LN)(W:LL)(B:List Bool)(r s:Nat)(o:Option LN):Prop:=
 (o=none/\∀k,l_ W B k r=l_ W B k s)\/∃k,o=some (pw L W B k r s)/\l_ W B k r≠l_ W B k s/\∀j<k,l_ W B j r=l_ W B j s
theorem Dz{L:LN}{W:LL}{B:List Bool}(h:g_ L W B){k:Nat}(e:∀i<k,Rd W B (i+1)≠Rd W B i):∀j≤k,eU W.length (Rd W B j)+j≤W.length
 |0,_=>by
  have:=List.countP_le_length (p:=λx=>decide (∃y,y<x/\(Rd W B 0).getD y 0=(Rd W B 0).getD x 0)) (l:=List.range W.length);rw[length_range]at this;exact this
 |j+1,a=>by
  have h1:=Dz h e j (!6);have h2:=eT h (e j (!6));lia
theorem iQ(h:g_ L W B)(e:∀i<k,Rd W B (i+1)≠Rd W B i):k≤4410000:=by
 have h1:=Dz h e k (le_refl _);have h2:=h.n60;lia
theorem eF.spec(h:eF L W B r s o)(a:g_ L W B)(d:r<W.length)(b:s<W.length):(o=none->∀u:LN,(∀c∈u,c∈L)->B.getD (run L W r u) false=B.getD (run L W s u) false)/\
  ∀w,o<*w->(∀c∈w,c∈L)/\w.length≤W.length/\B.getD (run L W r w) false≠B.getD (run L W s w) false/\∀u:LN,(∀c∈u,c∈L)->B.getD (run L W r u) false≠B.getD (run L W s u) false->uF L u w=false:=by
 rcases h with⟨f,h2⟩|⟨k,f,h2,e⟩<;>subst f
 .exact (λ_ u l=>CC a d b (le_refl _) l (h2 u.length),λw z=>by cases z)
 .refine (λz=>(by cases z),λw z=>?_);cases z;obtain⟨i1,i2,j,g⟩:=jl a d b h2 e;refine(i2,?_,j,g);rw[i1];have n:=Dz a (k:=k) (λi m z=>h2 (pq a z (e i m) d b k)) k (le_refl _);lia
end RA
namespace L2
open PySem PySem.Spec PyProof.Rows
noncomputable def m9(b:Bool):Value->Bool
 |.bool c=>c==b
 |_=>false
theorem Br(h:m9 b v=true):v=.bool b:=by
 cases v with
 |bool c=>rw[eq_of_beq (show(c==b)=true from h)]
 |_=>exact absurd (show false=true from h) Bool.false_ne_true
noncomputable def zr(P:Program)(w:World):PySem.KeyKind P w Bool where
 is:=m9
 hash:=λb=>reduceHash (if b then 1 else 0)
 inj:=λv a b ha hb=>by
  have e:=(Br ha).symm.trans (Br hb)
  cases e
  rfl
 byValue:=λk v h=>by rw[Br h];rfl
 pyHash:=λ{A E s k v Q}h q=>by
  cases Br h
  refine PySem.W.pyHash_slot (T:="bool") rfl F.slot_bool_hash entry_int_hash (args_int_hash _) (beq_builtin_none _) (.inl rfl) ?_
  cases k
  .exact (show wpAny _ _ (do ret (<-mkInt 0)) _ _ s from d_ (wpAny_mkInt (j2 (_,_,rfl,q))))
  .exact (show wpAny _ _ (do ret (<-mkInt 1)) _ _ s from d_ (wpAny_mkInt (j2 (_,_,rfl,q))))
 eqBool:=λ{A E s a b u v Q}ha hb q=>by
  cases Br ha
  cases Br hb
  have e:(a==b)=decide (a=b):=by cases a<;>cases b<;>rfl
  exact SeqAt.EqAt.bool_bool a b _ _ _ _ (by rw[e];exact q)
 «strs»:=λk x t v h=>absurd (show false=true from h) Bool.false_ne_true
abbrev NK:=Nat×LN
noncomputable def zs(ks:LN):List Int:=ks.map λ(n:Nat)=>(n:Int)
theorem df(h:zs a=zs b):a=b:=by
 induction a generalizing b with
 |nil=>cases b with
  |nil=>rfl
  |cons y b=>cases h
 |cons x a c=>cases b with
  |nil=>cases h
  |cons y b=>
   have h:((x:Int)::zs a)=((y:Int)::zs b):=h;injection h with h1 h2;rw[c h2,Int.ofNat.inj h1]
section
variable(P:Program)(w:World)
noncomputable def sT(h:Heap)(k:NK)(a:Addr):Prop:=∃(o:Obj)(n:Nat)(t:Tok)(b:Addr),h.get? a=some o/\o.cls=.type "tuple"/\o.data=.seq #[.int (k.1:Int) t,.ref b] n/\IsTupleKey (intKind P w) h (zs k.2) b
noncomputable def DA(k:NK):Int:=reduceHash (Builtin.Tuple.tupleHashOf [hashInt (k.1:Int),tupleKeyHash (intKind P w) (zs k.2)])
end
section
variable{P:Program}{w:World}
theorem sT.inj(i:sT P w h x a)(g:sT P w h y a):x=y:=by
 obtain⟨o,n,t,b,h1,_,k,j⟩:=i;obtain⟨E,F,t',z,d,_,c,l⟩:=g;rw[h1]at d;cases d;rw[k]at c;injection c with v _;have u:[Value.int (x.1:Int) t,.ref b]=[Value.int (y.1:Int) t',.ref z]:=congrArg Array.toList v;injection u with s r;injection s with q _;injection r with p _;injection p with m;subst m;have f:=df (j.inj l);have e:x.1=y.1:=Int.ofNat.inj q;obtain⟨D,C⟩:=x;obtain⟨B,A⟩:=y;simp only at f e;rw[f,e]
theorem sT.keeps{l m}(x:sT P w h k a)(c:h.get? d<*o)(e:o.data=.dict l m)(f:SameBut d h h'):sT P w h' k a:=by
 obtain⟨i,n,t,b,h1,h2,g,j⟩:=x;refine(i,n,t,b,(f.2 a ?_).trans h1,h2,g,j.keeps c e f);rintro rfl;rw[h1]at c;cases c;rw[g]at e;cases e
theorem sT.tup(x:sT P w h k a):∃t b,h.IsTuple a #[.int (k.1:Int) t,.ref b]/\IsTupleKey (intKind P w) h (zs k.2) b:=by
 obtain⟨o,n,t,b,h1,h2,d,c⟩:=x;exact(t,b,(o,h1,h2,n,d),c)
theorem kK(c:A.units+1<cLine)(x:sT P w s.heap k a)(q:Q (DA P w k) {s with toks:=s.toks+(k.2.length+3)}):wpAny (model P w) A (pyHash (.ref a)) Q E s:=by
 obtain⟨o,n,t,b,h1,h2,f,d⟩:=x;refine PySem.W.pyHash_slot (T:="tuple") (o,h1,h2) F.slot_tuple_hash F.entry_tuple_hash (F.args_tuple_hash_1 _) (beq_builtin_none _) (.inr (!6)) ?_;refine d_ (m:=Builtin.Tuple.tupleItemsOf (.ref a)) (wpAny_tupleItemsOf h1 f (d_ ?_));rw[<-forIn_toList];show wpAny _ _ (forIn [Value.int (k.1:Int) t,.ref b] _ _) _ _ _;rw[forIn_cons];refine d_ (d_ (wpAny_pyHash_int (d_ (j2 (j2 ?_)))));dsimp only;rw[forIn_cons];refine d_ (d_ (wpAny_pyHash_tuple (knd:=intKind P w) (by show A.in1.units<cLine;rw[Around.in1_units];exact c) d (d_ (j2 (j2 ?_)))));dsimp only;rw[forIn_nil];refine j2 ?_;refine d_ (wpAny_mkInt (j2 (_,_,rfl,?_)));have e:s.toks+1+((zs k.2).length+1)+1=s.toks+(k.2.length+3):=by
  have:(zs k.2).length=k.2.length:=by simp[zs]
  lia
 simpa[e,DA]using q
theorem dj(x:IsTupleKey (intKind P w) h ks b):IsTupleKey (intKind i g) h ks b:=by
 obtain⟨o,c,n,h1,h2,f,d⟩:=x;refine(o,c,n,h1,h2,f,?_);generalize c.toList=l at d⊢;induction d with
 |nil=>exact .nil
 |cons a _ e=>exact .cons a e
theorem pk(D:A.units+1<cLine)(v:sT P w s.heap x a)(r:sT P w s.heap y b)(E:Value->Shared->Prop)(Q:Bool->Shared->Prop)(q:Q (decide (x=y)) s):wpAny (model P w) A (eqBool (.ref a) (.ref b)) Q E s:=by
 by_cases g:a=b
 .subst g;have e:=v.inj r;rw[decide_eq_true e]at q;exact SeqAt.EqAt.same (.ref a) P w E Q q
 .obtain ⟨t,c,h1,h2⟩:=v.tup;obtain⟨u,d,G,F⟩:=r.tup;have i:A.in1.units<cLine:=by rw[Around.in1_units];exact D
  have f:SeqAt.EqAt A.in1 s (.ref c) (.ref d) (decide (zs x.2=zs y.2)):=λH B J I C=>wpAny_eqBool_tuple (knd:=intKind H B) i (dj h2) (dj F) C;have all:=SeqAt.EqAt.of_refs (A:=A) g (SeqAt.RcAt.tuples (s:=s) (e:=λj=>if j=0 then((x.1:Int)==(y.1:Int))else decide (zs x.2=zs y.2)) h1 G (!6) (λj l1 l2=>by
   match j,l1,l2 with
   |0,_,_=>exact SeqAt.EqAt.int_int _ t _ u
   |1,_,_=>exact f
   | n+2,l1,_=>exact absurd l1 (by show ¬ (n+2<2);lia)))
  refine all P w E Q ?_;have e:((List.range (min (#[Value.int (x.1:Int) t,.ref c]:Array Value).size (#[Value.int (y.1:Int) u,.ref d]:Array Value).size)).all (λj=>if j=0 then((x.1:Int)==(y.1:Int))else decide (zs x.2=zs y.2))&&(#[Value.int (x.1:Int) t,.ref c]:Array Value).size==(#[Value.int (y.1:Int) u,.ref d]:Array Value).size)=decide (x=y):=by
   show(((x.1:Int)==(y.1:Int))&&(decide (zs x.2=zs y.2)&&true)&&true)=_;obtain⟨p,o⟩:=x;obtain⟨m,l⟩:=y;by_cases h:p=m
   .by_cases k:o=l
    .subst h k;simp
    .have:zs o≠zs l:=λz=>k (df z);simp[h,k,this]
   .have:¬ ((p:Int)=(m:Int)):=λz=>h (Int.ofNat.inj z);simp[h,this]
  rw[e];exact q
theorem CF(x:s.heap.IsTuple a b)(g:∀v∈b.toList,∀(R:Bool->Shared->Prop),R true s->wpAny (model P w) A (eqIsQuiet n v) R E s)(q:Q true s):wpAny (model P w) A (eqIsQuiet (n+1) (.ref a)) Q E s:=by
 obtain⟨o,h1,h2,m,h⟩:=x;have d:s.TypeIs (.ref a) "tuple":=(o,h1,h2);unfold eqIsQuiet;refine d_ (wpAny_specialOf d F.slot_tuple_eq.lookup (d_ (m:=isInstance (.ref a) (.type "tuple")) (wpAny_isInstance d isSubtype_tuple_tuple ?_)));simp only[Bool.not_true,Bool.false_eq_true,if_false];refine d_ (wpAny_seqItems h1 h (d_ ?_));show wpAny _ _ (forIn b _ _) _ _ _;rw[<-forIn_toList];refine wpAny_forIn_list _ (λrest r s'=>r.1=none/\s'=s/\∀v∈rest,v∈b.toList) _ ?_ ?_ _ _ (rfl,rfl,λv e=>e)
 .rintro v rest r s'⟨c,rfl,all⟩;refine d_ (g v (all v mem_cons_self) _ ?_);simp only[Bool.not_true,Bool.false_eq_true,if_false];exact j2 (rfl,rfl,λu f=>all u (mem_cons_of_mem _ f))
 .rintro⟨j,i⟩s'⟨c,rfl,_⟩;simp only at c;subst c;exact j2 q
theorem ir(x:sT P w s.heap k a)(q:Q true s):wpAny (model P w) A (eqIsQuiet 8 (.ref a)) Q E s:=by
 obtain⟨t,b,h1,h2⟩:=x.tup;refine CF (n:=7) h1 (λv c R r=>?_) q;have c:v∈[Value.int (k.1:Int) t,.ref b]:=c;rcases mem_cons.mp c with rfl|c
 .rw [eqIsQuiet_byValue _ rfl];exact j2 r
 .rw [uN c];obtain⟨o,d,n,h,g,f,e⟩:=h2;refine CF (n:=6) (o,h,g,n,f) (λv c R r=>?_) r;rw[eqIsQuiet_byValue _ (e.byValue v c)];exact j2 r
end
noncomputable def mV(P:Program)(w:World):HeapKind P w NK where
 is:=sT P w
 hash:=DA P w
 draws:=λk=>k.2.length+3
 room:=λA=>A.units+1<cLine
 inj:=λa b=>a.inj b
 keeps:=λx ho hd hs=>x.keeps ho hd hs
 pyHash:=λhu hk h=>kK hu hk h
 eqBool:=λhu hx hy h=>pk hu hx hy _ _ h
 quiet:=λhk h=>ir hk h
structure zu(P:Program)(w:World)(κ:Type)[DecidableEq κ] where
 knd:HeapKind P w κ
 kin:Hp->κ->Addr->Prop
 ok:∀{H:Hp}{h:Heap}{k:κ}{a:Addr},kin H k a->uO P w H h->knd.is h k a
 room:∀{A:Around},A.units+64<cLine->knd.room A.in1/\knd.room A
 stay:∀{H H':Hp}{k:κ}{a:Addr},(∀b xs,H b<*.tup xs->H' b<*.tup xs)->kin H k a->kin H' k a
noncomputable def Ac(H:Hp)(k:List Int)(a:Addr):Prop:=H a<*.tup (k.map V.int)
noncomputable def zR(H:Hp)(k:NK)(a:Addr):Prop:=∃b,H a=some (.tup [.int (k.1:Int),.ref b])/\H b<*.tup ((zs k.2).map V.int)
theorem items_int{P:Program}{w:World}:∀{ks:List Int}{a:List Value},ac (ks.map V.int) a->ItemsAre (intKind P w) ks a
 |[],_,r=>by rw[List.map_nil]at r;cases r;exact .nil
 |k::ks,_,r=>by
  rw[map_cons]at r;cases r with
  |cons h t=>
   obtain⟨u,rfl⟩:=(show ∃t,_=Value.int k t from h);exact .cons (by show Value.isInt k (.int k u)=true;simp[Value.isInt]) (items_int t)
theorem hY(e:Ac H k a)(ok:uO P w H h):IsTupleKey (intKind P w) h k a:=by
 obtain⟨_,b,r,o,h1,h2,n,c⟩:=(show uS P w H h a (.tup (k.map V.int))from ok a _ e);exact(o,b.toArray,n,h1,h2,c,by simpa using items_int r)
noncomputable def zS(P:Program)(w:World):zu P w (List Int) where
 knd:=tupleKind (intKind P w)
 kin:=Ac
 ok:=λe ok=>hY e ok
 room:=λ{A}hu=>(by show A.in1.units<cLine;rw[Around.in1_units];lia,by show A.units<cLine;lia)
 stay:=λs e=>s _ _ e
noncomputable def yF(P:Program)(w:World):zu P w NK where
 knd:=mV P w
 kin:=zR
 ok:=λ{H h k a}e ok=>by
  obtain⟨b,e1,e2⟩:=e
  obtain⟨_,its,r,o,h1,h2,n,h3⟩:=(show uS P w H h a (.tup [.int (k.1:Int),.ref b])from ok a _ e1)
  obtain⟨u1,u2,rfl,r1,r2⟩:=bc r
  obtain⟨t,rfl⟩:=(show ∃t,u1=Value.int (k.1:Int) t from r1)
  cases(show u2=Value.ref b from r2)
  exact(o,n,t,b,h1,h2,h3,hY e2 ok)
 room:=λ{A}hu=>(by show A.in1.units+1<cLine;rw[Around.in1_units];lia,by show A.units+1<cLine;lia)
 stay:=λs hZ0=>by obtain⟨b,e1,e2⟩:=hZ0;exact(b,s _ _ e1,s _ _ e2)
noncomputable def xw{P:Program}{w:World}{κ:Type}[DecidableEq κ](knd:PySem.KeyKind P w κ)(d:Addr)(kvs:List (κ×V)):HO:=.ext λh=>(d==sysModules)=false/\kvs.length≤sizeLine/\∃vs,KV kvs vs/\h.DictOf knd d vs
abbrev Bt(κ:Type):(κ×Addr×V)->(κ×Addr×Value)->Prop:=λp q=>p.1=q.1/\p.2.1=q.2.1/\ad p.2.2 q.2.2
noncomputable def vA{P:Program}{w:World}{κ:Type}[DecidableEq κ](D:zu P w κ)(d:Addr)(kvs:List (κ×Addr×V)):HO:=.ext λh=>(d==sysModules)=false/\kvs.length≤sizeLine/\∃xs,Paired (Bt κ) kvs xs/\
 ∃o es ep,h.get? d=some o/\o.ExactDict/\o.data=.dict es ep/\es.toList=xs.map (entryOfKey D.knd)/\(xs.map (·.1)).Nodup
section
variable{P:Program}{w:World}{κ:Type}[DecidableEq κ]
theorem fL{knd:PySem.KeyKind P w κ}{H:Hp}{h:Heap}{d:Addr}{kvs:List (κ×V)}{c:List (κ×Value)}(ns:(d==sysModules)=false)(f:kvs.length≤sizeLine)(r:KV kvs c)(dd:h.DictOf knd d c):uS P w H h d (xw knd d kvs):=by
 refine((ns,f,c,r,dd),let⟨o,_,_,e,_⟩:=dd;(o,e),λh1 h2 a b=>?_);obtain⟨k,j,c,r,o,g,i,e,q⟩:=a;exact(k,j,c,r,o,g,i,b o e,q)
theorem cz{D:zu P w κ}{H:Hp}{h:Heap}{d:Addr}{kvs:List (κ×Addr×V)}{xs:List (κ×Addr×Value)}(ns:(d==sysModules)=false)(m:kvs.length≤sizeLine)(r:Paired (Bt κ) kvs xs)(dd:h.DictOfH D.knd d xs):uS P w H h d (vA D d kvs):=by
 obtain⟨o,c,f,e,l,k,j,_,i⟩:=dd;refine((ns,m,xs,r,o,c,f,e,l,k,j,i),(o,e),λh1 h2 a b=>?_);obtain⟨p,n,g,r,o,c,f,e,q⟩:=a;exact(p,n,g,r,o,c,f,b o e,q)
theorem zT{knd:PySem.KeyKind P w κ}{H:Hp}{h:Heap}{d:Addr}{kvs:List (κ×V)}(ok:uO P w H h)(e:H d<*xw knd d kvs):(d==sysModules)=false/\kvs.length≤sizeLine/\∃a,KV kvs a/\h.DictOf knd d a:=(ok d _ e).1
theorem bI{D:zu P w κ}{H:Hp}{h:Heap}{d:Addr}{kvs:List (κ×Addr×V)}(ok:uO P w H h)(e:H d<*vA D d kvs)(f:∀x∈kvs,D.kin H x.1 x.2.1):(d==sysModules)=false/\kvs.length≤sizeLine/\∃xs,Paired (Bt κ) kvs xs/\h.DictOfH D.knd d xs:=by
 obtain⟨u,g,xs,r,o,m,n,s,j,i,c,b⟩:=(ok d _ e).1;refine(u,g,xs,r,o,m,n,s,j,i,c,?_,b);clear c b e g;induction r with
 |nil=>intro x a;simp at a
 |@cons p q ps v h t k=>
  intro x a;rcases mem_cons.mp a with rfl|a
  .have:=D.ok (f p (!1)) ok;rw[<-h.1,<-h.2.1];exact this
  .exact k (λy l=>f y (by simp[l])) x a
noncomputable def av(kvs:List (κ×Addr×V))(k:κ):Option V:=(kvs.find? λx=>decide (x.1=k)).map (·.2.2)
theorem iF{kvs:List (κ×Addr×V)}{xs:List (κ×Addr×Value)}(r:Paired (Bt κ) kvs xs)(k:κ):au (av kvs k) ((atKey xs k).map (·.2)):=by
 induction r with
 |nil=>exact True.intro
 |@cons p q ps a h t d=>
  by_cases e:p.1=k
  .have e':q.1=k:=h.1.symm.trans e;have c:av (p::ps) k<*p.2.2:=by simp[av,find?_cons,e]
   have b:atKey (q::a) k<*q.2:=by simp[atKey,find?_cons,e']
   rw[c,b];exact h.2.2
  .have e':¬ q.1=k:=λz=>e (h.1.trans z);have c:av (p::ps) k=av ps k:=by simp[av,find?_cons,e]
   have b:atKey (q::a) k=atKey a k:=by simp[atKey,find?_cons,e']
   rw[c,b];exact d
theorem dG{d c:Type}{F:d->c->Prop}{a:d}{b:c}(h:F a b):∀{l:List d}{m:List c},Paired F l m->Paired F (l++[a]) (m++[b])
 |_,_,.nil=>.cons h .nil
 |_,_,.cons r t=>.cons r (dG h t)
theorem DB(r:au o u):o.isSome=u.isSome:=by
 cases o<;>cases u<;>first|rfl|exact(show False from r).elim
end
section
variable{X:Cx}{pins:List (Addr×Obj)}{σ:St}{H:Hp}{s:Shared}{d:Addr}
theorem f'.bigS(I:f' X pins σ H s):sysModules<s⁻¹:=by
 have h:mainGlobals<s⁻¹:=(I.mod.glob.keeps I.bk).lt;exact lt_trans (!0) h
noncomputable def pP(P:Program)(w:World)(H:Hp)(d:Addr)(y:V)(r:Option V):Prop:=
 (∃kvs k,H d=some (xw (zr P w) d kvs)/\y=.bl k/\r=aR kvs k) \/
 (∃kvs k b,H d=some (vA (yF P w) d kvs)/\(∀x∈kvs,zR H x.1 x.2.1)/\y=.ref b/\zR H k b/\r=av kvs k) \/
 ∃kvs k b,H d=some (vA (zS P w) d kvs)/\(∀x∈kvs,Ac H x.1 x.2.1)/\y=.ref b/\Ac H k b/\r=av kvs k
noncomputable def tJ(P:Program)(w:World)(H:Hp)(d:Addr)(y v:V)(H':Hp):Prop:=
 (∃kvs k,H d=some (xw (zr P w) d kvs)/\y=.bl k/\aR kvs k=none/\kvs.length<sizeLine/\H'=upd H d (xw (zr P w) d (kvs++[(k,v,)]))) \/
 (∃kvs k b,H d=some (vA (yF P w) d kvs)/\(∀x∈kvs,zR H x.1 x.2.1)/\y=.ref b/\zR H k b/\av kvs k=none/\kvs.length<sizeLine/\H'=upd H d (vA (yF P w) d (kvs++[(k,b,v,)]))) \/
 ∃kvs k b,H d=some (vA (zS P w) d kvs)/\(∀x∈kvs,Ac H x.1 x.2.1)/\y=.ref b/\Ac H k b/\av kvs k=none/\kvs.length<sizeLine/\H'=upd H d (vA (zS P w) d (kvs++[(k,b,v,)]))
noncomputable def tK(P:Program)(w:World)(H:Hp)(d:Addr)(n:Nat):Prop:=
 (∃kvs,H d=some (xw (zr P w) d kvs)/\n=kvs.length)\/∃kvs,H d=some (vA (yF P w) d kvs)/\n=kvs.length
theorem nn{a:Type}[DecidableEq a]{D:zu X.prog X.w a}{kvs:List (a×Addr×V)}{k:a}{b:Addr}{v:V}{A:Around}{E:Value->Shared->Prop}{Q:Value->Shared->Prop}(m:A.units+64<cLine)(I:f' X pins σ H s)(e:H d<*vA D d kvs)(n:∀x∈kvs,D.kin H x.1 x.2.1)(j:D.kin H k b)(l:some v=av kvs k)(h:∀c s',f' X pins σ H s'->ad v c->Q c s'):wpAny (model X.prog X.w) A (getItem (.ref d) (.ref b)) Q E s:=by
 obtain⟨_,_,xs,g,dd⟩:=bI I.hok e n;obtain⟨c,hw,f⟩:=au.some_of (v:=v) (o:=(atKey xs k).map (·.2)) (by rw[l];exact iF g k);obtain⟨p,hp,i⟩:=v8 hw;refine wpAny_getItem_heap (D.room m).1 (D.ok j I.hok) dd hp ?_;rw[i];exact h c _ (I.tok _) f
theorem dS{a:Type}[DecidableEq a]{D:zu X.prog X.w a}{kvs:List (a×Addr×V)}{k:a}{b:Addr}{A:Around}{E:Value->Shared->Prop}{Q:Value->Shared->Prop}(g:A.units+64<cLine)(I:f' X pins σ H s)(e:H d<*vA D d kvs)(i:∀x∈kvs,D.kin H x.1 x.2.1)(f:D.kin H k b)(h:∀s',f' X pins σ H s'->Q (.bool (!(av kvs k).isSome)) s'):wpAny (model X.prog X.w) A (compareOp .NotIn (.ref b) (.ref d)) Q E s:=by
 obtain⟨ns,_,xs,c,dd⟩:=bI I.hok e i;refine wpAny_notIn_heap (D.room g).1 (D.ok f I.hok) ns dd ?_;have q:=DB (iF c k);rw[Option.isSome_map]at q;rw[<-q];exact h _ (I.tok _)
theorem CG(I:f' X pins σ H s)(f:BP (H d))(g:SameBut d s.heap h')(h:∃q,h'.get? d<*q)(a:uS X.prog X.w (upd H d c) h' d c):f' X pins σ (upd H d c) {s with heap:=h',toks:=t'}:=
 I.write (x:=d) (e:=d) f (.inl rfl) (λb q i z=>(g.2 b i).trans z) h a
theorem p6{a:Type}[DecidableEq a]{D:zu X.prog X.w a}{kvs:List (a×Addr×V)}{xs:List (a×Addr×Value)}{k:a}{b:Addr}{v:V}{r:Value}{h':Heap}{t':Nat}(I:f' X pins σ H s)(e:H d<*vA D d kvs)(ns:(d==sysModules)=false)(i:kvs.length<sizeLine)(c:Paired (Bt a) kvs xs)(h:av kvs k=none)(f:ad v r)(dd:h'.DictOfH D.knd d (storedH xs k b r))(g:SameBut d s.heap h'):f' X pins σ (upd H d (vA D d (kvs++[(k,b,v,)]))) {s with heap:=h',toks:=t'}:=by
 have q:=au.none_of (show au none ((atKey xs k).map (·.2)) by rw[<-h];exact iF c k);rw[storedH_new (Option.map_eq_none_iff.mp q)]at dd;exact CG I (by rw[e];exact True.intro) g (let⟨o,_,_,q,_⟩:=dd;(o,q)) (cz ns (by rw[uA];exact i) (dG (F:=Bt a) (rfl,rfl,f) c) dd)
theorem nj{c:Type}[DecidableEq c]{D:zu X.prog X.w c}{kvs:List (c×Addr×V)}{k:c}{b:Addr}{v:V}{r:Value}{A:Around}{E:Value->Shared->Prop}{Q:Unit->Shared->Prop}(j:A.units+64<cLine)(I:f' X pins σ H s)(e:H d<*vA D d kvs)(o:∀x∈kvs,D.kin H x.1 x.2.1)(i:D.kin H k b)(m:av kvs k=none)(n:kvs.length<sizeLine)(g:ad v r)(h:∀s',f' X pins σ (upd H d (vA D d (kvs++[(k,b,v,)]))) s'->Q () s'):wpAny (model X.prog X.w) A (setItem (.ref d) (.ref b) r) Q E s:=by
 obtain⟨ns,hz,xs,a,dd⟩:=bI I.hok e o;exact wpAny_setItem_heap (hsz:=by rw[<-Paired.length a];exact hz) (D.room j).1 (D.ok i I.hok) dd λh' f l=>h _ (p6 I e ns n a m g f l)
theorem dN{kvs:List (a×V)}{c:List (a×Value)}{k:a}(b:KV kvs c)(e:ad v r):KV (kvs++[(k,v,)]) (c++[(k,r,)]):=dG (F:=λ(p:a×V)(q:a×Value)=>p.1=q.1/\ad p.2 q.2) (rfl,e) b
theorem DC{a:Type}[DecidableEq a]{b:List (a×Value)}{k:a}{r:Value}(h:valueAt b k=none):stored b k r=b++[(k,r,)]:=by
 unfold stored;rw[if_neg];intro q;rw[any_eq_true]at q;obtain⟨x,c,e⟩:=q;unfold valueAt at h;rw[Option.map_eq_none_iff,List.find?_eq_none]at h;exact h x c e
theorem jx(ns:(d==sysModules)=false)(b:s.heap.get? d<*o)(f:o.ExactDict)(e:o.data=.dict a i)(hz:a.size≤sizeLine)(h:∀t t',Q (.int (a.size:Nat) t) {s with toks:=t'}):wpAny (model X.prog X.w) A (call (.builtin "len") [.ref d]) Q E s:=by
 have c:s.TypeIs (.ref d) "dict":=(o,b,f.1);have g:(a.size:Int)<2^63:=by rw[sizeLine_eq]at hz;lia
 refine Calls.call_function_entry kind_len plain_len entry_len (args_len1 _) ?_;unfold Builtin.«len»;refine d_ (m:=oneArg "len" _) (j2 (d_ (m:=callSpecial? (.ref d) (Str.ofString "__len__")) (wpAny_callSpecial?_slot (name:=Str.ofString "__len__") c F.slot_dict_len (wpAny_call_entry F.slot_dict_len c F.entry_dict_len ?_ (F.args_dict_len_1 _)))));refine d_ (m:=dictSize d) ?_;unfold dictSize;refine d_ (wpAny_dictEntries b e (j2 (d_ (m:=Builtin.Dict.pendingCount d) (wpAny_pendingCount_other ns (d_ (wpAny_mkInt (j2 (_,rfl,d_ (wpAny_holding (j2 (d_ (wpAny_letGo ?_))))))))))));refine wpAny_ite_false (!1) (wpAny_ite_false (by simp;lia) (d_ (wpAny_mkInt (j2 (_,rfl,?_)))));simpa using h _ _
end
section
variable{X:Cx}
noncomputable def oU(P:Program)(w:World):R2:=λx y H Q=>∃d o,y=.ref d/\pP P w H d x o/\Q (.bl (!o.isSome)) H
theorem ku(m:X.A.units+64<cLine):vd X (compareOp .NotIn) (oU X.prog X.w):=by
 intro l s p H x y v u Q I a n h;obtain⟨d,o,rfl,g,q⟩:=h;cases n;rcases g with⟨kvs,k,e,rfl,rfl⟩|⟨kvs,k,b,e,i,rfl,f,rfl⟩|⟨kvs,k,b,e,i,rfl,f,rfl⟩
 .cases a;obtain⟨ns,_,r,c,dd⟩:=zT I.hok e;refine wpAny_notIn_of (knd:=zr X.prog X.w) (k:=k) (show m9 k (.bool k)=true by cases k<;>rfl) ns dd.mapOf ?_;rw[<-DB (c.val k)];exact(.bl _,H,I.tok _,rfl,q)
 .cases a;exact dS (D:=yF X.prog X.w) m I e i f λs' j=>(.bl _,H,j,rfl,q)
 .cases a;exact dS (D:=zS X.prog X.w) m I e i f λs' j=>(.bl _,H,j,rfl,q)
theorem pG{h:St}(I:f' X f h H s)(g:pP X.prog X.w H d y o):s.TypeIs (.ref d) "dict":=by
 rcases g with⟨kvs,k,e,_⟩|⟨kvs,k,b,e,a,_⟩|⟨kvs,k,b,e,a,_⟩
 .obtain ⟨_,_,c,_,dd⟩:=zT I.hok e;exact dd.typeIs
 .obtain ⟨_,_,c,_,dd⟩:=bI (D:=yF X.prog X.w) I.hok e a;exact dd.typeIs
 .obtain ⟨_,_,c,_,dd⟩:=bI (D:=zS X.prog X.w) I.hok e a;exact dd.typeIs
noncomputable def sB(P:Program)(w:World):R2:=λx y H Q=>∃d v,x=.ref d/\pP P w H d y (some v)/\Q v H
theorem m5(B:X.A.units+64<cLine):xH X (sB X.prog X.w):=by
 intro c f t s J H x y v u Q I E i h G;obtain⟨d,z,rfl,g,q⟩:=h;cases E;refine tail_any (ops:=[.ref d,u]) (pG I g) PySem.F.slot_dict_getitem.lookup ?_ G;rcases g with⟨kvs,k,e,rfl,l⟩|⟨kvs,k,b,e,n,rfl,m,l⟩|⟨kvs,k,b,e,n,rfl,m,l⟩
 .cases i;obtain⟨ns,_,C,j,dd⟩:=zT I.hok e;obtain⟨r,hw,a⟩:=au.some_of (v:=z) (o:=valueAt C k) (by rw[l];exact j.val k);exact wpAny_getItem_of (knd:=zr X.prog X.w) (k:=k) (show m9 k (.bool k)=true by cases k<;>rfl) dd.mapOf hw (z,H,I.tok _,a,q)
 .cases i;exact nn (D:=yF X.prog X.w) B I e n m l λr s' p a=>(z,H,p,a,q)
 .cases i;exact nn (D:=zS X.prog X.w) B I e n m l λr s' p a=>(z,H,p,a,q)
noncomputable def sA(P:Program)(w:World):TSet:=λo i v H Q=>∃d H',o=.ref d/\tJ P w H d i v H'/\Q H'
theorem xY(x:X.A.units+64<cLine):pN X (sA X.prog X.w):=by
 intro t s E H o i v F G u Q I z m l h;obtain⟨d,H',rfl,g,q⟩:=h;cases z;rcases g with⟨kvs,k,e,rfl,f,j,rfl⟩|⟨kvs,k,b,e,p,rfl,n,f,j,rfl⟩|⟨kvs,k,b,e,p,rfl,n,f,j,rfl⟩
 .cases m;obtain⟨ns,hz,y,a,dd⟩:=zT I.hok e;refine wpAny_setItem_pairs (knd:=zr X.prog X.w) (k:=k) (hsz:=by rw[<-a.length];exact hz) (show m9 k (.bool k)=true by cases k<;>rfl) dd λh' c C=>(_,?_,q);have B:=au.none_of (show au none (valueAt y k) by rw[<-f];exact a.val k);rw[DC B]at c;exact CG I (by rw[e];exact True.intro) C (let⟨o,_,_,q,_⟩:=c;(o,q)) (fL ns (by rw[uA];exact j) (dN a l) c)
 .cases m;exact nj (D:=yF X.prog X.w) x I e p n f j l λs' r=>(_,r,q)
 .cases m;exact nj (D:=zS X.prog X.w) x I e p n f j l λs' r=>(_,r,q)
theorem xZ:wN X (.builtin "len") (λxs H Q=>∃d n,xs=[V.ref d]/\tK X.prog X.w H d n/\Q (.int (n:Nat)) H):=by
 intro i s m H xs u Q I r h;obtain⟨d,n,rfl,g,q⟩:=h;obtain⟨v,rfl,j⟩:=xm r;cases j;rcases g with⟨kvs,e,rfl⟩|⟨kvs,e,rfl⟩
 .obtain ⟨ns,hz,p,a,o,f,l,h1,h2,c,_,hp,_⟩:=zT I.hok e;have b:f.size=kvs.length:=by rw[a.length,<-hp.length];simp
  refine jx (X:=X) ns h1 h2 c (!6) λt t'=>(.int (kvs.length:Nat),H,I.tok _,(t,by rw[b]),q)
 .obtain ⟨ns,hz,xs,a,o,f,l,h1,h2,c,k,_⟩:=(I.hok d _ e).1;have b:f.size=kvs.length:=by rw[Paired.length a,<-length_toList,k,j_]
  refine jx (X:=X) ns h1 h2 c (!6) λt t'=>(.int (kvs.length:Nat),H,I.tok _,(t,by rw[b]),q)
inductive ER where
 |bl|nest|pair
noncomputable def pj(P:Program)(w:World)(d:Addr):ER->HO
 |.bl=>xw (zr P w) d []
 |.nest=>vA (yF P w) d []
 |.pair=>vA (zS P w) d []
theorem qM(h:Heap)(a:sysModules<h.objs.size)(k:ER):uS P w H (h.push {cls:=.type "dict",data:=.dict #[]}) h.objs.size (pj P w h.objs.size k):=by
 have ns:(h.objs.size==sysModules)=false:=beq_eq_false_iff_ne.mpr (Ne.symm (ne_of_lt a));cases k with
 |bl=>exact fL (knd:=zr P w) ns (zero_le _) .nil (Heap.DictOf.new h)
 |nest=>exact cz (D:=yF P w) ns (zero_le _) .nil (DictOfH.new h)
 |pair=>exact cz (D:=zS P w) ns (zero_le _) .nil (DictOfH.new h)
noncomputable def rY(P:Program)(w:World):TE:=λ_ H Q=>∃k,∀p,H p=none->Q (.ref p) (upd H p (pj P w p k))
theorem oY:PE X (.Dict [] [] pos) (rY X.prog X.w):=λb s c H Q I⟨k,h⟩=>
 wpAny_Dict_empty (.ref s⁻¹,_,I.laid (a:=s⁻¹) (o:=pj X.prog X.w s⁻¹ k) (t':=s.toks) (λ_ _ q=>nb _ q) (le_refl _) (qM s.heap I.bigS k),rfl,h _ (I.hok.fresh (le_refl _)))
end
section
variable{X:Cx}{elt iter:Expr}{x y:Str}{px py pt pos:Pos}{kt:Nat}{sc:Scope}{wi:TI}{te:TE}
noncomputable def ia(K:Frag)(wi:TI)(te:TE):TE:=λσ H Q=>wi σ H λJ H1=>∀D,H1 D=none->∃W:Nat->Nat->List V->Hp->Prop,
 (∃m,W 0 m [] (upd H1 D (.lst [])))/\∀i m ys H2,W i m ys H2->H2 D=some (.lst ys)/\((J.stop i H2/\Q (.ref D) H2)\/(J.go i H2/\ys.length<sizeLine/\∀x H3,J.yld i H2 x H3->
  ∃p a b,x=.ref p/\pa K H3 p [a,b]/\te (some a::some b::σ) H3 λy H5=>H5 D=some (.lst ys)/\∃m',m'<m/\W (i+1) m' (ys++[y]) (upd H5 D (.lst (ys++[y])))))
end
section
variable{prog:Program}{w:World}{A:Around}{E:Value->Shared->Prop}{s:Shared}{it t:Addr}{i:Nat}{items:Array Value}
theorem iq(a:s.heap.IsTupleIter it t i)(g:s.heap.IsTuple t items)(f:items[i]?<*x)(j:∀h',h'.IsTupleIter it t (i+1)->SameBut it s.heap h'->Q x {s with heap:=h'}):wpAny (model prog w) A (Builtin.SmallTypes.nextOf (.ref it)) Q E s:=by
 obtain⟨o,c,h,b⟩:=id a;obtain⟨k,d,_,l,e⟩:=g;unfold Builtin.SmallTypes.nextOf;refine d_ (wpAny_callSpecial?_slot (name:=Str.ofString "__next__") a.typeIs F.slot_tuple_iterator_next (wpAny_call_entry F.slot_tuple_iterator_next a.typeIs F.entry_tuple_iterator_next ?_ (F.args_tuple_iterator_next_1 _)));refine d_ (m:=field (.ref it) 0) (wpAny_field c b (x:=.ref t) rfl (wpAny_ite_false rfl (d_ (m:=field (.ref it) 1) (wpAny_field c b (x:=.int i 0) rfl (d_ (m:=seqItems? (.ref t)) (wpAny_seqItems d e ?_))))));simp only[toNat_natCast,f];refine d_ (wpAny_setField c b (!1) (j2 (x,rfl,j2 (j _ (_,get?_update_self _ c (Obj.isFreed_of_fields (data_mapFields b _)),(Obj.cls_mapFields ..).trans h,?_) (SameBut.update ..)))));rw[data_mapFields b];simp[rawInt]
theorem kI(h:A.handled=none)(b:s.heap.IsTupleIter it t i)(k:s.heap.IsTuple t items)(j:items[i]?=none)(l:∀h' e,Heap.ExtBut it s.heap h'->(∃o,h'.get? e=some o/\o.cls=.type "StopIteration")->E (.ref e) {s with heap:=h'}):wpAny (model prog w) A (Builtin.SmallTypes.nextOf (.ref it)) Q E s:=by
 obtain⟨o,d,q,g⟩:=id b;obtain⟨n,c,_,p,f⟩:=k;unfold Builtin.SmallTypes.nextOf;refine d_ (wpAny_callSpecial?_slot (name:=Str.ofString "__next__") b.typeIs F.slot_tuple_iterator_next (wpAny_call_entry F.slot_tuple_iterator_next b.typeIs F.entry_tuple_iterator_next ?_ (F.args_tuple_iterator_next_1 _)));refine d_ (m:=field (.ref it) 0) (wpAny_field d g (x:=.ref t) rfl (wpAny_ite_false rfl (d_ (m:=field (.ref it) 1) (wpAny_field d g (x:=.int i 0) rfl (d_ (m:=seqItems? (.ref t)) (wpAny_seqItems c f ?_))))));simp only[toNat_natCast,j];refine d_ (wpAny_rule (d_ (wpAny_setField d g (!1) (d_ (m:=newExc (.type "StopIteration") []) ?_))));simp only[newExc,newTuple];refine d_ (wpAny_newObj_type (d_ (m:=firstArgMember _ _) (wpAny_of_eq (a:=Value.none) (by first|rfl|(simp only[firstArgMember];rfl)) (wpAny_newObj_type ?_ (by size_fits)))) (by size_fits));simp only[raiseNew];refine d_ (wpAny_handled ?_);first|rw[show A.in1.handled=none from h]|rw[h]
 exact d_ (j2 (wpAny_throw (l _ _ (((SameBut.update ..).extBut.push _).push _) (_,get?_push_size _ rfl,rfl))))
end
theorem IsTup.keeps{h h':Heap}(x:h.IsTuple t a)(k:∀o,h.get? t<*o->h'.get? t<*o):h'.IsTuple t a:=let⟨o,e,r⟩:=x;(o,k o e,r)
theorem bK(k:A.handled=none)(it t:Addr)(d:t≠it)(a:Array Value):Draws prog w A it [it,t] a.size (λi v=>a[i]?<*v) (λi h=>h.IsTupleIter it t i/\h.IsTuple t a)  where
 live:=λ_ _ st=>let⟨o,j,_⟩:=st.1;(o,j)
 frame:=λ_ _ _ st f=>(st.1.at λo e=>f it (!1) o e,IsTup.keeps st.2 λo e=>f t (!1) o e)
 item:=λi s Q E g st l=>iq st.1 st.2 (x:=a[i]) (by simp[g]) λh' c b=>l _ h' s.toks (by simp[g]) (c,IsTup.keeps st.2 λo e=>(b.2 t d).trans e) b
 done:=λs Q E st m=>kI k st.1 st.2 (!1) m
theorem j4:isSubtype (.type "enumerate") (.type "enumerate")=pure true:=by rw[isSubtype_type];kernel_rfl
set_option maxHeartbeats 1000000 in
theorem fE(l:Addr)(a:Array Value)(n:Nat)(e:Option Addr)(i:Array (Option Value)):Meets (Builtin.«enumerate.__new__» ([.type "enumerate",.ref l],[])) (λ_ R s=>s.heap.get? l=some {cls:=.type "tuple",dict:=e,data:=.seq a n,slots:=i}/\
   R (.ok (.ret (.ref (s.heap.push {cls:=.type "tuple_iterator",data:=.fields #[.ref l,.int 0 0]}).objs.size)))
    {s with heap:=(s.heap.push {cls:=.type "tuple_iterator",data:=.fields #[.ref l,.int 0 0]}).push {cls:=.type "enumerate",data:=.fields #[.none,.bool false,.ref s⁻¹,rawInt 0,.none,.none]} }):=
 .of_wp λprog w A R s h=>by
  obtain⟨hp,g,d,k,os⟩:=s;obtain⟨j,h⟩:=h;have f:=j4;have b:hp.IsTuple l a:=(_,j,rfl,n,rfl)
  wp_walk using wpAny_pyIter_tuple b
  refine wpAny_stack_any λst=>j2 ?_;split
  .rename_i c _ _ _ _ _;cases(c==Value.type "enumerate")<;>(wp_walk using wpAny_pyIter_tuple b;exact(_,rfl,h))
  .wp_walk using wpAny_pyIter_tuple b
   exact(_,rfl,h)
theorem i8(p:s.heap.IsTuple l a)(h:∀h',IsEnum h' (s⁻¹+1) s⁻¹ 0 .none->h'.IsTupleIter s⁻¹ l 0->(∀b o,s.heap.get? b<*o->h'.get? b<*o)->Q (.ref (s⁻¹+1)) {s with heap:=h'}):wpAny (model prog w) A (call (.type "enumerate") [.ref l]) Q E s:=by
 obtain⟨⟨c,f,r,k⟩,m,j,n,i⟩:=p;simp only at j i;subst j i;refine callType_new F.called_enumerate (!0) (F.typeCall_enumerate_1 _) (F.newCall_enumerate_1 _) (λd=>F.args_object_init_2 d _) F.entry_enumerate_new (fE l a n f k) (m,?_);generalize e:s.heap.push {cls:=.type "tuple_iterator",data:=.fields #[.ref l,.int 0 0]}=G;have hz:G.objs.size=s⁻¹+1:=by rw[<-e];exact size_push ..
 have g:IsEnum (G.push {cls:=.type "enumerate",data:=.fields #[.none,.bool false,.ref s⁻¹,rawInt 0,.none,.none]}) (s⁻¹+1) s⁻¹ 0 .none:=by
  have q:=get?_push_size G (o:={cls:=.type "enumerate",data:=.fields #[.none,.bool false,.ref s⁻¹,rawInt 0,.none,.none]}) rfl;rw[hz]at q;exact q
 show _/\_;rw[hz];exact((_,g,rfl),h _ g (_,nb _ (by rw[<-e];exact get?_push_size _ rfl),rfl,rfl) λb o x=>nb _ (by rw[<-e];exact nb _ x))
noncomputable def pO(a:Addr):It:=⟨λi H=>∃xs x,H a=some (.tup xs)/\xs[i]?<*x,λi H v H'=>∃p x xs,H a=some (.tup xs)/\xs[i]?=some x/\v=.ref p/\H p=none/\H'=upd H p (.tup [.int (i:Int),x]),λi H=>∃xs,H a=some (.tup xs)/\i=xs.length⟩
theorem hV{K:Frag}(a e it:Addr)(r:e≠it):bP P w K (.Tuple es kt pt) (pO a) [e,it] e (λi h=>(∃f,IsEnum h e it i f)/\h.IsTupleIter it a i)  where
 mem:=by simp
 obj:=λi h ab c C=>by
  obtain⟨⟨f,j⟩,⟨M,m,_,d1⟩⟩:=ab;simp only[mem_cons,not_mem_nil,or_false]at C;rcases C with rfl|rfl
  .exact (_,j,λv q=>by cases q)
  .exact (M,m,λv q=>by rw[d1]at q;cases q)
 keep:=λi h h' Z k=>by obtain⟨⟨f,j⟩,⟨M,m,r1⟩⟩:=Z;exact((f,k e (!1) _ j),(M,k it (!1) _ m,r1))
 item:=by
  rintro X hP hw hK C i D s σ H E I O⟨⟨f,j⟩,y⟩hg;subst hP hw hK;obtain⟨xs,x,N,hx⟩:=hg;obtain⟨d,T,p,hz⟩:=I.tuple (pa.of N);obtain⟨u,hu,ru⟩:=T.get hx;have B:s.heap.IsTuple a d.toArray:=p;have W:i<d.toArray.size:=by
   have:=(l' hu).1;simpa using this
  have t:a≠it:=by
   obtain⟨o,m,L,_⟩:=B;obtain⟨o2,G,J,_⟩:=y;rintro rfl;rw[m]at G;cases G;rw[L]at J;exact absurd J (!0)
  have Y:e≠a:=by
   obtain⟨o,m,L,_⟩:=B;rintro rfl;have F:s.heap.get? e<*_:=j;rw[m]at F;cases F;exact absurd (show Value.type "enumerate"=Value.type "tuple" from L) (!0)
  refine wpAny_pyNext_enum_itemD (bK (A:=X.A.in1) (I.ok.hd C) it a t d.toArray) j (y,B) W r (by simp[r,Y]) λv g R pv ho st U hsz gk=>(_,rfl,?_);have ev:v=u:=by
   have:d.toArray[i]?<*v:=pv;rw[getElem?_toArray,hu]at this;exact(Option.some.inj this).symm
  subst ev;refine wpAny_letOwnedTupleGo_enum (s:={s with heap:=g,toks:=R+1}) ho λg' ge gs=>?_;have Q:∀b o,b≠e->g.get? b<*o->g'.get? b<*o:=λb o l q=>(gs.2 b l).trans q;have ne:s⁻¹≠e:=ne_of_gt (lt_size j);have tup:uS X.prog X.w (upd H s⁻¹ (.tup [.int (i:Int),x])) g' s⁻¹ (.tup [.int (i:Int),x]):=
   (o9 (by show 2≤16777216;decide),[.int i R,v],.cons (_,rfl) (.cons ru .nil),(_,Q _ _ ne U,rfl,0,rfl))
  refine(.ref s⁻¹,_,I.turnedNew (S:=[e,it]) (h':=g') (t':=R+1) (λb o l q=>Q b o (λz=>l (by simp[z])) (gk b o (λz=>l (by simp[z])) (λz=>l (by simp[z])) q)) O tup,rfl,
   (_,x,xs,N,hx,rfl,I.hok.fresh (le_refl _),rfl),((_,by rw[Int.natCast_succ];exact ge),st.1.at λo q=>Q _ o (λz=>r z.symm) q),λb l=>?_)
  have lt:b<s⁻¹:=by
   obtain⟨M,m,_⟩:=y;simp only[mem_cons,not_mem_nil,or_false]at l;rcases l with rfl|rfl
   .exact lt_size j
   .exact lt_size m
  rw[a_ (ne_of_lt lt)];exact(O b l).1
 done:=by
  rintro X hP hw hK C i D s σ H E I O⟨⟨f,j⟩,y⟩n;subst hP hw hK;obtain⟨xs,N,rfl⟩:=n;obtain⟨d,T,p,hz⟩:=I.tuple (pa.of N);have B:s.heap.IsTuple a d.toArray:=p;have t:a≠it:=by
   obtain⟨o,m,L,_⟩:=B;obtain⟨o2,G,J,_⟩:=y;rintro rfl;rw[m]at G;cases G;rw[L]at J;exact absurd J (!0)
  have hsz:xs.length=d.toArray.size:=by rw[T.length];simp
  refine wpAny_pyNext_enum_endD (bK (A:=X.A.in1) (I.ok.hd C) it a t d.toArray) j (by rw[<-hsz];exact y,B) λg gs=>(rfl,?_);exact I.turnedL (S:=[e,it]) (λb o l q=>gs b o (λz=>l (by simp[z])) q) O
 self:=λ_ _ _ _ _ st h=>by
  obtain⟨⟨f,j⟩,_⟩:=st;exact wpAny_pyIter_enum j h
namespace ZP
section
variable{prog:Program}{w:World}{A:Around}{E:Value->Shared->Prop}{s:Shared}{z TI TO i1 i2:Addr}{f1 f2:List Addr}{n1 n2 k:Nat}{P1 P2:Nat->Value->Prop}{S1 S2:Nat->Heap->Prop}{a b:Value}
noncomputable def AH(a:Addr):Obj:={cls:=.type "tuple_iterator",data:=.fields #[.ref a,.int 0 0]}
theorem m6{a:Addr}(d:s.heap.IsTuple a c)(h:Q (.ref s⁻¹) {s with heap:=s.heap.push (AH a)}):wpAny (model prog w) A (pyIter (.ref a)) Q E s:=wpAny_pyIter_tuple d h
end
end ZP
end L2
namespace L2
open PySem PySem.Spec PyProof.Rows
theorem fR:∀{ns:List Int}{a:List Value},ac (ns.map V.int) a->IntsAre a ns
 |[],_,r=>by rw[List.map_nil]at r;cases r;exact .nil
 |n::ns,_,r=>by
  rw[map_cons]at r;cases r with
  |cons h t=>
   obtain⟨u,rfl⟩:=(show ∃t,_=Value.int n t from h);exact .cons n u (fR t)
section
variable{X:Cx}
noncomputable def rIndexB:V->List V->Hp->VK->Prop:=λx vs H Q=>∃(l:Addr)(bs:List Bool),x=.ref l/\vs=[.bl false]/\H l=some (.lst (bs.map V.bl))/\false∈bs/\Q (.int (bs.idxOf false:Nat)) H
theorem cj:Dl X "list.index" rIndexB:=by
 intro C s S H x T v U Q I G J h;obtain⟨l,bs,rfl,rfl,E,O,q⟩:=h;cases G;obtain⟨u,rfl,L⟩:=J.one;cases L;obtain⟨z,f,n,r,W,e⟩:=I.lstM E;have d:f.length=bs.length:=by rw[<-r.length,j_]
 have o:bs.idxOf false<bs.length:=idxOf_lt_length_of_mem O;have k:∀(j:Nat)(t:j<f.toArray.size),∃g:j<bs.length,f.toArray[j]=.bool bs[j]:=λj t=>by
  have g:j<bs.length:=by simpa[d]using t
  refine(g,?_);obtain⟨a,R,M⟩:=r.get (i:=j) (x:=.bl bs[j]) (by rw[n',j1 g];rfl);cases M;obtain⟨_,q⟩:=l' R;simpa using q
 have w:((bs.idxOf false:Nat):Int)<2^63-1:=by
  have P:(bs.map V.bl).length≤sizeLine:=(I.lst E).choose_spec.choose_spec.2.2;rw[j_,sizeLine_eq]at P;lia
 refine call_meets F.slot_list_index (_,e,rfl) F.entry_list_index (F.args_list_index_2 _ _) (SeqAt.list_indexAt l f.toArray n none #[] (.bool false) (λy=>match y with|.bool b=>b==false|_=>false) (bs.idxOf false) (by simpa[d]using o) w ?_ ?_) (e,?_,(.int _,H,I.tok _,(_,rfl),q))
 .obtain ⟨g,p⟩:=k (bs.idxOf false) (by simpa[d]using o);rw[p];have:=getElem_idxOf g;rw[this];rfl
 .intro m A D;obtain⟨g,p⟩:=k m A;rw[p];show(bs[m]==false)=false;cases B:bs[m]with
  |true=>rfl
  |false=>
   have:=RA.Bp (l:=bs) (c:=false) (i:=m) (by rw[j1 g,B]);lia
 .intro y N;obtain⟨j,t,rfl⟩:=Array.mem_iff_getElem.mp N;obtain⟨g,p⟩:=k j t;rw[p];exact SeqAt.EqAt.bool_bool _ _
noncomputable def uc(K:Frag):R2:=λx y H Q=>∃(p q:Addr)(xs ys:List Int),x=.ref p/\y=.ref q/\H p=some (.lst (xs.map V.int))/\H q=some (.lst (ys.map V.int))/\xs.length=ys.length/\Q (.bl (decide (xs=ys))) H
theorem qJ(J:X.A.units<cLine):vd X (compareOp .Eq) (uc X.K):=by
 intro r s T H x y v u Q I C B h;obtain⟨p,q,xs,ys,rfl,rfl,hp,M,U,k⟩:=h;cases C;cases B;obtain⟨c,o,l,G⟩:=I.list (lb.of hp);obtain⟨d,n,g,F⟩:=I.list (lb.of M);have l1:=o.length;have l2:=n.length;rw[j_]at l1 l2;refine SeqAt.eq_listAt (e:=λj=>decide (xs.getD j 0=ys.getD j 0)) l.isList g.isList (by simp;lia) J (λj h1 h2=>?_) (.bl _,H,I,rfl,?_)
 .have w:j<xs.length:=by simp at h1;lia
  have f:j<ys.length:=by lia
  obtain⟨a,O,E⟩:=o.get (i:=j) (x:=.int xs[j]) (by rw[n',j1 w];rfl);obtain⟨b,N,D⟩:=n.get (i:=j) (x:=.int ys[j]) (by rw[n',j1 f];rfl);obtain⟨t,rfl⟩:=E;obtain⟨t',rfl⟩:=D;have S:c.toArray[j]=.int xs[j] t:=by
   obtain⟨_,e⟩:=l' O;simpa using e
  have R:d.toArray[j]=.int ys[j] t':=by
   obtain⟨_,e⟩:=l' N;simpa using e
  rw[S,R];have P:decide (xs.getD j 0=ys.getD j 0)=(xs[j]==ys[j]):=by
   rw[m8,m8,j1 w,j1 f];by_cases z:xs[j]=ys[j]<;>simp[z]
  show SeqAt.EqAt _ _ _ _ (decide (xs.getD j 0=ys.getD j 0));rw[P];exact SeqAt.EqAt.int_int _ t _ t'
 .have e:((List.range c.toArray.size).all λj=>decide (xs.getD j 0=ys.getD j 0))=decide (xs=ys):=by
   have L:c.toArray.size=xs.length:=by simp;lia
   rw[L];by_cases z:xs=ys
   .subst z;simp
   .rw [decide_eq_false z,Bool.eq_false_iff];intro all;refine z (List.ext_getElem? λi=>?_);rw[all_eq_true]at all;by_cases m:i<xs.length
    .have:=of_decide_eq_true (all i (mem_range.mpr m));rw[m8,m8,j1 m,j1 (!6)]at this;rw[j1 m,j1 (!6)];exact congrArg some this
    .rw [getElem?_eq_none (!6),getElem?_eq_none (!6)]
  rw[e];exact k
end
noncomputable def CH(a:Addr)(n:Nat):It:=⟨λi H=>∃xs,H a=some (.lst xs)/\xs.length=n/\i<n,λi H v H'=>H'=H/\∃xs,H a=some (.lst xs)/\xs[n-1-i]?<*v,λi _=>i=n⟩
theorem lR{K:Frag}(a it:Addr)(n:Nat):bP P w K tg (CH a n) [it] it (λi h=>h.IsRevIter it a ((n:Int)-1-(i:Int)))  where
 mem:=by simp
 obj:=λi h st b j=>by
  have e:b=it:=by simpa using j
  subst e;obtain⟨o,e,c,d⟩:=st;exact(o,e,λv z=>by rw[d]at z;cases z)
 keep:=λi h h' st k=>st.at λo e=>k it (!1) o e
 item:=by
  intro X y hw A N i f s J H E I r st l;subst y hw A;obtain⟨xs,M,hl,hi⟩:=l;have G:(n:Int)-1-(i:Int)=((n-1-i:Nat):Int):=by omega
  rw[G]at st;have L:xs[n-1-i]?<*(xs[n-1-i]'(!2)):=j1 _;obtain⟨R,O,p,hz⟩:=I.list (lb.of M);obtain⟨u,S,Q⟩:=O.get L;obtain⟨m,F,W,D,C,B⟩:=r it (!1);refine wpAny_pyNext_rev_item st p.isList (x:=u) (by simpa using S) λh' g q=>?_;have Z:f' X f J H {s with heap:=h'}:=I.turned (t':=s.toks) (λb o j e=>(q.2 b j).trans e) m F D C B;have Y:((n-1-i:Nat):Int)-1=(n:Int)-1-((i+1:Nat):Int):=by lia
  rw[Y]at g;obtain⟨o,T,t,U⟩:=id g;refine(u,rfl,cE (s:={s with heap:=h'}) T t U (!0) (_,H,Z,Q,(rfl,xs,M,L),g,λb j=>?_));have e:b=it:=by simpa using j
  subst e;exact m
 done:=by
  intro X y hw A N i f s J H E I r st l;subst y hw A;have l:i=n:=l;have G:(n:Int)-1-(i:Int)=-1:=by lia
  rw[G]at st;obtain⟨m,F,W,D,C,B⟩:=r it (!1);exact wpAny_pyNext_rev_end (I.ok.hd N) st λh' q=>(rfl,I.turned (t':=s.toks) (λb o j e=>q b o j e) m F D C B)
 self:=λ_ _ _ _ _ st h=>wpAny_pyIter_revIter st h
noncomputable def um(t:TA):TI:=λσ H R=>t σ H λvs H1=>∃a xs,vs=[.ref a]/\H1 a=some (.lst xs)/\R (CH a xs.length) H1
theorem qz{m a:Expr}{p pos:Pos}(A:Gl X "reversed")(y:X.mg "reversed"=none)(C:PA X [a] n)(w:starEach [a] X.env=(false,eval a X.env,)::starEach [] X.env:=by rfl)(j:(backTo pos (starEach [] X.env)).any (·.1)=false:=by rfl):PI X m (.Call (.Name "reversed" p) [a] [] pos) (um n):=by
 intro g s l H R I h;refine wpAny_Call_Name_kw (t5 I A y PyProof.Rows.boot_reversed (PyProof.Rows.callWith_type1 (n0 (C pos g s l H _ I h) λF d z=>?_) w j));obtain⟨E,D,i,u,b,xs,rfl,x,q⟩:=z;obtain⟨G,rfl,t⟩:=xm u;cases t;obtain⟨f,r,v,hz⟩:=i.list (lb.of x);have hsz:f.toArray.size=xs.length:=by rw[r.length];simp
 refine call_reversed_list v.isList ?_;have k:(d.heap.push (revObj b ((f.toArray.size:Int)-1))).IsRevIter d⁻¹ b ((xs.length:Int)-1-((0:Nat):Int)):=(_,get?_push_size _ rfl,rfl,by rw[hsz];simp[revObj]);refine wpAny_pyIter_revIter (s:={d with heap:=d.heap.push (revObj b ((f.toArray.size:Int)-1))}) k ?_;refine(_,[d⁻¹],_,CH b xs.length,D,rfl,i.kept (t':=d.toks) λb o e=>nb _ e,lR b _ _,k,λc B=>?_,q);have e:c=d⁻¹:=by simpa using B
 subst e;exact i.fpOk (le_refl _) (i.hok.fresh (le_refl _))
noncomputable def lG(J:It)(a:Addr)(o:HO)(xs:List V):Prop:=∀H2:Hp,H2 a<*o->(∀i,i<xs.length->J.go i H2)/\(∀i x H3,i<xs.length->J.yld i H2 x H3->H3=H2/\xs[i]?<*x)/\J.stop xs.length H2
theorem qG{K:Frag}:lG (EE K a) a (.lst xs) xs:=λf e=>
 (λi h=>(xs,xs[i],lb.of e,j1 h),λi x d _ b=>by obtain⟨c,h⟩:=b;exact(c,h xs (lb.of e)),(xs,lb.of e,le_refl _))
theorem qF{K:Frag}:lG (Bc K a) a (.tup xs) xs:=λf e=>
 (λi h=>(xs,xs[i],pa.of e,j1 h),λi x d _ b=>by obtain⟨c,h⟩:=b;exact(c,h xs (pa.of e)),(xs,pa.of e,le_refl _))
noncomputable def ES(tl:TE):TI:=λσ H R=>tl σ H λx H1=>∃a o xs,x=.ref a/\(o=.lst xs\/o=.tup xs)/\H1 a=some o/\∀J,lG J a o xs->R J H1
theorem xg(z:PE X l r):PI X B l (ES r):=by
 intro f s n H R I h;refine n0 (z f s n H _ I h) λv c j=>?_;obtain⟨x,k,g,u,w⟩:=j;obtain⟨a,o,xs,e,y,m,q⟩:=w;subst e;cases u;have d:∀b∈[c⁻¹],aY X f k b:=λb A=>by
  have e:b=c⁻¹:=by simpa using A
  subst e;exact g.fpOk (le_refl _) (g.hok.fresh (le_refl _))
 rcases y with rfl|rfl
 .obtain ⟨i,t,p,hz⟩:=g.list (lb.of m);refine wpAny_pyIter_list p.isList ?_;exact(c⁻¹,[c⁻¹],_,_,k,rfl,g.kept (t':=c.toks) λb o e=>nb _ e,jY a _,(_,get?_push_size _ rfl,rfl,rfl),d,q _ qG)
 .obtain ⟨i,t,p,hz⟩:=g.tuple (pa.of m);refine wpAny_pyIter_tuple (show c.heap.IsTuple a i.toArray from p) ?_;exact(c⁻¹,[c⁻¹],_,_,k,rfl,g.kept (t':=c.toks) λb o e=>nb _ e,EF a _,(_,get?_push_size _ rfl,rfl,rfl),d,q _ qF)
theorem gg{g:TG}{k:TS}{D:Ends}(u:lG J a o xs)(d:Nat->St->Hp->Prop)(h0:d 0 b H)(w:∀i b H,d i b H->H a<*o)(v:∀i x b H,xs[i]?<*x->d i b H->g x b H λf j=>k {D with nx:=d (i+1),ct:=d (i+1),bk:=D.nx} f j)(A:∀b H,d xs.length b H->D.nx b H):∃W:Nat->Nat->St->Hp->Prop,(∃m,W 0 m b H)/\∀i m b H,W i m b H->
   (J.stop i H/\D.nx b H)\/(J.go i H/\∃N:St->Hp->Prop,(∀h H',N h H'->∃l,l<m/\W (i+1) l h H')/\∀x H',J.yld i H x H'->g x b H' λf j=>k {D with nx:=N,ct:=N,bk:=D.nx} f j):=by
 refine(λi m b H=>m=xs.length-i/\i≤xs.length/\d i b H,(xs.length,!1,zero_le _,h0),?_);rintro i m b H⟨rfl,z,p⟩;obtain⟨s,r,q⟩:=u H (w i b H p);by_cases c:i<xs.length
 .refine .inr (s i c,d (i+1),λh H' t=>(xs.length-(i+1),sub_succ_lt_self _ _ c,rfl,c,t),λx H' y=>?_);obtain⟨e,n⟩:=r i x H' c y;subst e;exact v i x b _ n p
 .have e:i=xs.length:=le_antisymm z (le_of_not_lt c);subst e;exact .inl (q,A b H p)
theorem DE{u:TT}{v:TE}{q:St}{Q:VK}(C:lG J a o xs)(L:H a<*o)(l:Addr->Nat->List V->Hp->Prop)(hz:xs.length≤sizeLine)(h0:∀D,H D=none->l D 0 [] (upd H D (.lst [])))(F:∀(D:Addr)(i:Nat)(x:V)(ys:List V)(H':Hp)(w:VK)(R2:Hp->Prop),H D=none->xs[i]?<*x->a' H H'->H' D<*.lst ys->l D i ys H'->
   (∀y h,h D<*.lst ys->a' H (upd h D (.lst (ys++[y])))->l D (i+1) (ys++[y]) (upd h D (.lst (ys++[y])))->w y h)->(∀g,a' H g->g D<*.lst ys->l D (i+1) ys g->R2 g)->
   u (some x::q) H' λb g=>if b=true then v (some x::q) g w else R2 g)(G:∀D ys H',H D=none->a' H H'->H' D<*.lst ys->l D xs.length ys H'->Q (.ref D) H'):∀D,H D=none->∃W:Nat->Nat->List V->Hp->Prop,
 (∃m,W 0 m [] (upd H D (.lst [])))/\∀i m ys f,W i m ys f->f D=some (.lst ys)/\((J.stop i f/\Q (.ref D) f)\/(J.go i f/\ys.length<sizeLine/\∀x p,J.yld i f x p->
  u (some x::q) p λb g=>if b=true then v (some x::q) g λy h=>h D=some (.lst ys)/\∃n,n<m/\W (i+1) n (ys++[y]) (upd h D (.lst (ys++[y])))
   else ∃n,n<m/\W (i+1) n ys g)):=by
 intro D r;refine(λi m ys f=>m=xs.length-i/\i≤xs.length/\ys.length≤i/\a' H f/\f D=some (.lst ys)/\l D i ys f,(xs.length,!1,zero_le _,!1,a'.upd r,j',h0 D r),?_);rintro i m ys f⟨rfl,I,t,j,k,hp⟩;refine(k,?_);obtain⟨B,A,z⟩:=C f (j _ _ L);by_cases d:i<xs.length
 .refine .inr (B i d,lt_of_le_of_lt t (lt_of_lt_of_le d hz),λx p s=>?_);obtain⟨e,E⟩:=A i x p d s;subst e;exact F D i x ys p _ _ r E j k hp (λy h a b c=>(a,xs.length-(i+1),sub_succ_lt_self _ _ d,rfl,d,by rw[uA];exact Nat.succ_le_succ t,b,j',c)) (λg a b c=>(xs.length-(i+1),sub_succ_lt_self _ _ d,rfl,d,Nat.le_succ_of_le t,a,b,c))
 .have e:i=xs.length:=le_antisymm I (le_of_not_lt d);subst e;exact .inl (z,G D ys f r j k hp)
noncomputable def jc(K:Frag)(J:It)(te:TE)(σ:St)(H1:Hp)(Q:VK):Prop:=∀D,H1 D=none->∃W:Nat->Nat->List V->Hp->Prop,
 (∃m,W 0 m [] (upd H1 D (.lst [])))/\∀i m ys H2,W i m ys H2->H2 D=some (.lst ys)/\((J.stop i H2/\Q (.ref D) H2)\/(J.go i H2/\ys.length<sizeLine/\∀x H3,J.yld i H2 x H3->
  ∃p a b,x=.ref p/\pa K H3 p [a,b]/\te (some a::some b::σ) H3 λy H5=>H5 D=some (.lst ys)/\∃m',m'<m/\W (i+1) m' (ys++[y]) (upd H5 D (.lst (ys++[y])))))
theorem DF{K:Frag}{s:St}(v:Nat->V->V->Prop)(j:Addr->Nat->List V->Hp->Prop)(hz:n≤sizeLine)(B:∀i c,a' H c->i<n->J.go i c)(A:∀i c x h,a' H c->i<n->J.yld i c x h->∃p a b,x=.ref p/\v i a b/\c p=none/\h=upd c p (.tup [a,b]))(z:∀c,a' H c->J.stop n c)(h0:∀D,H D=none->j D 0 [] (upd H D (.lst [])))(C:∀(D:Addr)(i:Nat)(a b:V)(ys:List V)(H' h:Hp)(u:VK),H D=none->i<n->v i a b->a' H H'->H' D<*.lst ys->j D i ys H'->a' H' h->
   (∀y k,k D<*.lst ys->a' H (upd k D (.lst (ys++[y])))->j D (i+1) (ys++[y]) (upd k D (.lst (ys++[y])))->u y k)->w (some a::some b::s) h u)(E:∀D ys H',H D=none->a' H H'->H' D<*.lst ys->j D n ys H'->Q (.ref D) H'):jc K J w s H Q:=by
 intro D l;refine(λi m ys c=>m=n-i/\i≤n/\ys.length≤i/\a' H c/\c D=some (.lst ys)/\j D i ys c,(n,!1,zero_le _,!1,a'.upd l,j',h0 D l),?_);rintro i m ys c⟨rfl,F,t,f,g,hp⟩;refine(g,?_);by_cases d:i<n
 .refine .inr (B i c f d,lt_of_le_of_lt t (lt_of_lt_of_le d hz),λx h o=>?_);obtain⟨p,a,b,rfl,r,q,rfl⟩:=A i c x h f d o;refine(p,a,b,rfl,pa.of j',C D i a b ys c _ _ l d r f g hp (a'.upd q) λy k L I G=>(L,n-(i+1),sub_succ_lt_self _ _ d,rfl,d,by rw[uA];exact Nat.succ_le_succ t,I,j',G))
 .have e:i=n:=le_antisymm F (le_of_not_lt d);subst e;exact .inl (z c f,E D ys c l f g hp)
theorem iX{K:Frag}{k:St}(j:H c<*.tup xs)(d:Addr->Nat->List V->Hp->Prop)(hz:xs.length≤sizeLine)(h0:∀D,H D=none->d D 0 [] (upd H D (.lst [])))(q:∀(D:Addr)(i:Nat)(x:V)(ys:List V)(H' e:Hp)(f:VK),H D=none->xs[i]?<*x->a' H H'->H' D<*.lst ys->d D i ys H'->a' H' e->
   (∀y g,g D<*.lst ys->a' H (upd g D (.lst (ys++[y])))->d D (i+1) (ys++[y]) (upd g D (.lst (ys++[y])))->f y g)->o (some (.int (i:Int))::some x::k) e f)(r:∀D ys H',H D=none->a' H H'->H' D<*.lst ys->d D xs.length ys H'->Q (.ref D) H'):jc K (pO c) o k H Q:=by
 refine DF (n:=xs.length) (λi a b=>a=.int (i:Int)/\xs[i]?<*b) d hz (λi m s h=>(xs,xs[i],s _ _ j,j1 h)) ?_ (λm s=>(xs,s _ _ j,rfl)) h0 ?_ r
 .rintro i m x e s h⟨p,y,zs,l,A,z,w,v⟩;rw[s _ _ j]at l;cases l;exact(p,_,y,z,(rfl,A),w,v)
 .rintro D i a b ys H' e f u I⟨rfl,t⟩G F E C B;exact q D i b ys H' e f u t G F E C B
end L2
namespace RA
open PySem L2
inductive KS where
 |inl (b:Bool)
 |inr (k:NK)
instance:DecidableEq KS:=λa b=>match a,b with
 |.inl a,.inl b=>if h:a=b then isTrue (by rw[h])else isFalse λz=>h (KS.inl.inj z)
 |.inr a,.inr b=>if h:a=b then isTrue (by rw[h])else isFalse λz=>h (KS.inr.inj z)
 |.inl _,.inr _=>isFalse λz=>by cases z
 |.inr _,.inl _=>isFalse λz=>by cases z
noncomputable def CI:KS->Bool
 |.inl _=>false
 |.inr _=>true
noncomputable def gQ(H:Hp):KS->V->Prop
 |.inl b,x=>x=.bl b
 |.inr k,x=>∃p,x=.ref p/\zR H k p
theorem u4(s:∀b xs,H b<*.tup xs->H' b<*.tup xs)(h:zR H k a):zR H' k a:=by
 obtain⟨b,d,c⟩:=h;exact(b,s _ _ d,s _ _ c)
theorem gQ.stay(s:∀b xs,H b<*.tup xs->H' b<*.tup xs)(h:gQ H k x):gQ H' k x:=by
 cases k with
 |inl b=>exact h
 |inr k=>
  obtain⟨p,e,h⟩:=h;exact(p,e,u4 s h)
theorem BX{g f:Type}[DecidableEq f](b:g->f)(c:g->V)(k:f):∀(kvs:List g)(n:Nat),(∀i x,kvs[i]?<*x->c x=.int ((n+i:Nat):Int))->
  (kvs.find? λx=>decide (b x=k)).map c=if k∈kvs.map b then some (.int ((n+(kvs.map b).idxOf k:Nat):Int))else none
 |[],n,_=>by simp
 |a::kvs,n,h=>by
  by_cases e:b a=k
  .have h0:=h 0 a rfl;rw[if_pos (by simp[e])];subst e;simp[find?_cons,h0]
  .have j:=BX b c k kvs (n+1) λi x l=>by
    have:=h (i+1) x (by simpa using l);rw[this];congr 2;lia
   have m:(kvs.map b).idxOf k+1=((a::kvs).map b).idxOf k:=by
    rw[map_cons,idxOf_cons,beq_eq_false_iff_ne.mpr e];rfl
   rw[find?_cons,decide_eq_false e];show(kvs.find? λx=>decide (b x=k)).map c=_;rw[j];by_cases d:k∈kvs.map b
   .rw [if_pos d,if_pos (by rw[map_cons];exact mem_cons_of_mem _ d),<-m];congr 3;lia
   .rw [if_neg d,if_neg (by rw[map_cons,mem_cons];rintro(z|z);exact e z.symm;exact d z)]
noncomputable def q5(P:Program)(w:World)(H:Hp)(d:Addr)(nest:Bool)(ks:List KS):Prop:=
 (nest=false/\∃kvs:List (Bool×V),H d=some (xw (zr P w) d kvs)/\(kvs.map λx=>(KS.inl x.1:KS))=sg ks/\∀(i:Nat)(x:Bool×V),kvs[i]?<*x->x.2=V.int (i:Int)) \/
 (nest=true/\∃kvs:List (NK×Addr×V),H d=some (vA (yF P w) d kvs)/\(∀x∈kvs,zR H x.1 x.2.1)/\(kvs.map λx=>(KS.inr x.1:KS))=sg ks/\∀(i:Nat)(x:NK×Addr×V),kvs[i]?<*x->x.2.2=V.int (i:Int))
section
variable{P:Program}{w:World}{H:Hp}{d:Addr}{nest:Bool}{ks:List KS}
noncomputable def dI(ks:List KS)(k:KS):Option V:=if k∈sg ks then some (.int ((sg ks).idxOf k:Nat))else none
theorem q5.get(h:q5 P w H d nest ks)(j:gQ H k x)(g:CI k=nest):pP P w H d x (dI ks k):=by
 rcases h with⟨rfl,kvs,e,f,c⟩|⟨rfl,kvs,e,l,f,c⟩
 .cases k with
  |inr k=>cases g
  |inl b=>
   refine .inl (kvs,b,e,j,?_);have:=BX (λx:Bool×V=>(KS.inl x.1:KS)) (·.2) (KS.inl b) kvs 0 (λi x a=>by rw[c i x a,Nat.zero_add]);rw[f]at this;unfold dI aR;rw[Nat.zero_add]at this;rw[<-this];congr 2;funext x;exact decide_eq_decide.mpr (λz=>KS.inl.inj z,λz=>by rw[z])
 .cases k with
  |inl k=>cases g
  |inr b=>
   obtain⟨p,n,m⟩:=j;refine .inr (.inl (kvs,b,p,e,l,n,m,?_));have:=BX (λx:NK×Addr×V=>(KS.inr x.1:KS)) (·.2.2) (KS.inr b) kvs 0 (λi x a=>by rw[c i x a,Nat.zero_add]);rw[f]at this;unfold dI av;rw[Nat.zero_add]at this;rw[<-this];congr 2;funext x;exact decide_eq_decide.mpr (λz=>KS.inr.inj z,λz=>by rw[z])
theorem q5.len(h:q5 P w H d nest ks):tK P w H d (sg ks).length:=by
 rcases h with⟨_,kvs,e,a,_⟩|⟨_,kvs,e,_,a,_⟩
 .exact .inl (kvs,e,by rw[<-a,j_])
 .exact .inr (kvs,e,by rw[<-a,j_])
theorem q5.same(h:q5 P w H d nest ks)(a:k∈sg ks):q5 P w H d nest (ks++[k]):=by
 unfold q5 at h⊢;rw[u0,if_pos a];exact h
theorem q5.mono(h:q5 P w H d nest ks)(s:a' H H'):q5 P w H' d nest ks:=by
 rcases h with⟨a,kvs,e,c⟩|⟨a,kvs,e,g,c⟩
 .exact .inl (a,kvs,s _ _ e,c)
 .exact .inr (a,kvs,s _ _ e,λx f=>u4 (λb xs z=>s _ _ z) (g x f),c)
theorem q5.tups(h:q5 P w H d nest ks)(e:H'=upd H d c):∀b xs,H b<*.tup xs->H' b<*.tup xs:=λb xs z=>by
 rw[e,a_ (λq=>?_)]
 .exact z
 .subst q;rcases h with⟨_,kvs,a,_⟩|⟨_,kvs,a,_⟩
  .rw [a]at z;cases z
  .rw [a]at z;cases z
theorem ip(h:¬ j<n)(h2:j-n<1):j=n:=by lia
theorem q5.put(h:q5 P w H d nest ks)(u:gQ H k x)(t:CI k=nest)(c:k∉sg ks)(A:(sg ks).length<sizeLine):∃v,tJ P w H d x (.int ((sg ks).length:Nat)) (upd H d v)/\q5 P w (upd H d v) d nest (ks++[k]):=by
 have l:dI ks k=none:=if_neg c;have q:=h.get u t;rw[l]at q;have h0:=h;rcases h with⟨rfl,kvs,e,m,o⟩|⟨rfl,kvs,e,B,m,o⟩
 .cases k with
  |inr k=>cases t
  |inl b=>
   have f:(sg ks).length=kvs.length:=by rw[<-m,j_]
   have g:aR kvs b=none:=by
    have:=BX (λx:Bool×V=>(KS.inl x.1:KS)) (·.2) (KS.inl b) kvs 0 (λi x s=>by rw[o i x s,Nat.zero_add]);rw[m,if_neg c]at this;unfold aR;rw[<-this];congr 2;funext x;exact decide_eq_decide.mpr (λz=>by rw[z],λz=>KS.inl.inj z)
   refine(_,.inl (kvs,b,e,u,g,by rw[<-f];exact A,rfl),.inl (rfl,kvs++[(b,.int ((sg ks).length:Nat),)],j',?_,λi y a=>?_))
   .rw [u0,if_neg c,map_append,m];rfl
   .by_cases n:i<kvs.length
    .rw [getElem?_append_left n]at a;exact o i y a
    .rw [getElem?_append_right (le_of_not_lt n)]at a;have r:=ip n (l' a).1;rw[r,sub_self]at a;cases a;show V.int ((sg ks).length:Nat)=_;rw[f,r]
 .cases k with
  |inl k=>cases t
  |inr b=>
   have f:(sg ks).length=kvs.length:=by rw[<-m,j_]
   obtain⟨p,D,C⟩:=u;have g:av kvs b=none:=by
    have:=BX (λx:NK×Addr×V=>(KS.inr x.1:KS)) (·.2.2) (KS.inr b) kvs 0 (λi x s=>by rw[o i x s,Nat.zero_add]);rw[m,if_neg c]at this;unfold av;rw[<-this];congr 2;funext x;exact decide_eq_decide.mpr (λz=>by rw[z],λz=>KS.inr.inj z)
   have j:=h0.tups (H':=upd H d (vA (yF P w) d (kvs++[(b,p,.int ((sg ks).length:Nat),)]))) rfl;refine(_,.inr (.inl (kvs,b,p,e,B,D,C,g,by rw[<-f];exact A,rfl)),.inr (rfl,kvs++[(b,p,.int ((sg ks).length:Nat),)],j',λy a=>?_,?_,λi y a=>?_))
   .rcases mem_append.mp a with a|a
    .exact u4 j (B y a)
    .rw [uN a];exact u4 j C
   .rw [u0,if_neg c,map_append,m];rfl
   .by_cases n:i<kvs.length
    .rw [getElem?_append_left n]at a;exact o i y a
    .rw [getElem?_append_right (le_of_not_lt n)]at a;have r:=ip n (l' a).1;rw[r,sub_self]at a;cases a;show V.int ((sg ks).length:Nat)=_;rw[f,r]
theorem q5.new(P:Program)(w:World)(H:Hp)(p:Addr)(nest:Bool):q5 P w (upd H p (pj P w p (if nest=true then .nest else .bl))) p nest []:=by
 cases nest with
 |false=>exact .inl (rfl,[],j',rfl,λi x h=>by simp at h)
 |true=>exact .inr (rfl,[],j',λx h=>by simp at h,rfl,λi x h=>by simp at h)
end
theorem mR(bs:List Bool):ao (bs.map λb=>(KS.inl b:KS))=ao bs:=CA (by rw[j_]) λi j a b f e h1 h2 d c=>by
 rw[n',d]at h1;rw[n',c]at h2;cases h1;cases h2;exact(λz=>KS.inl.inj z,λz=>by rw[z])
theorem mQ(bs:List NK):ao (bs.map λb=>(KS.inr b:KS))=ao bs:=CA (by rw[j_]) λi j a b f e h1 h2 d c=>by
 rw[n',d]at h1;rw[n',c]at h2;cases h1;cases h2;exact(λz=>KS.inr.inj z,λz=>by rw[z])
end RA
namespace L2
open PySem PySem.Spec PyProof.Rows
section
variable{X:Cx}{elt iter:Expr}{x:Str}{px pos:Pos}{ifs:List Expr}{sc:Scope}{wi:TI}{tt:TT}{te:TE}
end
theorem zU(K:Frag)(a:X.K=K:=by rfl):xH X (mo K):=by
 subst a;exact dQ
theorem Ad(K:Frag)(a:X.K=K:=by rfl):xH X (ik K):=by
 subst a;exact dP
theorem kS{X:Cx}(P:Program)(w:World)(a:X.A.units+64<cLine)(b:X.prog=P:=by rfl)(hw:X.w=w:=by rfl):xH X (sB P w):=by
 subst b hw;exact m5 a
theorem mH:lG (CH a ys.length) a (.lst ys) ys.reverse:=λj e=>by
 refine(λi h=>(ys,e,rfl,by simpa using h),λi x g c h=>?_,?_)
 .obtain ⟨f,xs,b,d⟩:=h;rw[e]at b;cases b;refine(f,?_);rw[List.getElem?_reverse (by simpa using c)];exact d
 .show ys.reverse.length=ys.length;rw[length_reverse]
theorem cP{xs:List V}(h:t≤xs.length):xn xs none (some (t:Int))=xs.take t:=by
 unfold xn;rw[HT.zh,HT.z9,List.drop_zero,Nat.sub_zero,Nat.min_eq_left h]
end L2
namespace RA
open PySem L2
theorem bL{a b x:Nat}(h:a=b)(c:x<b):x<a:=Nat.lt_of_lt_of_eq c h.symm
theorem sZ(h:i<j+1)(n:¬ i=j):i<j:=Nat.lt_of_le_of_ne (Nat.le_of_lt_succ h) n
theorem eB{n:Nat}(h:n≤2100):-(2^62)≤(n:Int)/\(n:Int)<2^62:=by lia
theorem wT{r:Int}{n:Nat}(h0:0≤r)(h1:r<n):r.toNat<n:=(Int.toNat_lt h0).mpr h1
theorem qb(h:¬ j<n)(h2:j-n<1):j=n:=by lia
theorem tq(h0:0≤n)(h1:n<2147483647):-(2^64)<n/\n<2^64:=by omega
theorem jO{n:Nat}(h:1≤n):(0:Int)<(n:Int):=ofNat_lt.mpr h
theorem td{n:Nat}(h1:1≤n)(h:n≤2100):(0:Int)<(n:Int)/\(n:Int)<1073741824:=by omega
theorem pJ(h:i<t):t-1-i<t:=by omega
theorem rp(h:i<t):∃u,t-i=u+1/\t-1-i=u/\t-(i+1)=u:=(t-i-1,!6,!6,!6)
theorem sY(h1:w=i)(h2:i<t)(b:t<k+1)(a:k≤4410000):w+1≤16777216:=by lia
theorem ur(h:k≤4410000):k+1<sizeLine:=by
 have:16777216≤sizeLine:=o9 (!0);lia
theorem pK(z:Int)(b m:Nat)(a:0<m):∃n:Nat,(n:Int)=(b:Int)+z%(m:Int)/\b≤n/\n<b+m:=by
 have h0:=Int.emod_nonneg z (show(m:Int)≠0 by lia);have h1:=Int.emod_lt_of_pos z (show(0:Int)<(m:Int) by lia);exact(b+(z%(m:Int)).toNat,!6,!6,!6)
theorem uq(h:0≤p)(i:Nat):0≤p+(0+(i:Int)):=by lia
theorem rq(h:l+i=26)(a:i≤3):1≤l/\l≤26:=by lia
theorem tu{n:Nat}(h:n≤26):(n:Int)<1073741824:=by lia
theorem rn(h1:a≤n)(h2:b≤n)(c:n≤26):a+b≤16777216:=by lia
theorem pI{x:Int}(h:0≤x):(x+1).toNat=x.toNat+1:=by lia
theorem pL(h:k<l)(a:l+i=26):min k l+(l-(k+1))+(i+1)=26:=by lia
theorem BY(ws:LN):b' ws=(zs ws).map V.int:=by
 unfold b' zs;rw[List.map_map];rfl
theorem db(ws:LN):(zs ws).length=ws.length:=by simp[zs]
theorem e_(ws:LN):(b' ws).length=ws.length:=by simp[b']
theorem wU(h:i<ws.length):(b' ws)[i]?<*.int ((ws.getD i 0:Nat):Int):=by
 unfold b';rw[n',m8,j1 h];rfl
theorem xh{ns:LN}(h:r<ns.length):vt (b' ns) (r:Int)<*.int ((ns.getD r 0:Nat):Int):=vJ (wU h)
theorem zv{a:Type}{l:List a}{x:a}(h:l[i]?<*x):l.take (i+1)=l.take i++[x]:=by
 rw[take_add_one,h];rfl
theorem CJ{a b:Nat}:decide (V.int (a:Int)=V.int (b:Int))=decide (a=b):=by
 by_cases h:a=b
 .subst h;simp
 .have:¬ V.int (a:Int)=V.int (b:Int):=λz=>h (by injection z with z;exact Int.ofNat.inj z);rw[decide_eq_false h,decide_eq_false this]
noncomputable def AW(H:Hp)(lots:List Addr)(W:LL)(B:List Bool):Prop:=∀(i:Nat)(r:Addr),lots[i]?<*r->H r<*.lst (b' (Rd W B i))
theorem AW.same(h:AW H a W B)(s:a' H H'):AW H' a W B:=λi r e=>s _ _ (h i r e)
theorem gm(g:j<n)(k:f j=false):false∈(List.range n).map f/\((List.range n).map f).idxOf false<n/\f (((List.range n).map f).idxOf false)=false/\∀i<((List.range n).map f).idxOf false,f i=true:=by
 have get:∀i,i<n->((List.range n).map f)[i]?<*f i:=λi d=>by rw[n',getElem?_range d];rfl
 have c:false∈(List.range n).map f:=mem_map.mpr (j,mem_range.mpr g,k);have b:=idxOf_lt_length_of_mem c;have a:((List.range n).map f).idxOf false<n:=by simpa using b
 refine(c,a,?_,λi d=>?_)
 .have e:=get _ a;rw[j1 b,getElem_idxOf b]at e;exact(Option.some.inj e).symm
 .have e:=get i (lt_trans d a);cases h:f i with
  |true=>rfl
  |false=>
   rw[h]at e;have:=Bp e;lia
theorem ol.row(d:a.length=W.length)(h:AD H a W)(c:r<W.length):∃b,a[r]?=some b/\H b<*.tup (b' (W.getD r [])):=by
 have e:a[r]?<*(a[r]'(!6)):=j1 _;obtain⟨ws,h1,h2⟩:=h r _ e;refine(_,e,?_);rw[h2,m8,h1];rfl
theorem Ae(s:a' H H')(h:H' p=none):H p=none:=by
 cases e:H p with
 |none=>rfl
 |some o=>rw[s _ _ e]at h;cases h
theorem iW{u:TT}{v:TE}{p:St}{Q:VK}(k:Addr->Nat->List V->Hp->Prop)(hz:n≤sizeLine)(h0:∀D,H D=none->k D 0 [] (L2.upd H D (.lst [])))(A:∀(D:Addr)(i:Nat)(ys:List V)(H':Hp)(w:VK)(R2:Hp->Prop),H D=none->i<n->a' H H'->H' D<*.lst ys->k D i ys H'->
   (∀y h,h D<*.lst ys->a' H (L2.upd h D (.lst (ys++[y])))->k D (i+1) (ys++[y]) (L2.upd h D (.lst (ys++[y])))->w y h)->(∀g,a' H g->g D<*.lst ys->k D (i+1) ys g->R2 g)->
   u (some (.int (lo+(i:Int)))::p) H' λb g=>if b=true then v (some (.int (lo+(i:Int)))::p) g w else R2 g)(B:∀D ys H',H D=none->a' H H'->H' D<*.lst ys->k D n ys H'->Q (.ref D) H'):∀D,H D=none->∃W:Nat->Nat->List V->Hp->Prop,
 (∃m,W 0 m [] (L2.upd H D (.lst [])))/\∀i m ys f,W i m ys f->f D=some (.lst ys)/\(((zL lo n).stop i f/\Q (.ref D) f)\/((zL lo n).go i f/\ys.length<sizeLine/\∀x r,(zL lo n).yld i f x r->
  u (some x::p) r λb g=>if b=true then v (some x::p) g λy h=>h D=some (.lst ys)/\∃l,l<m/\W (i+1) l (ys++[y]) (L2.upd h D (.lst (ys++[y])))
   else ∃l,l<m/\W (i+1) l ys g)):=by
 intro D q;refine(λi m ys f=>m=n-i/\i≤n/\ys.length≤i/\a' H f/\f D=some (.lst ys)/\k D i ys f,(n,!1,zero_le _,!1,a'.upd q,j',h0 D q),?_);rintro i m ys f⟨rfl,C,t,o,j,hp⟩;refine(j,?_);by_cases d:i<n
 .refine .inr (d,lt_of_le_of_lt t (lt_of_lt_of_le d hz),λx r s=>?_);obtain⟨e,z⟩:=s;subst e z;exact A D i ys r _ _ q d o j hp (λy h a b c=>(a,n-(i+1),sub_succ_lt_self _ _ d,rfl,d,by rw[uA];exact Nat.succ_le_succ t,b,j',c)) (λg a b c=>(n-(i+1),sub_succ_lt_self _ _ d,rfl,d,Nat.le_succ_of_le t,a,b,c))
 .have e:i=n:=le_antisymm C (le_of_not_lt d);subst e;exact .inl (le_refl _,B D ys f q o j hp)
theorem CK{a:List Addr}(c:a.length=k+1)(h:a[k]?<*b):vt (a.map V.ref) (-1)<*.ref b:=by
 have e:a=a.take k++[b]:=by rw[<-zv h,take_of_length_le (!6)]
 rw[e,map_append];exact oh _ _
theorem DG{ws:LN}(h:j<ws.length):(ws.map f).getD j 0=f (ws.getD j 0):=by
 rw[m8,m8,n',j1 h];rfl
theorem AI{ws:LN}(h:j<ws.length):ws.getD j 0∈ws:=by
 rw[m8,j1 h];exact getElem_mem h
theorem jw{H:Hp}(h1:H r<*.lst (b' ns))(h2:H p<*.lst (ls.map V.ref))(c:ls≠[]):r≠p:=by
 rintro rfl;rw[h1]at h2;injection h2 with h2;injection h2 with h2;cases ls with
 |nil=>exact c rfl
 |cons a l=>
  cases ns with
  |nil=>cases h2
  |cons n ns=>
   rw[map_cons,b',map_cons]at h2;injection h2 with b _;cases b
section
variable{K:Frag}{te:TE}{tt:TT}{σ:St}{H:Hp}{Q:VK}{a c d:Addr}{o:HO}{xs zs:List V}
theorem x8(h:∀R:VK,R (.ref a) H->l σ H R)(q:o=.lst xs\/o=.tup xs)(j:H a<*o)(f:Addr->Nat->List V->Hp->Prop)(hz:xs.length≤sizeLine)(h0:∀D,H D=none->f D 0 [] (L2.upd H D (.lst [])))(n:∀(D:Addr)(i:Nat)(x:V)(ys:List V)(H':Hp)(k:VK)(R2:Hp->Prop),H D=none->xs[i]?<*x->a' H H'->H' D<*.lst ys->f D i ys H'->
   (∀y g,g D<*.lst ys->a' H (L2.upd g D (.lst (ys++[y])))->f D (i+1) (ys++[y]) (L2.upd g D (.lst (ys++[y])))->k y g)->(∀e,a' H e->e D<*.lst ys->f D (i+1) ys e->R2 e)->
   tt (some x::σ) H' λb e=>if b=true then te (some x::σ) e k else R2 e)(p:∀D ys H',H D=none->a' H H'->H' D<*.lst ys->f D xs.length ys H'->Q (.ref D) H'):bq (ES l) tt te σ H Q:=
 h _ (a,o,xs,rfl,q,j,λJ m=>DE m j f hz h0 n p)
theorem BZ{n:Nat}(j:∀R:List V->Hp->Prop,R [.int (n:Int)] H->t σ H R)(m:n≤2100)(f:Addr->Nat->List V->Hp->Prop)(h0:∀D,H D=none->f D 0 [] (L2.upd H D (.lst [])))(k:∀(D:Addr)(i:Nat)(ys:List V)(H':Hp)(h:VK)(R2:Hp->Prop),H D=none->i<n->a' H H'->H' D<*.lst ys->f D i ys H'->
   (∀y g,g D<*.lst ys->a' H (L2.upd g D (.lst (ys++[y])))->f D (i+1) (ys++[y]) (L2.upd g D (.lst (ys++[y])))->h y g)->(∀e,a' H e->e D<*.lst ys->f D (i+1) ys e->R2 e)->
   tt (some (.int (0+(i:Int)))::σ) H' λb e=>if b=true then te (some (.int (0+(i:Int)))::σ) e h else R2 e)(l:∀D ys H',H D=none->a' H H'->H' D<*.lst ys->f D n ys H'->Q (.ref D) H'):bq (p5 t) tt te σ H Q:=
 j _ ((n:Int),rfl,!6,!6,iW (n:=n) f (o9 (le_trans m (!0))) h0 k l)
end
theorem wV(L:LN)(W:LL)(r c:Nat)(u:LN):run L W r (c::u)=run L W (vP L W r c) u:=rfl
section
variable{P:Program}{w:World}{H:Hp}{d q:Addr}{ps:List (Nat×Nat)}
end
theorem x9{B:List Bool}(h:r<B.length):vt (B.map V.bl) ((r:Nat):Int)<*.bl (B.getD r false):=vZ V.bl (by rw[m8,j1 h];rfl)
theorem ki(h:AD H a W)(g:a.length=W.length)(c:∀b xs,H b<*.tup xs->H' b<*.tup xs)(i:H' t<*.tup (b' ws)):AD H' (a++[t]) (W++[ws]):=λj r e=>by
 by_cases f:j<a.length
 .rw [getElem?_append_left f]at e;obtain⟨v,m,l⟩:=h j r e;exact(v,by rw[getElem?_append_left (by rw[<-g];exact f)];exact m,c _ _ l)
 .rw [getElem?_append_right (le_of_not_lt f)]at e;have d:=ip f (l' e).1;rw[d,sub_self]at e;have k:t=r:=by simpa using e
  subst k;exact(ws,by rw[d,g,getElem?_append_right (le_refl _),sub_self];rfl,i)
theorem uf{e:Type}{l:List e}(h:l.length=4):∃a b c d,l=[a,b,c,d]:=match l,h with|[a,b,c,d],_=>(a,b,c,d,rfl)
end RA
namespace RA
theorem cq(L:LN)(c d:Nat):∀{a b:LN},ak L a b=true->ak L (a++[c]) (b++[d])=true
 |[],_,h=>by simp[ak]at h
 |_::_,[],h=>by simp[ak]at h
 |x::a,y::b,h=>by
  rw[cons_append,cons_append,ak];rw[ak]at h;by_cases e:x=y
  .rw [if_pos e]at h⊢;exact cq L c d h
  .rw [if_neg e]at h⊢;exact h
theorem ET(L:LN)(c:Nat):∀{a b:LN},a.length=b.length->ak L (a++[c]) (b++[c])=true->ak L a b=true
 |[],[],_,h=>by simp[ak]at h
 |[],_::_,e,_=>by simp at e
 |_::_,[],e,_=>by simp at e
 |x::a,y::b,e,h=>by
  rw[cons_append,cons_append,ak]at h;rw[ak];by_cases q:x=y
  .rw [if_pos q]at h⊢;exact ET L c (by simpa using e) h
  .rw [if_neg q]at h⊢;exact h
theorem cr(L:LN){c d:Nat}(b:L.idxOf c<L.idxOf d):∀a:LN,ak L (a++[c]) (a++[d])=true
 |[]=>by
  rw[List.nil_append,List.nil_append,ak,if_neg (λe=>by rw[e]at b;lia)];exact decide_eq_true b
 |x::a=>by
  rw[cons_append,cons_append,ak,if_pos rfl];exact cr L b a
theorem EU(L:LN):∀{a b:LN},ak L a b=true->ak L b a=false
 |[],_,h=>by simp[ak]at h
 |_::_,[],h=>by simp[ak]at h
 |x::a,y::b,h=>by
  rw[ak]at h⊢;by_cases e:x=y
  .rw [if_pos e]at h;rw[if_pos e.symm];exact EU L h
  .rw [if_neg e]at h;rw[if_neg (Ne.symm e)];have:=of_decide_eq_true h;exact decide_eq_false (!6)
theorem EV(L:LN):∀{a b c:LN},ak L a b=true->ak L b c=true->ak L a c=true
 |[],_,_,h,_=>by simp[ak]at h
 |_::_,[],_,h,_=>by simp[ak]at h
 |_::_,_::_,[],_,h=>by simp[ak]at h
 |x::a,y::b,z::c,h,k=>by
  rw[ak]at h k⊢;by_cases e:x=y
  .subst e;rw[if_pos rfl]at h;by_cases f:x=z
   .rw [if_pos f]at k⊢;exact EV L h k
   .rw [if_neg f]at k⊢;exact k
  .rw [if_neg e]at h;have h1:=of_decide_eq_true h;by_cases f:y=z
   .subst f;rw[if_neg e];exact h
   .rw [if_neg f]at k;have k1:=of_decide_eq_true k;rw[if_neg (λg=>by rw[g]at h1;lia)];exact decide_eq_true (lt_trans h1 k1)
theorem EW{L:LN}:∀{a b:LN},a.length=b.length->(∀c∈a,c∈L)->(∀c∈b,c∈L)->ak L a b=true\/a=b\/ak L b a=true
 |[],[],_,_,_=>.inr (.inl rfl)
 |[],_::_,e,_,_=>by simp at e
 |_::_,[],e,_,_=>by simp at e
 |x::a,y::b,e,f,g=>by
  rw[ak,ak];by_cases q:x=y
  .subst q;rw[if_pos rfl,if_pos rfl];rcases EW (a:=a) (b:=b) (by simpa using e) (λc d=>f c (by simp[d])) (λc d=>g c (by simp[d]))with h|h|h
   .exact .inl h
   .exact .inr (.inl (by rw[h]))
   .exact .inr (.inr h)
  .rw [if_neg q,if_neg (Ne.symm q)];rcases lt_trichotomy (L.idxOf x) (L.idxOf y)with h|h|h
   .exact .inl (decide_eq_true h)
   .exact absurd (xJ (f x (!1)) h) q
   .exact .inr (.inr (decide_eq_true h))
section
variable{L a b c:LN}
theorem Bu(h:a.length<b.length):uF L a b=true:=by
 unfold uF;rw[if_pos (!6)];exact decide_eq_true h
theorem zw(h:a.length=b.length):uF L a b=ak L a b:=by
 unfold uF;rw[if_neg (by simpa using h)]
theorem Bv(h:uF L a b=true):a.length≤b.length:=by
 by_cases e:a.length=b.length
 .lia
 .unfold uF at h;rw[if_pos e]at h;have:=of_decide_eq_true h;lia
theorem nM(x y:Nat)(h:uF L a b=true):uF L (a++[x]) (b++[y])=true:=by
 have d:=Bv h;by_cases e:a.length=b.length
 .rw [zw (by simp[e])];rw[zw e]at h;exact cq L x y h
 .exact Bu (by simp;lia)
theorem nN(h:L.idxOf x<L.idxOf y):uF L (a++[x]) (a++[y])=true:=by
 rw[zw (!1)];exact cr L h a
theorem CL(h:uF L a b=true):uF L b a=false:=by
 have d:=Bv h;by_cases e:a.length=b.length
 .rw [zw e]at h;rw[zw e.symm];exact EU L h
 .unfold uF;rw[if_pos (Ne.symm e)];exact decide_eq_false (!6)
theorem vB(h:uF L a b=true)(k:uF L b c=true):uF L a c=true:=by
 have h1:=Bv h;have h2:=Bv k;by_cases e:a.length=c.length
 .rw [zw (!6)]at h k;rw[zw e];exact EV L h k
 .exact Bu (!6)
theorem pE:uF L a []=false:=by
 unfold uF;by_cases e:a.length=([]:LN).length
 .rw [if_neg (by simpa using e)];cases a<;>simp[ak]
 .rw [if_pos e];simp
theorem cJ(f:∀x∈a,x∈L)(d:∀x∈b,x∈L):uF L a b=true\/a=b\/uF L b a=true:=by
 by_cases e:a.length=b.length
 .rw [zw e,zw e.symm];exact EW e f d
 .by_cases h:a.length<b.length
  .exact .inl (Bu h)
  .exact .inr (.inr (Bu (!6)))
theorem dX(e:∀x∈a,x∈L)(d:∀x∈b,x∈L)(h:uF L b a=false)(k:uF L c b=false):uF L c a=false:=by
 cases q:uF L c a with
 |false=>rfl
 |true=>
  rcases cJ e d with t|t|t
  .rw [vB q t]at k;cases k
  .rw [<-t,q]at k;cases k
  .rw [t]at h;cases h
theorem gu(x:Nat)(h:uF L b a=false):uF L (b++[x]) (a++[x])=false:=by
 cases q:uF L (b++[x]) (a++[x])with
 |false=>rfl
 |true=>
  have d:=Bv q;by_cases e:b.length=a.length
  .rw [zw (by simp[e])]at q;rw[zw e,ET L x e q]at h;cases h
  .rw [Bu (by simp at d;lia)]at h;cases h
end
section
variable{κ:Type}[DecidableEq κ]
noncomputable def aG(g:κ->Nat->κ)(L:LN)(s:κ)(w:LN):κ:=w.foldl (λt c=>g t (L.idxOf c)) s
theorem DI(g:κ->Nat->κ)(L:LN)(s:κ)(w:LN)(c:Nat):aG g L s (w++[c])=g (aG g L s w) (L.idxOf c):=by
 unfold aG;rw[List.foldl_append];rfl
structure Bf(g:κ->Nat->κ)(L:LN)(s:κ)(ts:List κ)(ws:LL)(n k:Nat):Prop where
 len:ts.length=ws.length
 nd:ts.Nodup
 t0:ts[0]?<*s
 w0:ws[0]?<*[]
 srt:∀(i j:Nat)(a b:LN),i<j->ws[i]?<*a->ws[j]?<*b->uF L a b=true
 lead:∀(i:Nat)(t:κ)(a:LN),ts[i]?<*t->ws[i]?<*a->(∀c∈a,c∈L)/\aG g L s a=t
 par:∀(j:Nat)(b:LN),ws[j]?<*b->b=[]\/∃(p q:Nat)(a:LN),ws[p]?=some a/\q<L.length/\b=a++[L.getD q 0]/\(p<n\/(p=n/\q<k))
 fin:∀(r q:Nat)(t:κ)(a:LN),(r<n\/(r=n/\q<k))->q<L.length->ts[r]?<*t->ws[r]?<*a->∃(j:Nat)(b:LN),ts[j]?=some (g t q)/\ws[j]?=some b/\uF L (a++[L.getD q 0]) b=false
variable{g:κ->Nat->κ}{L:LN}{s:κ}{ts:List κ}{ws:LL}{n k:Nat}
theorem Bf.start(g:κ->Nat->κ)(L:LN)(s:κ):Bf g L s [s] [[]] 0 0 where
 len:=rfl
 nd:=by simp
 t0:=rfl
 w0:=rfl
 srt:=λi j a b l f d=>by
  have:=(l' d).1;simp at this;lia
 lead:=λi t a e f=>by
  match i,e,f with
  |0,e,f=>cases e;cases f;exact(λc m=>by simp at m,rfl)
  |i+1,e,_=>simp at e
 par:=λj b d=>by
  match j,d with
  |0,d=>cases d;exact .inl rfl
  |j+1,d=>simp at d
 fin:=λr q t a h=>by lia
theorem Bf.behind(h:Bf g L s ts ws n k)(d:L.Nodup){a:LN}(i:ws[n]?<*a)(f:k<L.length){j:Nat}{b:LN}(l:ws[j]?<*b):uF L b (a++[L.getD k 0])=true:=by
 rcases h.par j b l with rfl|⟨p,q,r,hp,e,rfl,c⟩
 .exact Bu (!1)
 .rcases c with c|⟨rfl,c⟩
  .exact nM _ _ (h.srt p n r a c hp i)
  .rw [i]at hp;cases hp;refine nN ?_;have o:L.idxOf (L.getD q 0)=q:=by rw[m8,j1 e];exact Bl d e
   have m:L.idxOf (L.getD k 0)=k:=by rw[m8,j1 f];exact Bl d f
   rw[o,m];exact c
theorem jv(h:r<n\/(r=n/\q<k+1)):(r<n\/(r=n/\q<k))\/(r=n/\q=k):=by lia
theorem Bf.old(h:Bf g L s ts ws n k)(u:L.Nodup){t:κ}{a:LN}(v:ts[n]?<*t)(o:ws[n]?<*a)(y:k<L.length)(x:g t k∈ts):Bf g L s ts ws n (k+1):=
 {h with
  par:=λj b z=>by
   rcases h.par j b z with e|⟨p,q,i,h1,h2,A,B⟩
   .exact .inl e
   .exact .inr (p,q,i,h1,h2,A,!6)
  fin:=λr q t' i f w c d=>by
   rcases jv f with f|⟨rfl,rfl⟩
   .exact h.fin r q t' i f w c d
   .rw [v]at c;rw[o]at d;cases c;cases d;obtain⟨j,m⟩:=mem_iff_getElem?.mp x;have l:j<ws.length:=by rw[<-h.len];exact(l' m).1
    exact(j,ws[j],m,j1 l,CL (h.behind u o y (j1 l)))}
theorem Bf.new(h:Bf g L s ts ws n k)(N:L.Nodup){t:κ}{a:LN}(F:ts[n]?<*t)(E:ws[n]?<*a)(C:k<L.length)(Q:g t k∉ts):Bf g L s (ts++[g t k]) (ws++[a++[L.getD k 0]]) n (k+1):=by
 have O:L.getD k 0=L[k]:=by rw[m8,j1 C];rfl
 have w:∀{o:Type}{l:List o}{x y:o}{i:Nat},l[i]?<*y->(l++[x])[i]?<*y:=λ{o l x y i}e=>by
  rw[getElem?_append_left (l' e).1];exact e
 have split:∀{o:Type}{l:List o}{x y:o}{i:Nat},(l++[x])[i]?<*y->l[i]?<*y\/(i=l.length/\y=x):=λ{o l x y i}e=>by
  by_cases R:i<l.length
  .rw [getElem?_append_left R]at e;exact .inl e
  .rw [getElem?_append_right (!6)]at e;have:i-l.length=0:=by
    have:=(l' e).1;simp at this;omega
   rw[this]at e;exact .inr (!6,(Option.some.inj e).symm)
 have A:(ts++[g t k])[ts.length]?<*g t k:=by rw[getElem?_append_right (le_refl _),sub_self];rfl
 have u:(ws++[a++[L.getD k 0]])[ws.length]?<*(a++[L.getD k 0]):=by rw[getElem?_append_right (le_refl _),sub_self];rfl
 obtain⟨H,B⟩:=h.lead n t a F E;refine(by simp[h.len],?_,w h.t0,w h.w0,λi j x y I d z=>?_,λi t' x f d=>?_,λj b J=>?_,λr q t' x G P f d=>?_)
 .rw [List.nodup_append];exact(h.nd,!1,λx d y z e=>Q (by rw[uN z]at e;rw[<-e];exact d))
 .rcases split z with z|⟨rfl,rfl⟩
  .rcases split d with d|⟨rfl,rfl⟩
   .exact h.srt i j x y I d z
   .have:=(l' z).1;lia
  .rcases split d with d|⟨rfl,rfl⟩
   .exact h.behind N E C d
   .lia
 .rcases split f with f|⟨rfl,rfl⟩
  .rcases split d with d|⟨rfl,rfl⟩
   .exact h.lead i t' x f d
   .have:=(l' f).1;rw[h.len]at this;lia
  .rcases split d with d|⟨_,rfl⟩
   .have:=(l' d).1;rw[h.len]at this;lia
   .refine (λc D=>?_,?_)
    .rcases mem_append.mp D with D|D
     .exact H c D
     .rw [uN D,O];exact getElem_mem C
    .rw [DI,B,O,Bl N C]
 .rcases split J with J|⟨rfl,rfl⟩
  .rcases h.par j b J with e|⟨p,q,X,h1,h2,S,Z⟩
   .exact .inl e
   .exact .inr (p,q,X,w h1,h2,S,!6)
  .exact .inr (n,k,a,w E,C,rfl,.inr (rfl,lt_succ_self k))
 .have hrn:r≤n:=by lia
  have Y:=(l' F).1;have m:ts[r]?<*t':=by rw[getElem?_append_left (lt_of_le_of_lt hrn Y)]at f;exact f
  have v:ws[r]?<*x:=by rw[getElem?_append_left (by rw[<-h.len];exact lt_of_le_of_lt hrn Y)]at d;exact d
  rcases jv G with G|⟨rfl,rfl⟩
  .obtain ⟨j,b,W,U,T⟩:=h.fin r q t' x G P m v;exact(j,b,w W,w U,T)
  .rw [F]at m;rw[E]at v;cases m;cases v;refine(ts.length,_,A,by rw[h.len];exact u,?_);cases M:uF L (a++[L.getD q 0]) (a++[L.getD q 0])with
   |false=>rfl
   |true=>exact M.symm.trans (CL M)
theorem Bf.next(h:Bf g L s ts ws n L.length):Bf g L s ts ws (n+1) 0:=
 {h with
  par:=λj b f=>by
   rcases h.par j b f with e|⟨p,q,m,h1,h2,l,u⟩
   .exact .inl e
   .exact .inr (p,q,m,h1,h2,l,!6)
  fin:=λr q t a o d c i=>h.fin r q t a (!6) d c i}
theorem Bf.told(h:Bf g L s ts ws ts.length 0)(F:L.Nodup):∀(w:LN)(m:Nat),w.length=m->(∀c∈w,c∈L)->∃(j:Nat)(b:LN),ts[j]?=some (aG g L s w)/\ws[j]?=some b/\uF L w b=false:=by
 intro w m;induction m generalizing w with
 |zero=>
  intro e _;rw[length_eq_zero_iff.mp e];exact(0,[],h.t0,h.w0,pE)
 |succ m u=>
  intro e hw;obtain⟨c,v,rfl⟩:∃c v,w=v++[c]:=(w.getLast (by intro z;rw[z]at e;cases e),w.dropLast,(List.dropLast_concat_getLast _).symm);have y:∀x∈v,x∈L:=λx d=>hw x (by simp[d]);have l:c∈L:=hw c (!1);obtain⟨r,a,i,t,E⟩:=u v (by simpa using e) y;have A:=(l' i).1;have f:L.idxOf c<L.length:=idxOf_lt_length_of_mem l;obtain⟨j,b,q,p,o⟩:=h.fin r (L.idxOf c) _ a (.inl A) f i t;have D:L.getD (L.idxOf c) 0=c:=by rw[m8,j1 f];exact getElem_idxOf f
  rw[D]at o;obtain⟨C,_⟩:=h.lead r _ a i t;refine(j,b,by rw[DI];exact q,p,?_);obtain⟨B,_⟩:=h.lead j _ b q p;refine dX (b:=a++[c]) B (λx d=>?_) o (gu c E);rcases mem_append.mp d with d|d
  .exact C x d
  .rw [uN d];exact l
noncomputable def vS(U ts:List κ):Nat:=U.countP λx=>!decide (x∈ts)
theorem cu{U ts:List κ}{x:κ}(b:x∈U)(a:x∉ts):vS U (ts++[x])<vS U ts:=by
 refine Dx (λz hz h=>?_) (x,b,?_,?_)
 .simp only[not_eq_true',decide_eq_false_iff_not]at h⊢;exact λq=>h (mem_append_left _ q)
 .simp only[not_eq_true',decide_eq_false_iff_not];exact a
 .simp only[Bool.not_eq_false',decide_eq_true_eq];exact mem_append_right _ (mem_singleton.mpr rfl)
end
end RA
namespace L2
open PySem PySem.Spec PyProof.Rows
structure wW(N ps fr:List Str)(sc:Scope):Prop where
 kind:sc.kind=.function
 co:sc.isCoroutine=false
 gen:sc.isGenerator=false
 nd:N.Nodup
 pre:N.take ps.length=ps
 suf:N.drop (N.length-fr.length)=fr
 fit:ps.length+fr.length≤N.length
 par:∀x∈ps,sc.names.lookup x<*.local
 nocell:∀y∈sc.names,y.2≠.cell
structure vb(h:Heap)(clos:List (Str×Addr))(sc:Scope)(fr:List Str)(fvs:List V):Prop where
 inj:∀y z c,clos.lookup y<*c->clos.lookup z<*c->y=z
 has:∀y∈sc.names,y.2=.free->∃c,clos.lookup y.1<*c
 cell:∀y c,clos.lookup y<*c->∃v,h.IsCell c v
 len:fvs.length=fr.length
 val:∀(i:Nat)(y:Str)(v:V),fr[i]?<*y->fvs[i]?<*v->(sc.names.lookup y<*.free)/\∃c u,clos.lookup y=some c/\h.IsCell c (some u)/\ad v u
noncomputable def bh(CX:CXT)(P:Program)(w:World)(K:Frag)(mg:Str->Option Value)(base:Heap)(N:List Str)(qual:Str)(scope:Scope)(f:Addr)(cd:Value)(clos:List (Str×Addr))(A:Around)(outer:List Env)(s:Shared)(H:Hp)(E:XK):Cx where
 prog:=P
 w:=w
 K:=K
 mg:=mg
 base:=base
 A:=A.deeper (envX qual scope s⁻¹ f cd clos)
 N:=N
 s₀:=s
 H₀:=H
 env:=envX qual scope s⁻¹ f cd clos
 outer:=outer
 stack:=envX qual scope s⁻¹ f cd clos::outer
 ex:=[]
 calm:=true
 fn:=λ_=>false
 pn:=[]
 xe:=λe s'=>wpAny (model P w) (A.deeper (envX qual scope s⁻¹ f cd clos)) (leaving (envX qual scope s⁻¹ f cd clos) e) (λ_ s''=>CX outer H s E e s'') (λe' s''=>CX outer H s E e' s'') s'
noncomputable def xx(N:List Str)(vs fvs:List V):St:=vs.map some++(replicate (N.length-vs.length-fvs.length) none++fvs.map some)
theorem oQ:∀{ps:List Str}{a:List Value}{i:Nat},ps.Nodup->ps[i]?<*x->a[i]?<*v->(ps.zip a).reverse.lookup x<*v:=by
 intro ps a i g h1 h2;have h:(x,v,)∈(ps.zip a).reverse:=by
  rw[List.mem_reverse];have hz:(ps.zip a)[i]?<*(x,v,):=by rw[getElem?_zip_eq_some];exact(h1,h2)
  exact uM hz
 have c:∀b,(x,b,)∈(ps.zip a).reverse->b=v:=λb d=>by
  rw[List.mem_reverse]at d;obtain⟨j,f⟩:=mem_iff_getElem?.mp d;rw[getElem?_zip_eq_some]at f;have e:j=i:=vr g f.1 h1;subst e;have:=f.2;rw[h2]at this;exact(Option.some.inj this).symm
 cases e:(ps.zip a).reverse.lookup x with
 |none=>
  have:=List.lookup_eq_none_iff.mp e _ h;simp at this
 |some b=>rw[c b (PySem.mem_of_lookup e)]
section
variable{CX:CXT}{P:Program}{w:World}{K:Frag}{mg:Str->Option Value}{base:Heap}{N ps fr:List Str}{qual:Str}{scope:Scope}{f:Addr}{cd:Value}{clos:List (Str×Addr)}{A:Around}{outer:List Env}{s:Shared}{H:Hp}{E:XK}{us:List Value}{vs fvs:List V}
theorem EX(S:wW N ps fr scope)(C:vb base clos scope fr fvs)(G:A.handled=none)(d:bn P w K mg base A outer s H)(R:vs.length=ps.length)(r:ac vs us)(D:h'.Ns s⁻¹ (λx=>(ps.zip us).reverse.lookup x))(t:SameBut s⁻¹ (s.heap.push {cls:=.type "frame",data:=.dict #[]}) h'):f' (bh CX P w K mg base N qual scope f cd clos A outer s H E) [] (xx N vs fvs) H {s with heap:=h',toks:=Y}:=by
 have F:∀b o,s.heap.get? b<*o->h'.get? b<*o:=λb o e=>t.extBut b o (ne_of_lt (lt_size e)) (nb _ e);have j:∀b:Addr,b∉(bh CX P w K mg base N qual scope f cd clos A outer s H E).ex:=λb z=>absurd (show b∈([]:List Addr)from z) (!1);have g:∀c v,base.IsCell c v->h'.IsCell c v:=λc v I=>by obtain⟨o,B,G⟩:=I;exact(o,F c o (d.bs c o B).1,G)
 have O:us.length=ps.length:=by rw[<-r.length];exact R
 have J:=S.fit;have T:=C.len;refine((d.mod,S.kind,rfl,rfl,le_refl _,λy z c h1 h2=>C.inj y z c h1 h2,λy k=>?_,λy c h=>absurd (show false=true from h) Bool.false_ne_true,λ_=>G,Around.frames_deeper d.frames,.inr (rfl,rfl),λb z=>absurd z (j b),d.bs,d.bsz,λb _ _=>j b,λb z=>absurd z (j b),d.funs,d.frf),
  rfl,d.bare,Un.kept F,(_,D,λi y v h1 h2 h3=>?_),λy c h=>?_,d.hok.fresh (le_refl _),λy c h=>?_,λp hp=>absurd (show p∈([]:List (Addr×Obj))from hp) (!1),d.hok.kept F,?_)
 .have k:scope.names.lookup y<*.cell\/scope.names.lookup y<*.free:=k;rcases k with k|k
  .exact absurd rfl (S.nocell _ (PySem.mem_of_lookup k))
  .exact C.has _ (PySem.mem_of_lookup k) rfl
 .have h1:N[i]?<*y:=h1;have Z:i<N.length:=(l' h1).1;unfold xx at h2;by_cases m:i<vs.length
  .have W:vs[i]?<*v:=by
    rw[getElem?_append_left (by simpa using m),n']at h2;cases e:vs[i]? with
    |none=>rw[e]at h2;cases h2
    |some a=>rw[e]at h2;cases h2;rfl
   obtain⟨u,Q,L⟩:=r.get W;have hp:ps[i]?<*y:=by
    rw[<-S.pre,List.getElem?_take_of_lt (!6)];exact h1
   have n:ps.Nodup:=by rw[<-S.pre];exact S.nd.sublist (List.take_sublist _ _)
   exact(u,L,.inl (S.par y (uM hp),oQ n hp Q))
  .rw [getElem?_append_right (by simpa using m)]at h2;rw[j_]at h2;by_cases l:i-vs.length<N.length-vs.length-fvs.length
   .rw [getElem?_append_left (by simpa using l),List.getElem?_replicate,if_pos l]at h2;cases h2
   .rw [getElem?_append_right (by simpa using l),length_replicate,n']at h2;have X:i-vs.length-(N.length-vs.length-fvs.length)=i-(N.length-fr.length):=by lia
    rw[X]at h2;cases e:fvs[i-(N.length-fr.length)]? with
    |none=>rw[e]at h2;cases h2
    |some a=>
     rw[e]at h2;cases h2;have U:fr[i-(N.length-fr.length)]?<*y:=by
      have q:(N.drop (N.length-fr.length))[i-(N.length-fr.length)]?<*y:=by
       rw[List.getElem?_drop,show N.length-fr.length+(i-(N.length-fr.length))=i by omega];exact h1
      rw[S.suf]at q;exact q
     obtain⟨k1,c,u,k2,k3,M⟩:=C.val _ _ _ U e;exact(u,M,.inr (.inr k1,c,k2,g c _ k3))
 .obtain ⟨v,z⟩:=C.cell y c h;exact(v,g c v z)
 .obtain ⟨v,o,B,_⟩:=C.cell y c h;exact(d.bs c o B).2
 .unfold xx;show _=N.length;simp only[uA,j_,length_replicate];lia
theorem zV(ho:base.get? f<*o)(hd:o.data=.func (PySem.W.fnX name qual d g scope clos .none .none doc pm none (.ref j) T))(O:base.CodeRec (.ref j) qual)(S:wW N ps fr scope)(C:vb base clos scope fr fvs)(len:∀vs H Q E,U vs H Q E->vs.length=ps.length)(i:∀(A:Around)(outer:List Env)(s:Shared)(H:Hp)(vs:List V)(Q:VK)(E:XK),ah k (A.deeper (envX qual scope s⁻¹ f (.ref j) clos))->U vs H Q E->
   ∃t,vH (bh nq P w K mg base N qual scope f (.ref j) clos A outer s H E).nox g t/\t {nx:=λ_ H'=>Q .non H',rt:=Q} (xx N vs fvs) H):aa P w K mg base nq (k+1) f (PySem.W.fnX name qual d g scope clos .none .none doc pm none (.ref j) T) ps U:=by
 refine(len,λA outer s H Z us vs Q E G B hb r m=>?_);have Y:=len _ _ _ _ m;have F:s.heap.NoLimit:=B.mod.nolimit.keeps λb o e=>(B.bs b o e).1;have ab:us.length=ps.length:=by rw[<-r.length];exact Y
 have h:∀y∈ps.zip us,scope.names.lookup y.1<*.local:=λR hy=>by obtain⟨n,v⟩:=R;exact S.par n (of_mem_zip hy).1
 have x:s.heap.CodeRec (.ref j) qual:=by
  obtain⟨c,X,ws,t,e1,e2,e3,e4⟩:=O;exact(c,X,ws,t,e1,(B.bs c X e2).1,e3,e4)
 refine codeAny_call_function G.depth (B.bs f o ho).1 hd S.co S.gen rfl x (hb _ _ _ _ ?_);refine wpAny_newFunctionEnv (closure:=clos) (around:=none) S.nocell h (λh' L p=>?_) S.kind;have M:∀b o,s.heap.get? b<*o->h'.get? b<*o:=λb o e=>p.extBut b o (ne_of_lt (lt_size e)) (nb _ e);refine(F.keeps M,codeAny_func ?_);obtain⟨t,ht,hq⟩:=i A outer s H vs Q E (G.deeper _) m;have I:f' (bh nq P w K mg base N qual scope f (.ref j) clos A outer s H E) [] (xx N vs fvs) H {s with heap:=h',toks:=s.toks+(ps.zip us).length}:=EX S C G.hd B Y r L p;refine wpAny_mono (ht.nox [] _ (xx N vs fvs) H _ I hq) (λfl s' l=>?_) λe s' l=>l;have z:∀{a:St}{H':Hp}{v:V}{u:Value},f' (bh nq P w K mg base N qual scope f (.ref j) clos A outer s H E) [] a H' s'->ad v u->Q v H'->CE outer P w H s Q u s':=
  λ{a H' v u}J D q=>(v,H',J.os,J.bare,J.base,J.hok,D,q)
 cases fl with
 |ret u=>
  obtain⟨v,a,H',J,D,q⟩:=l;exact z J D q
 |next=>
  obtain⟨a,H',J,q⟩:=l;exact z (v:=V.non) (u:=Value.none) J rfl q
 |brk=>
  obtain⟨_,_,_,q⟩:=l;exact False.elim q
 |cont=>
  obtain⟨_,_,_,q⟩:=l;exact False.elim q
end
noncomputable def qq(i:Nat)(f:Addr)(sp:Sp)(t:TA):TE:=λσ H Q=>σ[i]?=some (some (.ref f))/\t σ H λvs H1=>sp vs H1 Q E0
theorem B3{X:Cx}{k i:Nat}{f:Addr}{u b:FuncData}{d:Value}{p pos:Pos}(F:aa X.prog X.w X.K X.mg X.base nq k f u ps B)(G:ah k X.A)(o:X.base.get? f<*(d,n,.func b,m))(M:vw X.K u ps [])(E:PE X (.Name x p) (aL i))(N:PA X (e::c) t)(L:starEach (e::c) X.env=(false,eval e X.env,)::starEach c X.env:=by rfl)(g:(backTo pos (starEach c X.env)).any (·.1)=false:=by rfl):PE X (.Call (.Name x p) (e::c) [] pos) (qq i f B t):=by
 intro a s l H Q I h;refine wpAny_Call_Name_kw (n0 (E a s l H (λv j=>v=.ref f/\j=H) I (_,h.1,rfl,rfl)) λO C J=>?_);obtain⟨v,j,z,D,rfl,rfl⟩:=J;obtain rfl:O=.ref f:=D;refine PySem.W.callWith_F (d,n,b,m,(z.bs f _ o).1) (n0 (N pos a C l j _ z h.2) λR s2⟨P,S,y,r,q⟩=>((d,n,b,m,(y.bs f _ o).1),?_)) L g;exact mn F G M .nil jq y r (by rw[append_nil];exact q)
theorem c6(q:Pos)(r:List Value)(l:List Value)(h:TriplesOk l):codeAmong q (l++r)=(codeAmong q l).or (codeAmong q r):=by
 induction l using TriplesOk.induct with
 |case1=>simp[codeAmong]
 |case2 a t b u c rest d=>
  have h:TriplesOk rest:=h;simp only[cons_append,codeAmong];split
  .rfl
  .exact d h
 |case3 l h1 h2=>
  exfalso;unfold TriplesOk at h;split at h
  .exact h1 rfl
  .exact h2 _ _ _ _ _ _ rfl
  .exact h
theorem EY(x y:Int)(t u:Tok)(c:Value)(l:List Value)(h:TriplesOk l):TriplesOk (l++[.int x t,.int y u,c]):=by
 induction l using TriplesOk.induct with
 |case1=>exact True.intro
 |case2 a t b u c rest d=>exact d h
 |case3 l h1 h2=>
  exfalso;unfold TriplesOk at h;split at h
  .exact h1 rfl
  .exact h2 _ _ _ _ _ _ rfl
  .exact h
noncomputable def k_(c:Addr)(q:Str):HO:=.ext λh=>h.CodeRec (.ref c) q
noncomputable def tj(f:Addr)(name qual:Str)(params:Arguments)(body:List Stmt)(scope:Scope)(clos:List (Str×Addr))(c:Addr):HO:=.ext λh=>∃doc pm ctv,h.get? f<*fnMade name qual params body scope clos doc pm c ctv
noncomputable def vL(H:Hp)(P0:Addr)(sites:List (Pos×Str)):Prop:=
 ∃ps,H P0=some (.tbl ps)/\TriplesOk ps.toList/\∀q∈sites,codeAmong q.1 ps.toList=none\/∃c,codeAmong q.1 ps.toList=some (.ref c)/\H c<*(k_ c q.2)
noncomputable def wv(P0:Addr)(H H':Hp):Prop:=∀b o,b≠P0->H b<*o->H' b<*o
structure xi(h:Heap)(mg:Str->Option Value):Prop where
 ex:∃bm o,mg "__builtins__"=some (.ref bm)/\bm≠builtinsNs/\bm≠mainGlobals/\h.get? bm=some o/\o.cls=.type "module"/\o.dict=some builtinsNs/\o.data=.plain
noncomputable def rR(X:Cx)(P0:Addr)(sites:List (Pos×Str))(i:Nat)(name qual:Str)(params:Arguments)(body:List Stmt)(sc:Scope):TS:=λD σ H=>vL H P0 sites/\
 ∀(clos:List (Str×Addr))(f c:Addr)(H1:Hp),(∀y a,clos.lookup y<*a->X.env.cells.lookup y<*a)->(∀y∈sc.names,y.2=.free->∃a,clos.lookup y.1<*a)->H f=none->f≠c->wv P0 H H1->vL H1 P0 sites->
  H1 c<*k_ c qual->H1 f<*tj f name qual params body sc clos c->D.nx (σ.set i (some (.ref f))) H1
theorem cQ(x:h.CodeRec (.ref c) q):uS P w H h c (k_ c q):=by
 obtain⟨i,a,d,t,e,b,g,f⟩:=id x;cases e;refine(x,(a,b),λh1 h2 y k=>?_);obtain⟨i,a,d,t,e,b,g,f⟩:=y;cases e;exact(_,a,d,t,rfl,k _ b,g,f)
theorem jG{P:Program}{w:World}(x:h.get? f<*fnMade name qual a i b g doc pm c l):uS P w H h f (tj f name qual a i b g c):=
 ((doc,pm,l,x),(_,x),λ_ _ j k=>by obtain⟨d,p,v,e⟩:=j;exact(d,p,v,k _ e))
theorem zx{X:Cx}{d:Arguments}{g:List Stmt}{sc:Scope}(hN:X.N.Nodup)(hi:X.N[i]?<*name)(hx:zd X.env.scope name)(G:X.env.code=.ref c)(hC:CodeHd X.base c P0)(hB:xi X.base X.mg)(ag:(pos,qual,)∈sites)(Q:∀q∈sites,q.1.line=pos.line->q.1.col=pos.col->q.2=qual)(hq:qualnameIn X.env name name=qual:=by rfl)(bo:d.defaults=[]:=by rfl)(bf:d.kw_defaults=[]:=by rfl)(ha:annTrees d none X.env=[]:=by rfl)(as:(sc.names.all λy=>y.2 != .free||X.env.scope.names.lookup y.1==some .cell)=true:=by rfl)(hf:X.fn name=true\/X.env.scope.names.lookup name<*.local:=by first|exact .inl rfl|exact .inr rfl):PS X (.FunctionDef name d g [] none [] sc none name pos) (rR X P0 sites i name qual d g sc):=by
 intro B s σ H D I h;obtain⟨⟨ps,hP,ht,L⟩,h⟩:=h;have bi:∀y∈sc.names,y.2=.free->X.env.kindOf y.1<*.cell:=λy hy e=>by
  have q:=all_eq_true.mp as y hy;rw[e]at q;simpa[Env.kindOf]using q
 obtain⟨m,J,U,Y⟩:=Cu (env:=X.env) (sc:=sc) λy hy e=>I.ok.has y.1 (.inl (bi y hy e));have aC:s.heap.get? P0<*tabObj ps:=I.hok P0 _ hP;have Z:P0<s⁻¹:=I.hok.lt hP;have T:s.heap.BuiltinsAt X.mg P0:=by
  obtain⟨bm,o,e1,e2,e3,e4,e5,e6,e7⟩:=hB.ex;refine(bm,o,e1,e2,e3,λz=>?_,(I.bs bm o e4).1,e5,e6,e7);have n:=(I.bs bm o e4).2;rw[z,hP]at n;cases n
 have ap:s.heap.Ns mainGlobals X.mg:=I.mod.glob.keeps I.bk;have bg:mainGlobals≠P0:=λz=>by
  obtain⟨o,es,ep,e,hd,_⟩:=ap;rw[z,aC]at e;cases e;cases hd
 have a4:=hC.keeps I.bk;refine PySem.W.nestDef_K bo bf ha ?_;rw[hq];have a5:∀{f:Addr}{s1:Shared}{P:Hp},f' X B σ P s1->D.nx (σ.set i (some (.ref f))) P->wpAny (model X.prog X.w) X.A (storeName X.env name (.ref f)) (λ_ a6=>SP X B D .next a6) X.xe s1:=λ{f s1 P}I1 q=>
  uX I1 hN hi hx (v:=.ref f) rfl (λs' I'=>(_,P,I',q)) hf
 have a7:∀{b:Addr}{u:HO},H b<*u->b<s⁻¹:=λe=>I.hok.lt e;rcases L _ ag with bd|⟨c0,aV,a0⟩
 .refine PySem.W.makeFunction_K (mg:=X.mg) J I.ok.glob ap G a4 aC ht bd bg T λj r doc h' tk a8 ar aU aM a9=>?_;have bV:P0≠j:=ne_of_lt (lt_of_lt_of_le Z ar);have C:s⁻¹<h'.objs.size:=lt_of_le_of_lt ar aU;have a3:P0≠h'.objs.size:=ne_of_lt (lt_trans Z C);have aA:j≠h'.objs.size:=ne_of_lt aU;generalize bl:h'.objs.size=f at a3 aA C⊢;have kp:∀b o,b≠P0->s.heap.get? b<*o->(h'.push (fnMade name qual d g sc m doc ((X.mg "__name__").getD .none) j r)).get? b<*o:=λb o k e=>nb _ (a8 b o k e);have aS:(h'.push (fnMade name qual d g sc m doc ((X.mg "__name__").getD .none) j r)).get? f<*fnMade name qual d g sc m doc ((X.mg "__name__").getD .none) j r:=by rw[<-bl];exact get?_push_size _ rfl
  have aT:(h'.push (fnMade name qual d g sc m doc ((X.mg "__name__").getD .none) j r)).CodeRec (.ref j) qual:=by
   obtain⟨c2,oc,vs,t,e,e1,e2,e3⟩:=aM;exact(c2,oc,vs,t,e,nb _ e1,e2,e3)
  have S:(h'.push (fnMade name qual d g sc m doc ((X.mg "__name__").getD .none) j r)).get? P0<*tabObj (ps++#[rawInt pos.line,rawInt pos.col,.ref j]):=nb _ a9;generalize h'.push (fnMade name qual d g sc m doc ((X.mg "__name__").getD .none) j r)=hh at kp aS aT S⊢;generalize an:ps++#[rawInt pos.line,rawInt pos.col,.ref j]=ps' at S;have aH:∀{b:Addr},b<s⁻¹->b≠j/\b≠f:=λk=>(ne_of_lt (lt_of_lt_of_le k ar),ne_of_lt (lt_trans k C));have O:∀{b:Addr},b<s⁻¹->b≠P0->upd (upd (upd H P0 (.tbl ps')) j (k_ j qual)) f (tj f name qual d g sc m j) b=H b:=λk T=>by
   rw[a_ (aH k).2,a_ (aH k).1,a_ T]
  have ab:∀{b:Addr},b≠P0->b≠j->b≠f->upd (upd (upd H P0 (.tbl ps')) j (k_ j qual)) f (tj f name qual d g sc m j) b=H b:=λh1 h2 h3=>by
   rw[a_ h3,a_ h2,a_ h1]
  have F:upd (upd (upd H P0 (.tbl ps')) j (k_ j qual)) f (tj f name qual d g sc m j) P0<*.tbl ps':=by rw[a_ a3,a_ bV,j']
  have E:upd (upd (upd H P0 (.tbl ps')) j (k_ j qual)) f (tj f name qual d g sc m j) j<*k_ j qual:=by rw[a_ aA,j']
  have M:upd (upd (upd H P0 (.tbl ps')) j (k_ j qual)) f (tj f name qual d g sc m j) f<*tj f name qual d g sc m j:=j';generalize upd (upd (upd H P0 (.tbl ps')) j (k_ j qual)) f (tj f name qual d g sc m j)=P at O ab F E M;have nP:∀{b:Addr},H b=none->b≠P0:=λn z=>by rw[z,hP]at n;cases n
  have x:∀{b:Addr}{u:HO},H b<*u->b≠P0->P b<*u:=λe k=>by rw[O (a7 e) k];exact e
  have p:∀{b:Addr}{u:HO},H b<*u->(∀ps,u≠.tbl ps)->P b<*u:=λe hu=>x e λz=>by
   rw[z,hP]at e;cases e;exact hu _ rfl
  have un:Un X.fs [] H P s.heap hh:=by
   refine(λb o e n _ _=>kp b o (nP n) e,λb o e n _ _=>(o.slots,kp b o (nP n) e),λb o e n _=>by rw[O (lt_size e) (nP n)];exact n,λb o e _=>?_,λb xs e=>p e (λ_ z=>nomatch z),λb o u e=>p e (λ_ z=>nomatch z),λb qs e=>?_)
   .by_cases k:b=P0
    .rw [k];exact(_,S)
    .exact (o,kp b o k e)
   .by_cases k:b=P0
    .rw [k,hP]at e;cases e;rw[k];exact(_,by rw[F,an])
    .exact (#[],by rw[x e k];simp)
  have aN:uO X.prog X.w P hh:=λa o e=>by
   by_cases a1:a=f
   .rw [a1]at e⊢;rw[M]at e;cases e;exact jG aS
   by_cases a2:a=j
   .rw [a2]at e⊢;rw[E]at e;cases e;exact cQ aT
   by_cases aB:a=P0
   .rw [aB]at e⊢;rw[F]at e;cases e;exact S
   rw[ab aB a2 a1]at e;refine(I.hok a o e).stay (λb u k q=>kp b u (λz=>?_) q) (λb q=>p q (λ_ z=>nomatch z)) λb xs q=>p q (λ_ z=>nomatch z);rcases k with k|k
   .exact aB (k▸z)
   .rw [z,hP]at k;cases k
  have I1:f' X B σ P {s with heap:=hh,toks:=tk}:=I.un un aN;refine a5 I1 (h m f j P U Y (I.hok.fresh (le_of_lt C)) (Ne.symm aA) (λb o k e=>x e k) (ps',F,?_,λq R=>?_) E M)
  .rw [<-an,Array.toList_append];exact EY _ _ _ _ _ _ ht
  .rw [<-an,Array.toList_append,c6 _ _ _ ht];rcases L q R with hn|⟨c1,h1,h2⟩
   .rw [hn,Option.none_or];by_cases l:q.1.line=pos.line/\q.1.col=pos.col
    .refine .inr (j,?_,?_)
     .show codeAmong q.1 [rawInt pos.line,rawInt pos.col,.ref j]=_;simp[codeAmong,rawInt,l.1,l.2]
     .rw [Q q R l.1 l.2];exact E
    .refine .inl ?_;show codeAmong q.1 [rawInt pos.line,rawInt pos.col,.ref j]=_;simp only[codeAmong,rawInt];rw[if_neg];intro z;simp at z;exact l (!6,!6)
   .rw [h1,Option.some_or];exact .inr (c1,rfl,p h2 (λ_ z=>nomatch z))
 .refine PySem.W.makeFunction_hit (mg:=X.mg) J I.ok.glob ap G a4 aC ht aV T λr doc h' tk hk hsz=>?_;have I1:f' X B σ (upd H h'.objs.size (tj h'.objs.size name qual d g sc m c0)) {s with heap:=h'.push (fnMade name qual d g sc m doc ((X.mg "__name__").getD .none) c0 r),toks:=tk}:=
   I.laid (λb u e=>nb _ (hk b u e)) hsz (jG (get?_push_size _ rfl))
  have az:H h'.objs.size=none:=I.hok.fresh hsz;have kH:∀{b:Addr}{u:HO},H b<*u->upd H h'.objs.size (tj h'.objs.size name qual d g sc m c0) b<*u:=λe=>by rw[a_ (f_ e az)];exact e
  refine a5 I1 (h m _ c0 _ U Y az (Ne.symm (f_ a0 az)) (λb o _ e=>kH e) (ps,kH hP,ht,λq R=>?_) (kH a0) j');rcases L q R with hn|⟨c1,h1,h2⟩
  .exact .inl hn
  .exact .inr (c1,h1,kH h2)
noncomputable def uD(U:List Addr)(H:Hp):Hp:=λb=>if b∈U then none else H b
noncomputable def retr(U:List Addr)(H H':Hp):Hp:=λb=>if b∈U then H b else H' b
theorem B4(h:b∈U):uD U H b=none:=if_pos h
theorem vC(h:b∉U):uD U H b=H b:=if_neg h
theorem AJ(h:b∈U):retr U H H' b=H b:=if_pos h
theorem xM(h:b∉U):retr U H H' b=H' b:=if_neg h
theorem Mod.keeps{K:Frag}(M:Mod K mg h)(k:∀b o,h.get? b<*o->h'.get? b<*o):Mod K mg h':=
 (M.kin.keeps k,M.glob.keeps k,let⟨c,a,b⟩:=M.blt;(c,a.keeps k,b),M.nolimit.keeps k)
section
variable{P:Program}{w:World}{K:Frag}{mg:Str->Option Value}{base:Heap}{A:Around}{outer:List Env}{s:Shared}{H:Hp}{U:List Addr}
theorem eP(f:bn P w K mg base A outer s H)(l:∀u∈U,∃φ,H u<*.ext φ):∃c,bn P w K mg c A outer s (uD U H)/\(∀b o,base.get? b<*o->c.get? b<*o)/\∀b o,s.heap.get? b<*o->b∉tf outer->uD U H b=none->c.get? b<*o:=by
 have h:∀b o,s.heap.get? b<*o->b∉tf outer->uD U H b=none->(hideAll s.heap (Ay s.heap (uD U H)++tf outer)).get? b<*o:=λb o e r p=>hideAll_get _ e λk=>by
  rcases mem_append.mp k with z|z
  .have q:((uD U H) b).isSome=true:=(mem_filter.mp z).2;rw[p]at q;cases q
  .exact r z
 have g:∀b,H b=none->b∉U:=λb n z=>by
  obtain⟨φ,e⟩:=l b z;rw[n]at e;cases e
 have sub:∀b o,base.get? b<*o->(hideAll s.heap (Ay s.heap (uD U H)++tf outer)).get? b<*o:=λb o e=>by
  obtain⟨j,n⟩:=f.bs b o e;refine h b o j (λz=>?_) (by rw[vC (g b n)];exact n);have:=(f.funs.mem z).1;rw[e]at this;cases this
 have d:∀{b:Addr}{u:HO},H b<*u->(∀φ,u≠.ext φ)->uD U H b<*u:=λ{b u}e m=>by
  rw[vC λz=>?_]
  .exact e
  .obtain ⟨φ,e'⟩:=l b z;rw[e]at e';exact m φ (Option.some.inj e')
 refine(hideAll s.heap (Ay s.heap (uD U H)++tf outer),(f.frames,f.mod.keeps sub,λb o e=>?_,le_of_eq (PySem.W.hideAll_size _ _),Bo f.funs λb i=>mem_append_right _ i,λb i=>?_,λa o e=>?_,f.bare),sub,h)
 .have j:=of_hideAll _ e;refine(j,?_);cases q:uD U H b with
  |none=>rfl
  |some u=>
   have k:b∈Ay s.heap (uD U H)++tf outer:=mem_append_left _ (mem_filter.mpr (mem_range.mpr (lt_size j),by simp[q]));rw[hideAll_none _ k]at e;cases e
 .rw [vC (g b (f.frf b i))];exact f.frf b i
 .have t:a∉U:=λz=>by rw[B4 z]at e;cases e
  rw[vC t]at e;exact(f.hok a o e).stay (λ_ _ _ q=>q) (λb q=>d q (λ_ z=>nomatch z)) λb xs q=>d q (λ_ z=>nomatch z)
theorem bQ(D:bn P w K mg base A outer s H)(B:∀u∈U,∃φ,H u<*.ext φ)(h:CE outer P w (uD U H) s (λv F=>(∀u∈U,F u=none)->Q v (retr U H F)) u s'):CE outer P w H s Q u s':=by
 obtain⟨v,H',os,t,j,C,r,q⟩:=h;have d:∀b,H b=none->b∉U:=λb n z=>by
  obtain⟨φ,e⟩:=B b z;rw[n]at e;cases e
 have l:∀b∈U,b∉tf outer:=λb c z=>d b (D.frf b z) c;have f:∀b∈U,∃o,s.heap.get? b=some o/\s'.heap.get? b=some o/\H' b=none:=λb c=>by
  obtain⟨φ,e⟩:=B b c;obtain⟨_,⟨o,p⟩,_⟩:=D.hok b _ e;exact(o,p,j.keep b o p (B4 c) (l b c) (!1),j.free b o p (B4 c) (!1))
 have g:∀{b:Addr}{x:HO},H b<*x->(∀φ,x≠.ext φ)->b∉U:=λ{b x}e k z=>by
  obtain⟨φ,e'⟩:=B b z;rw[e]at e';exact k φ (Option.some.inj e')
 have i:∀{b:Addr}{x:HO},H' b<*x->retr U H H' b<*x:=λ{b x}e=>by
  rw[xM λz=>?_]
  .exact e
  .obtain ⟨_,_,_,n⟩:=f b z;rw[e]at n;cases n
 refine(v,retr U H H',os,t,(λb o e n c k=>?_,λb o e n c k=>?_,λb o e n k=>?_,j.there,λb xs e=>?_,λb o x e=>?_,λb ps e=>?_),λa o e=>?_,r,q λb c=>(f b c).choose_spec.2.2)
 .exact j.keep b o e (by rw[vC (d b n)];exact n) c k
 .exact j.slot b o e (by rw[vC (d b n)];exact n) c k
 .rw [xM (d b n)];exact j.free b o e (by rw[vC (d b n)];exact n) k
 .have c:=g e (λ_ z=>nomatch z);rw[xM c];exact j.tups b xs (by rw[vC c];exact e)
 .have c:=g e (λ_ z=>nomatch z);rw[xM c];exact j.frzs b o x (by rw[vC c];exact e)
 .have c:=g e (λ_ z=>nomatch z);rw[xM c];exact j.tbls b ps (by rw[vC c];exact e)
 .by_cases y:a∈U
  .rw [AJ y]at e;obtain⟨φ,e'⟩:=B a y;rw[e']at e;cases e;obtain⟨o,p,m,_⟩:=f a y;obtain⟨G,_,E⟩:=D.hok a _ e';exact(E _ _ G (λI z=>by rw[p]at z;cases z;exact m),(o,m),E)
  .rw [xM y]at e;exact(C a o e).stay (λ_ _ _ z=>z) (λb z=>i z) λb xs z=>i z
end
structure AX(X:Cx)(U:List Addr)(σ:St)(H:Hp)(base':Heap):Prop where
 sub:∀b o,X.base.get? b<*o->base'.get? b<*o
 mod:Mod X.K X.mg base'
 ext:∀u φ,u∈U->H u<*.ext φ->φ base'
 inj:∀y z c,X.env.cells.lookup y<*c->X.env.cells.lookup z<*c->y=z
 cell:∀y c,X.env.cells.lookup y<*c->∃v,base'.IsCell c v
 val:∀(i:Nat)(y:Str)(v:V),X.N[i]?<*y->σ[i]?<*some v->X.env.scope.names.lookup y<*.cell->∃c u,X.env.cells.lookup y=some c/\base'.IsCell c (some u)/\ad v u
noncomputable def rL(X:Cx)(f:Addr)(fd:FuncData)(ps:List Str)(dvs:List V)(t:TA):TE:=λσ H Q=>t σ H λvs H1=>∃U:List Addr,(∀u∈U,∃φ,H1 u<*.ext φ)/\∀base':Heap,AX X U σ H1 base'->
 ∃(k:Nat)(sp:Sp),ah k X.A/\aa X.prog X.w X.K X.mg base' nq k f fd ps sp/\sp (vs++dvs) (uD U H1) (λv H2=>(∀u∈U,H2 u=none)->Q v (retr U H1 H2)) E0
theorem Bw{X:Cx}{f:Addr}{p pos:Pos}(hg:Gl X x)(hm:X.mg x<*.ref f)(hk:keepIn X.K (.ref f)=true)(hb:vw X.K fd ps ds)(hd:ac dvs ds)(ha:PA X (e::D) t)(M:∀y,X.fn y=true)(O:(x==("__debug__":Str))=false:=by decide)(he:starEach (e::D) X.env=(false,eval e X.env,)::starEach D X.env:=by rfl)(G:(backTo pos (starEach D X.env)).any (·.1)=false:=by rfl):PE X (.Call (.Name x p) (e::D) [] pos) (rL X f fd ps dvs t):=by
 intro n s R H Q I h;refine wpAny_Call_Name_kw (uB I hg hm ?_ O);refine callWith_K (h₀:=X.base) I.ok.mod.kin hk (n0 (ha pos n s R H _ I h) λl E⟨S,H1,b,r,q⟩=>(b.kIn,?_)) he G;obtain⟨U,hU,q⟩:=q;obtain⟨a,e0,w,j⟩:=eP b.env0 hU;have d:∀y c v,X.env.cells.lookup y<*c->E.heap.IsCell c v->a.IsCell c v:=λy c v g P=>by
  obtain⟨o,Y,N⟩:=P;have Z:=b.freeC y c g;refine(o,j c o Y (λz=>?_) ?_,N)
  .rcases mem_cons.mp (b.stkSub c z)with z|z
   .exact b.cne y c g z
   .obtain ⟨_,o',J,_⟩:=b.ok.funs.mem z;exact absurd (lt_size J) (not_lt.mpr (b.ok.cab y c (M y) g))
  .unfold uD;split
   .rfl
   .exact Z
 have W:AX X U R H1 a:=by
  refine(w,e0.mod,λu φ hu e=>?_,b.ok.inj,λy c g=>?_,λi y v e1 e2 e3=>?_)
  .obtain ⟨p1,⟨o,Y⟩,p3⟩:=b.hok u _ e;refine p3 _ _ p1 λo2 z=>j u o2 z (λy=>?_) (B4 hu);rw[b.stkFree u y]at e;cases e
  .obtain ⟨v,z⟩:=b.cell y c g;exact(v,d y c v g z)
  .obtain ⟨m,Z,L⟩:=b.loc;obtain⟨u,ru,lk⟩:=L i y v e1 e2 (.inr (.inl e3));rcases lk with⟨k1,_⟩|⟨_,c,g,z⟩
   .have:X.env.scope.names.lookup y<*.local:=k1;rw[e3]at this;cases this
   .exact (c,u,g,d y c _ g z,ru)
 obtain⟨k,sp,hr,F,B⟩:=q a W;have T:ac (S++dvs) (l++ds):=r.append hd;have L:(l++ds).length=ps.length:=by rw[<-T.length];exact F.len _ _ _ _ B
 refine wpAny_call (codeAny_mono (F.run X.A X.stack E (uD U H1) (l,[]) (l++ds) (S++dvs) _ E0 hr e0 (hb E l b.kIn L) T B) λr s' C=>?_);cases r with
 |error e=>exact False.elim C
 |ok fl=>
  cases fl with
  |ret u=>exact b.after (bQ b.env0 hU C)
  |next=>exact False.elim C
  |brk=>exact False.elim C
  |cont=>exact False.elim C
noncomputable def wh(ts:List Addr)(K:Frag):Frag:=K.filter λq=>!ts.contains q.1
theorem Af{ts:List Addr}{a:Addr}(d:ts.contains a=false):∀{K:Frag},(wh ts K).lookup a=K.lookup a
 |[]=>rfl
 |(b,x)::r=>by
  unfold wh;rw[List.filter_cons];by_cases e:a=b
  .subst e;rw[if_pos (by simpa using d),lookup_cons,lookup_cons];simp
  .have c:(a==b)=false:=beq_eq_false_iff_ne.mpr e;split
   .rw [lookup_cons,lookup_cons,c];exact Af (K:=r) d
   .rw [lookup_cons,c];exact Af (K:=r) d
theorem CM{ts:List Addr}{a:Addr}{o:Obj}:∀{K:Frag},(wh ts K).lookup a<*o->ts.contains a=false
 |[],e=>by cases e
 |(b,x)::r,e=>by
  unfold wh at e;rw[List.filter_cons]at e;split at e
  .rename_i d;rw[lookup_cons]at e;by_cases c:a=b
   .subst c;simpa using d
   .rw [beq_eq_false_iff_ne.mpr c]at e;exact CM (K:=r) e
  .exact CM (K:=r) e
theorem EZ{K:Frag}(e:K.lookup a<*o)(b:ts.contains a=false):(wh ts K).lookup a<*o:=(Af b).trans e
theorem E1{K:Frag}(e:nsIn K a x=r)(b:ts.contains a=false):nsIn (wh ts K) a x=r:=by
 unfold nsIn at e⊢;rw[Af b];exact e
theorem E2{K:Frag}(e:codeIn K (.ref c) x=true)(a:ts.contains c=false):codeIn (wh ts K) (.ref c) x=true:=by
 unfold codeIn at e⊢;dsimp only at e⊢;rw[Af a];exact e
noncomputable def ef(K:Frag)(c P:Addr):Bool:=match K.lookup c with
 | some ⟨.type n,_,.fields vs,_⟩=>n=="code"&&c != P&&(match (vs[11]?:Option Value),(vs[18]?:Option Value),(vs[7]?:Option Value),(vs[9]?:Option Value),(vs[10]?:Option Value)with
   |some (.ref Q),some (.str _ _),some (.int _ _),some (.bool _),some (.int _ _)=>Q==P
   | _,_,_,_,_=>false)
 |_=>false
theorem iY{K:Frag}(X:K.In h)(e:ef K c P=true):CodeHd h c P:=by
 unfold ef at e;split at e
 .rename_i n dd d y l;have g:=X _ _ l;rw[and_eq_true,and_eq_true]at e;obtain⟨⟨w,r⟩,f⟩:=e;split at f
  .rename_i Q s t i u b j v h1 h2 q p o;have m:Q=P:=eq_of_beq f;subst m;have a:∀{k:Nat}{x:Value},d[k]?<*x->d.getD k .none=x:=λ{k x}z=>by
    rw[Array.getD_eq_getD_getElem?,z];rfl
   exact(_,d,s,t,i,u,b,j,v,g,by rw[eq_of_beq w],rfl,h1,a h1,a h2,a q,a p,a o,by simpa using r)
  .cases f
 .cases e
structure qd(K:Frag)(q:Addr×Addr):Prop where
 code:ef K q.1 q.2=true
 tab:K.lookup q.2<*(tabObj #[])
noncomputable def du(K:Frag)(tabs:List (Addr×Addr)):Sp:=λvs H Q _=>∃(a:Addr)(ns:List Int),vs=[.ref a]/\lb K H a (ns.map V.int)/\ns.length≤63/\(∀q∈tabs,H q.2<*(.tbl #[]))/\∀H',Q (.bl true) H'
theorem gI(x:CodeHd h c P)(k:∀o,o.cls=.type "code"->h.get? c<*o->h'.get? c<*o):CodeHd h' c P:=by
 obtain⟨o,i,d,m,a,l,f,b,j,e,g,r⟩:=x;exact(o,i,d,m,a,l,f,b,j,k o g e,g,r)
theorem kP{P:Program}{w:World}{K:Frag}(KX:K.In c.heap)(hT:∀q∈tabs,qd K q)(R:c.heap.Ns mainGlobals mg)(hB:xi c.heap mg)(i:c.heap.Ns builtinsNs mb)(ag:∀x:Str,x≠"__name__"->mb x=bootBuiltins x)(T:c.heap.NoLimit)(hg:c.gens=#[])(J:c.heap.get? a<*{cls:=.type "list",data:=.seq M.toArray})(hi:IntsAre M ns)(hl:ns.length≤63)(hr:ah k callerA)(F:∀base:Heap,(wh (tabs.map (·.2)) K).In base->base.Ns mainGlobals mg->xi base mg->(∀q∈tabs,CodeHd base q.1 q.2)->aa P w (wh (tabs.map (·.2)) K) mg base nq k fa fd [x] (du (wh (tabs.map (·.2)) K) tabs))(I:∀(s:Shared)(u:Value),BindsTo s fd ([u],[]) [(x,u,)]):codeAny (model P w) callerA (.call (.ref fa) ([.ref a],[])) (λr s'=>r=.ok (.ret (.bool true))/\OldK c.heap s'.heap/\s'.os=c.os/\AllBare s'.gens) c:=by
 have rv:=c_W hi;have O:=hi.length;have S:ns.length≤sizeLine:=le_trans hl (by rw[sizeLine_eq];decide);have j:∀q∈tabs,c.heap.get? q.2<*(tabObj #[]):=λq g=>KX _ _ (hT q g).tab;have hd:∀q∈tabs,CodeHd c.heap q.1 q.2:=λq g=>iY KX (hT q g).code;have inT:∀{b:Addr},(tabs.map (·.2)).contains b=true->∃q∈tabs,q.2=b:=λ{b}i=>by
  rw[contains_iff_mem]at i;obtain⟨q,g,e⟩:=mem_map.mp i;exact(q,g,e)
 have t:∀{q:Addr×Addr},q∈tabs->(tabs.map (·.2)).contains q.2=true:=λ{q}g=>by
  rw[contains_iff_mem];exact List.mem_map_of_mem g
 have aT:(tabs.map (·.2)).contains a=false:=by
  cases z:(tabs.map (·.2)).contains a with
  |false=>rfl
  |true=>
   obtain⟨q,g,e⟩:=inT z;have p:=j q g;rw[e,J]at p;cases p
 have E:∀H:Hp,lb (wh (tabs.map (·.2)) K) H a (ns.map V.int)->uO P w H c.heap->(∀b,H b=none\/(b=a/\K.lookup a=none/\H b<*.frz {cls:=.type "list",data:=.seq M.toArray} (.lst (ns.map V.int)))\/((tabs.map (·.2)).contains b=true/\H b<*(.tbl #[])))->
   (∀q∈tabs,H q.2<*(.tbl #[]))->
   codeAny (model P w) callerA (.call (.ref fa) ([.ref a],[])) (λr s'=>r=.ok (.ret (.bool true))/\OldK c.heap s'.heap/\s'.os=c.os/\AllBare s'.gens) c:=by
  intro H hS Q hO ap;have f:∀{b:Addr}{o:Obj},c.heap.get? b<*o->H b=none->(bH c.heap H).get? b<*o:=λe n=>ng e n;have freeOf:∀{b:Addr}{o:Obj},c.heap.get? b<*o->b≠a->o≠tabObj #[]->H b=none:=λ{b o}e G ab=>by
   rcases hO b with z|⟨z,_⟩|⟨z,_⟩
   .exact z
   .exact absurd z G
   .obtain ⟨q,g,D⟩:=inT z;have p:=j q g;rw[D,e]at p;exact absurd (Option.some.inj p) ab
  have A:∀{b:Addr}{m:Str->Option Value},c.heap.Ns b m->(bH c.heap H).Ns b m:=λ{b m}an=>by obtain⟨o,es,ep,e,d,r⟩:=an;exact(o,es,ep,f e (freeOf e (λz=>by rw[z,J]at e;cases e;cases d) (λz=>by rw[z]at d;cases d)),d,r)
  have W:(wh (tabs.map (·.2)) K).In (bH c.heap H):=λb o e=>by
   have hn:=CM e;have p:=KX b o ((Af hn).symm.trans e);refine f p ?_;rcases hO b with z|⟨z,N,_⟩|⟨z,_⟩
   .exact z
   .rw [Af hn,z,N]at e;cases e
   .rw [hn]at z;cases z
  have as:xi (bH c.heap H) mg:=by
   obtain⟨bm,o,p,D,e3,L,e5,e6,e7⟩:=hB.ex;exact(bm,o,p,D,e3,f L (freeOf L (λz=>by rw[z,J]at L;cases L;cases e7) (λz=>by rw[z]at e7;cases e7)),e5,e6,e7)
  have ar:∀q∈tabs,CodeHd (bH c.heap H) q.1 q.2:=λq g=>gI (hd q g) λo U e=>f e (freeOf e (λz=>by rw[z,J]at e;cases e;injection U with U;exact absurd U (!0)) (λz=>by rw[z]at U;cases U));have hM:Mod (wh (tabs.map (·.2)) K) mg (bH c.heap H):=(W,A R,(mb,A i,ag),let⟨mc,h1,h2⟩:=T;(mc,A h1,h2));have e0:bn P w (wh (tabs.map (·.2)) K) mg (bH c.heap H) callerA [] c H:=(rfl,hM,λb o e=>pc e,le_of_eq (lf _ _),trivial,λb i=>absurd (show b∈([]:List Addr)from i) (!1),Q,.of_eq hg);refine codeAny_mono ((F _ W (A R) as ar).run callerA [] c H ([.ref a],[]) [.ref a] [.ref a] (λv _=>v=.bl true) (λ_ _ _=>False) hr e0 (I c (.ref a)) (.cons rfl .nil) (a,ns,rfl,hS,hl,ap,λ_=>rfl)) λr s' h=>?_;cases r with
  |error e=>exact False.elim h
  |ok fl=>
   cases fl with
   |next=>exact False.elim h
   |brk=>exact False.elim h
   |cont=>exact False.elim h
   |ret u=>
    obtain⟨v,H',os,X,Z,C,r',q⟩:=h;have q':v=.bl true:=q;subst q';obtain rfl:u=Value.bool true:=r';refine(rfl,(λb o e=>?_,λb o e=>Z.there b o e (!1)),os,X);rcases hO b with z|⟨z1,_,z⟩|⟨z1,z⟩
    .exact .inl (Z.keep b o e z (by intro y;exact absurd (show b∈([]:List Addr)from y) (!1)) (!1))
    .obtain ⟨p,_⟩:=Q b _ z;obtain⟨D,_⟩:=C b _ (Z.frzs b _ _ z);rw[e]at p;cases p;exact .inl D
    .obtain ⟨q,g,D⟩:=inT z1;obtain⟨more,z3⟩:=Z.tbls b _ z;have e3:s'.heap.get? b<*{cls:=.none,data:=.fields (#[]++more)}:=C b _ z3;have L:=j q g;rw[D,e]at L;cases L;refine .inr (.inl (?_,rfl,#[],more,rfl,e3));have:=((hd q g).tab (j q g)).isCodeTable;rw[D]at this;exact this
 have Y:∀{H:Hp}{b:Addr},(tabs.map (·.2)).contains b=true->uS P w H c.heap b (.tbl #[]):=λ{H b}z=>by
  obtain⟨q,g,e⟩:=inT z;have p:=j q g;rw[e]at p;exact p
 cases hk:K.lookup a with
 |some o=>
  have e:=KX a o hk;rw[J]at e;cases e;refine E (λb=>if (tabs.map (·.2)).contains b=true then some (.tbl #[])else none) (.inr (_,M.toArray,_,(Af aT).trans hk,rfl,rfl,rfl,by rw[size_toArray,O];exact S,by simpa using rv)) (λb u z=>?_) (λb=>?_) (λq g=>if_pos (t g))
  .by_cases i:(tabs.map (·.2)).contains b=true
   .have B:=(if_pos i).symm.trans z;cases B;exact Y i
   .have B:=(if_neg i).symm.trans z;cases B
  .by_cases i:(tabs.map (·.2)).contains b=true
   .exact .inr (.inr (i,if_pos i))
   .exact .inl (if_neg i)
 |none=>
  refine E (λb=>if b=a then some (.frz {cls:=.type "list",data:=.seq M.toArray} (.lst (ns.map V.int)))else if (tabs.map (·.2)).contains b=true then some (.tbl #[])else none) (.inl (.inr ({cls:=.type "list",data:=.seq M.toArray},if_pos rfl))) (λb u z=>?_) (λb=>?_) (λq g=>?_)
  .by_cases i:b=a
   .have B:=(if_pos i).symm.trans z;cases B;subst i;exact(J,by rw[j_];exact S,M,_,rv,J)
   .have B:=(if_neg i).symm.trans z;by_cases l:(tabs.map (·.2)).contains b=true
    .have N:=(if_pos l).symm.trans B;cases N;exact Y l
    .have N:=(if_neg l).symm.trans B;cases N
  .by_cases i:b=a
   .exact .inr (.inl (i,hk,if_pos i))
   .by_cases l:(tabs.map (·.2)).contains b=true
    .exact .inr (.inr (l,(if_neg i).trans (if_pos l)))
    .exact .inl ((if_neg i).trans (if_neg l))
  .have G:q.2≠a:=λz=>by
    have:=t g;rw[z,aT]at this;cases this
   exact(if_neg G).trans (if_pos (t g))
theorem Ah{l:PySem.W.OpenLaw}{K:Params->Frag}(J:l.most<*63)(r:d.params.defaults=[])(I:ah k callerA)(O:∀p,∀q∈tabs,qd (K p) q)(F:∀(w:World)(mg:Str->Option Value)(fa:Addr)(h:Heap),(wh (tabs.map (·.2)) (K w.params)).In h->h.Ns mainGlobals mg->mg d.name<*.ref fa->
   ∃v:FuncData,(∀(s:Shared)(u:Value),BindsTo s v ([u],[]) [(x,u,)])/\∀base:Heap,(wh (tabs.map (·.2)) (K w.params)).In base->base.Ns mainGlobals mg->xi base mg->(∀q∈tabs,CodeHd base q.1 q.2)->
    aa l.prog w (wh (tabs.map (·.2)) (K w.params)) mg base nq k fa v [x] (du (wh (tabs.map (·.2)) (K w.params)) tabs)):PySem.W.WalkO q loose XP (λw h=>(K w.params).In h) l.row.toRowW d [] (λf B=>PySem.call f B):=by
 refine Att.wQ J r λw C c mg Z fa o pm cd doc a B ns G Y ho D M n j i m L=>?_;have E:(K w.params).In c.heap:=Y;have X:(wh (tabs.map (·.2)) (K w.params)).In c.heap:=λb o e=>E b o ((Af (CM e)).symm.trans e);obtain⟨v,N,P⟩:=F w mg fa _ X G.T.g n;obtain⟨bm,H,U,S,A,R,Q,y⟩:=G.T.bmain;have t:bm≠mainGlobals:=λz=>by
  obtain⟨o,es,ep,e,D,_⟩:=G.T.g;rw[z,e]at A;cases A;rw[D]at y;cases y
 exact kP E (O w.params) G.T.g (bm,H,U,S,t,A,R,Q,y) G.T.b G.T.builtins G.T.nolimit L j i m I P N
inductive Sd where
 |tx (x:Str) (k:Tok)|tp (a:Addr)|ls (a:Addr)
namespace Sd
noncomputable def vu:Sd->Value
 |.tx x t=>.str x t
 |.tp a=>.ref a
 |.ls a=>.ref a
noncomputable def pl:Sd->Addr->Nat->Heap->Prop
 |.tx x t,it,i,h=>ZP.xI x t it i h
 |.tp a,it,i,h=>h.IsTupleIter it a i
 |.ls a,it,i,h=>h.IsListIter it a i
noncomputable def it0:Sd->Obj
 |.tx x t=>ZP.zm x t
 |.tp a=>ZP.AH a
 |.ls a=>{cls:=.type "list_iterator",data:=.fields #[.ref a,.int 0 0]}
noncomputable def hp:Sd->Array Value->Heap->Prop
 |.tx _ _,_,_=>True
 |.tp a,its,h=>h.IsTuple a its
 |.ls a,its,h=>h.IsList a its
noncomputable def has:Sd->Hp->List V->Prop
 |.tx x _,_,xs=>xs=x.cps.toList.map λc=>V.str ⟨#[c]⟩
 |.tp a,H,xs=>H a<*.tup xs
 |.ls a,H,xs=>H a<*.lst xs
end Sd
theorem m7{d:Sd}(e:h.get? it<*d.it0):d.pl it 0 h:=by
 cases d with
 |tx x t=>exact(_,e,rfl,rfl)
 |tp a=>exact(_,e,rfl,rfl)
 |ls a=>exact(_,e,rfl,rfl)
theorem fQ(d:Sd):d.it0.isFreed=false:=by cases d<;>rfl
namespace ZP
noncomputable def bE(h:Heap)(o1 o2:Obj):Heap:=
 ((((h.push o1).push o2).push {cls:=.type "tuple",data:=.seq #[.ref h.objs.size,.ref (h.objs.size+1)]}).push {cls:=.type "tuple",data:=.seq #[.none,.none]}).push
  {cls:=.type "zip",data:=.fields #[.none,.bool false,.bool false,.ref (h.objs.size+2),.ref (h.objs.size+3)]}
section
variable{prog:Program}{w:World}{A:Around}{E:Value->Shared->Prop}{s:Shared}
theorem CN(c:s.heap.IsList a b)(h:Q (.ref s⁻¹) {s with heap:=s.heap.push (Sd.ls a).it0}):wpAny (model prog w) A (pyIter (.ref a)) Q E s:=wpAny_pyIter_list c h
theorem jA(h:Q (.ref s⁻¹) {s with heap:=s.heap.push (Sd.tx x t).it0}):wpAny (model prog w) A (pyIter (.str x t)) Q E s:=kU h
theorem CO(c:s.heap.IsTuple a b)(h:Q (.ref s⁻¹) {s with heap:=s.heap.push (Sd.tp a).it0}):wpAny (model prog w) A (pyIter (.ref a)) Q E s:=m6 c h
end
abbrev vT(d1 d2:Sd):Prop:=∀xs ys:Array Value,Meets (Builtin.«zip.__new__» ([.type "zip",d1.vu,d2.vu],[])) (λ_ R s=>d1.hp xs s.heap/\d2.hp ys s.heap/\R (.ok (.ret (.ref (s⁻¹+4)))) {s with heap:=bE s.heap d1.it0 d2.it0})
theorem Ai(x:Str)(t:Tok)(b:Addr):vT (.tx x t) (.tp b):=λxs ys=>.of_wp λprog w A R s h=>by
 obtain⟨hp,g,d,f,os⟩:=s;obtain⟨i,a,h⟩:=h;have c:=sub_zip;have a:(hp.push (Sd.tx x t).it0).IsTuple b ys:=IsTup.keeps a λo e=>nb _ e;show wpAny _ _ (Builtin.«zip.__new__» ([.type "zip",.str x t,.ref b],[])) _ _ _
 wp_walk using jA,CO a
 refine(_,rfl,?_);simp only[bE]at h;simpa[size_push,Builtin.SmallTypes.ownedTupleFields,Nat.add_assoc]using h
theorem Aj(x:Str)(t:Tok)(b:Addr):vT (.tx x t) (.ls b):=λxs ys=>.of_wp λprog w A R s h=>by
 obtain⟨hp,g,d,e,os⟩:=s;obtain⟨f,a,h⟩:=h;have c:=sub_zip;have a:(hp.push (Sd.tx x t).it0).IsList b ys:=Heap.IsList.push a _;show wpAny _ _ (Builtin.«zip.__new__» ([.type "zip",.str x t,.ref b],[])) _ _ _
 wp_walk using jA,CN a
 refine(_,rfl,?_);simp only[bE]at h;simpa[size_push,Builtin.SmallTypes.ownedTupleFields,Nat.add_assoc]using h
theorem Ak(a b:Addr):vT (.ls a) (.ls b):=λxs ys=>.of_wp λprog w A R s h=>by
 obtain⟨hp,g,d,i,os⟩:=s;obtain⟨e,c,h⟩:=h;have f:=sub_zip;have e:hp.IsList a xs:=e;have c:(hp.push (Sd.ls a).it0).IsList b ys:=Heap.IsList.push c _;show wpAny _ _ (Builtin.«zip.__new__» ([.type "zip",.ref a,.ref b],[])) _ _ _
 wp_walk using CN e,CN c
 refine(_,rfl,?_);simp only[bE]at h;simpa[size_push,Builtin.SmallTypes.ownedTupleFields,Nat.add_assoc]using h
section
variable{prog:Program}{w:World}{A:Around}{E:Value->Shared->Prop}{s:Shared}
theorem ww(M:vT d1 d2)(j:d1.hp xs s.heap)(i:d2.hp ys s.heap)(h:∀h',IsZip h' (s⁻¹+4) (s⁻¹+2) (s⁻¹+3) .none->IsPair h' (s⁻¹+2) (.ref s⁻¹) (.ref (s⁻¹+1))->IsPair h' (s⁻¹+3) .none .none->
   d1.pl s⁻¹ 0 h'->d2.pl (s⁻¹+1) 0 h'->(∀c o,s.heap.get? c<*o->h'.get? c<*o)->Q (.ref (s⁻¹+4)) {s with heap:=h'}):wpAny (model prog w) A (call (.type "zip") [d1.vu,d2.vu]) Q E s:=by
 refine callType_new F.called_zip (!0) (F.typeCall_zip_2 _ _) (F.newCall_zip_2 _ _) (λb=>F.args_object_init_3 b _ _) F.entry_zip_new (M xs ys) (j,i,?_);have a:∀(g:Heap)(o:Obj)(n:Nat),g.objs.size=n->o.isFreed=false->(g.push o).get? n<*o:=λg o n e f=>by rw[<-e];exact get?_push_size g f
 have d:IsZip (bE s.heap d1.it0 d2.it0) (s⁻¹+4) (s⁻¹+2) (s⁻¹+3) .none:=a _ _ _ (by simp[size_push]) rfl;exact((_,d,rfl),h _ d (nb _ (nb _ (a _ _ _ (by simp[size_push]) rfl))) (nb _ (a _ _ _ (by simp[size_push]) rfl))
  (m7 (nb _ (nb _ (nb _ (nb _ (a _ _ _ rfl (fQ _))))))) (m7 (nb _ (nb _ (nb _ (a _ _ _ (by simp[size_push]) (fQ _))))))
  λc o e=>nb _ (nb _ (nb _ (nb _ (nb _ e)))))
end
end ZP
noncomputable def zy(d1 d2:Sd):It:=⟨λi H=>∃xs ys a b,d1.has H xs/\d2.has H ys/\xs[i]?=some a/\ys[i]?<*b,λi H v H'=>∃p xs ys a b,d1.has H xs/\d2.has H ys/\xs[i]?=some a/\ys[i]?=some b/\v=.ref p/\H p=none/\H'=upd H p (.tup [a,b]),
 λi H=>∃xs ys,d1.has H xs/\d2.has H ys/\xs.length=ys.length/\i=xs.length⟩
theorem dE{d:Sd}(x:d.pl it i h):∃o,h.get? it=some o/\∀v,o.data≠.cell v:=by
 cases d with
 |tx y t=>obtain⟨o,e,_,dd⟩:=x;exact(o,e,λv q=>by rw[dd]at q;cases q)
 |tp a=>obtain⟨o,e,_,dd⟩:=x;exact(o,e,λv q=>by rw[dd]at q;cases q)
 |ls a=>obtain⟨o,e,_,dd⟩:=x;exact(o,e,λv q=>by rw[dd]at q;cases q)
theorem CP{d:Sd}(x:d.pl it i h)(k:∀o,h.get? it<*o->h'.get? it<*o):d.pl it i h':=by
 cases d with
 |tx y t=>obtain⟨o,e,r⟩:=x;exact(o,k o e,r)
 |tp a=>obtain⟨o,e,r⟩:=x;exact(o,k o e,r)
 |ls a=>obtain⟨o,e,r⟩:=x;exact(o,k o e,r)
theorem jj{g:St}{d:Sd}(I:f' X f g H s)(h:d.has H xs):∃b,d.hp b s.heap:=by
 cases d with
 |tx y t=>exact(#[],True.intro)
 |tp a=>
  obtain⟨b,_,p,_⟩:=I.tuple (pa.of (show H a=_ from h));exact(_,p)
 |ls a=>
  obtain⟨b,_,⟨o,n,e,c,_,dd⟩,_⟩:=I.list (lb.of (show H a=_ from h));exact(b.toArray,o,e,c,n,dd)
theorem CQ{X:Cx}{J:St}{d:Sd}(I:f' X G J H s)(F:A.handled=none)(h:d.has H xs)(l:H it=none)(hp:d.pl it i s.heap):∃f P S,Draws X.prog X.w A it f xs.length P S/\(∀c∈f,c=it\/∃u,H c<*u)/\S i s.heap/\(∀j g,S j g->d.pl it j g)/\∀j v x,P j v->xs[j]?<*x->ad x v:=by
 cases d with
 |tx y t=>
  have h:xs=y.cps.toList.map λc=>V.str ⟨#[c]⟩:=h;refine([it],λi v=>∃c u,y.cps[i]?=some c/\v=.str ⟨#[c]⟩ u,ZP.xI y t it,?_,λc B=>.inl (uN B),hp,λj g z=>z,λj v x k q=>?_)
  .have e:xs.length=y.cps.size:=by rw[h];simp
   rw[e];exact ZP.draws F it y t
  .obtain ⟨c,u,M,rfl⟩:=k;rw[h,n',getElem?_toList,M]at q;cases q;exact(u,rfl)
 |tp a=>
  obtain⟨b,r,p,_⟩:=I.tuple (pa.of (show H a=_ from h));have D:s.heap.IsTuple a b.toArray:=p;have m:a≠it:=λz=>by rw[<-z,show H a=_ from h]at l;cases l
  have e:xs.length=b.toArray.size:=by rw[r.length];simp
  refine([it,a],λi v=>b.toArray[i]?<*v,λi h=>h.IsTupleIter it a i/\h.IsTuple a b.toArray,by rw[e];exact bK F it a m b.toArray,λc B=>?_,(hp,D),λj g z=>z.1,λj v x k q=>?_)
  .rcases mem_cons.mp B with z|z
   .exact .inl z
   .rw [uN z];exact .inr (_,h)
  .obtain ⟨u,E,C⟩:=r.get q;have k:b.toArray[j]?<*v:=k;rw[getElem?_toArray,E]at k;cases k;exact C
 |ls a=>
  obtain⟨b,r,⟨o,n,L,N,_,dd⟩,_⟩:=I.list (lb.of (show H a=_ from h));have D:s.heap.IsList a b.toArray:=(o,L,N,n,dd);have m:a≠it:=λz=>by rw[<-z,show H a=_ from h]at l;cases l
  have e:xs.length=b.toArray.size:=by rw[r.length];simp
  refine([it,a],λi v=>b.toArray[i]?<*v,λi h=>h.IsListIter it a i/\h.IsList a b.toArray,by rw[e];exact Draws.list F it a m b.toArray,λc B=>?_,(hp,D),λj g z=>z.1,λj v x k q=>?_)
  .rcases mem_cons.mp B with z|z
   .exact .inl z
   .rw [uN z];exact .inr (_,h)
  .obtain ⟨u,E,C⟩:=r.get q;have k:b.toArray[j]?<*v:=k;rw[getElem?_toArray,E]at k;cases k;exact C
theorem bR{K:Frag}(d1 d2:Sd)(z TI TO i1 i2:Addr)(J:ZipApart z TI TO i1 i2 TI TI):bP P w K (.Tuple es kt pt) (zy d1 d2) [z,TI,TO,i1,i2] z (λi h=>IsZip h z TI TO .none/\IsPair h TI (.ref i1) (.ref i2)/\(∃a b,IsPair h TO a b)/\d1.pl i1 i h/\d2.pl i2 i h)  where
 mem:=by simp
 obj:=λi h C c j=>by
  obtain⟨hz,f,⟨a,b,d⟩,r,s2⟩:=C;simp only[mem_cons,not_mem_nil,or_false]at j;rcases j with rfl|rfl|rfl|rfl|rfl
  .exact (_,hz,λv q=>by cases q)
  .exact (_,f,λv q=>by cases q)
  .exact (_,d,λv q=>by cases q)
  .exact dE r
  .exact dE s2
 keep:=λi h h'⟨hz,f,⟨a,b,d⟩,r,s2⟩k=>
  (k z (!1) _ hz,k TI (!1) _ f,(a,b,k TO (!1) _ d),CP r (k i1 (!1)),CP s2 (k i2 (!1)))
 item:=by
  rintro X hP hw hK j i L s σ H E I m⟨hz,f,⟨a,b,d⟩,r,s2⟩⟨xs,ys,Q,O,p,n,B,y⟩;subst hP hw hK;have l1:i<xs.length:=(l' B).1;have l2:i<ys.length:=(l' y).1;obtain⟨f1,P1,S1,D1,Y,x,b1,r1⟩:=CQ (A:=X.A.in1) I (I.ok.hd j) p (m i1 (!1)).1 r;obtain⟨f2,P2,S2,D2,W,t,b2,r2⟩:=CQ (A:=X.A.in1) I (I.ok.hd j) n (m i2 (!1)).1 s2;have off:∀{c:Addr}{u:HO},H c<*u->c∉[z,TO,i1,i2]:=λ{c u}e M=>by
   have:c∈[z,TI,TO,i1,i2]:=by simp at M⊢;rcases M with q|q|q|q<;>simp[q]
   rw[(m c this).1]at e;cases e
  have N:s.TypeIs (.ref z) "zip":=(_,hz,rfl);unfold pyNext;refine d_ (wpAny_attempt (wpAny_callSpecial?_slot (name:=Str.ofString "__next__") N F.slot_zip_next (wpAny_call_entry F.slot_zip_next N F.entry_zip_next (ZP.AE D1 D2
   (λc j=>(Y c j).imp id λab=>by obtain⟨u,e⟩:=ab;exact off e) (λc j=>(W c j).imp id λD=>by obtain⟨u,e⟩:=D;exact off e)
   J hz f d x t l1 l2 λv1 v2 g R p1 p2 gz ar an g1 g2 U gk=>j2 (_,rfl,?_)) (F.args_zip_next_1 _))))
  have ra:=r1 i v1 Q p1 B;have rb:=r2 i v2 O p2 y;refine wpAny_letOwnedTupleGo_zip (s:={s with heap:=g,toks:=R}) gz λg' ag gs=>?_;have G:∀b o,b≠z->g.get? b<*o->g'.get? b<*o:=λb o l e=>(gs.2 b l).trans e;have nz:s⁻¹≠z:=ne_of_gt (lt_size hz);have tup:uS X.prog X.w (upd H s⁻¹ (.tup [Q,O])) g' s⁻¹ (.tup [Q,O]):=
   (o9 (by show 2≤16777216;decide),[v1,v2],.cons ra (.cons rb .nil),(_,G _ _ nz U,rfl,0,rfl))
  refine(.ref s⁻¹,_,I.turnedNew (S:=[z,TO,i1,i2]) (h':=g') (t':=R) (λb o l e=>G b o (λq=>l (by simp[q])) (gk b o l e)) (λb l=>m b (by simp at l⊢;rcases l with q|q|q|q<;>simp[q])) tup,rfl,
   (_,xs,ys,Q,O,p,n,B,y,rfl,I.hok.fresh (le_refl _),rfl),(ag,G _ _ J.TIz ar,(_,_,G _ _ J.TOz an),CP (b1 _ _ g1) λo e=>G _ o J.i1z e,CP (b2 _ _ g2) λo e=>G _ o J.i2z e),λb l=>?_)
  have lt:b<s⁻¹:=by
   obtain⟨o1,e1,_⟩:=dE r;obtain⟨o2,e2,_⟩:=dE s2;simp only[mem_cons,not_mem_nil,or_false]at l;rcases l with rfl|rfl|rfl|rfl|rfl
   .exact lt_size hz
   .exact lt_size f
   .exact lt_size d
   .exact lt_size e1
   .exact lt_size e2
  rw[a_ (ne_of_lt lt)];exact(m b l).1
 done:=by
  rintro X hP hw hK j i L s σ H E I m⟨hz,f,⟨a,b,d⟩,r,s2⟩⟨xs,ys,p,n,hl,hi⟩;subst hP hw hK;obtain⟨f1,P1,S1,D1,Y,x,b1,r1⟩:=CQ (A:=X.A.in1) I (I.ok.hd j) p (m i1 (!1)).1 r;obtain⟨f2,P2,S2,D2,W,t,b2,r2⟩:=CQ (A:=X.A.in1) I (I.ok.hd j) n (m i2 (!1)).1 s2;have off:∀{c:Addr}{u:HO},H c<*u->c∉[z,TO,i1,i2]:=λ{c u}e M=>by
   have:c∈[z,TI,TO,i1,i2]:=by simp at M⊢;rcases M with q|q|q|q<;>simp[q]
   rw[(m c this).1]at e;cases e
  have N:s.TypeIs (.ref z) "zip":=(_,hz,rfl);unfold pyNext;refine d_ (wpAny_attempt (wpAny_callSpecial?_slot (name:=Str.ofString "__next__") N F.slot_zip_next (wpAny_call_entry F.slot_zip_next N F.entry_zip_next (ZP.zl D1 D2
   (λc j=>(Y c j).imp id λD=>by obtain⟨u,e⟩:=D;exact off e) (λc j=>(W c j).imp id λC=>by obtain⟨u,e⟩:=C;exact off e)
   J hz f d x t (.inl hi) λg e R gk he=>?_) (F.args_zip_next_1 _))))
  obtain⟨o,ho,Z⟩:=he;refine d_ (wpAny_isInstance (s:={s with heap:=g,toks:=R}) (T:="StopIteration") (b:=true) (o,ho,Z) isSubtype_stop (j2 (rfl,?_)));exact I.turnedL (S:=[z,TO,i1,i2]) (λb o l e=>gk b o l e) λb l=>m b (by simp at l⊢;rcases l with q|q|q|q<;>simp[q])
 self:=λ_ _ _ _ _ st h=>wpAny_pyIter_zip st.1 h
noncomputable def tF(H:Hp)(v1 v2:V)(R:(Tok->Sd)->Sd->Prop):Prop:=
 (∃x b xs,v1=.str x/\v2=.ref b/\H b=some (.tup xs)/\R (.tx x) (.tp b))\/(∃x b xs,v1=.str x/\v2=.ref b/\H b=some (.lst xs)/\R (.tx x) (.ls b))\/∃a b xs ys,v1=.ref a/\v2=.ref b/\H a=some (.lst xs)/\H b=some (.lst ys)/\R (λ_=>.ls a) (.ls b)
noncomputable def pZ(t:TA):TI:=λσ H R=>t σ H λvs H1=>∃v1 v2,vs=[v1,v2]/\tF H1 v1 v2 λd1 d2=>∀k,R (zy (d1 k) d2) H1
theorem jn{L:List Expr}{F:Nat}{E:Pos}{p pos:Pos}(hg:Gl X "zip")(Z:X.mg "zip"=none)(ha:PA X [a,b] N)(Y:starEach [a,b] X.env=(false,eval a X.env,)::starEach [b] X.env:=by rfl)(m:(backTo pos (starEach [b] X.env)).any (·.1)=false:=by rfl):PI X (.Tuple L F E) (.Call (.Name "zip" p) [a,b] [] pos) (pZ N):=by
 intro e s C H R I h;refine wpAny_Call_Name_kw (t5 I hg Z boot_zip (PyProof.Rows.callWith_type1 (n0 (ha pos e s C H _ I h) λus d o=>?_) Y m));obtain⟨vs,l,j,O,v1,v2,ev,hz⟩:=o;subst ev;obtain⟨k,D,rfl,B,z⟩:=bc O;have r:∀(d1 d2:Sd)(xs ys:List V),ZP.vT d1 d2->k=d1.vu->D=d2.vu->d1.has l xs->d2.has l ys->R (zy d1 d2) l->wpAny (model X.prog X.w) X.A (call (.type "zip") [k,D]) (λv s2=>wpAny (model X.prog X.w) X.A (pyIter v) (De X e C (.Tuple L F E) R) X.xe s2) X.xe d:=by
  rintro d1 d2 xs ys M rfl rfl W U q;obtain⟨T,Q⟩:=jj j W;obtain⟨S,P⟩:=jj j U;refine ZP.ww M Q P λg J y u g1 g2 gk=>wpAny_pyIter_zip (s:={d with heap:=g}) J ?_;have ap:ZipApart (d⁻¹+4) (d⁻¹+2) (d⁻¹+3) d⁻¹ (d⁻¹+1) (d⁻¹+2) (d⁻¹+2):=by
   constructor<;>exact AV (!6)
  refine(_,[d⁻¹+4,d⁻¹+2,d⁻¹+3,d⁻¹,d⁻¹+1],_,zy d1 d2,l,rfl,j.kept (t':=d.toks) gk,bR d1 d2 _ _ _ _ _ ap,
   (J,y,(_,_,u),g1,g2),λc G=>?_,q)
  have f:d⁻¹≤c:=by
   simp only[mem_cons,not_mem_nil,or_false]at G;rcases G with rfl|rfl|rfl|rfl|rfl
   .exact le_add_right _ _
   .exact le_add_right _ _
   .exact le_add_right _ _
   .exact le_refl _
   .exact le_add_right _ _
  exact j.fpOk f (j.hok.fresh f)
 rcases hz with⟨x,b,xs,rfl,rfl,i,q⟩|⟨x,b,xs,rfl,rfl,i,q⟩|⟨a,b,xs,ys,rfl,rfl,n,i,q⟩
 .obtain ⟨t,rfl⟩:=(show ∃t,k=Value.str x t from B);cases z;exact r (.tx x t) (.tp b) _ _ (ZP.Ai x t b) rfl rfl rfl i (q t)
 .obtain ⟨t,rfl⟩:=(show ∃t,k=Value.str x t from B);cases z;exact r (.tx x t) (.ls b) _ _ (ZP.Aj x t b) rfl rfl rfl i (q t)
 .cases B;cases z;exact r (.ls a) (.ls b) _ _ (ZP.Ak a b) rfl rfl n i (q 0)
end L2
namespace L2
open PySem PySem.Spec PyProof.Rows
noncomputable def zA(fv:Bool)(x:Int)(v:Value):Prop:=(fv=true/\∃b:Bool,v=.bool b/\x=if b then 1 else 0)\/(fv=false/\∃t,v=.int x t)
noncomputable def E3(P:Program)(w:World)(fv:Bool)(x:Int):Int:=if fv=true then reduceHash x else(intKind P w).hash x
section
variable{P:Program}{w:World}{fv:Bool}
theorem zA.inj(a:zA fv x v)(b:zA fv y v):x=y:=by
 rcases a with⟨rfl,c,rfl,rfl⟩|⟨rfl,t,rfl⟩
 .rcases b with⟨_,d,e,rfl⟩|⟨e,_⟩
  .cases e;rfl
  .cases e
 .rcases b with⟨e,_⟩|⟨_,t',e⟩
  .cases e
  .cases e;rfl
theorem zA.pyHash(a:zA fv x v)(q:Q (E3 P w fv x) {s with toks:=s.toks+1}):wpAny (model P w) A (pyHash v) Q E s:=by
 rcases a with⟨rfl,b,rfl,rfl⟩|⟨rfl,t,rfl⟩
 .exact (zr P w).pyHash (k:=b) (by cases b<;>rfl) q
 .exact (intKind P w).pyHash (k:=x) (intKind_is _ _ _ _) q
theorem zA.eq(a:zA fv x u)(b:zA fv y v):SeqAt.EqAt A s u v (decide (x=y)):=by
 rcases a with⟨rfl,c,rfl,rfl⟩|⟨rfl,t,rfl⟩
 .rcases b with⟨_,d,rfl,rfl⟩|⟨e,_⟩
  .have h:=SeqAt.EqAt.bool_bool (A:=A) (s:=s) c d;rw[show(c==d)=decide ((if c then(1:Int)else 0)=if d then 1 else 0) by cases c<;>cases d<;>rfl]at h;exact h
  .cases e
 .rcases b with⟨e,_⟩|⟨_,t',rfl⟩
  .cases e
  .have h:=SeqAt.EqAt.int_int (A:=A) (s:=s) x t y t';rw[show(x==y)=decide (x=y) by rw[Bool.eq_iff_iff];simp]at h;exact h
theorem zA.byValue(a:zA fv x v):carriedByValue v=true:=by
 rcases a with⟨rfl,c,rfl,rfl⟩|⟨rfl,t,rfl⟩<;>rfl
end
section
variable(P:Program)(w:World)(fv:Bool)
noncomputable def zB(h:Heap)(k:List Int)(a:Addr):Prop:=∃(o:Obj)(n:Nat)(v:Value)(b:Addr)(x:Int)(ks:List Int),k=x::ks/\h.get? a=some o/\o.cls=.type "tuple"/\o.data=.seq #[v,.ref b] n/\zA fv x v/\IsTupleKey (intKind P w) h ks b
noncomputable def di:List Int->Int
 |[]=>0
 |x::ks=>reduceHash (Builtin.Tuple.tupleHashOf [E3 P w fv x,tupleKeyHash (intKind P w) ks])
end
section
variable{P:Program}{w:World}{fv:Bool}
theorem zB.inj(g:zB P w fv h x a)(f:zB P w fv h y a):x=y:=by
 obtain⟨o,n,v,b,A,xs,rfl,h1,_,k,j,i⟩:=g;obtain⟨B,C,e,u,z,ys,rfl,d,_,c,m,l⟩:=f;rw[h1]at d;cases d;rw[k]at c;injection c with t _;have s:[v,Value.ref b]=[e,.ref u]:=congrArg Array.toList t;injection s with r q;injection q with p _;cases p;subst r;rw[j.inj m,i.inj l]
theorem zB.keeps{p q}(x:zB P w fv h k a)(c:h.get? d<*o)(e:o.data=.dict p q)(f:SameBut d h h'):zB P w fv h' k a:=by
 obtain⟨j,n,v,b,i,xs,rfl,h1,h2,g,m,l⟩:=x;refine(j,n,v,b,i,xs,rfl,(f.2 a ?_).trans h1,h2,g,m,l.keeps c e f);rintro rfl;rw[h1]at c;cases c;rw[g]at e;cases e
theorem zC(d:A.units+1<cLine)(x:zB P w fv s.heap k a)(q:Q (di P w fv k) {s with toks:=s.toks+(k.length+2)}):wpAny (model P w) A (pyHash (.ref a)) Q E s:=by
 obtain⟨o,n,v,b,c,xs,rfl,h1,h2,h,g,f⟩:=x;refine PySem.W.pyHash_slot (T:="tuple") (o,h1,h2) F.slot_tuple_hash F.entry_tuple_hash (F.args_tuple_hash_1 _) (beq_builtin_none _) (.inr (!6)) ?_;refine d_ (m:=Builtin.Tuple.tupleItemsOf (.ref a)) (wpAny_tupleItemsOf h1 h (d_ ?_));rw[<-forIn_toList];show wpAny _ _ (forIn [v,Value.ref b] _ _) _ _ _;rw[forIn_cons];refine d_ (d_ (g.pyHash (d_ (j2 (j2 ?_)))));dsimp only;rw[forIn_cons];refine d_ (d_ (wpAny_pyHash_tuple (knd:=intKind P w) (by show A.in1.units<cLine;rw[Around.in1_units];exact d) f (d_ (j2 (j2 ?_)))));dsimp only;rw[forIn_nil];refine j2 (d_ (wpAny_mkInt (j2 (_,_,rfl,?_))));have e:s.toks+1+(xs.length+1)+1=s.toks+((c::xs).length+2):=by rw[length_cons];lia
 simpa[e,di]using q
theorem qk(B:A.units+1<cLine)(p:zB P w fv s.heap x a)(m:zB P w fv s.heap y b)(E:Value->Shared->Prop)(Q:Bool->Shared->Prop)(q:Q (decide (x=y)) s):wpAny (model P w) A (eqBool (.ref a) (.ref b)) Q E s:=by
 by_cases h:a=b
 .subst h;rw[decide_eq_true (p.inj m)]at q;exact SeqAt.EqAt.same (.ref a) P w E Q q
 .obtain ⟨o,n,v,c,g,xs,rfl,h1,h2,F,D,C⟩:=p;obtain⟨u,z,l,k,f,ys,rfl,L,J,I,H,G⟩:=m;have i:A.in1.units<cLine:=by rw[Around.in1_units];exact B
  have d:SeqAt.EqAt A.in1 s (.ref c) (.ref k) (decide (xs=ys)):=λO r S R t=>wpAny_eqBool_tuple (knd:=intKind O r) i (dj C) (dj G) t;have all:=SeqAt.EqAt.of_refs (A:=A) h (SeqAt.RcAt.tuples (s:=s) (e:=λj=>if j=0 then decide (g=f)else decide (xs=ys)) (o,h1,h2,n,F) (u,L,J,z,I) (!6) (λj l1 l2=>by
   match j,l1,l2 with
   |0,_,_=>exact D.eq H
   |1,_,_=>exact d
   | n+2,l1,_=>exact absurd l1 (by show ¬ (n+2<2);lia)))
  refine all P w E Q ?_;have e:((List.range (min (#[v,.ref c]:Array Value).size (#[l,.ref k]:Array Value).size)).all (λj=>if j=0 then decide (g=f)else decide (xs=ys))&&(#[v,.ref c]:Array Value).size==(#[l,.ref k]:Array Value).size)=decide (g::xs=f::ys):=by
   show(decide (g=f)&&(decide (xs=ys)&&true)&&true)=_;by_cases N:g=f<;>by_cases M:xs=ys<;>simp[N,M]
  rw[e];exact q
theorem jV(x:zB P w fv s.heap k a)(q:Q true s):wpAny (model P w) A (eqIsQuiet 8 (.ref a)) Q E s:=by
 obtain⟨o,n,v,b,m,xs,rfl,h1,h2,g,f,e⟩:=x;refine CF (n:=7) (o,h1,h2,n,g) (λu c R r=>?_) q;rcases mem_cons.mp (show u∈[v,.ref b]from c)with rfl|c
 .rw [eqIsQuiet_byValue _ f.byValue];exact j2 r
 .rw [uN c];obtain⟨o,d,n,l,j,i,h⟩:=e;refine CF (n:=6) (o,l,j,n,i) (λv c R r=>?_) r;rw[eqIsQuiet_byValue _ (h.byValue v c)];exact j2 r
end
noncomputable def oG(P:Program)(w:World)(fv:Bool):HeapKind P w (List Int) where
 is:=zB P w fv
 hash:=di P w fv
 draws:=λk=>k.length+2
 room:=λA=>A.units+1<cLine
 inj:=λa b=>a.inj b
 keeps:=λx ho hd hs=>x.keeps ho hd hs
 pyHash:=λhu hk h=>zC hu hk h
 eqBool:=λhu hx hy h=>qk hu hx hy _ _ h
 quiet:=λhk h=>jV hk h
noncomputable def nh(fv:Bool)(x:Int):V:=if fv=true then .bl (decide (x=1))else .int x
noncomputable def uy(fv:Bool)(H:Hp)(k:List Int)(a:Addr):Prop:=∃(b:Addr)(x:Int)(ks:List Int),k=x::ks/\(fv=true->x=0\/x=1)/\H a=some (.tup [nh fv x,.ref b])/\Ac H ks b
noncomputable def rH(P:Program)(w:World)(fv:Bool):zu P w (List Int) where
 knd:=oG P w fv
 kin:=uy fv
 ok:=λ{H h k a}e ok=>by
  obtain⟨b,x,ks,rfl,e0,e1,e2⟩:=e
  obtain⟨_,its,r,o,h1,h2,n,h3⟩:=(show uS P w H h a (.tup [nh fv x,.ref b])from ok a _ e1)
  obtain⟨u1,u2,rfl,r1,r2⟩:=bc r
  cases(show u2=Value.ref b from r2)
  refine(o,n,u1,b,x,ks,rfl,h1,h2,h3,?_,hY e2 ok)
  cases fv with
  |true=>
   cases(show u1=Value.bool (decide (x=1))from r1)
   rcases e0 rfl with rfl|rfl
   .exact .inl (rfl,false,rfl,rfl)
   .exact .inl (rfl,true,rfl,rfl)
  |false=>
   obtain⟨t,rfl⟩:=(show ∃t,u1=Value.int x t from r1)
   exact .inr (rfl,t,rfl)
 room:=λ{A}hu=>(by show A.in1.units+1<cLine;rw[Around.in1_units];lia,by show A.units+1<cLine;lia)
 stay:=λs hZ2=>by obtain⟨b,x,ks,e,e0,e1,e2⟩:=hZ2;exact(b,x,ks,e,e0,s _ _ e1,s _ _ e2)
inductive TK where
 |i|t|q|p
 deriving DecidableEq
noncomputable def dK(P:Program)(w:World):TK->zu P w (List Int)
 |.q=>rH P w true
 |.p=>rH P w false
 |_=>zS P w
theorem CS(k:Int)(t:Tok):Value.isInt k (.int k t)=true:=by simp[Value.isInt]
noncomputable def jS(P:Program)(w:World)(H:Hp)(d:Addr)(y:V)(r:Option V):Prop:=
 (∃kvs k,H d=some (xw (intKind P w) d kvs)/\y=.int k/\r=aR kvs k) \/
 ∃ti kvs k b,H d=some (vA (dK P w ti) d kvs)/\(∀x∈kvs,(dK P w ti).kin H x.1 x.2.1)/\y=.ref b/\(dK P w ti).kin H k b/\r=av kvs k
noncomputable def qg(P:Program)(w:World)(H:Hp)(d:Addr)(y v:V)(H':Hp):Prop:=
 (∃kvs k,H d=some (xw (intKind P w) d kvs)/\y=.int k/\aR kvs k=none/\kvs.length<sizeLine/\H'=upd H d (xw (intKind P w) d (kvs++[(k,v,)]))) \/
 ∃ti kvs k b,H d=some (vA (dK P w ti) d kvs)/\(∀x∈kvs,(dK P w ti).kin H x.1 x.2.1)/\y=.ref b/\(dK P w ti).kin H k b/\av kvs k=none/\kvs.length<sizeLine/\H'=upd H d (vA (dK P w ti) d (kvs++[(k,b,v,)]))
section
variable{X:Cx}
noncomputable def oR(P:Program)(w:World):R2:=λx y H Q=>∃d o,y=.ref d/\jS P w H d x o/\Q (.bl (!o.isSome)) H
theorem kr(m:X.A.units+64<cLine):vd X (compareOp .NotIn) (oR X.prog X.w):=by
 intro f s r H x y v u Q I c j h;obtain⟨d,o,rfl,g,q⟩:=h;cases j;rcases g with⟨kvs,k,e,rfl,rfl⟩|⟨i,kvs,k,b,e,n,rfl,l,rfl⟩
 .obtain ⟨t,rfl⟩:=(show ∃t,v=Value.int k t from c);obtain⟨ns,_,z,a,dd⟩:=zT I.hok e;refine wpAny_notIn_of (knd:=intKind X.prog X.w) (k:=k) (CS k t) ns dd.mapOf ?_;rw[<-DB (a.val k)];exact(.bl _,H,I.tok _,rfl,q)
 .cases c;exact dS (D:=dK X.prog X.w i) m I e n l λs' p=>(.bl _,H,p,rfl,q)
theorem nS{c:St}(I:f' X a c H s)(g:jS X.prog X.w H d y o):s.TypeIs (.ref d) "dict":=by
 rcases g with⟨kvs,k,e,_⟩|⟨h,kvs,k,b,e,i,_⟩
 .obtain ⟨_,_,f,_,dd⟩:=zT I.hok e;exact dd.typeIs
 .obtain ⟨_,_,f,_,dd⟩:=bI (D:=dK X.prog X.w h) I.hok e i;exact dd.typeIs
noncomputable def ua(P:Program)(w:World):R2:=λx y H Q=>∃d v,x=.ref d/\jS P w H d y (some v)/\Q v H
theorem m4(E:X.A.units+64<cLine):xH X (ua X.prog X.w):=by
 intro c f m s M H x y v u Q I B j h G;obtain⟨d,z,rfl,g,q⟩:=h;cases B;refine tail_any (ops:=[.ref d,u]) (nS I g) PySem.F.slot_dict_getitem.lookup ?_ G;rcases g with⟨kvs,k,e,rfl,l⟩|⟨r,kvs,k,b,e,J,rfl,C,l⟩
 .obtain ⟨t,rfl⟩:=(show ∃t,u=Value.int k t from j);obtain⟨ns,_,p,i,dd⟩:=zT I.hok e;obtain⟨n,hw,a⟩:=au.some_of (v:=z) (o:=valueAt p k) (by rw[l];exact i.val k);exact wpAny_getItem_of (knd:=intKind X.prog X.w) (k:=k) (CS k t) dd.mapOf hw (z,H,I.tok _,a,q)
 .cases j;exact nn (D:=dK X.prog X.w r) E I e J C l λn s' L a=>(z,H,L,a,q)
noncomputable def sy(P:Program)(w:World):TSet:=λo i v H Q=>∃d H',o=.ref d/\qg P w H d i v H'/\Q H'
theorem j8(C:X.A.units+64<cLine):pN X (sy X.prog X.w):=by
 intro n s J H o i v L B u Q I x m l h;obtain⟨d,H',rfl,g,q⟩:=h;cases x;rcases g with⟨kvs,k,e,rfl,f,j,rfl⟩|⟨r,kvs,k,b,e,F,rfl,z,f,j,rfl⟩
 .obtain ⟨t,rfl⟩:=(show ∃t,B=Value.int k t from m);obtain⟨ns,hz,p,a,dd⟩:=zT I.hok e;refine wpAny_setItem_pairs (knd:=intKind X.prog X.w) (k:=k) (hsz:=by rw[<-a.length];exact hz) (CS k t) dd λh' c E=>(_,?_,q);have y:=au.none_of (show au none (valueAt p k) by rw[<-f];exact a.val k);rw[DC y]at c;exact CG I (by rw[e];exact True.intro) E (let⟨o,_,_,q,_⟩:=c;(o,q)) (fL ns (by rw[uA];exact j) (dN a l) c)
 .cases m;exact nj (D:=dK X.prog X.w r) C I e F z f j l λs' G=>(_,G,q)
noncomputable def mU(P:Program)(w:World)(d:Addr):TK->HO
 |.i=>xw (intKind P w) d []
 |k=>vA (dK P w k) d []
theorem ph(h:Heap)(a:sysModules<h.objs.size)(k:TK):uS P w H (h.push {cls:=.type "dict",data:=.dict #[]}) h.objs.size (mU P w h.objs.size k):=by
 have ns:(h.objs.size==sysModules)=false:=beq_eq_false_iff_ne.mpr (Ne.symm (ne_of_lt a));cases k with
 |i=>exact fL (knd:=intKind P w) ns (zero_le _) .nil (Heap.DictOf.new h)
 |t=>exact cz (D:=dK P w .t) ns (zero_le _) .nil (DictOfH.new h)
 |q=>exact cz (D:=dK P w .q) ns (zero_le _) .nil (DictOfH.new h)
 |p=>exact cz (D:=dK P w .p) ns (zero_le _) .nil (DictOfH.new h)
theorem pi(h:k≠.i):mU P w d k=vA (dK P w k) d []:=by
 cases k with
 |i=>exact absurd rfl h
 |_=>rfl
noncomputable def rM(P:Program)(w:World)(tk tv:TE):TE:=λσ H Q=>∃ti:TK,∀p,H p=none->tk σ (upd H p (mU P w p ti)) λx H1=>tv σ H1 λy H2=>H2 p=some (mU P w p ti)/\
 ((ti=.i/\∃k,x=.int k/\Q (.ref p) (upd H2 p (xw (intKind P w) p [(k,y,)])))\/(ti≠.i/\∃b k,x=.ref b/\(dK P w ti).kin H2 k b/\Q (.ref p) (upd H2 p (vA (dK P w ti) p [(k,b,y,)]))))
theorem oW(O:X.A.units+64<cLine)(S:PE X k E)(N:PE X v C):PE X (.Dict [some k] [v] pos) (rM X.prog X.w E C):=by
 intro e s m H Q I h;obtain⟨f,h⟩:=h;have R:=I.hok.fresh (le_refl s⁻¹);have U:=I.laid (a:=s⁻¹) (o:=mU X.prog X.w s⁻¹ f) (t':=s.toks) (λ_ _ q=>nb {cls:=.type "dict",data:=.dict #[]} q) (le_refl _) (ph s.heap I.bigS f);have j:=zip_pairTrees [some k] [v] X.env pos rfl rfl;rw[arm_eval_Dict,j,dictDisplay_pairs (pairTrees [some k] [v] X.env pos) (!5) (by show 1<17;decide)];refine d_ (wpAny_standAt (d_ ?_));unfold subDict;refine d_ (wpAny_alloc (d_ (wpAny_holding ?_)));rw[if_pos (show(pairTrees [some k] [v] X.env pos).length≤15 by show 1≤15;decide)];refine d_ (pairTrees_cons_walk (n0 (S e _ m _ _ U (h _ R)) λu F⟨x,W,T,p,J⟩=>n0 (N e F m W _ T J) λr s2⟨y,Y,i,n,hp,g⟩=>pairTrees_nil_walk (wpAny_holding (d_ ?_))));rw[forIn_cons];rcases g with⟨rfl,k,rfl,g⟩|⟨P,b,k,rfl,L,g⟩
 .obtain ⟨t,rfl⟩:=(show ∃t,u=Value.int k t from p);obtain⟨ns,hz,B,c,dd⟩:=zT (knd:=intKind X.prog X.w) (kvs:=[]) i.hok hp;refine d_ (d_ (wpAny_dictSet_pairs (knd:=intKind X.prog X.w) (k:=k) (hsz:=by rw[<-c.length];exact hz) (CS k t) dd λh' d l=>j2 ?_));dsimp only;rw[forIn_nil];refine j2 (j2 (j2 (j2 (.ref s⁻¹,_,?_,rfl,g))));have G:=au.none_of (show au none (valueAt B k)from c.val k);rw[DC G]at d;exact CG i (by rw[hp];exact True.intro) l (let⟨o,_,_,q,_⟩:=d;(o,q)) (fL ns (o9 (by show 1≤16777216;decide)) (dN (kvs:=[]) c n) d)
 .cases p;rw[pi P]at hp;obtain⟨ns,hz,xs,c,dd⟩:=bI (D:=dK X.prog X.w f) (kvs:=[]) i.hok hp (λx M=>by simp at M);refine d_ (d_ (wpAny_dictSet_heap (knd:=(dK X.prog X.w f).knd) (hsz:=by rw[<-Paired.length c];exact hz) ((dK X.prog X.w f).room O).2 ((dK X.prog X.w f).ok L i.hok) dd λh' d l=>j2 ?_));dsimp only;rw[forIn_nil];refine j2 (j2 (j2 (j2 (.ref s⁻¹,_,?_,rfl,g))));exact p6 (D:=dK X.prog X.w f) (kvs:=[]) i hp ns (o9 (by show 1≤16777216;decide)) c rfl n d l
end
end L2
namespace RA
open PySem L2
noncomputable def aX:TK->Hp->LN->Addr->Prop
 |.q,H,k,b=>∃(c:Addr)(x:Nat)(ks:LN),k=x::ks/\x≤1/\H b=some (.tup [.bl (decide (x=1)),.ref c])/\H c<*.tup (b' ks)
 |.p,H,k,b=>∃(c:Addr)(x:Nat)(ks:LN),k=x::ks/\H b=some (.tup [.int (x:Int),.ref c])/\H c<*.tup (b' ks)
 |_,H,k,b=>H b<*.tup (b' k)
noncomputable def uE(ti:TK)(H:Hp)(k:LN)(v:V):Prop:=if ti=.i then ∃n:Nat,k=[n]/\v=.int (n:Int)else ∃b,v=.ref b/\aX ti H k b
theorem aX.same(h:aX f H k b)(s:∀b xs,H b<*.tup xs->H' b<*.tup xs):aX f H' k b:=by
 cases f with
 |q=>
  obtain⟨c,x,ks,e,g,d,a⟩:=h;exact(c,x,ks,e,g,s _ _ d,s _ _ a)
 |p=>
  obtain⟨c,x,ks,e,d,a⟩:=h;exact(c,x,ks,e,s _ _ d,s _ _ a)
 |_=>exact s _ _ h
theorem eJ(k:LN):(zs k).map V.int=b' k:=by rw[zs,b',List.map_map];rfl
theorem aX.kin(h:aX g H k b):(dK P w g).kin H (zs k) b:=by
 have a:∀{ks:LN}{c:Addr},H c<*.tup (b' ks)->Ac H (zs ks) c:=λe=>by unfold Ac;rw[eJ];exact e
 cases g with
 |q=>
  obtain⟨c,x,ks,rfl,i,f,d⟩:=h;refine(c,(x:Int),zs ks,rfl,λ_=>?_,?_,a d)
  .lia
  .rw [f,show nh true (x:Int)=.bl (decide ((x:Int)=1))from rfl,show decide ((x:Int)=1)=decide (x=1) by rw[Bool.eq_iff_iff];simp;lia]
 |p=>
  obtain⟨c,x,ks,rfl,f,d⟩:=h;exact(c,(x:Int),zs ks,rfl,λz=>(by cases z),f,a d)
 |_=>exact a h
theorem uE.same(h:uE a H k v)(s:∀b xs,H b<*.tup xs->H' b<*.tup xs):uE a H' k v:=by
 unfold uE at h⊢;split
 .rename_i c;rw[if_pos c]at h;exact h
 .rename_i c;rw[if_neg c]at h;obtain⟨b,e,d⟩:=h;exact(b,e,d.same s)
noncomputable def yH:LL->Nat->List (Int×V)
 |[],_=>[]
 |k::r,n=>(((k.headD 0:Nat):Int),.int (n:Int),)::yH r (n+1)
theorem jy:∀(ts:LL)(n:Nat),(yH ts n).length=ts.length
 |[],_=>rfl
 |k::r,n=>by rw[yH,length_cons,length_cons,jy r]
theorem fK(k:LN):∀(ts:LL)(n:Nat),yH (ts++[k]) n=yH ts n++[(((k.headD 0:Nat):Int),.int ((n+ts.length:Nat):Int),)]
 |[],n=>rfl
 |t::r,n=>by
  rw[cons_append,yH,fK k r (n+1),yH,cons_append,length_cons,show n+1+r.length=n+(r.length+1) by lia]
noncomputable def x_(ts:LL)(k:LN):Option Nat:=if k∈ts then some (ts.idxOf k)else none
theorem fP(h:t≠k):x_ (t::r) k=(x_ r k).map (·+1):=by
 unfold x_;by_cases a:k∈r
 .rw [if_pos (mem_cons_of_mem _ a),if_pos a,idxOf_cons,show(t==k)=false from beq_eq_false_iff_ne.mpr h];rfl
 .rw [if_neg (λz=>(mem_cons.mp z).elim (λy=>h y.symm) a),if_neg a];rfl
theorem dO{m:Nat}:∀{ts:LL}{n:Nat},(∀t∈ts,∃a,t=[a])->aR (yH ts n) (m:Int)=(x_ ts [m]).map λ(i:Nat)=>V.int ((n+i:Nat):Int)
 |[],_,_=>rfl
 |t::r,n,h=>by
  obtain⟨a,rfl⟩:=h t (!1);by_cases e:a=m
  .subst e;rw[yH,eR (k:=(a:Int)) (show((([a]:LN).headD 0:Nat):Int)=(a:Int)from rfl),x_,if_pos (!1),List.idxOf_cons_self];rfl
  .rw [yH,eS (λz=>e (Int.ofNat.inj z)),dO (n:=n+1) (λt b=>h t (by simp[b])),fP (λz=>e (by injection z))];cases x_ r [m]with
   |none=>rfl
   |some i=>
    show some (V.int ((n+1+i:Nat):Int))<*V.int ((n+(i+1):Nat):Int);rw[show n+1+i=n+(i+1) by lia]
noncomputable def uG(P:Program)(w:World)(H:Hp)(d:Addr)(ti:TK)(ts:LL):Prop:=
 if ti=.i then H d=some (xw (intKind P w) d (yH ts 0))/\∀t∈ts,∃a,t=[a]
 else ∃kvs:List (List Int×Addr×V),H d=some (vA (dK P w ti) d kvs)/\(∀x∈kvs,(dK P w ti).kin H x.1 x.2.1)/\kvs.length=ts.length/\∀(i:Nat)(k:LN)(x:List Int×Addr×V),ts[i]?<*k->kvs[i]?<*x->x.1=zs k/\x.2.2=.int (i:Int)
theorem jd:∀{n:Nat},kvs.length=ts.length->(∀(i:Nat)(k:LN)(x:List Int×Addr×V),ts[i]?<*k->kvs[i]?<*x->x.1=zs k/\x.2.2=.int ((n+i:Nat):Int))->av kvs (zs k)=(x_ ts k).map λ(i:Nat)=>V.int ((n+i:Nat):Int):=by
 induction kvs generalizing ts with
 |nil=>
  intro n a h;cases ts with
  |nil=>rfl
  |cons t r=>cases a
 |cons x xs d=>
  intro n a h;cases ts with
  |nil=>cases a
  |cons t r=>
   obtain⟨b,j⟩:=h 0 t x rfl rfl;by_cases e:t=k
   .subst e;rw[x_,if_pos (!1),List.idxOf_cons_self];simp[av,find?_cons,b,j]
   .have e':¬ x.1=zs k:=λz=>e (df (b.symm.trans z));have l:av (x::xs) (zs k)=av xs (zs k):=by simp[av,find?_cons,e']
    rw[l,d (n:=n+1) (by simpa using a) (λi k' c h1 h2=>by
     obtain⟨g,f⟩:=h (i+1) k' c h1 h2;exact(g,by rw[f,show n+(i+1)=n+1+i by lia])),fP e]
    cases x_ r k with
    |none=>rfl
    |some i=>
     show some (V.int ((n+1+i:Nat):Int))<*V.int ((n+(i+1):Nat):Int);rw[show n+1+i=n+(i+1) by lia]
section
variable{P:Program}{w:World}{H:Hp}{d:Addr}{ti:TK}{ts:LL}{k:LN}{v:V}
theorem uG.get(h:uG P w H d ti ts)(e:uE ti H k v):jS P w H d v ((x_ ts k).map λ(i:Nat)=>V.int (i:Int)):=by
 unfold uG at h;unfold uE at e;by_cases c:ti=.i
 .subst c;rw[if_pos rfl]at h e;obtain⟨n,rfl,rfl⟩:=e;refine .inl (_,_,h.1,rfl,?_);rw[dO h.2];simp
 .rw [if_neg c]at h e;obtain⟨kvs,h1,h2,j,g⟩:=h;obtain⟨b,rfl,f⟩:=e;refine .inr (ti,kvs,zs k,b,h1,h2,rfl,f.kin,?_);rw[jd (n:=0) j (λi k x a b=>by rw[Nat.zero_add];exact g i k x a b)];simp
theorem uG.put(h:uG P w H d ti ts)(m:uE ti H k v)(A:k∉ts)(s:ts.length<sizeLine):∃f,qg P w H d v (.int (ts.length:Int)) (L2.upd H d f)/\uG P w (L2.upd H d f) d ti (ts++[k]):=by
 have p:x_ ts k=none:=if_neg A;have B:∀b xs,H b<*.tup xs->∀φ,H d<*.ext φ->∀f,L2.upd H d f b<*.tup xs:=λb xs e φ D f=>by
  rw[a_ (n_ e D (!5))];exact e
 unfold uG at h;unfold uE at m;by_cases c:ti=.i
 .subst c;rw[if_pos rfl]at h m;obtain⟨n,rfl,rfl⟩:=m;refine(xw (intKind P w) d (yH (ts++[[n]]) 0),.inl (_,_,h.1,rfl,?_,by rw[jy];exact s,?_),?_)
  .rw [dO h.2,p];rfl
  .rw [fK,Nat.zero_add];rfl
  .unfold uG;rw[if_pos rfl];refine(j',λt y=>?_);rcases mem_append.mp y with z|z
   .exact h.2 t z
   .exact (n,uN z)
 .rw [if_neg c]at h m;obtain⟨kvs,h1,h2,l,u⟩:=h;obtain⟨b,rfl,C⟩:=m;have q:(dK P w ti).kin H (zs k) b:=C.kin;have o:∀f b xs,H b<*.tup xs->L2.upd H d f b<*.tup xs:=λf b xs e=>B b xs e _ h1 f;refine(vA (dK P w ti) d (kvs++[(zs k,b,.int (ts.length:Int),)]),.inr (ti,kvs,zs k,b,h1,h2,rfl,q,?_,by rw[l];exact s,rfl),?_)
  .rw [jd (n:=0) l (λi k x a b=>by rw[Nat.zero_add];exact u i k x a b),p];rfl
  .unfold uG;rw[if_neg c];refine(_,j',λx g=>?_,by rw[uA,uA,l];rfl,λi k' x j g=>?_)
   .rcases mem_append.mp g with z|z
    .exact (dK P w ti).stay (o _) (h2 x z)
    .rw [uN z];exact(dK P w ti).stay (o _) q
   .by_cases r:i<ts.length
    .rw [getElem?_append_left r]at j;rw[getElem?_append_left (by rw[l];exact r)]at g;exact u i k' x j g
    .rw [getElem?_append_right (le_of_not_lt r)]at j;rw[getElem?_append_right (by rw[l];exact le_of_not_lt r),l]at g;have hz:i-ts.length=0:=by
      have:=(l' j).1;simp at this;omega
     rw[hz]at j g;cases j;cases g;exact(rfl,by rw[show i=ts.length by lia])
theorem uG.same(h:uG P w H d ti ts)(s:∀b o,H b<*o->(b=d\/∃xs,o=.tup xs)->H' b<*o):uG P w H' d ti ts:=by
 unfold uG at h⊢;by_cases c:ti=.i
 .subst c;rw[if_pos rfl]at h⊢;exact(s _ _ h.1 (.inl rfl),h.2)
 .rw [if_neg c]at h⊢;obtain⟨kvs,h1,h2,g,f⟩:=h;exact(kvs,s _ _ h1 (.inl rfl),λx a=>(dK P w ti).stay (λb xs e=>s _ _ e (.inr (_,rfl))) (h2 x a),g,f)
end
end RA
namespace L2
open PySem PySem.Spec PyProof.Rows
namespace ZP
noncomputable def eL(T:Addr)(b:Bool)(TI TO:Addr):Obj:={cls:=.type "zip",dict:=none,data:=.fields #[rawInt T,.bool b,.bool false,.ref TI,.ref TO],slots:=#[]}
section
variable{prog:Program}{w:World}{A:Around}{E:Value->Shared->Prop}{s:Shared}{z TI TO i1 i2 T:Addr}{f1 f2:List Addr}{n1 n2 k:Nat}{P1 P2:Nat->Value->Prop}{S1 S2:Nat->Heap->Prop}{b1:Bool}{oT:Obj}
theorem jt(hz:s.heap.get? z<*eL T b1 TI TO)(a:s.heap.get? T<*oT)(h:∀h',h'.get? z<*eL T true TI TO->SameBut z s.heap h'->Q false {s with heap:=h'}):wpAny (model prog w) A (Builtin.SmallTypes.ownedTupleIsFree (.ref z)) Q E s:=by
 unfold Builtin.SmallTypes.ownedTupleIsFree;refine d_ (wpAny_field hz rfl (x:=rawInt T) rfl ?_);show wpAny _ _ (loadIfAlive ((T:Int).toNat)>>=_) _ _ _;rw[toNat_natCast];refine d_ (PySem.W.kdx_alive a ?_);refine wpAny_ite_false (!1) (d_ (wpAny_field hz rfl (x:=.bool b1) rfl ?_));cases b1 with
 |true=>exact wpAny_ite_false (!0) (j2 (h _ hz (rfl,λ_ _=>rfl)))
 |false=>exact wpAny_ite_true (!0) (d_ (wpAny_setField_rec hz (!1) λh' e c=>j2 (h h' e c)))
theorem rJ{Q:Value->Shared->Prop}(G:Draws prog w A i1 f1 n1 P1 S1)(F:Draws prog w A i2 f2 n2 P2 S2)(R:∀c∈f1,c=i1\/c∉[z,TO,i1,i2])(P:∀c∈f2,c=i2\/c∉[z,TO,i1,i2])(b:ZipApart z TI TO i1 i2 TI TI)(hz:s.heap.get? z<*eL T b1 TI TO)(U:s.heap.get? T<*oT)(i:IsPair s.heap TI (.ref i1) (.ref i2))(h1:S1 k s.heap)(h2:S2 k s.heap)(l1:k<n1)(l2:k<n2)(W:∀x y h' J,P1 k x->P2 k y->h'.get? z<*eL T true TI TO->IsPair h' TI (.ref i1) (.ref i2)->S1 (k+1) h'->S2 (k+1) h'->IsPair h' s⁻¹ x y->
   (∀c o,c∉[z,TO,i1,i2]->s.heap.get? c<*o->h'.get? c<*o)->Q (.ref s⁻¹) {s with heap:=h',toks:=J}):wpAny (model prog w) A (Builtin.«zip.__next__» ([.ref z],[])) (λB s'=>∃v,B=.done (.ret v)/\Q v s') E s:=by
 unfold Builtin.«zip.__next__»;refine d_ (wpAny_of_eq (a:=(Value.ref z,[],)) rfl (d_ (wpAny_field hz rfl (x:=.bool false) rfl (d_ (wpAny_field hz rfl (x:=.ref TI) rfl (d_ (wpAny_seqItems i rfl (wpAny_ite_false (!1) (d_ (jt hz U λX I C=>wpAny_ite_false (!0) ?_))))))))));dsimp only;have k1:aQ [z,TO,i1,i2] s.heap X:=.one C (!1);have l:∀{j:Nat}{g g':Heap},(∀c o,c∉[z,TO,i1,i2]->g.get? c<*o->g'.get? c<*o)->S1 j g->(∀o,g.get? i1<*o->g'.get? i1<*o)->S1 j g':=λk st e=>G.frame _ _ _ st λc h=>by
  rcases R c h with rfl|u
  .exact e
  .exact λo q=>k c o u q
 have D:∀{j:Nat}{g g':Heap},(∀c o,c∉[z,TO,i1,i2]->g.get? c<*o->g'.get? c<*o)->S2 j g->(∀o,g.get? i2<*o->g'.get? i2<*o)->S2 j g':=λk st e=>F.frame _ _ _ st λc h=>by
  rcases P c h with rfl|u
  .exact e
  .exact λo q=>k c o u q
 rw[<-forIn_toList];show wpAny _ _ (forIn [Value.ref i1,.ref i2] _ _>>=_) _ _ _;simp only[forIn_cons,forIn_nil];refine d_ (d_ (d_ (wpAny_holding (d_ (m:=Builtin.SmallTypes.nextOf (.ref i1)) (G.item k _ _ _ l1 (l k1.2 h1 λo e=>(C.2 i1 b.i1z).trans e) λx Z Y O d1 p=>j2 ?_)))));dsimp only;refine j2 (d_ (d_ (wpAny_holding (d_ (m:=Builtin.SmallTypes.nextOf (.ref i2)) (F.item k _ _ _ l2 (D (k1.trans (.one p (!1))).2 h2 λo e=>(p.2 i2 b.i12.symm).trans ((C.2 i2 b.i2z).trans e)) λy d L N d2 n=>j2 ?_)))));dsimp only;refine j2 (j2 (d_ (wpAny_newTuple (hsz:=o9 (by show 2≤16777216;decide)) (j2 (_,rfl,?_)))));have k3:aQ [z,TO,i1,i2] s.heap d:=(k1.trans (.one p (!1))).trans (.one n (!1));have H:d.get? z<*eL T true TI TO:=(n.2 z b.i2z.symm).trans ((p.2 z b.i1z.symm).trans I);have r:IsPair d TI (.ref i1) (.ref i2):=k3.2 TI _ (by simp[b.TIz,b.TITO,b.TIi1,b.TIi2]) i;have M:d.objs.size=s⁻¹:=k3.1;have t:S1 (k+1) d:=l (aQ.one (S:=[z,TO,i1,i2]) n (!1)).2 d1 λo e=>(n.2 i1 b.i12).trans e;have f:IsPair (d.push {cls:=.type "tuple",data:=.seq #[x,y]}) d.objs.size x y:=get?_push_size _ rfl;show Q (.ref d.objs.size) _;rw[M]at f⊢;exact W x y _ L O N (nb _ H) (nb _ r) (G.frame _ _ _ t λc _ o e=>nb _ e) (F.frame _ _ _ d2 λc _ o e=>nb _ e) f λc o h e=>nb _ (k3.2 c o h e)
theorem rh(g:Draws prog w A i1 f1 n1 P1 S1)(l:∀c∈f1,c=i1\/c∉[z,TO,i1,i2])(B:ZipApart z TI TO i1 i2 TI TI)(hz:s.heap.get? z<*eL T b1 TI TO)(t:s.heap.get? T<*oT)(d:IsPair s.heap TI (.ref i1) (.ref i2))(h1:S1 n1 s.heap)(u:∀h' e i,(∀c o,c∉[z,TO,i1,i2]->s.heap.get? c<*o->h'.get? c<*o)->(∃o,h'.get? e=some o/\o.cls=.type "StopIteration")->E (.ref e) {s with heap:=h',toks:=i}):wpAny (model prog w) A (Builtin.«zip.__next__» ([.ref z],[])) Q E s:=by
 unfold Builtin.«zip.__next__»;refine d_ (wpAny_of_eq (a:=(Value.ref z,[],)) rfl (d_ (wpAny_field hz rfl (x:=.bool false) rfl (d_ (wpAny_field hz rfl (x:=.ref TI) rfl (d_ (wpAny_seqItems d rfl (wpAny_ite_false (!1) (d_ (jt hz t λy C f=>wpAny_ite_false (!0) ?_))))))))));dsimp only;rw[<-forIn_toList];show wpAny _ _ (forIn [Value.ref i1,.ref i2] _ _>>=_) _ _ _;simp only[forIn_cons,forIn_nil];have j:S1 n1 y:=g.frame _ _ _ h1 λc b o e=>by
  rcases l c b with rfl|n
  .exact (f.2 _ B.i1z).trans e
  .exact (f.2 c λq=>n (by simp[q])).trans e
 refine d_ (d_ (d_ (wpAny_holding (d_ (m:=Builtin.SmallTypes.nextOf (.ref i1)) (g.done _ _ _ j λv e h p=>?_)))));exact u v e s.toks (λc o b q=>h c o (λr=>b (by simp[r])) ((f.2 c λr=>b (by simp[r])).trans q)) p
end
section
variable{prog:Program}{w:World}{A:Around}{R:Result->Shared->Prop}{z TI TO i1 i2 S:Addr}{f1 f2:List Addr}{n:Nat}{P1 P2:Nat->Value->Prop}{S1 S2:Nat->Heap->Prop}
structure LZ(h0:Heap)(z TI TO i1 i2 S:Addr)(P1 P2:Nat->Value->Prop)(S1 S2:Nat->Heap->Prop)(k:Nat)(h:Heap)(acc:Array Value):Prop where
 zip:(k=0/\IsZip h z TI TO .none/\∃a b,IsPair h TO a b)\/(0<k/\∃b1 T oT,h.get? z=some (eL T b1 TI TO)/\h.get? T=some oT/\h0.objs.size≤T)
 ti:IsPair h TI (.ref i1) (.ref i2)
 s1:S1 k h
 s2:S2 k h
 sz:h0.objs.size≤h.objs.size
 len:acc.size=k
 items:∀(j:Nat)(v:Value),acc[j]?<*v->∃t x y,v=.ref t/\P1 j x/\P2 j y/\IsPair h t x y/\h0.objs.size≤t
 inj:∀(i j:Nat)(t:Addr),acc[i]?<*.ref t->acc[j]?<*.ref t->i=j
 keep:∀c o,c∉[z,TO,i1,i2,S]->h0.get? c<*o->h.get? c<*o
theorem b_g(d:s.TypeIs (.ref z) "zip")(h:wpAny (model prog w) A.in1 (Builtin.«zip.__next__» ([.ref z],[])) (λa s'=>∃v,a=.done (.ret v)/\Q (some v) s') (λe s'=>∃o e',e=.ref e'/\s'.heap.get? e'=some o/\o.cls=.type "StopIteration"/\Q none s') s):wpAny (model prog w) A (pyNext (.ref z)) Q E s:=by
 unfold pyNext;refine d_ (wpAny_attempt (wpAny_callSpecial?_slot (name:=Str.ofString "__next__") d F.slot_zip_next (wpAny_call_entry F.slot_zip_next d F.entry_zip_next (wpAny_mono h (λa s' c=>?_) λe s' c=>?_) (F.args_zip_next_1 _))))
 .obtain ⟨v,rfl,q⟩:=c;exact(v,rfl,j2 q)
 .obtain ⟨o,e',rfl,f,g,q⟩:=c;exact d_ (wpAny_isInstance (T:="StopIteration") (b:=true) (o,f,g) isSubtype_stop (j2 q))
theorem lL(D1:Draws prog w A.in1.in1 i1 f1 n P1 S1)(D2:Draws prog w A.in1.in1 i2 f2 n P2 S2)(ap:ZipApart z TI TO i1 i2 TI TI)(hn:n≤1000000)(m1:∀c∈f1,c=i1\/c∉[z,TO,i1,i2,S])(m2:∀c∈f2,c=i2\/c∉[z,TO,i1,i2,S])(lt:∀c∈[z,TI,TO,i1,i2,S],c<h0.objs.size)(hS:S∉[z,TI,TO,i1,i2])(J:Value)(base:Shared)(hR:∀h C g c,LZ h0 z TI TO i1 i2 S P1 P2 S1 S2 n h g->h.get? S<*{cls:=.type "list",dict:=none,data:=.seq g c,slots:=#[]}->∀h',(∀c o,c∉[z,TO,i1,i2]->h.get? c<*o->h'.get? c<*o)->R (.ok (.ret J)) {base with heap:=h',toks:=C}):∀(m k:Nat)(h:Heap)(C:Nat)(g:Array Value)(c:Nat),n-k=m->k≤n->LZ h0 z TI TO i1 i2 S P1 P2 S1 S2 k h g->h.get? S<*{cls:=.type "list",dict:=none,data:=.seq g c,slots:=#[]}->
   codeAny (model prog w) A (.builtin "list.extend.loop" ([.ref S,.ref z,J],[])) R {base with heap:=h,toks:=C}:=by
 have M:∀c∈f1,c=i1\/c∉[z,TO,i1,i2]:=λc l=>(m1 c l).imp id λq z=>q (by simp at z⊢;rcases z with y|y|y|y<;>simp[y]);have O:∀c∈f2,c=i2\/c∉[z,TO,i1,i2]:=λc l=>(m2 c l).imp id λq z=>q (by simp at z⊢;rcases z with y|y|y|y<;>simp[y]);have as:S≠z:=λq=>hS (by simp[q]);have aA:S≠TI:=λq=>hS (by simp[q]);have az:S≠TO:=λq=>hS (by simp[q]);have aC:S≠i1:=λq=>hS (by simp[q]);have aB:S≠i2:=λq=>hS (by simp[q]);have aS:S∉[z,TO,i1,i2]:=by simp[as,az,aC,aB]
 have H:S<h0.objs.size:=lt S (!1);intro m;induction m with
 |zero=>
  intro k h C g c I hk L U;have e:k=n:=by lia
  subst e;refine codeAny_builtin F.entry_extend_loop ?_;rw[Around.under_plainId F.plain_extend_loop _];show wpAny _ A.in1 (pyNext (.ref z)>>=_) _ _ _;have D:∀h' e d,(∀c o,c∉[z,TO,i1,i2]->h.get? c<*o->h'.get? c<*o)->(∃o,h'.get? e=some o/\o.cls=.type "StopIteration")->
    ∃o e',(Value.ref e)=.ref e'/\({base with heap:=h',toks:=d}:Shared).heap.get? e'=some o/\o.cls=.type "StopIteration"/\wpAny (model prog w) A.in1 (ret J) (λD s'=>match D with|.done f=>R (.ok f) s'|.again c'=>c'.quiet=true/\codeAny (model prog w) A c' R s') (λe s'=>R (.error e) s') {base with heap:=h',toks:=d}:=λh' e d u⟨o,ho,l⟩=>
   (o,e,rfl,ho,l,j2 (hR h d g c L U h' u))
  rcases L.zip with⟨P,hz,a,b,Q⟩|⟨P,b1,T,X,hz,hT,_⟩
  .refine d_ (b_g (s:={base with heap:=h,toks:=C}) (_,hz,rfl) (zl (s:={base with heap:=h,toks:=C}) D1 D2 M O ap hz L.ti Q L.s1 L.s2 (.inl rfl) λh' e d u he=>D h' e d u he))
  .refine d_ (b_g (s:={base with heap:=h,toks:=C}) (_,hz,rfl) (rh (s:={base with heap:=h,toks:=C}) D1 M ap hz hT L.ti L.s1 λh' e d u he=>D h' e d u he))
 |succ m ih=>
  intro k h C g c I hk L U;have E:k<n:=by lia
  refine codeAny_builtin F.entry_extend_loop ?_;rw[Around.under_plainId F.plain_extend_loop _];show wpAny _ A.in1 (pyNext (.ref z)>>=_) _ _ _;have go:∀x y h' d(zs:∃b1 T X,h'.get? z=some (eL T b1 TI TO)/\h'.get? T=some X/\h0.objs.size≤T),P1 k x->P2 k y->IsPair h' TI (.ref i1) (.ref i2)->S1 (k+1) h'->S2 (k+1) h'->IsPair h' h.objs.size x y->(∀c o,c∉[z,TO,i1,i2]->h.get? c<*o->h'.get? c<*o)->
    wpAny (model prog w) A.in1 (Builtin.List.listUpdate (.ref S) (·.push (.ref h.objs.size))>>=λ_=>again (.builtin "list.extend.loop" ([.ref S,.ref z,J],[]))) (λD s'=>match D with|.done f=>R (.ok f) s'|.again c'=>c'.quiet=true/\codeAny (model prog w) A c' R s') (λe s'=>R (.error e) s') {base with heap:=h',toks:=d}:=by
   intro x y h' d zs Z Y ti aN aM p u;have aH:=u S _ aS U;refine d_ ?_;show wpAny _ A.in1 (updateSeq S (·.push (.ref h.objs.size))) _ _ _;have B:g.size=k:=L.len;refine wpAny_updateSeq (s:={base with heap:=h',toks:=d}) aH rfl (j2 (plainId_quiet F.plain_extend_loop _,?_)) (by rw[B,sizeLine_eq];exact le_trans hk (le_trans hn (!0))) (by show(g.push _).size≤sizeLine+1;rw[Array.size_push,B,sizeLine_eq];lia);have N:∀c o,c≠S->h'.get? c<*o->(h'.update S (mapSeq (·.push (.ref h.objs.size)))).get? c<*o:=λc o l e=>(get?_update_other _ _ (Ne.symm l)).trans e;have ag:h.objs.size≠S:=ne_of_gt (lt_of_lt_of_le H L.sz);have an:h.objs.size<h'.objs.size:=lt_size p;have aU:∀c∈f1,c≠S:=λc l q=>by
    rcases m1 c l with r|r
    .exact aC (q.symm.trans r)
    .exact r (by simp[q])
   have aT:∀c∈f2,c≠S:=λc l q=>by
    rcases m2 c l with r|r
    .exact aB (q.symm.trans r)
    .exact r (by simp[q])
   refine ih (k+1) _ d (g.push (.ref h.objs.size)) _ (!6) E (?_,N TI _ (Ne.symm aA) ti,D1.frame _ _ _ aN λc l o e=>N c o (aU c l) e,D2.frame _ _ _ aM λc l o e=>N c o (aT c l) e,?_,by rw[Array.size_push,B],λj v G=>?_,λi j t hi G=>?_,λc o l e=>?_) (get?_update_self _ aH rfl)
   .obtain ⟨b1,T,X,e1,e2,e3⟩:=zs;exact .inr (Nat.succ_pos k,b1,T,X,N z _ (Ne.symm as) e1,N T _ (ne_of_gt (lt_of_lt_of_le H e3)) e2,e3)
   .rw [Heap.size_update];exact le_trans L.sz (le_of_lt an)
   .rw [Array.getElem?_push]at G;split at G
    .rename_i ej;cases G;rw[B]at ej;rw[ej];exact(_,x,y,rfl,Z,Y,N _ _ ag p,L.sz)
    .obtain ⟨t,x',y',rfl,q1,q2,q3,q4⟩:=L.items j v G;refine(t,x',y',rfl,q1,q2,N t _ (ne_of_gt (lt_of_lt_of_le H q4)) (u t _ (λI=>?_) q3),q4);exact absurd (lt t (by simp at I⊢;rcases I with y|y|y|y<;>simp[y])) (not_lt.mpr q4)
   .have ab:∀(a:Nat),g[a]?<*.ref h.objs.size->False:=λa e=>by
     obtain⟨t,x',y',e1,_,_,q3,_⟩:=L.items a _ e;cases e1;exact absurd (lt_size q3) (lt_irrefl _)
    rw[Array.getElem?_push]at hi G;split at hi
    .rename_i ei;cases hi;split at G
     .rename_i ej;lia
     .exact (ab _ G).elim
    .split at G
     .cases G;exact(ab _ hi).elim
     .exact L.inj i j t hi G
   .have hcS:c≠S:=λq=>l (by simp[q]);exact N c o hcS (u c o (λI=>l (by simp at I⊢;rcases I with y|y|y|y<;>simp[y])) (L.keep c o l e))
  rcases L.zip with⟨P,hz,a,b,Q⟩|⟨P,b1,T,X,hz,hT,ar⟩
  .refine d_ (b_g (s:={base with heap:=h,toks:=C}) (_,hz,rfl) (AE (s:={base with heap:=h,toks:=C}) D1 D2 M O ap hz L.ti Q L.s1 L.s2 E E λx y h' d Z Y gz W aV g1 g2 p u=>?_));exact go x y h' d (false,h.objs.size,_,gz,p,L.sz) Z Y W g1 g2 p u
  .refine d_ (b_g (s:={base with heap:=h,toks:=C}) (_,hz,rfl) (rJ (s:={base with heap:=h,toks:=C}) D1 D2 M O ap hz hT L.ti L.s1 L.s2 E E λx y h' d Z Y gz W g1 g2 p u=>?_));refine go x y h' d (true,T,X,gz,u T _ (λI=>?_) hT,ar) Z Y W g1 g2 p u;exact absurd (lt T (by simp at I⊢;rcases I with y|y|y|y<;>simp[y])) (not_lt.mpr ar)
end
section
variable{prog:Program}{w:World}{A:Around}{E:Value->Shared->Prop}{z TI TO i1 i2:Addr}{f1 f2:List Addr}{n:Nat}{P1 P2:Nat->Value->Prop}{S1 S2:Nat->Heap->Prop}
theorem gT:typeLookup (.type "zip") "__len__"=pure none:=by rw[typeLookup_type,builtinLookup_eq_fast];kernel_rfl
theorem eK:typeLookup (.type "zip") "__length_hint__"=pure none:=by rw[typeLookup_type,builtinLookup_eq_fast];kernel_rfl
theorem zD(D1:Draws prog w A.in1.in1.in1 i1 f1 n P1 S1)(D2:Draws prog w A.in1.in1.in1 i2 f2 n P2 S2)(ap:ZipApart z TI TO i1 i2 TI TI)(hn:n≤1000000)(m1:∀c∈f1,c=i1\/(c∉[z,TO,i1,i2]/\c<s⁻¹))(m2:∀c∈f2,c=i2\/(c∉[z,TO,i1,i2]/\c<s⁻¹))(hz:IsZip s.heap z TI TO .none)(P:IsPair s.heap TI (.ref i1) (.ref i2))(O:IsPair s.heap TO a b)(h1:S1 0 s.heap)(h2:S2 0 s.heap)(l1:i1<s⁻¹)(l2:i2<s⁻¹)(hQ:∀h' W(k:Array Value)c,(∀b o,b∉[z,TO,i1,i2]->s.heap.get? b<*o->h'.get? b<*o)->h'.get? s⁻¹<*{cls:=.type "list",dict:=none,data:=.seq k c,slots:=#[]}->k.size=n->
   (∀(j:Nat)(v:Value),k[j]?<*v->∃t x y,v=.ref t/\P1 j x/\P2 j y/\IsPair h' t x y/\s⁻¹<t)->(∀(i j:Nat)(t:Addr),k[i]?<*.ref t->k[j]?<*.ref t->i=j)->Q (.ref s⁻¹) {s with heap:=h',toks:=W}):wpAny (model prog w) A (call (.type "list") [.ref z]) Q E s:=by
 refine callType_codes (Q₁:=λM u=>M=.ref s⁻¹/\u={s with heap:=s.heap.push {cls:=.type "list",data:=.seq #[]} }) F.called_list (F.typeCall_list_1 _) F.entry_list_init
  (code_list_new _ (rfl,rfl)) λM u N=>?_
 obtain⟨rfl,rfl⟩:=N;have U:(s.heap.push {cls:=.type "list",data:=.seq #[]}).get? s⁻¹<*{cls:=.type "list",data:=.seq #[]}:=get?_push_size _ rfl;refine((_,U,rfl),F.args_list_init_2 _ _,?_);have m:z<s⁻¹:=lt_size hz;have G:TI<s⁻¹:=lt_size P;have p:TO<s⁻¹:=lt_size O;have d:∀c,c<s⁻¹->c≠s⁻¹:=λc g=>ne_of_lt g;generalize I:s⁻¹=S at *;show wpAny _ _ (do let Y <-Builtin.List.listItems (.ref S);Builtin.List.listUpdate (.ref S) (λ_=>#[]);letGo Y.toList.reverse;Builtin.List.listExtendWith (.ref S) (.ref z) .none) _ _ _;refine d_ ?_;unfold Builtin.List.listItems;refine d_ (wpAny_seqItems U rfl (j2 ?_));show wpAny _ _ (updateSeq S (λ_=>#[])>>=λ_=>letGo (#[]:Array Value).toList.reverse>>=λ_=>Builtin.List.listExtendWith (.ref S) (.ref z) .none) _ _ _;refine d_ (wpAny_updateSeq U rfl ?_);have J:=get?_update_self (mapSeq (λ_=>(#[]:Array Value))) U rfl;have D:∀b o,b≠S->s.heap.get? b<*o->((s.heap.push {cls:=.type "list",data:=.seq #[]}).update S (mapSeq (λ_=>(#[]:Array Value)))).get? b<*o:=
  λb o l e=>(get?_update_other _ _ (Ne.symm l)).trans (nb _ e)
 have B:((s.heap.push {cls:=.type "list",data:=.seq #[]}).update S (mapSeq (λ_=>(#[]:Array Value)))).objs.size=S+1:=by rw[Heap.size_update,size_push,I]
 refine d_ (wpAny_letGo ?_);generalize (s.heap.push {cls:=.type "list",data:=.seq #[]}).update S (mapSeq (λ_=>(#[]:Array Value)))=h0 at J D B;have zz:IsZip h0 z TI TO .none:=D z _ (d z m) hz;have hT:({s with heap:=h0}:Shared).TypeIs (.ref z) "zip":=(_,zz,rfl);have H:S≠z:=Ne.symm (d z m);unfold Builtin.List.listExtendWith;refine d_ (wpAny_typeOf hT ?_);have e1:Builtin.List.listSameRef (.ref S) (.ref z)=false:=by simp[Builtin.List.listSameRef,H]
 have e2:(Value.type "zip"==Value.type "list")=false:=by decide
 have e3:(Value.type "zip"==Value.type "tuple")=false:=by decide
 simp only[e1,e2,e3,Bool.or_false,Bool.false_eq_true,if_false];refine d_ (wpAny_pyIter_zip (s:={s with heap:=h0}) zz ?_);refine d_ (wpAny_holding ?_);unfold Builtin.List.listLengthHint;refine d_ (wpAny_specialOf hT gT ?_);show wpAny _ _ (specialOf (Value.ref z) (Str.ofString "__length_hint__")>>=_) _ _ _;refine d_ (wpAny_specialOf hT eK ?_);refine j2 ?_;show wpAny _ _ (rule "list.extend.makes-room" >>= λ_=>Builtin.List.listTouch (.ref S)>>=λ_=>again (.builtin "list.extend.loop" ([.ref S,.ref z,.none],[]))) _ _ _;refine d_ (wpAny_rule ?_);refine d_ ?_;show wpAny _ _ (updateSeq S (·.push .none)>>=λ_=>updateSeq S (·.pop)) _ _ _;refine d_ (wpAny_updateSeq (s:={s with heap:=h0}) J rfl ?_);have T:=get?_update_self (mapSeq (·.push Value.none)) J rfl;refine wpAny_updateSeq (hz:=by seq_fits) T rfl ?_;have R:=get?_update_self (mapSeq (·.pop)) T rfl;have f:∀b o,b≠S->s.heap.get? b<*o->((h0.update S (mapSeq (·.push Value.none))).update S (mapSeq (·.pop))).get? b<*o:=
  λb o l e=>(get?_update_other _ _ (Ne.symm l)).trans ((get?_update_other _ _ (Ne.symm l)).trans (D b o l e))
 have r:((h0.update S (mapSeq (·.push Value.none))).update S (mapSeq (·.pop))).objs.size=S+1:=by rw[Heap.size_update,Heap.size_update];exact B
 generalize ((h0.update S (mapSeq (·.push Value.none))).update S (mapSeq (·.pop)))=h1' at R f r;have as:∀c∈f1,c<S:=λc g=>(m1 c g).elim (λq=>q▸l1) λq=>q.2;have ar:∀c∈f2,c<S:=λc g=>(m2 c g).elim (λq=>q▸l2) λq=>q.2;have off:∀c:Addr,c∉[z,TO,i1,i2]->c<S->c∉[z,TO,i1,i2,S]:=λc h1 h2 C=>by
  simp at C h1;rcases C with y|y|y|y|y
  .exact h1.1 y
  .exact h1.2.1 y
  .exact h1.2.2.1 y
  .exact h1.2.2.2 y
  .exact absurd h2 (by rw[y];exact lt_irrefl _)
 refine j2 (plainId_quiet F.plain_extend_loop _,lL (S:=S) (h0:=h1') (n:=n) (base:=s) D1 D2 ap hn (λc g=>(m1 c g).imp id λq=>off c q.1 q.2) (λc g=>(m2 c g).imp id λq=>off c q.1 q.2) (λc g=>?_) ?_ .none ?_ n 0 h1' _ #[] _ (!6) (zero_le _)
  (.inl (rfl,f z _ (d z m) hz,a,b,f TO _ (d TO p) O),f TI _ (d TI G) P,D1.frame _ _ _ h1 λc g o e=>f c o (d c (as c g)) e,D2.frame _ _ _ h2 λc g o e=>f c o (d c (ar c g)) e,le_refl _,rfl,λj v hj=>by simp at hj,λi j t hi=>by simp at hi,λc o _ e=>e) R)
 .rw [r];simp only[mem_cons,not_mem_nil,or_false]at g;rcases g with y|y|y|y|y|y
  .rw [y];exact lt_succ_of_lt m
  .rw [y];exact lt_succ_of_lt G
  .rw [y];exact lt_succ_of_lt p
  .rw [y];exact lt_succ_of_lt l1
  .rw [y];exact lt_succ_of_lt l2
  .rw [y];exact lt_succ_self _
 .simp [H,Ne.symm (d TI G),Ne.symm (d TO p),Ne.symm (d i1 l1),Ne.symm (d i2 l2)]
 .intro h W k c L ag h' Z;have an:S∉[z,TO,i1,i2]:=by simp[H,Ne.symm (d TO p),Ne.symm (d i1 l1),Ne.symm (d i2 l2)]
  refine(rfl,hQ h' W k c (λb o l e=>Z b o l (L.keep b o (λC=>?_) (f b o (d b (by rw[<-I];exact lt_size e)) e))) (Z S _ an ag) L.len (λj v hj=>?_) L.inj)
  .simp at C l;rcases C with y|y|y|y|y
   .exact l.1 y
   .exact l.2.1 y
   .exact l.2.2.1 y
   .exact l.2.2.2 y
   .exact absurd (lt_size e) (by rw[I,y];exact lt_irrefl _)
  .obtain ⟨t,x,y,rfl,p1,p2,q,X⟩:=L.items j v hj;rw[r]at X;refine(t,x,y,rfl,p1,p2,Z t _ (λC=>?_) q,X);have ab:t<S:=by
    simp at C;rcases C with y|y|y|y
    .rw [y];exact m
    .rw [y];exact p
    .rw [y];exact l1
    .rw [y];exact l2
   exact absurd (lt_of_lt_of_le ab (le_succ S)) (not_lt.mpr X)
end
end ZP
end L2
namespace L2
open PySem PySem.Spec PyProof.Rows
section
variable{X:Cx}{pins:List (Addr×Obj)}{σ:St}{H H':Hp}{s:Shared}{h':Heap}
theorem f'.many(I:f' X pins σ H s)(k:∀b o,s.heap.get? b<*o->h'.get? b<*o)(a:∀b,b<s⁻¹->H' b=H b)(f:∀b o,s⁻¹≤b->H' b<*o->uS X.prog X.w H' h' b o):f' X pins σ H' {s with heap:=h',toks:=t'}:=by
 have d:∀{b:Addr}{u:HO},H b<*u->H' b<*u:=λ{b u}e=>by rw[a b (I.hok.lt e)];exact e
 refine I.un (H':=H') (λb o e _ _ _=>k b o e,λb o e _ _ _=>(o.slots,k b o e),λb o e n _=>by rw[a b (lt_size e)];exact n,λb o e _=>(o,k b o e),λb xs e=>d e,λb o u e=>d e,λb ps e=>(#[],by rw[d e];simp)) λb o e=>?_;by_cases h:s⁻¹≤b
 .exact f b o h e
 .have g:b<s⁻¹:=Nat.lt_of_not_le h;rw[a b g]at e;exact(I.hok b o e).stay (λc u _ q=>k c u q) (λc q=>d q) λc xs q=>d q
end
noncomputable def kJ(ts:List Addr)(xs ys:List V)(b:Addr):Option HO:=((ts.zip (xs.zip ys)).lookup b).map λq=>HO.tup [q.1,q.2]
theorem E4{e:Type}{b:Addr}{v:e}:∀{ts:List Addr}{a:List e}{i:Nat},ts.Nodup->ts[i]?<*b->a[i]?<*v->(ts.zip a).lookup b<*v
 |[],_,_,_,h,_=>by simp at h
 |_::_,[],_,_,_,h=>by simp at h
 |t::ts,w::a,0,c,h1,h2=>by
  simp at h1 h2;subst h1 h2;simp[lookup_cons]
 |t::ts,w::a,i+1,c,h1,h2=>by
  have d:b≠t:=λz=>(nodup_cons.mp c).1 (by rw[<-z];exact uM (by simpa using h1));rw[List.zip_cons_cons,lookup_cons,beq_eq_false_iff_ne.mpr d];exact E4 (i:=i) (nodup_cons.mp c).2 (by simpa using h1) (by simpa using h2)
theorem E5{b:Type}:∀{l:List b},(∀(i j:Nat)(t:b),l[i]?<*t->l[j]?<*t->i=j)->l.Nodup
 |[],_=>List.nodup_nil
 |a::r,h=>by
  rw[nodup_cons];refine(λc=>?_,E5 λi j t h1 h2=>?_)
  .obtain ⟨j,d⟩:=mem_iff_getElem?.mp c;have:=h 0 (j+1) a rfl (by simpa using d);lia
  .have:=h (i+1) (j+1) t (by simpa using h1) (by simpa using h2);lia
theorem ck{a:Type}{b:Addr}{v:a}:∀{l:List (Addr×a)},l.lookup b<*v->(b,v,)∈l
 |[],e=>by cases e
 |(c,x)::r,e=>by
  rw[lookup_cons]at e;by_cases d:b=c
  .subst d;simp at e;simp[e]
  .rw [beq_eq_false_iff_ne.mpr d]at e;exact mem_cons_of_mem _ (ck e)
theorem fY{d:Sd}(a:d.has H xs)(b:d.has H ys):xs=ys:=by
 cases d with
 |tx x k=>exact(show xs=_ from a).trans (show ys=_ from b).symm
 |tp c=>
  have a:H c=_:=a;have b:H c=_:=b;rw[a]at b;cases b;rfl
 |ls c=>
  have a:H c=_:=a;have b:H c=_:=b;rw[a]at b;cases b;rfl
theorem ny{g:TG}{n:TS}{D:Ends}(t:xs.length=ys.length)(c:Nat->St->Hp->Prop)(h0:c 0 b H)(u:∀i b H,c i b H->d1.has H xs/\d2.has H ys)(s:∀i x y p b H,xs[i]?<*x->ys[i]?<*y->H p=none->c i b H->g (.ref p) b (upd H p (.tup [x,y])) λd l=>n {D with nx:=c (i+1),ct:=c (i+1),bk:=D.nx} d l)(w:∀b H,c xs.length b H->D.nx b H):∃W:Nat->Nat->St->Hp->Prop,(∃m,W 0 m b H)/\∀i m b H,W i m b H->
   ((zy d1 d2).stop i H/\D.nx b H)\/((zy d1 d2).go i H/\∃N:St->Hp->Prop,(∀f H',N f H'->∃o,o<m/\W (i+1) o f H')/\∀v H',(zy d1 d2).yld i H v H'->g v b H' λd l=>n {D with nx:=N,ct:=N,bk:=D.nx} d l):=by
 refine(λi m b H=>m=xs.length-i/\i≤xs.length/\c i b H,(xs.length,!1,zero_le _,h0),?_);rintro i m b H⟨rfl,F,p⟩;obtain⟨h1,h2⟩:=u i b H p;by_cases k:i<xs.length
 .refine .inr ((xs,ys,xs[i],ys[i]'(!6),h1,h2,j1 _,j1 _),c (i+1),λf H' r=>(xs.length-(i+1),!6,rfl,k,r),λv H' q=>?_);obtain⟨a,j,h,x,y,E,C,B,A,rfl,z,rfl⟩:=q;have:=fY E h1;have:=fY C h2;subst j h;exact s i x y a b H B A z p
 .have e:i=xs.length:=by lia
  subst e;exact .inl ((xs,ys,h1,h2,t,rfl),w b H p)
theorem oE(h:H a<*.tup xs\/H a<*.lst xs)(b:∀d2:Sd,(∀H':Hp,H' a=H a->d2.has H' xs)->R (.tx x) d2):tF H (.str x) (.ref a) R:=by
 rcases h with h|h
 .exact .inl (x,a,xs,rfl,rfl,h,b (.tp a) λH' e=>show H' a=_ from e.trans h)
 .exact .inr (.inl (x,a,xs,rfl,rfl,h,b (.ls a) λH' e=>show H' a=_ from e.trans h))
structure eI(K:Frag)(x qual:Str)(st:Stmt)(f:Addr)(fd:FuncData):Prop where
 ex:∃(oc:Value)(od:Option Addr)(dV kV doc pm:Value)(an:Option Addr)(cdv ct:Value)(osl:Array (Option Value)),
  fd=fnOf x qual (nt st) (ln st) (h7 st) dV kV doc pm an cdv ct/\K.lookup f=some (oc,od,.func fd,osl)/\codeIn K cdv qual=true
 kp:keepIn K (.ref f)=true
theorem eI.ok{P:Program}{w:World}{K:Frag}{st:Stmt}(F:eI K x qual st f l)(S:s_ N ps (h7 st))(len:∀b H Q E,g b H Q E->b.length=ps.length)(c:∀(cdv:Value)(A:Around)(a:List Env)(s:Shared)(H:Hp)(b:List V)(Q:VK)(E:XK),ah k (A.deeper (envOfC qual (h7 st) s⁻¹ f cdv))->g b H Q E->
   ∃t,vH (aK nq P w K mg base N qual (h7 st) f cdv A a s H E).nox (ln st) t/\t {nx:=λ_ H'=>Q .non H',rt:=Q} (start N b) H):aa P w K mg base nq (k+1) f l ps g:=by
 obtain⟨n,m,o,kV,doc,pm,an,cdv,ct,i,rfl,lk,e⟩:=F.ex;refine gj lk e S len λA a s H b Q E j d=>?_;obtain⟨t,h,q⟩:=c cdv A a s H b Q E j d;exact(t,h.nox,q)
theorem dU{P:Program}{w:World}{K:Frag}{mg:Str->Option Value}{base:Heap}{st:Stmt}{j h kV doc pm ct:Value}(lk:K.lookup f<*(j,l,.func (fnOf x qual (nt st) (ln st) (h7 st) h kV doc pm an (.ref c) ct),i))(e:codeIn K (.ref c) qual=true)(S:s_ N ps (h7 st))(len:∀d H Q E,g d H Q E->d.length=ps.length)(b:∀(A:Around)(a:List Env)(s:Shared)(H:Hp)(d:List V)(Q:VK)(E:XK),ah k (A.deeper (envOfC qual (h7 st) s⁻¹ f (.ref c)))->g d H Q E->
   ∃t,vH (aK nq P w K mg base N qual (h7 st) f (.ref c) A a s H E) (ln st) t/\t {nx:=λ_ H'=>Q .non H',rt:=Q} (start N d) H):aa P w K mg base nq (k+1) f (fnOf x qual (nt st) (ln st) (h7 st) h kV doc pm an (.ref c) ct) ps g:=gj lk e S len b
end L2
namespace RA
open PySem L2
structure Al(H:Hp)(cW wk:Addr)(L:LN)(t wd y m:Addr):Prop where
 ex:∃dx,H wk<*.ins cW dx [("letters",.str (tx L),),("things",.ref t,),("words",.ref wd,),("ways",.ref y,),("marks",.ref m,)]
noncomputable def na(ws:LL):List V:=ws.map λw=>V.str (tx w)
noncomputable def zW(ti:TK)(H:Hp)(ks:LL)(vs:List V):Prop:=vs.length=ks.length/\∀(i:Nat)(k:LN)(v:V),ks[i]?<*k->vs[i]?<*v->uE ti H k v
theorem zW.same(h:zW d H ks c)(s:∀b xs,H b<*.tup xs->H' b<*.tup xs):zW d H' ks c:=(h.1,λi k v a b=>(h.2 i k v a b).same s)
theorem zW.snoc(h:zW d H ks e)(g:uE d H k v):zW d H (ks++[k]) (e++[v]):=by
 refine(by rw[uA,uA,h.1];rfl,λi k' f a b=>?_);by_cases c:i<ks.length
 .rw [getElem?_append_left c]at a;rw[getElem?_append_left (by rw[h.1];exact c)]at b;exact h.2 i k' f a b
 .rw [getElem?_append_right (le_of_not_lt c)]at a;rw[getElem?_append_right (by rw[h.1];exact le_of_not_lt c),h.1]at b;have hz:i-ks.length=0:=by
   have:=(l' a).1;simp at this;omega
  rw[hz]at a b;cases a;cases b;exact g
noncomputable def xj(H:Hp)(rows:List Addr)(R:LL):Prop:=rows.length=R.length/\∀(i:Nat)(a:Addr)(r:LN),rows[i]?<*a->R[i]?<*r->H a<*.lst (b' r)
structure wJ(g:LN->Nat->LN)(nL:Nat)(ks:LL)(R:LL):Prop where
 row:∀(r:Nat)(row:LN)(k:LN),R[r]?<*row->ks[r]?<*k->row.length=nL/\∀(q x:Nat),row[q]?<*x->ks[x]?<*g k q
noncomputable def AY(ti:TK)(L:LN)(g:LN->Nat->LN)(U:LL)(Rest:Hp->Prop):Sp:=λvs H Q _=>∃k v,vs=[v]/\uE ti H k v/\k∈U/\Rest H/\
 ∀gs xs H',a' H H'->(H' gs<*.tup xs\/(H gs=none/\H' gs<*.lst xs))->xs.length=L.length->(∀(q:Nat)(x:V),xs[q]?<*x->uE ti H' (g k q) x)->Q (.ref gs) H'
noncomputable def AZ(ti:TK)(mk:LN->Bool)(U:LL)(Rest:Hp->Prop):Sp:=λvs H Q _=>∃k v,vs=[v]/\uE ti H k v/\k∈U/\Rest H/\∀H',a' H H'->Q (.bl (mk k)) H'
noncomputable def bD:Option Nat->V
 |none=>.non
 |some n=>.int (n:Int)
noncomputable def lY(cW:Addr):Sp:=λvs H Q _=>∃x dx L v,vs=[.ref x,.str (tx L),v]/\H x=some (.ins cW dx [])/\
 ∀t wd y m H',t≠wd->t≠y->t≠m->wd≠y->wd≠m->y≠m->H t=none->H wd=none->H y=none->H m=none->(∀b o,b≠x->H b<*o->H' b<*o)->Al H' cW x L t wd y m->H' t<*.lst [v]->H' wd<*.lst [.str (tx [])]->H' y<*.lst []->H' m<*.lst []->Q .non H'
noncomputable def A0(cW:Addr)(ti:TK)(L:LN)(g:LN->Nat->LN)(mk:LN->Bool)(U:LL)(Rest:Hp->Prop)(fg fm:Addr):Sp:=λvs H Q _=>∃(s:LN)(sv:V)(most:Option Nat),vs=[.str (tx L),sv,.ref fg,.ref fm,bD most]/\AC L/\uE ti H s sv/\s∈U/\(∀k∈U,∀q,q<L.length->g k q∈U)/\U.length≤100000/\Rest H/\
 ∀(wk t wd y m:Addr)(ks:LL)(vks:List V)(ws:LL)(rows:List Addr)(R:LL)(B:List Bool)(H':Hp),a' H H'->Al H' cW wk L t wd y m->H' t<*.lst vks->zW ti H' ks vks->H' wd<*.lst (na ws)->H' y<*.lst (rows.map V.ref)->xj H' rows R->H' m<*.lst (B.map V.bl)->
  Bf g L s ks ws R.length 0->wJ g L.length ks R->B.length=R.length->(∀(r:Nat)(k:LN)(b:Bool),ks[r]?<*k->B[r]?<*b->b=mk k)->(∀k∈ks,k∈U)->ks.length≤U.length->(R.length=ks.length\/∃n,most=some n/\n<ks.length)->Q (.ref wk) H'
theorem A1(h:n≤100000):n<sizeLine:=by rw[sizeLine_eq];exact lt_of_le_of_lt h (!0)
theorem sP{A B:Prop}(h:A):if (!decide (V.int n=V.non))=true then A else B:=by
 rw[decide_eq_false (λz=>by cases z)];exact ai h
structure WI(P:Program)(w:World)(H0 H:Hp)(cW:Addr)(ti:TK)(L:LN)(wk t wd y m d:Addr)(ks:LL)(vks:List V)(ws:LL)(rows:List Addr)(R:LL)(B:List Bool):Prop where
 sm:a' H0 H
 obj:Al H cW wk L t wd y m
 ht:H t<*.lst vks
 th:zW ti H ks vks
 hw:H wd<*.lst (na ws)
 hy:H y<*.lst (rows.map V.ref)
 wr:xj H rows R
 hm:H m<*.lst (B.map V.bl)
 rm:uG P w H d ti ks
 n1:H0 t=none
 n2:H0 wd=none
 n3:H0 y=none
 n4:H0 m=none
 n5:H0 d=none
 d1:t≠wd
 d2:t≠y
 d3:t≠m
 d4:wd≠y
 d5:wd≠m
 d6:y≠m
 e1:d≠t
 e2:d≠wd
 e3:d≠y
 e4:d≠m
 e5:d≠wk
 nr:∀a∈rows,a≠t/\a≠wd/\a≠y/\a≠m/\a≠d
section
variable{P:Program}{w:World}{H0 H:Hp}{cW:Addr}{ti:TK}{L:LN}{wk t wd y m d:Addr}{ks:LL}{vks:List V}{ws:LL}{rows:List Addr}{R:LL}{B:List Bool}
theorem WI.any(h:WI P w H0 H cW ti L wk t wd y m d ks vks ws rows R B)(s:a' H H'):WI P w H0 H' cW ti L wk t wd y m d ks vks ws rows R B:=
 {h with
  sm:=h.sm.trans s
  obj:=let⟨dx,e⟩:=h.obj.ex;(dx,s _ _ e)
  ht:=s _ _ h.ht
  th:=h.th.same λb xs e=>s _ _ e
  hw:=s _ _ h.hw
  hy:=s _ _ h.hy
  wr:=(h.wr.1,λi a r h1 h2=>s _ _ (h.wr.2 i a r h1 h2))
  hm:=s _ _ h.hm
  rm:=h.rm.same λb o e _=>s _ _ e}
theorem WI.beside(h:WI P w H0 H cW ti L wk t wd y m d ks vks ws rows R B)(j:H a<*.lst xs)(h0:H0 a=none)(s:a≠t)(q:a≠wd)(p:a≠y)(n:a≠m)(l:a≠d)(k:a∉rows):WI P w H0 (upd H a o) cW ti L wk t wd y m d ks vks ws rows R B:=by
 have f:∀{b:Addr}{u:HO},H b<*u->b≠a->upd H a o b<*u:=λe g=>by rw[a_ g];exact e
 have c:∀b zs,H b<*.tup zs->upd H a o b<*.tup zs:=λb zs e=>f e (n_ e j (!5));exact {h with
  sm:=a'.set h.sm h0
  obj:=let⟨dx,e⟩:=h.obj.ex;(dx,f e (n_ e j (!5)))
  ht:=f h.ht (Ne.symm s)
  th:=h.th.same c
  hw:=f h.hw (Ne.symm q)
  hy:=f h.hy (Ne.symm p)
  wr:=(h.wr.1,λi b r h1 h2=>f (h.wr.2 i b r h1 h2) λz=>k (by rw[<-z];exact uM h1))
  hm:=f h.hm (Ne.symm n)
  rm:=h.rm.same λb u e g=>by
   rcases g with rfl|⟨zs,rfl⟩
   .exact f e (Ne.symm l)
   .exact c b zs e}
theorem WI.new(h:WI P w H0 H cW ti L wk t wd y m d ks vks ws rows R B)(A:uE ti H k v)(s:uG P w (upd H d n) d ti (ks++[k])):WI P w H0 (upd (upd (upd H d n) t (.lst (vks++[v]))) wd (.lst (na ws++[.str (tx a)]))) cW ti L wk t wd y m d (ks++[k]) (vks++[v]) (ws++[a]) rows R B:=by
 have o:∃φ,H d<*.ext φ:=by
  have j:=h.rm;unfold uG at j;by_cases c:ti=.i
  .rw [if_pos c]at j;exact(_,j.1)
  .rw [if_neg c]at j;obtain⟨kvs,e,_⟩:=j;exact(_,e)
 obtain⟨φ,o⟩:=o;have l:∀{b:Addr}{u:HO},H b<*u->b≠d->b≠t->b≠wd->upd (upd (upd H d n) t (.lst (vks++[v]))) wd (.lst (na ws++[.str (tx a)])) b<*u:=λe h1 h2 D=>by rw[a_ D,a_ h2,a_ h1];exact e
 have g:∀b zs,H b<*.tup zs->upd (upd (upd H d n) t (.lst (vks++[v]))) wd (.lst (na ws++[.str (tx a)])) b<*.tup zs:=λb zs e=>l e (n_ e o (!5)) (n_ e h.ht (!5)) (n_ e h.hw (!5));have E:=h.obj.ex;obtain⟨dx,q⟩:=E;exact {h with
  sm:=a'.set (a'.set (a'.set h.sm h.n5) h.n1) h.n2
  obj:=(dx,l q (Ne.symm h.e5) (n_ q h.ht (!5)) (n_ q h.hw (!5)))
  ht:=by rw[a_ h.d1,j']
  th:=(h.th.same g).snoc (A.same g)
  hw:=by rw[j',na,na,map_append];rfl
  hy:=l h.hy (Ne.symm h.e3) (Ne.symm h.d2) (Ne.symm h.d4)
  wr:=(h.wr.1,λi b r h1 h2=>l (h.wr.2 i b r h1 h2) (h.nr b (uM h1)).2.2.2.2 (h.nr b (uM h1)).1 (h.nr b (uM h1)).2.1)
  hm:=l h.hm (Ne.symm h.e4) (Ne.symm h.d3) (Ne.symm h.d5)
  rm:=s.same λb u e C=>by
   rcases C with rfl|⟨zs,rfl⟩
   .rw [a_ h.e2,a_ h.e1];exact e
   .have p:b≠d:=λz=>by
     rw[z,j']at e;have f:=s;unfold uG at f;by_cases c:ti=.i
     .rw [if_pos c,j']at f;rw[e]at f;cases f.1
     .rw [if_neg c]at f;obtain⟨kvs,x,_⟩:=f;rw[j',e]at x;cases x
    rw[a_ p]at e;exact g b zs e}
theorem WI.row(h:WI P w H0 H cW ti L wk t wd y m d ks vks ws rows R B)(o:H a<*.lst (b' r))(x:a≠t)(v:a≠wd)(l:a≠y)(s:a≠m)(q:a≠d):WI P w H0 (upd H y (.lst (rows.map V.ref++[.ref a]))) cW ti L wk t wd y m d ks vks ws (rows++[a]) (R++[r]) B:=by
 have f:∀{b:Addr}{u:HO},H b<*u->b≠y->upd H y (.lst (rows.map V.ref++[.ref a])) b<*u:=λe g=>by rw[a_ g];exact e
 have c:∀b zs,H b<*.tup zs->upd H y (.lst (rows.map V.ref++[.ref a])) b<*.tup zs:=λb zs e=>f e (n_ e h.hy (!5));have p:=h.obj.ex;obtain⟨dx,k⟩:=p;exact {h with
  sm:=a'.set h.sm h.n3
  obj:=(dx,f k (n_ k h.hy (!5)))
  ht:=f h.ht h.d2
  th:=h.th.same c
  hw:=f h.hw h.d4
  hy:=by rw[j',map_append];rfl
  wr:=by
   refine(by rw[uA,uA,h.wr.1];rfl,λi b n h1 h2=>?_);by_cases j:i<rows.length
   .rw [getElem?_append_left j]at h1;rw[getElem?_append_left (by rw[<-h.wr.1];exact j)]at h2;exact f (h.wr.2 i b n h1 h2) (h.nr b (uM h1)).2.2.1
   .rw [getElem?_append_right (le_of_not_lt j)]at h1;rw[getElem?_append_right (by rw[<-h.wr.1];exact le_of_not_lt j),<-h.wr.1]at h2;have hz:i-rows.length=0:=by
     have:=(l' h1).1;simp at this;omega
    rw[hz]at h1 h2;cases h1;cases h2;exact f o l
  hm:=f h.hm (Ne.symm h.d6)
  rm:=h.rm.same λb u e g=>by
   rcases g with rfl|⟨zs,rfl⟩
   .exact f e h.e3
   .exact c b zs e
  nr:=λb g=>by
   rcases mem_append.mp g with z|z
   .exact h.nr b z
   .rw [uN z];exact(x,v,l,s,q)}
theorem WI.mark(h:WI P w H0 H cW ti L wk t wd y m d ks vks ws rows R B):WI P w H0 (upd H m (.lst (B.map V.bl++[.bl b]))) cW ti L wk t wd y m d ks vks ws rows R (B++[b]):=by
 have f:∀{c:Addr}{u:HO},H c<*u->c≠m->upd H m (.lst (B.map V.bl++[.bl b])) c<*u:=λe g=>by rw[a_ g];exact e
 have a:∀c zs,H c<*.tup zs->upd H m (.lst (B.map V.bl++[.bl b])) c<*.tup zs:=λc zs e=>f e (n_ e h.hm (!5));have k:=h.obj.ex;obtain⟨dx,j⟩:=k;exact {h with
  sm:=a'.set h.sm h.n4
  obj:=(dx,f j (n_ j h.hm (!5)))
  ht:=f h.ht h.d3
  th:=h.th.same a
  hw:=f h.hw h.d5
  hy:=f h.hy h.d6
  wr:=(h.wr.1,λi c r h1 h2=>f (h.wr.2 i c r h1 h2) (h.nr c (uM h1)).2.2.2.1)
  hm:=by rw[j',map_append];rfl
  rm:=h.rm.same λc u e g=>by
   rcases g with rfl|⟨zs,rfl⟩
   .exact f e h.e4
   .exact a c zs e}
end
theorem CT(l:LN)(x:Nat):b' (l++[x])=b' l++[V.int (x:Int)]:=by simp[b']
theorem CU{a:Type}{l:List a}{x y:a}{i:Nat}(h:l[i]?<*y):(l++[x])[i]?<*y:=by
 rw[getElem?_append_left (l' h).1];exact h
theorem DJ{a:Type}{l:List a}{x y:a}(b:i<l.length)(h:(l++[x])[i]?<*y):l[i]?<*y:=by
 rw[getElem?_append_left b]at h;exact h
theorem Am{a:Type}{l:List a}{x y:a}(e:(l++[x])[i]?<*y):l[i]?<*y\/(i=l.length/\y=x):=by
 by_cases b:i<l.length
 .rw [getElem?_append_left b]at e;exact .inl e
 .rw [getElem?_append_right (!6)]at e;have:i-l.length=0:=by
   have:=(l' e).1;simp at this;omega
  rw[this]at e;exact .inr (!6,(Option.some.inj e).symm)
theorem iI(h:k∈ts):x_ ts k=some (ts.idxOf k)/\ts[ts.idxOf k]?<*k:=(if_pos h,by rw[j1 (idxOf_lt_length_of_mem h),getElem_idxOf])
structure wX(g:LN->Nat->LN)(L s0:LN)(mk:LN->Bool)(U ks ws R:LL)(B:List Bool)(q:Nat):Prop where
 bf:Bf g L s0 ks ws R.length q
 le:R.length≤ks.length
 ways:wJ g L.length ks R
 bl:B.length=R.length
 mks:∀(r:Nat)(k:LN)(b:Bool),ks[r]?<*k->B[r]?<*b->b=mk k
 sub:∀k∈ks,k∈U
 left:vS U ks+ks.length≤U.length
 wl:∀a∈ws,a.length≤ks.length
noncomputable def yO(g:LN->Nat->LN)(ks:LL)(n:Nat)(r:LN)(q:Nat):Prop:=r.length=q/\∀(q' x:Nat)(k:LN),ks[n]?<*k->r[q']?<*x->ks[x]?<*g k q'
section
variable{g:LN->Nat->LN}{L s0:LN}{mk:LN->Bool}{U ks ws R:LL}{B:List Bool}{q n:Nat}{r a k0:LN}
theorem wX.start(c:s0∈U):wX g L s0 mk U [s0] [[]] [] [] 0 where
 bf:=Bf.start g L s0
 le:=zero_le _
 ways:=⟨λr d k h=>by simp at h⟩
 bl:=rfl
 mks:=λr k b _ h=>by simp at h
 sub:=λk e=>by rw[uN e];exact c
 left:=by
  have h1:=cu (U:=U) (ts:=[]) c (!1);have h2:vS U ([]:LL)≤U.length:=List.countP_le_length;simp at h1⊢;lia
 wl:=λa f=>by rw[uN f];exact zero_le _
theorem wX.old(h:wX g L s0 mk U ks ws R B q)(b:L.Nodup)(e:ks[R.length]?<*k0)(f:ws[R.length]?<*a)(c:q<L.length)(d:g k0 q∈ks):wX g L s0 mk U ks ws R B (q+1):=
 {h with bf:=h.bf.old b e f c d}
theorem wX.new(h:wX g L s0 mk U ks ws R B q)(j:L.Nodup)(d:ks[R.length]?<*k0)(f:ws[R.length]?<*a)(o:q<L.length)(e:g k0 q∉ks)(i:g k0 q∈U):wX g L s0 mk U (ks++[g k0 q]) (ws++[a++[L.getD q 0]]) R B (q+1) where
 bf:=h.bf.new j d f o e
 le:=by rw[uA];exact le_trans h.le (le_add_right _ _)
 ways:=⟨λr c k h1 h2=>by
  have m:r<ks.length:=lt_of_lt_of_le (l' h1).1 h.le;obtain⟨t,s⟩:=h.ways.row r c k h1 (DJ m h2);exact(t,λq x l=>CU (s q x l))⟩
 bl:=h.bl
 mks:=λr k b h1 h2=>h.mks r k b (DJ (lt_of_lt_of_le (by rw[<-h.bl];exact(l' h2).1) h.le) h1) h2
 sub:=λk d=>by
  rcases mem_append.mp d with z|z
  .exact h.sub k z
  .rw [uN z];exact i
 left:=by
  have h1:=cu (U:=U) (ts:=ks) i e;have h2:=h.left;rw[uA];show vS U (ks++[g k0 q])+(ks.length+1)≤U.length;lia
 wl:=λb p=>by
  rw[uA];rcases mem_append.mp p with z|z
  .exact le_trans (h.wl b z) (le_add_right _ _)
  .rw [uN z,uA];exact Nat.add_le_add_right (h.wl a (uM f)) 1
theorem wX.next(h:wX g L s0 mk U ks ws R B L.length)(e:ks[R.length]?<*k0)(d:yO g ks R.length r L.length):wX g L s0 mk U ks ws (R++[r]) (B++[mk k0]) 0 where
 bf:=by rw[uA];exact h.bf.next
 le:=by rw[uA];exact(l' e).1
 ways:=⟨λi c k h1 h2=>by
  rcases Am h1 with z|⟨rfl,rfl⟩
  .exact h.ways.row i c k z h2
  .exact (d.1,λq x f=>d.2 q x k h2 f)⟩
 bl:=by rw[uA,uA,h.bl];rfl
 mks:=λi k b h1 h2=>by
  rcases Am h2 with z|⟨rfl,rfl⟩
  .exact h.mks i k b h1 z
  .rw [h.bl,e]at h1;cases h1;rfl
 sub:=h.sub
 left:=h.left
 wl:=h.wl
theorem yO.nil:yO g ks n [] 0:=(rfl,λq x k _ h=>by simp at h)
theorem yO.grow(h:yO g ks n r q)(c:n<ks.length):yO g (ks++[x]) n r q:=(h.1,λb y k h1 h2=>CU (h.2 b y k (DJ c h1) h2))
theorem yO.snoc(h:yO g ks n r q)(d:ks[n]?<*k0)(c:g k0 q∈ks):yO g ks n (r++[ks.idxOf (g k0 q)]) (q+1):=by
 refine(by rw[uA,h.1];rfl,λb x k h1 h2=>?_);rcases Am h2 with z|⟨rfl,rfl⟩
 .exact h.2 b x k h1 z
 .rw [d]at h1;cases h1;rw[h.1];exact(iI c).2
end
noncomputable def gW(W:LL)(k:LN)(q:Nat):LN:=[(W.getD (k.headD 0) []).getD q 0]
noncomputable def uW(W:LL):LL:=(List.range W.length).map λn=>[n]
noncomputable def mkW(B:List Bool)(k:LN):Bool:=B.getD (k.headD 0) false
theorem gY:[n]∈uW W↔n<W.length:=by
 unfold uW;rw[mem_map];constructor
 .rintro⟨m,a,e⟩;injection e with e;rw[<-e];exact mem_range.mp a
 .exact λh=>(n,mem_range.mpr h,rfl)
theorem dg(W:LL):(uW W).length=W.length:=by rw[uW,j_,length_range]
theorem bp(h:k∈uW W):∃n,k=[n]/\n<W.length:=by
 unfold uW at h;obtain⟨n,a,e⟩:=mem_map.mp h;exact(n,e.symm,mem_range.mp a)
theorem pQ(d:g_ L W B):∀k∈uW W,∀q,q<L.length->gW W k q∈uW W:=λk c q a=>by
 obtain⟨n,rfl,b⟩:=bp c;refine gY.mpr ?_;show(W.getD n []).getD q 0<W.length;have e:W.getD n []=W[n]:=by rw[m8,j1 b];rfl
 rw[e];obtain⟨h1,h2⟩:=d.row W[n] (getElem_mem b);have f:W[n].getD q 0=W[n][q]'(by rw[h1];exact a):=by rw[m8,j1 (by rw[h1];exact a)];rfl
 rw[f];exact h2 _ (getElem_mem _)
theorem DM(r:Nat):∀(m:Nat)(w:LN),w.length=m->aG (gW W) L [r] w=[run L W r w]:=by
 intro m;induction m with
 |zero=>
  intro w hw;rw[length_eq_zero_iff.mp hw];rfl
 |succ m a=>
  intro w hw;obtain⟨c,v,rfl⟩:∃c v,w=v++[c]:=(w.getLast (by intro z;rw[z]at hw;cases hw),w.dropLast,(List.dropLast_concat_getLast _).symm);rw[DI,a v (by simpa using hw),xV];rfl
theorem ol.tups(h:ol H m L W B)(s:∀b xs,H b<*.tup xs->H' b<*.tup xs):ol H' m L W B:=by
 obtain⟨d,mk,c,h1,h2,j,g,f⟩:=h;exact(d,mk,c,s _ _ h1,s _ _ h2,s _ _ j,g,λi r e=>let⟨ws,a,b⟩:=f i r e;(ws,a,s _ _ b))
theorem zX(s:wv P0 H H')(a:vL H P0 sites):∀b xs,H b<*.tup xs->H' b<*.tup xs:=λb xs e=>s b _ (λz=>by
 obtain⟨ps,c,_⟩:=a;rw[z,c]at e;cases e) e
theorem Bx(a:wv P0 H g)(b:wv P0 g f):wv P0 H f:=λc o d e=>b c o d (a c o d e)
theorem mj(s:a' H H'):wv P0 H H':=λb o _ e=>s b o e
noncomputable def DN(cW P0:Addr)(sites:List (Pos×Str)):Sp:=λvs H Q _=>∃(m:Addr)(L:LN)(W:LL)(B:List Bool),vs=[.ref m]/\ol H m L W B/\g_ L W B/\vL H P0 sites/\
 ∀(wk t wd y md:Addr)(ks:LL)(vks:List V)(ws:LL)(rows:List Addr)(R:LL)(Bm:List Bool)(H':Hp),wv P0 H H'->vL H' P0 sites->Al H' cW wk L t wd y md->H' t<*.lst vks->zW .i H' ks vks->H' wd<*.lst (na ws)->H' y<*.lst (rows.map V.ref)->xj H' rows R->H' md<*.lst (Bm.map V.bl)->
  Bf (gW W) L [0] ks ws ks.length 0->wJ (gW W) L.length ks R->R.length=ks.length->Bm.length=R.length->(∀(r:Nat)(k:LN)(b:Bool),ks[r]?<*k->Bm[r]?<*b->b=mkW B k)->(∀k∈ks,k∈uW W)->ks.length≤W.length->Q (.ref wk) H'
end RA
namespace L2
open PySem PySem.Spec PyProof.Rows
section
variable{X:Cx}
end
end L2
namespace RA
open PySem L2
theorem nU{n:Nat}(h:n≠0):decide (V.int (n:Int)=V.int 0)=false:=decide_eq_false λz=>h (Int.ofNat_inj.mp (V.int.inj z))
theorem eV:TriplesOk (#[]:Array Value).toList:=trivial
theorem AK(h:vL H P0 sites)(s:a' H H'):vL H' P0 sites:=by
 obtain⟨ps,c,h2,d⟩:=h;exact(ps,s _ _ c,h2,λx b=>(d x b).imp id λa=>by obtain⟨g,f,e⟩:=a;exact(g,f,s _ _ e))
end RA
namespace L2
open PySem PySem.Spec PyProof.Rows
noncomputable def ja(a:Addr):It:=⟨λi H=>∃xs x,H a=some (.lst xs)/\xs[i]?<*x,λi H v H'=>∃p x xs,H a=some (.lst xs)/\xs[i]?=some x/\v=.ref p/\H p=none/\H'=upd H p (.tup [.int (i:Int),x]),λi H=>∃xs,H a=some (.lst xs)/\i=xs.length⟩
theorem hX{K:Frag}(a e it:Addr)(r:e≠it):bP P w K (.Tuple es kt pt) (ja a) [e,it] e (λi h=>(∃f,IsEnum h e it i f)/\h.IsListIter it a i)  where
 mem:=by simp
 obj:=λi h ab c C=>by
  obtain⟨⟨f,j⟩,⟨M,m,_,d1⟩⟩:=ab;simp only[mem_cons,not_mem_nil,or_false]at C;rcases C with rfl|rfl
  .exact (_,j,λv q=>by cases q)
  .exact (M,m,λv q=>by rw[d1]at q;cases q)
 keep:=λi h h' Z k=>by obtain⟨⟨f,j⟩,⟨M,m,r1⟩⟩:=Z;exact((f,k e (!1) _ j),(M,k it (!1) _ m,r1))
 item:=by
  rintro X hP hw hK C i D s σ H E I O⟨⟨f,j⟩,y⟩hg;subst hP hw hK;obtain⟨xs,x,N,hx⟩:=hg;obtain⟨d,T,p,hz⟩:=I.list (lb.of N);obtain⟨u,hu,ru⟩:=T.get hx;have B:s.heap.IsList a d.toArray:=p.isList;have W:i<d.toArray.size:=by
   have:=(l' hu).1;simpa using this
  have t:a≠it:=by
   obtain⟨o,m,L,_⟩:=B;obtain⟨o2,G,J,_⟩:=y;rintro rfl;rw[m]at G;cases G;rw[L]at J;exact absurd J (!0)
  have Y:e≠a:=by
   obtain⟨o,m,L,_⟩:=B;rintro rfl;have F:s.heap.get? e<*_:=j;rw[m]at F;cases F;exact absurd (show Value.type "enumerate"=Value.type "list" from L) (!0)
  refine wpAny_pyNext_enum_itemD (Draws.list (prog:=X.prog) (w:=X.w) (A:=X.A.in1) (I.ok.hd C) it a t d.toArray) j (y,B) W r (by simp[r,Y]) λv g R pv ho st U hsz gk=>(_,rfl,?_);have ev:v=u:=by
   have:d.toArray[i]?<*v:=pv;rw[getElem?_toArray,hu]at this;exact(Option.some.inj this).symm
  subst ev;refine wpAny_letOwnedTupleGo_enum (s:={s with heap:=g,toks:=R+1}) ho λg' ge gs=>?_;have Q:∀b o,b≠e->g.get? b<*o->g'.get? b<*o:=λb o l q=>(gs.2 b l).trans q;have ne:s⁻¹≠e:=ne_of_gt (lt_size j);have tup:uS X.prog X.w (upd H s⁻¹ (.tup [.int (i:Int),x])) g' s⁻¹ (.tup [.int (i:Int),x]):=
   (o9 (by show 2≤16777216;decide),[.int i R,v],.cons (_,rfl) (.cons ru .nil),(_,Q _ _ ne U,rfl,0,rfl))
  refine(.ref s⁻¹,_,I.turnedNew (S:=[e,it]) (h':=g') (t':=R+1) (λb o l q=>Q b o (λz=>l (by simp[z])) (gk b o (λz=>l (by simp[z])) (λz=>l (by simp[z])) q)) O tup,rfl,
   (_,x,xs,N,hx,rfl,I.hok.fresh (le_refl _),rfl),((_,by rw[Int.natCast_succ];exact ge),st.1.at λo q=>Q _ o (λz=>r z.symm) q),λb l=>?_)
  have lt:b<s⁻¹:=by
   obtain⟨M,m,_⟩:=y;simp only[mem_cons,not_mem_nil,or_false]at l;rcases l with rfl|rfl
   .exact lt_size j
   .exact lt_size m
  rw[a_ (ne_of_lt lt)];exact(O b l).1
 done:=by
  rintro X hP hw hK C i D s σ H E I O⟨⟨f,j⟩,y⟩n;subst hP hw hK;obtain⟨xs,N,rfl⟩:=n;obtain⟨d,T,p,hz⟩:=I.list (lb.of N);have B:s.heap.IsList a d.toArray:=p.isList;have t:a≠it:=by
   obtain⟨o,m,L,_⟩:=B;obtain⟨o2,G,J,_⟩:=y;rintro rfl;rw[m]at G;cases G;rw[L]at J;exact absurd J (!0)
  have hsz:xs.length=d.toArray.size:=by rw[T.length];simp
  refine wpAny_pyNext_enum_endD (Draws.list (prog:=X.prog) (w:=X.w) (A:=X.A.in1) (I.ok.hd C) it a t d.toArray) j (by rw[<-hsz];exact y,B) λg gs=>(rfl,?_);exact I.turnedL (S:=[e,it]) (λb o l q=>gs b o (λz=>l (by simp[z])) q) O
 self:=λ_ _ _ _ _ st h=>by
  obtain⟨⟨f,j⟩,_⟩:=st;exact wpAny_pyIter_enum j h
noncomputable def iL(t:TA):TI:=λσ H R=>t σ H λvs H1=>∃a xs,vs=[.ref a]/\((H1 a=some (.tup xs)/\R (pO a) H1)\/(H1 a=some (.lst xs)/\R (ja a) H1))
theorem CV{L:List Expr}{D:Nat}{C:Pos}{p pos:Pos}(G:Gl X "enumerate")(F:X.mg "enumerate"=none)(J:PA X [a] x)(E:starEach [a] X.env=(false,eval a X.env,)::starEach [] X.env:=by rfl)(n:(backTo pos (starEach [] X.env)).any (·.1)=false:=by rfl):PI X (.Tuple L D C) (.Call (.Name "enumerate" p) [a] [] pos) (iL x):=by
 intro e s w H R I h;refine wpAny_Call_Name_kw (t5 I G F PyProof.Rows.boot_enumerate (PyProof.Rows.callWith_type1 (n0 (J pos e s w H _ I h) λN d z=>?_) E n));obtain⟨M,t,f,B,b,xs,rfl,z⟩:=z;obtain⟨O,rfl,A⟩:=xm B;cases A;have v:∀c∈[d⁻¹+1,d⁻¹],aY X e t c:=λc u=>by
  have j:d⁻¹≤c:=by
   simp only[mem_cons,not_mem_nil,or_false]at u;rcases u with rfl|rfl
   .exact le_add_right _ _
   .exact le_refl _
  exact f.fpOk j (f.hok.fresh j)
 rcases z with⟨m,q⟩|⟨m,q⟩
 .obtain ⟨i,y,l,hz⟩:=f.tuple (pa.of m);refine i8 (show d.heap.IsTuple b i.toArray from l) λg k r o=>wpAny_pyIter_enum (s:={d with heap:=g}) k ?_;exact(_,[d⁻¹+1,d⁻¹],_,pO b,t,rfl,f.kept (t':=d.toks) o,hV b _ _ (AV (!6)),((_,k),r),v,q)
 .obtain ⟨i,y,l,hz⟩:=f.list (lb.of m);refine call_enumerate_list l.isList λg k r P o=>wpAny_pyIter_enum (s:={d with heap:=g}) k ?_;exact(_,[d⁻¹+1,d⁻¹],_,ja b,t,rfl,f.kept (t':=d.toks) o,hX b _ _ (AV (!6)),((_,k),r),v,q)
theorem gH{K:Frag}{k:St}(j:H c<*.lst xs)(d:Addr->Nat->List V->Hp->Prop)(hz:xs.length≤sizeLine)(h0:∀D,H D=none->d D 0 [] (upd H D (.lst [])))(q:∀(D:Addr)(i:Nat)(x:V)(ys:List V)(H' e:Hp)(f:VK),H D=none->xs[i]?<*x->a' H H'->H' D<*.lst ys->d D i ys H'->a' H' e->
   (∀y g,g D<*.lst ys->a' H (upd g D (.lst (ys++[y])))->d D (i+1) (ys++[y]) (upd g D (.lst (ys++[y])))->f y g)->o (some (.int (i:Int))::some x::k) e f)(r:∀D ys H',H D=none->a' H H'->H' D<*.lst ys->d D xs.length ys H'->Q (.ref D) H'):jc K (ja c) o k H Q:=by
 refine DF (n:=xs.length) (λi a b=>a=.int (i:Int)/\xs[i]?<*b) d hz (λi m s h=>(xs,xs[i],s _ _ j,j1 h)) ?_ (λm s=>(xs,s _ _ j,rfl)) h0 ?_ r
 .rintro i m x e s h⟨p,y,zs,l,A,z,w,v⟩;rw[s _ _ j]at l;cases l;exact(p,_,y,z,(rfl,A),w,v)
 .rintro D i a b ys H' e f u I⟨rfl,t⟩G F E C B;exact q D i b ys H' e f u t G F E C B
end L2
namespace RA
open PySem L2
theorem gG{e:St}(l:∀R:List V->Hp->Prop,R [.ref c] H->t e H R)(m:o=.lst xs\/o=.tup xs)(b:H c<*o)(a:Addr->Nat->List V->Hp->Prop)(hz:xs.length≤sizeLine)(h0:∀D,H D=none->a D 0 [] (L2.upd H D (.lst [])))(f:∀(D:Addr)(i:Nat)(x:V)(ys:List V)(H' j:Hp)(h:VK),H D=none->xs[i]?<*x->a' H H'->H' D<*.lst ys->a D i ys H'->a' H' j->
   (∀y d,d D<*.lst ys->a' H (L2.upd d D (.lst (ys++[y])))->a D (i+1) (ys++[y]) (L2.upd d D (.lst (ys++[y])))->h y d)->k (some (.int (i:Int))::some x::e) j h)(g:∀D ys H',H D=none->a' H H'->H' D<*.lst ys->a D xs.length ys H'->Q (.ref D) H'):ia K (iL t) k e H Q:=by
 refine l _ (c,xs,rfl,?_);rcases m with rfl|rfl
 .exact .inr (b,gH (K:=K) b a hz h0 f g)
 .exact .inl (b,iX (K:=K) b a hz h0 f g)
end RA
namespace L2
open PySem PySem.Spec PyProof.Rows
section
variable{X:Cx}
theorem lv(y:X.calm=true):wN X (.builtin "max") (λxs H Q=>∃(a:Addr)(ns:List Int),xs=[V.ref a]/\H a=some (.lst (ns.map V.int))/\0<ns.length/\∀M∈ns,(∀x∈ns,x≤M)->Q (.int M) H):=by
 intro f s B H xs C Q I r h;obtain⟨a,ns,rfl,z,i,q⟩:=h;obtain⟨D,rfl,o⟩:=xm r;cases o;obtain⟨c,n,p,hz⟩:=I.list (lb.of z);have m:=fR n;have k:s.heap.IsList a c.toArray:=p.isList;obtain⟨xs,e⟩:=m.allInts.items;have b:ns=xs.toList.map (·.1):=by rw[<-m.numsOf,<-nums_intItems,<-e]
 have hsz:0<xs.size:=by
  rw[b,j_,length_toList]at i;exact i
 rw[e]at k;refine max_intList (I.ok.hd y) k hsz λv h' E u w=>?_;obtain⟨t,rfl⟩:=intItems_at u;obtain⟨h1,h2⟩:=argBest_gt (numAt xs) (xs.size-1);refine(.int _,H,I.kept w,(t,rfl),q _ ?_ λx g=>?_)
 .rw [b,numAt_eq];exact PySem.getD_mem (by rw[j_,length_toList];lia)
 .rw [b]at g;obtain⟨j,l⟩:=mem_iff_getElem?.mp g;have d:=(l' l).1;rw[j_,length_toList]at d;have:=h2 j (!6);have A:numAt xs j=x:=by
   rw[numAt_eq,m8,l];rfl
  rw[<-A];exact this
noncomputable def rIndexI:V->List V->Hp->VK->Prop:=λx vs H Q=>∃(l:Addr)(ns:List Int)(n:Int),x=.ref l/\vs=[.int n]/\H l=some (.lst (ns.map V.int))/\n∈ns/\Q (.int (ns.idxOf n:Nat)) H
theorem kL:Dl X "list.index" rIndexI:=by
 intro E s W H x Y v Z Q I M N h;obtain⟨l,bs,d,rfl,rfl,J,S,q⟩:=h;cases M;obtain⟨u,rfl,O⟩:=N.one;obtain⟨L,rfl⟩:=(show ∃t,u=Value.int d t from O);obtain⟨z,g,n,r,hl,e⟩:=I.lstM J;have f:g.length=bs.length:=by rw[<-r.length,j_]
 have p:bs.idxOf d<bs.length:=idxOf_lt_length_of_mem S;have o:∀(j:Nat)(B:j<g.toArray.size),∃(k:j<bs.length)(t:Tok),g.toArray[j]=.int bs[j] t:=λj B=>by
  have k:j<bs.length:=by simpa[f]using B
  refine(k,?_);obtain⟨a,U,P⟩:=r.get (i:=j) (x:=.int bs[j]) (by rw[n',j1 k];rfl);obtain⟨t,rfl⟩:=(show ∃t,a=Value.int bs[j] t from P);obtain⟨_,q⟩:=l' U;exact(t,by simpa using q)
 have C:((bs.idxOf d:Nat):Int)<2^63-1:=by
  have T:(bs.map V.int).length≤sizeLine:=(I.lst J).choose_spec.choose_spec.2.2;rw[j_,sizeLine_eq]at T;lia
 refine call_meets F.slot_list_index (_,e,rfl) F.entry_list_index (F.args_list_index_2 _ _) (SeqAt.list_indexAt l g.toArray n none #[] (.int d L) (λy=>match y with|.int b _=>b==d|_=>false) (bs.idxOf d) (by simpa[f]using p) C ?_ ?_) (e,?_,(.int _,H,I.tok _,(_,rfl),q))
 .obtain ⟨k,t,A⟩:=o (bs.idxOf d) (by simpa[f]using p);rw[A];show(bs[bs.idxOf d]==d)=true;rw[getElem_idxOf k];exact beq_self_eq_true d
 .intro m D G;obtain⟨k,t,A⟩:=o m D;rw[A];show(bs[m]==d)=false;by_cases w:bs[m]=d
  .have:=RA.Bp (l:=bs) (c:=d) (i:=m) (by rw[j1 k,w]);lia
  .exact beq_eq_false_iff_ne.mpr w
 .intro y R;obtain⟨j,B,rfl⟩:=Array.mem_iff_getElem.mp R;obtain⟨k,t,A⟩:=o j B;rw[A];exact SeqAt.EqAt.int_int _ _ _ _
theorem dF(K:Frag)(b:PE X e a)(c:attributeBase e f X.env (eval e X.env)=eval e X.env)(d:X.K=K:=by rfl):PE X (.Attribute e f pos) (rW K a f):=by
 subst d;exact v9 b c
theorem kn{c a:Pos}(K:Frag)(i:PE X o to)(j:PA X [e] t)(k:X.K=K:=by rfl)(f:attributeBase o "index" X.env (eval o X.env)=eval o X.env:=by rfl)(g:((backTo a (starEach [e] X.env)).all (λx=>!x.1)&&(backToKw a (keywordEach [] X.env)).all (λx=>x.1.isSome)
   && decide ([e].length+([]:List Keyword).length+(if ([]:List Keyword).isEmpty then 0 else 1)<30))=true:=by rfl)(d:(c.endLine==a.line)=true:=by rfl)(h:starEach [e] X.env=(false,eval e X.env,)::starEach [] X.env:=by rfl)(b:(backTo a (starEach [] X.env)).any (·.1)=false:=by rfl):PE X (.Call (.Attribute o "index" c) [e] [] a) (xa K "list" rIndexI to t):=by
 subst k;exact be plainAttrs_list PySem.F.slot_list_index PySem.F.type_list_index kL i j f g d h b
end
end L2
namespace RA
open PySem L2
noncomputable def qe(H:Hp)(rows:List Addr)(W:LL):Prop:=∀(i:Nat)(r:Addr),rows[i]?<*r->∃ws,W[i]?=some ws/\∃o,(o=.lst (b' ws)\/o=.tup (b' ws))/\H r<*o
theorem mW:∀{ns:LN},0<ns.length->∃M∈ns,∀x∈ns,x≤M
 |[],h=>by simp at h
 |[a],_=>(a,!1,λx c=>by rw[uN c];exact le_refl _)
 |a::b::r,_=>by
  obtain⟨M,h1,h2⟩:=mW (ns:=b::r) (!1);by_cases h:a≤M
  .exact (M,mem_cons_of_mem _ h1,λx c=>by
    rcases mem_cons.mp c with rfl|z
    .exact h
    .exact h2 x z)
  .exact (a,!1,λx c=>by
    rcases mem_cons.mp c with rfl|z
    .exact le_refl _
    .have:=h2 x z;lia)
theorem lK(n:Nat):∀(l:LN),(zs l).idxOf (n:Int)=l.idxOf n
 |[]=>rfl
 |x::l=>by
  show((x:Int)::zs l).idxOf (n:Int)=_;rw[idxOf_cons,idxOf_cons,lK n l];by_cases h:x=n
  .rw [h];simp
  .rw [beq_eq_false_iff_ne.mpr h,beq_eq_false_iff_ne.mpr (λe=>h (Int.ofNat_inj.mp e))]
end RA
namespace RA
section
variable{κ:Type}[DecidableEq κ]
theorem CW:∀(ks b:List κ),∃r,aE b ks=b++r
 |[],b=>([],(append_nil b).symm)
 |a::ks,b=>by
  show ∃r,aE (if a∈b then b else b++[a]) ks=b++r;by_cases h:a∈b
  .rw [if_pos h];exact CW ks b
  .rw [if_neg h];obtain⟨r,e⟩:=CW ks (b++[a]);exact([a]++r,by rw[e,append_assoc])
theorem d8:∀(ks b:List κ),b.Nodup->(aE b ks).Nodup
 |[],_,h=>h
 |a::ks,b,h=>by
  show(aE (if a∈b then b else b++[a]) ks).Nodup;by_cases c:a∈b
  .rw [if_pos c];exact d8 ks b h
  .rw [if_neg c];refine d8 ks _ ?_;rw[List.nodup_append];refine(h,!1,λx d y f e=>?_);rw[uN f]at e;rw[e]at d;exact c d
theorem nR(ks:List κ):(sg ks).Nodup:=d8 ks [] List.nodup_nil
theorem mS{ks:List κ}(h:0<ks.length):(ao ks).getD 0 0=0:=by
 cases ks with
 |nil=>simp at h
 |cons k ks=>
  rw[BW (k:=k) rfl];obtain⟨r,e⟩:=CW ks [k];have:sg (k::ks)=[k]++r:=by
   show aE (if k∈[]then[]else[]++[k]) ks=_;rw[if_neg (!1)];exact e
  rw[this];simp
theorem ci{ks:List κ}{M j:Nat}(h:M∈ao ks)(e:j≤M):j∈ao ks:=by
 obtain⟨k,d,rfl⟩:=mem_map.mp h;have a:j<(sg ks).length:=lt_of_le_of_lt e (idxOf_lt_length_of_mem (mem_dis.mpr d));have c:(sg ks)[j]∈ks:=mem_dis.mp (getElem_mem a);refine mem_map.mpr ((sg ks)[j],c,?_);have b:=nR ks;have h2:(sg ks).idxOf (sg ks)[j]<(sg ks).length:=idxOf_lt_length_of_mem (getElem_mem a);exact(getElem_inj b).mp (getElem_idxOf h2)
end
section
variable{L:LN}{W:LL}{B:List Bool}{k:Nat}
theorem rD(h:g_ L W B):(Rd W B k).getD 0 0=0:=by
 cases k with
 |zero=>exact mS (by rw[h.bl];exact h.n1)
 |succ k=>exact mS (by rw[xK];exact h.n1)
theorem jR(h:M∈Rd W B k)(a:j≤M):j∈Rd W B k:=by
 cases k with
 |zero=>exact ci h a
 |succ k=>exact ci h a
end
noncomputable def uU(R:LL)(lots:LN)(m:Nat):LL:=(List.range m).map λj=>(R.getD (lots.idxOf j) []).map λg=>lots.getD g 0
noncomputable def xk(Bm:List Bool)(lots:LN)(m:Nat):List Bool:=(List.range m).map λj=>Bm.getD (lots.idxOf j) false
theorem cG(h:j<m):(uU R a m).getD j []=(R.getD (a.idxOf j) []).map λg=>a.getD g 0:=by
 rw[uU,m8,n',getElem?_range h];rfl
theorem li(h:j<m):(xk Bm a m).getD j false=Bm.getD (a.idxOf j) false:=by
 rw[xk,m8,n',getElem?_range h];rfl
structure aP(lots:LN)(m:Nat):Prop where
 pos:0<m
 lt:∀x∈lots,x<m
 has:∀j<m,j∈lots
section
variable{L:LN}{R:LL}{Bm:List Bool}{k m:Nat}
theorem lg{l:LN}(h:i<l.length):l.getD i 0∈l:=by
 rw[m8,j1 h];exact getElem_mem h
theorem wx(b:aP (Rd R Bm k) m)(a:g_ L R Bm)(c:j<m):(Rd R Bm k).idxOf j<R.length/\l_ R Bm k ((Rd R Bm k).idxOf j)=j:=by
 have h1:=idxOf_lt_length_of_mem (b.has j c);refine(by rw[xL a]at h1;exact h1,?_);rw[l_,m8,j1 h1];exact getElem_idxOf h1
theorem iy(c:aP (Rd R Bm k) m)(a:g_ L R Bm)(b:r<R.length):l_ R Bm k r<m:=c.lt _ (lg (by rw[xL a];exact b))
theorem A2(b:aP (Rd R Bm k) m)(a:g_ L R Bm):g_ L (uU R (Rd R Bm k) m) (xk Bm (Rd R Bm k) m) where
 lt:=a.lt
 n1:=by rw[uU,j_,length_range];exact b.pos
 n60:=by
  rw[uU,j_,length_range];have h1:=bM a (b.has (m-1) (by have:=b.pos;omega));have:=a.n60;lia
 bl:=by rw[xk,uU,j_,j_]
 row:=λws h=>by
  rw[uU]at h;obtain⟨j,c,rfl⟩:=mem_map.mp h;have c:=mem_range.mp c;obtain⟨h1,h2⟩:=xv a (wx b a c).1;refine(by rw[j_];exact h1,λx d=>?_);obtain⟨g,e,rfl⟩:=mem_map.mp d;rw[uU,j_,length_range];exact iy b a (h2 g e)
theorem nB(b:aP (Rd R Bm k) m)(a:g_ L R Bm):(uU R (Rd R Bm k) m).length≤R.length:=by
 rw[uU,j_,length_range];have h1:=bM a (b.has (m-1) (by have:=b.pos;omega));lia
theorem nA(d:aP (Rd R Bm k) m)(a:g_ L R Bm)(st:Rd R Bm (k+1)=Rd R Bm k)(b:r<R.length)(i:c∈L):vP L (uU R (Rd R Bm k) m) (l_ R Bm k r) c=l_ R Bm k (vP L R r c):=by
 have g:L.idxOf c<L.length:=idxOf_lt_length_of_mem i;have f:=iy d a b;obtain⟨h,j⟩:=wx d a f;have p:l_ R Bm (k+1) ((Rd R Bm k).idxOf (l_ R Bm k r))=l_ R Bm (k+1) r:=by
  show(Rd R Bm (k+1)).getD _ 0=(Rd R Bm (k+1)).getD _ 0;rw[st];exact j
 have o:=((zP a h b).mp p).2 _ g;unfold vP;rw[cG f];have e:L.idxOf c<(R.getD ((Rd R Bm k).idxOf (l_ R Bm k r)) []).length:=by rw[(xv a h).1];exact g
 rw[m8,n',j1 e];show(Rd R Bm k).getD _ 0=_;have n:goal R ((Rd R Bm k).idxOf (l_ R Bm k r)) (L.idxOf c)=(R.getD ((Rd R Bm k).idxOf (l_ R Bm k r)) [])[L.idxOf c]:=by
  rw[goal,m8 (l:=R.getD _ []),j1 e];rfl
 rw[<-n];exact o
theorem AL(e:aP (Rd R Bm k) m)(a:g_ L R Bm)(st:Rd R Bm (k+1)=Rd R Bm k):∀{w:LN}{r:Nat},r<R.length->(∀c∈w,c∈L)->run L (uU R (Rd R Bm k) m) (l_ R Bm k r) w=l_ R Bm k (run L R r w)
 |[],_,_,_=>rfl
 |c::w,r,b,hw=>by
  have f:c∈L:=hw c (!1);show run L (uU R (Rd R Bm k) m) (vP L (uU R (Rd R Bm k) m) (l_ R Bm k r) c) w=l_ R Bm k (run L R (vP L R r c) w);rw[nA e a st b f];exact AL e a st (wu a b (idxOf_lt_length_of_mem f)) λd g=>hw d (by simp[g])
theorem B5(c:aP (Rd R Bm k) m)(a:g_ L R Bm)(b:r<R.length):(xk Bm (Rd R Bm k) m).getD (l_ R Bm k r) false=Bm.getD r false:=by
 have d:=iy c a b;obtain⟨e,f⟩:=wx c a d;rw[li d];exact(CB a e b).mp (Dv a e b (zero_le k) f)
theorem iN(b:aP (Rd R Bm k) m)(a:g_ L R Bm)(st:Rd R Bm (k+1)=Rd R Bm k)(hw:∀c∈w,c∈L):(xk Bm (Rd R Bm k) m).getD (run L (uU R (Rd R Bm k) m) 0 w) false=Bm.getD (run L R 0 w) false:=by
 have e:l_ R Bm k 0=0:=rD a;have:=AL b a st a.n1 hw;rw[e]at this;rw[this];exact B5 b a (vQ a a.n1 hw)
end
section
variable{L:LN}{W:LL}{B:List Bool}{ks ws R:LL}{Bm:List Bool}
theorem jU(b:g_ L W B)(k:Bf (gW W) L [0] ks ws ks.length 0)(a:wJ (gW W) L.length ks R)(c:R.length=ks.length)(bl:Bm.length=R.length)(f:ks.length≤W.length):g_ L R Bm where
 lt:=b.lt
 n1:=by rw[c];exact(l' k.t0).1
 n60:=by rw[c];exact le_trans f b.n60
 bl:=bl
 row:=λr h=>by
  obtain⟨i,e⟩:=mem_iff_getElem?.mp h;have d:i<ks.length:=by rw[<-c];exact(l' e).1
  obtain⟨h1,h2⟩:=a.row i r _ e (j1 d);refine(h1,λx g=>?_);obtain⟨q,j⟩:=mem_iff_getElem?.mp g;rw[c];exact(l' (h2 q x j)).1
theorem DO(j:g_ L W B)(p:Bf (gW W) L [0] ks ws ks.length 0)(a:wJ (gW W) L.length ks R)(i:R.length=ks.length):∀(n:Nat)(w:LN),w.length=n->(∀c∈w,c∈L)->ks[run L R 0 w]?<*[run L W 0 w]:=by
 intro n;induction n with
 |zero=>
  intro w hw _;rw[length_eq_zero_iff.mp hw];exact p.t0
 |succ n g=>
  intro w hw f;obtain⟨c,v,rfl⟩:∃c v,w=v++[c]:=(w.getLast (by intro z;rw[z]at hw;cases hw),w.dropLast,(List.dropLast_concat_getLast _).symm);have h1:=g v (by simpa using hw) λx h=>f x (by simp[h]);have b:L.idxOf c<L.length:=idxOf_lt_length_of_mem (f c (!1));have e:run L R 0 v<R.length:=by rw[i];exact(l' h1).1
  obtain⟨d,o⟩:=a.row _ _ _ (j1 e) h1;have m:=o (L.idxOf c) _ (j1 (by rw[d];exact b));rw[xV,xV];have k:vP L R (run L R 0 v) c=R[run L R 0 v][L.idxOf c]'(by rw[d];exact b):=by
   unfold vP;rw[m8 (l:=R),j1 e];show(R[run L R 0 v]).getD _ 0=_;rw[m8,j1 (by rw[d];exact b)];rfl
  rw[k];exact m
theorem gU(e:g_ L W B)(h:Bf (gW W) L [0] ks ws ks.length 0)(a:wJ (gW W) L.length ks R)(g:R.length=ks.length)(bl:Bm.length=R.length)(d:∀(r:Nat)(k:LN)(b:Bool),ks[r]?<*k->Bm[r]?<*b->b=mkW B k)(hw:∀c∈w,c∈L):Bm.getD (run L R 0 w) false=B.getD (run L W 0 w) false:=by
 have h1:=DO e h a g _ w rfl hw;have f:run L R 0 w<Bm.length:=by rw[bl,g];exact(l' h1).1
 rw[m8,j1 f];exact d _ _ _ h1 (j1 f)
end
noncomputable def ym(L:LN)(W:LL)(B:List Bool)(W':LL)(B':List Bool):Prop:=
 ∃(ks ws R:LL)(Bm:List Bool)(k m:Nat),Bf (gW W) L [0] ks ws ks.length 0/\wJ (gW W) L.length ks R/\R.length=ks.length/\Bm.length=R.length/\(∀(r:Nat)(k:LN)(b:Bool),ks[r]?<*k->Bm[r]?<*b->b=mkW B k)/\(∀k∈ks,k∈uW W)/\ks.length≤W.length/\
  g_ L R Bm/\Rd R Bm (k+1)=Rd R Bm k/\aP (Rd R Bm k) m/\W'=uU R (Rd R Bm k) m/\B'=xk Bm (Rd R Bm k) m
theorem ym.mach(h:ym L W B c d):g_ L c d:=by
 obtain⟨ks,ws,R,Bm,k,m,_,_,_,_,_,_,_,a,_,b,rfl,rfl⟩:=h;exact A2 b a
theorem ym.len(h:ym L W B c f):c.length≤W.length:=by
 obtain⟨ks,ws,R,Bm,k,m,_,_,e,_,_,_,d,a,_,b,rfl,rfl⟩:=h;have:=nB b a;lia
theorem ym.takes(h:ym L W B j l)(b:g_ L W B)(hw:∀c∈w,c∈L):l.getD (run L j 0 w) false=B.getD (run L W 0 w) false:=by
 obtain⟨ks,ws,R,Bm,k,m,i,a,g,bl,d,_,n,e,st,f,rfl,rfl⟩:=h;rw[iN f e st hw];exact gU b i a g bl d hw
end RA
namespace L2
open PySem PySem.Spec PyProof.Rows
theorem cR(D:X.calm=true):wN X (.builtin "all") (λxs H Q=>∃(a:Addr)(bs:List Bool),xs=[V.ref a]/\H a=some (.lst (bs.map V.bl))/\(∀b∈bs,b=true)/\Q (.bl true) H):=by
 intro l s L H xs M Q I r h;obtain⟨a,bs,rfl,F,E,q⟩:=h;obtain⟨N,rfl,B⟩:=xm r;cases B;obtain⟨c,k,p,hz⟩:=I.list (lb.of F);have g:s.heap.IsList a c.toArray:=p.isList;have f:a<s⁻¹:=by
  obtain⟨o,e,_⟩:=g;exact lt_size e
 refine call_all_walk (wpAny_pyIter_list g ?_);refine(s⁻¹,_,_,_,_,_,λ_=>true,rfl,Walks.list (prog:=X.prog) (w:=X.w) (A:=X.A.in1) (I.ok.hd D) s⁻¹ a (ne_of_lt f) c.toArray,((_,get?_push_size _ rfl,rfl,rfl),g.at λo e=>nb _ e),?_,λh' u C=>?_)
 .intro i v s' O P m G;have n:i<bs.length:=by
   have:=(Array.getElem?_eq_some_iff.mp m).1;have h2:=k.length;rw[j_]at h2;simp at this;lia
  obtain⟨y,J,z⟩:=k.get (i:=i) (x:=.bl bs[i]) (by rw[n',j1 n];rfl);have:v=y:=by
   have d:c.toArray[i]?<*v:=m;rw[getElem?_toArray,J]at d;exact(Option.some.inj d).symm
  subst this;cases z;have j:=E _ (getElem_mem n);rw[j];exact wpAny_truthy_bool G
 .have e:(List.range c.toArray.size).all (λ_=>true)=true:=by simp
  rw[e];exact(.bl true,H,I.kept (t':=u) λb o t=>C b o (by simp;exact ne_of_lt (lt_size t)) (nb _ t),rfl,q)
end L2
namespace RA
open PySem L2
end RA
namespace RA
section
variable{κ:Type}[DecidableEq κ]
theorem gy:∀(a b c:List κ),aE c (a++b)=aE (aE c a) b
 |[],_,_=>rfl
 |x::a,b,c=>gy a b _
theorem E6{ks:List κ}{i j:Nat}(o:i<ks.length)(e:j<(ao ks).getD i 0):∃i1,i1<i/\(ao ks).getD i1 0=j:=by
 have d:ks[i]?<*ks[i]:=j1 o;rw[BW d]at e;obtain⟨r,l⟩:=CW (ks.drop (i+1)) (sg (ks.take (i+1)));have f:sg ks=sg (ks.take (i+1))++r:=by
  have:=gy (ks.take (i+1)) (ks.drop (i+1)) [];rw[List.take_append_drop]at this;exact this.trans l
 have m:ks[i]∈ks.take (i+1):=by
  rw[mem_iff_getElem?];exact(i,by rw[List.getElem?_take,if_pos (lt_succ_self i)];exact d)
 have b:ks[i]∈sg (ks.take (i+1)):=mem_dis.mpr m;rw[f,vK b]at e;have n:=idxOf_lt_length_of_mem b;have a:j<(sg (ks.take (i+1))).length:=lt_trans e n;obtain⟨i1,c⟩:=mem_iff_getElem?.mp (mem_dis.mp (getElem_mem a));have h1:i1<i+1:=by
  have:=(l' c).1;rw[length_take]at this;lia
 rw[List.getElem?_take,if_pos h1]at c;have k:=nR (ks.take (i+1));have g:(sg (ks.take (i+1))).idxOf (sg (ks.take (i+1)))[j]=j:=by
  have h2:(sg (ks.take (i+1))).idxOf (sg (ks.take (i+1)))[j]<(sg (ks.take (i+1))).length:=idxOf_lt_length_of_mem (getElem_mem a);exact(getElem_inj k).mp (getElem_idxOf h2)
 have q:(sg ks).idxOf (sg (ks.take (i+1)))[j]=j:=by
  rw[f,vK (getElem_mem a)];exact g
 refine(i1,?_,by rw[BW c];exact q);by_cases h:i1=i
 .rw [h,d]at c;have p:=Option.some.inj c;rw[<-p]at g;lia
 .lia
end
section
variable{L:LN}{R:LL}{Bm:List Bool}{k m:Nat}
theorem ou(a:g_ L R Bm)(c:i<R.length)(b:j<l_ R Bm k i):∃i1,i1<i/\l_ R Bm k i1=j:=by
 cases k with
 |zero=>exact E6 (by rw[a.bl];exact c) b
 |succ k=>exact E6 (by rw[xK];exact c) b
theorem jE(f:aP (Rd R Bm k) m)(c:g_ L R Bm)(d:a<b)(g:b<m):(Rd R Bm k).idxOf a<(Rd R Bm k).idxOf b:=by
 obtain⟨j,h⟩:=wx f c g;obtain⟨i1,h1,h2⟩:=ou c j (by rw[h];exact d);refine lt_of_le_of_lt (Bp (i:=i1) ?_) h1;have e:i1<(Rd R Bm k).length:=by rw[xL c];exact lt_trans h1 j
 rw[j1 e];rw[l_,m8,j1 e]at h2;exact congrArg some h2
theorem p7(a:g_ L R Bm)(c:i<R.length):(Rd R Bm k).idxOf (l_ R Bm k i)≤i:=by
 have b:i<(Rd R Bm k).length:=by rw[xL a];exact c
 refine Bp ?_;rw[l_,m8,j1 b];rfl
theorem CY(a:g_ L R Bm):∀(k:Nat){r s:Nat},r<R.length->s<R.length->(∀u:LN,(∀c∈u,c∈L)->Bm.getD (run L R r u) false=Bm.getD (run L R s u) false)->l_ R Bm k r=l_ R Bm k s
 |0,r,s,d,b,h=>(CB a d b).mpr (h [] λc g=>by simp at g)
 | k+1,r,s,d,b,h=>(zP a d b).mpr (CY a k d b h,λi f=>CY a k (wu a d f) (wu a b f) λu j=>by
   have e:=h (L[i]::u) λc g=>by
    rcases mem_cons.mp g with rfl|z
    .exact getElem_mem f
    .exact j c z
   rw[wV,wV,AG,AG,Bl a.lt.nd f]at e;exact e)
end
theorem ym.unlike(h:ym L W B f q)(o:r<f.length)(n:s<f.length)(e:∀u:LN,(∀c∈u,c∈L)->q.getD (run L f r u) false=q.getD (run L f s u) false):r=s:=by
 obtain⟨ks,ws,R,Bm,k,m,x,j,w,bl,t,_,v,a,st,b,rfl,rfl⟩:=h;rw[uU,j_,length_range]at o n;obtain⟨i,l⟩:=wx b a o;obtain⟨g,s2⟩:=wx b a n;have:=CY a k i g λu d=>by
  have p:=e u d;rw[<-l,<-s2,AL b a st i d,AL b a st g d,B5 b a (vQ a i d),B5 b a (vQ a g d)]at p;exact p
 rw[l,s2]at this;exact this
section
variable{L:LN}{W:LL}{B:List Bool}{ks ws R:LL}
theorem dL{b:Type}{l:List b}(c:l.Nodup){i j:Nat}{a:b}(e:l[i]?<*a)(d:l[j]?<*a):i=j:=by
 obtain⟨h1,g⟩:=l' e;obtain⟨h2,f⟩:=l' d;exact(getElem_inj c).mp (g.trans f.symm)
theorem jT(d:g_ L W B)(b:Bf (gW W) L [0] ks ws ks.length 0)(a:wJ (gW W) L.length ks R)(f:R.length=ks.length)(hw:ws[i]?<*w):(∀c∈w,c∈L)/\run L R 0 w=i:=by
 have e:i<ks.length:=by rw[b.len];exact(l' hw).1
 obtain⟨l1,l2⟩:=b.lead i ks[i] w (j1 e) hw;refine(l1,?_);have h1:=DO d b a f _ w rfl l1;rw[DM 0 _ w rfl]at l2;rw[l2]at h1;exact dL b.nd h1 (j1 e)
theorem gX(d:g_ L W B)(e:Bf (gW W) L [0] ks ws ks.length 0)(a:wJ (gW W) L.length ks R)(l:R.length=ks.length)(hw:ws[i]?<*w)(f:∀c∈v,c∈L)(k:run L R 0 v=i):uF L v w=false:=by
 obtain⟨j,b,h,g,m⟩:=e.told d.lt.nd v _ rfl f;rw[DM 0 _ v rfl]at h;have h1:=DO d e a l _ v rfl f;rw[k]at h1;have:j=i:=dL e.nd h h1;rw[this,hw]at g;cases g;exact m
end
structure oy(L:LN)(W':LL)(v:Nat->LN):Prop where
 over:∀j,j<W'.length->(∀c∈v j,c∈L)/\run L W' 0 (v j)=j
 lt:∀i j,i<j->j<W'.length->uF L (v i) (v j)=true
 least:∀u:LN,(∀c∈u,c∈L)->uF L u (v (run L W' 0 u))=false
theorem ym.firsts(h:ym L W B H J)(p:g_ L W B):∃v,oy L H v:=by
 obtain⟨ks,ws,R,Bm,k,m,q,d,x,bl,D,_,I,a,st,n,rfl,rfl⟩:=h;have f:(uU R (Rd R Bm k) m).length=m:=by rw[uU,j_,length_range]
 have s:ws.length=R.length:=by rw[x,q.len]
 have b:∀{i:Nat},i<R.length->ws[i]?<*ws.getD i []:=λ{i}E=>by
  rw[m8,j1 (by rw[s];exact E)];rfl
 have l0:l_ R Bm k 0=0:=rD a;have A:∀{u:LN},(∀c∈u,c∈L)->run L (uU R (Rd R Bm k) m) 0 u=l_ R Bm k (run L R 0 u):=λ{u}l=>by
  have:=AL n a st a.n1 l;rw[l0]at this;exact this
 refine(λj=>ws.getD ((Rd R Bm k).idxOf j) [],(λj g=>?_,λi j w g=>?_,λu l=>?_))
 .rw [f]at g;obtain⟨G,F⟩:=wx n a g;obtain⟨y,C⟩:=jT p q d x (b G);refine(y,?_);rw[A y,C];exact F
 .rw [f]at g;have o:=jE n a w g;exact q.srt _ _ _ _ o (b (lt_trans o (wx n a g).1)) (b (wx n a g).1)
 .rw [A l];have r:=vQ a a.n1 l;have t:=p7 (k:=k) a r;have h1:=gX p q d x (b r) l rfl;rcases Nat.lt_or_eq_of_le t with z|z
  .have h2:=q.srt _ _ _ _ z (b (lt_trans z r)) (b r);cases e:uF L u (ws.getD ((Rd R Bm k).idxOf (l_ R Bm k (run L R 0 u))) [])with
   |false=>rfl
   |true=>rw[vB e h2]at h1;cases h1
  .show uF L u (ws.getD ((Rd R Bm k).idxOf (l_ R Bm k (run L R 0 u))) [])=false;rw[z];exact h1
theorem ii{rs:LN}(o:∀(i j a b:Nat),i<j->rs[i]?<*a->rs[j]?<*b->a<b)(d:∀r∈rs,r<m)(c:∀j<m,j∈rs):rs.length=m/\∀(i r:Nat),rs[i]?<*r->r=i:=by
 have l:∀(i r:Nat),rs[i]?<*r->i≤r:=by
  intro i;induction i with
  |zero=>exact λr _=>zero_le r
  |succ i f=>
   intro r e;have g:i<rs.length:=lt_trans (lt_succ_self i) (l' e).1;have h1:=f _ (j1 g);have h2:=o i (i+1) _ _ (lt_succ_self i) (j1 g) e;lia
 have k:∀(n i r:Nat),i<n->rs[i]?<*r->r=i:=by
  intro n;induction n with
  |zero=>exact λi r h=>absurd h (Nat.not_lt_zero i)
  |succ n f=>
   intro i r g e;have h1:=l i r e;have q:=d r (uM e);obtain⟨p,hp⟩:=mem_iff_getElem?.mp (c i (lt_of_le_of_lt h1 q));have h2:=l p i hp;rcases lt_trichotomy p i with z|z|z
   .have:=f p i (!6) hp;lia
   .rw [z,e]at hp;exact Option.some.inj hp
   .lia
 refine(?_,λi r e=>k (i+1) i r (lt_succ_self i) e);rcases lt_trichotomy rs.length m with z|z|z
 .obtain ⟨p,hp⟩:=mem_iff_getElem?.mp (c rs.length z);have h1:=(l' hp).1;have:=k (p+1) p _ (lt_succ_self p) hp;lia
 .exact z
 .have e:=j1 z;have:=k (m+1) m _ (lt_succ_self m) e;have h2:=d _ (getElem_mem z);lia
end RA
namespace RA
open PySem L2
end RA
namespace RA
structure wY(L:LN)(W:LL)(B:List Bool)(v:Nat->LN):Prop where
 mach:g_ L W B
 fs:oy L W v
 un:∀{r s:Nat},r<W.length->s<W.length->(∀u:LN,(∀c∈u,c∈L)->B.getD (run L W r u) false=B.getD (run L W s u) false)->r=s
theorem ym.canon(h:ym L W B d g)(c:g_ L W B):∃v,wY L d g v:=by
 obtain⟨v,f⟩:=h.firsts c;exact(v,h.mach,f,λb a e=>h.unlike b a e)
theorem uK(L:LN)(W:LL)(r:Nat)(a b:LN):run L W r (a++b)=run L W (run L W r a) b:=by
 unfold run;rw[List.foldl_append]
section
variable{L:LN}{W1 W2:LL}{B1 B2:List Bool}{v1 v2:Nat->LN}
theorem wY.move(l:wY L W1 B1 v1)(d:wY L W2 B2 v2)(h:∀u:LN,(∀c∈u,c∈L)->B1.getD (run L W1 0 u) false=B2.getD (run L W2 0 u) false)(g:∀c∈a,c∈L)(f:∀c∈b,c∈L)(e:run L W1 0 a=run L W1 0 b):run L W2 0 a=run L W2 0 b:=by
 refine d.un (vQ d.mach d.mach.n1 g) (vQ d.mach d.mach.n1 f) λu j=>?_;have o:∀{x:LN},(∀c∈x,c∈L)->∀c∈x++u,c∈L:=λi c k=>by
  rcases mem_append.mp k with z|z
  .exact i c z
  .exact j c z
 rw[<-uK,<-uK,<-h _ (o g),<-h _ (o f),uK,uK,e]
theorem wY.word(e:wY L W1 B1 v1)(a:wY L W2 B2 v2)(h:∀u:LN,(∀c∈u,c∈L)->B1.getD (run L W1 0 u) false=B2.getD (run L W2 0 u) false)(g:j<W1.length):v2 (run L W2 0 (v1 j))=v1 j:=by
 obtain⟨b,m⟩:=e.fs.over j g;have i:=vQ a.mach a.mach.n1 b;obtain⟨d,l⟩:=a.fs.over _ i;have l2:=a.fs.least (v1 j) b;have k:run L W1 0 (v2 (run L W2 0 (v1 j)))=j:=by
  rw[a.move e (λu f=>(h u f).symm) d b l];exact m
 have l1:=e.fs.least _ d;rw[k]at l1;rcases cJ b d with z|z|z
 .rw [z]at l2;cases l2
 .exact z.symm
 .rw [z]at l1;cases l1
theorem wZ(f:wY L W1 B1 v1)(e:wY L W2 B2 v2)(h:∀u:LN,(∀c∈u,c∈L)->B1.getD (run L W1 0 u) false=B2.getD (run L W2 0 u) false):W1.length=W2.length/\∀j<W1.length,run L W2 0 (v1 j)=j:=by
 have g:=ii (rs:=(List.range W1.length).map λj=>run L W2 0 (v1 j)) (m:=W2.length) (λi j a b l t p=>?_) (λr x=>?_) (λj d=>?_)
 .refine (by have:=g.1;rwa [j_,length_range]at this,λj d=>?_);refine g.2 j _ ?_;rw[n',getElem?_range d];rfl
 .have d:j<W1.length:=by have:=(l' p).1;rwa [j_,length_range]at this
  have n:i<W1.length:=lt_trans l d;rw[n',getElem?_range n]at t;rw[n',getElem?_range d]at p;cases t;cases p;have h1:=f.fs.lt i j l d;have v:=vQ e.mach e.mach.n1 (f.fs.over i n).1;rcases lt_trichotomy (run L W2 0 (v1 i)) (run L W2 0 (v1 j))with z|z|z
  .exact z
  .have o:=f.word e h n;have q:=f.word e h d;rw[z]at o;rw[<-o,q]at h1;rw[CL h1]at h1;cases h1
  .have h2:=e.fs.lt _ _ z v;rw[f.word e h n,f.word e h d]at h2;rw[CL h2]at h1;cases h1
 .obtain ⟨j,d,rfl⟩:=mem_map.mp x;exact vQ e.mach e.mach.n1 (f.fs.over j (mem_range.mp d)).1
 .obtain ⟨s,q⟩:=e.fs.over j d;have k:=vQ f.mach f.mach.n1 s;refine mem_map.mpr (run L W1 0 (v2 j),mem_range.mpr k,?_);obtain⟨w,o⟩:=f.fs.over _ k;show run L W2 0 (v1 (run L W1 0 (v2 j)))=j;rw[f.move e h w s o];exact q
theorem nY(a:wY L W1 B1 v1)(g:wY L W2 B2 v2)(h:∀u:LN,(∀c∈u,c∈L)->B1.getD (run L W1 0 u) false=B2.getD (run L W2 0 u) false):W1=W2/\B1=B2:=by
 obtain⟨p,x⟩:=wZ a g h;have k:∀{u:LN},(∀c∈u,c∈L)->run L W2 0 u=run L W1 0 u:=λ{u}n=>by
  have f:=vQ a.mach a.mach.n1 n;obtain⟨b,d⟩:=a.fs.over _ f;rw[<-x _ f];exact(a.move g h b n d).symm
 refine(List.ext_getElem p λj h1 h2=>?_,List.ext_getElem (by rw[a.mach.bl,g.mach.bl,p]) λj h1 h2=>?_)
 .obtain ⟨b,d⟩:=a.fs.over j h1;obtain⟨r,C⟩:=a.mach.row _ (getElem_mem h1);obtain⟨A,B⟩:=g.mach.row _ (getElem_mem h2);refine List.ext_getElem (by rw[r,A]) λq m v=>?_;have o:q<L.length:=by rw[<-r];exact m
  have i:∀c∈v1 j++[L[q]],c∈L:=λc y=>by
   rcases mem_append.mp y with z|z
   .exact b c z
   .rw [uN z];exact getElem_mem o
  have e:=k i;have w:=Bl a.mach.lt.nd o;rw[xV,xV,k b,d,AG,AG,w]at e;have t:goal W1 j q=W1[j][q]:=by
   rw[goal,m8 (l:=W1),j1 h1];show(W1[j]).getD q 0=_;rw[m8,j1 m];rfl
  have s:goal W2 j q=W2[j][q]:=by
   rw[goal,m8 (l:=W2),j1 h2];show(W2[j]).getD q 0=_;rw[m8,j1 v];rfl
  rw[<-t,<-s];exact e.symm
 .have f:j<W1.length:=by rw[<-a.mach.bl];exact h1
  obtain⟨b,d⟩:=a.fs.over j f;have e:=h _ b;rw[k b,d,m8,m8,j1 h1,j1 h2]at e;exact e
end
end RA
namespace L2
open PySem PySem.Spec PyProof.Rows
section
variable{X:Cx}{pins:List (Addr×Obj)}{σ:St}{H:Hp}{s:Shared}
end
end L2
namespace RA
open PySem L2
section
variable{X:Cx}{pins:List (Addr×Obj)}{σ:St}{H:Hp}{s:Shared}
end
end RA
namespace L2
open PySem PySem.Spec PyProof.Rows
end L2
namespace RA
open PySem L2
end RA
namespace RA
section
variable{L:LN}{W:LL}{B:List Bool}{ls:LN}{W2:LL}{B2:List Bool}
end
end RA
namespace RA
open PySem L2
theorem iB(h1:ol H g L W B)(h2:ol H f L W B)(c:g_ L W B):eG H 3 (.ref g) (.ref f):=by
 have d:∀{m:Addr},ol H m L W B->ow H m L (W.map zs) B:=λ{m}h=>by
  obtain⟨e,mk,b,s,r,q,p,o⟩:=h;refine(e,mk,b,s,r,q,by rw[j_];exact p,λi a n=>?_);obtain⟨ws,l,k⟩:=o i a n;exact(zs ws,by rw[n',l];rfl,by rw[eJ];exact k)
 refine kN (d h1) (d h2) (by rw[j_];exact le_trans c.n60 (!0)) (by rw[c.bl];exact le_trans c.n60 (!0)) λR j=>?_;obtain⟨ws,hw,rfl⟩:=mem_map.mp j;rw[db,(c.row ws hw).1];exact le_trans c.lt.hi (!0)
end RA
namespace RA
section
variable{κ:Type}[DecidableEq κ]{g:κ->Nat->κ}{L:LN}{s:κ}{ts ts':List κ}{ws ws':LL}
end
noncomputable def gA(W:LL)(k:LN)(q:Nat):LN:=k.map λr=>(W.getD r []).getD q 0
end RA
namespace L2
open PySem PySem.Spec PyProof.Rows
section
variable{prog:Program}{w:World}{A:Around}{E:Value->Shared->Prop}{s:Shared}
end
end L2
namespace RA
section
variable{L:LN}{W ks ws R:LL}{B:List Bool}
end
end RA
namespace RA
open PySem L2
theorem E7(l:LN):(b' l).all yD=true:=by
 rw[b',List.all_map,all_eq_true];exact λ_ _=>rfl
noncomputable def sp_lotsafter:Sp:=λvs H Q _=>∃(m:Addr)(v:Addr)(o:HO)(L:LN)(W:LL)(B:List Bool)(k:LN),vs=[.ref m,.ref v]/\ol H m L W B/\g_ L W B/\(o=.lst (b' k)\/o=.tup (b' k))/\H v=some o/\k.length≤60/\(∀x∈k,x<W.length)/\
 ∀(l:Addr)(ls:List Addr)(H':Hp),a' H H'->H' l<*.lst (ls.map V.ref)->ls.length=L.length->(∀(q:Nat)(a:Addr),ls[q]?<*a->H' a<*.lst (b' (gA W k q)))->Q (.ref l) H'
theorem nu{a:Type}(l:List a)(x:a):(l++[x])[l.length]?<*x:=by simp
end RA
namespace L2
open PySem PySem.Spec PyProof.Rows
abbrev vBM:List Value:=[.type "ValueError",.type "Exception",.type "BaseException",.type "object"]
abbrev xy(C:Addr)(dd:Option Addr)(a0:Value):Obj:={cls:=.ref C,dict:=dd,data:=.fields #[a0,.none,.none,.none,.bool false,.none]}
section
variable{P:Program}{w:World}{A:Around}{E:Value->Shared->Prop}{h:Heap}{g:Array GenState}{d:Drawn}{t:Nat}{os:OsState}
variable{nm q:Str}{C N:Addr}{bs bm:List Value}{hdct:Bool}{sn:List Str}{sub:List Value}{ab:Bool}{col:Option Bool}{dd:Option Addr}{k0 k1 k2 k3 k5:Option Value}
theorem nE(j:OwnTail h vBM bm)(i:h.get? C<*excClassObj nm q C N bs bm hdct sn sub ab col dd k0 k1 k2 k3 k5 "ValueError.__new__")(u:h.Ns N mN)(v:mN "__init__"<*.ref fI)(G:h.get? fI<*s)(F:s.cls=.type "function")(x:a.length≤sizeLine)(D:∀h' e,h.objs.size≤e->Heap.MadeExcOf h h' e (.ref C) a->wpAny (model P w) A (call (.ref fI) (.ref e::a)) (λr s'=>r=.none/\Q (.done (.ret (.ref e))) s') E (h',g,d,t,os)):wpAny (model P w) A (Builtin.«type.__call__» (.ref C::a,[])) Q E (h,g,d,t,os):=by
 have c:=excBase_ValueError;have n:vBM.contains (.type "ValueError")=true:=rfl;repeat (first|with_reducible refine wpAny_loadPart_at i ?_|with_reducible refine wpAny_madeBy_exc i ?_|wp_step)
 refine codeAny_call_builtin_code (Code.quiet_builtin _ c.quiet) (wpAny_check_new_subU c n j i ?_);refine codeAny_exc_new_subU c n c j i ?_ x;show wpAny _ _ _ _ _ _;have f:∀b o,h.get? b<*o->((h.push {cls:=.type "tuple",data:=.seq a.toArray}).push (xy C none (.ref h.objs.size))).get? b<*o:=λb o z=>nb _ (nb _ z);have m:=f _ _ i;have H:=f _ _ G;have n1:((h.push {cls:=.type "tuple",data:=.seq a.toArray}).push (xy C none (.ref h.objs.size))).Ns N mN:=let⟨o,I,J,z,r⟩:=u;(o,I,J,f _ _ z,r);have l:((h.push {cls:=.type "tuple",data:=.seq a.toArray}).push (xy C none (.ref h.objs.size))).get? (h.objs.size+1)<*xy C none (.ref h.objs.size):=by heap_get
 have k:(Value.ref C::bm).contains (.ref C)=true:=by simp
 have p:=j.keeps (h':=(h.push {cls:=.type "tuple",data:=.seq a.toArray}).push (xy C none (.ref h.objs.size))) f;unfold isInstance;repeat (first|with_reducible refine wpAny_loadPart_at l ?_|(with_reducible refine wpAny_isSubtype_exc m ?_;rw[k])|wp_step)
 show wpAny _ _ (typeLookup (.ref C) _) _ _ _;refine wpAny_typeLookup_tail m n1 p c.mroIs c.init.lookup ?_;rw[v];refine wpAny_holding (d_ ?_);unfold bindSpecial;refine d_ (wpAny_typeOf (T:="function") (_,H,F) ?_);rw[if_pos (!0)];refine j2 (d_ (wpAny_mono (D _ (h.objs.size+1) (le_succ _) (f,Heap.get?_none_of_le (le_succ _),h.objs.size,l,Heap.get?_none_of_le (le_refl _),?_)) (λr s' y=>?_) λ_ _ z=>z))
 .exact nb _ (Heap.get?_push_at rfl rfl)
 .obtain ⟨rfl,B⟩:=y
  wp_walk
  exact B
theorem nF(f:OwnTail h vBM bm)(b:h.get? C<*excClassObj nm q C N bs bm hdct sn sub ab col dd k0 k1 k2 k3 k5 "ValueError.__new__")(j:h.Ns N mN)(l:mN "__init__"<*.ref fI)(p:h.get? fI<*i)(o:i.cls=.type "function")(m:a.length≤sizeLine)(n:∀h' e,h.objs.size≤e->Heap.MadeExcOf h h' e (.ref C) a->wpAny (model P w) (A.under (.builtin "type.__call__" (.ref C::a,[]))) (call (.ref fI) (.ref e::a)) (λr s'=>r=.none/\Q (.ref e) s') E (h',g,d,t,os)):wpAny (model P w) A (call (.ref C) a) Q E (h,g,d,t,os):=by
 have u:=tc_lookup;have s:=tc_bind (.ref C);have c:((h,g,d,t,os):Shared).TypeIs (.ref C) "type":=(_,b,rfl);refine wpAny_call (codeAny_of_tree ?_);show wpAny _ _ (callAny (.ref C) _) _ _ _;repeat (any_goals (first|assumption|with_reducible refine wpAny_loadPart_at b ?_|wp_step))
 refine(rfl,?_);refine codeAny_call_builtin_at (Code.quiet_builtin _ (!3)) entry_typeCall (wpAny_check_type_call_sub b (nE f b j l p o m λh' e k mk=>?_));exact n h' e k mk
theorem ll(f:OwnTail h vBM bm)(l:h.get? C<*excClassObj nm q C N bs bm hdct sn sub ab col dd k0 k1 k2 k3 k5 "ValueError.__new__")(a:h.get? e<*xy C none (.ref m))(k:∀h',(∀b o,b≠e->h.get? b<*o->h'.get? b<*o)->h'.get? e<*xy C none (.ref h.objs.size)->Q .none (h',g,d,t,os)):wpAny (model P w) A (call (.builtin "ValueError.__init__") [.ref e,u]) Q E (h,g,d,t,os):=by
 have c:=excBase_ValueError;have i:e≠h.objs.size:=ne_of_lt (lt_size a);refine wpAny_call (codeAny_call_builtin c.init.plain c.initEntry (wpAny_check_init_subU c f l a rfl ?_))
 wp_walk
 refine k _ (λb o j z=>?_) ?_
 .rw [get?_update_other _ _ (Ne.symm j)];exact nb _ z
 .rw [get?_update_self _ (nb _ a) rfl];rfl
theorem ij(a:bm.contains (.type "BaseException")=true)(i:A.handled=none)(k:wpAny M A x (λv b=>∃e d2 a0,v=.ref e/\b.heap.get? C=some (excClassObj nm q C N bs bm hdct sn sub ab col dd k0 k1 k2 k3 k5 "ValueError.__new__")/\b.heap.get? e=some (xy C d2 a0)/\E (.ref e) b) E s):wpAny M A (raiseStmt env (some x) none) Q E s:=by
 have c:(Value.ref C::bm).contains (.type "BaseException")=true:=by rw[List.contains_cons,a,Bool.or_true]
 unfold raiseStmt;refine d_ (wpAny_mono k (λv b h1=>?_) λ_ _ z=>z);obtain⟨e,d2,a0,rfl,f,l,j⟩:=h1;obtain⟨hp,g,d,m,os⟩:=b;repeat (first|with_reducible refine wpAny_loadPart_at l ?_|with_reducible refine wpAny_loadPart_at f ?_|(with_reducible refine wpAny_isSubtype_exc f ?_;rw[c])|wp_step)
 exact wpAny_raiseNew_none i j
end
noncomputable def wz(K:Frag)(C f:Addr):Prop:=(match K.lookup C with
 | some ⟨.type "type",_,.cls c,z⟩=>(match c.mro,z.toList with
  |.ref D::r,[_,_,_,_,some (.builtin m),_]=>D==C&&m=="ValueError.__new__"&&!c.hasDel&&PySem.W.tailIn K vBM r&&PySem.W.nsOkIn K c.ns&&nsIn K c.ns "__init__"==some (some (.ref f))
  | _,_=>false)
 | _=>false)=true
theorem pd{K:Frag}(X:K.In h)(G:h.Ns N m)(e:nsIn K N n<*some v):m n<*v:=by
 obtain⟨o,f,g,a,d,_,b⟩:=G;unfold nsIn at e;split at e
 .rename_i q;have z:=X _ _ q;rw[a]at z;cases z;cases d;split at e
  .rename_i c;rw[<-b];unfold nsFind findBy;rw[<-Array.find?_toList,c];injection e
  .split at e<;>cases e
 .cases e
theorem wz.obj{K:Frag}(q:wz K C f)(X:K.In h):∃bm N nm k bs hdct sn sub ab col dd k0 k1 k2 k3 k5 mN,h.get? C=some (excClassObj nm k C N bs bm hdct sn sub ab col dd k0 k1 k2 k3 k5 "ValueError.__new__")/\h.Ns N mN/\mN "__init__"=some (.ref f)/\OwnTail h vBM bm:=by
 unfold wz at q;split at q;case h_2=>cases q
 case h_1 p dd o j a=>
  split at q;case h_2=>cases q
  case h_1 D bm k0 k1 k2 k3 mk k5 n m=>
   obtain⟨q,e⟩:=and_eq_true_iff.mp q;obtain⟨q,c⟩:=and_eq_true_iff.mp q;obtain⟨q,i⟩:=and_eq_true_iff.mp q;obtain⟨q,b⟩:=and_eq_true_iff.mp q;obtain⟨g,d⟩:=and_eq_true_iff.mp q;cases beq_iff_eq.mp g;cases beq_iff_eq.mp d;obtain⟨l⟩:=j;cases m;cases o;cases n;cases not_eq_true' _▸b;have G:h.Ns _ _:=.of_isNs (PySem.W.isNs_of_in X c);exact(bm,_,_,_,_,_,_,_,_,_,dd,k0,k1,k2,k3,k5,_,X _ _ a,G,pd X G (beq_iff_eq.mp e),PySem.W.tail_of_in X i)
noncomputable def By:List Value->Bool
 |.ref _::r=>By r
 |[.type a,.type b,.type c,.type d]=>a=="ValueError"&&b=="Exception"&&c=="BaseException"&&d=="object"
 |_=>false
theorem b9:∀{l:List Value},By l=true->(∀f,refuseLoop f "__setattr__" l=pure ())/\l.contains (.type "object")=true/\l.isEmpty=false
 |.ref c::r,e=>by
  obtain⟨h1,h2,_⟩:=b9 (l:=r) (by rw[By]at e;exact e);exact(λf=>(refuseLoop_ref f _ c r).trans (h1 f),by rw[List.contains_cons,h2,Bool.or_true],rfl)
 |[.type a,.type b,.type c,.type d],e=>by
  simp only[By,and_eq_true,beq_iff_eq]at e;obtain⟨⟨⟨rfl,rfl⟩,rfl⟩,rfl⟩:=e;exact(λf=>PySem.F.store_ValueError.passes f,!0,rfl)
theorem jr{prog:Program}{w:World}{A:Around}{K:Frag}(X:K.In s.heap)(I:PySem.W.InstAt s.heap x ox C t)(hp:(PySem.W.clsIn K C).any (λi=>By i.mro)=true)(m:takerIn K C name<*none)(h:∀b,wpAny (model prog w) A.in1 (Builtin.ObjectAttr.storeInOwnDict (.ref x) (.ref C) (.str name d) name v b) (λg s'=>match g with|.done f=>R (.ok f) s'|.again k=>k.quiet=true/\codeAny (model prog w) A k R s') (λe s'=>R (.error e) s') s):codeAny (model prog w) A (.call (.builtin "object.__setattr__") ([.ref x,.str name d,v],[])) R s:=by
 obtain⟨i,j,o⟩:=any_some hp;obtain⟨c,has,l⟩:=b9 o;have sub:PySem.W.Looks (model prog w) s.heap (isInstance (.ref x) (.type "object")) true:=I.type.andThen (PySem.W.looks_mroIn X (by unfold PySem.W.mroIn;rw[j,Option.bind_some,if_neg (by rw[l];decide),has]));obtain⟨attr,q,n⟩:=Option.bind_eq_some_iff.mp m;have r:PySem.W.Looks (model prog w) s.heap (Builtin.ObjectAttr.storeTaker? attr) none:=by
  cases attr with
  |none=>exact .now
  |some a=>
   obtain⟨b,p,e⟩:=v8 n;cases b
   .exact (PySem.W.looks_takesIn X p).andThen .now
   .cases e
 refine codeAny_call_builtin store_object.slot.plain store_object.entry (@PySem.W.check_slot (model prog w) _ _ s "object.__setattr__" "object" "__setattr__" (.ref x) [.str name d,v] [] _ store_object.kind store_object.split sub (store_object.args (.ref x) (.str name d) v) ?_);rw[PySem.W.osa_eq,refuse_eq];refine d_ (d_ (I.type.here (d_ (((looks_clsIn X j).andThen .now:PySem.W.Looks (model prog w) s.heap (mroOf (.ref C)) i.mro).here ?_))));rw[c];exact j2 (d_ (I.type.here (d_ ((PySem.W.looks_findIn X q).here (d_ (r.here (h _)))))))
structure gN(K:Frag)(C:Addr):Prop where
 sa:PySem.W.findIn K (.ref C) "__setattr__"<*some (.builtin "object.__setattr__")
 po:(PySem.W.clsIn K C).any (λcd=>By cd.mro)=true
 hd:PySem.W.hasDictIn K C=true
structure oB(K:Frag)(R:Addr):Prop where
 ga:PySem.W.specialIn K (.ref R) "__getattribute__"<*some (.builtin "type.__getattribute__")
 rd:PySem.W.readsIn K R (.type "type")=true
 fc:PySem.W.findCls K (.ref R) (.type "type") "__init__"<*.val (.builtin "ValueError.__init__")
section
variable{prog:Program}{w:World}{A:Around}{E:Value->Shared->Prop}{s:Shared}{K:Frag}{x C dx:Addr}{a0:Value}{name:Str}{v:Value}{mA:Str->Option Value}
theorem mf(X:K.In s.heap)(h:s.heap.get? x<*xy C none a0)(c:gN K C)(u:takerIn K C name<*none)(G:∀h' d,s⁻¹≤d->h'.get? x<*xy C (some d) a0->h'.Ns1 d (λy=>if y=name then some v else none)->(∀b o,b≠x->s.heap.get? b<*o->h'.get? b<*o)->Q () {s with heap:=h',toks:=s.toks+2}):wpAny (model prog w) A (setAttr (.ref x) name v) Q E s:=by
 have J:PySem.W.InstAt s.heap x (xy C none a0) C none:=(h,rfl,rfl,trivial);refine set_plain X J c.sa (jr (s:={s with toks:=s.toks+1}) X J c.po u λb=>?_);obtain⟨H,D,k⟩:=any_some c.hd;refine d_ (j2 (d_ (d_ (wpAny_loadPart h (d_ (PySem.W.Looks.here (s:={s with toks:=s.toks+1}) (looks_clsIn X D) ?_))))));rw[k];have n:(s.heap.push {cls:=.type "dict",data:=.dict #[]}).get? x<*xy C none a0:=nb _ h;have f:x≠s⁻¹:=ne_of_lt (lt_size h);refine d_ (wpAny_alloc' (d_ (wpAny_update' n (j2 (d_ ?_)))));have j:((s.heap.push {cls:=.type "dict",data:=.dict #[]}).update x λo=>{o with dict:=some s⁻¹}).get? s⁻¹<*{cls:=.type "dict",data:=.dict #[]}:=
  (Heap.get?_update_ne _ _ _ _ f.symm).trans (Heap.get?_push_at rfl rfl)
 have i:((s.heap.push {cls:=.type "dict",data:=.dict #[]}).update x λo=>{o with dict:=some s⁻¹}).Ns s⁻¹ (λ_=>none):=(_,#[],_,j,rfl,λe B=>absurd B (!1),λ_=>rfl);refine j2 (d_ (wpAny_nsSet1 (Heap.Ns1.of_empty i) λh' g m=>?_));have l:=g.count (Within.cons name v Within.nil);obtain⟨t,_,_,r,q,p⟩:=l;have a:t.data.pastItsLine=none:=q▸pastItsLine_dict (le_trans p (by rw[sizeLine_eq];show 1≤_;lia));refine d_ (wpAny_lookBehind r a ?_);refine j2 (G _ _ (le_refl _) ?_ g λb o F z=>?_)
 .exact (m.2 x f).trans (get?_update_self _ n rfl)
 .exact (m.2 b (ne_of_lt (lt_size z))).trans ((Heap.get?_update_ne _ _ _ _ F).trans (nb _ z))
theorem me(X:K.In s.heap)(i:s.heap.get? x<*xy C (some dx) a0)(h:s.heap.Ns1 dx mA)(c:gN K C)(n:takerIn K C name<*none)(hw:PySem.Within mA ns)(hsz:ns.length≤sizeLine)(q:∀h',h'.Ns1 dx (λy=>if y=name then some v else mA y)->SameBut dx s.heap h'->Q () {s with heap:=h',toks:=s.toks+2}):wpAny (model prog w) A (setAttr (.ref x) name v) Q E s:=by
 obtain⟨m,o,t⟩:=Dh h;have J:PySem.W.InstAt s.heap x (xy C (some dx) a0) C (some m):=(i,rfl,rfl,o);refine set_plain X J c.sa (jr (s:={s with toks:=s.toks+1}) X J c.po n λb=>?_);obtain⟨u,p,f⟩:=any_some c.hd;refine d_ (j2 (d_ (d_ (wpAny_loadPart i (d_ (PySem.W.Looks.here (s:={s with toks:=s.toks+1}) (looks_clsIn X p) ?_))))));rw[f];refine j2 (a:=some dx) (d_ (j2 (d_ ?_)));refine wpAny_nsSet1 (s:={s with toks:=s.toks+1}) h λh' d e=>?_;have g:=d.count (PySem.Within.cons name v hw);obtain⟨r,_,_,l,k,j⟩:=g;refine d_ (wpAny_lookBehind l (k▸pastItsLine_dict (le_trans j (by rw[length_cons];lia))) ?_);exact j2 (q _ d e)
end
noncomputable def so(e C:Addr)(dd:Option Addr):HO:=.ext λh=>∃t0:Addr,h.get? e<*xy C dd (.ref t0)
noncomputable def vp(dx:Addr)(fs:List (Str×V)):HO:=.ext λh=>∃mA,h.Ns1 dx mA/\(∀f,au (fs.lookup f) (mA f))/\PySem.Within mA (fs.map (·.1))
noncomputable def yo(H:Hp)(e:Addr):Hp:=λb=>if b=e then none else H b
theorem AM(h:b≠e):yo H e b=H b:=if_neg h
theorem gB:yo H e e=none:=if_pos rfl
section
variable{X:Cx}{pins:List (Addr×Obj)}{σ:St}{H:Hp}{s:Shared}{a C dx:Addr}{fs:List (Str×V)}{f:Str}{y:V}{u:Value}{A:Around}{E:Value->Shared->Prop}
theorem se(M:X.ex=[])(I:f' X pins σ H s)(e:H a<*so a C none)(c:gN X.K C)(n:vj X.K C f)(J:ad y u)(O:∀d s',H d=none->d≠a->f' X pins σ (upd (upd H a (so a C (some d))) d (vp d [(f,y,)])) s'->Q () s'):wpAny (model X.prog X.w) A (setAttr (.ref a) f u) Q E s:=by
 obtain⟨⟨a0,P⟩,_,_⟩:=I.hok a _ e;refine mf I.kIn P c n.taker λh' d D i ns j=>?_;have F:s.heap.get? d=none:=Heap.get?_none_of_le D;have l:H d=none:=I.hok.fresh D;have G:d≠a:=(f_ e l).symm;have R:=I.write (x:=a) (e:=a) (o:=so a C (some d)) (h':=h') (t':=s.toks+2) (by rw[e];exact True.intro) (.inl rfl) j (_,i) ((a0,i),(_,i),λh1 h2 B k=>by obtain⟨z,q⟩:=B;exact(z,k _ q));have h:∀b o,s.heap.get? b<*o->b≠d:=λb o q z=>by rw[z,F]at q;cases q
 refine O d _ l G (R.track (e:=d) (by rw[a_ G];exact l) (vF I M F) ?_ (λx c q=>?_) (λp hp=>?_) (_,ns,λg=>?_,λg N=>?_) ?_ ?_)
 .obtain ⟨m,⟨o,S,T,z,_⟩,_⟩:=I.loc;exact h _ o z
 .obtain ⟨v,o,r,_⟩:=I.cell x c q;exact h c o r
 .exact h p.1 p.2 (I.pin p hp).1
 .show au (List.lookup g [(f,y,)]) (if g=f then some u else none);by_cases q:g=f
  .have t:(g==f)=true:=beq_iff_eq.mpr q;rw[if_pos q];simp only[List.lookup,t];exact J
  .have t:(g==f)=false:=beq_eq_false_iff_ne.mpr q;rw[if_neg q];simp only[List.lookup,t];exact True.intro
 .by_cases q:g=f
  .rw [q];exact mem_singleton.mpr rfl
  .exact absurd (show(if g=f then some u else none)=none by rw[if_neg q]) N
 .obtain ⟨o,_,_,z,_⟩:=ns;exact(o,z)
 .exact λh1 h2⟨L,z,r⟩k=>(L,z.at k,r)
theorem sd(I:f' X pins σ H s)(e:H a<*so a C (some dx))(l:H dx<*vp dx fs)(c:gN X.K C)(n:vj X.K C f)(G:fs.length<1000)(p:ad y u)(D:∀s',f' X pins σ (upd H dx (vp dx (al f y fs))) s'->Q () s'):wpAny (model X.prog X.w) A (setAttr (.ref a) f u) Q E s:=by
 obtain⟨⟨a0,F⟩,_,_⟩:=I.hok a _ e;obtain⟨⟨d,t,r,i⟩,_,_⟩:=I.hok dx _ l;have hz:(fs.map (·.1)).length≤sizeLine:=by rw[j_,sizeLine_eq];exact le_trans (le_of_lt G) (!0)
 refine me I.kIn F t c n.taker i hz λh' ns m=>D _ ?_;have j:∃o,h'.get? dx<*o:=let⟨o,_,_,z,_⟩:=ns;(o,z);refine I.write (x:=dx) (e:=dx) (by rw[l];exact True.intro) (.inl rfl) (λb q B z=>(m.2 b B).trans z) j ((_,ns,λg=>?_,λg v=>?_),j,λh1 h2 h k=>by obtain⟨d,z,r⟩:=h;exact(d,z.at k,r))
 .show au ((al f y fs).lookup g) (if g=f then some u else d g);rw[Di];by_cases q:g=f
  .rw [if_pos q,if_pos q];exact p
  .rw [if_neg q,if_neg q];exact r g
 .by_cases q:g=f
  .rw [q];exact(BR f y fs).1
  .refine (BR f y fs).2 g (i g λz=>v ?_);show(if g=f then some u else d g)=none;rw[if_neg q];exact z
end
noncomputable def sw(K:Frag)(ta tv:TE)(f:Str):TS:=λD σ H=>tv σ H λy H1=>ta σ H1 λx H2=>∃a C,x=.ref a/\gN K C/\vj K C f/\
 ((H2 a=some (so a C none)/\∀d,H2 d=none->d≠a->D.nx σ (upd (upd H2 a (so a C (some d))) d (vp d [(f,y,)]))) \/
  ∃dx fs,H2 a=some (so a C (some dx))/\H2 dx=some (vp dx fs)/\fs.length<1000/\D.nx σ (upd H2 dx (vp dx (al f y fs))))
theorem dD(G:X.ex=[])(N:PE X o z)(J:PE X b w)(L:swapsWith b (some (.Attribute o f i)) pos.line X.env=pure false):PS X (.Assign [.Attribute o f i] b pos) (sw X.K z w f):=by
 intro g s j H D I h;refine plainObj_wpAny_Assign_Attribute (n0 (J g s j H _ I h) λu B⟨y,S,R,t,q⟩=>n0 (N g B j S _ R q) λF s2 k=>?_) L;obtain⟨x,U,v,E,a,C,O,c,n,r⟩:=k;subst O;obtain rfl:F=Value.ref a:=E;rcases r with⟨e,m⟩|⟨dx,T,e,P,l,m⟩
 .exact se G v e c n t λd A M Q p=>(j,_,p,m d M Q)
 .exact sd v e P c n l t λA p=>(j,_,p,m)
noncomputable def qr(K:Frag)(t:TA):TE:=λσ H Q=>t σ H λvs H1=>∃e C f u,vs=[.ref e,u]/\H1 e=some (so e C none)/\wz K C f/\Q .non H1
theorem mF{p a pos:Pos}{pl:Sem Bool}(B:oB X.K R)(Y:X.mg x<*.ref R)(ha:PA X (e::c) t)(Z:Gl X x:=by rfl)(hd:(x==("__debug__":Str))=false:=by decide)(he:starEach (e::c) X.env=(false,eval e X.env,)::starEach c X.env:=by rfl)(v:(backTo pos (starEach c X.env)).any (·.1)=false:=by rfl)(U:eval (.Call (.Attribute (.Name x p) "__init__" a) (e::c) [] pos) X.env=(do
   let F <-eval (.Name x p) X.env
   standAt a.atName
   let(f,first,) <-holding [F] (getMethod F "__init__" pl)
   callWith pos f first (backTo pos (starEach (e::c) X.env)) (backToKw pos (keywordEach [] X.env))):=by rfl):PE X (.Call (.Attribute (.Name x p) "__init__" a) (e::c) [] pos) (qr X.K t):=by
 intro l s L H Q I h;refine PySem.W.methodCall_KW (pl:=pl) (uB I Z Y ?_ hd) U;refine PySem.W.method_cls I.kIn B.ga (PySem.W.cls_value I.kIn B.rd B.fc rfl ?_);have G:=ha pos l {s with toks:=s.toks+1} L H _ (I.tok _) h;rw[he]at G⊢;have n:(backTo pos ((false,eval e X.env,)::starEach c X.env)).any (·.1)=false:=by
  show(false||(backTo pos (starEach c X.env)).any (·.1))=false;rw[v];rfl
 refine Calls.callWith_builtin n (Calls.evalArgs_plain (n0 G λus s2 y=>?_));obtain⟨vs,E,D,r,j,C,f,u,ev,A,T,q⟩:=y;subst ev;obtain⟨M,u2,rfl,S,ru⟩:=bc r;obtain rfl:M=Value.ref j:=S;obtain⟨⟨a0,eO⟩,_,_⟩:=D.hok j _ A;obtain⟨bm,N,nm,qn,bs,hdct,sn,sub,ab,col,dd,k0,k1,k2,k3,k5,mN,cO,nO,iO,O⟩:=T.obj D.kIn;obtain⟨hh,g,d,P,os⟩:=s2;refine ll O cO eO λh' m i=>(.non,E,?_,rfl,q);have J:=D.write (x:=j) (e:=j) (o:=so j C none) (h':=h') (t':=P) (by rw[A];exact True.intro) (.inl rfl) m (_,i) ((_,i),(_,i),λh1 h2 w k=>by obtain⟨z,q⟩:=w;exact(z,k _ q));have eu:upd E j (so j C none)=E:=by
  funext b;unfold upd;split
  .rename_i z;rw[z,A]
  .rfl
 rw[eu]at J;exact J
section
variable{X:Cx}{CX:CXT}{k:Nat}{f C:Addr}{fd:FuncData}{ps:List Str}{sp:Sp}{E E':XK}{x:Str}{np cpos pos:Pos}{e0:Expr}{es:List Expr}{t:TA}
theorem oP{l:St}{Q:VK}(U:X.ex=[])(M:wz X.K C f)(fn:isFn X.K (.ref f)=true)(F:aa X.prog X.w X.K X.mg X.base CX k f fd ps sp)(Y:ah (k+1) X.A)(hb:vw X.K fd ps [])(hp:z8 CX X E')(I:f' X b l H s)(r:ac D i)(W:i.length≤sizeLine)(h:∀e,H e=none->sp (.ref e::D) (upd H e (so e C none)) (λv H2=>v=.non/\Q (.ref e) H2) E'):wpAny (model X.prog X.w) X.A (call (.ref C) i) (λu s'=>∃e H',u=.ref e/\X.s₀.heap.get? e=none/\f' X b l H' s'/\Q (.ref e) H') X.xe s:=by
 obtain⟨bm,N,nm,qn,bs,hdct,sn,sub,ab,col,dd,k0,k1,k2,k3,k5,mN,cO,S,T,O⟩:=M.obj I.kIn;obtain⟨p,fO,fc⟩:∃p,s.heap.get? f=some p/\p.cls=.type "function":=by
  obtain⟨o,q,e⟩:=v8 (show Option.map (λx:Obj=>x.cls) (List.lookup f X.K)<*.type "function"from beq_iff_eq.mp fn);exact(o,I.kIn _ _ q,e)
 obtain⟨hh,g,d,n,os⟩:=s;refine nF O cO S T fO fc W λh' e es mk=>?_;obtain⟨t0,L,tn,tO⟩:=mk.there;have m:f' X b l (upd H e (so e C none)) (h',g,d,n,os):=I.laid (a:=e) (o:=so e C none) (h':=h') (t':=n) mk.keeps es ((_,L),(_,L),λh1 h2 y k=>by obtain⟨z,q⟩:=y;exact(z,k _ q));have J:=h e (I.hok.fresh es);have G:ac (V.ref e::D) (Value.ref e::i):=.cons rfl r;have Z:(Value.ref e::i).length=ps.length:=by
  have z:=G.length;rw[F.len _ _ _ _ J]at z;exact z.symm
 have j:=hb (h',g,d,n,os) (Value.ref e::i) m.kIn;rw[append_nil]at j;refine wpAny_call (codeAny_mono (F.run _ X.stack _ _ (Value.ref e::i,[]) (Value.ref e::i) _ _ E' (Y.make C i []) (m.env0.make C i []) (j Z) G J) λr s' c=>?_);cases r with
 |error B=>exact hp b l _ _ B s' m c
 |ok fl=>
  cases fl with
  |ret u=>
   obtain⟨v,H',I3,P,B,R⟩:=m.after c;subst B;exact(P,e,H',rfl,vF I U mk.new,I3,R)
  |next=>exact False.elim c
  |brk=>exact False.elim c
  |cont=>exact False.elim c
noncomputable def QX(C:Addr)(E:XK):VK:=λv H=>match v with
 |.ref e=>∃d,H e=some (so e C d)/\E (.ref C) d (yo H e)
 |_=>False
noncomputable def jP(X:Cx)(E:XK):Prop:=∀(pins:List (Addr×Obj))(σ:St)(H:Hp)(s:Shared)(e C:Addr)(d:Option Addr),f' X pins σ H s->H e<*so e C d->X.s₀.heap.get? e=none->E (.ref C) d (yo H e)->X.xe (.ref e) s
theorem pz(Z:X.ex=[])(m:X.stack=X.env::X.outer)(M:X.env.frame<*X.env.locals){R:St}(I:f' X p R H s)(j:H e<*so e C d)(d0:X.s₀.heap.get? e=none)(q:E (.ref C) d (yo H e)):wpAny (model X.prog X.w) X.A (leaving X.env (.ref e)) (λ_ l=>ve X.prog X.w X.outer X.H₀ X.s₀ E (.ref e) l) (λe' l=>ve X.prog X.w X.outer X.H₀ X.s₀ E e' l) s:=by
 have L:s.heap.FunFrames X.base (X.env::X.outer):=m▸I.stack;obtain⟨⟨a0,eO⟩,_,_⟩:=I.hok e _ j;have sub:∀b∈tf (X.env::X.outer),b∈e::tf X.stack:=λb a=>mem_cons_of_mem _ (m▸a);have B:∀b u,H b<*u->b≠e->yo H e b<*u:=λb u z n=>(AM n).trans z;refine uY (vv _ _) (wpAny_leaving_firstW (base:=hideAll s.heap (e::tf X.stack)) (a0:=.ref a0) (by rw[<-m];exact I.ok.frames) (Bo L sub) M eO (λb o z=>of_hideAll _ z) (hideAll_none _ mem_cons_self) rfl rfl rfl λh' hL dk=>?_);obtain⟨k1,⟨_,_,k2⟩,k3,U⟩:=hL;have fr:∀b∈tf X.stack,∃o,s.heap.get? b=some o/\∀vs,o.data≠.fields vs:=Cy I.stack;have g:∀b o,s.heap.get? b<*o->b≠e->b∉tf X.stack->h'.get? b<*o:=λb o z n a=>k1 b o (hideAll_get _ z λr=>(mem_cons.mp r).elim n a);obtain⟨T,Y,F⟩:=iP k3;have P:∀b,H b=none->b≠e:=λb z y=>by rw[y,j]at z;cases z
 have J:Un (tf X.stack) [] H (yo H e) s.heap h':=by
  refine(λb o z n a _=>g b o z (P b n) a,λb o z n a _=>?_,λb o z n _=>by rw[AM (P b n)];exact n,λb o z _=>?_,λb xs z=>B b _ z (n_ z j (by intro y;cases y)),λb o u z=>B b _ z (n_ z j (by intro y;cases y)),λb ps z=>(#[],?_))
  .obtain ⟨o',h,N⟩:=fr b a;rw[z]at h;cases h;exact U b _ z N
  .by_cases a:b∈tf X.stack
   .obtain ⟨o',h,N⟩:=fr b a;rw[z]at h;cases h;obtain⟨sl,G⟩:=U b _ z N;exact(_,G)
   .by_cases he:b=e
    .subst he;obtain⟨oe,_,_,_,G,_⟩:=F;exact(oe,G)
    .exact (o,g b o z he a)
  .rw [Array.append_empty];exact B b _ z (n_ z j (by intro y;cases y))
 have i:uO X.prog X.w (yo H e) h':=λb u z=>by
  have a:b≠e:=λy=>by rw[y,gB]at z;cases z
  rw[AM a]at z;refine(I.hok b u z).stay (λc v D y=>?_) (λc y=>B c _ y (n_ y j (!5))) λc xs y=>B c _ y (n_ y j (!5));have hH:∃S,H c=some S/\c≠e:=by
   rcases D with rfl|D
   .exact (u,z,a)
   .exact (_,D,n_ D j (!5))
  obtain⟨S,hw,O⟩:=hH;exact g c v y O λr=>by rw[I.stkFree c r]at hw;cases hw
 have Q:f' X p R (yo H e) {s with heap:=h',gens:=s.gens,drawn:=s.drawn,toks:=s.toks}:=I.call (g':=s.gens) (d':=s.drawn) (t':=s.toks) (ch:=[]) J i I.bare (λ_ z=>nomatch z);have dT:s.heap.get? T=none:=by
  cases z:s.heap.get? T with
  |none=>rfl
  |some o=>
   have h1:=Ds F Q.stack;have h2:T≠e:=by obtain⟨_,_,_,_,_,_,_,_,y,_⟩:=F;exact y
   rw[hideAll_get _ z λr=>(mem_cons.mp r).elim h2 h1]at Y;cases Y
 have W:=Q.base;rw[Z]at W;have TN:=Cz I.hok dT;exact(e,T,.ref C,.ref a0,d,yo H e,rfl,Q.os,I.bare,W,i,d0,vF I Z dT,gB,by rw[AM (P T TN)];exact TN,F.up dk eO (λ_ z=>z),q)
noncomputable def jg(s0:Heap)(C:Addr)(sp:Sp)(E E':XK)(t:TA):TS:=λ_ σ H=>t σ H λvs H1=>vs.length≤sizeLine/\∀e,H1 e=none->sp (.ref e::vs) (upd H1 e (so e C none)) (λv H2=>v=.non/\∃d,H2 e=some (so e C d)/\E (.ref C) d (yo H2 e)) E'
theorem kj(Z:X.ex=[])(hc:X.calm=true)(hT:jP X E)(M:wz X.K C f)(fn:isFn X.K (.ref f)=true)(F:aa X.prog X.w X.K X.mg X.base CX k f fd ps sp)(hr:ah (k+1) X.A)(hb:vw X.K fd ps [])(hp:z8 CX X E')(hm:X.mg x<*.ref C)(ha:PA X (e0::es) t)(hg:Gl X x:=by rfl)(hd:(x==("__debug__":Str))=false:=by decide)(P:starEach (e0::es) X.env=(false,eval e0 X.env,)::starEach es X.env:=by rfl)(r:(backTo cpos (starEach es X.env)).any (·.1)=false:=by rfl):PS X (.Raise (some (.Call (.Name x np) (e0::es) [] cpos)) none pos) (jg X.base C sp E E' t):=by
 intro b s o H D I h;obtain⟨bm,N,nm,O,bs,hdct,sn,sub,ab,col,dd,k0,k1,k2,k3,k5,mN,cO,nO,iO,T⟩:=M.obj I.ok.mod.kin;rw[arm_exec_Raise];refine d_ (wpAny_standAt (ij (C:=C) (nm:=nm) (q:=O) (N:=N) (bs:=bs) (bm:=bm) (hdct:=hdct) (sn:=sn) (sub:=sub) (ab:=ab) (col:=col) (dd:=dd) (k0:=k0) (k1:=k1) (k2:=k2) (k3:=k3) (k5:=k5) (T.hasType excBase_ValueError.hasBase) (I.ok.hd hc)
  (d_ (wpAny_mono (wpAny_Call_ofName (uB I hg hm ?_ hd)) (λv L h3=>d_ (wpAny_standAt (j2 h3))) λ_ _ z=>z))))
 have R:=ha cpos b s o H _ I h;have p:(backTo cpos (starEach (e0::es) X.env)).any (·.1)=false:=by rw[P];show(false||(backTo cpos (starEach es X.env)).any (·.1))=false;rw[r];rfl
 have S:∀{n:St}{H':Hp}{s':Shared},f' X b n H' s'->s'.heap.get? C<*excClassObj nm O C N bs bm hdct sn sub ab col dd k0 k1 k2 k3 k5 "ValueError.__new__":=λI'=>I'.bk _ _ cO;unfold callWith;refine d_ (wpAny_holding (wpAny_mono (Q:=λ(a:Args)s2=>a.kw=[]/\∃g i,f' X b o i s2/\ac g a.pos/\g.length≤sizeLine/\∀e,i e=none->sp (.ref e::g) (upd i e (so e C none)) (λv m=>v=.non/\∃d,m e=some (so e C d)/\E (.ref C) d (yo m e)) E') ?_ (λa s2 h2=>d_ (wpAny_standAt ?_)) λ_ _ z=>z))
 .rw [P]at R⊢;exact Calls.evalArgs_plain (n0 R λus s2 B=>by obtain⟨g,i,l,j,u,q⟩:=B;exact(rfl,g,i,l,j,u,q))
 obtain⟨c,G⟩:=a;obtain⟨y,g,i,l,j,u,q⟩:=h2;obtain rfl:G=[]:=y;obtain⟨ag,g2,d2,U,Y⟩:=s2;simp only[p];refine d_ (wpAny_keeperOf_exc (S l) ?_);refine d_ (wpAny_mono (oP (Q:=QX C E) Z M fn F hr hb hp l j (by show c.length≤sizeLine;have z:g.length=c.length:=j.length;rw[<-z];exact u) λe hn=>q e hn) (λv L hv=>d_ (wpAny_holding (wpAny_point (j2 ?_)))) λ_ _ z=>z);obtain⟨e,m,rfl,d0,J,d,h1,h2⟩:=hv;obtain⟨⟨W,eO⟩,_,_⟩:=J.hok e _ h1;exact(e,d,.ref W,rfl,S J,eO,hT b o m L e C d J h1 d0 h2)
theorem eW{P:Program}{w:World}{K:Frag}{mg:Str->Option Value}{base:Heap}{N:List Str}:jP (aK (ve P w) P w K mg base N qual a f h A b s H E) E:=
 λc i l j e C d I h1 h2 g=>pz (X:=aK (ve P w) P w K mg base N qual a f h A b s H E) rfl rfl rfl I h1 h2 g
end
section
variable{X:Cx}{pins:List (Addr×Obj)}{σ:St}{H:Hp}{s:Shared}{x y fx:Str}{R:Addr}{j k:Nat}{np hpos pos p cp yp ap:Pos}{b0:Stmt}{suite:List Stmt}{ts:TS}{D:Ends}{ps:List Str}{sp:Sp}{e:Expr}{es:List Expr}{t:TA}
end
noncomputable def uT(f:Addr)(qual:Str)(params:Arguments)(body:Expr)(scope:Scope)(clos:List (Str×Addr))(c:Addr):HO:=.ext λh=>∃pm ctv,h.get? f<*kla_obj "<lambda>" qual params body scope clos pm c ctv
theorem fG{P:Program}{w:World}(x:h.get? f<*kla_obj "<lambda>" qual a g b d pm c j):uS P w H h f (uT f qual a g b d c):=
 ((pm,j,x),(_,x),λ_ _ i k=>by obtain⟨p,v,e⟩:=i;exact(p,v,k _ e))
noncomputable def tR(X:Cx)(P0:Addr)(sites:List (Pos×Str))(qual:Str)(params:Arguments)(body:Expr)(sc:Scope):TE:=λ_ H Q=>vL H P0 sites/\
 ∀(clos:List (Str×Addr))(f c:Addr)(H1:Hp),(∀y a,clos.lookup y<*a->X.env.cells.lookup y<*a)->(∀y∈sc.names,y.2=.free->∃a,clos.lookup y.1<*a)->H f=none->f≠c->wv P0 H H1->vL H1 P0 sites->
  H1 c<*k_ c qual->H1 f<*uT f qual params body sc clos c->Q (.ref f) H1
theorem Bz{X:Cx}{d:Arguments}{g:Expr}{sc:Scope}(C:X.env.code=.ref c)(hC:CodeHd X.base c P0)(hB:xi X.base X.mg)(Y:(pos,qual,)∈sites)(L:∀q∈sites,q.1.line=pos.line->q.1.col=pos.col->q.2=qual)(hq:X.env.qual++"<lambda>"=qual:=by rfl)(aT:defaultsOf d X.env=([],[],):=by rfl)(an:(sc.names.all λy=>y.2 != .free||X.env.scope.names.lookup y.1==some .cell)=true:=by rfl):PE X (.Lambda d g sc pos) (tR X P0 sites qual d g sc):=by
 intro v s σ H Q I h;obtain⟨⟨ps,T,ht,E⟩,h⟩:=h;have a9:∀y∈sc.names,y.2=.free->X.env.kindOf y.1<*.cell:=λy hy e=>by
  have q:=all_eq_true.mp an y hy;rw[e]at q;simpa[Env.kindOf]using q
 obtain⟨l,D,P,R⟩:=Cu (env:=X.env) (sc:=sc) λy hy e=>I.ok.has y.1 (.inl (a9 y hy e));have az:s.heap.get? P0<*tabObj ps:=I.hok P0 _ T;have S:P0<s⁻¹:=I.hok.lt T;have O:s.heap.BuiltinsAt X.mg P0:=by
  obtain⟨bm,o,e1,e2,e3,e4,e5,e6,e7⟩:=hB.ex;refine(bm,o,e1,e2,e3,λz=>?_,(I.bs bm o e4).1,e5,e6,e7);have n:=(I.bs bm o e4).2;rw[z,T]at n;cases n
 have ab:s.heap.Ns mainGlobals X.mg:=I.mod.glob.keeps I.bk;have a8:mainGlobals≠P0:=λz=>by
  obtain⟨o,es,ep,e,hd,_⟩:=ab;rw[z,az]at e;cases e;cases hd
 have a2:=hC.keeps I.bk;refine PySem.W.kla_eval aT ?_;rw[hq];have a3:∀{f:Addr}{s1:Shared}{J:Hp},f' X v σ J s1->Q (.ref f) J->EP X v σ Q (.ref f) s1:=λ{f s1 J}I1 q=>(.ref f,J,I1,rfl,q);have a4:∀{b:Addr}{u:HO},H b<*u->b<s⁻¹:=λe=>I.hok.lt e;rcases E _ Y with a7|⟨c0,aS,aU⟩
 .refine PySem.W.kla_makeFunction (mg:=X.mg) D I.ok.glob ab C a2 az ht a7 a8 O λi p h' tk a5 ag aN aB a6=>?_;have bf:P0≠i:=ne_of_lt (lt_of_lt_of_le S ag);have x:s⁻¹<h'.objs.size:=lt_of_le_of_lt ag aN;have a1:P0≠h'.objs.size:=ne_of_lt (lt_trans S x);have ar:i≠h'.objs.size:=ne_of_lt aN;generalize bd:h'.objs.size=f at a1 ar x⊢;have kp:∀b o,b≠P0->s.heap.get? b<*o->(h'.push (kla_obj "<lambda>" qual d g sc l ((X.mg "__name__").getD .none) i p)).get? b<*o:=λb o j e=>nb _ (a5 b o j e);have aH:(h'.push (kla_obj "<lambda>" qual d g sc l ((X.mg "__name__").getD .none) i p)).get? f<*kla_obj "<lambda>" qual d g sc l ((X.mg "__name__").getD .none) i p:=by rw[<-bd];exact get?_push_size _ rfl
  have aM:(h'.push (kla_obj "<lambda>" qual d g sc l ((X.mg "__name__").getD .none) i p)).CodeRec (.ref i) qual:=by
   obtain⟨c2,oc,vs,t,e,e1,e2,e3⟩:=aB;exact(c2,oc,vs,t,e,nb _ e1,e2,e3)
  have N:(h'.push (kla_obj "<lambda>" qual d g sc l ((X.mg "__name__").getD .none) i p)).get? P0<*tabObj (ps++#[rawInt pos.line,rawInt pos.col,.ref i]):=nb _ a6;generalize h'.push (kla_obj "<lambda>" qual d g sc l ((X.mg "__name__").getD .none) i p)=hh at kp aH aM N⊢;generalize Z:ps++#[rawInt pos.line,rawInt pos.col,.ref i]=ps' at N;have aA:∀{b:Addr},b<s⁻¹->b≠i/\b≠f:=λj=>(ne_of_lt (lt_of_lt_of_le j ag),ne_of_lt (lt_trans j x));have G:∀{b:Addr},b<s⁻¹->b≠P0->upd (upd (upd H P0 (.tbl ps')) i (k_ i qual)) f (uT f qual d g sc l i) b=H b:=λj O=>by
   rw[a_ (aA j).2,a_ (aA j).1,a_ O]
  have U:∀{b:Addr},b≠P0->b≠i->b≠f->upd (upd (upd H P0 (.tbl ps')) i (k_ i qual)) f (uT f qual d g sc l i) b=H b:=λh1 h2 h3=>by
   rw[a_ h3,a_ h2,a_ h1]
  have B:upd (upd (upd H P0 (.tbl ps')) i (k_ i qual)) f (uT f qual d g sc l i) P0<*.tbl ps':=by rw[a_ a1,a_ bf,j']
  have A:upd (upd (upd H P0 (.tbl ps')) i (k_ i qual)) f (uT f qual d g sc l i) i<*k_ i qual:=by rw[a_ ar,j']
  have F:upd (upd (upd H P0 (.tbl ps')) i (k_ i qual)) f (uT f qual d g sc l i) f<*uT f qual d g sc l i:=j';generalize upd (upd (upd H P0 (.tbl ps')) i (k_ i qual)) f (uT f qual d g sc l i)=J at G U B A F;have nP:∀{b:Addr},H b=none->b≠P0:=λn z=>by rw[z,T]at n;cases n
  have r:∀{b:Addr}{u:HO},H b<*u->b≠P0->J b<*u:=λe j=>by rw[G (a4 e) j];exact e
  have m:∀{b:Addr}{u:HO},H b<*u->(∀ps,u≠.tbl ps)->J b<*u:=λe hu=>r e λz=>by
   rw[z,T]at e;cases e;exact hu _ rfl
  have un:Un X.fs [] H J s.heap hh:=by
   refine(λb o e n _ _=>kp b o (nP n) e,λb o e n _ _=>(o.slots,kp b o (nP n) e),λb o e n _=>by rw[G (lt_size e) (nP n)];exact n,λb o e _=>?_,λb xs e=>m e (λ_ z=>nomatch z),λb o u e=>m e (λ_ z=>nomatch z),λb qs e=>?_)
   .by_cases j:b=P0
    .rw [j];exact(_,N)
    .exact (o,kp b o j e)
   .by_cases j:b=P0
    .rw [j,T]at e;cases e;rw[j];exact(_,by rw[B,Z])
    .exact (#[],by rw[r e j];simp)
  have aC:uO X.prog X.w J hh:=λa o e=>by
   by_cases aV:a=f
   .rw [aV]at e⊢;rw[F]at e;cases e;exact fG aH
   by_cases a0:a=i
   .rw [a0]at e⊢;rw[A]at e;cases e;exact cQ aM
   by_cases as:a=P0
   .rw [as]at e⊢;rw[B]at e;cases e;exact N
   rw[U as a0 aV]at e;refine(I.hok a o e).stay (λb u j q=>kp b u (λz=>?_) q) (λb q=>m q (λ_ z=>nomatch z)) λb xs q=>m q (λ_ z=>nomatch z);rcases j with j|j
   .exact as (j▸z)
   .rw [z,T]at j;cases j
  have I1:f' X v σ J {s with heap:=hh,toks:=tk}:=I.un un aC;refine a3 I1 (h l f i J P R (I.hok.fresh (le_of_lt x)) (Ne.symm ar) (λb o j e=>r e j) (ps',B,?_,λq M=>?_) A F)
  .rw [<-Z,Array.toList_append];exact EY _ _ _ _ _ _ ht
  .rw [<-Z,Array.toList_append,c6 _ _ _ ht];rcases E q M with hn|⟨c1,h1,h2⟩
   .rw [hn,Option.none_or];by_cases k:q.1.line=pos.line/\q.1.col=pos.col
    .refine .inr (i,?_,?_)
     .show codeAmong q.1 [rawInt pos.line,rawInt pos.col,.ref i]=_;simp[codeAmong,rawInt,k.1,k.2]
     .rw [L q M k.1 k.2];exact A
    .refine .inl ?_;show codeAmong q.1 [rawInt pos.line,rawInt pos.col,.ref i]=_;simp only[codeAmong,rawInt];rw[if_neg];intro z;simp at z;exact k (!6,!6)
   .rw [h1,Option.some_or];exact .inr (c1,rfl,m h2 (λ_ z=>nomatch z))
 .refine PySem.W.kla_makeFunctionHit (mg:=X.mg) D I.ok.glob ab C a2 az ht aS O λp h' tk hk hsz=>?_;have I1:f' X v σ (upd H h'.objs.size (uT h'.objs.size qual d g sc l c0)) {s with heap:=h'.push (kla_obj "<lambda>" qual d g sc l ((X.mg "__name__").getD .none) c0 p),toks:=tk}:=
   I.laid (λb u e=>nb _ (hk b u e)) hsz (fG (get?_push_size _ rfl))
  have ap:H h'.objs.size=none:=I.hok.fresh hsz;have kH:∀{b:Addr}{u:HO},H b<*u->upd H h'.objs.size (uT h'.objs.size qual d g sc l c0) b<*u:=λe=>by rw[a_ (f_ e ap)];exact e
  refine a3 I1 (h l _ c0 _ P R ap (Ne.symm (f_ aU ap)) (λb o _ e=>kH e) (ps,kH T,ht,λq M=>?_) (kH aU) j');rcases E q M with hn|⟨c1,h1,h2⟩
  .exact .inl hn
  .exact .inr (c1,h1,kH h2)
theorem BA{P:Program}{w:World}{K:Frag}{mg:Str->Option Value}{base:Heap}{N ps fr:List Str}{qual:Str}{a:Scope}{f:Addr}{d:List (Str×Addr)}{fvs:List V}{k:Nat}{h:Arguments}{i:Expr}{pm F:Value}{p:Addr}{L:Sp}{o:Obj}(ho:base.get? f<*o)(hd:o.data=.func (kla_fn "<lambda>" qual h i a d pm (.ref p) F))(X:base.CodeRec (.ref p) qual)(S:wW N ps fr a)(C:vb base d a fr fvs)(len:∀j H Q E,L j H Q E->j.length=ps.length)(m:∀(A:Around)(g:List Env)(s:Shared)(H:Hp)(j:List V)(Q:VK)(E:XK),ah k (A.deeper (envX qual a s⁻¹ f (.ref p) d))->L j H Q E->
   ∃t,PE (bh nq P w K mg base N qual a f (.ref p) d A g s H E).nox i t/\t (xx N j fvs) H Q):aa P w K mg base nq (k+1) f (kla_fn "<lambda>" qual h i a d pm (.ref p) F) ps L:=by
 refine(len,λA g s H ab Z j Q E R D hb r x=>?_);have hl:=len _ _ _ _ x;have M:s.heap.NoLimit:=D.mod.nolimit.keeps λb o e=>(D.bs b o e).1;have l:∀y∈ps.zip Z,a.names.lookup y.1<*.local:=λY hy=>by obtain⟨n,v⟩:=Y;exact S.par n (of_mem_zip hy).1
 have B:s.heap.CodeRec (.ref p) qual:=by
  obtain⟨c,oc,ws,t,e1,e2,e3,e4⟩:=X;exact(c,oc,ws,t,e1,(D.bs c oc e2).1,e3,e4)
 refine PySem.W.kla_callFunE R.depth (D.bs f o ho).1 hd S.co S.gen rfl B (hb _ _ _ _ ?_);refine wpAny_newFunctionEnv (closure:=d) (around:=none) S.nocell l (λh' T z=>?_) S.kind;have U:∀b o,s.heap.get? b<*o->h'.get? b<*o:=λb o e=>z.extBut b o (ne_of_lt (lt_size e)) (nb _ e);refine(M.keeps U,PySem.W.kla_codeExpr ?_);obtain⟨t,ht,hq⟩:=m A g s H j Q E (R.deeper _) x;have I:f' (bh nq P w K mg base N qual a f (.ref p) d A g s H E) [] (xx N j fvs) H {s with heap:=h',toks:=s.toks+(ps.zip Z).length}:=EX S C R.hd D hl r T z;refine wpAny_mono (ht [] _ (xx N j fvs) H _ (I.wish _) hq) (λu s' O=>?_) λe s' O=>O.elim;obtain⟨v,H',J,rv,q⟩:=O;have G:=J.unwish;exact(v,H',G.os,G.bare,G.base,G.hok,rv,q)
section
variable{X:Cx}{elt iter:Expr}{x y:Str}{px py pt pos:Pos}{kt:Nat}{sc:Scope}{wi:TI}{te:TE}{tt:TT}{ifs:List Expr}
noncomputable def dl(K:Frag)(wi:TI)(tt:TT)(te:TE):TE:=λσ H Q=>wi σ H λJ H1=>∀D,H1 D=none->∃W:Nat->Nat->List V->Hp->Prop,
 (∃m,W 0 m [] (upd H1 D (.lst [])))/\∀i m ys H2,W i m ys H2->H2 D=some (.lst ys)/\((J.stop i H2/\Q (.ref D) H2)\/(J.go i H2/\ys.length<sizeLine/\∀x H3,J.yld i H2 x H3->
  ∃p a b,x=.ref p/\pa K H3 p [a,b]/\tt (some a::some b::σ) H3 λbo H4=>if bo=true then te (some a::some b::σ) H4 λy H5=>H5 D=some (.lst ys)/\∃m',m'<m/\W (i+1) m' (ys++[y]) (upd H5 D (.lst (ys++[y])))else ∃m',m'<m/\W (i+1) m' ys H4))
theorem iz{st:Shared}(Z:Nat->Shared->Prop)(I:∀k t,Z k t->wpAny (model pg d) B (pyNext p) (λr o=>match r with
   |none=>Rf (.ok .next) o
   | some u=>wpAny (model pg d) B (letOwnedTupleGo m p u) (λ_ A=>wpAny (model pg d) B (assign m g u) (λ_ w=>
     wpAny (model pg d) B (forIn ifs true λc r=>if r=true then do let ok <-isTrue c g (eval c g);pure (ForInStep.yield ok)else pure (ForInStep.yield r)) (λi n=>
      if i=true then wpAny (model pg d) B (eval elt g) (λz v=>wpAny (model pg d) B (call (.builtin "list.append") [C,z]) (λ_ s=>∃j,j<k/\Z j s) (notedBy (model pg d) B g λe s'=>Rf (.error e) s') v) (notedBy (model pg d) B g λe s'=>Rf (.error e) s') n
      else ∃j,j<k/\Z j n) (notedBy (model pg d) B g λe s'=>Rf (.error e) s') w) (notedBy (model pg d) B g λe s'=>Rf (.error e) s') A) (notedBy (model pg d) B g λe s'=>Rf (.error e) s') o) (notedBy (model pg d) B g λe s'=>Rf (.error e) s') t)(k:Nat)(hz:Z k st):codeAny (model pg d) B (.compLoop (.ListComp elt [(m,iter,ifs,0)] sc pos) 0 p C g) Rf st:=by
 have b:∀{q:Type}{x:Sem q}{Q1 D:q->Shared->Prop}{N:Value->Shared->Prop}{t:Shared},wpAny (model pg d) B x Q1 N t->(∀a t',Q1 a t'->D a t')->wpAny (model pg d) B x D N t:=λh f=>wpAny_mono h f λ_ _ z=>z;refine codeAny_loop rfl Z (λk t E=>?_) k hz;show wpAny _ B ((compTurn (.ListComp elt [(m,iter,ifs,0)] sc pos) 0 p C g).onRaise λx=>do noteFrame x g;theTreesLotGoes x) _ _ t;refine wpAny_noted ?_;rw[compTurn_list];refine d_ (wpAny_standAt (d_ (b (I k t E) λr o h1=>?_)));match r,h1 with
 |none,h1=>exact j2 h1
 |some u,h1=>
  refine d_ (b h1 λ_ A h2=>d_ (b h2 λ_ w H=>d_ (b H λi n l=>?_)));match i,l with
  |false,l=>exact j2 (rfl,l)
  |true,l=>exact d_ (d_ (b l λz v G=>d_ (b G λ_ s F=>j2 (j2 (rfl,F)))))
end
section
variable{X:Cx}{elt iter tg:Expr}{x y:Str}{px py pt pos:Pos}{kt:Nat}{sc:Scope}{wi:TI}{te:TE}{tt:TT}{ifs:List Expr}
theorem vc{ns:List Str}{gx:V->Hp->List V->Prop}(G:List Str)(hc:X.calm=true)(cp:(ns++G).Nodup)(hi:PI X tg iter wi)(a:∀(cl:List (Str×Addr))(C:Addr)(F:List Addr)(s:Shared)(H:Hp),AB {mu X x sc cl C F s H with N:=ns++G} ifs tt/\PE {mu X x sc cl C F s H with N:=ns++G} elt te)(bV:∀(cl:List (Str×Addr))(C:Addr)(F:List Addr)(s0:Shared)(H0:Hp)(t:List (Addr×Obj))(s:Shared)(O:St)(os:List (Option V))(H:Hp)(y:V)(u:Value)(vs:List V),os.length=ns.length->gx y H vs->f' {mu X x sc cl C F s0 H0 with N:=ns++G} t (os++O) H s->ad y u->wpAny (model X.prog X.w) X.A (assign tg (compEnvC sc cl C X.env) u) (λ_ s'=>f' {mu X x sc cl C F s0 H0 with N:=ns++G} t (vs.map some++O) H s') (λ_ _=>False) s)(L:sc.kind=.function)(az:∀y∈sc.names,y.2=.local->sc.names.lookup y.1<*.local)(M:∀y∈sc.names,y.2≠.cell)(aH:(sc.names.all λy=>y.2 != .free||X.env.scope.names.lookup y.1==some .cell||X.env.scope.names.lookup y.1==some .free)=true)(b0:(G.all λy=>sc.names.lookup y != some .local)=true)(b1:G.length=X.N.length)(bk:((G.zip X.N).all λy=>y.1==y.2||sc.names.lookup y.1==none)=true)(hs:∀x,foldedSetIterable iter X.env x=pure x){O:St}{Q:VK}(I:f' X t O H s)(h:wi O H R)(hR:∀J H1,R J H1->∀D,H1 D=none->∃W:Nat->Nat->List V->Hp->Prop,(∃m,W 0 m [] (upd H1 D (.lst [])))/\∀i m ys B,W i m ys B->B D=some (.lst ys)/\((J.stop i B/\Q (.ref D) B)\/(J.go i B/\ys.length<sizeLine/\∀x H3,J.yld i B x H3->
   ∃vs,vs.length=ns.length/\gx x H3 vs/\tt (vs.map some++O) H3 λbo H4=>if bo=true then te (vs.map some++O) H4 λy H5=>H5 D=some (.lst ys)/\∃m',m'<m/\W (i+1) m' (ys++[y]) (upd H5 D (.lst (ys++[y])))else ∃m',m'<m/\W (i+1) m' ys H4)))(cd:∀{s2 s4:Shared}{B H3:Hp}{F:List Addr}{cl:List (Str×Addr)}{D C:Addr}{os:List (Option V)},f' X t O B s2->(∀b∈F,aY X t B b)->(∀b o,s2.heap.get? b<*o->b≠C)->s2⁻¹≤C->f' {mu X x sc cl C F s2 B with N:=ns++G} [] (os++O) H3 s4->Q (.ref D) H3->compPost (model X.prog X.w) X.A X.xe use QQ (.ref D) C (.ok .next) s4):wpAny (model X.prog X.w) X.A (comprehension (.ListComp elt [(tg,iter,ifs,0)] sc pos) sc X.env p (newList []) false (eval iter X.env) use) QQ X.xe s:=by
 have a6:∀y∈sc.names,y.2=.free->(X.env.kindOf y.1<*.cell\/X.env.kindOf y.1<*.free):=λy Z e=>by
  have q:=all_eq_true.mp aH y Z;rw[e]at q;simpa[Env.kindOf]using q
 have a2:∀y∈G,sc.names.lookup y≠some .local:=λy Z e=>by
  have q:=all_eq_true.mp b0 y Z;rw[e]at q;simp at q
 obtain⟨cl,aM,g,ap⟩:=Cu (env:=X.env) (sc:=sc) λy Z e=>I.ok.has y.1 (a6 y Z e);refine wpAny_comprehension_free rfl hs aM L az (n0 (hi t s O H _ I h) λv s1 h1=>n0 h1 λco s2 h2=>?_);obtain⟨it,F,tn,J,B,e,k,T,aC,f2,hW⟩:=h2;subst e

 have an:∀y∈([]:List (Str×Value)),sc.names.lookup y.1<*.local:=λy Z=>absurd Z (!1);refine wpAny_newObj_type ?_;refine wpAny_newFunctionEnv M an (λS E j=>?_) L;dsimp only at E j⊢;generalize aN:s2.heap.push {cls:=.type "list",dict:=none,data:=.seq ([]:List Value).toArray}=Ha at E j⊢;have hC:Ha.objs.size=s2⁻¹+1:=by rw[<-aN,size_push]
 have b5:s2⁻¹≠Ha.objs.size:=by rw[hC];exact ne_of_lt (lt_succ_self _)
 have bd:s2⁻¹≤Ha.objs.size:=by rw[hC];exact le_succ _
 have aV:∀b o,s2.heap.get? b<*o->b≠Ha.objs.size:=λb o e=>ne_of_lt (lt_of_lt_of_le (lt_size e) bd);have Y:∀b o,s2.heap.get? b<*o->S.get? b<*o:=λb o e=>j.extBut b o (aV b o e) (nb _ (aN▸nb _ e));have a8:S.get? s2⁻¹<*{cls:=.type "list",dict:=none,data:=.seq ([]:List Value).toArray}:=j.extBut _ _ b5 (nb _ (aN▸get?_push_size _ rfl));generalize ar:s2⁻¹=D at *;generalize ct:Ha.objs.size=C at *;have a9:B D=none:=k.hok.fresh (le_of_eq ar);have b4:B C=none:=k.hok.fresh (!6);obtain⟨W,⟨m0,w0⟩,aT⟩:=hR _ _ hW D a9;have as:∀b∈F,b<D:=λb a=>by
  obtain⟨o,e,_⟩:=T.obj _ _ aC b a;rw[<-ar];exact lt_size e

 let X':Cx:={mu X x sc cl C F s2 B with N:=ns++G}
 have aA:∀b∈F,b∉tf X.stack:=λb a z=>by
  rcases mem_cons.mp (k.stkSub b z)with e|e
  .exact (f2 b a).2.1 e
  .exact (f2 b a).2.2.1 e
 have bi:X'.Ok:=by
  refine(k.ok.mod,L,k.ok.glob,k.ok.blt,?_,λy z c e1 e2=>k.ok.inj y z c (g y c e1) (g z c e2),λy Z=>?_,λy c e=>absurd (show false=true from e) Bool.false_ne_true,k.ok.hd,k.ok.frames,.inl rfl,λb a=>(?_,λy c e=>?_),k.bs,
   le_trans k.ok.bsz k.sz,λb o e a=>?_,aA,k.stack,k.stkFree)
  .show s2⁻¹≤C;lia
  .rcases Z with Z|Z
   .rcases kb (show(relabel sc X.env).names.lookup y<*.cell from Z)with e|⟨_,e,_⟩
    .exact absurd rfl (M _ (PySem.mem_of_lookup e))
    .exact ap _ (PySem.mem_of_lookup e) rfl
   .rcases kb (show(relabel sc X.env).names.lookup y<*.free from Z)with e|⟨e,_⟩
    .exact ap _ (PySem.mem_of_lookup e) rfl
    .cases e
  .exact ne_of_lt (lt_of_lt_of_le (as b a) (by omega:D≤C))
  .exact (f2 b a).2.2.2.2.1 y c (g y c e)
  .rcases (f2 b a).2.2.2.1 with z|z
   .exact k.ok.noex b o e z
   .exact absurd (lt_of_lt_of_le (lt_of_lt_of_le (lt_size e) k.ok.bsz) z) (lt_irrefl _)
 have I4:∀tk,f' X' [] (replicate ns.length none++O) (upd B D (.lst [])) {s2 with heap:=S,toks:=tk}:=λtk=>by
  refine(bi,rfl,k.bare,Un.laid Y (le_of_eq ar) a9,(_,E,λi P v e1 e2 e3=>?_),λy c e=>?_,?_,λy c e=>?_,λp hp=>?_,k.hok.laid Y (le_of_eq ar) ?_,?_)
  .have e1:(ns++G)[i]?<*P:=e1;by_cases a4:i<ns.length
   .rw [getElem?_append_left (by rw[length_replicate];exact a4),List.getElem?_replicate,if_pos a4]at e2;cases e2
   .rw [getElem?_append_right (by rw[length_replicate];lia),length_replicate]at e2;rw[getElem?_append_right (!6)]at e1;have e0:=e1;generalize i-ns.length=i at e0 e1 e2;have e3:AQ (relabel sc X.env) P:=e3;have bl:P∈G:=uM e0;have U:sc.names.lookup P=some .free/\(relabel sc X.env).names.lookup P≠some .local:=by
     rcases e3 with e|e|e
     .rcases kb e with q|⟨q,_⟩
      .exact absurd q (a2 P bl)
      .cases q
     .rcases kb e with q|⟨_,q,_⟩
      .exact absurd rfl (M _ (PySem.mem_of_lookup q))
      .exact (q,by rw[e];decide)
     .rcases kb e with q|⟨q,_⟩
      .exact (q,by rw[e];decide)
      .cases q
    have e1:X.N[i]?<*P:=by
     have hi:i<G.length:=(l' e0).1;have a5:i<X.N.length:=by lia
     have hm:(P,X.N[i],)∈G.zip X.N:=by
      have hz:(G.zip X.N)[i]?<*(P,X.N[i],):=by
       rw[getElem?_zip_eq_some];exact(e0,j1 a5)
      exact uM hz
     have q:=all_eq_true.mp bk _ hm;rcases Bool.or_eq_true_iff.mp q with q|q
     .have:P=X.N[i]:=eq_of_beq q;rw[j1 a5,<-this]
     .have q2:sc.names.lookup P=none:=by simpa using q
      rw[U.1]at q2;cases q2
    have kc:X.env.kindOf P<*.cell\/X.env.kindOf P<*.free:=a6 _ (PySem.mem_of_lookup U.1) rfl;obtain⟨m,hn,hl⟩:=k.loc;obtain⟨u,ru,lk⟩:=hl i P v e1 e2 (.inr kc);rcases lk with⟨q,_⟩|⟨_,c,b3,⟨o,ho,hd⟩⟩
    .rcases kc with z|z<;>(rw[z]at q;cases q)
    .obtain ⟨c',a7⟩:=ap _ (PySem.mem_of_lookup U.1) rfl;have e4:=g _ _ a7;rw[b3]at e4;cases e4;refine(u,ru,.inr (?_,c,a7,(o,Y c o ho,hd)));rcases e3 with e|e|e
     .exact absurd e U.2
     .exact .inl e
     .exact .inr e
  .obtain ⟨v,o,ho,hd⟩:=k.cell y c (g y c e);exact(v,o,Y c o ho,hd)
  .show upd B D (.lst []) C=none;rw[a_ (AV (!6))];exact b4
  .obtain ⟨v,o,ho,hd⟩:=k.cell y c (g y c e);have a1:=lt_size ho;rw[ar]at a1;show upd B D (.lst []) c=none;rw[a_ (ne_of_lt a1)];exact k.freeC y c (g y c e)
  .exact absurd (show p∈([]:List (Addr×Obj))from hp) (!1)
  .exact (zero_le _,[],0,.nil,a8)
  .show (replicate ns.length none++O).length=(ns++G).length;rw[uA,uA,length_replicate,k.len,b1]
 obtain⟨cf,cg⟩:=a cl C F s2 B;have aS:∀{ag:List (Addr×Obj)}{H':Hp},(∀b∈F,H' b=none)->(∀p∈ag,p.1∉F)->∀b∈F,aY X' ag H' b:=λhn hp b a=>by
  refine(hn b a,?_,aA b a,.inl a,λy c e=>(f2 b a).2.2.2.2.1 y c (g y c e),λp q z=>?_)
  .exact ne_of_lt (lt_of_lt_of_le (as b a) (by omega:D≤C))
  .rcases mem_append.mp q with q|q
   .exact absurd (show p∈([]:List (Addr×Obj))from q) (!1)
   .exact hp p q (by rw[z];exact a)
 have aB:∀tk,codeAny (model X.prog X.w) X.A (.compLoop (.ListComp elt [(tg,iter,ifs,0)] sc pos) 0 (.ref it) (.ref D) (compEnvC sc cl C X.env)) (compPost (model X.prog X.w) X.A X.xe use QQ (.ref D) C) {s2 with heap:=S,toks:=tk}:=λtk=>by
  refine iz (λn s'=>∃i ys os H',os.length=ns.length/\f' X' [] (os++O) H' s'/\tn i s'.heap/\(∀b∈F,H' b=none)/\W i n ys H') ?_ m0 (0,[],_,_,length_replicate,I4 tk,T.keep _ _ _ aC λb a o e=>Y b o e,λb a=>?_,w0)
  .rintro n s3⟨i,ys,os,H3,hos,I3,aU,bf,w3⟩;obtain⟨cs,ce⟩:=aT i n ys H3 w3;rcases ce with⟨stop,qn⟩|⟨go,a3,step⟩
   .refine wpAny_mono (T.done X' rfl rfl rfl hc i [] s3 _ H3 (λ_ _=>False) I3 (aS bf (!1)) aU stop) (λr s4 l=>?_) λ_ _ f=>f.elim;obtain⟨hr,cn⟩:=l;subst hr;exact cd k f2 aV (!6) cn qn
   .refine wpAny_mono (T.item X' rfl rfl rfl hc i [] s3 _ H3 (λ_ _=>False) I3 (aS bf (!1)) aU go) (λr s4 l=>?_) λ_ _ f=>f.elim;obtain⟨u,hr,h4⟩:=l;subst hr;refine wpAny_mono h4 (λ_ s5 l=>?_) λ_ _ f=>f.elim;obtain⟨z,H5,I5,r5,y5,ab,ca⟩:=l;have ch:=I5.pinned (aS ca (!1)) (T.obj _ _ ab);obtain⟨vs,a0,b2,bm⟩:=step z _ y5;refine wpAny_mono (bV cl C F s2 B _ s5 O os H5 z u vs hos b2 ch r5) (λ_ s6 I6=>?_) λ_ _ f=>f.elim;refine wpAny_mono (cf _ s6 _ _ _ I6 bm) (λbg s7 l=>?_) λ_ _ f=>f.elim;obtain⟨H7,I7,q7⟩:=l;cases bg with
    |false=>
     obtain⟨m',hm,w8⟩:=q7;refine(m',hm,i+1,ys,_,_,by rw[j_];exact a0,I7.unpinned,T.keep _ _ _ ab λb a o e=>(I7.pin (b,o,) (mem_append_right _ (mem_append_right _ (AA a e)))).1,λb a=>?_,w8);obtain⟨o,e,d⟩:=T.obj _ _ ab b a;exact(I7.pin (b,o,) (mem_append_right _ (mem_append_right _ (AA a e)))).2.1
    |true=>
    refine wpAny_mono (cg _ s7 _ _ _ I7 q7) (λz s8 l=>?_) λ_ _ f=>f.elim;obtain⟨yv,H8,I8,r8,b6,q8⟩:=l;refine wpAny_mono (Dn (X:=X') _ s8 _ H8 (.ref D) [yv] (.ref D) [z] (λ_ H9=>H9=upd H8 D (.lst (ys++[yv]))) I8 rfl (.cons r8 .nil) (D,ys,yv,rfl,rfl,b6,a3,rfl)) (λ_ s9 l=>?_) λ_ _ f=>f.elim;obtain⟨_,H9,I9,_,e9⟩:=l;subst e9;obtain⟨m',hm,w8⟩:=q8;refine(m',hm,i+1,_,_,_,by rw[j_];exact a0,I9.unpinned,T.keep _ _ _ ab λb a o e=>(I9.pin (b,o,) (mem_append_right _ (mem_append_right _ (AA a e)))).1,λb a=>?_,w8);obtain⟨o,e,d⟩:=T.obj _ _ ab b a;exact(I9.pin (b,o,) (mem_append_right _ (mem_append_right _ (AA a e)))).2.1
  .show upd B D (.lst []) b=none;rw[a_ (ne_of_lt (as b a))];exact(f2 b a).1
 exact codeAny_compStart_list (aB _) (T.self _ _ _ _ _ (T.keep _ _ _ aC λb a o e=>Y b o e) (aB _))
theorem DP{t l:St}(M:f' X f t s s2)(k:∀b∈F,aY X f s b)(g:∀b o,s2.heap.get? b<*o->b≠C)(a:f' {mu X x sc O C F s2 s with N:=N} [] l h B)(I:Q (.ref D) h):compPost (model X.prog X.w) X.A X.xe none (EP X f t Q) (.ref D) C (.ok .next) B:=by
 obtain⟨L,p,_⟩:=a.loc;refine(L,p,λh' d=>?_);have E:∀b u,h b<*u->b≠C:=λb u e z=>by rw[z]at e;rw[show h C=none from a.free]at e;cases e
 have i:uO X.prog X.w h h':=λb u e=>(a.hok b u e).stay (λc v r q=>d.extBut c v (by
  rcases r with z|z
  .rw [z];exact E b u e
  .exact E c _ z) q) (λ_ q=>q) λ_ _ q=>q
 have G:Un (tf X.stack) F s h s2.heap h':=
  (λb o e n1 n m=>d.extBut b o (g b o e) (a.base.keep b o e n1 n m),λb o e n1 n m=>by
    obtain⟨H,q⟩:=a.base.slot b o e n1 n m;exact(H,d.extBut b _ (g b o e) q),a.base.free,λb o e n1=>by
    obtain⟨J,q⟩:=a.base.there b o e n1;exact(J,d.extBut b _ (g b o e) q),a.base.tups,a.base.frzs,a.base.tbls)
 exact(.ref D,h,M.call' (s':={B with heap:=h'}) a.os G i a.bare λb j=>((k b j).2.2.2.1,(k b j).2.1,(k b j).2.2.2.2.1,(k b j).2.2.2.2.2),rfl,I)
theorem DQ(j:(x::l).Nodup)(q:sc.names.lookup x<*.local)(c:List (Str×Addr))(C:Addr)(k:List Addr)(g:Shared)(m:Hp)(a:List (Addr×Obj))(s:Shared)(e:St)(os:List (Option V))(H:Hp)(y:V)(u:Value)(n:List V)(t:os.length=1)(v:n=[y])(I:f' {mu X x sc c C k g m with N:=[x]++l} a (os++e) H s)(r:ad y u):wpAny (model X.prog X.w) X.A (assign (.Name x px) (compEnvC sc c C X.env) u) (λ_ s'=>f' {mu X x sc c C k g m with N:=[x]++l} a (n.map some++e) H s') (λ_ _=>False) s:=by
 match os,t with
 |[o],_=>
  have b:(relabel sc X.env).names.lookup x<*.local:=lookup_relabel_local q;refine wpAny_mono (BQ (X:={mu X x sc c C k g m with N:=[x]++l}) (i:=0) (pos:=px) j rfl (.inl b) (.inr b) _ s _ H y u (λd H'=>d=some y::e/\H'=H) I r (rfl,rfl)) (λ_ E h=>?_) λ_ _ f=>f;obtain⟨p,F,D,B,z⟩:=h;subst B z v;exact D
theorem DS{g:St}{Q:VK}{J:It}{W:Nat->Nat->List V->Hp->Prop}(h:∀i m ys a,W i m ys a->a D=some (.lst ys)/\((J.stop i a/\Q (.ref D) a)\/(J.go i a/\ys.length<sizeLine/\∀x d,J.yld i a x d->tt (some x::g) d λk f=>if k=true then te (some x::g) f λy e=>e D=some (.lst ys)/\∃c,c<m/\W (i+1) c (ys++[y]) (upd e D (.lst (ys++[y])))else ∃c,c<m/\W (i+1) c ys f))):∀i m ys a,W i m ys a->a D=some (.lst ys)/\((J.stop i a/\Q (.ref D) a)\/(J.go i a/\ys.length<sizeLine/\∀x d,J.yld i a x d->∃j:List V,j.length=1/\j=[x]/\tt (j.map some++g) d λk f=>if k=true then te (j.map some++g) f λy e=>e D=some (.lst ys)/\∃c,c<m/\W (i+1) c (ys++[y]) (upd e D (.lst (ys++[y])))else ∃c,c<m/\W (i+1) c ys f)):=
 λi m ys a w=>(h i m ys a w).imp id λb=>b.imp id λb=>(b.1,b.2.1,λx d l=>([x],rfl,rfl,b.2.2 x d l))
theorem yS(e:List Str)(A:X.calm=true)(g:(x::e).Nodup)(z:PI X (.Name x px) iter wi)(B:∀(p:List (Str×Addr))(C:Addr)(o:List Addr)(s:Shared)(H:Hp),AB {mu X x sc p C o s H with N:=x::e} ifs tt/\PE {mu X x sc p C o s H with N:=x::e} elt te)(v:sc.names.lookup x<*.local:=by rfl)(b:sc.kind=.function:=by rfl)(a:∀y∈sc.names,y.2=.local->sc.names.lookup y.1<*.local:=by decide +kernel)(d:∀y∈sc.names,y.2≠.cell:=by decide +kernel)(c:(sc.names.all λy=>y.2 != .free||X.env.scope.names.lookup y.1==some .cell)=true:=by rfl)(k:(e.all λy=>sc.names.lookup y != some .local)=true:=by rfl)(l:e.length=X.N.length:=by rfl)(j:((e.zip X.N).all λy=>y.1==y.2||sc.names.lookup y.1==none)=true:=by rfl)(w:∀x,foldedSetIterable iter X.env x=pure x:=by intro _;rfl):PE X (.ListComp elt [(.Name x px,iter,ifs,0)] sc pos) (bq wi tt te):=by
 intro n s M H Q I h;rw[eval_ListComp];refine vc (ns:=[x]) (gx:=λy _ t=>t=[y]) e A g z B (DQ g v) b a d (all_eq_true.mpr λy u=>by rw[all_eq_true.mp c y u];rfl) k l j w I h (λJ O r D E=>?_) λL F i _ G q=>DP L F i G q;obtain⟨W,m,f⟩:=r D E;exact(W,m,DS f)
theorem b8(e:List Str)(z:X.calm=true)(g:(x::e).Nodup)(w:PI X (.Name x px) iter wi)(A:∀(p:List (Str×Addr))(C:Addr)(o:List Addr)(s:Shared)(H:Hp),AB {mu X x sc p C o s H with N:=x::e} ifs tt/\PE {mu X x sc p C o s H with N:=x::e} elt te)(u:sc.names.lookup x<*.local:=by rfl)(b:sc.kind=.function:=by rfl)(a:∀y∈sc.names,y.2=.local->sc.names.lookup y.1<*.local:=by decide +kernel)(d:∀y∈sc.names,y.2≠.cell:=by decide +kernel)(c:(sc.names.all λy=>y.2 != .free||X.env.scope.names.lookup y.1==some .cell||X.env.scope.names.lookup y.1==some .free)=true:=by rfl)(k:(e.all λy=>sc.names.lookup y != some .local)=true:=by rfl)(l:e.length=X.N.length:=by rfl)(j:((e.zip X.N).all λy=>y.1==y.2||sc.names.lookup y.1==none)=true:=by rfl)(v:∀x,foldedSetIterable iter X.env x=pure x:=by intro _;rfl):PE X (.ListComp elt [(.Name x px,iter,ifs,0)] sc pos) (bq wi tt te):=by
 intro n s L H Q I h;rw[eval_ListComp];refine vc (ns:=[x]) (gx:=λy _ t=>t=[y]) e z g w A (DQ g u) b a d c k l j v I h (λJ M r D B=>?_) λG E i _ F q=>DP G E i F q;obtain⟨W,m,f⟩:=r D B;exact(W,m,DS f)
theorem BB(O:List Str){py l:Pos}(hc:X.calm=true)(hN:X.N.Nodup)(ab:(x::O).Nodup)(hj:X.N[j]?<*y)(ap:zd X.env.scope y)(hi:PI X (.Name x px) iter wi)(n:∀(cl:List (Str×Addr))(C:Addr)(fp:List Addr)(s:Shared)(H:Hp),AB {mu X x sc cl C fp s H with N:=x::O} ifs tt/\PE {mu X x sc cl C fp s H with N:=x::O} elt te)(hx:sc.names.lookup x<*.local:=by rfl)(G:sc.kind=.function:=by rfl)(i:∀y∈sc.names,y.2=.local->sc.names.lookup y.1<*.local:=by decide +kernel)(M:∀y∈sc.names,y.2≠.cell:=by decide +kernel)(L:(sc.names.all λy=>y.2 != .free||X.env.scope.names.lookup y.1==some .cell)=true:=by rfl)(aA:(O.all λy=>sc.names.lookup y != some .local)=true:=by rfl)(aB:O.length=X.N.length:=by rfl)(an:((O.zip X.N).all λy=>y.1==y.2||sc.names.lookup y.1==none)=true:=by rfl)(hs:∀x,foldedSetIterable iter X.env x=pure x:=by intro _;rfl)(ar:swapsWith (.ListComp elt [(.Name x px,iter,ifs,0)] sc pos) (some (.Name y py)) l.line X.env=pure true:=by rfl)(aC:X.fn y=true\/X.env.scope.names.lookup y<*.local:=by first|exact .inl rfl|exact .inr rfl):PS X (.Assign [.Name y py] (.ListComp elt [(.Name x px,iter,ifs,0)] sc pos) l) (aD (bq wi tt te) (vW j)):=by
 intro R s σ H DD I h;refine xX ar λ_=>vc (Q:=λv H1=>vW j v σ H1 DD.nx) (ns:=[x]) (gx:=λy _ vs=>vs=[y]) O hc ab hi n (DQ ab hx) G i M (all_eq_true.mpr λy hy=>by rw[all_eq_true.mp L y hy];rfl) aA aB an hs I h (λJ H1 r D hD=>?_) λ{s2 s4 H2 t fp cl D C os}I2 f2 A aN d qn=>?_
 .obtain ⟨W,m,P⟩:=r D hD;exact(W,m,DS (Q:=λv H1=>vW j v σ H1 DD.nx) P)
 obtain⟨mC,Y,_⟩:=d.loc;have nC:∀b u,t b<*u->b≠C:=λb u e z=>by rw[z]at e;rw[show t C=none from d.free]at e;cases e
 have un:Un (tf X.stack) fp H2 t s2.heap s4.heap:=
  (λb o e n1 T B=>d.base.keep b o e n1 T B,λb o e n1 T B=>d.base.slot b o e n1 T B,d.base.free,λb o e n1=>d.base.there b o e n1,d.base.tups,d.base.frzs,d.base.tbls)
 have I5:f' X R σ t s4:=I2.call' (s':=s4) d.os un d.hok d.bare λb n=>((f2 b n).2.2.2.1,(f2 b n).2.1,(f2 b n).2.2.2.2.1,(f2 b n).2.2.2.2.2);obtain⟨oC,aT,aS,az,_⟩:=id Y;have E:∃o,s2.heap.get? X.env.locals<*o:=by obtain⟨m,⟨o,es,ep,z,_⟩,_⟩:=I2.loc;exact(o,z)
 have S:X.env.locals≠C:=by obtain⟨o,z⟩:=E;exact A _ o z
 have g:∀y c,X.env.cells.lookup y<*c->c≠C:=λy c e=>by obtain⟨v,o,r,_⟩:=I2.cell y c e;exact A c o r
 dsimp only[compPost];refine wpAny_assign_Name (bS I5 hN hj ap (v:=.ref D) rfl (λs6 I6 as=>?_) aC);obtain⟨a,sb,ha⟩:=as;have Z:C≠a:=by
  rcases ha with z|z
  .rw [z];exact Ne.symm S
  .exact Ne.symm (g _ _ z)
 have U:s6.heap.get? C<*oC:=(sb.2 C Z).trans az;refine(mC,Y.sameBut sb Z,λk f=>?_);have aM:C<k.objs.size:=by rw[f.1];exact lt_size U
 have F:uO X.prog X.w t k:=λb u e=>(I6.hok b u e).stay (λc v aH q=>f.extBut c v (by
  rcases aH with z|z
  .rw [z];exact nC b u e
  .exact nC c _ z) q) (λ_ q=>q) λ_ _ q=>q
 have ag:Un (tf X.stack) [C] t t s6.heap k:=
  (λb o e n1 T B=>f.extBut b o (λz=>B (by simp[z])) e,λb o e n1 T B=>(o.slots,f.extBut b o (λz=>B (by simp[z])) e),λb o e n1 _=>n1,λb o e n1=>(o,f.extBut b o (λz=>n1 (by simp[z])) e),λ_ _ q=>q,λ_ _ _ q=>q,λb ps q=>(#[],by rw[Array.append_empty];exact q))
 refine(_,t,I6.call' (s':={s6 with heap:=k}) rfl ag F I6.bare (λb n=>?_),qn);have eb:b=C:=by simpa using n
 subst eb;refine(.inr (le_trans I2.sz (!2)),Ne.symm S,g,λp hp z=>?_);obtain⟨z1,_⟩:=I2.pin p hp;exact A p.1 p.2 z1 z
theorem CZ(d:List Str)(Z:X.calm=true)(l:(x::y::d).Nodup)(hi:PI X (.Tuple [.Name x px,.Name y py] kt pt) iter wi)(hb:∀(E:List (Str×Addr))(C:Addr)(B:List Addr)(s:Shared)(H:Hp),AB {mu X x sc E C B s H with N:=x::y::d} ifs tt/\PE {mu X x sc E C B s H with N:=x::y::d} elt te)(hx:sc.names.lookup x<*.local:=by rfl)(hy:sc.names.lookup y<*.local:=by rfl)(g:sc.kind=.function:=by rfl)(c:∀y∈sc.names,y.2=.local->sc.names.lookup y.1<*.local:=by decide +kernel)(k:∀y∈sc.names,y.2≠.cell:=by decide +kernel)(j:(sc.names.all λy=>y.2 != .free||X.env.scope.names.lookup y.1==some .cell||X.env.scope.names.lookup y.1==some .free)=true:=by rfl)(R:(d.all λy=>sc.names.lookup y != some .local)=true:=by rfl)(S:d.length=X.N.length:=by rfl)(O:((d.zip X.N).all λy=>y.1==y.2||sc.names.lookup y.1==none)=true:=by rfl)(hs:∀x,foldedSetIterable iter X.env x=pure x:=by intro _;rfl):PE X (.ListComp elt [(.Tuple [.Name x px,.Name y py] kt pt,iter,ifs,0)] sc pos) (dl X.K wi tt te):=by
 intro t s U H Q I h;rw[eval_ListComp];refine vc (ns:=[x,y]) (gx:=λv H Y=>∃p a b,v=.ref p/\pa X.K H p [a,b]/\Y=[a,b]) d Z l hi hb (λE C B s0 H0 t s U os H v u Y ho hg I5 r5=>?_) g c k j R S O hs I h (λJ H1 r D hD=>?_) λI2 f2 M _ I4 q=>DP I2 f2 M I4 q
 .match os,ho with
  |[o,o'],_=>
   obtain⟨p,G,F,rfl,hp,rfl⟩:=hg;have A:(relabel sc X.env).names.lookup x<*.local:=lookup_relabel_local hx;have z:(relabel sc X.env).names.lookup y<*.local:=lookup_relabel_local hy;have T:PG {mu X x sc E C B s0 H0 with N:=[x,y]++d} (.Tuple [.Name x px,.Name y py] kt pt) (sV X.K 2 (nw (vW 0) (nw (vW 1) gNil))):=wo Z (Az (BQ (i:=0) l rfl (.inl A) (.inr A)) (Az (BQ (i:=1) l rfl (.inl z) (.inr z)) Ck));refine wpAny_mono (T _ s _ H (.ref p) u (λL H'=>L=some G::some F::U/\H'=H) I5 r5 (p,_,rfl,hp,rfl,_,_,rfl,_,_,rfl,rfl,rfl,rfl)) (λ_ s6 P=>?_) λ_ _ f=>f;obtain⟨ab,H6,I6,e1,e2⟩:=P;subst e1 e2;exact I6
 .obtain ⟨W,m,n⟩:=r D hD;exact(W,m,λi m ys H2 w=>(n i m ys H2 w).imp id λb=>b.imp id λb=>(b.1,b.2.1,λv H3 yl=>by
   obtain⟨p,G,F,e,hp,ht⟩:=b.2.2 v H3 yl;exact([G,F],rfl,(p,G,F,e,hp,rfl),ht)))
end
section
variable{X:Cx}{elt iter:Expr}{x y:Str}{px py pt pos:Pos}{kt:Nat}{sc:Scope}{wi:TI}{te:TE}
theorem fD(e:List Str)(p:X.calm=true)(i:(x::y::e).Nodup)(o:PI X (.Tuple [.Name x px,.Name y py] kt pt) iter wi)(q:∀(k:List (Str×Addr))(C:Addr)(j:List Addr)(s:Shared)(H:Hp),PE {mu X x sc k C j s H with N:=x::y::e} elt te)(m:sc.names.lookup x<*.local:=by rfl)(l:sc.names.lookup y<*.local:=by rfl)(b:sc.kind=.function:=by rfl)(a:∀y∈sc.names,y.2=.local->sc.names.lookup y.1<*.local:=by decide +kernel)(d:∀y∈sc.names,y.2≠.cell:=by decide +kernel)(c:(sc.names.all λy=>y.2 != .free||X.env.scope.names.lookup y.1==some .cell||X.env.scope.names.lookup y.1==some .free)=true:=by rfl)(g:(e.all λy=>sc.names.lookup y != some .local)=true:=by rfl)(h:e.length=X.N.length:=by rfl)(f:((e.zip X.N).all λy=>y.1==y.2||sc.names.lookup y.1==none)=true:=by rfl)(n:∀x,foldedSetIterable iter X.env x=pure x:=by intro _;rfl):PE X (.ListComp elt [(.Tuple [.Name x px,.Name y py] kt pt,iter,[],0)] sc pos) (ia X.K wi te):=CZ e p i o (λk C j s H=>(vY,q k C j s H)) m l b a d c g h f n
end
theorem DU{K:Frag}{J:It}{C:TT}{E:TE}{r:St}{Q:VK}(G:Nat->V->V->Prop)(o:Addr->Nat->List V->Hp->Prop)(hz:n≤sizeLine)(M:∀i d,a' H d->i<n->J.go i d)(L:∀i d x j,a' H d->i<n->J.yld i d x j->∃p a b,x=.ref p/\G i a b/\d p=none/\j=upd d p (.tup [a,b]))(I:∀d,a' H d->J.stop n d)(h0:∀D,H D=none->o D 0 [] (upd H D (.lst [])))(N:∀(D:Addr)(i:Nat)(a b:V)(ys:List V)(H' j:Hp)(F:VK)(R2:Hp->Prop),H D=none->i<n->G i a b->a' H H'->H' D<*.lst ys->o D i ys H'->a' H' j->
   (∀y k,k D<*.lst ys->a' H (upd k D (.lst (ys++[y])))->o D (i+1) (ys++[y]) (upd k D (.lst (ys++[y])))->F y k)->(∀h,a' H h->h D<*.lst ys->o D (i+1) ys h->R2 h)->
   C (some a::some b::r) j λc h=>if c=true then E (some a::some b::r) h F else R2 h)(O:∀D ys H',H D=none->a' H H'->H' D<*.lst ys->o D n ys H'->Q (.ref D) H'):∀D,H D=none->∃W:Nat->Nat->List V->Hp->Prop,
   (∃m,W 0 m [] (upd H D (.lst [])))/\∀i m ys d,W i m ys d->d D=some (.lst ys)/\((J.stop i d/\Q (.ref D) d)\/(J.go i d/\ys.length<sizeLine/\∀x j,J.yld i d x j->
    ∃p a b,x=.ref p/\pa K j p [a,b]/\C (some a::some b::r) j λR h=>if R=true then E (some a::some b::r) h λy k=>k D=some (.lst ys)/\∃q,q<m/\W (i+1) q (ys++[y]) (upd k D (.lst (ys++[y])))else ∃q,q<m/\W (i+1) q ys h)):=by
 intro D s;refine(λi m ys d=>m=n-i/\i≤n/\ys.length≤i/\a' H d/\d D=some (.lst ys)/\o D i ys d,(n,!1,zero_le _,!1,a'.upd s,j',h0 D s),?_);rintro i m ys d⟨rfl,P,u,g,l,hp⟩;refine(l,?_);by_cases f:i<n
 .refine .inr (M i d g f,lt_of_le_of_lt u (lt_of_lt_of_le f hz),λx j t=>?_);obtain⟨p,a,b,rfl,w,v,rfl⟩:=L i d x j g f t;exact(p,a,b,rfl,pa.of j',N D i a b ys d _ _ _ s f w g l hp (a'.upd v) (λy k B A z=>(B,n-(i+1),sub_succ_lt_self _ _ f,rfl,f,by rw[uA];exact Nat.succ_le_succ u,A,j',z)) (λh B A z=>(n-(i+1),sub_succ_lt_self _ _ f,rfl,f,Nat.le_succ_of_le u,B,A,z)))
 .have e:i=n:=le_antisymm P (le_of_not_lt f);subst e;exact .inl (I d g,O D ys d s g l hp)
end L2
namespace RA
open PySem L2
theorem E8{K:Frag}{l:St}(E:∀R:List V->Hp->Prop,R [.ref c] H->t l H R)(G:o=.lst xs\/o=.tup xs)(j:H c<*o)(e:Addr->Nat->List V->Hp->Prop)(hz:xs.length≤sizeLine)(h0:∀D,H D=none->e D 0 [] (L2.upd H D (.lst [])))(F:∀(D:Addr)(i:Nat)(x:V)(ys:List V)(H' g:Hp)(k:VK)(R2:Hp->Prop),H D=none->xs[i]?<*x->a' H H'->H' D<*.lst ys->e D i ys H'->a' H' g->
   (∀y f,f D<*.lst ys->a' H (L2.upd f D (.lst (ys++[y])))->e D (i+1) (ys++[y]) (L2.upd f D (.lst (ys++[y])))->k y f)->(∀d,a' H d->d D<*.lst ys->e D (i+1) ys d->R2 d)->
   A (some (.int (i:Int))::some x::l) g λc d=>if c=true then B (some (.int (i:Int))::some x::l) d k else R2 d)(C:∀D ys H',H D=none->a' H H'->H' D<*.lst ys->e D xs.length ys H'->Q (.ref D) H'):dl K (iL t) A B l H Q:=by
 have m:∀(D:Addr)(i:Nat)(a b:V)(ys:List V)(H' g:Hp)(k:VK)(R2:Hp->Prop),H D=none->i<xs.length->(a=.int (i:Int)/\xs[i]?<*b)->a' H H'->H' D<*.lst ys->e D i ys H'->a' H' g->
   (∀y f,f D<*.lst ys->a' H (L2.upd f D (.lst (ys++[y])))->e D (i+1) (ys++[y]) (L2.upd f D (.lst (ys++[y])))->k y f)->(∀d,a' H d->d D<*.lst ys->e D (i+1) ys d->R2 d)->
   A (some a::some b::l) g λc d=>if c=true then B (some a::some b::l) d k else R2 d:=by
  rintro D i a b ys H' g k R2 J _⟨rfl,I⟩S P O N M L;exact F D i b ys H' g k R2 J I S P O N M L
 refine E _ (c,xs,rfl,?_);rcases G with rfl|rfl
 .refine .inr (j,DU (K:=K) (n:=xs.length) (λi a b=>a=.int (i:Int)/\xs[i]?<*b) e hz (λi r s h=>(xs,xs[i],s _ _ j,j1 h)) ?_ (λr s=>(xs,s _ _ j,rfl)) h0 m C);rintro i r x g s h⟨p,y,zs,q,z,w,v,u⟩;rw[s _ _ j]at q;cases q;exact(p,_,y,w,(rfl,z),v,u)
 .refine .inl (j,DU (K:=K) (n:=xs.length) (λi a b=>a=.int (i:Int)/\xs[i]?<*b) e hz (λi r s h=>(xs,xs[i],s _ _ j,j1 h)) ?_ (λr s=>(xs,s _ _ j,rfl)) h0 m C);rintro i r x g s h⟨p,y,zs,q,z,w,v,u⟩;rw[s _ _ j]at q;cases q;exact(p,_,y,w,(rfl,z),v,u)
theorem gF{xs zs:List V}{r:St}(v:∀R:List V->Hp->Prop,R [.ref c,.ref d] H->t r H R)(j:H c<*.lst xs)(g:H d<*.lst zs)(B:xs.length=zs.length)(e:Addr->Nat->List V->Hp->Prop)(hz:xs.length≤sizeLine)(h0:∀D,H D=none->e D 0 [] (L2.upd H D (.lst [])))(w:∀(D:Addr)(i:Nat)(x z:V)(ys:List V)(H' f:Hp)(m:VK),H D=none->xs[i]?<*x->zs[i]?<*z->a' H H'->H' D<*.lst ys->e D i ys H'->a' H' f->
   (∀y o,o D<*.lst ys->a' H (L2.upd o D (.lst (ys++[y])))->e D (i+1) (ys++[y]) (L2.upd o D (.lst (ys++[y])))->m y o)->u (some x::some z::r) f m)(A:∀D ys H',H D=none->a' H H'->H' D<*.lst ys->e D xs.length ys H'->Q (.ref D) H'):ia K (pZ t) u r H Q:=by
 refine v _ (_,_,rfl,.inr (.inr (c,d,xs,zs,rfl,rfl,j,g,λ_=>?_)));refine DF (K:=K) (J:=zy (.ls c) (.ls d)) (n:=xs.length) (λi a b=>xs[i]?=some a/\zs[i]?<*b) e hz (λi q s h=>(xs,zs,xs[i],zs[i]'(!6),s _ _ j,s _ _ g,j1 h,j1 _)) ?_ (λq s=>(xs,zs,s _ _ j,s _ _ g,B,rfl)) h0 ?_ A
 .rintro i q x f s h⟨p,O,bs,a,b,l,k,N,M,L,I,G⟩;have l:q c<*.lst O:=l;have k:q d<*.lst bs:=k;rw[s _ _ j]at l;rw[s _ _ g]at k;cases l;cases k;exact(p,a,b,L,(N,M),I,G)
 .rintro D i a b ys H' f m F X⟨E,C⟩W U T S P;exact w D i a b ys H' f m F E C W U T S P
end RA
namespace L2
open PySem PySem.Spec PyProof.Rows
theorem lh{g:TG}{l:TS}{D:Ends}(d:Nat->St->Hp->Prop)(h0:d 0 c H)(u:∀i c H,d i c H->H a<*.lst xs)(t:∀i x p c H,xs[i]?<*x->H p=none->d i c H->g (.ref p) c (upd H p (.tup [.int (i:Int),x])) λf k=>l {D with nx:=d (i+1),ct:=d (i+1),bk:=D.nx} f k)(w:∀c H,d xs.length c H->D.nx c H):∃W:Nat->Nat->St->Hp->Prop,(∃m,W 0 m c H)/\∀i m c H,W i m c H->
   ((ja a).stop i H/\D.nx c H)\/((ja a).go i H/\∃N:St->Hp->Prop,(∀h H',N h H'->∃n,n<m/\W (i+1) n h H')/\∀v H',(ja a).yld i H v H'->g v c H' λf k=>l {D with nx:=N,ct:=N,bk:=D.nx} f k):=by
 refine(λi m c H=>m=xs.length-i/\i≤xs.length/\d i c H,(xs.length,!1,zero_le _,h0),?_);rintro i m c H⟨rfl,A,p⟩;have h1:=u i c H p;by_cases j:i<xs.length
 .refine .inr ((xs,xs[i],h1,j1 _),d (i+1),λh H' s=>(xs.length-(i+1),!2,rfl,j,s),λv H' q=>?_);obtain⟨b,x,r,o,z,rfl,y,rfl⟩:=q;rw[h1]at o;cases o;exact t i x b c H z y p
 .have e:i=xs.length:=by lia
  subst e;exact .inl ((xs,h1,rfl),w c H p)
end L2
namespace RA
open PySem L2
noncomputable def qf(H:Hp)(wy mk p:Addr)(W:LL)(B:List Bool)(most:Nat)(m:Nat)(σ:St)(H':Hp):Prop:=∃(k:Nat)(lots:List Addr)(s4 s5:Option V),m=eU W.length (Rd W B k)/\σ=[some (.ref wy),some (.ref mk),some (.int (most:Int)),some (.ref p),s4,s5]/\a' H H'/\H' p=some (.lst (lots.map V.ref))/\lots.length=k+1/\AW H' lots W B/\∀i<k,Rd W B (i+1)≠Rd W B i
theorem xj.sameL(h:xj H b R)(s:a' H H'):xj H' b R:=(h.1,λi a r d c=>s _ _ (h.2 i a r d c))
theorem xj.row(h:xj H b R)(c:r<R.length):∃a,b[r]?=some a/\H a<*.lst (b' (R.getD r [])):=by
 have d:r<b.length:=by rw[h.1];exact c
 refine(b[r],j1 d,?_);rw[m8,j1 c];exact h.2 r _ _ (j1 d) (j1 c)
theorem xj.toQ(h:xj H a R):qe H a R:=λi r e=>by
 have b:i<R.length:=by rw[<-h.1];exact(l' e).1
 exact(R[i],j1 b,_,.inl rfl,h.2 i r _ e (j1 b))
noncomputable def bN:Nat->LL
 |0=>[[]]
 |n+1=>bN n++(bN n).map (·++[n])
theorem eZ:∀n,(bN n).length=2^n
 |0=>rfl
 |n+1=>by
  rw[bN,uA,j_,eZ n,Nat.pow_succ];lia
theorem fb(h:n≤8):(bN n).length≤256:=by
 rw[eZ];exact Nat.pow_le_pow_right (!0) h
theorem C0(p:Nat->Bool):∀n,(List.range n).filter p∈bN n
 |0=>by simp[bN]
 |n+1=>by
  rw[range_succ,List.filter_append,bN];cases h:p n with
  |false=>
   rw[List.filter_cons_of_neg (by simp[h]),List.filter_nil,append_nil];exact mem_append_left _ (C0 p n)
  |true=>
   rw[List.filter_cons_of_pos h,List.filter_nil];exact mem_append_right _ (mem_map.mpr (_,C0 p n,rfl))
noncomputable def An(W:LL)(S:LN)(j:Nat):LN:=(List.range W.length).filter λr=>S.contains (goal W r j)
noncomputable def vG(W:LL)(B:List Bool):LN:=(List.range W.length).filter λr=>B.getD r false
noncomputable def ni(S:LN):Bool:=S.contains 0
section
variable{L:LN}{W:LL}{B:List Bool}{g:LN->Nat->LN}{s:LN}{mk:LN->Bool}{ks ws R:LL}{Bm:List Bool}
theorem B6(k:AC L)(l:Bf g L s ks ws ks.length 0)(a:wJ g L.length ks R)(b:R.length=ks.length)(bl:Bm.length=R.length)(e:ks.length≤2100):g_ L R Bm where
 lt:=k
 n1:=by rw[b];exact(l' l.t0).1
 n60:=by rw[b];exact e
 bl:=bl
 row:=λr h=>by
  obtain⟨i,d⟩:=mem_iff_getElem?.mp h;have c:i<ks.length:=by rw[<-b];exact(l' d).1
  obtain⟨h1,h2⟩:=a.row i r _ d (j1 c);refine(h1,λx f=>?_);obtain⟨q,j⟩:=mem_iff_getElem?.mp f;rw[b];exact(l' (h2 q x j)).1
theorem C4(v:LN)(c:Nat):aG g L s (v++[c])=g (aG g L s v) (L.idxOf c):=by
 unfold aG;rw[List.foldl_append];rfl
theorem DV(p:Bf g L s ks ws ks.length 0)(a:wJ g L.length ks R)(j:R.length=ks.length):∀(n:Nat)(w:LN),w.length=n->(∀c∈w,c∈L)->ks[run L R 0 w]?<*aG g L s w:=by
 intro n;induction n with
 |zero=>
  intro w hw _;rw[length_eq_zero_iff.mp hw];exact p.t0
 |succ n h=>
  intro w hw f;obtain⟨c,v,rfl⟩:∃c v,w=v++[c]:=(w.getLast (by intro z;rw[z]at hw;cases hw),w.dropLast,(List.dropLast_concat_getLast _).symm);have h1:=h v (by simpa using hw) λx i=>f x (by simp[i]);have b:L.idxOf c<L.length:=idxOf_lt_length_of_mem (f c (!1));have e:run L R 0 v<R.length:=by rw[j];exact(l' h1).1
  obtain⟨d,o⟩:=a.row _ _ _ (j1 e) h1;have m:=o (L.idxOf c) _ (j1 (by rw[d];exact b));rw[xV,C4];have k:vP L R (run L R 0 v) c=R[run L R 0 v][L.idxOf c]'(by rw[d];exact b):=by
   unfold vP;rw[m8 (l:=R),j1 e];show(R[run L R 0 v]).getD _ 0=_;rw[m8,j1 (by rw[d];exact b)];rfl
  rw[k];exact m
theorem B7(h:Bf g L s ks ws ks.length 0)(a:wJ g L.length ks R)(f:R.length=ks.length)(bl:Bm.length=R.length)(d:∀(r:Nat)(k:LN)(b:Bool),ks[r]?<*k->Bm[r]?<*b->b=mk k)(hw:∀c∈w,c∈L):Bm.getD (run L R 0 w) false=mk (aG g L s w):=by
 have h1:=DV h a f _ w rfl hw;have e:run L R 0 w<Bm.length:=by rw[bl,f];exact(l' h1).1
 rw[m8,j1 e];exact d _ _ _ h1 (j1 e)
theorem lQ(e:g_ L W B):∀(u:LN),(∀c∈u,c∈L)->∀r,r<W.length->((aG (An W) L (vG W B) u).contains r=B.getD (run L W r u.reverse) false):=by
 intro u f;obtain⟨n,b⟩:∃n,u.length=n:=(_,rfl);induction n generalizing u with
 |zero=>
  intro r a;rw[length_eq_zero_iff.mp b];show(vG W B).contains r=_;unfold vG;rw[Bool.eq_iff_iff,contains_iff_mem,mem_filter,mem_range];exact(λz=>z.2,λz=>(a,z))
 |succ n h=>
  intro r a;obtain⟨c,v,rfl⟩:∃c v,u=v++[c]:=(u.getLast (by intro z;rw[z]at b;cases b),u.dropLast,(List.dropLast_concat_getLast _).symm);have j:c∈L:=f c (!1);have d:goal W r (L.idxOf c)<W.length:=wu e a (idxOf_lt_length_of_mem j);rw[C4,List.reverse_append];show _=B.getD (run L W (vP L W r c) v.reverse) false;rw[<-h v (λx i=>f x (by simp[i])) (by simpa using b) _ (by rw[AG];exact d),AG];unfold An;rw[Bool.eq_iff_iff,contains_iff_mem,mem_filter,mem_range];exact(λz=>z.2,λz=>(a,z))
theorem g9(a:g_ L W B)(b:∀c∈u,c∈L):ni (aG (An W) L (vG W B) u)=B.getD (run L W 0 u.reverse) false:=lQ a u b 0 a.n1
end
end RA
namespace L2
open PySem PySem.Spec PyProof.Rows
structure C6(N:List Str)(x:Str)(fr:List Str)(sc:Scope):Prop where
 kind:sc.kind=.function
 co:sc.isCoroutine=false
 gen:sc.isGenerator=false
 nd:N.Nodup
 pre:N.take 1=[x]
 suf:N.drop (N.length-fr.length)=fr
 fit:1+fr.length≤N.length
 par:sc.names.lookup x<*.cell
 only:∀y∈sc.names,y.2=.cell->y.1=x
 lay:∀n acc,cellsFrom n sc.names acc=(x,n,)::acc
 push:∀h,pushCells h sc.names=h.push {cls:=.type "cell",data:=.cell none}
theorem Ao{M:Model}{A:Around}{E:Value->Shared->Prop}{s:Shared}{a:Scope}{globals:Addr}{code:Value}(S:C6 N x q a)(n:∀h' j,h'.Ns s⁻¹ (λ_=>none)->h'.IsCell (s⁻¹+1) (some u)->(∀b o,s.heap.get? b<*o->h'.get? b<*o)->Q (newEnv a s⁻¹ globals ((x,s⁻¹+1,)::d) qual func code none builtins) {s with heap:=h',toks:=j}):wpAny M A (newFunctionEnv a globals d [(x,u,)] qual func code none builtins) Q E s:=by
 simp only[Option.isSome_none,newFunctionEnv,if_false,Bool.false_eq_true];refine d_ (wpAny_alloc (d_ (wpAny_layCells _ (λnm l r=>by cases z:l==NameKind.cell<;>simp[z]) _ _ _ _ ?_)));rw[S.lay,S.push];have i:(s.heap.push {cls:=.type "frame",data:=.dict #[]}).objs.size=s⁻¹+1:=size_push ..;have k1:∀b o,s.heap.get? b<*o->((s.heap.push {cls:=.type "frame",data:=.dict #[]}).push {cls:=.type "cell",data:=.cell none}).get? b<*o:=λb o e=>nb _ (nb _ e);have g:((s.heap.push {cls:=.type "frame",data:=.dict #[]}).push {cls:=.type "cell",data:=.cell none}).IsCell (s⁻¹+1) none:=(_,by rw[<-i];exact get?_push_size _ rfl,rfl);have f:((s.heap.push {cls:=.type "frame",data:=.dict #[]}).push {cls:=.type "cell",data:=.cell none}).Ns s⁻¹ (λ_=>none):=(Heap.Ns.new s.heap (.type "frame")).keeps λb o e=>nb _ e;dsimp only;rw[i];generalize (s.heap.push {cls:=.type "frame",data:=.dict #[]}).push {cls:=.type "cell",data:=.cell none}=p at k1 g f⊢;refine d_ ?_;rw[forIn_cons];have lk:((x,s⁻¹+1,)::d).lookup x<*(s⁻¹+1):=by rw[lookup_cons];simp
 refine d_ (d_ (wpAny_storeName_cell (c:=s⁻¹+1) (v₀:=none) S.kind S.par lk g λh' m h=>j2 ?_));dsimp only;rw[forIn_nil];refine j2 (j2 ?_);have k:∀{b:Addr}{o:Obj},s.heap.get? b<*o->b≠s⁻¹+1:=λe=>ne_of_lt (lt_succ_of_lt (lt_size e));exact n h' _ (f.sameBut h (ne_of_lt (lt_succ_self _))) m λb o e=>h.extBut b o (k e) (k1 b o e)
noncomputable def gC(CX:CXT)(P:Program)(w:World)(K:Frag)(mg:Str->Option Value)(base:Heap)(N:List Str)(x:Str)(qual:Str)(scope:Scope)(f:Addr)(cd:Value)(clos:List (Str×Addr))(A:Around)(outer:List Env)(s:Shared)(H:Hp)(E:XK):Cx:=bh CX P w K mg base N qual scope f cd ((x,s⁻¹+1,)::clos) A outer s H E
section
variable{CX:CXT}{P:Program}{w:World}{K:Frag}{mg:Str->Option Value}{base:Heap}{N fr:List Str}{x:Str}{qual:Str}{scope:Scope}{f:Addr}{cd:Value}{clos:List (Str×Addr)}{A:Around}{outer:List Env}{s:Shared}{H:Hp}{E:XK}{u:Value}{v:V}{fvs:List V}
theorem iK(S:C6 N x fr scope)(C:vb base clos scope fr fvs)(L:A.handled=none)(g:bn P w K mg base A outer s H)(r:ad v u)(I:h'.Ns s⁻¹ (λ_=>none))(j:h'.IsCell (s⁻¹+1) (some u))(J:∀b o,s.heap.get? b<*o->h'.get? b<*o):f' (gC CX P w K mg base N x qual scope f cd clos A outer s H E) [] (xx N [v] fvs) H {s with heap:=h',toks:=tk}:=by
 have l:∀b:Addr,b∉(gC CX P w K mg base N x qual scope f cd clos A outer s H E).ex:=λb z=>absurd (show b∈([]:List Addr)from z) (!1);have k:∀c v,base.IsCell c v->h'.IsCell c v:=λc v M=>by obtain⟨o,B,L⟩:=M;exact(o,J c o (g.bs c o B).1,L)
 have d:∀y c,clos.lookup y<*c->c<s⁻¹:=λy c h=>by
  obtain⟨v,o,B,_⟩:=C.cell y c h;exact lt_size (g.bs c o B).1
 have O:=S.fit;have X:=C.len;have t:((x,s⁻¹+1,)::clos).lookup x<*(s⁻¹+1):=by rw[lookup_cons];simp
 have lk:∀{y c},((x,s⁻¹+1,)::clos).lookup y<*c->(y=x/\c=s⁻¹+1)\/clos.lookup y<*c:=λ{y c}h=>by
  rw[lookup_cons]at h;by_cases z:y=x
  .subst z;simp at h;exact .inl (rfl,h.symm)
  .rw [show(y==x)=false by simpa using z]at h;exact .inr h
 have D:∀{y c},clos.lookup y<*c->∃c',((x,s⁻¹+1,)::clos).lookup y<*c':=λ{y c}h=>by
  rw[lookup_cons];cases(y==x)with
  |true=>exact(_,rfl)
  |false=>exact(c,h)
 refine((g.mod,S.kind,rfl,rfl,le_refl _,λy z c h1 h2=>?_,λy m=>?_,λy c h=>absurd (show false=true from h) Bool.false_ne_true,λ_=>L,Around.frames_deeper g.frames,.inr (rfl,rfl),λb z=>absurd z (l b),g.bs,g.bsz,λb _ _=>l b,λb z=>absurd z (l b),g.funs,g.frf),
  rfl,g.bare,Un.kept J,(_,I,λi y Q h1 h2 h3=>?_),λy c h=>?_,g.hok.fresh (le_refl _),λy c h=>?_,λp hp=>absurd (show p∈([]:List (Addr×Obj))from hp) (!1),g.hok.kept J,?_)
 .rcases lk h1 with⟨a1,a2⟩|a<;>rcases lk h2 with⟨b1,b2⟩|b
  .rw [a1,b1]
  .have q:=d _ _ b;rw[a2]at q;exact absurd q (Nat.not_lt_of_le (le_succ _))
  .have q:=d _ _ a;rw[b2]at q;exact absurd q (Nat.not_lt_of_le (le_succ _))
  .exact C.inj y z c a b
 .have m:scope.names.lookup y<*.cell\/scope.names.lookup y<*.free:=m;rcases m with m|m
  .obtain rfl:y=x:=S.only _ (PySem.mem_of_lookup m) rfl;exact(_,t)
  .obtain ⟨c,Z⟩:=C.has _ (PySem.mem_of_lookup m) rfl;exact D Z
 .have h1:N[i]?<*y:=h1;have hi:i<N.length:=(l' h1).1;unfold xx at h2;by_cases W:i<1
  .obtain rfl:i=0:=by lia
   have e:v=Q:=by simpa using h2
   subst e;have U:N[0]?<*x:=by
    have q:(N.take 1)[0]?<*x:=by rw[S.pre];rfl
    rw[List.getElem?_take_of_lt (!0)]at q;exact q
   rw[U]at h1;cases h1;exact(u,r,.inr (.inl S.par,_,t,j))
  .rw [getElem?_append_right (by simp;lia)]at h2;rw[j_,List.length_singleton]at h2;by_cases n:i-1<N.length-1-fvs.length
   .rw [getElem?_append_left (by simpa using n),List.getElem?_replicate,if_pos n]at h2;cases h2
   .rw [getElem?_append_right (by simpa using n),length_replicate,n']at h2;have ej:i-1-(N.length-1-fvs.length)=i-(N.length-fr.length):=by lia
    rw[ej]at h2;cases e:fvs[i-(N.length-fr.length)]? with
    |none=>rw[e]at h2;cases h2
    |some a=>
     rw[e]at h2;cases h2;have Y:fr[i-(N.length-fr.length)]?<*y:=by
      have q:(N.drop (N.length-fr.length))[i-(N.length-fr.length)]?<*y:=by
       rw[List.getElem?_drop,show N.length-fr.length+(i-(N.length-fr.length))=i by omega];exact h1
      rw[S.suf]at q;exact q
     obtain⟨k1,c,R,k2,k3,T⟩:=C.val _ _ _ Y e;have G:y≠x:=λz=>by rw[z,S.par]at k1;cases k1
     have F:((x,s⁻¹+1,)::clos).lookup y<*c:=by rw[lookup_cons,show(y==x)=false by simpa using G];exact k2
     exact(R,T,.inr (.inr k1,c,F,k c _ k3))
 .rcases lk h with⟨_,z⟩|z
  .rw [z];exact(_,j)
  .obtain ⟨v,q⟩:=C.cell y c z;exact(v,k c v q)
 .rcases lk h with⟨_,z⟩|z
  .rw [z];exact g.hok.fresh (le_succ _)
  .obtain ⟨v,o,B,_⟩:=C.cell y c z;exact(g.bs c o B).2
 .unfold xx;show _=N.length;simp only[uA,j_,length_replicate,List.length_singleton];omega
theorem A3(ho:base.get? f<*o)(hd:o.data=.func (PySem.W.fnX name qual d g scope clos .none .none doc pm none (.ref j) O))(M:base.CodeRec (.ref j) qual)(S:C6 N x fr scope)(C:vb base clos scope fr fvs)(len:∀m H Q E,R m H Q E->m.length=[x].length)(i:∀(A:Around)(outer:List Env)(s:Shared)(H:Hp)(v:V)(Q:VK)(E:XK),ah k (A.deeper (envX qual scope s⁻¹ f (.ref j) ((x,s⁻¹+1,)::clos)))->R [v] H Q E->
   ∃t,vH (gC nq P w K mg base N x qual scope f (.ref j) clos A outer s H E).nox g t/\t {nx:=λ_ H'=>Q .non H',rt:=Q} (xx N [v] fvs) H):aa P w K mg base nq (k+1) f (PySem.W.fnX name qual d g scope clos .none .none doc pm none (.ref j) O) [x] R:=by
 refine(len,λA outer s H U us m Q E G B hb r n=>?_);have hl:=len _ _ _ _ n;obtain⟨v,rfl⟩:∃v,m=[v]:=by
  match m,hl with
  |[v],_=>exact(v,rfl)
 obtain⟨u,rfl,Y⟩:=xm r;have F:s.heap.NoLimit:=B.mod.nolimit.keeps λb o e=>(B.bs b o e).1;have y:s.heap.CodeRec (.ref j) qual:=by
  obtain⟨c,T,ws,t,e1,e2,e3,e4⟩:=M;exact(c,T,ws,t,e1,(B.bs c T e2).1,e3,e4)
 refine codeAny_call_function G.depth (B.bs f o ho).1 hd S.co S.gen rfl y (hb _ _ _ _ ?_);refine Ao S λh' X L h p=>?_;refine(F.keeps p,codeAny_func ?_);obtain⟨t,Z,hq⟩:=i A outer s H v Q E (G.deeper _) n;have I:f' (gC nq P w K mg base N x qual scope f (.ref j) clos A outer s H E) [] (xx N [v] fvs) H {s with heap:=h',toks:=X}:=iK S C G.hd B Y L h p;refine wpAny_mono (Z.nox [] _ (xx N [v] fvs) H _ I hq) (λfl s' l=>?_) λe s' l=>l;have z:∀{a:St}{H':Hp}{v:V}{u:Value},f' (gC nq P w K mg base N x qual scope f (.ref j) clos A outer s H E) [] a H' s'->ad v u->Q v H'->CE outer P w H s Q u s':=
  λ{a H' v u}J D q=>(v,H',J.os,J.bare,J.base,J.hok,D,q)
 cases fl with
 |ret u=>
  obtain⟨v,a,H',J,D,q⟩:=l;exact z J D q
 |next=>
  obtain⟨a,H',J,q⟩:=l;exact z (v:=V.non) (u:=Value.none) J rfl q
 |brk=>
  obtain⟨_,_,_,q⟩:=l;exact False.elim q
 |cont=>
  obtain⟨_,_,_,q⟩:=l;exact False.elim q
end
section
variable{X:Cx}{elt iter:Expr}{x:Str}{px pos:Pos}{ifs:List Expr}{sc:Scope}{wi:TI}{tt:TT}{te:TE}
end
theorem il(K:Frag)(a:X.K=K:=by rfl):vd X (compareOp .In) (EH K false):=by
 subst a;exact cb
end L2
namespace RA
open PySem L2
theorem DW(a:Nat):∀S:LN,AU (.int (a:Int)) (b' S)=S.contains a
 |[]=>rfl
 |x::S=>by
  have e:AU (.int (a:Int)) (b' (x::S))=(((x:Int)==(a:Int))||AU (.int (a:Int)) (b' S)):=rfl;rw[e,DW a S,List.contains_cons];congr 1;rw[Bool.eq_iff_iff,beq_iff_eq,beq_iff_eq];constructor
  .intro z;exact(Int.ofNat_inj.mp z).symm
  .intro z;rw[z]
theorem uL:(List.range (i+1)).filter p=(List.range i).filter p++(if p i then[i]else[]):=by
 rw[range_succ,List.filter_append];cases h:p i with
 |false=>rw[List.filter_cons_of_neg (by simp[h]),List.filter_nil];rfl
 |true=>rw[List.filter_cons_of_pos h,List.filter_nil];rfl
end RA
namespace L2
open PySem PySem.Spec PyProof.Rows
namespace ZP
theorem Ap(a b:Addr):vT (.tp a) (.tp b):=λxs ys=>.of_wp λprog w A R s h=>by
 obtain⟨hp,g,d,j,os⟩:=s;obtain⟨f,c,h⟩:=h;have i:=sub_zip;have f:hp.IsTuple a xs:=f;have c:(hp.push (Sd.tp a).it0).IsTuple b ys:=IsTup.keeps c λo e=>nb _ e;show wpAny _ _ (Builtin.«zip.__new__» ([.type "zip",.ref a,.ref b],[])) _ _ _
 wp_walk using CO f,CO c
 refine(_,rfl,?_);simp only[bE]at h;simpa[size_push,Builtin.SmallTypes.ownedTupleFields,Nat.add_assoc]using h
end ZP
noncomputable def jZ(ta:TA):TE:=λσ H Q=>ta σ H λvs H1=>∃a b xs ys,vs=[.ref a,.ref b]/\H1 a=some (.tup xs)/\H1 b=some (.tup ys)/\xs.length=ys.length/\xs.length≤1000000/\
 ∀(l:Addr)(ts:List Addr)(H2:Hp),ts.length=xs.length->ts.Nodup->H1 l=none->a' H1 H2->H2 l<*.lst (ts.map V.ref)->(∀(i:Nat)(t:Addr)(x y:V),ts[i]?<*t->xs[i]?<*x->ys[i]?<*y->H2 t<*.tup [x,y])->Q (.ref l) H2
theorem fu{p M pos f:Pos}(hc:X.calm=true)(a5:Gl X "list")(a2:X.mg "list"=none)(a4:Gl X "zip")(a1:X.mg "zip"=none)(ha:PA X [a,b] ta)(hs:starEach [.Call (.Name "zip" M) [a,b] [] f] X.env=[(false,eval (.Call (.Name "zip" M) [a,b] [] f) X.env,)]:=by rfl)(aU:starEach [a,b] X.env=(false,eval a X.env,)::starEach [b] X.env:=by rfl)(az:(backTo f (starEach [b] X.env)).any (·.1)=false:=by rfl):PE X (.Call (.Name "list" p) [.Call (.Name "zip" M) [a,b] [] f] [] pos) (jZ ta):=by
 intro an s σ H Q I h;refine wpAny_Call_Name_kw (t5 I a5 a2 boot_list ?_);refine PyProof.Rows.callWith_type1 (e:=.Call (.Name "zip" M) [a,b] [] f) (rest:=[]) ?_ hs rfl;rw[hs];show wpAny _ _ (spliced ((false,eval (.Call (.Name "zip" M) [a,b] [] f) X.env,)::backTo pos [])) _ _ s;refine Calls.spliced_cons (wpAny_Call_Name_kw (t5 I a4 a1 boot_zip (PyProof.Rows.callWith_type1 (n0 (ha f an s σ H _ I h) λus d a6=>?_) aU az)));obtain⟨vs,H1,W,r1,U,T,xs,ys,ev,as,ar,hl,aA,q⟩:=a6;subst ev;obtain⟨u1,u2,rfl,e1,e2⟩:=bc r1;cases e1;cases e2;obtain⟨D,rx,px,_⟩:=W.tuple (pa.of as);obtain⟨C,ry,py,_⟩:=W.tuple (pa.of ar);have px:d.heap.IsTuple U D.toArray:=px;have py:d.heap.IsTuple T C.toArray:=py;have hh:X.A.handled=none:=W.ok.hd hc;have ab:U<d⁻¹:=W.hok.lt as;have Z:T<d⁻¹:=W.hok.lt ar;refine ZP.ww (d1:=.tp U) (d2:=.tp T) (xs:=D.toArray) (ys:=C.toArray) (ZP.Ap U T) px py λg gz a8 a7 g1 g2 gk=>?_;have aB:d⁻¹+5≤g.objs.size:=lt_size gz;refine Calls.spliced_nil ?_;have ap:ZipApart (d⁻¹+4) (d⁻¹+2) (d⁻¹+3) d⁻¹ (d⁻¹+1) (d⁻¹+2) (d⁻¹+2):=by
  constructor<;>exact AV (!6)
 have ex:D.toArray.size=xs.length:=by rw[rx.length];simp
 have ey:C.toArray.size=xs.length:=by rw[hl,ry.length];simp
 have aN:g.IsTuple U D.toArray:=IsTup.keeps px λo e=>gk U o e;have aM:g.IsTuple T C.toArray:=IsTup.keeps py λo e=>gk T o e;have D1:=bK (prog:=X.prog) (w:=X.w) (A:=X.A.in1.in1.in1) hh d⁻¹ U (ne_of_lt ab) D.toArray;have D2:=bK (prog:=X.prog) (w:=X.w) (A:=X.A.in1.in1.in1) hh (d⁻¹+1) T (ne_of_lt (lt_succ_of_lt Z)) C.toArray;rw[ex]at D1;rw[ey]at D2;have E:∀c:Addr,c<d⁻¹->c∉[d⁻¹+4,d⁻¹+3,d⁻¹,d⁻¹+1]:=λc k hm=>by
  have k:(c:Nat)<d⁻¹:=k;simp only[mem_cons,not_mem_nil,or_false]at hm;rcases hm with y|y|y|y
  .exact absurd k (by rw[y];exact not_lt.mpr (le_add_right _ _))
  .exact absurd k (by rw[y];exact not_lt.mpr (le_add_right _ _))
  .exact absurd k (by rw[y];exact lt_irrefl _)
  .exact absurd k (by rw[y];exact not_lt.mpr (le_add_right _ _))
 refine ZP.zD (s:={d with heap:=g}) (n:=xs.length) D1 D2 ap aA (λc k=>?_) (λc k=>?_) gz a8 a7 (g1,aN) (g2,aM) (lt_of_lt_of_le (!6) aB) (lt_of_lt_of_le (!6) aB) λh' tk S c kp hS hsz G aS=>?_
 .rcases mem_cons.mp k with z|z
  .exact .inl z
  .rw [uN z];exact .inr (E U ab,lt_of_lt_of_le ab (by show d⁻¹≤g.objs.size;lia))
 .rcases mem_cons.mp k with z|z
  .exact .inl z
  .rw [uN z];exact .inr (E T Z,lt_of_lt_of_le Z (by show d⁻¹≤g.objs.size;lia))
 have hS:h'.get? g.objs.size<*{cls:=.type "list",dict:=none,data:=.seq S c,slots:=#[]}:=hS;obtain⟨ts,P⟩:∃ts:List Addr,S.toList=ts.map Value.ref:=by
  have:∀(l:List Value),(∀v∈l,∃t:Addr,v=.ref t)->∃ts:List Addr,l=ts.map Value.ref:=by
   intro l;induction l with
   |nil=>exact λ_=>([],rfl)
   |cons v r ih=>
    intro hv;obtain⟨t,rfl⟩:=hv v (!1);obtain⟨ts,rfl⟩:=ih λv aT=>hv v (by simp[aT]);exact(t::ts,rfl)
  refine this S.toList λv hv=>?_;obtain⟨j,hj⟩:=mem_iff_getElem?.mp hv;rw[getElem?_toList]at hj;obtain⟨t,_,_,e,_⟩:=G j v hj;exact(t,e)
 have N:ts.length=xs.length:=by rw[<-hsz,<-length_toList,P,j_]
 have O:∀{i:Nat}{t:Addr},ts[i]?<*t->S[i]?<*.ref t:=λ{i t}e=>by rw[<-getElem?_toList,P,n',e];rfl
 have Y:ts.Nodup:=E5 λi j t h1 h2=>aS i j t (O h1) (O h2);have B:∀{i:Nat}{t:Addr}{x y:V},ts[i]?<*t->xs[i]?<*x->ys[i]?<*y->g.objs.size<t/\∃u v,ad x u/\ad y v/\IsPair h' t u v:=λ{i t x y}ht hx hy=>by
  obtain⟨t',u,v,e,p1,M,pr,R⟩:=G i _ (O ht);cases e;have p1:D.toArray[i]?<*u:=p1;have M:C.toArray[i]?<*v:=M;obtain⟨u',hu,ru⟩:=rx.get hx;obtain⟨v',hv,rv⟩:=ry.get hy;rw[getElem?_toArray,hu]at p1;rw[getElem?_toArray,hv]at M;cases p1;cases M;exact(R,_,_,ru,rv,pr)
 have L:∀{i:Nat},i<xs.length->∃t x y,ts[i]?=some t/\xs[i]?=some x/\ys[i]?<*y:=λ{i}hi=>(ts[i],xs[i],ys[i],j1 _,j1 _,j1 _);have aH:∀t∈ts,g.objs.size<t:=λt ht=>by
  obtain⟨i,hi⟩:=mem_iff_getElem?.mp ht;have a3:i<xs.length:=by rw[<-N];exact(l' hi).1
  obtain⟨t',x,y,h1,h2,h3⟩:=L a3;rw[hi]at h1;cases h1;exact(B hi h2 h3).1
 let H2:Hp:=λb=>if b<d⁻¹ then H1 b else if b=g.objs.size then some (.lst (ts.map V.ref))else kJ ts xs ys b
 have gS:¬ g.objs.size<d⁻¹:=by lia
 have m:∀b,b<d⁻¹->H2 b=H1 b:=λb hb=>if_pos hb;have ag:H2 g.objs.size<*.lst (ts.map V.ref):=(if_neg gS).trans (if_pos rfl);have aC:∀(i:Nat)(t:Addr)(x y:V),ts[i]?<*t->xs[i]?<*x->ys[i]?<*y->H2 t<*.tup [x,y]:=λi t x y h1 h2 h3=>by
  have R:=(B h1 h2 h3).1;have a0:¬ t<d⁻¹:=λz=>absurd (lt_trans R z) gS;have aV:t≠g.objs.size:=ne_of_gt R;show(if t<d⁻¹ then H1 t else if t=g.objs.size then some (.lst (ts.map V.ref))else kJ ts xs ys t)=_;rw[if_neg a0,if_neg aV,kJ,E4 Y h1 (v:=(x,y,)) (by rw[getElem?_zip_eq_some];exact(h2,h3))];rfl
 have F:∀b o,d.heap.get? b<*o->h'.get? b<*o:=λb o e=>kp b o (E b (lt_size e)) (gk b o e);refine(.ref g.objs.size,H2,?_,rfl,q g.objs.size ts H2 N Y (W.hok.fresh (!6)) (λb o e=>by rw[m b (W.hok.lt e)];exact e) ag aC);have J:=W.many (H':=H2) (h':=h') (t':=tk) F m λb o hb e=>?_
 .exact J
 .by_cases hbg:b=g.objs.size
  .subst hbg;rw[ag]at e;cases e;refine(by rw[j_,N,sizeLine_eq];exact le_trans aA (!0),ts.map Value.ref,c,?_,?_)
   .clear P N O Y B L aH H2 m ag aC;induction ts with
    |nil=>exact .nil
    |cons t r ih=>exact .cons rfl ih
   .rw [<-P];simpa using hS
  .have e':kJ ts xs ys b<*o:=by
    have e:(if b<d⁻¹ then H1 b else if b=g.objs.size then some (.lst (ts.map V.ref))else kJ ts xs ys b)<*o:=e;rw[if_neg (not_lt.mpr hb),if_neg hbg]at e;exact e
   unfold kJ at e';cases hlk:(ts.zip (xs.zip ys)).lookup b with
   |none=>rw[hlk]at e';cases e'
   |some q2=>
    rw[hlk]at e';cases e';obtain⟨i,hi⟩:=mem_iff_getElem?.mp (ck hlk);rw[getElem?_zip_eq_some]at hi;obtain⟨h1,h2⟩:=hi;rw[getElem?_zip_eq_some]at h2;obtain⟨_,u,v,ru,rv,pr⟩:=B h1 h2.1 h2.2;exact(o9 (by show 2≤16777216;decide),[u,v],.cons ru (.cons rv .nil),(_,pr,rfl,0,rfl))
theorem AN(e:AX X U m H d)(sub:∀y a,b.lookup y<*a->X.env.cells.lookup y<*a)(has:∀y∈sc.names,y.2=.free->∃a,b.lookup y.1<*a)(n:fvs.length=g.length)(o:∀(i:Nat)(y:Str)(v:V),g[i]?<*y->fvs[i]?<*v->(∃j:Nat,X.N[j]?=some y/\m[j]?<*some v)/\X.env.scope.names.lookup y=some .cell/\sc.names.lookup y<*.free):vb d b sc g fvs:=by
 refine(λy z c h1 h2=>e.inj y z c (sub y c h1) (sub z c h2),has,λy c h=>e.cell y c (sub y c h),n,λi y v h1 h2=>?_);obtain⟨⟨j,w,t⟩,s,l⟩:=o i y v h1 h2;obtain⟨a,f⟩:=has (y,.free,) (PySem.mem_of_lookup l) rfl;obtain⟨c,u,r,q,p⟩:=e.val j y v w t s;have k:=sub _ _ f;rw[r]at k;cases k;exact(l,_,u,f,q,p)
theorem eh(b:∀y,a.lookup y=none)(f:∀y∈sc.names,y.2≠.free):vb h a sc [] []:=by
 refine(λy z c h1 _=>?_,λy d e=>absurd e (f y d),λy c e=>?_,rfl,λi y v h1 _=>by simp at h1)
 .rw [b]at h1;cases h1
 .rw [b]at e;cases e
theorem BC{P:Program}{w:World}{K:Frag}{mg:Str->Option Value}{base:Heap}{st:Stmt}{j h kV doc pm ct:Value}(lk:K.lookup f<*(j,l,.func (fnOf x qual (nt st) (ln st) (h7 st) h kV doc pm an (.ref c) ct),i))(e:codeIn K (.ref c) qual=true)(S:s_ N ps (h7 st))(len:∀d H Q E,g d H Q E->d.length=ps.length)(b:∀(A:Around)(a:List Env)(s:Shared)(H:Hp)(d:List V)(Q:VK)(E:XK),ah k (A.deeper (envOfC qual (h7 st) s⁻¹ f (.ref c)))->g d H Q E->
   ∃t,vH (aK (ve P w) P w K mg base N qual (h7 st) f (.ref c) A a s H E) (ln st) t/\t {nx:=λ_ H'=>Q .non H',rt:=Q} (start N d) H):aa P w K mg base (ve P w) (k+1) f (fnOf x qual (nt st) (ln st) (h7 st) h kV doc pm an (.ref c) ct) ps g:=gj lk e S len b
noncomputable def wj(H H':Hp):Prop:=∀b o,(∀ps,o≠.tbl ps)->H b<*o->H' b<*o
theorem wj.of(s:a' H H'):wj H H':=λb o _ e=>s b o e
theorem wj.trans(a:wj H d)(b:wj d H'):wj H H':=λx o c e=>b x o c (a x o c e)
theorem wj.ofX(s:wv P0 H H')(c:vL H P0 sites):wj H H':=λb o a e=>s b o (λz=>by
 obtain⟨ps,d,_⟩:=c;rw[z,d]at e;cases e;exact a _ rfl) e
theorem wj.tup(s:wj H H'):∀b xs,H b<*.tup xs->H' b<*.tup xs:=λb xs e=>s b _ (λ_ z=>nomatch z) e
theorem wj.lst(s:wj H H')(e:H b<*.lst xs):H' b<*.lst xs:=s b _ (λ_ z=>nomatch z) e
end L2
namespace RA
open PySem L2
noncomputable def xN(H:Hp)(m:Addr)(L:LN)(W:LL)(B:List Bool):Prop:=
 ∃(wy mk:Addr)(rows:List Addr),H m=some (.tup [.str (tx L),.ref wy,.ref mk])/\H wy=some (.tup (rows.map V.ref))/\H mk=some (.lst (B.map V.bl))/\rows.length=W.length/\∀(i:Nat)(a:Addr),rows[i]?<*a->∃ws,W[i]?=some ws/\H a<*.tup (b' ws)
theorem xN.keep(h:xN H m L W B)(t:∀b xs,H b<*.tup xs->H' b<*.tup xs)(l:∀b xs,H b<*.lst xs->H' b<*.lst xs):xN H' m L W B:=by
 obtain⟨d,mk,c,h1,h2,j,g,f⟩:=h;refine(d,mk,c,t _ _ h1,t _ _ h2,l _ _ j,g,λi a e=>?_);obtain⟨ws,n,k⟩:=f i a e;exact(ws,n,t _ _ k)
theorem xN.same(h:xN H m L W B)(s:a' H H'):xN H' m L W B:=h.keep (λb xs e=>s b _ e) λb xs e=>s b _ e
theorem xN.ofT(h:xN H m L W B)(s:wj H H'):xN H' m L W B:=h.keep s.tup λb xs e=>s.lst e
theorem pV(s:wj H H')(h:lb K H a xs):lb K H' a xs:=by
 rcases h with(h|⟨o,h⟩)|h
 .exact .inl (.inl (s.lst h))
 .exact .inl (.inr (o,s _ _ (λ_ z=>nomatch z) h))
 .exact .inr h
noncomputable def DX(cW P0:Addr)(sites:List (Pos×Str)):Sp:=λvs H Q _=>∃(m:Addr)(L:LN)(W:LL)(B:List Bool),vs=[.ref m]/\xN H m L W B/\g_ L W B/\vL H P0 sites/\
 ∀(wk t wd y md:Addr)(ks:LL)(vks:List V)(ws:LL)(rows:List Addr)(R:LL)(Bm:List Bool)(H':Hp),wv P0 H H'->vL H' P0 sites->Al H' cW wk L t wd y md->H' t<*.lst vks->zW .i H' ks vks->H' wd<*.lst (na ws)->H' y<*.lst (rows.map V.ref)->xj H' rows R->H' md<*.lst (Bm.map V.bl)->
  Bf (gW W) L [0] ks ws ks.length 0->wJ (gW W) L.length ks R->R.length=ks.length->Bm.length=R.length->(∀(r:Nat)(k:LN)(b:Bool),ks[r]?<*k->Bm[r]?<*b->b=mkW B k)->(∀k∈ks,k∈uW W)->ks.length≤W.length->Q (.ref wk) H'
noncomputable def gP(W1 W2:LL)(k:LN)(j:Nat):LN:=[goal W1 (k.getD 0 0) j,goal W2 (k.getD 1 0) j]
noncomputable def uP(n1 n2:Nat):LL:=(List.range n1).flatMap λa=>(List.range n2).map λb=>[a,b]
noncomputable def E9(rule:Bool->Bool->Bool)(B1 B2:List Bool)(k:LN):Bool:=rule (B1.getD (k.getD 0 0) false) (B2.getD (k.getD 1 0) false)
theorem lO(e:a<n1)(d:b<c):[a,b]∈uP n1 c:=by
 unfold uP;rw[mem_flatMap];exact(a,mem_range.mpr e,mem_map.mpr (b,mem_range.mpr d,rfl))
theorem g6(h:k∈uP n1 c):∃a b,k=[a,b]/\a<n1/\b<c:=by
 unfold uP at h;obtain⟨a,e,h⟩:=mem_flatMap.mp h;obtain⟨b,d,rfl⟩:=mem_map.mp h;exact(a,b,rfl,mem_range.mp e,mem_range.mp d)
theorem qh(n1 a:Nat):(uP n1 a).length=n1*a:=by
 unfold uP;rw[List.length_flatMap];simp[List.map_const',List.sum_replicate_nat]
theorem pR(h1:n1≤8)(h2:a≤8):(uP n1 a).length≤64:=by
 rw[qh];exact Nat.mul_le_mul h1 h2
theorem rG(h1:g_ L d j)(h2:g_ L c i):∀k∈uP d.length c.length,∀q,q<L.length->gP d c k q∈uP d.length c.length:=λk f q e=>by
 obtain⟨a,b,rfl,h,g⟩:=g6 f;exact lO (wu h1 h e) (wu h2 g e)
theorem sx{L:LN}{e d:LL}:∀(u:LN)(a b:Nat),aG (gP e d) L [a,b] u=[run L e a u,run L d b u]
 |[],_,_=>rfl
 |c::u,a,b=>sx u (goal e a (L.idxOf c)) (goal d b (L.idxOf c))
noncomputable def br(rule:Bool->Bool->Bool):Sp:=λvs H Q _=>∃a b:Bool,vs=[.bl a,.bl b]/\Q (.bl (rule a b)) H
structure rC(P:Program)(w:World)(K:Frag)(mg:Str->Option Value)(H:Hp)(g cg:Addr)(rule:Bool->Bool->Bool):Prop where
 ex:∃(qual:Str)(params:Arguments)(body:Expr)(sc:Scope)(clos:List (Str×Addr)),H g=some (uT g qual params body sc clos cg)/\H cg=some (k_ cg qual)/\
  (∀(base':Heap)(pm ctv:Value),base'.get? g<*kla_obj "<lambda>" qual params body sc clos pm cg ctv->base'.CodeRec (.ref cg) qual->aa P w K mg base' nq 1 g (kla_fn "<lambda>" qual params body sc clos pm (.ref cg) ctv) ["one","two"] (br rule))/\
  ∀pm ctv:Value,vw K (kla_fn "<lambda>" qual params body sc clos pm (.ref cg) ctv) ["one","two"] []
end RA
namespace L2
open PySem PySem.Spec PyProof.Rows
section
variable{X:Cx}{elt iter:Expr}{x y:Str}{px py pt pos:Pos}{kt:Nat}{sc:Scope}{wi:TI}{te:TE}
end
theorem E_{env:Env}:∀{a:List (Str×NameKind)}{x:Str},a.lookup x<*.cell->
  (a.map λ(n,k)=>if (k==NameKind.free&&env.scope.kind==.function&&env.kindOf n==some .cell)then(n,NameKind.cell,)else(n,k,)).lookup x<*.cell
 |[],_,h=>by simp at h
 |(n,k)::r,x,h=>by
  rw[map_cons];by_cases z:x=n
  .subst z;rw[List.lookup_cons_self]at h;cases h;show List.lookup x ((x,NameKind.cell,)::_)=_;exact List.lookup_cons_self
  .have b:(x==n)=false:=beq_eq_false_iff_ne.mpr z;have h2:r.lookup x<*.cell:=by simpa only[List.lookup,b]using h
   have c:=E_ (env:=env) h2;dsimp only;split
   .simp only[List.lookup,b];exact c
   .simp only[List.lookup,b];exact c
theorem qa(h:c=C+1)(a:C=D+1):¬ c<D:=by lia
theorem AO(h:c=C+1)(a:C=D+1):D≤c:=by lia
theorem p8(h:c=C+1)(d:C=D+1)(a:b<D):c≠b:=by lia
theorem dJ{M:Model}{A:Around}{E:Value->Shared->Prop}{s:Shared}{sc:Scope}{code:Value}(f:∀n c,cellsFrom n sc.names c=(x,n,)::c)(d:∀h:Heap,pushCells h sc.names=h.push {cls:=.type "cell",data:=.cell none})(i:∀h',h'.Ns s⁻¹ (λ_=>none)->h'.get? (s⁻¹+1)<*{cls:=.type "cell",data:=.cell none}->(∀b o,s.heap.get? b<*o->h'.get? b<*o)->
   Q (newEnv sc s⁻¹ g ((x,s⁻¹+1,)::c) qual func code (some a) bl) {s with heap:=h'}):wpAny M A (newFunctionEnv sc g c [] qual func code (some a) bl) Q E s:=by
 unfold newFunctionEnv;rw[show(some a).isSome=true from rfl,if_pos rfl];refine d_ (wpAny_alloc (d_ (wpAny_layCells _ (λ_ k _=>by cases q:k==NameKind.cell<;>simp only[q]<;>rfl) _ _ _ _ ?_)));rw[f,d];have e:({s with heap:=s.heap.push {cls:=.type "dict",data:=.dict #[]} }:Shared).heap.objs.size=s⁻¹+1:=size_push ..;rw[e];refine d_ ?_;rw[forIn_nil];refine j2 (j2 (i _ ?_ ?_ ?_))
 .exact (Heap.Ns.new s.heap (.type "dict")).keeps λb o z=>nb _ z
 .have:=get?_push_size (s.heap.push {cls:=.type "dict",data:=.dict #[]}) (o:={cls:=.type "cell",data:=.cell none}) rfl
  rwa [size_push]at this
 .exact λb o z=>nb _ (nb _ z)
section
variable{X:Cx}{elt iter:Expr}{x:Str}{px pos:Pos}{ifs:List Expr}{sc:Scope}{wi:TI}{tt:TT}{te:TE}
theorem mE(P:List Str)(hc:X.calm=true)(a0:(x::P).Nodup)(hi:PI X (.Name x px) iter wi)(a:∀(G:List (Str×Addr))(C:Addr)(O:List Addr)(s:Shared)(H:Hp),AB {mu X x sc G C O s H with N:=x::P,fn:=λy=>y==x} ifs tt/\PE {mu X x sc G C O s H with N:=x::P,fn:=λy=>y==x} elt te)(hx:sc.names.lookup x<*.cell:=by rfl)(b5:∀n G,cellsFrom n sc.names G=(x,n,)::G:=by intro _ _;rfl)(b0:∀h:Heap,pushCells h sc.names=h.push {cls:=.type "cell",data:=.cell none}:=by intro _;rfl)(ag:sc.kind=.function:=by rfl)(as:∀y∈sc.names,y.2=.local->sc.names.lookup y.1<*.local:=by decide +kernel)(ap:∀y∈sc.names,y.2=.cell->y.1=x:=by decide +kernel)(aT:(sc.names.all λy=>y.2 != .free||X.env.scope.names.lookup y.1==some .cell)=true:=by rfl)(b3:(P.all λy=>sc.names.lookup y != some .local)=true:=by rfl)(b4:P.length=X.N.length:=by rfl)(bo:((P.zip X.N).all λy=>y.1==y.2||sc.names.lookup y.1==none)=true:=by rfl)(hs:∀x,foldedSetIterable iter X.env x=pure x:=by intro _;rfl):PE X (.ListComp elt [(.Name x px,iter,ifs,0)] sc pos) (bq wi tt te):=by
 intro az s σ H Q I h;have bd:∀y∈sc.names,y.2=.free->X.env.kindOf y.1<*.cell:=λy hy e=>by
  have q:=all_eq_true.mp aT y hy;rw[e]at q;simpa[Env.kindOf]using q
 have a7:∀y∈P,sc.names.lookup y≠some .local:=λy hy e=>by
  have q:=all_eq_true.mp b3 y hy;rw[e]at q;simp at q
 obtain⟨G,aU,j,an⟩:=Cu (env:=X.env) (sc:=sc) λy hy e=>I.ok.has y.1 (.inl (bd y hy e));rw[eval_ListComp];refine wpAny_comprehension_free (use:=none) rfl hs aU ag as (n0 (hi az s σ H _ I h) λv s1 h1=>n0 h1 λcs s2 h2=>?_);obtain⟨it,O,tn,J,H2,e,l,T,aM,f2,hW⟩:=h2;subst e;refine wpAny_newObj_type ?_;refine dJ b5 b0 λL B E t=>?_;dsimp only at B E t⊢;generalize a1:s2.heap.push {cls:=.type "list",dict:=none,data:=.seq ([]:List Value).toArray}=Ha at B E t⊢;have hC:Ha.objs.size=s2⁻¹+1:=by rw[<-a1,size_push]
 have ct:s2⁻¹≠Ha.objs.size:=by rw[hC];exact ne_of_lt (lt_succ_self _)
 have bi:s2⁻¹≤Ha.objs.size:=by rw[hC];exact le_succ _
 have aN:∀b o,s2.heap.get? b<*o->b≠Ha.objs.size:=λb o e=>ne_of_lt (lt_of_lt_of_le (lt_size e) bi);have R:∀b o,s2.heap.get? b<*o->L.get? b<*o:=λb o e=>t b o (a1▸nb _ e);have bf:L.get? s2⁻¹<*{cls:=.type "list",dict:=none,data:=.seq ([]:List Value).toArray}:=t _ _ (a1▸get?_push_size _ rfl);have lk:∀{y:Str}{c:Addr},List.lookup y ((x,Ha.objs.size+1,)::G)<*c->(y=x/\c=Ha.objs.size+1)\/(y≠x/\G.lookup y<*c):=λ{y c}e=>by
  by_cases z:y=x
  .rw [z,List.lookup_cons_self]at e;exact .inl (z,(Option.some.inj e).symm)
  .have zb:(y==x)=false:=beq_eq_false_iff_ne.mpr z;simp only[List.lookup,zb]at e;exact .inr (z,e)
 have aS:∀{y:Str},y≠x->List.lookup y ((x,Ha.objs.size+1,)::G)=G.lookup y:=λ{y}z=>by
  have zb:(y==x)=false:=beq_eq_false_iff_ne.mpr z;simp only[List.lookup,zb]
 have a3:∀{y:Str}{c:Addr},G.lookup y<*c->c<s2⁻¹:=λ{y c}e=>by
  obtain⟨v,o,ho,_⟩:=l.cell y c (j y c e);exact lt_size ho
 generalize U:s2⁻¹=D at *;generalize cw:Ha.objs.size=C at *;have bg:H2 D=none:=l.hok.fresh (le_of_eq U);have cd:H2 C=none:=l.hok.fresh (!6);obtain⟨W,⟨m0,w0⟩,a4⟩:=hW D bg;have F:∀b∈O,b<D:=λb a=>by
  obtain⟨o,e,_⟩:=T.obj _ _ aM b a;rw[<-U];exact lt_size e
 let Y:Cx:={mu X x sc ((x,C+1,)::G) C O s2 H2 with N:=x::P,fn:=λy=>y==x}
 have aA:∀b∈O,b∉tf X.stack:=λb a z=>by
  rcases mem_cons.mp (l.stkSub b z)with e|e
  .exact (f2 b a).2.1 e
  .exact (f2 b a).2.2.1 e
 have bm:Y.Ok:=by
  refine(l.ok.mod,ag,l.ok.glob,l.ok.blt,?_,λy z c e1 e2=>?_,λy hy=>?_,λy c e e2=>?_,l.ok.hd,l.ok.frames,.inl rfl,λb a=>(?_,λy c e=>?_),l.bs,
   le_trans l.ok.bsz l.sz,λb o e a=>?_,aA,l.stack,l.stkFree)
  .show s2⁻¹≤C;lia
  .rcases lk e1 with⟨z1,w1⟩|⟨z1,w1⟩<;>rcases lk e2 with⟨z2,w2⟩|⟨z2,w2⟩
   .rw [z1,z2]
   .exact absurd (a3 w2) (qa w1 hC)
   .exact absurd (a3 w1) (qa w2 hC)
   .exact l.ok.inj y z c (j y c w1) (j z c w2)
  .rcases hy with hy|hy
   .rcases kb (show(relabel sc X.env).names.lookup y<*.cell from hy)with e|⟨_,e,_⟩
    .have z:y=x:=ap _ (PySem.mem_of_lookup e) rfl;exact(C+1,by rw[z];exact List.lookup_cons_self)
    .have z:y≠x:=λz=>by rw[z,hx]at e;cases e
     obtain⟨c,S⟩:=an _ (PySem.mem_of_lookup e) rfl;exact(c,(aS z).trans S)
   .rcases kb (show(relabel sc X.env).names.lookup y<*.free from hy)with e|⟨e,_⟩
    .have z:y≠x:=λz=>by rw[z,hx]at e;cases e
     obtain⟨c,S⟩:=an _ (PySem.mem_of_lookup e) rfl;exact(c,(aS z).trans S)
    .cases e
  .have z:y=x:=eq_of_beq e;rcases lk e2 with⟨_,w⟩|⟨z2,_⟩
   .show s2⁻¹≤c;rw[U];exact AO w hC
   .exact absurd z z2
  .exact ne_of_lt (lt_of_lt_of_le (F b a) (by omega:D≤C))
  .rcases lk e with⟨_,w⟩|⟨_,w⟩
   .exact p8 w hC (F b a)
   .exact (f2 b a).2.2.2.2.1 y c (j y c w)
  .rcases (f2 b a).2.2.2.1 with z|z
   .exact l.ok.noex b o e z
   .exact absurd (lt_of_lt_of_le (lt_of_lt_of_le (lt_size e) l.ok.bsz) z) (lt_irrefl _)
 have I4:∀tk,f' Y [] (none::σ) (upd H2 D (.lst [])) {s2 with heap:=L,toks:=tk}:=λtk=>by
  refine(bm,rfl,l.bare,Un.laid R (le_of_eq U) bg,(_,B,λi y v e1 e2 e3=>?_),λy c e=>?_,?_,λy c e=>?_,λp hp=>?_,l.hok.laid R (le_of_eq U) ?_,?_)
  .cases i with
   |zero=>simp at e2
   |succ i=>
    have e0:P[i]?<*y:=by simpa[Y,mu]using e1
    have e2:σ[i]?<*some v:=by simpa using e2
    have e3:AQ (relabel sc X.env) y:=e3;have ab:y∈P:=uM e0;have M:sc.names.lookup y=some .free/\(relabel sc X.env).names.lookup y≠some .local:=by
     rcases e3 with e|e|e
     .rcases kb e with q|⟨q,_⟩
      .exact absurd q (a7 y ab)
      .cases q
     .rcases kb e with q|⟨_,q,_⟩
      .have z:y=x:=ap _ (PySem.mem_of_lookup q) rfl;rw[z]at ab;exact absurd ab (nodup_cons.mp a0).1
      .exact (q,by rw[e];decide)
     .rcases kb e with q|⟨q,_⟩
      .exact (q,by rw[e];decide)
      .cases q
    have e1:X.N[i]?<*y:=by
     have hi:i<P.length:=(l' e0).1;have a9:i<X.N.length:=by lia
     have hm:(y,X.N[i],)∈P.zip X.N:=by
      have hz:(P.zip X.N)[i]?<*(y,X.N[i],):=by
       rw[getElem?_zip_eq_some];exact(e0,j1 a9)
      exact uM hz
     have q:=all_eq_true.mp bo _ hm;rcases Bool.or_eq_true_iff.mp q with q|q
     .have:y=X.N[i]:=eq_of_beq q;rw[j1 a9,<-this]
     .have q2:sc.names.lookup y=none:=by simpa using q
      rw[M.1]at q2;cases q2
    have kc:X.env.kindOf y<*.cell:=bd _ (PySem.mem_of_lookup M.1) rfl;obtain⟨m,hn,hl⟩:=l.loc;obtain⟨u,ru,lk⟩:=hl i y v e1 e2 (.inr (.inl kc));rcases lk with⟨q,_⟩|⟨_,c,aV,⟨o,ho,hd⟩⟩
    .rw [kc]at q;cases q
    .obtain ⟨c',S⟩:=an _ (PySem.mem_of_lookup M.1) rfl;have e4:=j _ _ S;rw[aV]at e4;cases e4;have z:y≠x:=λz=>by rw[z]at ab;exact(nodup_cons.mp a0).1 ab
     refine(u,ru,.inr (?_,c,(aS z).trans S,(o,R c o ho,hd)));rcases e3 with e|e|e
     .exact absurd e M.2
     .exact .inl e
     .exact .inr e
  .rcases lk e with⟨_,w⟩|⟨_,w⟩
   .rw [w];exact(none,_,E,rfl)
   .obtain ⟨v,o,ho,hd⟩:=l.cell y c (j y c w);exact(v,o,R c o ho,hd)
  .show upd H2 D (.lst []) C=none;rw[a_ (AV (!6))];exact cd
  .rcases lk e with⟨_,w⟩|⟨_,w⟩
   .show upd H2 D (.lst []) c=none;rw[a_ (by rw[w];intro z;exact absurd z (ne_of_gt (!6)))];exact l.hok.fresh (by rw[U];exact AO w hC)
   .have b2:=a3 w;show upd H2 D (.lst []) c=none;rw[a_ (ne_of_lt b2)];exact l.freeC y c (j y c w)
  .exact absurd (show p∈([]:List (Addr×Obj))from hp) (!1)
  .exact (zero_le _,[],0,.nil,bf)
  .show (none::σ).length=(x::P).length;rw[length_cons,length_cons,l.len,b4]
 have ca:Y.N.Nodup:=a0;have bV:Y.env.scope.names.lookup x<*.cell:=E_ hx;obtain⟨ch,cn⟩:=a ((x,C+1,)::G) C O s2 H2;have a2:∀{Z:List (Addr×Obj)}{H':Hp},(∀b∈O,H' b=none)->(∀p∈Z,p.1∉O)->∀b∈O,aY Y Z H' b:=λhn hp b a=>by
  refine(hn b a,?_,aA b a,.inl a,λy c e=>?_,λp q z=>?_)
  .exact ne_of_lt (lt_of_lt_of_le (F b a) (by omega:D≤C))
  .rcases lk e with⟨_,w⟩|⟨_,w⟩
   .exact p8 w hC (F b a)
   .exact (f2 b a).2.2.2.2.1 y c (j y c w)
  .rcases mem_append.mp q with q|q
   .exact absurd (show p∈([]:List (Addr×Obj))from q) (!1)
   .exact hp p q (by rw[z];exact a)
 have aB:∀tk,codeAny (model X.prog X.w) X.A (.compLoop (.ListComp elt [(.Name x px,iter,ifs,0)] sc pos) 0 (.ref it) (.ref D) (compEnvC sc ((x,C+1,)::G) C X.env)) (compPost (model X.prog X.w) X.A X.xe none (EP X az σ Q) (.ref D) C) {s2 with heap:=L,toks:=tk}:=λtk=>by
  refine codeAny_compLoop_tests (λn s'=>∃i ys o H',f' Y [] (o::σ) H' s'/\tn i s'.heap/\(∀b∈O,H' b=none)/\W i n ys H') ?_ m0 (0,[],none,_,I4 tk,T.keep _ _ _ aM λb a o e=>R b o e,λb a=>?_,w0)
  .rintro n s3⟨i,ys,o3,H3,I3,a5,bk,w3⟩;obtain⟨cv,cg⟩:=a4 i n ys H3 w3;rcases cg with⟨stop,qn⟩|⟨go,a8,step⟩
   .refine wpAny_mono (T.done Y rfl rfl rfl hc i [] s3 _ H3 (λ_ _=>False) I3 (a2 bk (!1)) a5 stop) (λr s4 g=>?_) λ_ _ f=>f.elim;obtain⟨hr,k⟩:=g;subst hr;obtain⟨mC,b1,_⟩:=k.loc;refine(mC,b1,λh' ar=>?_);have nC:∀b u,H3 b<*u->b≠C:=λb u e z=>by rw[z]at e;rw[show H3 C=none from k.free]at e;cases e
    have a6:uO X.prog X.w H3 h':=λb u e=>(k.hok b u e).stay (λc v aV q=>ar.extBut c v (by
     rcases aV with z|z
     .rw [z];exact nC b u e
     .exact nC c _ z) q) (λ_ q=>q) λ_ _ q=>q
    have un:Un (tf X.stack) O H2 H3 s2.heap h':=
     (λb o e n1 n2 n3=>ar.extBut b o (aN b o e) (k.base.keep b o e n1 n2 n3),λb o e n1 n2 n3=>by
       obtain⟨sl,q⟩:=k.base.slot b o e n1 n2 n3;exact(sl,ar.extBut b _ (aN b o e) q),k.base.free,λb o e n1=>by
       obtain⟨o',q⟩:=k.base.there b o e n1;exact(o',ar.extBut b _ (aN b o e) q),k.base.tups,k.base.frzs,k.base.tbls)
    exact(.ref D,H3,l.call' (s':={s4 with heap:=h'}) k.os un a6 k.bare λb a=>((f2 b a).2.2.2.1,(f2 b a).2.1,(f2 b a).2.2.2.2.1,(f2 b a).2.2.2.2.2),rfl,qn)
   .refine wpAny_mono (T.item Y rfl rfl rfl hc i [] s3 _ H3 (λ_ _=>False) I3 (a2 bk (!1)) a5 go) (λr s4 g=>?_) λ_ _ f=>f.elim;obtain⟨u,hr,h4⟩:=g;subst hr;have eg:(letOwnedTupleGo (.Name x px) (.ref it) u>>=λ_=>assign (.Name x px) (compEnvC sc ((x,C+1,)::G) C X.env) u)=assign (.Name x px) (compEnvC sc ((x,C+1,)::G) C X.env) u:=pure_bind () _;show wpAny _ _ (assign (.Name x px) (compEnvC sc ((x,C+1,)::G) C X.env) u) _ _ s4;rw[<-eg];refine d_ (wpAny_mono h4 (λ_ s5 g=>?_) λ_ _ f=>f.elim);obtain⟨y,H5,I5,r5,y5,aH,cf⟩:=g;have co:=I5.pinned (a2 cf (!1)) (T.obj _ _ aH);refine wpAny_mono (BQ (X:=Y) (i:=0) (pos:=px) ca rfl (.inr bV) (.inl (beq_self_eq_true x)) _ s5 _ H5 y u (λbl H'=>bl=some y::σ/\H'=H5) co r5 (rfl,rfl)) (λ_ s6 g=>?_) λ_ _ f=>f.elim;obtain⟨cp,H6,I6,e1,e2⟩:=g;subst e1 e2;refine wpAny_mono (ch _ s6 _ _ _ I6 (step y _ y5)) (λok s7 g=>?_) λ_ _ f=>f.elim;obtain⟨H7,I7,q7⟩:=g;have again:∀{s8:Shared}{H8:Hp}{aC:List V},f' Y ([]++bz O s5.heap) (some y::σ) H8 s8->(∃m',m'<n/\W (i+1) m' aC H8)->∃m,m<n/\∃i ys o H',f' Y [] (o::σ) H' s8/\tn i s8.heap/\(∀b∈O,H' b=none)/\W i m ys H':=λ{s8 H8 aC}I8 b6=>by
     obtain⟨m',hm,w8⟩:=b6;refine(m',hm,i+1,aC,some y,H8,I8.unpinned,T.keep _ _ _ aH λb a o e=>(I8.pin (b,o,) (mem_append_right _ (mem_append_right _ (AA a e)))).1,λb a=>?_,w8);obtain⟨o,e,d⟩:=T.obj _ _ aH b a;exact(I8.pin (b,o,) (mem_append_right _ (mem_append_right _ (AA a e)))).2.1
    cases ok with
    |false=>exact again I7 q7
    |true=>
     have q7:te (some y::σ) H7 _:=q7;refine wpAny_mono (cn _ s7 _ _ _ I7 q7) (λz s8 g=>?_) λ_ _ f=>f.elim;obtain⟨yv,H8,I8,r8,ce,q8⟩:=g;refine wpAny_mono (Dn (X:=Y) _ s8 _ H8 (.ref D) [yv] (.ref D) [z] (λ_ H9=>H9=upd H8 D (.lst (ys++[yv]))) I8 rfl (.cons r8 .nil) (D,ys,yv,rfl,rfl,ce,a8,rfl)) (λ_ s9 g=>?_) λ_ _ f=>f.elim;obtain⟨_,H9,I9,_,e9⟩:=g;subst e9;exact again I9 q8
  .show upd H2 D (.lst []) b=none;rw[a_ (ne_of_lt (F b a))];exact(f2 b a).1
 exact codeAny_compStart_list (aB _) (T.self _ _ _ _ _ (T.keep _ _ _ aM λb a o e=>R b o e) (aB _))
end
theorem lF(bs:List Bool):(List.range bs.length).any (λi=>bs.getD i false)=bs.any id:=by
 rw[Bool.eq_iff_iff,any_eq_true,any_eq_true];constructor
 .rintro⟨i,a,h⟩;have a:=mem_range.mp a;rw[m8,j1 a]at h;exact(bs[i],getElem_mem a,h)
 .rintro⟨b,c,h⟩;obtain⟨i,a,rfl⟩:=List.mem_iff_getElem.mp c;refine(i,mem_range.mpr a,?_);rw[m8,j1 a];exact h
theorem lx(F:X.calm=true):wN X (.builtin "any") (λxs H Q=>∃(a:Addr)(bs:List Bool),xs=[V.ref a]/\H a=some (.lst (bs.map V.bl))/\Q (.bl (bs.any id)) H):=by
 intro k s L H xs M Q I r h;obtain⟨a,bs,rfl,u,q⟩:=h;obtain⟨N,rfl,D⟩:=xm r;cases D;obtain⟨c,j,p,hz⟩:=I.list (lb.of u);have n:s.heap.IsList a c.toArray:=p.isList;have g:a<s⁻¹:=I.hok.lt u;have m:c.toArray.size=bs.length:=by
  have h2:=j.length;rw[j_]at h2;simp;lia
 refine call_any_walk (wpAny_pyIter_list n ?_);refine(s⁻¹,_,_,_,_,_,λi=>bs.getD i false,rfl,Walks.list (prog:=X.prog) (w:=X.w) (A:=X.A.in1) (I.ok.hd F) s⁻¹ a (ne_of_lt g) c.toArray,((_,get?_push_size _ rfl,rfl,rfl),n.at λo e=>nb _ e),?_,λh' B E=>?_)
 .intro i v s' J O l f;have t:i<bs.length:=by rw[<-m];exact(Array.getElem?_eq_some_iff.mp l).1
  obtain⟨y,G,C⟩:=j.get (i:=i) (x:=.bl bs[i]) (by rw[n',j1 t];rfl);have:v=y:=by
   have d:c.toArray[i]?<*v:=l;rw[getElem?_toArray,G]at d;exact(Option.some.inj d).symm
  subst this;cases C;have e:bs.getD i false=bs[i]:=by rw[m8,j1 t];rfl
  have f:J (bs.getD i false) s':=f;rw[e]at f;exact wpAny_truthy_bool f
 .rw [m,lF];exact(.bl (bs.any id),H,I.kept (t':=B) λb o z=>E b o (by simp;exact ne_of_lt (lt_size z)) (nb _ z),rfl,q)
noncomputable def b_(m:Nat):LN:=(List.range 8).filter λk=>m.testBit k
noncomputable def aj(led:Bool)(ks:LN):SetTable:=(if ks.length<5 then 7 else 31,ks.toArray,#[],0,led,if ks.length<5 then 0 else 1,true)
noncomputable def vf(ks:LN)(k:Nat):Nat:=(ks.filter (· < k)).length
noncomputable def q_(ks:LN)(k:Nat):LN:=ks.take (vf ks k)++k::ks.drop (vf ks k)
noncomputable def yx(t:SetTable)(ks:LN):SetTable:={t with place:=ks.toArray}
noncomputable def eD(led:Bool)(m k:Nat):Bool:=
 let ks:=b_ m
 let t:=aj led ks
 let ks':=q_ ks k
 ks.contains k||(decide (t.freeSlot (k:Int)<*(k,false,))&&decide (t.put k=(yx t ks',vf ks k,))&&(yx t ks').fits ks'.length &&
  (if (yx t ks').tooFull then decide ((yx t ks').relaid (ks'.map λ(n:Nat)=>(n:Int)).toArray (SetTable.grown ks'.length)<*(aj led ks',(List.range ks'.length).toArray,))&&coversAll (List.range ks'.length).toArray ks'.length&&(aj led ks').fits ks'.length
   else decide (yx t ks'=aj led ks'))&&decide (ks'=b_ (m ||| 2^k)))
theorem oj(h:∀j,j<8->(List.range 32).all (λm=>p (32*j+m))=true):(List.range 256).all p=true:=by
 rw[all_eq_true];intro m a;have a:=mem_range.mp a;have:=all_eq_true.mp (h (m/32) (!6)) (m%32) (mem_range.mpr (Nat.mod_lt _ (!0)))
 rwa [Nat.div_add_mod]at this
theorem rA:(List.range 256).all (λm=>(List.range 8).all λk=>eD true m k&&eD false m k)=true:=oj fun
 |0,_=>by decide +kernel
 |1,_=>by decide +kernel
 |2,_=>by decide +kernel
 |3,_=>by decide +kernel
 |4,_=>by decide +kernel
 |5,_=>by decide +kernel
 |6,_=>by decide +kernel
 |7,_=>by decide +kernel
 |n+8,h=>absurd h (!6)
noncomputable def pU(m k:Nat):Bool:=(!(b_ m).contains k||decide (m ||| 2^k=m))&&decide (m ||| 2^k<256)&&decide ((b_ m).length≤8)&&(b_ m).all (· < 8)
set_option maxRecDepth 100000 in
theorem r9:(List.range 256).all (λm=>(List.range 8).all λk=>pU m k)=true:=by decide +kernel
theorem dy(b:m<256)(c:k<8):(k∈b_ m->m ||| 2^k=m)/\m ||| 2^k<256/\(b_ m).length≤8/\∀x∈b_ m,x<8:=by
 have h:=all_eq_true.mp (all_eq_true.mp r9 m (mem_range.mpr b)) k (mem_range.mpr c);simp only[pU,and_eq_true,Bool.or_eq_true,not_eq_true',decide_eq_true_eq]at h;obtain⟨⟨⟨h1,h2⟩,e⟩,d⟩:=h;refine(λz=>h1.elim (λy=>?_) id,h2,e,λx a=>of_decide_eq_true (all_eq_true.mp d x a));rw[contains_iff_mem.mpr z]at y;cases y
theorem tE(a:Bool)(e:m<256)(f:k<8)(d:k∉b_ m):(aj a (b_ m)).freeSlot (k:Int)=some (k,false,)/\(aj a (b_ m)).put k=(yx (aj a (b_ m)) (q_ (b_ m) k),vf (b_ m) k,)/\(yx (aj a (b_ m)) (q_ (b_ m) k)).fits (q_ (b_ m) k).length=true/\q_ (b_ m) k=b_ (m ||| 2^k)/\
  (if (yx (aj a (b_ m)) (q_ (b_ m) k)).tooFull=true then(yx (aj a (b_ m)) (q_ (b_ m) k)).relaid ((q_ (b_ m) k).map λ(n:Nat)=>(n:Int)).toArray (SetTable.grown (q_ (b_ m) k).length)=some (aj a (q_ (b_ m) k),(List.range (q_ (b_ m) k).length).toArray,)/\coversAll (List.range (q_ (b_ m) k).length).toArray (q_ (b_ m) k).length=true/\(aj a (q_ (b_ m) k)).fits (q_ (b_ m) k).length=true
   else yx (aj a (b_ m)) (q_ (b_ m) k)=aj a (q_ (b_ m) k)):=by
 have h:=all_eq_true.mp (all_eq_true.mp rA m (mem_range.mpr e)) k (mem_range.mpr f);have h:eD a m k=true:=by
  rw[and_eq_true]at h;cases a
  .exact h.2
  .exact h.1
 unfold eD at h;dsimp only at h;rw[Bool.or_eq_true]at h;rcases h with h|h
 .exact absurd (contains_iff_mem.mp h) d
 .simp only[and_eq_true,decide_eq_true_eq]at h;obtain⟨⟨⟨⟨h1,h2⟩,i⟩,b⟩,g⟩:=h;refine(h1,h2,i,g,?_);split at b
  .rename_i c;rw[if_pos c];simpa[and_assoc]using b
  .rename_i c;rw[if_neg c];simpa using b
noncomputable def esOf(ks:LN)(ts:List Tok):List (Int×Value):=List.zipWith (λ(k:Nat)t=>((k:Int),Value.int (k:Int) t,)) ks ts
theorem xz(h:ts.length=ks.length):(esOf ks ts).length=ks.length:=by simp[esOf,h]
theorem gq:∀{ks:LN}{ts:List Tok},ts.length=ks.length->(esOf ks ts).map Prod.fst=ks.map λ(n:Nat)=>(n:Int)
 |[],[],_=>rfl
 |k::ks,t::ts,h=>by
  have:=gq (ks:=ks) (ts:=ts) (by simpa using h);show(k:Int)::(esOf ks ts).map Prod.fst=_;rw[this];rfl
theorem nH{ks:LN}(h:ts.length=ks.length):esOf (ks.take p++k::ks.drop p) (ts.take p++t::ts.drop p)=(esOf ks ts).take p++((k:Int),Value.int (k:Int) t,)::(esOf ks ts).drop p:=by
 unfold esOf;rw[List.zipWith_append (by simp[h]),List.zipWith_cons_cons,List.take_zipWith,List.drop_zipWith]
theorem uk(l:List a)(p:Nat)(x:a):SetTable.insertAt l.toArray p x=(l.take p++x::l.drop p).toArray:=by
 unfold SetTable.insertAt;simp only[List.extract_toArray,List.push_toArray,List.append_toArray];congr 1;simp[take_of_length_le]
theorem bY{a:Type}(l:List a):∀n,(List.range n).filterMap (λi=>l[i]?)=l.take n
 |0=>rfl
 |n+1=>by
  rw[range_succ,List.filterMap_append,bY l n,take_add_one];cases q:l[n]?<;>simp[q]
theorem mt{a:Type}(l:List a):(List.range l.length).toArray.filterMap (λi=>l.toArray[i]?)=l.toArray:=by
 rw[List.filterMap_toArray];congr 1;have h:=bY l l.length;rw[take_length]at h;simpa using h
noncomputable def am(w:World):Bool:=!w.params.followText "set-order"
noncomputable def aO(w:World)(h:Heap)(a:Addr)(m:Nat):Prop:=∃(o:Obj)(ts:List Tok)(ep:Nat),h.get? a=some o/\o.ExactSet/\ts.length=(b_ m).length/\o.data=.set (esOf (b_ m) ts).toArray ep (aj (am w) (b_ m))
noncomputable def C7(led:Bool)(m i:Nat):Bool:=
 let ks:=b_ m
 !(decide (i≤ks.length))||decide (SetTable.below ks.toArray (if i=0 then 0 else ks.getD (i-1) 0+1)=i)&&(aj led ks).fits ks.length
theorem pe:(List.range 256).all (λm=>(List.range 9).all λi=>C7 true m i&&C7 false m i)=true:=oj fun
 |0,_=>by decide +kernel
 |1,_=>by decide +kernel
 |2,_=>by decide +kernel
 |3,_=>by decide +kernel
 |4,_=>by decide +kernel
 |5,_=>by decide +kernel
 |6,_=>by decide +kernel
 |7,_=>by decide +kernel
 |n+8,h=>absurd h (!6)
theorem BD(a:Bool)(b:m<256)(c:i≤(b_ m).length):SetTable.below (b_ m).toArray (if i=0 then 0 else(b_ m).getD (i-1) 0+1)=i/\(aj a (b_ m)).fits (b_ m).length=true:=by
 have d:=(dy (k:=0) b (!0)).2.2.1;have h:=all_eq_true.mp (all_eq_true.mp pe m (mem_range.mpr b)) i (mem_range.mpr (!6));have h:C7 a m i=true:=by
  rw[and_eq_true]at h;cases a
  .exact h.2
  .exact h.1
 unfold C7 at h;dsimp only at h;rw[decide_eq_true c]at h;simpa using h
section
variable{P:Program}{w:World}{A:Around}{E:Value->Shared->Prop}{s:Shared}{a:Addr}{m k:Nat}
theorem Fa(h:k<8):(intKind P w).hash (k:Int)=(k:Int):=by
 rcases k with _|_|_|_|_|_|_|_|k;any_goals rfl
 lia
theorem zE:∀{ks:LN}{ts:List Tok}{e:Int×Value},e∈esOf ks ts->∃k∈ks,∃t,e=((k:Int),Value.int (k:Int) t,)
 |[],_,e,h=>by simp[esOf]at h
 |_::_,[],e,h=>by simp[esOf]at h
 |k::ks,t::ts,e,h=>by
  rcases mem_cons.mp (show e∈((k:Int),Value.int (k:Int) t,)::esOf ks ts from h)with rfl|h
  .exact (k,!1,t,rfl)
  .obtain ⟨k',b,t',e'⟩:=zE h;exact(k',by simp[b],t',e')
theorem nG(h:∀x∈ks,x<8):ElemsOf (intKind P w) (esOf ks ts):=λe c=>by
 obtain⟨k,b,t,rfl⟩:=zE c;exact(((k:Int),intKind_is _ _ _ _,(Fa (h k b)).symm),rfl)
theorem jJ:∀{ks:LN}{ts:List Tok},ts.length=ks.length->((esOf ks ts).findIdx? (λe=>(intKind P w).is (k:Int) e.2)).isSome=decide (k∈ks)
 |[],_,_=>by simp[esOf]
 |k'::ks,t::ts,h=>by
  have b:=jJ (ks:=ks) (ts:=ts) (by simpa using h);have e:(intKind P w).is (k:Int) (Value.int (k':Int) t)=decide (k'=k):=by
   show Value.isInt (k:Int) (Value.int (k':Int) t)=_;by_cases c:k'=k
   .subst c;simp[Value.isInt]
   .rw [decide_eq_false c];simp[Value.isInt,show ¬ (k':Int)=(k:Int)from λz=>c (Int.ofNat.inj z)]
  rw[show esOf (k'::ks) (t::ts)=((k':Int),Value.int (k':Int) t,)::esOf ks ts from rfl,List.findIdx?_cons];dsimp only;rw[e];by_cases c:k'=k
  .subst c;simp
  .rw [if_neg (by simpa using c),Option.isSome_map,b];simp[show ¬ k=k' from λz=>c z.symm]
theorem uv(R:m<256)(L:k<8)(hS:aO w s.heap a m)(h:∀b h',SameBut a s.heap h'->aO w h' a (m ||| 2^k)->Q b {s with heap:=h'}):wpAny (model P w) A (setAddHashed a (.int (k:Int) t) ((intKind P w).hash (k:Int))) Q E s:=by
 obtain⟨o,ts,ep,C,O,D,G⟩:=hS;obtain⟨s1,s2,s3,s4⟩:=dy R L;have hz:(esOf (b_ m) ts).toArray.size=(b_ m).length:=by rw[size_toArray,xz D]
 have hf:(aj (am w) (b_ m)).fits (esOf (b_ m) ts).toArray.size=true:=by rw[hz];exact(BD _ R (zero_le _)).2
 have F:ElemsOf (intKind P w) (esOf (b_ m) ts).toArray.toList:=nG s4;have hs:(esOf (b_ m) ts).toArray.size<scanBound:=by rw[hz];exact lt_of_le_of_lt s3 (!0)
 unfold setAddHashed setAddHashedIn;refine wpAny_holding (d_ (wpAny_setState_of C G hf ?_));dsimp only;rw[byScan_of (knd:=intKind P w) (x:=.int (k:Int) t) rfl hs F,if_pos rfl];unfold setAddByScan;refine d_ (d_ (wpAny_rule (d_ (wpAny_setScan_of (knd:=intKind P w) (intKind_is _ _ _ _) C G hf F ?_))));have g:=jJ (P:=P) (w:=w) (k:=k) D;by_cases i:k∈b_ m
 .rw [decide_eq_true i]at g;obtain⟨j,S⟩:=Option.isSome_iff_exists.mp g;rw[show List.findIdx? _ (esOf (b_ m) ts).toArray.toList<*j from S];dsimp only;refine j2 (j2 ?_);have:=h false s.heap (SameBut.refl a s.heap) (by rw[s1 i];exact(o,ts,ep,C,O,D,G));exact this
 .rw [decide_eq_false i]at g;have S:List.findIdx? (λe=>(intKind P w).is (k:Int) e.2) (esOf (b_ m) ts)=none:=by
   cases q:List.findIdx? (λe=>(intKind P w).is (k:Int) e.2) (esOf (b_ m) ts)with
   |none=>rfl
   |some j=>rw[q]at g;cases g
  rw[show List.findIdx? _ (esOf (b_ m) ts).toArray.toList=none from S];dsimp only;obtain⟨c1,c2,W,c4,I⟩:=tE (am w) R L i;have f:(ts.take (vf (b_ m) k)++t::ts.drop (vf (b_ m) k)).length=(q_ (b_ m) k).length:=by simp[q_,D]
  have hL:layNew (aj (am w) (b_ m)) (esOf (b_ m) ts).toArray ((intKind P w).hash (k:Int)) (.int (k:Int) t)=((esOf (q_ (b_ m) k) (ts.take (vf (b_ m) k)++t::ts.drop (vf (b_ m) k))).toArray,yx (aj (am w) (b_ m)) (q_ (b_ m) k),false,false,):=by
   unfold layNew;rw[Fa L,c1];dsimp only;rw[c2];dsimp only;rw[uk,<-nH D];have M:(esOf ((b_ m).take (vf (b_ m) k)++k::(b_ m).drop (vf (b_ m) k)) (ts.take (vf (b_ m) k)++t::ts.drop (vf (b_ m) k))).toArray.size=(q_ (b_ m) k).length:=by rw[size_toArray];exact xz f
   rw[M,SetTable.orStandIn,if_pos W,W];rfl
  rw[hL];dsimp only;have B:(yx (aj (am w) (b_ m)) (q_ (b_ m) k)).plain=true:=rfl;have l:=gq f;have d:=xz f;generalize hT:yx (aj (am w) (b_ m)) (q_ (b_ m) k)=T at B c2 W I⊢;have p:∀(h':Heap)(v:Obj)(r:Nat)(T':SetTable),SameBut a s.heap h'->h'.get? a<*v->v.ExactSet->v.data=.set (esOf (q_ (b_ m) k) (ts.take (vf (b_ m) k)++t::ts.drop (vf (b_ m) k))).toArray r T'->T'=aj (am w) (q_ (b_ m) k)->Q true {s with heap:=h'}:=by
   rintro h' v r T' H U g3 g4 rfl;rw[c4]at g4 f;exact h true h' H (v,_,r,U,g3,f,g4)
  generalize esOf (q_ (b_ m) k) (ts.take (vf (b_ m) k)++t::ts.drop (vf (b_ m) k))=c at l d p⊢;have y:c.toArray.size≤sizeLine:=by
   rw[size_toArray,d,c4,sizeLine_eq];have:=(dy s2 L).2.2.1;lia
  have u:∀(h1:Heap)(J:Obj)(M:Array (Int×Value))(n1:Nat)(Y N:SetTable),h1.get? a<*J->J.data=.set M n1 Y->(h1.update a (Obj.putSet c.toArray N)).get? a<*{J with data:=.set c.toArray (n1+1) N}:=by
   intro h1 J M n1 Y N z1 X;have z:=get?_update_self (Obj.putSet c.toArray N) z1 (by rw[putSet_of _ _ X];rfl);rw[putSet_of _ _ X]at z;exact z
  refine d_ (j2 ?_);rw[if_pos B,hashByValue_scannable 8 (x:=.int (k:Int) t) rfl];refine d_ (j2 ?_);rw[show plainKind (.int (k:Int) t)=true from rfl];simp only[if_true,Bool.not_false,Bool.true_and];refine d_ (wpAny_storeSet_of C G ?_ y);have H:=u _ _ _ _ _ T C G;have Z:=SameBut.update s.heap a (Obj.putSet c.toArray T);by_cases ct:T.tooFull=true
  .rw [if_pos ct]at I⊢;obtain⟨d1,d2,d3⟩:=I;have hR:relayAll T c.toArray (SetTable.grown c.toArray.size)=(c.toArray,aj (am w) (q_ (b_ m) k),false,):=by
    unfold relayAll;rw[show c.toArray.map (·.1)=((q_ (b_ m) k).map λ(n:Nat)=>(n:Int)).toArray by rw[List.map_toArray,<-l],size_toArray,d,d1];dsimp only;rw[<-d,mt,size_toArray,d,d2,d3];rfl
   rw[hR];refine d_ (j2 (d_ (wpAny_storeSet_of H rfl ?_ y)));have U:=u _ _ _ _ _ (aj (am w) (q_ (b_ m) k)) H rfl;exact j2 (j2 (p _ _ _ _ (Z.trans (SameBut.update _ a _)) U O rfl rfl))
  .rw [if_neg ct]at I⊢;exact j2 (j2 (p _ _ _ _ Z H O rfl I))
theorem C8{ns:LN}(h:i<ns.length):ns.getD i 0=ns[i]:=by rw[m8,j1 h];rfl
noncomputable def xO(ns:LN):Nat:=ns.foldl (λm k=>m ||| 2^k) 0
theorem kM(ns:LN)(k:Nat):xO (ns++[k])=xO ns ||| 2^k:=by simp[xO,List.foldl_append]
theorem C9(h:∀x∈ns,x<8):xO ns<256:=by
 have:∀(ns:LN)(m:Nat),(∀x∈ns,x<8)->m<256->ns.foldl (λm k=>m ||| 2^k) m<256:=by
  intro ns;induction ns with
  |nil=>exact λm _ b=>b
  |cons k r d=>exact λm c b=>d _ (λx e=>c x (by simp[e])) (dy b (c k (!1))).2.1
 exact this ns 0 h (!0)
theorem aO.keep(x:aO w h a m)(e:∀o,h.get? a<*o->h'.get? a<*o):aO w h' a m:=by
 obtain⟨o,ts,c,b,r⟩:=x;exact(o,ts,c,e o b,r)
theorem sN{St:Nat->Heap->Prop}(W:Walks P w A.in1 I X wr n Y St)(l:S∉X)(N:ns.length=n)(D:∀x∈ns,x<8)(M:∀i v,Y i v->∃t,v=.int ((ns.getD i 0:Nat):Int) t):∀(j i:Nat)(s:Shared),n-i=j->i≤n->St i s.heap->aO w s.heap S (xO (ns.take i))->
   (∀(h':Heap)(f:Nat),(∀b o,b∉S::wr->s.heap.get? b<*o->h'.get? b<*o)->aO w h' S (xO ns)->R (.ok (.ret .none)) {s with heap:=h',toks:=f})->codeAny (model P w) A (.builtin "set.update.loop" ([.ref S,.ref I],[])) R s:=by
 have hw:S∉wr:=λz=>l (W.sub _ z);intro j;induction j with
 |zero=>
  intro i s Q T st x q;cases(show i=n by lia);refine codeAny_builtin PyProof.Rows.F.entry_set_update_loop ?_;rw[Around.under_plainId PyProof.Rows.F.plain_set_update_loop _];show wpAny _ A.in1 (pyNext (.ref I)>>=_) _ _ s;refine d_ (W.done s _ _ st λh' f g=>?_);rw[<-N,take_length]at x;exact j2 (q h' f (λb o d e=>g b o (λz=>d (by simp[z])) e) (x.keep λo e=>g S o hw e))
 |succ j J=>
  intro i s Q T st x q;have h:i<n:=by lia
  refine codeAny_builtin PyProof.Rows.F.entry_set_update_loop ?_;rw[Around.under_plainId PyProof.Rows.F.plain_set_update_loop _];show wpAny _ A.in1 (pyNext (.ref I)>>=_) _ _ s;refine d_ (W.item i s _ _ h st λv h' f pv r g=>?_);obtain⟨t,rfl⟩:=M i v pv;have c:i<ns.length:=by lia
  have O:ns.getD i 0<8:=by rw[C8 c];exact D _ (getElem_mem c)
  have H:=x.keep (h':=h') λo e=>g S o hw e;show wpAny _ A.in1 (holding [Value.int ((ns.getD i 0:Nat):Int) t] (setAdd S (.int ((ns.getD i 0:Nat):Int) t))>>=_) _ _ _;refine d_ (wpAny_holding ?_);unfold setAdd;refine wpAny_holding (d_ ((intKind P w).pyHash (k:=((ns.getD i 0:Nat):Int)) (intKind_is _ _ _ _) ?_));refine uv (C9 λy L=>D y (List.mem_of_mem_take L)) O (s:={s with heap:=h',toks:=f+1}) H λb h2 C B=>?_;rw[<-kM,C8 c,List.take_append_getElem c]at B;refine j2 (plainId_quiet PyProof.Rows.F.plain_set_update_loop _,J (i+1) _ (!6) h (W.frame _ _ _ r λb d o e=>?_) B λU p u G=>?_)
  .exact (C.2 b (λz=>l (z▸d))).trans e
  .refine q U p (λb o d e=>u b o d ?_) G;exact(C.2 b (λz=>d (by simp[z]))).trans (g b o (λz=>d (by simp[z])) e)
theorem ue(u:Value)(q:Q1 (.ref s⁻¹) {s with heap:=s.heap.push {cls:=.type "set",dict:=none,data:=.set #[] 0 (.fresh 0 0 (am w))} }):codeAny (model P w) A (.call (.builtin "set.__new__") ([.type "set",u],[])) (wants Q1 E) s:=by
 refine codeAny_of_tree (show wpAny _ A.in1 (do checkBuiltinCall "set.__new__" ([.type "set",u],[]);again (.builtin "set.__new__" ([.type "set",u],[]))) _ _ s from ?_);refine d_ (wpAny_of_eq (PySem.F.newCall_set_1 u) (j2 (plainId_quiet PySem.F.plain_set_new _,codeAny_builtin PySem.F.entry_set_new ?_)));rw[Around.under_plainId PySem.F.plain_set_new _];unfold Builtin.«set.__new__» Builtin.Frozenset.newClass;have z:=sub_set_self;obtain⟨hp,g,d,b,os⟩:=s;dsimp only
 wp_walk
 refine wpAny_askSetting (j2 ?_);dsimp only;simp only[newObj];exact d_ (wpAny_alloc (j2 (j2 q)))
theorem pD(b:h.get? a<*{cls:=.type "set",dict:=none,data:=.set #[] 0 (.fresh 0 0 (am w))}):aO w h a 0:=(_,[],0,b,(rfl,rfl,rfl),rfl,rfl)
theorem sX{d:List Value}(hh:A.handled=none)(B:s.heap.IsList l d.toArray)(Z:ns.length=d.length)(h8:∀x∈ns,x<8)(Y:∀(i:Nat)(v:Value),d[i]?<*v->∃t,v=.int ((ns.getD i 0:Nat):Int) t)(q:∀(h':Heap)(g:Nat),aO w h' s⁻¹ (xO ns)->(∀b o,s.heap.get? b<*o->h'.get? b<*o)->Q (.ref s⁻¹) {s with heap:=h',toks:=g}):wpAny (model P w) A (call (.type "set") [.ref l]) Q E s:=by
 obtain⟨c,tl,W⟩:=called_set.mro;have H:=called_set.made;have sub:=called_set.sub;refine wpAny_call (codeAny_of_tree (show wpAny _ _ (callAny (.type "set") _) _ _ _ from ?_));refine j2 (Code.quiet_builtin _ (!3),codeAny_builtin PySem.F.entry_type_call ?_);rw[Around.under_plain (weight_type_call_type "set" [.ref l] []) rfl];have k1:=called_set.notType;have k2:=called_set.canCreate;have k3:=PySem.F.typeCall_set_1 (.ref l);repeat (any_goals (first|assumption|wp_step))
 refine codeAny_mono (ue (.ref l) (E:=E) (Q1:=λG D=>G=.ref s⁻¹/\D={s with heap:=s.heap.push {cls:=.type "set",dict:=none,data:=.set #[] 0 (.fresh 0 0 (am w))} }) (rfl,rfl)) λr D u=>?_;cases r with
 |error e=>exact u
 |ok fl=>
  cases fl with
  |ret G=>
   obtain⟨rfl,rfl⟩:=u;have L:(s.heap.push {cls:=.type "set",dict:=none,data:=.set #[] 0 (.fresh 0 0 (am w))}).get? s⁻¹<*{cls:=.type "set",dict:=none,data:=.set #[] 0 (.fresh 0 0 (am w))}:=get?_push_size _ rfl;have M:Shared.TypeIs {s with heap:=s.heap.push {cls:=.type "set",dict:=none,data:=.set #[] 0 (.fresh 0 0 (am w))} } (.ref s⁻¹) "set":=(_,L,rfl);have k4:=called_set.init.lookup;have k5:=called_set.init.bind (.ref s⁻¹);repeat (any_goals (first|assumption|wp_step))
   refine codeAny_mono (codeAny_call_builtin (R:=wants (λr s2=>r=.none/\∃h' g,s2={s with heap:=h',toks:=g}/\aO w h' s⁻¹ (xO ns)/\∀b o,s.heap.get? b<*o->h'.get? b<*o) E) called_set.init.plain PySem.F.entry_set_init (check_set_init_1 M ?_)) λN s2 f=>?_
   .have hlS:l<s⁻¹:=let⟨_,z,_⟩:=B;lt_size z;have h:=B.push {cls:=.type "set",dict:=none,data:=.set #[] 0 (.fresh 0 0 (am w))};obtain⟨O,y,n,T,j⟩:=B;obtain⟨oc,S,oD,os⟩:=O;simp only at n j;subst n;subst j;have I:(s.heap.push {cls:=.type "set",dict:=none,data:=.set #[] 0 (.fresh 0 0 (am w))}).get? l<*{cls:=.type "list",dict:=S,data:=.seq d.toArray T,slots:=os}:=nb _ y;have k6:=PySem.F.sub_list_set;have k7:=PySem.F.sub_list_frozenset;have k8:(Value.type "list"==Value.type "dict")=false:=by decide
    unfold Builtin.«set.__init__» noKeywords Builtin.Frozenset.updateFrom;generalize C:pyIter=PI
    wp_walk
    subst C;refine wpAny_pyIter_list h (d_ (wpAny_runValue ?_));have X:A.in1.in1.in1.handled=none:=by simp[hh]
    have n1:l≠(s.heap.push {cls:=.type "set",dict:=none,data:=.set #[] 0 (.fresh 0 0 (am w))}).objs.size:=by rw[size_push];exact ne_of_lt (lt_succ_of_lt hlS)
    have U:s⁻¹∉[(s.heap.push {cls:=.type "set",dict:=none,data:=.set #[] 0 (.fresh 0 0 (am w))}).objs.size,l]:=by
     rw[size_push];simp only[mem_cons,not_mem_nil,or_false,not_or];exact(ne_of_lt (lt_succ_self _),ne_of_gt hlS)
    refine sN (Walks.list X _ l n1 d.toArray) U (by rw[Z,size_toArray]) h8 (λi v z=>Y i v (by simpa using z)) _ 0 _ rfl (zero_le _) ((_,get?_push_size _ rfl,rfl,rfl),h.push _) (pD (nb _ L)) λh' g p x=>?_;refine j2 (j2 (rfl,h',g,rfl,x,λb o e=>p b o ?_ (nb _ (nb _ e))));have J:=lt_size e;simp only[mem_cons,not_mem_nil,or_false,not_or];refine(ne_of_lt J,?_);rw[size_push];exact ne_of_lt (lt_succ_of_lt J)
   .cases N with
    |error e=>exact f
    |ok f2=>
     cases f2 with
     |ret r=>
      obtain⟨rfl,h',g,rfl,x,p⟩:=f;repeat (any_goals (first|assumption|wp_step))
      exact q _ _ x p
     |_=>exact f.elim
  |_=>exact u.elim
end
theorem b_m:Slot "set_iterator" "__next__" "set_iterator.__next__":=.of (owner:="set_iterator") (n:="__next__") (by rw[typeLookup_type,builtinLookup_eq_fast];kernel_rfl) (!3) (!3) (!3) (by first|exact .inl (!3)|exact .inr (!3)) (by rw[isSubtype_type];kernel_rfl)
theorem Fb:Slot "set_iterator" "__iter__" "set_iterator.__iter__":=.of (owner:="set_iterator") (n:="__iter__") (by rw[typeLookup_type,builtinLookup_eq_fast];kernel_rfl) (!3) (!3) (!3) (by first|exact .inl (!3)|exact .inr (!3)) (by rw[isSubtype_type];kernel_rfl)
theorem Fc:entryFor table "set_iterator.__next__"<*Builtin.«set_iterator.__next__»:=entryFor_of_fast (by kernel_rfl)
theorem Fv:entryFor table "set_iterator.__iter__"<*Builtin.«dict_keyiterator.__iter__»:=entryFor_alias (id':="dict_keyiterator.__iter__") (by kernel_rfl) rfl (!3) (by kernel_rfl)
theorem dW:entryFor table "set.__iter__"<*Builtin.«frozenset.__iter__»:=entryFor_alias (id':="frozenset.__iter__") (by kernel_rfl) rfl (!3) (by kernel_rfl)
theorem Fd(a:Value):argsOk "set_iterator.__next__" ([a],[]):=by unfold argsOk;kernel_rfl
theorem eA(a:Value):argsOk "set_iterator.__iter__" ([a],[]):=by unfold argsOk;kernel_rfl
theorem nI{a:Type}:∀{l:List a}{i:Nat}(h:i<l.length),(l[i]::l.eraseIdx i).Perm l
 |x::l,0,_=>.refl _
 |x::l,i+1,h=>by
  have h':i<l.length:=by simpa using h
  show(l[i]::x::l.eraseIdx i).Perm (x::l);exact(Perm.swap _ _ _).trans ((nI h').cons x)
theorem mv{b:Type}(next:Nat->Nat):∀(n k:Nat)(l:List b)(out:Array b),l.length=n->(pickOrder.go next n k l out).toList.Perm (out.toList++l)
 |0,k,l,out,h=>by
  cases length_eq_zero_iff.mp h;simp[pickOrder.go]
 |n+1,k,l,out,h=>by
  have a:next k%l.length<l.length:=Nat.mod_lt _ (!6);unfold pickOrder.go;rw[j1 a];dsimp only;refine(mv next n (k+1) _ _ (by rw[List.length_eraseIdx_of_lt a];lia)).trans ?_;rw[Array.toList_push,append_assoc];refine Perm.append_left _ ?_;exact nI a
theorem km(next:Nat->Nat)(l:List a):(pickOrder next l.toArray).toList.Perm l:=by
 unfold pickOrder;have:=mv next l.toArray.size 0 l.toArray.toList #[] rfl;simpa using this
noncomputable def bu(w:World)(a:Addr)(m:Nat)(ts:List Tok)(ep:Nat):List Value:=
 if w.params.followText "set-order"=true then(pickOrder (w.params.setOrder a ep) (esOf (b_ m) ts).toArray).toList.map (·.2)else(esOf (b_ m) ts).map (·.2)
theorem e_f:(bu w a m ts b).Perm ((esOf (b_ m) ts).map (·.2)):=by
 unfold bu;split
 .exact (km _ _).map _
 .exact .refl _
noncomputable def sSlot(w:World)(m i:Nat):Nat:=if w.params.followText "set-order"=true then 0 else if i=0 then 0 else(b_ m).getD (i-1) 0+1
section
variable{P:Program}{w:World}{A:Around}{E:Value->Shared->Prop}{s:Shared}{a I:Addr}{m i ep:Nat}{oS:Obj}{ts:List Tok}
theorem fh(o:m<256)(h:ts.length=(b_ m).length)(n:s.heap.get? a<*oS)(q:oS.data=.set (esOf (b_ m) ts).toArray ep (aj (am w) (b_ m)))(r:i≤(b_ m).length)(h1:∀v,(bu w a m ts ep)[i]?<*v->Q (some (v,sSlot w m (i+1),)) s)(h2:i=(b_ m).length->Q none s):wpAny (model P w) A (setNext a (sSlot w m i) i ep) Q E s:=by
 have hz:(esOf (b_ m) ts).toArray.size=(b_ m).length:=by rw[size_toArray,xz h]
 have p:(aj (am w) (b_ m)).fits (esOf (b_ m) ts).toArray.size=true:=by rw[hz];exact(BD _ o (zero_le _)).2
 have j:(bu w a m ts ep).length=(b_ m).length:=by rw[e_f.length_eq,j_,xz h]
 unfold setNext;refine d_ (wpAny_setState_of n q p ?_);dsimp only;unfold setsByText;refine d_ (d_ (wpAny_askSetting (j2 ?_)));dsimp only;by_cases c:w.params.followText "set-order"=true
 .rw [show(model P w).w.params.followText "set-order"=true from c,if_pos rfl];rw[if_neg (!1)];have l:sSlot w m i=0:=by unfold sSlot;rw[if_pos c]
  have k:sSlot w m (i+1)=0:=by unfold sSlot;rw[if_pos c]
  rw[l];unfold setWalk;refine d_ (d_ (wpAny_setState_of n q p ?_));dsimp only;unfold setsByText;refine d_ (d_ (wpAny_askSetting (j2 ?_)));dsimp only;rw[show(model P w).w.params.followText "set-order"=true from c,if_pos rfl];refine d_ (wpAny_askSetting (j2 (j2 ?_)));have f:bu w a m ts ep=(pickOrder (w.params.setOrder a ep) (esOf (b_ m) ts).toArray).toList.map (·.2):=if_pos c;rw[k,f]at h1;rw[f,j_]at j;by_cases d:i<(b_ m).length
  .have b:i<(pickOrder (w.params.setOrder a ep) (esOf (b_ m) ts).toArray).toList.length:=by lia
   have g:=h1 _ (by rw[n',j1 b];rfl);show Q (((pickOrder (w.params.setOrder a ep) (esOf (b_ m) ts).toArray)[i]?).map _) s;rw[<-getElem?_toList,j1 b];exact g
  .show Q (((pickOrder (w.params.setOrder a ep) (esOf (b_ m) ts).toArray)[i]?).map _) s;rw[<-getElem?_toList,getElem?_eq_none (!6)];exact h2 (!6)
 .have cf:w.params.followText "set-order"=false:=by simpa using c
  rw[show(model P w).w.params.followText "set-order"=false from cf];rw[if_neg Bool.false_ne_true];refine wpAny_ite_split (λz=>absurd z λy=>Bool.false_ne_true y) λ_=>?_;have e:am w=true:=by unfold am;rw[cf];rfl
  refine d_ (show wpAny _ _ (if (!(am w)&&!(esOf (b_ m) ts).toArray.isEmpty)=true then _ else _) _ _ _ from ?_);rw[e];refine wpAny_ite_split (λz=>absurd z λy=>Bool.false_ne_true y) λ_=>j2 ?_;have l:sSlot w m i=if i=0 then 0 else(b_ m).getD (i-1) 0+1:=by unfold sSlot;rw[if_neg c]
  have k:sSlot w m (i+1)=(b_ m).getD i 0+1:=by unfold sSlot;rw[if_neg c,if_neg (!6)];rfl
  have t:SetTable.below (aj true (b_ m)).place (sSlot w m i)=i:=by rw[l];exact(BD true o r).1
  have f:bu w a m ts ep=(esOf (b_ m) ts).map (·.2):=if_neg c;rw[k,f]at h1;refine j2 ?_;rw[t];by_cases d:i<(b_ m).length
  .have b:i<(esOf (b_ m) ts).length:=by rw[xz h];exact d
   have g:=h1 _ (by rw[n',j1 b];rfl);rw[show(esOf (b_ m) ts).toArray[i]?<*(esOf (b_ m) ts)[i] by simp[b],show(aj true (b_ m)).place[i]?<*(b_ m)[i] by simp[aj,d]];rw[C8 d]at g;exact g
  .rw [show(esOf (b_ m) ts).toArray[i]?=none by simp[xz h];lia];exact h2 (!6)
noncomputable def DY(w:World)(h:Heap)(I a:Addr)(m i ep:Nat):Prop:=∃o,h.get? I=some o/\o.cls=.type "set_iterator"/\o.data=.fields #[rawInt (sSlot w m i),rawInt i,.ref a,rawInt (b_ m).length,rawInt ep]
theorem DY.type(x:DY w s.heap I a m i ep):s.TypeIs (.ref I) "set_iterator":=let⟨o,b,c,_⟩:=x;(o,b,c)
theorem rF(H:A.handled=none)(p:m<256)(j:ts.length=(b_ m).length)(t:oS.data=.set (esOf (b_ m) ts).toArray ep (aj (am w) (b_ m)))(u:a≠I):Walks P w A I [I,a] [I] (b_ m).length (λi v=>(bu w a m ts ep)[i]?<*v) (λi h=>DY w h I a m i ep/\h.get? a<*oS) where
 sub:=λb l=>by simp at l;simp[l]
 frame:=λi h h' st k=>by
  obtain⟨⟨o,f,r⟩,g⟩:=st;exact((o,k I (!1) o f,r),k a (!1) _ g)
 item:=λi s Q E D st q=>by
  obtain⟨x,g⟩:=st;have d:=x.type;obtain⟨o,f,F,c⟩:=x;have y:(aj (am w) (b_ m)).fits (esOf (b_ m) ts).toArray.size=true:=by rw[size_toArray,xz j];exact(BD _ p (zero_le _)).2
  unfold pyNext;refine d_ (wpAny_attempt (wpAny_callSpecial?_slot (name:=Str.ofString "__next__") d b_m (wpAny_call_entry b_m d Fc ?_ (Fd _))));refine d_ (j2 (d_ (wpAny_fieldsOf f c ?_)));show wpAny _ _ (setEntries a>>=_) _ _ s;unfold setEntries;refine d_ (d_ (wpAny_setState_of g t y (j2 ?_)));rw[size_toArray,xz j];refine wpAny_ite_split (λz=>absurd z (!1)) λ_=>?_;refine d_ (fh (i:=i) p j g t (le_of_lt D) (λv n=>?_) λz=>absurd z (ne_of_lt D));show wpAny _ _ (setField (.ref I) 0 (rawInt (sSlot w m (i+1)))>>=_) _ _ s;have G:=get?_update_self (mapFields (·.setIfInBounds 0 (rawInt (sSlot w m (i+1))))) f (Obj.isFreed_of_fields (data_mapFields c _));have d1:=data_mapFields c (·.setIfInBounds 0 (rawInt (sSlot w m (i+1))));refine d_ (wpAny_setField f c (!1) (d_ (wpAny_setField G d1 (!1) ?_)));have J:=get?_update_self (mapFields (·.setIfInBounds 1 (rawInt ((i:Int)+1)))) G (Obj.isFreed_of_fields (data_mapFields d1 _));have d2:=data_mapFields d1 (·.setIfInBounds 1 (rawInt ((i:Int)+1)));have B:=(SameBut.update s.heap I (mapFields (·.setIfInBounds 0 (rawInt (sSlot w m (i+1)))))).trans (SameBut.update _ I (mapFields (·.setIfInBounds 1 (rawInt ((i:Int)+1)))));refine j2 (_,rfl,j2 (q v _ s.toks n ((_,J,?_,?_),(B.2 a u).trans g) λb C l e=>(B.2 b (λz=>l (by simp[z]))).trans e))
  .rw [Obj.cls_mapFields,Obj.cls_mapFields];exact F
  .rw [d2];simp[rawInt]
 done:=λs Q E st q=>by
  obtain⟨x,g⟩:=st;have d:=x.type;obtain⟨o,f,F,c⟩:=x;have y:(aj (am w) (b_ m)).fits (esOf (b_ m) ts).toArray.size=true:=by rw[size_toArray,xz j];exact(BD _ p (zero_le _)).2
  unfold pyNext;refine d_ (wpAny_attempt (wpAny_callSpecial?_slot (name:=Str.ofString "__next__") d b_m (wpAny_call_entry b_m d Fc ?_ (Fd _))));refine d_ (j2 (d_ (wpAny_fieldsOf f c ?_)));show wpAny _ _ (setEntries a>>=_) _ _ s;unfold setEntries;refine d_ (d_ (wpAny_setState_of g t y (j2 ?_)));rw[size_toArray,xz j];refine wpAny_ite_split (λz=>absurd z (!1)) λ_=>?_;refine d_ (fh (i:=(b_ m).length) p j g t (le_refl _) (λv n=>?_) λ_=>?_)
  .rw [getElem?_eq_none (by rw[e_f.length_eq,j_,xz j];exact le_refl _)]at n;cases n
  .show wpAny _ _ (setField (.ref I) 2 .none>>=_) _ _ s;refine d_ (wpAny_setField f c (!1) (d_ ?_));simp only[newExc,newTuple];refine d_ (wpAny_newObj_type ?_ (by size_fits));refine d_ (m:=firstArgMember _ _) (wpAny_of_eq (a:=Value.none) (by first|rfl|(simp only[firstArgMember];rfl)) (wpAny_newObj_type ?_ (by size_fits)));simp only[raiseNew];refine d_ (wpAny_handled ?_);rw[show A.in1.handled=none from H];refine d_ (j2 (wpAny_throw ?_));refine d_ (wpAny_isInstance (T:="StopIteration") (b:=true) (_,get?_push_size _ rfl,rfl) isSubtype_stop (j2 (q _ s.toks λb C l e=>?_)));exact((SameBut.update s.heap I (mapFields (·.setIfInBounds 2 .none))).extBut.push _).push _ b C (λz=>l (by simp[z])) e
 self:=λi s Q E st q=>by
  have d:=st.1.type;refine wpAny_pyIter_slot d Fb (wpAny_call_entry Fb d Fv (show wpAny _ _ (ret (.ref I)) _ _ s from ?_) (eA _));exact j2 (_,rfl,"set_iterator",_,d,b_m.lookup,q)
theorem sO(j:m<256)(f:ts.length=(b_ m).length)(b:s.heap.get? a<*oS)(h:oS.ExactSet)(d:oS.data=.set (esOf (b_ m) ts).toArray ep (aj (am w) (b_ m)))(q:Q (.ref s⁻¹) {s with heap:=s.heap.push {cls:=.type "set_iterator",data:=.fields #[rawInt (sSlot w m 0),rawInt (0:Nat),.ref a,rawInt (b_ m).length,rawInt ep]} }):wpAny (model P w) A (pyIter (.ref a)) Q E s:=by
 have g:s.TypeIs (.ref a) "set":=(oS,b,h.1);have c:(aj (am w) (b_ m)).fits (esOf (b_ m) ts).toArray.size=true:=by rw[size_toArray,xz f];exact(BD _ j (zero_le _)).2
 refine wpAny_pyIter_slot g PySem.F.slot_set_iter (wpAny_call_entry PySem.F.slot_set_iter g dW ?_ (PySem.F.args_set_iter_1 _));unfold Builtin.«frozenset.__iter__»;refine d_ (show wpAny _ _ (pure a) _ _ s from j2 ?_);unfold Builtin.Frozenset.sizeOf setEntries;refine d_ (d_ (d_ (wpAny_setState_of b d c (j2 (j2 ?_)))));unfold setDrawn;refine d_ (d_ (wpAny_setState_of b d c ?_));unfold setsByText;refine d_ (d_ (wpAny_askSetting (j2 (j2 ?_))));have e:(!(model P w).w.params.followText "set-order"&&false)=false:=by simp
 refine wpAny_ite_split (λz=>absurd (e.symm.trans z) Bool.false_ne_true) λ_=>d_ (j2 ?_);unfold setEpoch;refine d_ (d_ (wpAny_setState_of b d c (j2 ?_)));refine d_ (wpAny_newObj_type (j2 (_,rfl,"set_iterator",_,(_,get?_push_size _ rfl,rfl),b_m.lookup,?_)));have k:(sSlot w m 0:Int)=0:=by unfold sSlot;split<;>rfl
 rw[k]at q;simpa[rawInt,xz f]using q
theorem sU(d:s.TypeIs (.ref a) "set")(h:Q false s):wpAny (model P w) A (Builtin.List.listLengthHint (.ref a)) Q E s:=by
 unfold Builtin.List.listLengthHint;refine d_ (wpAny_specialOf d PySem.F.slot_set_len.lookup ?_);generalize c:("set.__len__":String)=e
 wp_delta
 rw[show splitId e<*("set","__len__",)from by subst c;decide +kernel];subst c;refine d_ (wpAny_isInstance (T:="set") (b:=true) d (by rw[isSubtype_type];kernel_rfl) (wpAny_ite_split (λz=>absurd z (!0)) λ_=>?_));exact wpAny_ite_split (λ_=>d_ (wpAny_typeOf d (j2 h))) λz=>absurd (!3) z
theorem tW(d:m<256)(e:ts.length=(b_ m).length)(c:oS.ExactSet)(f:oS.data=.set (esOf (b_ m) ts).toArray ep (aj (am w) (b_ m))):PySem.W.KdlSrc P w "set" a a (b_ m).length (λi v=>(bu w a m ts ep)[i]?<*v) (λh=>h.get? a<*oS) where
 type:=λ_ b=>(oS,b,c.1)
 there:=λ_ b=>(lt_size b,lt_size b)
 keep:=λ_ _ b k=>k a (.inl rfl) _ b
 notList:=by decide
 notTuple:=by decide
 hint:=λ_ _ _ _ b q=>sU (oS,b,c.1) q
 iter:=λ_ _ g b=>(_,_,(λ_ _ q=>sO d e b c f q),rF g d e f (ne_of_lt (lt_size b)),((_,get?_push_size _ rfl,rfl,rfl),nb _ b))
theorem jI:∀{ks:LN}{ts:List Tok},ts.length=ks.length->IntsAre ((esOf ks ts).map (·.2)) (ks.map λ(n:Nat)=>(n:Int))
 |[],_,_=>.nil
 |k::ks,t::ts,h=>.cons (k:Int) t (jI (by simpa using h))
theorem kZ(p:g.Perm l):∀{ns:List Int},IntsAre l ns->∃b,IntsAre g b/\b.Perm ns:=by
 induction p with
 |nil=>exact λh=>(_,h,.refl _)
 |cons x p j=>
  intro ns h;cases h with
  |cons n t h=>
   obtain⟨b,d,c⟩:=j h;exact(n::b,.cons n t d,c.cons n)
 |swap x y l=>
  intro ns h;cases h with
  |cons n t h=>cases h with
   |cons f t' h=>exact(_,.cons f t' (.cons n t h),.swap _ _ _)
 |trans r q i1 i2=>
  intro ns h;obtain⟨n1,d,c⟩:=i2 h;obtain⟨e,o,k⟩:=i1 d;exact(e,o,k.trans c)
theorem pH(m:Nat):((b_ m).map λ(n:Nat)=>(n:Int)).Pairwise (·≤·):=by
 rw[List.pairwise_map];exact((List.pairwise_lt_range (n:=8)).filter _).imp λh=>by lia
theorem sW(K:PySem.W.KdlSrc P w T a a n u OK)(B:A.handled=none)(j:OK s.heap)(v:n≤sizeLine)(q:∀(h':Heap)(h:Nat)(d:Array Value),s⁻¹≤h'.objs.size->(∀b o,s.heap.get? b<*o->h'.get? b<*o)->ItemsOf u d n->R d.toList {s with heap:=h',toks:=h}):wpAny (model P w) A (collect (.ref a)) R E s:=by
 have t:=(K.there _ j).1;unfold collect;refine d_ (wpAny_runValue (codeAny_builtin entry_proto_collect' ?_));rw[Around.under_plainId PySem.F.plain_proto_collect _];refine(show wpAny _ A.in1 (newList []>>=λl=>again (.builtin "list.__iadd__" ([l,.ref a],[]))) _ _ s from d_ (wpAny_newObj_type (j2 (plainId_quiet PySem.F.plain_list_iadd _,codeAny_builtin entry_list_iadd' ?_))));rw[Around.under_plainId PySem.F.plain_list_iadd _];have C:(s.heap.push {cls:=.type "list",data:=.seq ([]:List Value).toArray}).get? s⁻¹<*{cls:=.type "list",data:=.seq #[]}:=get?_push_size _ rfl;have p:=PySem.W.kdl_extend (A:=A) (s:={s with heap:=s.heap.push {cls:=.type "list",data:=.seq ([]:List Value).toArray} })
  (R:=λ(r:Result)(s':Shared)=>∃(h':Heap)(h:Nat)(d:Array Value)(c:Nat),r=.ok (.ret (.ref s⁻¹))/\s'={s with heap:=h',toks:=h}/\(∀b o,s.heap.get? b<*o->h'.get? b<*o)/\
   h'.get? s⁻¹=some {cls:=.type "list",dict:=none,data:=.seq d c,slots:=#[]}/\ItemsOf u d n)
  K B (K.keep _ _ j λb _ o e=>nb _ e) s⁻¹ (ne_of_gt t) (ne_of_gt t) (.ref s⁻¹) 0 C
  (λh' h d c k g z=>(h',h,d,c,rfl,rfl,λb o e=>k b o (ne_of_lt (lt_size e)) (nb _ e),g,z)) v
 refine(show wpAny _ A.in1 (Builtin.List.listExtendWith (.ref s⁻¹) (.ref a) (.ref s⁻¹)) _ _ _ from wpAny_mono p (λf s' x=>?_) λe s' x=>?_)
 .cases f with
  |done f=>
   obtain⟨h',h,d,c,e,rfl,k,g,z⟩:=x;cases e;exact(show wpAny _ A (load s⁻¹>>=_) _ _ _ from d_ (wpAny_load g (j2 (q h' h d (le_of_lt (lt_size g)) k z))))
  |again D=>
   refine(x.1,codeAny_mono x.2 λr s2 y=>?_);obtain⟨h',h,d,c,rfl,rfl,k,g,z⟩:=y;exact(show wpAny _ A (load s⁻¹>>=_) _ _ _ from d_ (wpAny_load g (j2 (q h' h d (le_of_lt (lt_size g)) k z))))
 .obtain ⟨_,_,_,_,e',_⟩:=x;cases e'
theorem rZ(N:A.handled=none)(t:m<256)(S:aO w s.heap a m)(q:∀(p:Addr)(h':Heap)(h n:Nat)(C:List Value),s⁻¹≤p->(∀b o,s.heap.get? b<*o->h'.get? b<*o)->IntsAre C ((b_ m).map λ(n:Nat)=>(n:Int))->h'.get? p<*{cls:=.type "list",data:=.seq C.toArray n}->Q (.ref p) {s with heap:=h',toks:=h}):wpAny (model P w) A (call (.builtin "sorted") [.ref a]) Q E s:=by
 obtain⟨oS,ts,ep,M,L,u,R⟩:=S;refine PySem.Calls.call_function_entry kind_sorted plain_sorted entry_sorted (args_sorted1 _) ?_;unfold Builtin.«sorted»;refine d_ (m:=checkCount "sorted" 1 1 _) (j2 (d_ (sW (A:=A.in1) (tW (P:=P) t u L R) N M (by rw[sizeLine_eq];have:=(dy (k:=0) t (!0)).2.2.1;lia) λh' h c hsz D f=>?_)));have d:c.toList.length=(b_ m).length:=by rw[length_toList];exact f.1
 have U:=(dy (k:=0) t (!0)).2.2.1;have r:(bu w a m ts ep).length=(b_ m).length:=by rw[e_f.length_eq,j_,xz u]
 have g:c.toList=bu w a m ts ep:=by
  refine List.ext_getElem (by rw[d,r]) λj H G=>?_;have:(bu w a m ts ep)[j]?<*c.toList[j]:=f.2 j c.toList[j] (by rw[<-getElem?_toList];exact j1 H);rw[j1 G]at this;exact(Option.some.inj this).symm
 refine d_ (wpAny_newList ?_ (by rw[d,sizeLine_eq];exact le_trans U (!0)));have v:(h'.push {cls:=.type "list",data:=.seq c.toList.toArray}).get? h'.objs.size<*seqObj "list" c.toList.toArray 0:=get?_push_size _ rfl;have B:∃ns,IntsAre c.toList ns/\ns.Perm ((b_ m).map λ(n:Nat)=>(n:Int)):=by
  rw[g];exact kZ e_f (jI u)
 obtain⟨ns,B,hp⟩:=B;refine d_ (wpAny_holding ?_);refine wpAny_call_entry slot_list_sort (_,v,rfl) entry_list_sort (list_sort_tree v B (by rw[d];exact lt_of_le_of_lt U (!0)) λout l i1 i2 J=>?_) (args_list_sort _);have T:l=(b_ m).map λ(n:Nat)=>(n:Int):=Perm.eq_of_pairwise (λx y _ _ h1 h2=>Int.le_antisymm h1 h2) J (pH m) (i2.trans hp);subst T;refine(_,rfl,j2 (_,rfl,?_));obtain⟨e,O⟩:=sortedHeap_at (out:=out) v;refine q h'.objs.size _ h e out.toList ?_ (λb o z=>?_) i1 (by simpa using O)
 .exact hsz
 .have F:=lt_size (D b o z);exact(sortedHeap_old (ne_of_lt F) (by rw[size_push'];exact lt_succ_of_lt F)).trans (nb _ (D b o z))
end
end L2
namespace RA
open PySem PyProof.Rows L2
noncomputable def qu(w:World)(a:Addr)(m:Nat):HO:=.ext λh=>aO w h a m
theorem oM(x:aO w h a m):uS P w H h a (qu w a m):=(x,let⟨o,_,_,e,_⟩:=x;(o,e),λh1 h2 z k=>aO.keep z λo e=>k o e)
theorem jB:∀{ns:LN}{a:List Value},ac (b' ns) a->∀(i:Nat)(v:Value),a[i]?<*v->∃t,v=.int ((ns.getD i 0:Nat):Int) t
 |[],_,r,i,v,e=>by cases r;simp at e
 |n::ns,_,r,i,v,e=>by
  cases r with
  |cons q b=>
   obtain⟨t,rfl⟩:=q;cases i with
   |zero=>cases e;exact(t,rfl)
   |succ i=>exact jB b i v e
theorem c_W:∀{ns:LN}{a:List Value},IntsAre a (ns.map λ(n:Nat)=>(n:Int))->ac (b' ns) a
 |[],_,h=>by cases h;exact .nil
 |n::ns,_,h=>by cases h with|cons _ t h=>exact .cons (t,rfl) (c_W h)
section
variable{X:Cx}
theorem lu(j:X.calm=true):wN X (.type "set") (λxs H Q=>∃(p:Addr)(ns:LN),xs=[.ref p]/\lb X.K H p (b' ns)/\(∀n∈ns,n<8)/\∀a,H a=none->Q (.ref a) (upd H a (qu X.w a (xO ns)))):=by
 intro c s l H xs m Q I r h;obtain⟨p,ns,rfl,i,k,q⟩:=h;obtain⟨u,rfl,e⟩:=xm r;cases e;obtain⟨g,b,pl,hz⟩:=I.list i;refine sX (ns:=ns) (I.ok.hd j) pl.isList (by rw[<-b.length];simp[b']) k (jB b) λh' d x f=>?_;exact(.ref s⁻¹,_,I.laid (t':=d) f (le_refl _) (oM x),rfl,q _ (I.hok.fresh (le_refl _)))
theorem iZ(j:X.calm=true):wN X (.builtin "sorted") (λxs H Q=>∃(a:Addr)(m:Nat),xs=[.ref a]/\m<256/\H a=some (qu X.w a m)/\∀p,H p=none->Q (.ref p) (upd H p (.lst (b' (b_ m))))):=by
 intro b s v H xs x Q I r h;obtain⟨a,m,rfl,c,l,q⟩:=h;obtain⟨u,rfl,f⟩:=xm r;cases f;refine rZ (I.ok.hd j) c (show aO X.w s.heap a m from(I.hok a _ l).1) λp h' e n d hp g t i=>?_;refine(.ref p,_,I.laid (t':=e) (o:=.lst (b' (b_ m))) g hp (?_,d,n,c_W t,i),rfl,q _ (I.hok.fresh hp));have:=(dy (k:=0) c (!0)).2.2.1;rw[b',j_,sizeLine_eq];lia
end
end RA
namespace RA
section
variable{g:LN->Nat->LN}{s:LN}{L:LN}{ks ws R:LL}{Bm:List Bool}{k m:Nat}
theorem Fe(b:Bf g L s ks ws ks.length 0)(a:wJ g L.length ks R)(e:R.length=ks.length)(hw:ws[i]?<*w):(∀c∈w,c∈L)/\run L R 0 w=i:=by
 have d:i<ks.length:=by rw[b.len];exact(l' hw).1
 obtain⟨l1,l2⟩:=b.lead i ks[i] w (j1 d) hw;refine(l1,?_);have h1:=DV b a e _ w rfl l1;rw[l2]at h1;exact dL b.nd h1 (j1 d)
theorem eQ(n:AC L)(d:Bf g L s ks ws ks.length 0)(a:wJ g L.length ks R)(l:R.length=ks.length)(hw:ws[i]?<*w)(e:∀c∈v,c∈L)(h:run L R 0 v=i):uF L v w=false:=by
 obtain⟨j,b,p,f,o⟩:=d.told n.nd v _ rfl e;have h1:=DV d a l _ v rfl e;rw[h]at h1;have:j=i:=dL d.nd p h1;rw[this,hw]at f;cases f;exact o
theorem gh(a:g_ L R Bm)(st:Rd R Bm (k+1)=Rd R Bm k)(b:aP (Rd R Bm k) m)(l:r<(uU R (Rd R Bm k) m).length)(j:t<(uU R (Rd R Bm k) m).length)(e:∀u:LN,(∀c∈u,c∈L)->(xk Bm (Rd R Bm k) m).getD (run L (uU R (Rd R Bm k) m) r u) false=(xk Bm (Rd R Bm k) m).getD (run L (uU R (Rd R Bm k) m) t u) false):r=t:=by
 rw[uU,j_,length_range]at l j;obtain⟨h,i⟩:=wx b a l;obtain⟨f,s2⟩:=wx b a j;have:=CY a k h f λu d=>by
  have n:=e u d;rw[<-i,<-s2,AL b a st h d,AL b a st f d,B5 b a (vQ a h d),B5 b a (vQ a f d)]at n;exact n
 rw[i,s2]at this;exact this
theorem B8(q:Bf g L s ks ws ks.length 0)(d:wJ g L.length ks R)(x:R.length=ks.length)(a:g_ L R Bm)(st:Rd R Bm (k+1)=Rd R Bm k)(h:aP (Rd R Bm k) m):∃v,wY L (uU R (Rd R Bm k) m) (xk Bm (Rd R Bm k) m) v:=by
 have f:(uU R (Rd R Bm k) m).length=m:=by rw[uU,j_,length_range]
 have r:ws.length=R.length:=by rw[x,q.len]
 have b:∀{i:Nat},i<R.length->ws[i]?<*ws.getD i []:=λ{i}D=>by
  rw[m8,j1 (by rw[r];exact D)];rfl
 have l0:l_ R Bm k 0=0:=rD a;have A:∀{u:LN},(∀c∈u,c∈L)->run L (uU R (Rd R Bm k) m) 0 u=l_ R Bm k (run L R 0 u):=λ{u}o=>by
  have:=AL h a st a.n1 o;rw[l0]at this;exact this
 refine(λj=>ws.getD ((Rd R Bm k).idxOf j) [],A2 h a,(λj l=>?_,λi j w l=>?_,λu o=>?_),λn C e=>gh a st h n C e)
 .rw [f]at l;obtain⟨F,E⟩:=wx h a l;obtain⟨y,B⟩:=Fe q d x (b F);refine(y,?_);rw[A y,B];exact E
 .rw [f]at l;have p:=jE h a w l;exact q.srt _ _ _ _ p (b (lt_trans p (wx h a l).1)) (b (wx h a l).1)
 .rw [A o];have n:=vQ a a.n1 o;have t:=p7 (k:=k) a n;have h1:=eQ a.lt q d x (b n) o rfl;rcases Nat.lt_or_eq_of_le t with z|z
  .have h2:=q.srt _ _ _ _ z (b (lt_trans z n)) (b n);cases e:uF L u (ws.getD ((Rd R Bm k).idxOf (l_ R Bm k (run L R 0 u))) [])with
   |false=>rfl
   |true=>rw[vB e h2]at h1;cases h1
  .show uF L u (ws.getD ((Rd R Bm k).idxOf (l_ R Bm k (run L R 0 u))) [])=false;rw[z];exact h1
end
end RA
namespace RA
open PySem L2
noncomputable def bF(l:LN):LN:=b_ (xO l)
theorem fF{x:Nat}:∀{l:LN}{m:Nat},(l.foldl (λm k=>m ||| 2^k) m).testBit x=(m.testBit x||decide (x∈l))
 |[],m=>by simp
 |k::r,m=>by
  rw[List.foldl_cons,fF (l:=r),Nat.testBit_or,Nat.testBit_two_pow];by_cases e:k=x
  .subst e;simp
  .simp [e,show ¬ x=k from λz=>e z.symm]
theorem ro(a:∀x∈l,x<8):x∈bF l↔x∈l:=by
 unfold bF b_;rw[mem_filter,mem_range,xO,fF];simp;exact λh=>a x h
noncomputable def zF(n:Nat):LL:=((List.range 256).flatMap λm=>[0::b_ m,1::b_ m]).filter λk=>k.tail.all (· < n)
theorem je(n:Nat):(zF n).length≤512:=by
 unfold zF;refine le_trans (List.length_filter_le _ _) ?_;rw[List.length_flatMap];simp only[length_cons,List.length_nil];decide +kernel
theorem wA(a:∀x∈l,x<8)(e:b≤1)(d:∀x∈l,x<n):b::bF l∈zF n:=by
 unfold zF;rw[mem_filter,mem_flatMap];refine((xO l,mem_range.mpr (C9 a),?_),?_)
 .have:b=0\/b=1:=by lia
  rcases this with rfl|rfl
  .exact mem_cons_self
  .exact mem_cons_of_mem _ mem_cons_self
 .rw [all_eq_true];exact λx c=>decide_eq_true (d x ((ro a).mp c))
theorem lP(h:k∈zF n):∃b S,k=b::S/\b≤1/\(∀x∈S,x<n)/\S.length≤8:=by
 unfold zF at h;rw[mem_filter,mem_flatMap]at h;obtain⟨⟨m,f,d⟩,c⟩:=h;have e:=(dy (k:=0) (mem_range.mp f) (!0)).2.2.1;simp only[mem_cons,not_mem_nil,or_false]at d;rcases d with rfl|rfl
 .exact (0,_,rfl,!0,λx a=>of_decide_eq_true (all_eq_true.mp c x a),e)
 .exact (1,_,rfl,!0,λx a=>of_decide_eq_true (all_eq_true.mp c x a),e)
noncomputable def iU(B:List Bool)(l:LN):LN:=if l.any (λr=>B.getD r false)=true then 1::bF (l++[0])else 0::bF l
noncomputable def BE(W:LL)(B:List Bool)(k:LN)(q:Nat):LN:=iU B (gA W k.tail q)
noncomputable def qO(k:LN):Bool:=decide (k.headD 0=1)
section
variable{L:LN}{W:LL}{B:List Bool}
theorem cF(f:g_ L W B)(e:∀x∈S,x<W.length)(d:q<L.length):∀x∈gA W S q,x<W.length:=by
 intro x b;obtain⟨r,c,rfl⟩:=mem_map.mp b;have hw:=xv f (e r c);have a:q<(W.getD r []).length:=by rw[hw.1];exact d
 rw[m8,j1 a];exact hw.2 _ (getElem_mem a)
theorem nK(d:W.length≤8)(h1:1≤W.length)(b:∀x∈l,x<W.length):iU B l∈zF W.length:=by
 have c:∀x∈l,x<8:=λx a=>lt_of_lt_of_le (b x a) d;unfold iU;split
 .refine wA (λx a=>?_) (!0) (λx a=>?_)
  .rcases mem_append.mp a with z|z
   .exact c x z
   .rw [uN z];decide
  .rcases mem_append.mp a with z|z
   .exact b x z
   .rw [uN z];exact h1
 .exact wA c (!0) b
theorem Aq(a:g_ L W B)(f:W.length≤8):∀k∈zF W.length,∀q,q<L.length->BE W B k q∈zF W.length:=by
 intro k d q c;obtain⟨b,S,rfl,_,e,_⟩:=lP d;exact nK f a.n1 (cF a e c)
inductive Ag(T:LN->Bool):LN->Prop
 |nil:Ag T []
 |more {x v:LN}:Ag T x->v≠[]->T v=true->Ag T (x++v)
theorem Ag.last(h:Ag T u)(a:u≠[]):∃x v,u=x++v/\v≠[]/\Ag T x/\T v=true:=by
 cases h with
 |nil=>exact absurd rfl a
 |@more x v h1 h2 b=>exact(x,v,rfl,h2,h1,b)
theorem BF{u x v:LN}(h:u++[c]=x++v)(b:v≠[]):∃a,v=a++[c]/\u=x++a:=by
 rcases List.eq_nil_or_concat v with rfl|⟨a,d,rfl⟩
 .exact absurd rfl b
 .rw [List.concat_eq_append,<-append_assoc]at h;obtain⟨h1,h2⟩:=List.append_inj' h rfl;cases h2;exact(a,!1,h1)
theorem rz(m:g_ L W B)(F:W.length≤8):∀(n:Nat)(u:LN),u.length=n->(∀c∈u,c∈L)->
  ∃b S,aG (BE W B) L [1,0] u=b::S/\(b=1↔Ag (λv=>B.getD (run L W 0 v) false) u)/\(∀x∈S,x<W.length)/\∀r,r∈S↔∃x v,u=x++v/\Ag (λv=>B.getD (run L W 0 v) false) x/\r=run L W 0 v:=by
 intro n;induction n with
 |zero=>
  intro u i _;cases length_eq_zero_iff.mp i;refine(1,[0],rfl,(λ_=>.nil,λ_=>rfl),λx d=>by rw[uN d];exact m.n1,λr=>?_);rw[mem_singleton];constructor
  .rintro rfl;exact([],[],rfl,.nil,rfl)
  .rintro⟨x,v,e,_,rfl⟩;obtain⟨_,rfl⟩:=List.append_eq_nil_iff.mp e.symm;rfl
 |succ n y=>
  intro u i o;rcases List.eq_nil_or_concat u with rfl|⟨u,c,rfl⟩
  .cases i
  rw[List.concat_eq_append]at i o⊢;obtain⟨b,S,J,O,I,s⟩:=y u (by simpa using i) λx d=>o x (by simp[d]);have D:c∈L:=o c (!1);have C:L.idxOf c<L.length:=List.idxOf_lt_length_iff.mpr D;have f:=cF m I C;have p:∀x∈gA W S (L.idxOf c),x<8:=λx d=>lt_of_lt_of_le (f x d) F;have k:∀r,r∈gA W S (L.idxOf c)↔∃x v,u=x++v/\Ag (λv=>B.getD (run L W 0 v) false) x/\r=run L W 0 (v++[c]):=by
   intro r;unfold gA;rw[mem_map];constructor
   .rintro⟨w,hr',rfl⟩;obtain⟨x,v,h1,h2,rfl⟩:=(s w).mp hr';exact(x,v,h1,h2,by rw[xV];rfl)
   .rintro⟨x,v,h1,h2,rfl⟩;exact(run L W 0 v,(s _).mpr (x,v,h1,h2,rfl),by rw[xV];rfl)
  have a:(gA W S (L.idxOf c)).any (λr=>B.getD r false)=true↔Ag (λv=>B.getD (run L W 0 v) false) (u++[c]):=by
   rw[any_eq_true];constructor
   .rintro⟨r,A,E⟩;obtain⟨x,v,rfl,h2,rfl⟩:=(k r).mp A;rw[append_assoc];exact .more h2 (!1) E
   .intro h;obtain⟨x,v,h1,h2,H,G⟩:=h.last (!1);obtain⟨l,rfl,rfl⟩:=BF h1 h2;exact(_,(k _).mpr (x,l,rfl,H,rfl),G)
  have j:∀r,(∃x v,u++[c]=x++v/\Ag (λv=>B.getD (run L W 0 v) false) x/\r=run L W 0 v)↔r∈gA W S (L.idxOf c)\/(Ag (λv=>B.getD (run L W 0 v) false) (u++[c])/\r=0):=by
   intro r;constructor
   .rintro⟨x,v,h1,h2,rfl⟩;by_cases q:v=[]
    .subst q;rw[append_nil]at h1;subst h1;exact .inr (h2,rfl)
    .obtain ⟨l,rfl,rfl⟩:=BF h1 q;exact .inl ((k _).mpr (x,l,rfl,h2,rfl))
   .rintro (h|⟨h,rfl⟩)
    .obtain ⟨x,v,rfl,h2,rfl⟩:=(k r).mp h;exact(x,v++[c],by rw[append_assoc],h2,rfl)
    .exact (u++[c],[],!1,h,rfl)
  rw[C4,J];show ∃M N,iU B (gA W S (L.idxOf c))=M::N/\_;unfold iU;by_cases g:(gA W S (L.idxOf c)).any (λr=>B.getD r false)=true
  .rw [if_pos g];have t:∀x∈gA W S (L.idxOf c)++[0],x<8:=λx d=>by
    rcases mem_append.mp d with z|z
    .exact p x z
    .rw [uN z];decide
   refine(1,_,rfl,(λ_=>a.mp g,λ_=>rfl),λx d=>?_,λr=>?_)
   .rcases mem_append.mp ((ro t).mp d)with z|z
    .exact f x z
    .rw [uN z];exact m.n1
   .rw [ro t,j,mem_append,mem_singleton];constructor
    .rintro (z|z)
     .exact .inl z
     .exact .inr (a.mp g,z)
    .rintro (z|⟨_,z⟩)
     .exact .inl z
     .exact .inr z
  .rw [if_neg g];refine(0,_,rfl,(λz=>(by cases z),λz=>absurd (a.mpr z) g),λx d=>f x ((ro p).mp d),λr=>?_);rw[ro p,j];constructor
   .exact .inl
   .rintro (z|⟨z,_⟩)
    .exact z
    .exact absurd (a.mpr z) g
theorem on(d:g_ L W B)(e:W.length≤8)(a:∀c∈u,c∈L):qO (aG (BE W B) L [1,0] u)=true↔Ag (λv=>B.getD (run L W 0 v) false) u:=by
 obtain⟨b,S,g,f,_⟩:=rz d e _ u rfl a;rw[g];show decide (b=1)=true↔_;rw[decide_eq_true_iff];exact f
theorem Ag.congr(h:Ag T u):(∀v,(∀c∈v,c∈u)->T v=T' v)->Ag T' u:=by
 induction h with
 |nil=>exact λ_=>.nil
 |@more x v h1 h2 d b=>
  intro k;refine .more (b λw hw=>k w λc a=>by simp[hw c a]) h2 ?_;rw[<-k v λc a=>by simp[a]];exact d
end
section
variable{T:LN->Bool}{w:LN}{i k:Nat}{gl:List Bool}
end
end RA
namespace L2
open PySem PySem.Spec PyProof.Rows
noncomputable def qm(X:Cx)(i:Nat)(ps:List Str)(t:TA):TE:=λσ H Q=>∃f,σ[i]?=some (some (.ref f))/\(∃nm qual ar bd sc cl c,H f<*tj f nm qual ar bd sc cl c)/\t σ H λvs H1=>(∃nm qual ar bd sc cl c,H1 f<*tj f nm qual ar bd sc cl c)/\∃U:List Addr,(∀u∈U,∃φ,H1 u<*.ext φ)/\∀base':Heap,AX X U σ H1 base'->
 ∃(k:Nat)(sp:Sp)(fd:FuncData),ah k X.A/\vw X.K fd ps []/\aa X.prog X.w X.K X.mg base' nq k f fd ps sp/\sp vs (uD U H1) (λv H2=>(∀u∈U,H2 u=none)->Q v (retr U H1 H2)) E0
theorem jH{j:St}(I:f' X a j H s)(h:∃nm qual i d sc b c,H f<*tj f nm qual i d sc b c):∃m l n k,s.heap.get? f<*(m,l,.func n,k):=by
 obtain⟨nm,qual,i,d,sc,b,c,e⟩:=h;obtain⟨⟨doc,pm,o,g⟩,_⟩:=I.hok f _ e;exact(_,_,_,_,g)
theorem mB(ps:List Str){p pos:Pos}(hv:PE X (.Name x p) (aL i))(ha:PA X (e::D) t)(O:∀y,X.fn y=true)(he:starEach (e::D) X.env=(false,eval e X.env,)::starEach D X.env:=by rfl)(L:(backTo pos (starEach D X.env)).any (·.1)=false:=by rfl):PE X (.Call (.Name x p) (e::D) [] pos) (qm X i ps t):=by
 intro j s G H Q I h;obtain⟨f,h0,hf,h⟩:=h;refine wpAny_Call_Name_kw (n0 (hv j s G H (λv E=>v=.ref f/\E=H) I (_,h0,rfl,rfl)) λfv s0 n=>?_);obtain⟨v,H0,I0,rv,rfl,rfl⟩:=n;obtain rfl:fv=.ref f:=rv;refine PySem.W.callWith_F (jH I0 hf) (n0 (ha pos j s0 G H0 _ I0 h) λC J⟨vs,E,b,r,P,q⟩=>(jH b P,?_)) he L;obtain⟨U,Z,q⟩:=q;obtain⟨a,e0,w,l⟩:=eP b.env0 Z;have d:∀y c v,X.env.cells.lookup y<*c->J.heap.IsCell c v->a.IsCell c v:=λy c v g S=>by
  obtain⟨o,T,R⟩:=S;have Y:=b.freeC y c g;refine(o,l c o T (λz=>?_) ?_,R)
  .rcases mem_cons.mp (b.stkSub c z)with z|z
   .exact b.cne y c g z
   .obtain ⟨_,o',M,_⟩:=b.ok.funs.mem z;exact absurd (lt_size M) (not_lt.mpr (b.ok.cab y c (O y) g))
  .unfold uD;split
   .rfl
   .exact Y
 have W:AX X U G E a:=by
  refine(w,e0.mod,λu φ hu e=>?_,b.ok.inj,λy c g=>?_,λi y v e1 e2 e3=>?_)
  .obtain ⟨p1,⟨o,T⟩,p3⟩:=b.hok u _ e;refine p3 _ _ p1 λo2 z=>l u o2 z (λy=>?_) (B4 hu);rw[b.stkFree u y]at e;cases e
  .obtain ⟨v,z⟩:=b.cell y c g;exact(v,d y c v g z)
  .obtain ⟨m,Y,N⟩:=b.loc;obtain⟨u,ru,lk⟩:=N i y v e1 e2 (.inr (.inl e3));rcases lk with⟨k1,_⟩|⟨_,c,g,z⟩
   .have:X.env.scope.names.lookup y<*.local:=k1;rw[e3]at this;cases this
   .exact (c,u,g,d y c _ g z,ru)
 obtain⟨k,sp,fd,hr,hb,F,B⟩:=q a W;have N:C.length=ps.length:=by rw[<-r.length];exact F.len _ _ _ _ B
 refine wpAny_call (codeAny_mono (F.run X.A X.stack J (uD U E) (C,[]) C vs _ E0 hr e0 (by have:=hb J C b.kIn (by rw[append_nil];exact N);rwa [append_nil]at this) r B) λr s' n=>?_);cases r with
 |error e=>exact False.elim n
 |ok fl=>
  cases fl with
  |ret u=>exact b.after (bQ b.env0 Z n)
  |next=>exact False.elim n
  |brk=>exact False.elim n
  |cont=>exact False.elim n
end L2
namespace RA
open PySem L2
noncomputable def y1(n1 n2:Nat):LL:=((List.range n1).flatMap λr=>(List.range 256).map λm=>r::b_ m).filter λk=>k.tail.all (· < n2)
theorem oF(a:Nat)(h:n1≤8):(y1 n1 a).length≤2048:=by
 unfold y1;refine le_trans (List.length_filter_le _ _) ?_;rw[List.length_flatMap];simp only[j_,length_range,List.map_const',List.sum_replicate_nat];lia
theorem Ar(a:∀x∈l,x<8)(d:r<n1)(e:∀x∈l,x<b):r::bF l∈y1 n1 b:=by
 unfold y1;rw[mem_filter,mem_flatMap];refine((r,mem_range.mpr d,mem_map.mpr (xO l,mem_range.mpr (C9 a),rfl)),?_);rw[all_eq_true];exact λx c=>decide_eq_true (e x ((ro a).mp c))
theorem gZ(h:k∈y1 n1 a):∃r S,k=r::S/\r<n1/\(∀x∈S,x<a)/\S.length≤8:=by
 unfold y1 at h;rw[mem_filter,mem_flatMap]at h;obtain⟨⟨r,d,f⟩,c⟩:=h;obtain⟨m,e,rfl⟩:=mem_map.mp f;exact(r,_,rfl,mem_range.mp d,λx b=>of_decide_eq_true (all_eq_true.mp c x b),(dy (k:=0) (mem_range.mp e) (!0)).2.2.1)
noncomputable def inT(B1:List Bool)(r:Nat)(l:LN):LN:=if B1.getD r false=true then l++[0]else l
noncomputable def bO(B1:List Bool)(r:Nat)(l:LN):LN:=r::bF (inT B1 r l)
noncomputable def BG(W1:LL)(B1:List Bool)(W2:LL)(k:LN)(q:Nat):LN:=bO B1 (goal W1 (k.headD 0) q) (gA W2 k.tail q)
noncomputable def qN(B2:List Bool)(k:LN):Bool:=k.tail.any λr=>B2.getD r false
section
variable{L:LN}{W1 W2:LL}{B1 B2:List Bool}
theorem dM:x∈inT B1 r l↔x∈l\/(B1.getD r false=true/\x=0):=by
 unfold inT;split
 .rename_i c;rw[mem_append,mem_singleton];exact(λz=>z.imp id λy=>(c,y),λz=>z.imp id λy=>y.2)
 .rename_i c;exact(.inl,λz=>z.elim id λy=>absurd y.1 c)
theorem bG(b:∀x∈l,x<n)(h1:1≤n):∀x∈inT B1 r l,x<n:=λx a=>by
 rcases dM.mp a with z|⟨_,rfl⟩
 .exact b x z
 .exact h1
theorem gr(d:W2.length≤8)(h1:1≤W2.length)(c:r<W1.length)(a:∀x∈l,x<W2.length):bO B1 r l∈y1 W1.length W2.length:=
 Ar (λx b=>lt_of_lt_of_le (bG a h1 x b) d) c (bG a h1)
theorem pC(b:g_ L W1 B1)(a:g_ L W2 B2)(g:W2.length≤8):∀k∈y1 W1.length W2.length,∀q,q<L.length->BG W1 B1 W2 k q∈y1 W1.length W2.length:=by
 intro k e q c;obtain⟨r,S,rfl,d,f,_⟩:=gZ e;exact gr g a.n1 (wu b d c) (cF a f c)
theorem ql(w:g_ L W1 B1)(b:g_ L W2 B2)(i:W2.length≤8):∀(n:Nat)(u:LN),u.length=n->(∀c∈u,c∈L)->
  ∃S,aG (BG W1 B1 W2) L (bO B1 0 []) u=run L W1 0 u::S/\(∀x∈S,x<W2.length)/\∀r,r∈S↔∃x v,u=x++v/\B1.getD (run L W1 0 x) false=true/\r=run L W2 0 v:=by
 intro n;induction n with
 |zero=>
  intro u d _;cases length_eq_zero_iff.mp d;have a0:∀x∈inT B1 0 [],x<W2.length:=bG (!1) b.n1;refine(bF (inT B1 0 []),rfl,λx a=>a0 x ((ro λx a=>lt_of_lt_of_le (a0 x a) i).mp a),λr=>?_);rw[ro λx a=>lt_of_lt_of_le (a0 x a) i,dM];constructor
  .rintro (z|⟨z,rfl⟩)
   .simp at z
   .exact ([],[],rfl,z,rfl)
  .rintro⟨x,v,e,h,rfl⟩;obtain⟨rfl,rfl⟩:=List.append_eq_nil_iff.mp e.symm;exact .inr (h,rfl)
 |succ n p=>
  intro u d g;rcases List.eq_nil_or_concat u with rfl|⟨u,c,rfl⟩
  .cases d
  rw[List.concat_eq_append]at d g⊢;obtain⟨S,B,A,l⟩:=p u (by simpa using d) λx a=>g x (by simp[a]);have t:c∈L:=g c (!1);have q:L.idxOf c<L.length:=List.idxOf_lt_length_iff.mpr t;have f:=cF b A q;have s:∀r,r∈gA W2 S (L.idxOf c)↔∃x v,u=x++v/\B1.getD (run L W1 0 x) false=true/\r=run L W2 0 (v++[c]):=by
   intro r;unfold gA;rw[mem_map];constructor
   .rintro⟨o,hr',rfl⟩;obtain⟨x,v,h1,h2,rfl⟩:=(l o).mp hr';exact(x,v,h1,h2,by rw[xV];rfl)
   .rintro⟨x,v,h1,h2,rfl⟩;exact(run L W2 0 v,(l _).mpr (x,v,h1,h2,rfl),by rw[xV];rfl)
  rw[C4,B];have y:goal W1 (run L W1 0 u) (L.idxOf c)=run L W1 0 (u++[c]):=by rw[xV];rfl
  have a0:∀x∈inT B1 (run L W1 0 (u++[c])) (gA W2 S (L.idxOf c)),x<W2.length:=bG f b.n1;have j:=λ{x:Nat}=>ro (x:=x) λx a=>lt_of_lt_of_le (a0 x a) i;refine(bF (inT B1 (run L W1 0 (u++[c])) (gA W2 S (L.idxOf c))),?_,λx a=>a0 x (j.mp a),λr=>?_)
  .show bO B1 (goal W1 (run L W1 0 u) (L.idxOf c)) (gA W2 S (L.idxOf c))=_;rw[y];rfl
  .rw [j,dM,s];constructor
   .rintro (⟨x,v,rfl,h2,rfl⟩|⟨h,rfl⟩)
    .exact (x,v++[c],by rw[append_assoc],h2,rfl)
    .exact (u++[c],[],!1,h,rfl)
   .rintro⟨x,v,h1,h2,rfl⟩;by_cases k:v=[]
    .subst k;rw[append_nil]at h1;subst h1;exact .inr (h2,rfl)
    .obtain ⟨m,rfl,rfl⟩:=BF h1 k;exact .inl (x,m,rfl,h2,rfl)
theorem lT(b:g_ L W1 B1)(a:g_ L W2 B2)(h:W2.length≤8)(e:∀c∈u,c∈L):qN B2 (aG (BG W1 B1 W2) L (bO B1 0 []) u)=true↔∃x v,u=x++v/\B1.getD (run L W1 0 x) false=true/\B2.getD (run L W2 0 v) false=true:=by
 obtain⟨S,j,_,d⟩:=ql b a h _ u rfl e;rw[j];show(S.any λr=>B2.getD r false)=true↔_;rw[any_eq_true];constructor
 .rintro⟨r,f,g⟩;obtain⟨x,v,h1,h2,rfl⟩:=(d r).mp f;exact(x,v,h1,h2,g)
 .rintro⟨x,v,h1,h2,i⟩;exact(_,(d _).mpr (x,v,h1,h2,rfl),i)
end
end RA
namespace L2
open PySem PySem.Spec PyProof.Rows
namespace ZP
theorem As(a b:Addr):vT (.tp a) (.ls b):=λxs ys=>.of_wp λprog w A R s h=>by
 obtain⟨hp,g,d,i,os⟩:=s;obtain⟨e,c,h⟩:=h;have f:=sub_zip;have e:hp.IsTuple a xs:=e;have c:(hp.push (Sd.tp a).it0).IsList b ys:=Heap.IsList.push c _;show wpAny _ _ (Builtin.«zip.__new__» ([.type "zip",.ref a,.ref b],[])) _ _ _
 wp_walk using CO e,CN c
 refine(_,rfl,?_);simp only[bE]at h;simpa[size_push,Builtin.SmallTypes.ownedTupleFields,Nat.add_assoc]using h
end ZP
noncomputable def nc(t:TA):TI:=λσ H R=>t σ H λvs H1=>∃a b xs ys,vs=[.ref a,.ref b]/\H1 a=some (.tup xs)/\H1 b=some (.lst ys)/\R (zy (.tp a) (.ls b)) H1
theorem my{S:List Expr}{B:Nat}{A:Pos}{p pos:Pos}(L:Gl X "zip")(J:X.mg "zip"=none)(M:PA X [a,b] w)(G:starEach [a,b] X.env=(false,eval a X.env,)::starEach [b] X.env:=by rfl)(m:(backTo pos (starEach [b] X.env)).any (·.1)=false:=by rfl):PI X (.Tuple S B A) (.Call (.Name "zip" p) [a,b] [] pos) (nc w):=by
 intro f s v H R I h;refine wpAny_Call_Name_kw (t5 I L J boot_zip (PyProof.Rows.callWith_type1 (n0 (M pos f s v H _ I h) λus e n=>?_) G m));obtain⟨Z,Y,j,x,l,k,xs,ys,Q,F,E,q⟩:=n;subst Q;obtain⟨u1,u2,rfl,U,T⟩:=bc x;cases U;cases T;obtain⟨D,z⟩:=jj (d:=.tp l) j F;obtain⟨C,y⟩:=jj (d:=.ls k) j E;refine ZP.ww (ZP.As l k) z y λg u r o P O N=>wpAny_pyIter_zip (s:={e with heap:=g}) u ?_;have W:ZipApart (e⁻¹+4) (e⁻¹+2) (e⁻¹+3) e⁻¹ (e⁻¹+1) (e⁻¹+2) (e⁻¹+2):=by
  constructor<;>exact AV (!6)
 refine(_,[e⁻¹+4,e⁻¹+2,e⁻¹+3,e⁻¹,e⁻¹+1],_,zy (.tp l) (.ls k),Y,rfl,j.kept (t':=e.toks) N,bR (.tp l) (.ls k) _ _ _ _ _ W,(u,r,(_,_,o),P,O),λc t=>?_,q);have i:e⁻¹≤c:=by
  simp only[mem_cons,not_mem_nil,or_false]at t;rcases t with rfl|rfl|rfl|rfl|rfl
  .exact le_add_right _ _
  .exact le_add_right _ _
  .exact le_add_right _ _
  .exact le_refl _
  .exact le_add_right _ _
 exact j.fpOk i (j.hok.fresh i)
end L2
namespace RA
open PySem L2
theorem wB{xs zs:List V}{r:St}(v:∀R:List V->Hp->Prop,R [.ref c,.ref d] H->t r H R)(j:H c<*.tup xs)(g:H d<*.lst zs)(B:xs.length=zs.length)(e:Addr->Nat->List V->Hp->Prop)(hz:xs.length≤sizeLine)(h0:∀D,H D=none->e D 0 [] (L2.upd H D (.lst [])))(w:∀(D:Addr)(i:Nat)(x z:V)(ys:List V)(H' f:Hp)(m:VK),H D=none->xs[i]?<*x->zs[i]?<*z->a' H H'->H' D<*.lst ys->e D i ys H'->a' H' f->
   (∀y o,o D<*.lst ys->a' H (L2.upd o D (.lst (ys++[y])))->e D (i+1) (ys++[y]) (L2.upd o D (.lst (ys++[y])))->m y o)->u (some x::some z::r) f m)(A:∀D ys H',H D=none->a' H H'->H' D<*.lst ys->e D xs.length ys H'->Q (.ref D) H'):dl K (nc t) tAlways u r H Q:=by
 refine v _ (c,d,xs,zs,rfl,j,g,?_);refine DU (K:=K) (J:=zy (.tp c) (.ls d)) (n:=xs.length) (λi a b=>xs[i]?=some a/\zs[i]?<*b) e hz (λi q s h=>(xs,zs,xs[i],zs[i]'(!6),s _ _ j,s _ _ g,j1 h,j1 _)) ?_ (λq s=>(xs,zs,s _ _ j,s _ _ g,B,rfl)) h0 ?_ A
 .rintro i q x f s h⟨p,O,bs,a,b,l,k,N,M,L,I,G⟩;have l:q c<*.tup O:=l;have k:q d<*.lst bs:=k;rw[s _ _ j]at l;rw[s _ _ g]at k;cases l;cases k;exact(p,a,b,L,(N,M),I,G)
 .rintro D i a b ys H' f m R2 F X⟨E,C⟩W U T S P Y;exact i_ (w D i a b ys H' f m F E C W U T S P)
end RA
namespace L2
open PySem RA
noncomputable def gR(ts:List (Addr×List (Pos×Str)))(H:Hp):Prop:=∀p∈ts,vL H p.1 p.2
structure KT(ts:List (Addr×List (Pos×Str)))(H H':Hp):Prop where
 sm:wj H H'
 tb:gR ts H->gR ts H'
section
variable{ts:List (Addr×List (Pos×Str))}{H H1 H':Hp}
theorem KT.of(s:a' H H'):KT ts H H':=(wj.of s,λh p hp=>AK (h p hp) s)
theorem KT.trans(a:KT ts H H1)(b:KT ts H1 H'):KT ts H H':=(a.sm.trans b.sm,λh=>b.tb (a.tb h))
theorem tM(s:wv P0 H H')(j:vL H P0 sites)(i:d≠P0)(h:vL H d sites'):vL H' d sites':=by
 obtain⟨e,b,_⟩:=j;obtain⟨ps,k,g,a⟩:=h;refine(ps,s _ _ i k,g,λx f=>(a x f).imp id λ⟨m,l,c⟩=>(m,l,s _ _ (λz=>?_) c));rw[z,b]at c;cases c
theorem KT.ofX(c:(ts.map Prod.fst).Nodup)(d:(P,sites,)∈ts)(s:wv P H H')(h:vL H P sites)(h':vL H' P sites):KT ts H H':=by
 refine(wj.ofX s h,λa p hp=>?_);by_cases e:p.1=P
 .have:p=(P,sites,):=by
   obtain⟨i,g,rfl⟩:=List.getElem_of_mem hp;obtain⟨j,f,b⟩:=List.getElem_of_mem d;have k:(ts.map Prod.fst)[i]'(by rw[j_];exact g)=(ts.map Prod.fst)[j]'(by rw[j_];exact f):=by
    rw[List.getElem_map,List.getElem_map,b];exact e
   have:=(getElem_inj c).mp k;subst this;exact b
  rw[this];exact h'
 .exact tM s h e (a p hp)
theorem KT.mach(k:KT ts H H')(h:ol H m L W B):ol H' m L W B:=h.tups k.sm.tup
end
noncomputable def ub(L:LN)(W:LL)(B:List Bool)(u:LN):Bool:=B.getD (run L W 0 u) false
noncomputable def off:Nat->Nat
 |0=>0
 |i+1=>off i+(8-i)
noncomputable def xP(H:Hp)(L:LN)(D:Nat->Nat->LN->Prop)(ta:List Addr)(i j:Nat):Prop:=∀a b,a<b->b<9->(a<i\/(a=i/\b<i+1+j))->
 ∃(t:Addr)(u:LN),ta[off a+(b-a-1)]?=some t/\H t=some (.tup [.int (a:Int),.int (b:Int),.str (tx u)])/\(∀c∈u,c∈L)/\u.length≤2100/\D a b u
section
variable{H H':Hp}{L:LN}{D D':Nat->Nat->LN->Prop}{ta:List Addr}{i j:Nat}
theorem mP:∀i,off i≤8*i
 |0=>le_refl _
 |i+1=>by have:=mP i;show off i+(8-i)≤_;lia
theorem xP.mono(h:xP H L D ta i j)(s:∀b xs,H b<*.tup xs->H' b<*.tup xs)(e:∀a b u,a<b->b<9->(∀c∈u,c∈L)->D a b u->D' a b u):xP H' L D' ta i j:=λa b ab d g=>by
 obtain⟨t,u,h1,h2,f,l,k⟩:=h a b ab d g;exact(t,u,h1,s _ _ h2,f,l,e a b u ab d f k)
theorem xP.snoc(h:xP H L D ta i j)(m:ta.length=off i+j)(g:H t<*.tup [.int (i:Int),.int ((i:Int)+1+(j:Int)),.str (tx u)])(f:∀c∈u,c∈L)(hz:u.length≤2100)(k:D i (i+1+j) u):xP H L D (ta++[t]) i (j+1):=λa b ab l n=>by
 by_cases e:a=i/\b=i+1+j
 .obtain ⟨rfl,rfl⟩:=e;refine(t,u,?_,g,f,hz,k);rw[show off a+(a+1+j-a-1)=ta.length by lia];exact nu _ _
 .obtain ⟨t',d,h1,h2⟩:=h a b ab l (!6);exact(t',d,by rw[getElem?_append_left (l' h1).1];exact h1,h2)
theorem xP.next(h:xP H L D ta i (8-i)):xP H L D ta (i+1) 0:=λa b ab c d=>h a b ab c (!6)
end
noncomputable def P9(H:Hp)(d:Addr)(L:LN)(S:LN->Prop):Prop:=∃(D tl:Addr)(vs:LL)(ta:List Addr),H d=some (vp d [("words",.ref D,),("tails",.ref tl,),("part",.non,)])/\H D=some (.lst (na vs))/\H tl=some (.lst (ta.map V.ref))/\vs.length=9/\ta.length=36/\(∀v∈vs,(∀c∈v,c∈L)/\v.length≤2100)/\
 xP H L (λa b u=>¬ (S (vs.getD a []++u)↔S (vs.getD b []++u))) ta 9 0
theorem P9.same(h:P9 H d L S)(s:a' H H'):P9 H' d L S:=by
 obtain⟨D,b,a,c,h1,h2,j,i,g,f,e⟩:=h;exact(D,b,a,c,s _ _ h1,s _ _ h2,s _ _ j,i,g,f,e.mono (λ_ _=>s _ _) λ_ _ _ _ _ _ z=>z)
theorem P9.congr(h:P9 H d L S)(e:∀u:LN,(∀c∈u,c∈L)->(S u↔s u)):P9 H d L s:=by
 obtain⟨D,k,f,l,h1,h2,r,j,q,i,p⟩:=h;refine(D,k,f,l,h1,h2,r,j,q,i,p.mono (λ_ _ z=>z) λa b u ab g m z=>?_);have w:∀a,a<9->∀c∈f.getD a []++u,c∈L:=λa o c n=>by
  rcases mem_append.mp n with y|y
  .rw [m8,j1 (by rw[j];exact o)]at y;exact(i _ (getElem_mem _)).1 c y
  .exact m c y
 rw[<-e _ (w a (lt_trans ab g)),<-e _ (w b g)];exact z
noncomputable def dw(cTM:Addr)(ts:List (Addr×List (Pos×Str)))(op:(LN->Bool)->LN->Prop):Sp:=λvs H Q E=>∃(m:Addr)(L:LN)(W:LL)(B:List Bool),vs=[.ref m]/\ol H m L W B/\g_ L W B/\W.length≤8/\gR ts H/\(∀d H',KT ts H H'->P9 H' d L (op (ub L W B))->E (.ref cTM) (some d) H')/\
 ∀(f:Addr)(W':LL)(B':List Bool)(H':Hp),KT ts H H'->ol H' f L W' B'->g_ L W' B'->W'.length≤8->(∃v,wY L W' B' v)->Q (.ref f) H'
noncomputable def bj(cTM:Addr)(ts:List (Addr×List (Pos×Str)))(op:(LN->Bool)->(LN->Bool)->LN->Prop):Sp:=λvs H Q E=>∃(m m2:Addr)(L:LN)(W1 W2:LL)(B1 B2:List Bool),vs=[.ref m,.ref m2]/\ol H m L W1 B1/\g_ L W1 B1/\ol H m2 L W2 B2/\g_ L W2 B2/\W1.length≤8/\W2.length≤8/\gR ts H/\(∀d H',KT ts H H'->P9 H' d L (op (ub L W1 B1) (ub L W2 B2))->E (.ref cTM) (some d) H')/\
 ∀(f:Addr)(W':LL)(B':List Bool)(H':Hp),KT ts H H'->ol H' f L W' B'->g_ L W' B'->W'.length≤8->(∃v,wY L W' B' v)->Q (.ref f) H'
noncomputable def A4(P Q:LN->Bool)(u:LN):Prop:=∃x v,u=x++v/\P x=true/\Q v=true
noncomputable def BH(P:LN->Bool)(u:LN):Prop:=P u.reverse=true
noncomputable def cc(P:LN->Bool)(u:LN):Prop:=P u=false
noncomputable def xA(r:Bool->Bool->Bool)(P Q:LN->Bool)(u:LN):Prop:=r (P u) (Q u)=true
theorem B9(h:m≤8):(uU R l m).length≤8:=by rw[uU,j_,length_range];exact h
theorem rk{d:Type}[DecidableEq d]{g:d->Nat->d}{L:LN}{s:d}{ks:List d}{ws:LL}{n k:Nat}(h:Bf g L s ks ws n k):∀(j:Nat)(b:LN),ws[j]?<*b->b.length≤j:=by
 intro j;induction j using Nat.strongRecOn with
 |_ j f=>
  intro b e;rcases h.par j b e with rfl|⟨p,q,a,hp,i,rfl,_⟩
  .exact zero_le _
  .have hpj:p<j:=by
    rcases lt_trichotomy p j with c|c|c
    .exact c
    .rw [c,e]at hp;have:=congrArg List.length (Option.some.inj hp);simp at this
    .have:=Bv (h.srt j p _ _ c e hp);simp at this;lia
   have:=f p hpj a hp;rw[uA];show a.length+1≤j;lia
theorem eM(d:Bf g L s ks ws ks.length 0)(a:wJ g L.length ks R)(e:R.length=ks.length)(f:g_ L R Bm)(b:ws[i]?<*v):(∀c∈v,c∈L)/\run L R 0 v=i/\v.length≤2100:=by
 have h:=Fe d a e b;have h1:=rk d i v b;have h2:=(l' b).1;have j:=f.n60;rw[<-d.len,<-e]at h2;exact(h.1,h.2,!6)
section
variable{L:LN}{W W1 W2:LL}{B B1 B2:List Bool}{P:LN->Prop}{x:LN}{T T':List Bool}{c:Nat}
noncomputable def C_(W:LL)(k:Nat)(T T':List Bool):Prop:=T'.length=W.length/\∀g,g<W.length->(T'.getD g false=true↔∃r,r<W.length/\T.getD r false=true/\goal W r k=g)
noncomputable def Bk(L:LN)(W:LL)(P:LN->Prop)(x:LN)(T:List Bool):Prop:=T.length=W.length/\∀r,r<W.length->(T.getD r false=true↔∃y z,x=y++z/\P y/\run L W 0 z=r)
theorem Bk.led(d:g_ L W B)(h:Bk L W P x T)(f:∀c∈x,c∈L)(l:C_ W (L.idxOf c) T T')(b:g<W.length):T'.getD g false=true↔∃y z,x=y++z/\P y/\run L W 0 (z++[c])=g:=by
 constructor
 .intro q;obtain⟨r,a,t,e⟩:=(l.2 g b).mp q;obtain⟨y,z,rfl,p,rfl⟩:=(h.2 r a).mp t;exact(y,z,rfl,p,by rw[uK];exact e)
 .rintro⟨y,z,rfl,p,e⟩;have a:=vQ d (w:=z) d.n1 λc i=>f c (by simp[i]);rw[uK]at e;exact(l.2 g b).mpr (_,a,(h.2 _ a).mpr (y,z,rfl,p,rfl),e)
theorem Bk.step(m:g_ L W B)(h:Bk L W P x T)(j:∀c∈x,c∈L)(l:C_ W (L.idxOf c) T T')(k:b=true↔P (x++[c])):Bk L W P (x++[c]) (T'.set 0 (T'.getD 0 false||b)):=by
 refine(by rw[List.length_set];exact l.1,λg i=>?_);have e:=h.led m j l i;rw[m8];by_cases f:g=0
 .subst f;rw[List.getElem?_set_self (by rw[l.1];exact i)];show(T'.getD 0 false||b)=true↔_;rw[Bool.or_eq_true,e,k];constructor
  .rintro (⟨y,z,rfl,p,r⟩|p)
   .exact (y,z++[c],by rw[append_assoc],p,r)
   .exact (x++[c],[],by rw[append_nil],p,rfl)
  .rintro⟨y,z,a,p,r⟩;by_cases hz:z=[]
   .subst hz;rw[append_nil]at a;exact .inr (a▸p)
   .obtain ⟨d,rfl,rfl⟩:=BF a hz;exact .inl (y,d,rfl,p,r)
 .rw [List.getElem?_set_ne (λz=>f z.symm),<-m8,e];constructor
  .rintro⟨y,z,rfl,p,r⟩;exact(y,z++[c],by rw[append_assoc],p,r)
  .rintro⟨y,z,a,p,r⟩;obtain⟨d,rfl,rfl⟩:=BF a (λhz=>by subst hz;exact f r.symm);exact(y,d,rfl,p,r)
theorem Bk.zero(f:T.length=W.length)(h:∀r,r<W.length->(T.getD r false=true↔r=0/\P [])):Bk L W P [] T:=by
 refine(f,λr d=>(h r d).trans (λb=>by obtain⟨e,p⟩:=b;exact([],[],rfl,p,e.symm),λa=>?_));obtain⟨y,z,e,p,q⟩:=a;obtain⟨rfl,rfl⟩:=List.append_eq_nil_iff.mp e.symm;exact(q.symm,p)
theorem Bk.mark(b:g_ L W B)(h:Bk L W P x T)(d:∀c∈x,c∈L):(∃r,r<W.length/\T.getD r false=true/\B.getD r false=true)↔∃y z,x=y++z/\P y/\ub L W B z=true:=by
 constructor
 .rintro⟨r,a,t,m⟩;obtain⟨y,z,rfl,p,rfl⟩:=(h.2 r a).mp t;exact(y,z,rfl,p,m)
 .rintro⟨y,z,rfl,p,m⟩;have a:=vQ b (w:=z) b.n1 λc e=>d c (by simp[e]);exact(_,a,(h.2 _ a).mpr (y,z,rfl,p,rfl),m)
theorem Bk.good(n:S=ub L W B)(f:g_ L W B)(h:Bk L W (Ag S) x T)(g:∀c∈x,c∈L)(k:c∈L)(l:C_ W (L.idxOf c) T T'):(∃r,r<W.length/\T'.getD r false=true/\B.getD r false=true)↔Ag S (x++[c]):=by
 subst n;constructor
 .rintro⟨r,b,t,m⟩;obtain⟨y,z,rfl,p,rfl⟩:=(h.led f g l b).mp t;rw[append_assoc];exact .more p (!1) m
 .intro a;obtain⟨y,v,e,i,p,m⟩:=a.last (!1);obtain⟨z,rfl,rfl⟩:=BF e i;have b:=vQ f (w:=z++[c]) f.n1 λd j=>by
   rcases mem_append.mp j with q|q
   .exact g d (by simp[q])
   .rw [uN q];exact k
  exact(_,b,(h.led f g l b).mpr (y,z,rfl,p,rfl),m)
end
noncomputable def zY(W:LL)(k i:Nat)(T T':List Bool):Prop:=T'.length=W.length/\∀g,g<W.length->(T'.getD g false=true↔∃r,r<i/\T.getD r false=true/\goal W r k=g)
section
variable{W:LL}{k i:Nat}{T T':List Bool}
theorem zY.zero:zY W k 0 T (replicate W.length false):=(length_replicate,λg b=>by
 rw[m8,List.getElem?_replicate,if_pos b];exact(λz=>(nomatch z),λa=>by obtain⟨r,h,_⟩:=a;exact absurd h (Nat.not_lt_zero r)))
theorem zY.no(h:zY W k i T T')(e:T.getD i false=false):zY W k (i+1) T T':=(h.1,λg d=>(h.2 g d).trans (λ⟨r,a,b⟩=>(r,lt_succ_of_lt a,b),λ⟨r,a,b,c⟩=>(r,(by
 rcases Nat.lt_succ_iff_lt_or_eq.mp a with a|a
 .exact a
 .rw [a,e]at b;cases b),b,c)))
theorem zY.yes(h:zY W k i T T')(e:T.getD i false=true):zY W k (i+1) T (T'.set (goal W i k) true):=(by rw[List.length_set];exact h.1,λg f=>by
 rw[m8];by_cases z:goal W i k=g
 .rw [z,List.getElem?_set_self (by rw[h.1];exact f)];exact(λ_=>(i,lt_succ_self _,e,z),λ_=>rfl)
 .rw [List.getElem?_set_ne z,<-m8,h.2 g f];exact(λd=>by obtain⟨r,a,b⟩:=d;exact(r,lt_succ_of_lt a,b),λ⟨r,a,b,c⟩=>(r,(by
   rcases Nat.lt_succ_iff_lt_or_eq.mp a with a|a
   .exact a
   .rw [a]at c;exact absurd c z),b,c)))
end
section
variable{σ:St}{H:Hp}{Q:VK}{i j:Nat}{a b:Bool}
theorem Fx(c:σ[i]?<*some (.bl a))(d:σ[j]?<*some (.bl b))(q:Q (.bl (a||b)) H):rP (aL i) (aL j) σ H Q:=by
 cases a
 .exact (_,c,_,rfl,ae (_,d,q))
 .exact (_,c,_,rfl,ai q)
theorem ut(c:σ[i]?<*some (.bl a))(d:σ[j]?<*some (.bl b))(q:Q (.bl (a&&b)) H):lW (aL i) (aL j) σ H Q:=by
 cases a
 .exact (_,c,_,rfl,ae q)
 .exact (_,c,_,rfl,ai (_,d,q))
theorem uu(c:σ[i]?<*some (.bl a))(d:σ[j]?<*some (.bl b))(q:Q (.bl (a&&!b)) H):lW (aL i) (pS (aL j)) σ H Q:=by
 cases a
 .exact (_,c,_,rfl,ae q)
 .exact (_,c,_,rfl,ai (_,d,_,rfl,q))
end
noncomputable def BI:Nat->(LN->Bool)->(LN->Bool)->LN->Prop
 |0,P,Q=>xA (λa b=>a||b) P Q
 |1,P,Q=>xA (λa b=>a&&b) P Q
 |2,P,Q=>xA (λa b=>a&&!b) P Q
 |3,P,_=>cc P
 |4,P,Q=>A4 P Q
 |5,P,_=>Ag P
 |_,P,_=>BH P
end L2
namespace L2
open PySem PySem.Spec PyProof.Rows
noncomputable def DZ(X:Cx)(pins:List (Addr×Obj))(F:St->XK):Value->Shared->Prop:=λev s'=>∃σ' H' s1,f' X pins σ' H' s1/\ve X.prog X.w X.stack H' s1 (F σ') ev s'
noncomputable def PX(X:Cx)(st:Stmt)(t:(St->XK)->TS):Prop:=
 ∀(pins:List (Addr×Obj))(s:Shared)(σ:St)(H:Hp)(D:Ends)(F:St->XK),f' X pins σ H s->t F D σ H->wpAny (model X.prog X.w) X.A (exec st X.env) (SP X pins D) (DZ X pins F) s
section
variable{X:Cx}{pins:List (Addr×Obj)}{σ:St}{H:Hp}{s:Shared}{x n y fx:Str}{R:Addr}{i j k:Nat}{np hpos pos p cp yp ap:Pos}{st a b b0:Stmt}{suite:List Stmt}{ts:TS}{D:Ends}{ps:List Str}{sp:Sp}{e c:Expr}{es:List Expr}{t:TA}{tc:TT}{τ τ':(St->XK)->TS}
theorem Au(F:vk X.prog X.w X.K X.mg X.base fx k ps sp)(L:ah k X.A)(O:PA X.nox (e::es) t)(M:Gl X fx)(B:(fx==("__debug__":Str))=false)(N:starEach (e::es) X.env=(false,eval e X.env,)::starEach es X.env)(v:(backTo cp (starEach es X.env)).any (·.1)=false)(I:f' X pins σ H s)(h:t σ H λm g=>sp m g Qv (G σ)):wpAny (model X.prog X.w) X.A (eval (.Call (.Name fx p) (e::es) [] cp) X.env) (EP X pins σ Qv) (DZ X pins G) s:=by
 obtain⟨f,T,h1,h2,P,F⟩:=F;refine wpAny_Call_Name_kw (uB I M h1 (callWith_K (h₀:=X.base) I.ok.mod.kin h2 (wpAny_mono (O cp pins s σ H _ (I.wish _) h) (λo l C=>?_) λ_ _ z=>z.elim) N v) B);obtain⟨m,g,S,r,q⟩:=C;have J:f' X pins σ g l:=S.unwish;refine(J.kIn,wpAny_call (codeAny_mono (F.run X.A X.stack l g (o,[]) o m Qv _ L J.env0 ?_ r q) λr s' d=>?_))
 .have E:=P l o J.kIn;rw[append_nil]at E;exact E (by rw[<-r.length];exact F.len _ _ _ _ q)
 .cases r with
  |error U=>exact(σ,g,l,J,d)
  |ok Q=>
   cases Q with
   |ret u=>exact J.after d
   |next=>exact False.elim d
   |brk=>exact False.elim d
   |cont=>exact False.elim d
noncomputable def rK(j:Nat)(sp:Sp)(t:TA):(St->XK)->TS:=λG D σ H=>t σ H λvs H1=>sp vs H1 (λv H2=>D.nx (σ.set j (some v)) H2) (G σ)
theorem qx(o:X.N.Nodup)(F:vk X.prog X.w X.K X.mg X.base fx k ps sp)(u:ah k X.A)(L:PA X.nox (e::es) t)(B:X.N[j]?<*y)(q:zd X.env.scope y)(C:Gl X fx:=by rfl)(f:(fx==("__debug__":Str))=false:=by decide)(J:starEach (e::es) X.env=(false,eval e X.env,)::starEach es X.env:=by rfl)(d:(backTo cp (starEach es X.env)).any (·.1)=false:=by rfl)(r:swapsWith (.Call (.Name fx p) (e::es) [] cp) (some (.Name y yp)) ap.line X.env=pure false:=by rfl)(E:X.fn y=true\/X.env.scope.names.lookup y<*.local:=by first|exact .inl rfl|exact .inr rfl):PX X (.Assign [.Name y yp] (.Call (.Name fx p) (e::es) [] cp) ap) (rK j sp t):=by
 intro pins s σ H D G I h;refine wpAny_Assign_Name (wpAny_mono (Au F u L C f J d I h) (λv Q g=>?_) λ_ _ z=>z) r;obtain⟨w,P,O,l,m⟩:=g;exact uX O o B q l (λs2 M=>(_,P,M,m)) E
theorem A5(h:PX X st τ)(I:f' X pins σ H s)(q:τ G D σ H):wpAny (model X.prog X.w) X.A (execs [st] X.env) (SP X pins D) (DZ X pins G) s:=by
 refine wpAny_execs_cons (n0 (h pins s σ H D G I q) λf d q=>?_);cases f with
 |next=>exact wpAny_execs_nil q
 |ret v=>exact q
 |brk=>exact q
 |cont=>exact q
noncomputable def rN(K:Frag)(R:Addr)(i:Nat)(τ:(St->XK)->TS)(ts:TS):TS:=λD σ H=>τ (λσ'=>oA K R i ts D σ') D σ H
theorem oV(G:tG X x n R i b0 suite ts)(h:PX X st τ):PS X (.Try [st] [.ExceptHandler (some (.Name x np)) (some n) (b0::suite) hpos] [] [] pos) (rN X.K R i τ ts):=by
 intro pins s σ H D I q;refine wpAny_Try_except (wpAny_mono (A5 h I q) (λf l q=>?_) λo s' d=>by obtain⟨g,H',l,J,m⟩:=d;exact nX G.hex G.hst G.hfr G.nd G.hi G.hk G.hl G.hf G.hg G.hm G.hs J m G.hd);cases f with
 |next=>exact wpAny_execs_nil q
 |ret v=>exact q
 |brk=>exact q
 |cont=>exact q
end
end L2
namespace L2
open PySem PySem.Spec PySem.W PyProof.Rows Builtin Builtin.ObjectAttr
theorem lp{prog:Program}{w:World}{A:Around}{K:Frag}(F:zo K C)(X:K.In s.heap)(J:InstAt s.heap e o C (some q))(y:hasDictIn K C=true)(r:vj K C f)(x:lookIn f q<*some v)(k:handedIn v=true)(h:Q v {s with toks:=s.toks+1}):wpAny (model prog w) A (getAttr (.ref e) f n) Q E s:=by
 obtain⟨hp,g,d,t,os⟩:=s;have b:=J.type (M:=model prog w);have z:=looks_findIn (M:=model prog w) X F.ga;have c:=looks_findIn (M:=model prog w) X F.noHook;have i:=looks_mroIn (M:=model prog w) X F.exc;have l:=looks_find (M:=model prog w) X J (findObj_own y r rfl x);have m:=PySem.F.attrBase_ValueError.ga.bind (.ref e);unfold getAttr getAttrBy;refine d_ (wpAny_mkText (wpAny_holding (d_ (b.at (d_ (z.at ?_))))));have a:(onTheHeap (.ref C)&&Value.builtin "BaseException.__getattribute__"==Value.builtin "object.__getattribute__")=false:=by
  rw[show(Value.builtin "BaseException.__getattribute__"==Value.builtin "object.__getattribute__")=false by decide +kernel,Bool.and_false]
 refine wpAny_ite_false (by rw[a];decide) ?_;unfold getAttrByItsOwn hookBefore callGetattribute boundAndCalled;have j:(n&&onTheHeap (Value.builtin "BaseException.__getattribute__"))=false:=by cases n<;>rfl
 refine d_ (wpAny_ite_true (!4) (c.at (d_ (wpAny_attempt (wpAny_holding (wpAny_ite_false (by rw[j];decide) (d_ (wpAny_of_eq m (wpAny_call ?_)))))))));refine codeAny_call_builtin PySem.F.attrBase_ValueError.ga.plain PySem.F.entry_bexc_ga ?_;have u:builtinKind "BaseException.__getattribute__"<*.slot:=by decide +kernel
 have p:splitId "BaseException.__getattribute__"<*("BaseException","__getattribute__",):=by decide +kernel
 have B:=PySem.F.args_bexc_ga (.ref e) (.str f t);simp only[checkBuiltinCall,u,p];refine d_ ?_;unfold isInstance;refine d_ (b.at (i.at ?_));refine wpAny_ite_false (!0) (wpAny_of_eq B ?_);refine d_ (j2 (d_ (j2 (d_ (b.at (d_ (l.at ?_)))))));refine j2 ?_;show wpAny _ _ (handedOut v) _ _ _;rw[handedOut_of k];exact j2 h
noncomputable def rV(K:Frag)(ta:TE)(f:Str):TE:=λσ H Q=>ta σ H λx H1=>∃e C d fs v,x=.ref e/\H1 e=some (gn e (.ref C) (some d))/\H1 d=some (vp d fs)/\zo K C/\gN K C/\vj K C f/\fs.lookup f=some v/\Q v H1
theorem wC(z:PE X e k)(A:attributeBase e f X.env (eval e X.env)=eval e X.env:=by rfl):PE X (.Attribute e f pos) (rV X.K k f):=by
 intro c s j H Q I h;refine xG A (n0 (z c s j H _ I h) λu R i=>?_);obtain⟨x,N,g,m,a,C,d,T,v,J,L,M,F,xc,n,l,q⟩:=i;subst J;obtain rfl:u=Value.ref a:=m;obtain⟨⟨o,G,E,⟨P,D⟩,B⟩,_⟩:=g.hok a _ L;obtain⟨⟨t,p,r,_⟩,_⟩:=g.hok d _ M;obtain⟨S,w,y⟩:=Dh p;obtain⟨O,hw,b⟩:=au.some_of (v:=v) (o:=t f) (by rw[<-l];exact r f);exact lp F g.kIn (G,E,by unfold notCls;rw[D],by rw[B d rfl];exact w) xc.hd n (by rw[y,hw]) (cD b) (v,N,g.tok _,b,q)
noncomputable def tZ(K:Frag):R2:=λx y H Q=>∃p q xs,x=.ref p/\y=.ref q/\lb K H p xs/\lb K H q xs/\xs.all yD=true/\Q (.bl false) H
theorem A6(E:X.A.units<cLine):vd X (compareOp .NotEq) (tZ X.K):=by
 intro o s O H x y v u Q I w t h;obtain⟨p,q,xs,rfl,rfl,hp,F,G,k⟩:=h;cases w;cases t;obtain⟨f,n,d,D⟩:=I.list hp;obtain⟨r,m,c,C⟩:=I.list F;have l1:=n.length;have l2:=m.length;refine SeqAt.RcNeAt.lists (e:=λ_=>true) d.isList c.isList (by simp;lia) E (λj h1 h2=>?_) _ _ _ _ (.bl _,H,I,rfl,?_)
 .have g:j<xs.length:=by simp at h1;lia
  obtain⟨a,L,B⟩:=n.get (i:=j) (j1 g);obtain⟨b,J,z⟩:=m.get (i:=j) (j1 g);have l:yD xs[j]=true:=all_eq_true.mp G _ (getElem_mem g);have e:=zi (A:=X.A.in1) (s:=s) B z l l;rw[nJ l]at e;obtain⟨_,N⟩:=l' L;obtain⟨_,M⟩:=l' J;simp only[List.getElem_toArray,N,M];exact e
 .have:(!((List.range f.toArray.size).all λ_=>true))=false:=by simp
  rw[this];exact k
end L2
namespace L2
open PySem
namespace RS
theorem D0:Manifest.owners.lookup (String.ofList ['d','e','s','r','e','v','e','r'].reverse)<*Manifest.sig_reversed:=by kernel_rfl
theorem b_g:Slot "reversed" "__next__" "reversed.__next__":=
 .of (owner:="reversed") (n:="__next__") (by rw[typeLookup_type,builtinLookup_eq_fast];kernel_rfl) (!3) (!3) (!3)
  (by first|exact .inl (!3)|exact .inr (!3)) (by rw[isSubtype_type];kernel_rfl)
theorem Ff:entryFor table "reversed.__next__"<*Builtin.«reversed.__next__»:=entryFor_of_tree (by kernel_rfl)
theorem cZ(a:Value):argsOk "reversed.__next__" ([a],[]):=by
 unfold argsOk;rw[signature?_of (id:="reversed.__next__") (n:=['_','_','t','x','e','n','_','_']) (o:=['d','e','s','r','e','v','e','r']) (by kernel_rfl) D0];kernel_rfl
theorem bX:Slot "reversed" "__iter__" "reversed.__iter__":=
 .of (owner:="reversed") (n:="__iter__") (by rw[typeLookup_type,builtinLookup_eq_fast];kernel_rfl) (!3) (!3) (!3)
  (by first|exact .inl (!3)|exact .inr (!3)) (by rw[isSubtype_type];kernel_rfl)
theorem lz(a:Value):argsOk "reversed.__iter__" ([a],[]):=by
 unfold argsOk;rw[signature?_of (id:="reversed.__iter__") (n:=['_','_','r','e','t','i','_','_']) (o:=['d','e','s','r','e','v','e','r']) (by kernel_rfl) D0];kernel_rfl
theorem iR:entryFor table "reversed.__iter__"<*Builtin.«dict_keyiterator.__iter__»:=
 entryFor_alias (id':="dict_keyiterator.__iter__") (by kernel_rfl) (by first|rfl|decide +kernel|(unfold String.splitOn;simp +decide [String.splitOnAux])) (!3) (by kernel_rfl)
theorem sL:typeLookup (.type "str") "__reversed__"=pure none:=by rw[typeLookup_type,builtinLookup_eq_fast];kernel_rfl
theorem j6:Slot "reversed" "__init__" "object.__init__":=
 .of (owner:="object") (n:="__init__") (by rw[typeLookup_type,builtinLookup_eq_fast];kernel_rfl) (!3) (!3) (!3)
  (by first|exact .inl (!3)|exact .inr (!3)) (by rw[isSubtype_type];kernel_rfl)
theorem rj:TypeCalled "reversed" "reversed.__new__" "object.__init__":=
 (!3,F.create_reversed,(_,_,F.mro_reversed),F.made_reversed,F.plain_reversed_new,F.sub_reversed_self,j6)
noncomputable def u5(x:Str)(t:Tok)(i:Int):Obj:={cls:=.type "reversed",data:=.fields #[.str x t,rawInt i]}
theorem pf(x:Str)(t:Tok):Meets (Builtin.«reversed.__new__» ([.type "reversed",.str x t],[])) (λ_ R s=>¬ (x.length:Int)≥2^63/\∀k,R (.ok (.ret (.ref s⁻¹))) {s with heap:=s.heap.push (u5 x t ((x.length:Int)-1)),toks:=k}):=
 .of_wp λprog w A R s h=>by
  obtain⟨b,h⟩:=h;have h1:=newClass_reversed (.str x t);have h2:=sL;have d:isSubtype (.type "str") (.type "dict")=pure false:=by rw[isSubtype_type];kernel_rfl
  have c:=F.slot_str_getitem.lookup;unfold Builtin.«reversed.__new__»;refine d_ (wpAny_of_eq h1 ?_);refine d_ (wpAny_of_eq (a:=()) (by first|rfl|kernel_rfl) ?_);refine d_ (wpAny_of_eq (a:=()) (by first|rfl|kernel_rfl) ?_)
  wp_walk using PyProof.Rows.len_str b
  exact(_,rfl,h _)
section
variable{prog:Program}{w:World}{A:Around}{E:Value->Shared->Prop}{s:Shared}{x:Str}{t:Tok}{it:Addr}
theorem zG(b:¬ (x.length:Int)≥2^63)(h:∀k,Q (.ref s⁻¹) {s with heap:=s.heap.push (u5 x t ((x.length:Int)-1)),toks:=k}):wpAny (model prog w) A (call (.type "reversed") [.str x t]) Q E s:=
 callType_new rj (!0) (F.typeCall_reversed_1 _) (F.newCall_reversed_1 _) (λa=>F.args_object_init_2 a _) F.entry_reversed_new (pf x t) (b,λk=>((_,get?_push_size _ rfl,rfl),h k))
theorem kG{i:Nat}(b:s.heap.get? it<*u5 x t (i:Int))(j:¬ (x.length:Int)≥2^63)(e:x.cps[i]?<*c)(h:∀h' k u,h'.get? it<*u5 x t ((i:Int)-1)->SameBut it s.heap h'->Q (some (.str ⟨#[c]⟩ u)) {s with heap:=h',toks:=k}):wpAny (model prog w) A (pyNext (.ref it)) Q E s:=by
 have ty:s.TypeIs (.ref it) "reversed":=(_,b,rfl);unfold pyNext;refine d_ (wpAny_attempt (wpAny_callSpecial?_slot (name:=Str.ofString "__next__") ty b_g (wpAny_call_entry b_g ty Ff ?_ (cZ _))));unfold Builtin.«reversed.__next__»;refine d_ (wpAny_of_eq (a:=(Value.ref it,[],)) rfl ?_);try dsimp only
 refine d_ (wpAny_field b rfl (x:=.str x t) rfl ?_);refine d_ (wpAny_field b rfl (x:=rawInt (i:Int)) rfl ?_);show wpAny _ _ (if (i:Int)<0 then _ else _) _ _ s;rw[if_neg (!6)];have l:=F.slot_str_getitem.lookup;have g:i<x.length:=(Array.getElem?_eq_some_iff.mp e).1;have f:(decide ((i:Int) < -(2^63:Int))||decide ((i:Int)≥2^63))=false:=by
  rw[decide_eq_false (!6),decide_eq_false (!6)];rfl
 have d:(seqIndex? (i:Int) x.length).bind (x.cps[·]?)<*c:=by
  rw[PySem.StrLaws.seqIndex_nonneg (!6) (!6)];exact e
 wp_walk using PyProof.Rows.getItem_str f d
 refine(_,rfl,j2 (h _ _ _ ?_ (SameBut.update ..)));rw[get?_update_self _ b (Obj.isFreed_of_fields (data_mapFields rfl _))];rfl
theorem mT(d:A.handled=none)(c:s.heap.get? it<*u5 x t (-1))(e:∀h',Heap.ExtBut it s.heap h'->Q none {s with heap:=h'}):wpAny (model prog w) A (pyNext (.ref it)) Q E s:=by
 have ty:s.TypeIs (.ref it) "reversed":=(_,c,rfl);unfold pyNext;refine d_ (wpAny_attempt (wpAny_callSpecial?_slot (name:=Str.ofString "__next__") ty b_g (wpAny_call_entry b_g ty Ff ?_ (cZ _))));unfold Builtin.«reversed.__next__»;refine d_ (wpAny_of_eq (a:=(Value.ref it,[],)) rfl ?_);try dsimp only
 refine d_ (wpAny_field c rfl (x:=.str x t) rfl ?_);refine d_ (wpAny_field c rfl (x:=rawInt (-1)) rfl ?_);show wpAny _ _ (if (-1:Int)<0 then _ else _) _ _ s;rw[if_pos (!0)]
 wp_walk
 simp only[raiseNew];refine d_ (wpAny_handled ?_);first|rw[show A.in1.handled=none from d]|rw[d]
 refine d_ (j2 (wpAny_throw ?_));refine d_ (wpAny_isInstance (T:="StopIteration") (b:=true) (_,get?_push_size _ rfl,rfl) isSubtype_stop ?_);exact j2 (e _ ((((SameBut.update ..).trans (SameBut.update ..)).extBut.push _).push _))
theorem D3(a:s.heap.get? it<*u5 x t i)(h:Q (.ref it) s):wpAny (model prog w) A (pyIter (.ref it)) Q E s:=by
 have ty:s.TypeIs (.ref it) "reversed":=(_,a,rfl);refine wpAny_pyIter_slot ty bX (wpAny_call_entry bX ty iR ?_ (lz _));exact j2 (_,rfl,"reversed",_,ty,b_g.lookup,h)
end
theorem B_(r:A.handled=none)(I:Addr)(n:¬ (x.length:Int)≥2^63):Walks prog w A I [I] [I] x.length (λi v=>∃c u,x.cps[x.length-1-i]?=some c/\v=.str ⟨#[c]⟩ u) (λi h=>i≤x.length/\h.get? I<*u5 x t ((x.length:Int)-1-(i:Int)))  where
 sub:=λb e=>e
 frame:=λ_ _ _ y p=>(y.1,p I (!1) _ y.2)
 item:=λi s Q E q y f=>by
  have a:=y.2;rw[show(x.length:Int)-1-(i:Int)=((x.length-1-i:Nat):Int) by omega]at a;have m:x.cps[x.length-1-i]?<*(x.cps[x.length-1-i]'(by show _<x.length;omega)):=Array.getElem?_eq_getElem _;refine kG a n m λh' k u d g=>?_;rw[show((x.length-1-i:Nat):Int)-1=(x.length:Int)-1-((i+1:Nat):Int) by omega]at d;exact f _ h' k (_,u,m,rfl) (q,d) λb o e l=>g.extBut b o (λh=>e (by simp[h])) l
 done:=λs Q E y f=>by
  have a:=y.2;rw[show(x.length:Int)-1-(x.length:Int)=-1 by lia]at a;exact mT r a λh' j=>f h' s.toks λb o e l=>j b o (λh=>e (by simp[h])) l
 self:=λ_ _ _ _ y f=>D3 y.2 f
theorem f_C:Slot "reversed" "__length_hint__" "reversed.__length_hint__":=
 .of (owner:="reversed") (n:="__length_hint__") (by rw[typeLookup_type,builtinLookup_eq_fast];kernel_rfl) (!3) (!3) (!3)
  (by first|exact .inl (!3)|exact .inr (!3)) (by rw[isSubtype_type];kernel_rfl)
theorem iS:entryFor table "reversed.__length_hint__"<*Builtin.«reversed.__length_hint__»:=entryFor_of_tree (by kernel_rfl)
theorem lE(a:Value):argsOk "reversed.__length_hint__" ([a],[]):=by
 unfold argsOk;rw[signature?_of (id:="reversed.__length_hint__") (n:=['_','_','t','n','i','h','_','h','t','g','n','e','l','_','_']) (o:=['d','e','s','r','e','v','e','r']) (by kernel_rfl) D0];kernel_rfl
theorem sM:typeLookup (.type "reversed") "__len__"=pure none:=by
 rw[typeLookup_type,builtinLookup_eq_fast];kernel_rfl
theorem re:splitId "reversed.__length_hint__"<*("reversed","__length_hint__",):=by decide +kernel
section
variable{prog:Program}{w:World}{A:Around}{E:Value->Shared->Prop}{s:Shared}{x:Str}{t:Tok}{I:Addr}
theorem gJ(b:s.heap.get? I<*u5 x t ((x.length:Int)-1))(c:¬ (x.length:Int)≥2^63)(h:∀k u,s.toks≤k->Q (.int x.length u) {s with toks:=k}):wpAny (model prog w) A (call (.builtin "reversed.__length_hint__") [.ref I]) Q E s:=by
 have ty:s.TypeIs (.ref I) "reversed":=(_,b,rfl);refine wpAny_call_entry f_C ty iS ?_ (lE _);unfold Builtin.«reversed.__length_hint__»;refine d_ (wpAny_of_eq (a:=Value.ref I) rfl ?_);refine d_ (wpAny_field b rfl (x:=.str x t) rfl ?_)
 wp_walk using PyProof.Rows.len_str c
 rw[show(x.length:Int)-1+1=x.length by lia];exact(_,rfl,h _ _ (by show s.toks≤s.toks+1+1+1;lia))
theorem hint(c:s.heap.get? I<*u5 x t ((x.length:Int)-1))(d:x.length≤16777216)(h:∀b k,s.toks≤k->Q b {s with toks:=k}):wpAny (model prog w) A (Builtin.List.listLengthHint (.ref I)) Q E s:=by
 have ty:s.TypeIs (.ref I) "reversed":=(_,c,rfl);unfold Builtin.List.listLengthHint;refine d_ (wpAny_specialOf ty sM ?_);dsimp only
 repeat' rw[if_neg (!0)]
 refine d_ (wpAny_specialOf ty f_C.lookup ?_);dsimp only;rw[re];dsimp only;refine d_ (wpAny_isInstance ty F.sub_reversed_self ?_);rw[if_neg (!0)];refine wpAny_ite_false (!3) ?_;refine d_ (wpAny_rule (d_ (wpAny_of_eq (f_C.bind _) ?_)));dsimp only;refine d_ (wpAny_attempt (gJ c (!6) λk u f=>?_));generalize e:(x.length:Int)=n at *;show wpAny _ _ (asInt? (.int n u)>>=_) _ _ _;refine d_ (wpAny_of_eq (a:=some n) rfl ?_);try dsimp only
 have h1:Builtin.List.listFitsIndex n=true:=by
  unfold Builtin.List.listFitsIndex;rw[decide_eq_true (!6),decide_eq_true (!6)];rfl
 have h2:Builtin.List.listTooLong n.toNat=false:=decide_eq_false (not_lt.mpr (by rw[<-e,toNat_natCast];exact o9 d));rw[h1,if_neg (!0),if_neg (!6),h2,if_neg (!0)];exact j2 (h _ _ f)
theorem nv(W:Walks prog w A.in1 I [I] [I] x.length P (λi h=>i≤x.length/\h.get? I<*u5 x t ((x.length:Int)-1-(i:Int))))(u:s.heap.get? I<*u5 x t ((x.length:Int)-1))(D:x.length≤16777216)(H:∀s' d,Moved [I] (λa b=>b=a) s s'->ItemsOf P d x.length->Q d.toList s'):wpAny (model prog w) A (collect (.ref I)) Q E s:=by
 have L:=lt_size u;have B:s⁻¹≠I:=ne_of_gt L;have q:Builtin.List.listSameRef (.ref s⁻¹) (.ref I)=false:=by simp[Builtin.List.listSameRef,B]
 have g:(s.heap.push {cls:=.type "list",data:=.seq ([]:List Value).toArray}).get? s⁻¹<*{cls:=.type "list",data:=.seq ([]:List Value).toArray}:=get?_push_size _ rfl;have l:∀(R:Result->Shared->Prop)(r:Shared)(c:Nat),(∀s' d c,Moved [I] (λa b=>b=a) s s'->s'.heap.get? s⁻¹<*{cls:=.type "list",data:=.seq d c}->ItemsOf P d x.length->R (.ok (.ret (.ref s⁻¹))) s')->
   r.heap.get? I<*u5 x t ((x.length:Int)-1)->r.heap.get? s⁻¹<*{cls:=.type "list",data:=.seq #[] c}->Moved [s⁻¹] (λa b=>b=a) s r->
   codeAny (model prog w) A (.builtin "list.extend.loop" ([.ref s⁻¹,.ref I,.ref s⁻¹],[])) R r:=λR r c J h1 h2 p=>by
  refine codeAny_extend_loopS W.toS (o9 D) _ (by simpa using B) _ x.length 0 r #[] c rfl (zero_le _) (zero_le _,by rw[h1];simp) h2 (ItemsOf.nil P) λs' d M j y f=>?_;refine J s' d M (λb o n e=>?_,j.gens.trans p.gens,j.drawn.trans p.drawn,j.os.trans p.os,le_trans p.toks j.toks) y f;have v:b≠s⁻¹:=ne_of_lt (lt_size e);refine j.heap b o (λz=>?_) (p.heap b o (by simpa using v) e);rcases mem_cons.mp z with z|z
  .exact v z
  .exact n z
 unfold collect;refine d_ (wpAny_runValue (codeAny_builtin F.entry_proto_collect ?_));rw[Around.under_plainId F.plain_proto_collect _];refine d_ (m:=newList []) (wpAny_newObj_type (j2 (plainId_quiet F.plain_list_iadd _,codeAny_builtin F.entry_list_iadd ?_)));rw[Around.under_plainId F.plain_list_iadd _];have h1:(s.heap.push {cls:=.type "list",data:=.seq ([]:List Value).toArray}).get? I<*u5 x t ((x.length:Int)-1):=nb _ u;have C:Moved [s⁻¹] (λa b=>b=a) s {s with heap:=s.heap.push {cls:=.type "list",data:=.seq ([]:List Value).toArray} }:=(λb o n e=>nb _ e,rfl,rfl,rfl,le_refl _);show wpAny _ A.in1 (Builtin.List.listExtendWith (.ref s⁻¹) (.ref I) (.ref s⁻¹)) _ _ _;unfold Builtin.List.listExtendWith;refine d_ (wpAny_typeOf (_,h1,rfl) (wpAny_ite_false (by rw[q];decide) (d_ (D3 h1 (d_ (wpAny_holding (hint h1 D λb k G=>?_)))))));cases b with
 |false=>
  refine wpAny_ite_false (!3) (j2 (plainId_quiet F.plain_extend_loop _,l _ _ 0 (λs' d c j y f=>?_) h1 g (C.heap,rfl,rfl,rfl,G)))
  .exact d_ (wpAny_load y (j2 (H s' d j f)))
 |true=>
  refine wpAny_ite_true (!3) (d_ (wpAny_rule (d_ ?_)));show wpAny _ _ (updateSeq _ (·.push .none)>>=λ_=>updateSeq _ (·.pop)) _ _ _;refine d_ (wpAny_updateSeq g rfl ?_);have p:=get?_update_self (mapSeq (·.push Value.none)) g rfl;refine wpAny_updateSeq p rfl (j2 (plainId_quiet F.plain_extend_loop _,l _ _ _ (λs' d c j y f=>?_) ?_ (get?_update_self (mapSeq (·.pop)) p rfl) (λb o n e=>?_,rfl,rfl,rfl,G)))
  .exact d_ (wpAny_load y (j2 (H s' d j f)))
  .exact (get?_update_other _ _ B).trans ((get?_update_other _ _ B).trans h1)
  .have n:s⁻¹≠b:=λz=>n (by simp[z]);exact(get?_update_other _ _ n).trans ((get?_update_other _ _ n).trans (C.heap b o (λz=>n (uN z).symm) e))
theorem A7(W:Walks prog w A.in1.in1 I [I] [I] x.length P (λi h=>i≤x.length/\h.get? I<*u5 x t ((x.length:Int)-1-(i:Int))))(m:s.heap.get? I<*u5 x t ((x.length:Int)-1))(y:x.length≤16777216)(q:∀c:Array Value,ItemsOf P c x.length->∃l:List (Str×Tok),strValues l=c.toList/\l.map (·.1)=ys)(p:JoinOk z ys=true)(B:∀s',Moved [I] (λa b=>b=a) s s'->∀t' k,Q (.str (Txt.join z ys) t') {s' with toks:=k}):wpAny (model prog w) A (call (.builtin "str.join") [.str z tz,.ref I]) Q E s:=by
 have j:Builtin.Str.tooLong (ys.toArray.foldl (·+·.length+z.length) 0)=false:=by
  unfold JoinOk at p;simpa using p
 have o:∀(c:Array Value)(s':Shared),Moved [I] (λa b=>b=a) s s'->ItemsOf P c x.length->wpAny (model prog w) A.in1 (joinTail z c.toList) (λu s'=>match u with|.done f=>wants Q E (.ok f) s'|.again v=>v.quiet=true/\codeAny (model prog w) A v (wants Q E) s') (λe s'=>wants Q E (.error e) s') s':=λc s' r d=>by
  obtain⟨l,D,C⟩:=q c d;subst C;rw[<-D];have n:Gives (joinTail z (strValues l)) (joinMade z l):=by
   have g:=gives_joinTail z l j;match l with
   |[]|[_]|_::_::_=>exact g
  exact n prog w A (wants Q E) s' (post_join l (joinFit_length j,B s' r))
 refine wpAny_call (codeAny_call_builtin F.slot_str_join.plain F.entry_str_join (F.slot_str_join.check _ _ _ _ _ _ _ _ (typeIs_str _ _ _) (F.args_str_join_2 _ _) ?_));rw[join_tree_other];refine d_ (wpAny_typeOf (_,m,rfl) (wpAny_ite_false (!0) (d_ (wpAny_tryCatch (D3 m (d_ ?_))))));exact nv W m y λs' c r d=>o c s' r d
end
end RS
end L2
namespace L2
open PySem PySem.Spec PyProof.Rows RA
section
variable{X:Cx}
noncomputable def j0(to:TE)(t:TA):TE:=λσ H Q=>to σ H λx H1=>x=.str (Str.ofString "")/\t σ H1 λvs H2=>∃v:LN,vs=[.str (tx v)]/\v.length≤16777216/\Q (.str (tx v.reverse)) H2
theorem jh:∀(b:LN)(d:List Value),d.length=b.length->(∀(i:Nat)(a:Value)(c:Nat),d[i]?<*a->b[i]?<*c->∃u,a=.str ⟨#[c]⟩ u)->∃l:List (Str×Tok),strValues l=d/\l.map (·.1)=b.map λc=>(⟨#[c]⟩:Str)
 |[],[],_,_=>([],rfl,rfl)
 |c::b,a::d,h,k=>by
  obtain⟨u,rfl⟩:=k 0 a c rfl rfl;obtain⟨l,rfl,e⟩:=jh b d (Nat.succ.inj h) λi a c x y=>k (i+1) a c x y;exact((⟨#[c]⟩,u,)::l,rfl,by rw[map_cons,e];rfl)
theorem fz{n d p pos:Pos}(D:X.calm=true)(ho:PE X o to)(E:PA X [e] t)(hg:Gl X "reversed")(z:X.mg "reversed"=none)(y:attributeBase o "join" X.env (eval o X.env)=eval o X.env:=by rfl)(C:((backTo d (starEach [Expr.Call (.Name "reversed" p) [e] [] pos] X.env)).all (λx=>!x.1)&&(backToKw d (keywordEach [] X.env)).all (λx=>x.1.isSome)
   && decide (([Expr.Call (.Name "reversed" p) [e] [] pos]:List Expr).length+([]:List Keyword).length+(if ([]:List Keyword).isEmpty then 0 else 1)<30))=true:=by rfl)(r:(n.endLine==d.line)=true:=by rfl)(hs:starEach [Expr.Call (.Name "reversed" p) [e] [] pos] X.env=(false,eval (.Call (.Name "reversed" p) [e] [] pos) X.env,)::starEach [] X.env:=by rfl)(l:(backTo d (starEach [] X.env)).any (·.1)=false:=by rfl)(O:starEach [e] X.env=(false,eval e X.env,)::starEach [] X.env:=by rfl)(B:(backTo pos (starEach [] X.env)).any (·.1)=false:=by rfl):PE X (.Call (.Attribute o "join" n) [.Call (.Name "reversed" p) [e] [] pos] [] d) (j0 to t):=by
 intro f s M H Q I h;refine wpAny_Call_method_late y C r rfl (n0 (ho f s M H _ I h) λv N R=>?_);obtain⟨x,H1,U,r1,ex,q1⟩:=R;subst ex;obtain⟨Y,rfl⟩:=r1;refine("str","str.join",plainAttrs_str,PySem.F.slot_str_join,PySem.F.type_str_join,typeIs_str N _ Y,(λ_ e=>nomatch e),?_);rw[hs];refine Calls.callWith_builtin (by show(false||(backTo d (starEach [] X.env)).any (·.1))=false;rw[l];rfl) (Calls.evalArgs_plain ?_);show wpAny _ _ (spliced ((false,eval (Expr.Call (.Name "reversed" p) [e] [] pos) X.env,)::backTo d (starEach [] X.env))) _ _ N;refine Calls.spliced_cons (wpAny_Call_Name_kw (t5 U hg z PyProof.Rows.boot_reversed (PyProof.Rows.callWith_type1 (n0 (E pos f N M H1 _ U q1) λus s2 P=>?_) O B)));obtain⟨vs,L,J,r2,v,ev,hz,q⟩:=P;subst ev;obtain⟨u,rfl,Z⟩:=xm r2;obtain⟨S,rfl⟩:=Z;have j:(tx v).length=v.length:=vn v;have T:¬ ((tx v).length:Int)≥2^63:=by rw[j];lia
 refine RS.zG T λk0=>Calls.spliced_nil ?_;have W:∀b u,s2.heap.get? b<*u->(s2.heap.push (RS.u5 (tx v) S (((tx v).length:Int)-1))).get? b<*u:=λb u e=>nb _ e;have I3:f' X f M L {s2 with heap:=s2.heap.push (RS.u5 (tx v) S (((tx v).length:Int)-1)),toks:=k0}:=J.kept (t':=k0) W;obtain⟨f0,f1,f2,f3,f4,f5⟩:=J.fpOk (H':=L) (le_refl _) (J.hok.fresh (le_refl _));refine RS.A7 (ys:=v.reverse.map λc=>(⟨#[c]⟩:Str)) (RS.B_ (prog:=X.prog) (w:=X.w) (A:=X.A.in1.in1) (J.ok.hd D) s2⁻¹ T) (get?_push_size _ rfl) (by rw[j];exact hz) (λab m=>?_) ?_ (λs' z t' k=>?_)
 .refine jh _ _ (by rw[length_reverse,<-j];exact m.1) λi a c E D=>?_;rw[getElem?_toList]at E;obtain⟨c',u,G,rfl⟩:=m.2 i a E;have hi:i<v.length:=by
   have:=(l' D).1
   rwa [length_reverse]at this
  rw[List.getElem?_reverse hi]at D;rw[j,dh,D]at G;cases G;exact(u,rfl)
 .exact joinOk_of (kQ v.reverse (by rw[length_reverse];exact hz))
 .obtain ⟨hh,g,dr,tt,os⟩:=s';have G:g=s2.gens:=z.gens;have e2:dr=s2.drawn:=z.drawn;have e3:os=s2.os:=z.os;subst G e2 e3;refine(.str _,L,I3.turned (h':=hh) (t':=k) (λb o hb e=>z.heap b o (by simpa using hb) e) f0 f1 f3 f4 f5,(t',rfl),?_);show Q (.str (Txt.join Str.empty _)) L;rw[iG];exact q
end
end L2
namespace L2
open PySem
section
variable{X:Cx}{a b e e1 e2 e3 e4:Expr}{ta tb te t1 t2 t3 t4:TE}{pos p:Pos}{o:Expr}{x:Str}
theorem m_(h:PE X e te)(c:starEach [e] X.env=(false,eval e X.env,)::starEach [] X.env:=by rfl):PA X [e] (vq te tNil):=v_ h zN c
theorem pu(h1:PE X e1 t1)(h2:PE X e2 t2)(c:starEach [e1,e2] X.env=(false,eval e1 X.env,)::starEach [e2] X.env:=by rfl)(s2:starEach [e2] X.env=(false,eval e2 X.env,)::starEach [] X.env:=by rfl):PA X [e1,e2] (vq t1 (vq t2 tNil)):=v_ h1 (m_ h2 s2) c
theorem vg(h1:PE X e1 t1)(h2:PE X e2 t2)(f:PE X e3 t3)(d:starEach [e1,e2,e3] X.env=(false,eval e1 X.env,)::starEach [e2,e3] X.env:=by rfl)(s2:starEach [e2,e3] X.env=(false,eval e2 X.env,)::starEach [e3] X.env:=by rfl)(c:starEach [e3] X.env=(false,eval e3 X.env,)::starEach [] X.env:=by rfl):PA X [e1,e2,e3] (vq t1 (vq t2 (vq t3 tNil))):=v_ h1 (pu h2 f s2 c) d
theorem wK(f:PE X a ta)(d:PE X b tb)(c:eE b:=by exact λ_ _=>rfl):PE X (.Subscript a b pos) (zf (ik X.K) ta tb):=nT dP f d c
theorem u6(f:PE X a ta)(d:PE X b tb)(c:eE b:=by exact λ_ _=>rfl):PE X (.Subscript a b pos) (zf (mo X.K) ta tb):=nT dQ f d c
theorem p'(i:Nat){k:Int}{j}{c:Pos}(h:X.N[i]?<*x:=by rfl)(f:AQ X.env.scope x:=by first|exact Or.inl rfl|exact Or.inr (Or.inl rfl)|exact Or.inr (Or.inr rfl))(g:(x==("__debug__":Str))=false:=by decide)(d:(x==("__classdict__":Str))=false:=by decide):PE X (.Subscript (.Name x p) (.Constant (.int k) j c) pos) (zf (ik X.K) (aL i) (tC (.int k))):=nT dP (pv i h f g d) c_ (λ_ _=>rfl)
theorem wa(f:X.mg "len"=none)(h:PE X e te)(g:Gl X "len":=by rfl)(d:starEach [e] X.env=(false,eval e X.env,)::starEach [] X.env:=by rfl)(c:(backTo pos (starEach [] X.env)).any (·.1)=false:=by rfl):PE X (.Call (.Name "len" p) [e] [] pos) (vX (λxs H Q=>∃p ys,xs=[.ref p]/\(lb X.K H p ys\/pa X.K H p ys)/\Q (.int ys.length) H) (vq te tNil)):=vx Bi g f boot_len (m_ h d) (!0) (!0) d c
theorem BJ(f:X.mg "len"=none)(h:PE X e te)(g:Gl X "len":=by rfl)(d:starEach [e] X.env=(false,eval e X.env,)::starEach [] X.env:=by rfl)(c:(backTo pos (starEach [] X.env)).any (·.1)=false:=by rfl):PE X (.Call (.Name "len" p) [e] [] pos) (vX (λxs H Q=>∃z,xs=[.str z]/\z.length≤sizeLine/\Q (.int z.length) H) (vq te tNil)):=vx EI g f boot_len (m_ h d) (!0) (!0) d c
theorem zZ(d:PE X a ta)(c:PE X b tb):PT X (.Compare a [.NotEq] [b] pos) (jf (zf rNe ta tb)):=wt sD d c (vz _)
theorem yA(d:PE X a ta)(c:PE X b tb):PT X (.Compare a [.Eq] [b] pos) (jf (zf rEq ta tb)):=wt zg d c (vz _)
theorem oI(i:Nat){c:Pos}(k:X.N.Nodup)(j:PE X e te)(g:X.N[i]?<*x:=by rfl)(d:zd X.env.scope x:=by first|exact Or.inl rfl|exact Or.inr rfl)(f:swapsWith e (some (.Name x c)) pos.line X.env=pure false:=by rfl)(h:X.fn x=true\/X.env.scope.names.lookup x<*.local:=by first|exact .inl rfl|exact .inr rfl|assumption):PS X (.Assign [.Name x c] e pos) (aD te (vW i)):=qy k g d j f h
theorem v5(i:Nat)(g:X.N.Nodup)(d:X.N[i]?<*x:=by rfl)(c:zd X.env.scope x:=by first|exact Or.inl rfl|exact Or.inr rfl)(f:X.fn x=true\/X.env.scope.names.lookup x<*.local:=by first|exact .inl rfl|exact .inr rfl|assumption):PG X (.Name x pos) (vW i):=BQ g d c f
theorem wb{d c:Pos}(g:PE X o t1)(h:PE X e te)(k:attributeBase o "append" X.env (eval o X.env)=eval o X.env:=by rfl)(j:((backTo c (starEach [e] X.env)).all (λx=>!x.1)&&(backToKw c (keywordEach [] X.env)).all (λx=>x.1.isSome)&&decide ([e].length+([]:List Keyword).length+(if ([]:List Keyword).isEmpty then 0 else 1)<30))=true:=by rfl)(i:(d.endLine==c.line)=true:=by rfl)(f:starEach [e] X.env=(false,eval e X.env,)::starEach [] X.env:=by rfl)(hp:(backTo c (starEach [] X.env)).any (·.1)=false:=by rfl):PE X (.Call (.Attribute o "append" d) [e] [] c) (xa X.K "list" rAppend t1 (vq te tNil)):=be plainAttrs_list PySem.F.slot_list_append PySem.F.type_list_append Dn g (m_ h f) k j i f hp
theorem vU{c:Pos}(i:X.mg "isinstance"=none)(j:X.mg n=none)(g:bootBuiltins n<*.type T)(h:PE X e te)(l:Gl X "isinstance":=by rfl)(k:Gl X n:=by rfl)(n1:n≠"__name__":=by decide)(f:(n==("__debug__":Str))=false:=by decide)(d:starEach [e,.Name n c] X.env=(false,eval e X.env,)::starEach [.Name n c] X.env:=by rfl)(s2:starEach [.Name n c] X.env=(false,eval (.Name n c) X.env,)::starEach [] X.env:=by rfl)(hp:(backTo pos (starEach [.Name n c] X.env)).any (·.1)=false:=by rfl):PE X (.Call (.Name "isinstance" p) [e,.Name n c] [] pos) (vX (λxs H Q=>∃x t b,xs=[x,.ty T]/\af X.K H x t/\PySem.W.kitOne X.K t (.type T)=some b/\Q (.bl b) H) (vq te (vq (tC (.ty T)) tNil))):=vx (gK (T:=T)) l i boot_isinstance (pu h (Ci (v:=.ty T) k j g rfl n1 f) d s2) (!0) (!0) d hp
section
variable{K:Frag}{H:Hp}{Q:VK}{c:Addr}{xs:List V}{v x0 x1 x2 x3:V}{i:Int}{l:List V}
theorem v6(d:H c<*.tup xs)(f:vt xs i<*v)(q:Q v H):ik K (.ref c) (.int i) H Q:=(c,_,_,_,rfl,rfl,pa.of d,f,q)
theorem u_(d:H c<*.lst xs)(f:vt xs i<*v)(q:Q v H):mo K (.ref c) (.int i) H Q:=(c,_,_,_,rfl,rfl,lb.of d,f,q)
theorem o_(g:H c<*.tup xs)(h:vt xs i<*v)(q:Q v H)(f:d[n]?<*some (.ref c):=by rfl):zf (ik K) (aL n) (tC (.int i)) d H Q:=(_,f,c,_,_,_,rfl,rfl,pa.of g,h,q)
theorem aw:vt (x0::l) 0<*x0:=vJ (j:=0) rfl
theorem ax:vt (x0::x1::l) 1<*x1:=vJ (j:=1) rfl
theorem ay:vt (x0::x1::x2::l) 2<*x2:=vJ (j:=2) rfl
end
end
theorem uH{N P:List Str}{sc:Scope}(a:sc.kind=.function:=by rfl)(b:sc.isCoroutine=false:=by rfl)(c:sc.isGenerator=false:=by rfl)(d:N.Nodup:=by decide +kernel)(e:N.take P.length=P:=by rfl)(f:∀x∈P,sc.names.lookup x<*.local\/sc.names.lookup x<*.cell:=by decide +kernel)(g:∀y∈sc.names,y.2≠.free:=by decide +kernel):s_ N P sc:=(a,b,c,d,e,f,g)
noncomputable def tI(K:Frag)(x:Str)(st:Stmt)(f:Addr):Prop:=∃fd,tS K x x st f fd
theorem vy(e:K.lookup f<*(c,b,.func d,a)):keepIn K (.ref f)=true:=by
 unfold keepIn;dsimp only;rw[show List.lookup f K=_ from e]
theorem Ca{kV doc pm ct:Value}(l:K.lookup f<*(e,d,.func (fnOf x x (nt st) (ln st) (h7 st) .none kV doc pm an (.ref b) ct),a))(c:codeIn K (.ref b) x=true):tI K x st f:=(_,xU l c (vy l))
theorem Cb{P:Program}{w:World}{K:Frag}{mg:Str->Option Value}{base h:Heap}(X:K.In h)(G:h.Ns mainGlobals mg){x:Str}{k:Nat}{ps:List Str}{d:Sp}{f:Addr}{c:FuncData}{st:Stmt}(a:nsIn K mainGlobals x<*some (.ref f))(F:tS K x x st f c)(b:vw K c ps [])(o:aa P w K mg base nq k f c ps d):Df P w K mg base x k ps d:=(f,c,mg_of X G a,F.kp,b,o)
theorem xB{b:Type}{l:List b}(h:l.length=1):∃a,l=[a]:=List.length_eq_one_iff.mp h
theorem A8{c:Type}{l:List c}(h:l.length=2):∃a b,l=[a,b]:=by
 cases l with
 |nil=>cases h
 |cons a t=>obtain⟨b,rfl⟩:=xB (Nat.succ.inj h);exact(a,b,rfl)
theorem D4{d:Type}{l:List d}(h:l.length=3):∃a b c,l=[a,b,c]:=by
 cases l with
 |nil=>cases h
 |cons a t=>obtain⟨b,c,rfl⟩:=A8 (Nat.succ.inj h);exact(a,b,c,rfl)
theorem D5{e:Type}{l:List e}(h:l.length=4):∃a b c d,l=[a,b,c,d]:=by
 cases l with
 |nil=>cases h
 |cons a t=>obtain⟨b,c,d,rfl⟩:=D4 (Nat.succ.inj h);exact(a,b,c,d,rfl)
theorem Fy{f:Type}{l:List f}(h:l.length=5):∃a b c d e,l=[a,b,c,d,e]:=by
 cases l with
 |nil=>cases h
 |cons a t=>obtain⟨b,c,d,e,rfl⟩:=D5 (Nat.succ.inj h);exact(a,b,c,d,e,rfl)
theorem xC(F:tS K x x st f c)(h:∀(kV doc pm:Value)(an:Option Addr)(cdv ct a:Value),bindArgs (fnOf x x (nt st) (ln st) (h7 st) .none kV doc pm an cdv ct) ([a],[])=pure ([q0].zip [a])):vw K c [q0] []:=F.binds λ_ _ _ _ _ _ d b=>by obtain⟨_,rfl⟩:=xB b;exact h _ _ _ _ _ _ _
theorem wL(F:tS K x x st f e)(h:∀(kV doc pm:Value)(an:Option Addr)(cdv ct b a:Value),bindArgs (fnOf x x (nt st) (ln st) (h7 st) .none kV doc pm an cdv ct) ([b,a],[])=pure ([q0,c].zip [b,a])):vw K e [q0,c] []:=F.binds λ_ _ _ _ _ _ g d=>by obtain⟨_,_,rfl⟩:=A8 d;exact h _ _ _ _ _ _ _ _
theorem z5(F:tS K x x st f i)(h:∀(kV doc pm:Value)(an:Option Addr)(cdv ct c b a:Value),bindArgs (fnOf x x (nt st) (ln st) (h7 st) .none kV doc pm an cdv ct) ([c,b,a],[])=pure ([q0,e,d].zip [c,b,a])):vw K i [q0,e,d] []:=F.binds λ_ _ _ _ _ _ j g=>by obtain⟨_,_,_,rfl⟩:=D4 g;exact h _ _ _ _ _ _ _ _ _
theorem D6(F:tS K x x st f k)(h:∀(kV doc pm:Value)(an:Option Addr)(cdv ct d c b a:Value),bindArgs (fnOf x x (nt st) (ln st) (h7 st) .none kV doc pm an cdv ct) ([d,c,b,a],[])=pure ([q0,i,g,e].zip [d,c,b,a])):vw K k [q0,i,g,e] []:=F.binds λ_ _ _ _ _ _ l j=>by obtain⟨_,_,_,_,rfl⟩:=D5 j;exact h _ _ _ _ _ _ _ _ _ _
theorem Fz(F:tS K x x st f m)(h:∀(kV doc pm:Value)(an:Option Addr)(cdv ct e d c b a:Value),bindArgs (fnOf x x (nt st) (ln st) (h7 st) .none kV doc pm an cdv ct) ([e,d,c,b,a],[])=pure ([q0,k,j,i,g].zip [e,d,c,b,a])):vw K m [q0,k,j,i,g] []:=F.binds λ_ _ _ _ _ _ n l=>by obtain⟨_,_,_,_,_,rfl⟩:=Fy l;exact h _ _ _ _ _ _ _ _ _ _ _
end L2
namespace L2
open PySem PySem.Spec PyProof.Rows
theorem tS.okA{P:Program}{w:World}{K:Frag}{st:Stmt}(F:tS K x qual st f e)(S:s_ N ps (h7 st))(b:∀(cdv:Value)(A:Around)(a:List Env)(s:Shared)(H:Hp)(c:List V)(Q:VK)(E:XK),ah k (A.deeper (envOfC qual (h7 st) s⁻¹ f cdv))->d c H Q E->
   ∃t,vH (aK nq P w K mg base N qual (h7 st) f cdv A a s H E).nox (ln st) t/\t {nx:=λ_ H'=>Q .non H',rt:=Q} (start N c) H)(len:∀c H Q E,d c H Q E->c.length=ps.length:=by intro _ _ _ _ h;(repeat obtain⟨_,h⟩:=h);subst_vars;rfl):aa P w K mg base nq (k+1) f e ps d:=F.ok S len b
noncomputable def vh(K:Frag)(x:Str)(st:Stmt):Prop:=∃f,nsIn K mainGlobals x=some (some (.ref f))/\tI K x st f
end L2
section
seal L2.PE L2.PT L2.PW L2.PA L2.PS L2.vH L2.PG L2.Cj L2.PI L2.AB L2.PX
namespace K25
open PySem L2 RA
noncomputable def uI(i:Nat):Stmt:=PySem.Challenge.pw_roomalgebra_k25_eight_rooms_or_nine_word.main.body.getD i (.Pass (0,0,0,0))
abbrev Q0:Str:="machine"
abbrev Q3:Str:="second"
abbrev Q4:Str:="letters"
abbrev Q5:Str:="rooms"
abbrev Q6:Str:="things"
abbrev Q7:Str:="words"
abbrev Q9:Str:="is_marked"
abbrev Z0:Str:="walk"
abbrev Z1:Str:="place"
abbrev Z5:Str:="lots"
abbrev Z7:Str:="goals_of"
abbrev Z8:Str:="room"
abbrev Y0:Str:="ways"
abbrev Y2:Str:="one"
abbrev Y3:Str:="two"
abbrev vm:Stmt:=uI 23
abbrev v7:Stmt:=uI 24
abbrev qv:Stmt:=uI 22
abbrev BK:Stmt:=jC qv 0
structure Av(K:Frag)(mg:Str->Option Value)(cW fI:Addr)(fdI:FuncData):Prop where
 kW:mg "Walk"<*.ref cW
 cls:zM K cW
 mkW:Mk K cW fI
 na1:vj K cW Q4
 na2:vj K cW Q6
 na3:vj K cW Q7
 na4:vj K cW Y0
 na5:vj K cW "marks"
 ini:tS K "__init__" "Walk.__init__" BK fI fdI
theorem mh:s_ ["self",Q4,"start"] ["self",Q4,"start"] (h7 BK):=uH
theorem mL(p:Av K mg l fI fdI):aa P w K mg base nq 1 fI fdI ["self",Q4,"start"] (lY l):=by
 refine p.ini.ok mh (λT H Q E h=>?_) (λcdv A M s H T Q E hr h=>?_)
 .obtain ⟨x,dx,L,v,rfl,_⟩:=h;rfl
 .obtain ⟨x,dx,L,v,rfl,U,q⟩:=h;refine(_,(j3 ((bx (f:=Q4) (pv 0) (pv 1) rfl)) (j3 ((bx (f:=Q6) (pv 0) (wc (m_ (pv 2))) rfl)) (j3 ((bx (f:=Q7) (pv 0) (wc (m_ wH)) rfl)) (j3 ((bx (f:=Y0) (pv 0) (wc zN) rfl)) (kd ((bx (f:="marks") (pv 0) (wc zN) rfl))))))),?_);refine(_,rfl,_,rfl,x,l,dx,_,rfl,U,p.cls,p.na1,!0,?_);refine(_,rfl,o9 (by show 1≤16777216;decide),λt D=>(_,rfl,x,l,dx,_,rfl,p_ j' D,p.cls,p.na2,lt_of_le_of_lt (le_of_eq (show _=1 from rfl)) (!0),?_));have c:t≠x:=λz=>by rw[z,j']at D;cases D
  refine(o9 (by show 1≤16777216;decide),λi d=>(_,rfl,x,l,dx,_,rfl,p_ j' d,p.cls,p.na3,lt_of_le_of_lt (le_of_eq (show _=2 from rfl)) (!0),?_));have u:i≠x:=λz=>by rw[z,j']at d;cases d
  refine(zero_le _,λy r=>(_,rfl,x,l,dx,_,rfl,p_ j' r,p.cls,p.na4,lt_of_le_of_lt (le_of_eq (show _=3 from rfl)) (!0),?_));have B:y≠x:=λz=>by rw[z,j']at r;cases r
  refine(zero_le _,λm k=>(_,rfl,x,l,dx,_,rfl,p_ j' k,p.cls,p.na5,lt_of_le_of_lt (le_of_eq (show _=4 from rfl)) (!0),?_));have C:m≠x:=λz=>by rw[z,j']at k;cases k
  have j:t≠i:=λz=>by rw[<-z,a_ c,j']at d;cases d
  have ty:t≠y:=λz=>by rw[<-z,a_ c,a_ j,a_ c,j']at r;cases r
  have J:t≠m:=λz=>by rw[<-z,a_ c,a_ ty,a_ c,a_ j,a_ c,j']at k;cases k
  have F:i≠y:=λz=>by rw[<-z,a_ u,j']at r;cases r
  have I:i≠m:=λz=>by rw[<-z,a_ u,a_ F,a_ u,j']at k;cases k
  have G:y≠m:=λz=>by rw[<-z,a_ B,j']at k;cases k
  have N:∀b,b≠x->b≠m->b≠y->b≠i->b≠t->H b=upd (upd (upd (upd (upd (upd (upd (upd (upd H x (.ins l dx (al Q4 (.str (tx L)) []))) t (.lst [v])) x (.ins l dx (al Q6 (.ref t) (al Q4 (.str (tx L)) [])))) i (.lst [.str (tx [])])) x (.ins l dx (al Q7 (.ref i) (al Q6 (.ref t) (al Q4 (.str (tx L)) []))))) y (.lst [])) x (.ins l dx (al Y0 (.ref y) (al Q7 (.ref i) (al Q6 (.ref t) (al Q4 (.str (tx L)) [])))))) m (.lst [])) x (.ins l dx (al "marks" (.ref m) (al Y0 (.ref y) (al Q7 (.ref i) (al Q6 (.ref t) (al Q4 (.str (tx L)) []))))))  b:=λb h1 h2 Z Y X=>by
   rw[a_ h1,a_ h2,a_ h1,a_ Z,a_ h1,a_ Y,a_ h1,a_ X,a_ h1]
  have g:∀{b:Addr}{o:HO},H b<*o->∀{a:Addr},H a=none->b≠a:=λ{b o}e{a}n=>f_ e n;have S:H t=none:=by rw[a_ c]at D;exact D
  have R:H i=none:=by rw[a_ u,a_ (Ne.symm j),a_ u]at d;exact d
  have O:H y=none:=by rw[a_ B,a_ (Ne.symm F),a_ B,a_ (Ne.symm ty),a_ B]at r;exact r
  have fm:H m=none:=by rw[a_ C,a_ (Ne.symm G),a_ C,a_ (Ne.symm I),a_ C,a_ (Ne.symm J),a_ C]at k;exact k
  refine q t i y m _ j ty J F I G S R O fm (λb o W e=>?_) ⟨(dx,j')⟩ ?_ ?_ ?_ ?_
  .rw [<-e];exact(N b W (g e fm) (g e O) (g e R) (g e S)).symm
  .rw [a_ c,a_ J,a_ c,a_ ty,a_ c,a_ j,a_ c,j']
  .rw [a_ u,a_ I,a_ u,a_ F,a_ u,j',<-Dq]
  .rw [a_ B,a_ G,a_ B,j']
  .rw [a_ C,j']
theorem b_O:s_ [Q4,"start",Z7,Q9,"most",Z0,Q5,Z8,"goals","row","letter","goal"] [Q4,"start",Z7,Q9,"most"] (h7 vm):=uH
theorem BL{P:Program}{w:World}{K:Frag}{mg:Str->Option Value}{base:Heap}{X fI f fg fm:Addr}(F:eI K "walked" "walked" vm f fd)(J:Av K mg X fI fdI)(ap:mg "len"=none)(cH:mg "zip"=none)(Fg:aa P w K mg base nq 4 fg fdg [gx] (AY Y L g U aH))(Fm:aa P w K mg base nq 4 fm fdm [mx] (AZ Y mk U aH))(dt:base.get? fg<*og)(ds:∃ca,og.data=.func ca)(dr:base.get? fm<*om)(dp:∃ca,om.data=.func ca)(bg:vw K fdg [gx] [])(bm:vw K fdm [mx] [])(bi:∀H H':Hp,a' H H'->aH H->aH H'):aa P w K mg base nq 5 f fd [Q4,"start",Z7,Q9,"most"] (A0 X Y L g mk U aH fg fm):=by
 obtain⟨oc,od,eO,sl⟩:=og;obtain⟨ca,rfl⟩:=ds;obtain⟨ez,ey,es,ev⟩:=om;obtain⟨er,rfl⟩:=dp;refine F.ok b_O (λvs H Q E h=>?_) (λcdv A dn s H vs Q E hr h=>?_)
 .obtain ⟨s,sv,G,rfl,_⟩:=h;rfl
 .obtain ⟨s0,sv,G,rfl,hL,hsv,hsU,ed,hU,hR0,q⟩:=h;have d3:=hr.mono (j:=2) (!0);refine(_,(j3 ((oI 5 b_O.nd (oX J.mkW (mL J) d3 rfl J.kW (J.ini.binds (ps:=["self",Q4,"start"]) (λ_ _ _ _ _ _ us hl=>by obtain⟨_,_,_,rfl⟩:=D4 hl;rfl)) .nil jq (pu (pv 0) (pv 1))))) (BS ((oI 6 b_O.nd (oW hr.units (pv 1) c_))) (j3 ((fj PassesOwn.never (wt mI (vx Bi (!4) ap boot_len (m_ (v9 (f:=Y0) (pv 5) rfl))) (vx Bi (!4) ap boot_len (m_ (v9 (f:=Q6) (pv 5) rfl))) (vz _)) (BS ((t_ ((mq (wt wq (pv 4) AR (vz _)) (jm (wt pW (vx Bi (!4) ap boot_len (m_ (v9 (f:=Q6) (pv 5) rfl))) (pv 4) (vz _)))).pt) ((kd (fo))) (t6))) (j3 ((oI 7 b_O.nd ((vx Bi (!4) ap boot_len (m_ (v9 (f:=Y0) (pv 5) rfl)))))) (j3 ((oI 8 b_O.nd (B3 Fg hr dt bg (pv 2) (m_ (u6 ((v9 (f:=Q6) (pv 5) rfl)) (pv 7)))))) (j3 ((oI 9 b_O.nd (wc zN))) (j3 ((wI PassesOwn.never rfl (jn rfl cH (pu (pv 0) (pv 8))) (wo rfl (Az (v5 10 b_O.nd) (Az (v5 11 b_O.nd) Ck))) (BS ((t_ (wt (kr hr.units) (pv 11) (pv 6) (by with_unfolding_all rfl)) ((j3 (Bb (vx Bi (!4) ap boot_len (m_ (v9 (f:=Q6) (pv 5) rfl))) (vM (pv 6) (pv 11) (j8 hr.units))) (j3 (vI (wb ((v9 (f:=Q6) (pv 5) rfl)) (pv 11))) (kd (vI (wb ((v9 (f:=Q7) (pv 5) rfl)) (uQ Bh (u6 ((v9 (f:=Q7) (pv 5) rfl)) (pv 7)) (pv 10)))))))) (t6))) (kd (vI (wb (pv 9) (nT (m4 hr.units) (pv 6) (pv 11) (λ_ _=>rfl)))))))) (j3 (vI (wb ((v9 (f:=Y0) (pv 5) rfl)) (pv 9))) (kd (vI (wb ((v9 (f:="marks") (pv 5) rfl)) (B3 Fm hr dr bm (pv 3) (m_ (u6 ((v9 (f:=Q6) (pv 5) rfl)) (pv 7))))))))))))))) (kd (n6 (pv 5)))))),?_);have tn:∀{b:Addr}{o:HO},H b<*o->∀{c:Addr},H c=none->b≠c:=λ{b o}e{c}n=>f_ e n;refine(_,rfl,_,rfl,λD dx cp c8 eN=>(D,dx,L,sv,rfl,j',λt wd y md H1 a1 a2 a3 a4 a5 a6 ft fw fy eo kp hW ht cO hy c2=>(rfl,?_)));have fr:∀{b:Addr},upd (upd H dx (.own D)) D (.ins X dx []) b=none->H b=none:=λ{b}e=>by
   by_cases h1:b=D
   .rw [h1];exact cp
   .rw [a_ h1]at e;by_cases h2:b=dx
    .rw [h2];exact c8
    .rw [a_ h2]at e;exact e
  have s1:a' H H1:=λb o e=>kp b o (tn e cp) (by rw[a_ (tn e cp),a_ (tn e c8)];exact e);have ab:uE Y H1 s0 sv:=hsv.same λb xs e=>s1 _ _ e;have aA:∀(d:Addr)(H2:Hp),H1 d=none->uG P w H2 d Y [s0]->(∀b o,H1 b<*o->H2 b<*o)->WI P w H H2 X Y L D t wd y md d [s0] [sv] [[]] [] [] []:=λd H2 hd d0 s2=>by
   have ne:∀{b:Addr}{o:HO},H1 b<*o->d≠b:=λ{b o}e z=>by rw[<-z,hd]at e;cases e
   obtain⟨I,ew⟩:=hW.ex;exact(s1.trans s2,(I,s2 _ _ ew),s2 _ _ ht,(rfl,λi k v h1 h2=>by
    match i,h1,h2 with
    |0,h1,h2=>cases h1;cases h2;exact ab.same λb xs e=>s2 _ _ e
    | i+1,h1,_=>simp at h1),s2 _ _ cO,s2 _ _ hy,(rfl,λi a r h1=>by simp at h1),s2 _ _ c2,d0,fr ft,fr fw,fr fy,fr eo,Ae s1 hd,a1,a2,a3,a4,a5,a6,ne ht,ne cO,ne hy,ne c2,ne ew,λa ha=>by simp at ha)
  refine⟨λb0 H'=>∃d,b0=[some (.str (tx L)),some sv,some (.ref fg),some (.ref fm),some (bD G),some (.ref D),some (.ref d),none,none,none,none,none]/\WI P w H H' X Y L D t wd y md d [s0] [sv] [[]] [] [] [],?_,?_⟩
  .refine (Y,λd hd=>(_,rfl,j',?_));have up:∀{ob cI:HO}(b:Addr)(o:HO),H1 b<*o->upd (upd H1 d ob) d cI b<*o:=λ{ob cI}b o e=>by
    rw[Ba];exact p_ e hd
   by_cases b4:Y=.i
   .rw [b4]at ab aA⊢;unfold uE at ab;rw[if_pos rfl]at ab;obtain⟨n,rfl,rfl⟩:=ab;refine .inl (rfl,_,rfl,d,rfl,aA d _ hd ?_ up);unfold uG;rw[if_pos rfl];exact(j',λt ht=>(n,uN ht))
   .have hsv2:=ab;unfold uE at hsv2;rw[if_neg b4]at hsv2;obtain⟨b,rfl,hb⟩:=hsv2;have hT:∀{ob:HO},(dK P w Y).kin (upd H1 d ob) (zs s0) b:=λ{ob}=>(hb.same λb xs e=>p_ e hd).kin;refine .inr (b4,b,zs s0,rfl,hT,d,rfl,aA d _ hd ?_ up);unfold uG;rw[if_neg b4];refine(_,j',λx hx=>?_,rfl,λi k x h1 h2=>?_)
    .rw [uN hx,Ba];exact hT
    .match i,h1,h2 with
     |0,h1,h2=>cases h1;cases h2;exact(rfl,rfl)
     |i+1,h1,_=>simp at h1
  rintro eu H2⟨d,rfl,ek⟩;have dd:∀{H':Hp}{ks:LL}{T:List V}{ws:LL}{C:List Addr}{R:LL}{B:List Bool},WI P w H H' X Y L D t wd y md d ks T ws C R B->wX g L s0 mk U ks ws R B 0->(R.length=ks.length\/∃n,G=some n/\n<ks.length)->Q (.ref D) H':=λO hP he=>
   q D t wd y md _ _ _ _ _ _ _ O.sm O.obj O.ht O.th O.hw O.hy O.wr O.hm hP.bf hP.ways hP.bl hP.mks hP.sub (le_trans (Nat.le_add_left _ _) hP.left) he
  refine⟨λn b0 H'=>∃ks T ws C R B s7 s8 s9 aN aM,n=U.length-List.length R/\b0=[some (.str (tx L)),some sv,some (.ref fg),some (.ref fm),some (bD G),some (.ref D),some (.ref d),s7,s8,s9,aN,aM]/\WI P w H H' X Y L D t wd y md d ks T ws C R B/\wX g L s0 mk U ks ws R B 0,(_,[s0],[sv],[[]],[],[],[],none,none,none,none,none,rfl,rfl,ek,wX.start hsU),?_⟩;rintro n b0 H3⟨ks,T,ws,C,R,B,s7,s8,s9,aN,aM,rfl,rfl,O,hP⟩;obtain⟨I,ew⟩:=O.obj.ex;have cv:(C.map V.ref).length=R.length:=by rw[j_,O.wr.1]
  have b3:T.length=ks.length:=O.th.1;have eq:ks.length≤U.length:=le_trans (Nat.le_add_left _ _) hP.left;refine(_,rfl,D,X,I,_,_,rfl,ew,J.cls,J.na4,rfl,y,_,rfl,.inl (lb.of O.hy),_,rfl,D,X,I,_,_,rfl,ew,J.cls,J.na2,rfl,t,_,rfl,.inl (lb.of O.ht),_,_,rfl,rfl,_,rfl,aI (λag=>?_) (λag=>?_));case _=>
   rw[cv,b3]at ag;have ag:R.length<ks.length:=ofNat_lt.mp ag;refine⟨λaS H4=>∃ks T ws C R' B s7 s8 s9 aN aM,R'.length=R.length+1/\aS=[some (.str (tx L)),some sv,some (.ref fg),some (.ref fm),some (bD G),some (.ref D),some (.ref d),s7,s8,s9,aN,aM]/\WI P w H H4 X Y L D t wd y md d ks T ws C R' B/\wX g L s0 mk U ks ws R' B 0,?_,?_⟩
   .rintro aS H4⟨m,l,N,co,R',B',u7,u8,u9,u10,u11,hR',dv,hI',hP'⟩;exact(U.length-R'.length,by rw[hR'];lia,m,l,N,co,R',B',u7,u8,u9,u10,u11,rfl,dv,hI',hP')
   obtain⟨k0,cA⟩:∃k0,ks[R.length]?<*k0:=(ks[R.length],j1 ag);obtain⟨v0,cU⟩:∃v0,T[R.length]?<*v0:=(T[R.length]'(by rw[b3];exact ag),j1 _);obtain⟨a0,ej⟩:∃a0,ws[R.length]?<*a0:=(ws[R.length]'(by rw[<-hP.bf.len];exact ag),j1 _);have a8:k0∈U:=hP.sub k0 (uM cA);refine(λaS H4=>aS=[some (.str (tx L)),some sv,some (.ref fg),some (.ref fm),some (bD G),some (.ref D),some (.ref d),s7,s8,s9,aN,aM]/\H4=H3,?_,?_)
   .cases G with
    |none=>exact(_,rfl,rfl,_,rfl,xp rfl (ae (rfl,rfl)))
    |some M=>
     refine(_,rfl,rfl,_,rfl,sP (_,rfl,D,X,I,_,_,rfl,ew,J.cls,J.na2,rfl,t,_,rfl,.inl (lb.of O.ht),_,rfl,_,_,rfl,rfl,_,rfl,?_));rw[b3];exact aI (λd6=>(_,rfl,dd O hP (.inr (M,rfl,ofNat_lt.mp d6)))) (λ_=>(rfl,rfl))
   rintro aS H4⟨rfl,rfl⟩;refine(_,rfl,D,X,I,_,_,rfl,ew,J.cls,J.na4,rfl,y,_,rfl,.inl (lb.of O.hy),?_);rw[cv];have eg:vt T ((R.length:Nat):Int)<*v0:=vJ cU;refine(rfl,_,rfl,D,X,I,_,_,rfl,ew,J.cls,J.na2,rfl,_,rfl,u_ O.ht eg (k0,v0,rfl,O.th.2 _ _ _ cA cU,a8,bi _ _ O.sm hR0,λgs xs H5 s5 c7 cN dT=>?_));have az:=O.any s5;have bd:H5 gs<*.tup xs\/H5 gs<*.lst xs:=c7.imp id λz=>z.2;have bo:∀{b:Addr}{o:HO},H4 b<*o->(∀zs,o≠.tup zs)->gs≠b:=λ{b o}e ho z=>by
    rcases c7 with h1|⟨h1,_⟩
    .rw [z,s5 _ _ e]at h1;cases h1;exact ho _ rfl
    .rw [z,e]at h1;cases h1
   obtain⟨et,cM⟩:∃φ,H4 d<*.ext φ:=by
    have W:=O.rm;unfold uG at W;by_cases c:Y=.i
    .rw [if_pos c]at W;exact(_,W.1)
    .rw [if_neg c]at W;obtain⟨kvs,e,_⟩:=W;exact(_,e)
   have g1:gs≠t:=bo O.ht (by intro zs z;cases z);have g2:gs≠wd:=bo O.hw (by intro zs z;cases z);have g3:gs≠y:=bo O.hy (by intro zs z;cases z);have g4:gs≠md:=bo O.hm (by intro zs z;cases z);have g5:gs≠d:=bo cM (by intro zs z;cases z);refine(zero_le _,λrw S=>?_);have r1:rw≠t:=Ne.symm (f_ az.ht S);have r2:rw≠wd:=Ne.symm (f_ az.hw S);have r3:rw≠y:=Ne.symm (f_ az.hy S);have r4:rw≠md:=Ne.symm (f_ az.hm S);have r5:rw≠d:=Ne.symm (f_ (s5 _ _ cM) S);have r6:rw∉C:=λhm=>by
    obtain⟨i,hi⟩:=mem_iff_getElem?.mp hm;have d5:i<R.length:=by rw[<-az.wr.1];exact(l' hi).1
    rw[az.wr.2 i rw _ hi (j1 d5)]at S;cases S
   have rg:gs≠rw:=λz=>by
    rw[<-z]at S;rcases bd with h1|h1<;>rw[S]at h1<;>cases h1
   have r0:H rw=none:=Ae az.sm S;have en:=az.any (a'.upd (o:=.lst []) S);have c5:upd H5 rw (.lst []) gs<*.tup xs\/upd H5 rw (.lst []) gs<*.lst xs:=by rw[a_ rg];exact bd
   refine(_,rfl,_,rfl,_,_,rfl,oE c5 λd2 ec tk=>?_);have aV:((tx L).cps.toList.map λc=>V.str ⟨#[c]⟩).length=xs.length:=by rw[j_,zk,cN]
   refine ny (xs:=(tx L).cps.toList.map λc=>V.str ⟨#[c]⟩) (ys:=xs) aV (λq bV H6=>∃m l N r b2 b1,bV=[some (.str (tx L)),some sv,some (.ref fg),some (.ref fm),some (bD G),some (.ref D),some (.ref d),some (.int ((R.length:Nat):Int)),some (.ref gs),some (.ref rw),b2,b1]/\
    WI P w H H6 X Y L D t wd y md d m l N C R B/\wX g L s0 mk U m N R B q/\yO g m R.length r q/\H6 rw=some (.lst (b' r))/\H6 gs=H5 gs/\(∀(j:Nat)(x:V),xs[j]?<*x->uE Y H6 (g k0 j) x)/\m[R.length]?=some k0/\N[R.length]?<*a0) ?_ ?_ ?_ ?_
   .exact (ks,T,ws,[],aN,aM,rfl,en,hP,yO.nil,j',a_ rg,λj x hx=>(dT j x hx).same λb zs e=>p_ e S,cA,ej)
   .rintro q bV H6⟨m,l,N,r,b2,b1,rfl,hI',hP',hro,hrw',hgk,b5,hk',as⟩;exact(rfl,ec H6 (by rw[hgk,a_ rg]))
   .rintro q cx gx' p bV H6 hc hg hp⟨m,l,N,r,b2,b1,rfl,hI',hP',hro,hrw',hgk,b5,hk',as⟩;rw[zk,n']at hc;cases hcq:L[q]? with
    |none=>rw[hcq]at hc;cases hc
    |some c=>
    rw[hcq]at hc;cases hc;have b6:q<L.length:=(l' hcq).1;have ee:L.getD q 0=c:=by rw[m8,hcq];rfl
    have ea:g k0 q∈U:=ed k0 a8 q b6;have u:=hI'.any (a'.upd (o:=.tup [.str ⟨#[c]⟩,gx']) hp);have cV:uE Y H6 (g k0 q) gx':=b5 q gx' hg;have aB:uE Y (upd H6 p (.tup [.str ⟨#[c]⟩,gx'])) (g k0 q) gx':=cV.same λb zs e=>p_ e hp;have ct:upd H6 p (.tup [.str ⟨#[c]⟩,gx']) rw<*.lst (b' r):=p_ hrw' hp;have a9:upd H6 p (.tup [.str ⟨#[c]⟩,gx']) gs=H5 gs:=by
     have:gs≠p:=λz=>by
      rw[<-z,hgk]at hp;rcases bd with h1|h1<;>rw[hp]at h1<;>cases h1
     rw[a_ this];exact hgk
    have a7:∀(j:Nat)(x:V),xs[j]?<*x->uE Y (upd H6 p (.tup [.str ⟨#[c]⟩,gx'])) (g k0 j) x:=λj x hx=>(b5 j x hx).same λb zs e=>p_ e hp;have c1:upd H6 p (.tup [.str ⟨#[c]⟩,gx']) p<*.tup [.str ⟨#[c]⟩,gx']:=j';generalize upd H6 p (.tup [.str ⟨#[c]⟩,gx'])=H7 at u aB ct a9 a7 c1;have cw:m.length≤U.length:=le_trans (Nat.le_add_left _ _) hP'.left;have an:m.length≤100000:=le_trans cw hU;have cd:l.length=m.length:=u.th.1;refine(p,_,rfl,pa.of c1,rfl,_,_,rfl,_,_,rfl,rfl,?_);refine⟨λcC H8=>∃ar aU aT,cC=[some (.str (tx L)),some sv,some (.ref fg),some (.ref fm),some (bD G),some (.ref D),some (.ref d),some (.int ((R.length:Nat):Int)),some (.ref gs),some (.ref rw),some (.str ⟨#[c]⟩),some gx']/\WI P w H H8 X Y L D t wd y md d ar aU aT C R B/\wX g L s0 mk U ar aT R B (q+1)/\yO g ar R.length r q/\
     H8 rw=some (.lst (b' r))/\H8 gs=H5 gs/\(∀(j:Nat)(x:V),xs[j]?<*x->uE Y H8 (g k0 j) x)/\ar[R.length]?=some k0/\aT[R.length]?=some a0/\g k0 q∈ar,?_,?_⟩
    .refine (_,rfl,_,rfl,d,_,rfl,u.rm.get aB,_,rfl,?_);by_cases hm:g k0 q∈m
     .rw [(iI hm).1];exact ae (m,l,N,rfl,u,hP'.old hL.nd hk' as b6 hm,hro,ct,a9,a7,hk',as,hm)
     .rw [show x_ m (g k0 q)=none from if_neg hm];obtain⟨ob,cg,c0⟩:=u.rm.put aB hm (A1 an);obtain⟨I,cB⟩:=u.obj.ex;have bs:upd H7 d ob D=_:=(a_ (Ne.symm u.e5)).trans cB;have cX:upd H7 d ob t=_:=(a_ (Ne.symm u.e1)).trans u.ht;have dV:upd H7 d ob wd=_:=(a_ (Ne.symm u.e2)).trans u.hw;have dm:D≠t:=n_ cB u.ht (!5);have de:upd (upd H7 d ob) t (.lst (l++[gx'])) D=_:=(a_ dm).trans bs;have cs:upd (upd H7 d ob) t (.lst (l++[gx'])) wd=_:=(a_ (Ne.symm u.d1)).trans dV;have dc:vt (na N) ((R.length:Nat):Int)<*.str (tx a0):=vJ (by rw[na,n',as];rfl);have eH:a0.length≤100000:=le_trans (hP'.wl a0 (uM as)) an;rw[<-cd]at cg;refine ai (_,rfl,D,X,I,_,_,rfl,cB,J.cls,J.na2,rfl,t,_,rfl,.inl (lb.of u.ht),_,rfl,_,rfl,d,_,rfl,cg,?_);refine(_,rfl,D,X,I,_,_,rfl,bs,J.cls,J.na2,rfl,.inl (rfl,_,lb.of cX),_,rfl,t,_,_,rfl,rfl,cX,A1 (by rw[cd];exact an),?_);refine(_,rfl,D,X,I,_,_,rfl,de,J.cls,J.na3,rfl,.inl (rfl,_,lb.of cs),_,rfl,D,X,I,_,_,rfl,de,J.cls,J.na3,rfl,_,rfl,u_ cs dc (_,rfl,_,_,rfl,rfl,?_,wd,_,_,rfl,rfl,cs,A1 (by rw[na,j_,<-hP'.bf.len];exact an),?_))
      .show (tx a0).length+1≤sizeLine;rw[vn];exact o9 (!6)
      have da:tx a0++(⟨#[c]⟩:Str)=tx (a0++[c]):=by rw[<-Bj];rfl
      have cn:=u.new (a:=a0++[c]) aB c0;have cl:=hP'.new hL.nd hk' as b6 hm ea;rw[ee]at cl;have kt:∀b zs,H7 b<*.tup zs->upd (upd (upd H7 d ob) t (.lst (l++[gx']))) wd (.lst (na N++[.str (tx (a0++[c]))])) b<*.tup zs:=λb zs e=>by
       obtain⟨φ,cK⟩:∃φ,H7 d<*.ext φ:=by
        have W:=u.rm;unfold uG at W;by_cases c:Y=.i
        .rw [if_pos c]at W;exact(_,W.1)
        .rw [if_neg c]at W;obtain⟨kvs,e,_⟩:=W;exact(_,e)
       rw[a_ (n_ e u.hw (!5)),a_ (n_ e u.ht (!5)),a_ (n_ e cK (!5))];exact e
      refine(m++[g k0 q],l++[gx'],N++[a0++[c]],rfl,?_,cl,hro.grow (l' hk').1,?_,?_,λj x hx=>?_,CU hk',CU as,!1)
      .rw [<-da]at cn;exact cn
      .rw [a_ r2,a_ r1,a_ r5];exact ct
      .rw [a_ g2,a_ g1,a_ g5];exact a9
      .refine (a7 j x hx).same λb zs e=>?_;have:=kt b zs e;rw[<-da]at this;exact this
    rintro cC H8⟨ar,aU,aT,rfl,Z,el,cf,aC,eb,ce,c4,ei,c3⟩;have ch:=Z.rm.get (ce q gx' hg);rw[(iI c3).1]at ch;have d4:r.length≤100:=by rw[cf.1];exact le_trans (le_of_lt b6) (le_trans hL.hi (!0))
    refine(_,rfl,.inl (rfl,_,lb.of aC),_,rfl,_,rfl,d,_,rfl,ch,rw,_,_,rfl,rfl,aC,A1 (by rw[e_];exact le_trans d4 (!0)),?_);refine(ar,aU,aT,r++[ar.idxOf (g k0 q)],_,_,rfl,Z.beside aC r0 r1 r2 r3 r4 r5 r6,el,cf.snoc c4 c3,?_,?_,λj x hx=>?_,c4,ei)
    .rw [j',CT]
    .rw [a_ rg];exact eb
    .exact (ce j x hx).same λb zs e=>by rw[a_ (n_ e aC (!5))];exact e
   .rintro bV H6⟨m,l,N,r,b2,b1,rfl,hI',hP',hro,hrw',hgk,b5,hk',as⟩;rw[aV,cN]at hP' hro;obtain⟨I,ep⟩:=hI'.obj.ex;have cw:m.length≤100000:=le_trans (le_trans (Nat.le_add_left _ _) hP'.left) hU;have bk:R.length≤100000:=le_trans hP'.le cw;have Z:=hI'.row hrw' r1 r2 r3 r4 r5;obtain⟨dk,bs⟩:=Z.obj.ex;obtain⟨v1,cS⟩:∃v1,l[R.length]?<*v1:=(l[R.length]'(by rw[hI'.th.1];exact(l' hk').1),j1 _);refine(_,rfl,D,X,I,_,_,rfl,ep,J.cls,J.na4,rfl,.inl (rfl,_,lb.of hI'.hy),_,rfl,y,_,_,rfl,rfl,hI'.hy,A1 (by rw[j_,hI'.wr.1];exact bk),?_);refine(_,rfl,D,X,dk,_,_,rfl,bs,J.cls,J.na5,rfl,.inl (rfl,_,lb.of Z.hm),rfl,_,rfl,D,X,dk,_,_,rfl,bs,J.cls,J.na2,rfl,_,rfl,u_ Z.ht (vJ cS) (k0,v1,rfl,Z.th.2 _ _ _ hk' cS,a8,bi _ _ Z.sm hR0,λH9 s9=>(md,_,_,rfl,rfl,(Z.any s9).hm,A1 (by rw[j_,hP'.bl];exact bk),?_)));exact(m,l,N,C++[rw],R++[r],B++[mk k0],_,_,_,_,_,by rw[uA];rfl,rfl,(Z.any s9).mark,hP'.next hk' hro)
  case _=>
   rw[cv,b3]at ag;exact(_,rfl,dd O hP (.inl (le_antisymm hP.le (le_of_not_lt λz=>ag (ofNat_lt.mpr z)))))
noncomputable def j5(cTM:Addr):Sp:=λvs H Q _=>∃(e wl tl:Addr)(part:V)(xs ys:List V),vs=[.ref e,.ref wl,.ref tl,part]/\H e=some (so e cTM none)/\H wl=some (.lst xs)/\H tl=some (.lst ys)/\
 ∀(H':Hp)(d l l2:Addr),(∀b o,b≠e->H b<*o->H' b<*o)->H' e<*so e cTM (some d)->d≠e->l≠e->l2≠e->H' d<*vp d [(Q7,.ref l,),("tails",.ref l2,),("part",part,)]->H' l<*.lst xs->H' l2<*.lst ys->Q .non H'
abbrev kh:Stmt:=uI 15
abbrev BM:Stmt:=jC kh 0
structure Cc(K:Frag)(mg:Str->Option Value)(cTM cRE fX:Addr)(fdX:FuncData):Prop where
 kT:mg "TooMany"<*.ref cTM
 kR:mg "RoomError"<*.ref cRE
 own:wz K cTM fX
 xc:gN K cTM
 na1:vj K cTM Q7
 na2:vj K cTM "tails"
 na3:vj K cTM "part"
 bi:oB K cRE
 fn:isFn K (.ref fX)=true
 exm:exmOne K (.ref cTM) (.ref cTM)<*true
 ec:zo K cTM
 exr:exmOne K (.ref cTM) (.ref cRE)<*true
 ini:tS K "__init__" "TooMany.__init__" BM fX fdX
theorem ka:s_ ["self",Q7,"tails","part"] ["self",Q7,"tails","part"] (h7 BM):=uH
theorem ky(i:Cc K mg cTM cRE I fdX)(c:mg "list"=none):aa P w K mg base nq 1 I fdX ["self",Q7,"tails","part"] (j5 cTM):=by
 refine i.ini.ok ka (λL H Q E h=>?_) (λcdv A x s H L Q E N h=>?_)
 .obtain ⟨e,F,v,part,xs,ys,rfl,_⟩:=h;rfl
 .obtain ⟨e,F,v,part,xs,ys,rfl,t,hw,B,q⟩:=h;refine(_,(j3 (vI (mF i.bi i.kR (pu (pv 0) wH))) (j3 ((dD (f:=Q7) rfl (pv 0) (xS EJ (!4) c boot_list (m_ (pv 1))) rfl)) (j3 ((dD (f:="tails") rfl (pv 0) (xS EJ (!4) c boot_list (m_ (pv 2))) rfl)) (kd ((dD (f:="part") rfl (pv 0) (pv 3) rfl)))))),?_);refine(_,rfl,e,cTM,I,_,rfl,t,i.own,?_);refine(_,rfl,F,xs,rfl,.inl (lb.of hw),λl n=>(_,rfl,e,cTM,rfl,i.xc,i.na1,.inl (p_ t n,λd j g=>?_)));have G:l≠e:=λz=>by rw[z,t]at n;cases n
  have p:H d=none:=by
   by_cases z:d=l
   .rw [z];exact n
   .rw [a_ z]at j;exact j
  have k1:∀b o,b≠e->H b<*o->L2.upd (L2.upd (L2.upd H l (.lst xs)) e (so e cTM (some d))) d (vp d [(Q7,.ref l,)]) b<*o:=λb o u z=>by
   rw[a_ (f_ z p),a_ u,a_ (f_ z n)];exact z
  have r:L2.upd (L2.upd (L2.upd H l (.lst xs)) e (so e cTM (some d))) d (vp d [(Q7,.ref l,)]) e<*so e cTM (some d):=by rw[a_ (Ne.symm g),j']
  have d1:L2.upd (L2.upd (L2.upd H l (.lst xs)) e (so e cTM (some d))) d (vp d [(Q7,.ref l,)]) d<*vp d [(Q7,.ref l,)]:=j';have J:L2.upd (L2.upd (L2.upd H l (.lst xs)) e (so e cTM (some d))) d (vp d [(Q7,.ref l,)]) l<*.lst xs:=by rw[a_ (λz=>by rw[<-z,j']at j;cases j),a_ G,j']
  have D:v≠e:=λz=>by rw[z,t]at B;cases B
  generalize L2.upd (L2.upd (L2.upd H l (.lst xs)) e (so e cTM (some d))) d (vp d [(Q7,.ref l,)])=M at k1 r d1 J;refine(_,rfl,v,ys,rfl,.inl (lb.of (k1 _ _ D B)),λl2 a=>(_,rfl,e,cTM,rfl,i.xc,i.na2,.inr (d,_,p_ r a,p_ d1 a,by show 1<1000;decide,?_)));refine(_,rfl,_,rfl,e,cTM,rfl,i.xc,i.na3,.inr (d,_,by rw[a_ (Ne.symm g)];exact p_ r a,j',by show 2<1000;decide,?_));have m:l≠d:=λz=>by rw[<-z]at j;rw[j']at j;cases j
  have C:M l<*.lst xs:=J;have k:l2≠d:=λz=>by rw[z,d1]at a;cases a
  have y:l2≠e:=λz=>by rw[z,r]at a;cases a
  refine q _ d l l2 (λb o u z=>?_) ?_ g G y j' ?_ ?_
  .have h1:b≠d:=f_ z p;have h2:b≠l2:=f_ (k1 b o u z) a;rw[a_ h1,a_ h1,a_ h2];exact k1 b o u z
  .rw [a_ (Ne.symm g),a_ (Ne.symm g)];exact p_ r a
  .rw [a_ m,a_ m];exact p_ C a
  .rw [a_ k,a_ k,j']
abbrev s_g:Stmt:=(ln v7).getD 0 (.Pass (0,0,0,0))
abbrev s_m:Stmt:=(ln v7).getD 1 (.Pass (0,0,0,0))
abbrev q_g:Str:="walked_machine.<locals>.goals_of"
abbrev q_m:Str:="walked_machine.<locals>.is_marked"
noncomputable def f_d(s:Stmt):Pos:=match s with
 |.FunctionDef _ _ _ _ _ _ _ _ _ p=>p
 |_=>(0,0,0,0)
noncomputable def sites:List (Pos×Str):=[(f_d s_g,q_g,),(f_d s_m,q_m,)]
theorem sq:wW [Z8,Q0] [Z8] [Q0] (h7 s_g):=(rfl,rfl,rfl,!3,rfl,rfl,!0,!3,!3)
theorem sk:wW [Z8,Q0] [Z8] [Q0] (h7 s_m):=(rfl,rfl,rfl,!3,rfl,rfl,!0,!3,!3)
section
variable{P:Program}{w:World}{K:Frag}{mg:Str->Option Value}{base:Heap}{f c m:Addr}{clos:List (Str×Addr)}{doc pm ctv:Value}{L:LN}{W:LL}{B:List Bool}
theorem qL(F:base.get? f<*fnMade Z7 q_g (nt s_g) (ln s_g) (h7 s_g) clos doc pm c ctv)(t:base.CodeRec (.ref c) q_g)(C:vb base clos (h7 s_g) [Q0] [.ref m])(u:g_ L W B):aa P w K mg base nq 1 f (PySem.W.fnX Z7 q_g (nt s_g) (ln s_g) (h7 s_g) clos .none .none doc pm none (.ref c) ctv) [Z8] (AY .i L (gW W) (uW W) λH=>ol H m L W B):=by
 refine zV (fvs:=[.ref m]) F rfl t sq C (λD H Q E h=>?_) (λA l s H D Q E U h=>?_)
 .obtain ⟨k,v,rfl,_⟩:=h;rfl
 .obtain ⟨k,v,rfl,p,I,J,q⟩:=h;refine(_,(kd (n6 (wK (p' 1) (pv 0)))),?_);obtain⟨n,rfl,G⟩:=bp I;unfold uE at p;rw[if_pos rfl]at p;obtain⟨T,e,rfl⟩:=p;injection e with e;subst e;obtain⟨S,mk,a,h1,h2,X,N,M⟩:=J;obtain⟨g,d⟩:∃g,a[n]?<*g:=(a[n]'(by rw[N];exact G),j1 _);obtain⟨ws,y,R⟩:=M _ _ d;have o:=u.row ws (uM y);refine(o_ h1 ax (_,rfl,v6 h2 (vZ V.ref d) ?_));refine q g (b' ws) H (a'.refl H) (.inl R) (by rw[e_];exact o.1) λj x b=>?_;unfold uE;rw[if_pos rfl];rw[b',n']at b;cases r:ws[j]? with
  |none=>rw[r]at b;cases b
  |some z=>
   rw[r]at b;cases b;refine(z,?_,rfl);show[(W.getD n []).getD j 0]=[z];have O:W.getD n []=ws:=by
    rw[m8,y];rfl
   rw[O,m8,r];rfl
theorem qK(o:base.get? f<*fnMade Q9 q_m (nt s_m) (ln s_m) (h7 s_m) clos doc pm c ctv)(d:base.CodeRec (.ref c) q_m)(C:vb base clos (h7 s_m) [Q0] [.ref m])(g:g_ L W B):aa P w K mg base nq 1 f (PySem.W.fnX Q9 q_m (nt s_m) (ln s_m) (h7 s_m) clos .none .none doc pm none (.ref c) ctv) [Z8] (AZ .i (mkW B) (uW W) λH=>ol H m L W B):=by
 refine zV (fvs:=[.ref m]) o rfl d sk C (λl H Q E h=>?_) (λA a s H l Q E D h=>?_)
 .obtain ⟨k,v,rfl,_⟩:=h;rfl
 .obtain ⟨k,v,rfl,b,r,t,q⟩:=h;refine(_,(kd (n6 (wK (p' 1) (pv 0)))),?_);obtain⟨n,rfl,p⟩:=bp r;unfold uE at b;rw[if_pos rfl]at b;obtain⟨z,e,rfl⟩:=b;injection e with e;subst e;obtain⟨y,mk,j,h1,h2,x,G,F⟩:=t;have u:B[n]?<*B.getD n false:=by
   rw[m8,j1 (by rw[g.bl];exact p)];rfl
  exact(o_ h1 ay (_,rfl,v6 x (vZ V.bl u) (q H (a'.refl H))))
end
theorem a_F:s_ [Q0,Z7,Q9] [Q0] (h7 v7):=uH
theorem BN{kV doc pm cdv ct e:Value}(lD:K.lookup h<*(e,j,.seq #[.none] m,i)):vw K (fnOf "walked" "walked" (nt vm) (ln vm) (h7 vm) (.ref h) kV doc pm an cdv ct) [Q4,"start",Z7,Q9,"most"] [.none]:=λs g l k=>by
 have f:g.length=4:=by simpa using k
 obtain⟨a,b,c,d,rfl⟩:=D5 f;exact BindsTo.of_defaults rfl (l _ _ lD) rfl rfl rfl
theorem Cd(f:AX X U k H d)(sub:∀y a,b.lookup y<*a->X.env.cells.lookup y<*a)(has:∀y∈sc.names,y.2=.free->∃a,b.lookup y.1<*a)(p:X.N[0]?<*Q0)(e:k[0]?<*some (.ref m))(o:X.env.scope.names.lookup Q0<*.cell)(n:sc.names.lookup Q0<*.free)(l:((Q0:Str),NameKind.free,)∈sc.names):vb d b sc [Q0] [.ref m]:=by
 refine(λy z c h1 h2=>f.inj y z c (sub y c h1) (sub z c h2),has,λy c h=>f.cell y c (sub y c h),rfl,λi y v h1 h2=>?_);match i,h1,h2 with
 |0,h1,h2=>
  cases h1;cases h2;obtain⟨a,g⟩:=has _ l rfl;obtain⟨c,u,s,r,q⟩:=f.val 0 Q0 (.ref m) p e o;have j:=sub _ _ g;rw[s]at j;cases j;exact(n,_,u,g,r,q)
 |i+1,h1,_=>simp at h1
set_option maxHeartbeats 8000000 in
theorem ok_wmach{P:Program}{w:World}{oc kV doc pm ct aA S l N d X a7:Value}(lk:K.lookup f<*(oc,od,.func (fnOf "walked_machine" "walked_machine" (nt v7) (ln v7) (h7 v7) .none kV doc pm an (.ref c) ct),cn))(bm:codeIn K (.ref c) "walked_machine"=true)(lw:K.lookup fw<*(aA,a6,.func (fnOf "walked" "walked" (nt vm) (ln vm) (h7 vm) (.ref tD) S l N an2 d X),osl2))(cw:codeIn K d "walked"=true)(kw:keepIn K (.ref fw)=true)(mw:mg "walked"<*.ref fw)(lD:K.lookup tD<*(a7,co,.seq #[.none] nD,cf))(WT:Av K mg cW fI fdI)(ap:mg "len"=none)(ag:mg "zip"=none)(hC:CodeHd base c P0)(hB:xi base mg):aa P w K mg base nq 6 f (fnOf "walked_machine" "walked_machine" (nt v7) (ln v7) (h7 v7) .none kV doc pm an (.ref c) ct) [Q0] (DN cW P0 sites):=by
 refine dU lk bm a_F (λvs H Q E h=>?_) (λA a5 s H vs Q E hr h=>?_)
 .obtain ⟨m,L,W,B,rfl,_⟩:=h;rfl
 .obtain ⟨m,L,W,B,rfl,hM,g,hT,q⟩:=h;refine(_,(j3 ((zx (i:=1) (qual:=q_g) (c:=c) (P0:=P0) (sites:=sites) a_F.nd rfl (Or.inl rfl) rfl hC hB (!3) (!3))) (j3 ((zx (i:=2) (qual:=q_m) (c:=c) (P0:=P0) (sites:=sites) a_F.nd rfl (Or.inl rfl) rfl hC hB (!3) (!3))) (kd (n6 (Bw (dvs:=[.non]) rfl mw kw (BN (kV:=S) (doc:=l) (pm:=N) (an:=an2) (cdv:=d) (ct:=X) lD) (.cons rfl .nil) (v_ (p' 0) (vg c_ (pv 1) (pv 2))) (λ_=>rfl)))))),?_);refine(hT,λZ k j H1 as aS cA cs s1 aU aM aC=>(aU,λY v D C ar aN cx cp s2 bV aH bk=>?_));have az:wv P0 H C:=Bx s1 s2;have aV:ol C m L W B:=hM.tups (zX az hT);obtain⟨cg,b1,_⟩:=id aU;obtain⟨a4,b0,bg,T⟩:=id bV;have nP:∀{b:Addr}{φ:Heap->Prop},H1 b<*.ext φ->b≠P0:=λ{b φ}e z=>by rw[z,b1]at e;cases e
  have G:C k<*tj k Z7 q_g (nt s_g) (ln s_g) (h7 s_g) Z j:=s2 k _ (nP aC) aC;have I:C j<*k_ j q_g:=s2 j _ (nP aM) aM;have F:C v<*tj v Q9 q_m (nt s_m) (ln s_m) (h7 s_m) Y D:=bk;have b2:=aV;obtain⟨wy,mk,b5,h1,h2,h3,h4,h5⟩:=aV;have aT:∀u∈[k,v,j,D],∃φ,C u<*.ext φ:=λu hu=>by
   simp only[mem_cons,not_mem_nil,or_false]at hu;rcases hu with rfl|rfl|rfl|rfl
   .exact (_,G)
   .exact (_,F)
   .exact (_,I)
   .exact (_,aH)
  refine(o_ h1 aw (_,rfl,_,rfl,[k,v,j,D],aT,λp Wd=>?_));obtain⟨ca,cl,ce,a1⟩:=Wd.ext k _ (!1) G;obtain⟨b6,ch,cd,a0⟩:=Wd.ext v _ (!1) F;have b4:p.CodeRec (.ref j) q_g:=Wd.ext j _ (!1) I;have b3:p.CodeRec (.ref D) q_m:=Wd.ext D _ (!1) aH;have C1:=Cd (sc:=h7 s_g) (m:=m) Wd as aS rfl rfl rfl rfl (!3);have C2:=Cd (sc:=h7 s_m) (m:=m) Wd ar aN rfl rfl rfl rfl (!3);have Fw:eI K "walked" "walked" vm fw _:=((aA,a6,.ref tD,S,l,N,an2,d,X,osl2,rfl,lw,cw),kw);refine(5,A0 cW .i L (gW W) (mkW B) (uW W) (λH=>ol H m L W B) k v,hr,BL Fw WT ap ag ((qL a1 b4 C1 g).mono (!0)) ((qK a0 b3 C2 g).mono (!0)) a1 (_,rfl) a0 (_,rfl) (.all λus hl=>by obtain⟨_,rfl⟩:=xB hl;rfl) (.all λus hl=>by obtain⟨_,rfl⟩:=xB hl;rfl) (λ_ _ s h=>h.same s),?_);have O:∀{b:Addr}{o:HO},C b<*o->(∀φ,o≠.ext φ)->b∉[k,v,j,D]:=λ{b o}e ho J=>by
   obtain⟨φ,e2⟩:=aT b J;rw[e]at e2;exact ho φ (Option.some.inj e2)
  have cv:=g.n60;refine([0],.int 0,none,rfl,g.lt,?_,gY.mpr g.n1,pQ g,by rw[dg];exact le_trans cv (!0),b2.tups λb xs e=>by rw[vC (O e (λ_ z=>nomatch z))];exact e,λwk t wd y md ks a2 ws M R Bm H3 a3 hW ht bd a9 hy aB bi bf ab bl a8 sub le he bs=>?_)
  .unfold uE;rw[if_pos rfl];exact(0,rfl,rfl)
  have hR:R.length=ks.length:=by
   rcases he with z|⟨n,z,_⟩
   .exact z
   .cases z
  have out:∀{b:Addr}{o:HO},H3 b<*o->retr [k,v,j,D] C H3 b<*o:=λ{b o}e=>by
   rw[xM λJ=>?_]
   .exact e
   .rw [bs b J]at e;cases e
  have U:∀{b:Addr}{o:HO},C b<*o->retr [k,v,j,D] C H3 b<*o:=λ{b o}e=>by
   by_cases J:b∈[k,v,j,D]
   .rw [AJ J];exact e
   .exact out (a3 b o (by rw[vC J];exact e))
  rw[hR]at bf;obtain⟨dx,ew⟩:=hW.ex;exact q wk t wd y md ks a2 ws M R Bm _ (λb o J e=>U (az b o J e)) (a4,U b0,bg,λx hx=>(T x hx).imp id λbo=>by obtain⟨c',e1,e2⟩:=bo;exact(c',e1,U e2)) (dx,out ew) (out ht) (bd.same λb xs e=>out e) (out a9) (out hy) (aB.1,λi a r e1 e2=>out (aB.2 i a r e1 e2)) (out bi) bf ab hR bl a8 sub (by rw[dg]at le;exact le)
abbrev D7:Stmt:=uI 2
abbrev D8:Stmt:=uI 3
abbrev D9:Stmt:=uI 1
abbrev D_:Stmt:=uI 4
abbrev Ea:Stmt:=uI 5
abbrev Eb:Stmt:=uI 6
abbrev Ec:Stmt:=uI 44
abbrev ig:Stmt:=uI 43
abbrev Ed:Stmt:=uI 20
abbrev dB:Stmt:=uI 26
abbrev Ee:Stmt:=uI 28
abbrev Ef:Stmt:=uI 41
abbrev Eg:Stmt:=uI 42
abbrev Eh:Stmt:=uI 29
abbrev Ei:Stmt:=uI 36
abbrev Ej:Stmt:=uI 39
abbrev Ek:Stmt:=uI 46
abbrev El:Stmt:=uI 47
abbrev Em:Stmt:=uI 48
abbrev En:Stmt:=uI 51
abbrev Eo:Stmt:=uI 53
abbrev Ep:Stmt:=uI 49
abbrev Er:Stmt:=uI 50
abbrev Es:Stmt:=uI 52
abbrev Et:Stmt:=uI 54
abbrev Eu:Stmt:=uI 55
abbrev Ev:Stmt:=uI 56
abbrev Ew:Stmt:=uI 57
abbrev Ex:Stmt:=uI 58
abbrev Ey:Stmt:=uI 59
abbrev Ez:Stmt:=uI 60
abbrev EA:Stmt:=uI 61
abbrev EB:Stmt:=uI 62
abbrev Aw:Stmt:=uI 63
structure Txt(K:Frag)(mg:Str->Option Value)(cA_ cB_ cC_ cD_ cE_ cF_ cG_ cH_ cI_ cJ_ cK_:Addr):Prop where
 kA_:mg "RoomError"<*.ref cA_
 kB_:mg "NoLetters"<*.ref cB_
 kC_:mg "NoWord"<*.ref cC_
 kD_:mg "NoNumber"<*.ref cD_
 kE_:mg "NoRoom"<*.ref cE_
 kF_:mg "NoMachine"<*.ref cF_
 kG_:mg "OtherLetters"<*.ref cG_
 kH_:mg "TooMany"<*.ref cH_
 kI_:mg "NoPattern"<*.ref cI_
 kJ_:mg "TooGreat"<*.ref cJ_
 kK_:mg "NoKind"<*.ref cK_
 oG_:xt K cG_
 eG_:zo K cG_
 mG_:exmOne K (.ref cG_) (.ref cA_)<*true
 iGB_:PySem.W.kitOne K (.ref cG_) (.ref cB_)<*false
 iGC_:PySem.W.kitOne K (.ref cG_) (.ref cC_)<*false
 iGD_:PySem.W.kitOne K (.ref cG_) (.ref cD_)<*false
 iGE_:PySem.W.kitOne K (.ref cG_) (.ref cE_)<*false
 iGF_:PySem.W.kitOne K (.ref cG_) (.ref cF_)<*false
 iGG_:PySem.W.kitOne K (.ref cG_) (.ref cG_)<*true
 iGH_:PySem.W.kitOne K (.ref cG_) (.ref cH_)<*false
 iGI_:PySem.W.kitOne K (.ref cG_) (.ref cI_)<*false
 iGJ_:PySem.W.kitOne K (.ref cG_) (.ref cJ_)<*false
 iGK_:PySem.W.kitOne K (.ref cG_) (.ref cK_)<*false
 vG_:PySem.W.kitOne K (.ref cG_) (.type "ValueError")<*true
 eH_:zo K cH_
 mH_:exmOne K (.ref cH_) (.ref cA_)<*true
 iHB_:PySem.W.kitOne K (.ref cH_) (.ref cB_)<*false
 iHC_:PySem.W.kitOne K (.ref cH_) (.ref cC_)<*false
 iHD_:PySem.W.kitOne K (.ref cH_) (.ref cD_)<*false
 iHE_:PySem.W.kitOne K (.ref cH_) (.ref cE_)<*false
 iHF_:PySem.W.kitOne K (.ref cH_) (.ref cF_)<*false
 iHG_:PySem.W.kitOne K (.ref cH_) (.ref cG_)<*false
 iHH_:PySem.W.kitOne K (.ref cH_) (.ref cH_)<*true
 iHI_:PySem.W.kitOne K (.ref cH_) (.ref cI_)<*false
 iHJ_:PySem.W.kitOne K (.ref cH_) (.ref cJ_)<*false
 iHK_:PySem.W.kitOne K (.ref cH_) (.ref cK_)<*false
 vH_:PySem.W.kitOne K (.ref cH_) (.type "ValueError")<*true
 len:mg "len"=none
 range:mg "range"=none
 isinst:mg "isinstance"=none
 int:mg "int"=none
 bool:mg "bool"=none
 tuple:mg "tuple"=none
 list:mg "list"=none
 str:mg "str"=none
 zip:mg "zip"=none
 enumerate:mg "enumerate"=none
 reversed:mg "reversed"=none
 max:mg "max"=none
 all:mg "all"=none
 any:mg "any"=none
 set:mg "set"=none
 sorted:mg "sorted"=none
 verr:mg "ValueError"=none
 most:∃t,mg "MOST_ROOMS"<*.int 8 t
noncomputable def sp_numbered:Sp:=λvs H Q _=>∃(a:Addr)(o:HO)(xs:List V)(ks:List KS)(nest:Bool),vs=[.ref a]/\(o=.lst xs\/o=.tup xs)/\H a=some o/\xs.length=ks.length/\ks.length≤2100/\(∀(i:Nat)(k:KS)(x:V),ks[i]?<*k->xs[i]?<*x->gQ H k x/\CI k=nest)/\∀p H',a' H H'->H' p<*.lst (b' (ao ks))->Q (.ref p) H'
noncomputable def sp_manyM:Sp:=λvs H Q _=>∃(a:Addr)(ns:LN),vs=[.ref a]/\H a=some (.lst (b' ns))/\0<ns.length/\∀M∈ns,(∀x∈ns,x≤M)->Q (.int ((M:Int)+1)) H
noncomputable def sp_roundsG:Sp:=λvs H Q _=>∃(wy mk:Addr)(rows:List Addr)(o om:HO)(L:LN)(W:LL)(B:List Bool)(most:Nat),vs=[.ref wy,.ref mk,.int (most:Int)]/\(o=.lst (rows.map V.ref)\/o=.tup (rows.map V.ref))/\H wy=some o/\(om=.lst (B.map V.bl)\/om=.tup (B.map V.bl))/\H mk=some om/\rows.length=W.length/\qe H rows W/\g_ L W B/\
 ∀(p:Addr)(lots:List Addr)(k:Nat)(H':Hp),a' H H'->H' p<*.lst (lots.map V.ref)->lots.length=k+1->AW H' lots W B->(Rd W B (k+1)=Rd W B k\/∃M∈Rd W B k,most<M+1)->k≤4410000->Q (.ref p) H'
noncomputable def sp_firstrooms:Sp:=λvs H Q _=>∃(a:Addr)(ns:LN),vs=[.ref a]/\H a=some (.lst (b' ns))/\0<ns.length/\ns.length≤2100/\(∀x∈ns,x<2100)/\(∀(M j:Nat),M∈ns->j≤M->j∈ns)/\
 ∀(m:Nat)(p:Addr)(H':Hp),aP ns m->a' H H'->H p=none->H' p<*.lst (b' ((List.range m).map λj=>ns.idxOf j))->Q (.ref p) H'
noncomputable def sp_pword5:Sp:=λvs H Q _=>∃(wy p:Addr)(rows lots:List Addr)(L:LN)(W:LL)(B:List Bool)(k r s:Nat),vs=[.str (tx L),.ref wy,.ref p,.int (r:Int),.int (s:Int)]/\H wy=some (.lst (rows.map V.ref))/\xj H rows W/\g_ L W B/\H p=some (.lst (lots.map V.ref))/\lots.length=k+1/\AW H lots W B/\l_ W B k r≠l_ W B k s/\k≤4410000/\r<W.length/\s<W.length/\
 ∀w H',a' H H'->(∀c∈w,c∈L)->w.length≤2100->B.getD (run L W r w) false≠B.getD (run L W s w) false->Q (.str (tx w)) H'
structure Ce(K:Frag)(cW:Addr):Prop where
 cls:zM K cW
 na1:vj K cW Q4
 na4:vj K cW Y0
 na5:vj K cW "marks"
noncomputable def EC(cW:Addr):Sp:=λvs H Q _=>∃(wk t wd y md lo:Addr)(rows:List Addr)(L:LN)(R:LL)(Bm:List Bool)(k:Nat),vs=[.ref wk,.ref lo]/\Al H cW wk L t wd y md/\H y=some (.lst (rows.map V.ref))/\xj H rows R/\H md=some (.lst (Bm.map V.bl))/\g_ L R Bm/\H lo=some (.lst (b' (Rd R Bm k)))/\
 ∀(m:Nat)(f:Addr)(H':Hp),aP (Rd R Bm k) m->a' H H'->H f=none->ol H' f L (uU R (Rd R Bm k) m) (xk Bm (Rd R Bm k) m)->Q (.ref f) H'
noncomputable def bT(cW:Addr):Sp:=λvs H Q _=>∃(wk t wd y md p rm:Addr)(rows lots:List Addr)(L:LN)(R:LL)(Bm:List Bool)(k:Nat)(rs:LN),vs=[.ref wk,.ref p,.ref rm]/\Al H cW wk L t wd y md/\H y=some (.lst (rows.map V.ref))/\xj H rows R/\g_ L R Bm/\H p=some (.lst (lots.map V.ref))/\lots.length=k+1/\AW H lots R Bm/\k≤4410000/\
 H rm=some (.lst (b' rs))/\rs.length=9/\(∀r∈rs,r<R.length)/\(∀(i j a b:Nat),i<j->rs[i]?<*a->rs[j]?<*b->l_ R Bm k a≠l_ R Bm k b)/\∀tl ta H',a' H H'->H' tl<*.lst (ta.map V.ref)->ta.length=36->xP H' L (λa b u=>Bm.getD (run L R (rs.getD a 0) u) false≠Bm.getD (run L R (rs.getD b 0) u) false) ta 9 0->Q (.ref tl) H'
noncomputable def A9(cW cH_:Addr):Sp:=λvs H Q E=>∃(wk t wd y md:Addr)(rows:List Addr)(L:LN)(R:LL)(Bm:List Bool)(ws:LL),vs=[.ref wk]/\Al H cW wk L t wd y md/\H y=some (.lst (rows.map V.ref))/\xj H rows R/\H md=some (.lst (Bm.map V.bl))/\H wd=some (.lst (na ws))/\ws.length=R.length/\g_ L R Bm/\(∀(i:Nat)(v:LN),ws[i]?<*v->(∀c∈v,c∈L)/\run L R 0 v=i/\v.length≤2100)/\(∀d H',a' H H'->P9 H' d L (λu=>ub L R Bm u=true)->E (.ref cH_) (some d) H')/\
 ∀(m k:Nat)(f:Addr)(H':Hp),aP (Rd R Bm k) m->Rd R Bm (k+1)=Rd R Bm k->m≤8->a' H H'->H f=none->ol H' f L (uU R (Rd R Bm k) m) (xk Bm (Rd R Bm k) m)->Q (.ref f) H'
noncomputable def C'(cOL:Addr):Sp:=λvs H Q E=>∃(m m2:Addr)(L L':LN)(W:LL)(B:List Bool)(W2:LL)(B2:List Bool),vs=[.ref m,.ref m2]/\ol H m L W B/\g_ L W B/\ol H m2 L' W2 B2/\g_ L' W2 B2/\(L≠L'->E (.ref cOL) none H)/\(L=L'->Q .non H)
noncomputable def Cf(P0:Addr)(sites:List (Pos×Str)):Sp:=λvs H Q _=>∃(m:Addr)(L:LN)(W:LL)(B:List Bool),vs=[.ref m]/\ol H m L W B/\g_ L W B/\vL H P0 sites/\
 ∀(f:Addr)(W':LL)(B':List Bool)(H':Hp),wv P0 H H'->vL H' P0 sites->ol H' f L W' B'->ym L W B W' B'->Q (.ref f) H'
noncomputable def dq(K:Frag):Sp:=λvs H Q _=>∃(a:Addr)(ns:List Int)(k:Int),vs=[.ref a,.int k]/\lb K H a (ns.map V.int)/\0≤k/\∀z,Q (.int z) H
noncomputable def sp_letters:Sp:=λvs H Q _=>∃(c:Int),vs=[.int c]/\∀L,AC L->Q (.str (tx L)) H
noncomputable def Fh(K:Frag):Sp:=λvs H Q _=>∃(a:Addr)(ns:List Int)(p:Int)(n:Nat)(L:LN),vs=[.ref a,.int p,.int (n:Int),.str (tx L)]/\lb K H a (ns.map V.int)/\0≤p/\1≤n/\n≤60/\AC L/\
 ∀(m:Addr)(W:LL)(B:List Bool)(H':Hp),a' H H'->ol H' m L W B->g_ L W B->W.length=n->Q (.ref m) H'
noncomputable def sp_ismach:Sp:=λvs H Q _=>∃(m:Addr)(L:LN)(W:LL)(B:List Bool),vs=[.ref m,.str (tx L)]/\ol H m L W B/\g_ L W B/\∀H',a' H H'->Q (.bl true) H'
noncomputable def BO(d:Nat):Sp:=λvs H Q _=>∃x y,vs=[x,y]/\eG H d x y/\Q (.bl true) H
noncomputable def sp_after:Sp:=λvs H Q _=>∃(m:Addr)(L:LN)(W:LL)(B:List Bool)(r:Nat)(w:LN),vs=[.ref m,.int (r:Int),.str (tx w)]/\ol H m L W B/\g_ L W B/\r<W.length/\(∀c∈w,c∈L)/\Q (.int (run L W r w:Nat)) H
noncomputable def sp_ltakes:Sp:=λvs H Q _=>∃(m:Addr)(L:LN)(W:LL)(B:List Bool)(v:LN),vs=[.ref m,.str (tx v)]/\ol H m L W B/\g_ L W B/\(∀c∈v,c∈L)/\Q (.bl (B.getD (run L W 0 v) false)) H
noncomputable def sp_isword:Sp:=λvs H Q _=>∃(L w:LN),vs=[.str (tx w),.str (tx L)]/\(∀c∈w,c∈L)/\w.length≤20000/\∀H',a' H H'->Q (.bl true) H'
noncomputable def ED(cH_:Addr)(ts:List (Addr×List (Pos×Str))):Sp:=λvs H Q E=>∃(k:Nat)(m m2:Addr)(L:LN)(W1 W2:LL)(B1 B2:List Bool),vs=[.int (k:Int),.ref m,.ref m2]/\k<7/\ol H m L W1 B1/\g_ L W1 B1/\ol H m2 L W2 B2/\g_ L W2 B2/\W1.length≤8/\W2.length≤8/\gR ts H/\(∀d H',KT ts H H'->P9 H' d L (BI k (ub L W1 B1) (ub L W2 B2))->E (.ref cH_) (some d) H')/\
 ∀(f:Addr)(W':LL)(B':List Bool)(H':Hp),KT ts H H'->ol H' f L W' B'->g_ L W' B'->W'.length≤8->(∃v,wY L W' B' v)->Q (.ref f) H'
noncomputable def bW(cH_:Addr):Sp:=λvs H Q _=>∃(e:Addr)(dd:Option Addr),vs=[.ref e]/\H e=some (gn e (.ref cH_) dd)/\∀p H',a' H H'->H' p<*.lst [.str "TooMany"]->Q (.ref p) H'
noncomputable def qc(cH_:Addr)(ts:List (Addr×List (Pos×Str)))(H:Hp)(L:LN)(S:LN->Prop)(v3 v4:V)(H':Hp):Prop:=KT ts H H'/\((v3=.non/\∃e d:Addr,v4=.ref e/\H' e=some (gn e (.ref cH_) (some d))/\P9 H' d L S)\/(v4=.non/\∃(f:Addr)(W':LL)(B':List Bool),v3=.ref f/\ol H' f L W' B'/\g_ L W' B'/\W'.length≤8/\∃v,wY L W' B' v))
noncomputable def bU(cH_:Addr)(ts:List (Addr×List (Pos×Str))):Sp:=λvs H Q _=>∃(k:Nat)(m m2:Addr)(L:LN)(W1 W2:LL)(B1 B2:List Bool),vs=[.int (k:Int),.ref m,.ref m2]/\k<7/\ol H m L W1 B1/\g_ L W1 B1/\ol H m2 L W2 B2/\g_ L W2 B2/\W1.length≤8/\W2.length≤8/\gR ts H/\
 ∀(p:Addr)(v3 v4:V)(H':Hp),qc cH_ ts H L (BI k (ub L W1 B1) (ub L W2 B2)) v3 v4 H'->H' p<*.tup [v3,v4]->Q (.ref p) H'
noncomputable def sp_led:Sp:=λvs H Q _=>∃(m tl:Addr)(L:LN)(W:LL)(B T0:List Bool)(k:Nat),vs=[.ref m,.ref tl,.int (k:Int)]/\ol H m L W B/\g_ L W B/\H tl=some (.lst (T0.map V.bl))/\T0.length=W.length/\k<L.length/\
 ∀(p:Addr)(T':List Bool)(H':Hp),a' H H'->H p=none->H' p<*.lst (T'.map V.bl)->C_ W k T0 T'->Q (.ref p) H'
noncomputable def sp_marked:Sp:=λvs H Q _=>∃(m tl:Addr)(L:LN)(W:LL)(B T0:List Bool),vs=[.ref m,.ref tl]/\ol H m L W B/\g_ L W B/\H tl=some (.lst (T0.map V.bl))/\T0.length=W.length/\
 ∀b:Bool,(b=true↔∃r,r<W.length/\T0.getD r false=true/\B.getD r false=true)->Q (.bl b) H
noncomputable def sp_inthen:Sp:=λvs H Q _=>∃(m m2:Addr)(L:LN)(W1 W2:LL)(B1 B2:List Bool)(v:LN),vs=[.ref m,.ref m2,.str (tx v)]/\ol H m L W1 B1/\g_ L W1 B1/\ol H m2 L W2 B2/\g_ L W2 B2/\(∀c∈v,c∈L)/\∀(b:Bool)(H':Hp),a' H H'->(b=true↔A4 (ub L W1 B1) (ub L W2 B2) v)->Q (.bl b) H'
noncomputable def sp_inagain:Sp:=λvs H Q _=>∃(m:Addr)(L:LN)(W:LL)(B:List Bool)(v:LN),vs=[.ref m,.str (tx v)]/\ol H m L W B/\g_ L W B/\(∀c∈v,c∈L)/\∀(b:Bool)(H':Hp),a' H H'->(b=true↔Ag (ub L W B) v)->Q (.bl b) H'
noncomputable def sp_in5:Sp:=λvs H Q _=>∃(k:Nat)(m m2:Addr)(L:LN)(W1 W2:LL)(B1 B2:List Bool)(v:LN),vs=[.int (k:Int),.ref m,.ref m2,.str (tx v)]/\k<7/\ol H m L W1 B1/\g_ L W1 B1/\ol H m2 L W2 B2/\g_ L W2 B2/\(∀c∈v,c∈L)/\v.length≤9000/\∀(b:Bool)(H':Hp),a' H H'->(b=true↔(BI k (ub L W1 B1) (ub L W2 B2)) v)->Q (.bl b) H'
noncomputable def sp_parted5:Sp:=λvs H Q _=>∃(k:Nat)(rf D tl:Addr)(m m2:Addr)(L:LN)(W1 W2:LL)(B1 B2:List Bool)(us:LL)(ta:List Addr),vs=[.int (k:Int),.ref m,.ref m2,.ref rf]/\k<7/\ol H m L W1 B1/\g_ L W1 B1/\ol H m2 L W2 B2/\g_ L W2 B2/\H rf=some (.lst [.ref D,.ref tl,.non])/\H D=some (.lst (na us))/\H tl=some (.lst (ta.map V.ref))/\us.length=9/\ta.length=36/\(∀v∈us,(∀c∈v,c∈L)/\v.length≤2100)/\
 xP H L (λa b u=>¬ ((BI k (ub L W1 B1) (ub L W2 B2)) (us.getD a []++u)↔(BI k (ub L W1 B1) (ub L W2 B2)) (us.getD b []++u))) ta 9 0/\∀H',a' H H'->Q (.bl true) H'
section
variable{P:Program}{w:World}{K:Frag}{mg:Str->Option Value}{base:Heap}{P0 PT cW:Addr}{ts:List (Addr×List (Pos×Str))}{tabs:List (Addr×Addr)}{cA_ cB_ cC_ cD_ cE_ cF_ cG_ cH_ cI_ cJ_ cK_:Addr}
end
namespace Tu
noncomputable def sp_rinto:Sp:=λvs H Q _=>∃(m st:Addr)(L:LN)(W:LL)(B:List Bool)(j:Nat)(S:LN),vs=[.ref m,.int (j:Int),.ref st]/\ol H m L W B/\g_ L W B/\j<L.length/\H st=some (.tup (b' S))/\∀p H',a' H H'->H' p<*.tup (b' (An W S j))->Q (.ref p) H'
noncomputable def vV(cW P1:Addr)(sites:List (Pos×Str)):Sp:=λvs H Q _=>∃(m:Addr)(L:LN)(W:LL)(B:List Bool),vs=[.ref m]/\ol H m L W B/\g_ L W B/\W.length≤8/\vL H P1 sites/\
 ∀(wk t wd y md:Addr)(ks:LL)(ws:LL)(rows:List Addr)(R:LL)(Bm:List Bool)(H':Hp),wv P1 H H'->vL H' P1 sites->Al H' cW wk L t wd y md->H' wd<*.lst (na ws)->H' y<*.lst (rows.map V.ref)->xj H' rows R->H' md<*.lst (Bm.map V.bl)->
  Bf (An W) L (vG W B) ks ws ks.length 0->wJ (An W) L.length ks R->R.length=ks.length->Bm.length=R.length->(∀(r:Nat)(k:LN)(b:Bool),ks[r]?<*k->Bm[r]?<*b->b=ni k)->ks.length≤256->Q (.ref wk) H'
abbrev h_:Stmt:=uI 30
abbrev aq:Stmt:=(ln h_).getD 0 (.Pass (0,0,0,0))
abbrev q_tg:Str:="walked_turned.<locals>.goals_of"
abbrev q_tl:Str:="walked_turned.<locals>.<lambda>"
abbrev dY:Expr:=match (ln h_).getD 2 (.Pass (0,0,0,0))with
 |.Return (some (.Call _ [_,_,_,l] _ _)) _=>l
 |_=>.Name "" (0,0,0,0)
abbrev e_W:Arguments:=match dY with|.Lambda a _ _ _=>a|_=>([],[],none,[],[],none,[])
abbrev e_V:Expr:=match dY with|.Lambda _ b _ _=>b|_=>.Name "" (0,0,0,0)
abbrev l_scope:Scope:=match dY with|.Lambda _ _ s _=>s|_=>h7 aq
abbrev fJ:Pos:=match dY with|.Lambda _ _ _ p=>p|_=>(0,0,0,0)
noncomputable def va:List (Pos×Str):=[(f_d aq,q_tg,),(fJ,q_tl,)]
theorem jk:C6 ["state",Q0] "state" [Q0] (h7 aq):=(rfl,rfl,rfl,!3,rfl,rfl,!0,rfl,!3,λ_ _=>rfl,λ_=>rfl)
theorem mi:wW ["state"] ["state"] [] l_scope:=(rfl,rfl,rfl,!3,rfl,rfl,!0,!3,!3)
section
variable{P:Program}{w:World}{K:Frag}{mg:Str->Option Value}{base:Heap}{f c m:Addr}{clos:List (Str×Addr)}{doc pm ctv:Value}{L:LN}{W:LL}{B:List Bool}
theorem mO(ho:base.get? f<*fnMade Z7 q_tg (nt aq) (ln aq) (h7 aq) clos doc pm c ctv)(O:base.CodeRec (.ref c) q_tg)(C:vb base clos (h7 aq) [Q0] [.ref m])(F:g_ L W B)(y:mg "len"=none)(g:mg "range"=none)(X:Df P w K mg base "rooms_into" 1 [Q0,Z1,Q5] sp_rinto):aa P w K mg base nq 2 f (PySem.W.fnX Z7 q_tg (nt aq) (ln aq) (h7 aq) clos .none .none doc pm none (.ref c) ctv) ["state"] (AY .t L (An W) (bN W.length) λH=>ol H m L W B):=by
 refine A3 (fvs:=[.ref m]) ho rfl O jk C (λvs H Q E h=>?_) (λA M s H Y Q E hr h=>?_)
 .obtain ⟨k,v,rfl,_⟩:=h;rfl
 .obtain ⟨k,v,ev,N,hU,U,q⟩:=h;obtain rfl:Y=v:=by simpa using ev
  refine(_,(kd (n6 (b8 ["state",Q0] rfl (!0) (ze rfl g (m_ (vx EI (!4) y boot_len (m_ (p' 1))))) (λcl C fp s' H'=>(vY,(ri X hr (vg (pv 2) (pv 0) (pv 1)))))))),?_);unfold uE at N;rw[if_neg (!0)]at N;obtain⟨b,rfl,hb⟩:=N;have G:=F.lt.hi;have hz:(tx L).length≤sizeLine:=o9 (by rw[vn];exact le_trans G (!0));obtain⟨wy,mk,S,h1,h2,h3,h4,h5⟩:=id U;dsimp only[eX];refine BZ (n:=L.length) (λR h=>(o_ h1 aw (_,rfl,hz,by rw[vn];exact h))) (le_trans G (!0)) (λD j ys H'=>∃ts:List Addr,ys=ts.map V.ref/\ts.length=j/\∀(i:Nat)(a:Addr),ts[i]?<*a->H' a<*.tup (b' (An W k i))) (λD I=>([],rfl,rfl,λi a e=>by simp at e)) ?_ ?_
  .intro D j ys H' R1 R2 I hj d p hp k1 k2;obtain⟨ts,rfl,l,o⟩:=hp;refine i_ (_,rfl,_,rfl,_,rfl,m,b,L,W,B,j,k,?_,U.same d,F,hj,d _ _ hb,λt H4 J Z=>?_)
   .rw [Int.zero_add];rfl
   have r:=J _ _ p;refine k1 (.ref t) _ r (a'.set (d.trans J) I) (ts++[t],by rw[map_append];rfl,by rw[uA,l];rfl,λi u e=>?_);rcases Am e with z|⟨rfl,rfl⟩
   .exact n7 (J _ _ (o i u z)) r (!5)
   .rw [l];exact n7 Z r (!5)
  .intro D ys H' I d p hp;obtain⟨ts,rfl,l,o⟩:=hp;refine q D (ts.map V.ref) H' d (.inr (I,p)) (by rw[j_,l]) λj x T=>?_;rw[n']at T;obtain⟨a,ha,rfl⟩:=v8 T;unfold uE;rw[if_neg (!0)];exact(a,rfl,o j a ha)
theorem mM(l:base.get? f<*kla_obj "<lambda>" q_tl e_W e_V l_scope clos pm c ctv)(i:base.CodeRec (.ref c) q_tl)(C:vb base clos l_scope [] [])(a:Hp->Prop)(U:LL):aa P w K mg base nq 1 f (kla_fn "<lambda>" q_tl e_W e_V l_scope clos pm (.ref c) ctv) ["state"] (AZ .t ni U a):=by
 refine BA (fvs:=[]) l rfl i mi C (λj H Q E h=>?_) (λA d s H j Q E o h=>?_)
 .obtain ⟨k,v,rfl,_⟩:=h;rfl
 .obtain ⟨k,v,rfl,g,p,r,q⟩:=h;refine(_,xR cb c_ (pv 0) (by with_unfolding_all rfl),?_);unfold uE at g;rw[if_neg (!0)]at g;obtain⟨b,rfl,n⟩:=g;refine(_,rfl,b,_,rfl,.inr (pa.of n),rfl,E7 _,?_);have e:AU (.int 0) (b' k)=ni k:=DW 0 k;show Q (.bl (AU (.int 0) (b' k))) H;rw[e];exact q H (a'.refl H)
end
theorem b_R:s_ [Q0,Z7,"start"] [Q0] (h7 h_):=uH
theorem w4(e:AX X U f H d)(sub:∀y a,b.lookup y<*a->X.env.cells.lookup y<*a)(has:∀y∈sc.names,y.2=.free->∃a,b.lookup y.1<*a):vb d b sc [] []:=
 (λy z c h1 h2=>e.inj y z c (sub y c h1) (sub z c h2),has,λy c h=>e.cell y c (sub y c h),rfl,λi y v h1 h2=>by simp at h1)
set_option maxHeartbeats 8000000 in
theorem zH{P:Program}{w:World}{oc kV doc pm ct aT ar G ap j aA bs:Value}(lk:K.lookup f<*(oc,od,.func (fnOf "walked_turned" "walked_turned" (nt h_) (ln h_) (h7 h_) .none kV doc pm an (.ref c) ct),cK))(b4:codeIn K (.ref c) "walked_turned"=true)(lw:K.lookup fw<*(aT,bo,.func (fnOf "walked" "walked" (nt vm) (ln vm) (h7 vm) (.ref tD) ar G ap an2 j aA),osl2))(cw:codeIn K j "walked"=true)(kw:keepIn K (.ref fw)=true)(mw:mg "walked"<*.ref fw)(lD:K.lookup tD<*(bs,cM,.seq #[.none] nD,cA))(WT:Av K mg cW fI fdI)(T:mg "len"=none)(aH:mg "zip"=none)(aM:mg "tuple"=none)(J:mg "range"=none)(ab:mg "enumerate"=none)(hC:CodeHd base c P1)(hB:xi base mg)(DR:∀base:Heap,Df P w K mg base "rooms_into" 1 [Q0,Z1,Q5] sp_rinto):aa P w K mg base nq 6 f (fnOf "walked_turned" "walked_turned" (nt h_) (ln h_) (h7 h_) .none kV doc pm an (.ref c) ct) [Q0] (vV cW P1 va):=by
 refine dU lk b4 b_R (λvs H Q E h=>?_) (λA bm s H vs Q E hr h=>?_)
 .obtain ⟨m,L,W,B,rfl,_⟩:=h;rfl
 .obtain ⟨m,L,W,B,rfl,hM,O,hW8,hT,q⟩:=h;refine(_,(j3 ((zx (i:=1) (qual:=q_tg) (c:=c) (P0:=P1) (sites:=va) b_R.nd rfl (Or.inl rfl) rfl hC hB (!3) (!3))) (j3 ((oI 2 b_R.nd (xS Aa (!4) aM boot_tuple (m_ (CZ [Q0,Z7,"start"] rfl (!0) (CV rfl ab (m_ (p' 0))) (λcl C fp s' H'=>(dC (uV (pv 1)),pv 0))))))) (kd (n6 (Bw (dvs:=[.non]) rfl mw kw (BN (kV:=ar) (doc:=G) (pm:=ap) (an:=an2) (cdv:=j) (ct:=aA) lD) (.cons rfl .nil) (v_ (p' 0) (vg (pv 2) (pv 1) (Bz (qual:=q_tl) (c:=c) (P0:=P1) (sites:=va) rfl hC hB (!3) (!3)))) (λ_=>rfl)))))),?_);refine(hT,λaB F l H1 aS a6 cX cO s1 a8 a3 a1=>?_);have a9:ol H1 m L W B:=hM.tups (zX s1 hT);obtain⟨wy,mk,co,h1,h2,h3,h4,h5⟩:=id a9;have a4:=O.bl;have aV:=O.n60;dsimp only[vW];dsimp only[tNext,aF,aD,w',vq,xa,vX];refine E8 (c:=mk) (λR h=>(o_ h1 ay h)) (.inr rfl) h3 (λD i ys H'=>ys=b' ((List.range i).filter λr=>B.getD r false)) (by rw[j_,a4];exact o9 (le_trans aV (!0))) (λD hD=>rfl) ?_ ?_
  .intro D i x ys H' H3 R1 R2 hD hx M S hp g k1 k2;rw[n']at hx;obtain⟨b,v,rfl⟩:=v8 hx;have eb:B.getD i false=b:=by rw[m8,v];rfl
   refine(_,rfl,_,rfl,?_);cases b with
   |true=>
    refine ai (_,rfl,k1 _ H3 (g _ _ S) (a'.set (M.trans g) hD) ?_);rw[hp,uL,eb];exact(CT _ _).symm
   |false=>
    refine ae (k2 H3 (M.trans g) (g _ _ S) ?_);rw[hp,uL,eb];simp
  intro D ys H2 hD M S hp;rw[j_,a4]at hp;subst hp;refine(D,_,rfl,.inl (lb.of S,λst b2=>?_));have s2:a' H1 (L2.upd H2 st (.tup (b' ((List.range W.length).filter λr=>B.getD r false)))):=M.trans (a'.upd b2);have X:L2.upd H2 st (.tup (b' ((List.range W.length).filter λr=>B.getD r false))) st<*.tup (b' (vG W B)):=j';generalize L2.upd H2 st (.tup (b' ((List.range W.length).filter λr=>B.getD r false)))=H3 at s2 X;have N:=AK a8 s2;refine(o_ (s2 _ _ h1) aw (_,rfl,_,rfl,N,λcg f2 c2 I aN a5 cV cN s4 ca a2 a0=>?_));obtain⟨cC,ce,_⟩:=id a8;obtain⟨cB,cU,_⟩:=id N;obtain⟨bk,cd,b1,as⟩:=id ca;have nP:∀{b:Addr}{φ:Heap->Prop},H1 b<*.ext φ->b≠P1:=λ{b φ}e z=>by rw[z,ce]at e;cases e
  have Y:I F<*tj F Z7 q_tg (nt aq) (ln aq) (h7 aq) aB l:=s4 F _ (nP a1) (s2 _ _ a1);have Z:I l<*k_ l q_tg:=s4 l _ (nP a3) (s2 _ _ a3);have cf:ol I m L W B:=(a9.same s2).tups (zX s4 N);have U:I st<*.tup (b' (vG W B)):=zX s4 N _ _ X;have a7:∀u∈[F,f2,l,c2],∃φ,I u<*.ext φ:=λu hu=>by
   simp only[mem_cons,not_mem_nil,or_false]at hu;rcases hu with rfl|rfl|rfl|rfl
   .exact (_,Y)
   .exact (_,a0)
   .exact (_,Z)
   .exact (_,a2)
  refine([F,f2,l,c2],a7,λd Wd=>?_);obtain⟨cp,cI,cv,bg⟩:=Wd.ext F _ (!1) Y;obtain⟨cH,cs,bd⟩:=Wd.ext f2 _ (!1) a0;have cn:d.CodeRec (.ref l) q_tg:=Wd.ext l _ (!1) Z;have ch:d.CodeRec (.ref c2) q_tl:=Wd.ext c2 _ (!1) a2;have C1:=Cd (sc:=h7 aq) (m:=m) Wd aS a6 rfl rfl rfl rfl (!3);have C2:=w4 (sc:=l_scope) Wd aN a5;have Fw:eI K "walked" "walked" vm fw _:=((aT,bo,.ref tD,ar,G,ap,an2,j,aA,osl2,rfl,lw,cw),kw);refine(5,A0 cW .t L (An W) ni (bN W.length) (λH=>ol H m L W B) F f2,hr,BL Fw WT T aH ((mO bg cn C1 O T J (DR d)).mono (!0)) ((mM bd ch C2 _ _).mono (!0)) bg (_,rfl) bd (_,rfl) (.all λus hl=>by obtain⟨_,rfl⟩:=xB hl;rfl) (.all λus hl=>by obtain⟨_,rfl⟩:=xB hl;rfl) (λ_ _ s h=>h.same s),?_);have p:∀{b:Addr}{o:HO},I b<*o->(∀φ,o≠.ext φ)->b∉[F,f2,l,c2]:=λ{b o}e ho v=>by
   obtain⟨φ,e2⟩:=a7 b v;rw[e]at e2;exact ho φ (Option.some.inj e2)
  refine(vG W B,.ref st,none,rfl,O.lt,?_,C0 _ _,λk hk q hq=>C0 _ _,le_trans (fb hW8) (!0),cf.tups λb xs e=>by rw[vC (p e (λ_ z=>nomatch z))];exact e,λwk t wd y md ks cx ws ag R Bm H5 bi hW ht cS b0 hy aU b3 bf aC bl bV sub le he b6=>?_)
  .unfold uE;rw[if_neg (!0)];exact(st,rfl,by show uD _ I st=_;rw[vC (p U (λ_ z=>nomatch z))];exact U)
  have hR:R.length=ks.length:=by
   rcases he with z|⟨n,z,_⟩
   .exact z
   .cases z
  have out:∀{b:Addr}{o:HO},H5 b<*o->retr [F,f2,l,c2] I H5 b<*o:=λ{b o}e=>by
   rw[xM λv=>?_]
   .exact e
   .rw [b6 b v]at e;cases e
  have az:∀{b:Addr}{o:HO},I b<*o->retr [F,f2,l,c2] I H5 b<*o:=λ{b o}e=>by
   by_cases v:b∈[F,f2,l,c2]
   .rw [AJ v];exact e
   .exact out (bi b o (by rw[vC v];exact e))
  rw[hR]at bf;obtain⟨dx,ew⟩:=hW.ex;exact q wk t wd y md ks ws ag R Bm _ (λb o v e=>az (s4 b o v (s2 _ _ (s1 b o v e)))) (bk,az cd,b1,λx hx=>(as x hx).imp id λb5=>by obtain⟨c',e1,e2⟩:=b5;exact(c',e1,az e2)) (dx,out ew) (out b0) (out hy) (aU.1,λi a r e1 e2=>out (aU.2 i a r e1 e2)) (out b3) bf aC hR bl bV (le_trans le (fb hW8))
end Tu
end K25
namespace K25
open PySem L2 RA
namespace A
noncomputable def sp_lot(K:Frag):Sp:=λvs H Q _=>∃(p:Addr)(ns:LN),vs=[.ref p]/\lb K H p (b' ns)/\(∀x∈ns,x<8)/\∀t H',a' H H'->H' t<*.tup (b' (bF ns))->Q (.ref t) H'
noncomputable def sp_hasm:Sp:=λvs H Q _=>∃(m v:Addr)(o:HO)(L:LN)(W:LL)(B:List Bool)(k:LN),vs=[.ref m,.ref v]/\ol H m L W B/\g_ L W B/\(o=.lst (b' k)\/o=.tup (b' k))/\H v=some o/\k.length≤60/\(∀x∈k,x<W.length)/\∀H',a' H H'->Q (.bl (k.any λr=>B.getD r false)) H'
noncomputable def pT(B:List Bool)(n:Nat)(Rest:Hp->Prop):Sp:=λvs H Q _=>∃(p:Addr)(l:LN),vs=[.ref p]/\H p=some (.lst (b' l))/\(∀x∈l,x<n)/\l.length≤50/\Rest H/\∀t H',a' H H'->aX .q H' (iU B l) t->Q (.ref t) H'
abbrev o5:Stmt:=uI 38
abbrev bb:Stmt:=(ln o5).getD 1 (.Pass (0,0,0,0))
abbrev aW:Stmt:=(ln o5).getD 2 (.Pass (0,0,0,0))
abbrev q_ae:Str:="again.<locals>.entered"
abbrev q_ag:Str:="again.<locals>.goals_of"
abbrev q_al:Str:="again.<locals>.<lambda>"
abbrev pF:Expr:=match (ln o5).getD 3 (.Pass (0,0,0,0))with
 |.Return (some (.Call _ [.Call _ [_,_,_,l] _ _] _ _)) _=>l
 |_=>.Name "" (0,0,0,0)
abbrev e_W:Arguments:=match pF with|.Lambda a _ _ _=>a|_=>([],[],none,[],[],none,[])
abbrev e_V:Expr:=match pF with|.Lambda _ b _ _=>b|_=>.Name "" (0,0,0,0)
abbrev l_scope:Scope:=match pF with|.Lambda _ _ s _=>s|_=>h7 aW
abbrev fJ:Pos:=match pF with|.Lambda _ _ _ p=>p|_=>(0,0,0,0)
noncomputable def sitesA:List (Pos×Str):=[(f_d bb,q_ae,),(f_d aW,q_ag,),(fJ,q_al,)]
theorem su:wW [Q5,"piece"] [Q5] ["piece"] (h7 bb):=(rfl,rfl,rfl,!3,rfl,rfl,!0,!3,!3)
theorem ss:wW ["state","entered","piece"] ["state"] ["entered","piece"] (h7 aW):=(rfl,rfl,rfl,!3,rfl,rfl,!0,!3,!3)
theorem sr:wW ["state"] ["state"] [] l_scope:=(rfl,rfl,rfl,!3,rfl,rfl,!0,!3,!3)
section
variable{P:Program}{w:World}{K:Frag}{mg:Str->Option Value}{base:Heap}{f c m g:Addr}{clos:List (Str×Addr)}{doc pm ctv:Value}{L:LN}{W:LL}{B:List Bool}
theorem sK(ho:base.get? f<*fnMade "entered" q_ae (nt bb) (ln bb) (h7 bb) clos doc pm c ctv)(G:base.CodeRec (.ref c) q_ae)(C:vb base clos (h7 bb) ["piece"] [.ref m])(I:g_ L W B)(h8:W.length≤8)(Y:Df P w K mg base "has_marked" 1 [Q0,Q5] sp_hasm)(J:Df P w K mg base "lot_of" 1 [Q5] (sp_lot K)):aa P w K mg base nq 2 f (PySem.W.fnX "entered" q_ae (nt bb) (ln bb) (h7 bb) clos .none .none doc pm none (.ref c) ctv) [Q5] (pT B W.length λH=>ol H m L W B):=by
 refine zV (fvs:=[.ref m]) ho rfl G su C (λZ H Q E h=>?_) (λA n s H Z Q E D h=>?_)
 .obtain ⟨p,l,rfl,_⟩:=h;rfl
 .obtain ⟨p,l,rfl,hp,hlW,hl50,hM,q⟩:=h;refine(_,(j3 ((t_ (uV (ri Y D (pu (pv 1) (pv 0)))) ((kd (n6 (yC (pu vD (ri J D (m_ (uQ mK (pv 0) (wc (m_ c_)))))))))) (t6))) (kd (n6 (yC (pu vD (ri J D (m_ (pv 0)))))))),?_);refine(_,rfl,_,rfl,m,p,_,L,W,B,l,rfl,hM,I,.inl rfl,hp,le_trans hl50 (!0),hlW,λX i=>(_,rfl,?_));have T:∀x∈l,x<8:=λx v=>lt_of_lt_of_le (hlW x v) h8;have b:2≤sizeLine:=o9 (!0);unfold iU at q;cases N:l.any (λr=>B.getD r false)with
  |true=>
   rw[if_pos N]at q;refine ai ?_;refine(_,rfl,o9 (by show 1≤16777216;decide),λe d=>?_);have s2:=i.trans (a'.upd (o:=.lst [.int 0]) d);have S:=p_ (u:=.lst [.int 0]) (i _ _ hp) d;have R:L2.upd X e (.lst [.int 0]) e<*.lst [.int 0]:=j';generalize L2.upd X e (.lst [.int 0])=U at s2 S R;refine(p,e,_,_,rfl,rfl,S,R,o9 (by rw[e_];show l.length+1≤16777216;lia),λj F=>?_);have M:=s2.trans (a'.upd (o:=.lst (b' l++[.int 0])) F);have O:L2.upd U j (.lst (b' l++[.int 0])) j<*.lst (b' (l++[0])):=by rw[j',b',b',map_append];rfl
   generalize L2.upd U j (.lst (b' l++[.int 0]))=H3 at M O;refine(j,l++[0],rfl,lb.of O,λx v=>?_,λt H4 k y=>(b,λst a=>q st _ (M.trans (k.trans (a'.upd a))) (t,1,_,rfl,le_refl _,j',p_ y a)));rcases mem_append.mp v with z|z
   .exact T x z
   .rw [uN z];decide
  |false=>
   rw[if_neg (by rw[N];exact Bool.false_ne_true)]at q;refine ae (_,rfl,p,l,rfl,lb.of (i _ _ hp),T,λt H4 k y=>(b,λst a=>q st _ (i.trans (k.trans (a'.upd a))) (t,0,_,rfl,zero_le _,j',p_ y a)))
theorem sJ(ho:base.get? f<*fnMade Z7 q_ag (nt aW) (ln aW) (h7 aW) clos doc pm c ctv)(ag:base.CodeRec (.ref c) q_ag)(C:vb base clos (h7 aW) ["entered","piece"] [.ref g,.ref m])(y:g_ L W B)(h8:W.length≤8)(yh:Df P w K mg base "lots_after" 1 [Q0,Q5] sp_lotsafter)(hg:base.get? g<*(oc,od,.func fd,sl))(ap:vw K fd [Q5] [])(R:aa P w K mg base nq 2 g fd [Q5] (pT B W.length λH=>ol H m L W B)):aa P w K mg base nq 3 f (PySem.W.fnX Z7 q_ag (nt aW) (ln aW) (h7 aW) clos .none .none doc pm none (.ref c) ctv) ["state"] (AY .q L (BE W B) (zF W.length) λH=>ol H m L W B):=by
 refine zV (fvs:=[.ref g,.ref m]) ho rfl ag ss C (λvs H Q E h=>?_) (λA X s H vs Q E hr h=>?_)
 .obtain ⟨k,v,rfl,_⟩:=h;rfl
 .obtain ⟨k,v,rfl,Y,hU,hM,q⟩:=h;have Z:=hr.mono (j:=1) (!0);refine(_,(kd (n6 (b8 ["state","entered","piece"] rfl (!0) (xg (ri yh Z (pu (pv 2) (p' 0)))) (λcl C fp s' H'=>(vY,B3 (i:=2) R hr hg ap (pv 2) (m_ (pv 0))))))),?_);obtain⟨b0,S,rfl,az,hS,I⟩:=lP hU;unfold uE at Y;rw[if_neg (!0)]at Y;obtain⟨b,rfl,c0,x,ks,e0,as,hb,an⟩:=Y;cases e0;have ar:=y.lt.hi;dsimp only[eX];refine(_,rfl,o_ hb ax (m,c0,_,L,W,B,S,rfl,hM,y,.inr rfl,an,le_trans I (!0),hS,λl ls H1 U hl r ab=>?_));refine(l,_,_,rfl,.inl rfl,hl,λJ ov=>DE ov hl (λD j ys H'=>∃ts:List Addr,ys=ts.map V.ref/\ts.length=j/\∀(i:Nat)(a:Addr),ts[i]?<*a->aX .q H' (BE W B (b0::S) i) a) (by rw[j_,r];exact o9 (le_trans ar (!0))) (λD O=>([],rfl,rfl,λi a e=>by simp at e)) ?_ ?_)
  .intro D j x ys H' R1 R2 O G n F hp k1 k2;obtain⟨ts,rfl,d,p⟩:=hp;rw[n']at G;obtain⟨a,N,rfl⟩:=v8 G;have hj:j<L.length:=by rw[<-r];exact(l' N).1
   refine i_ (rfl,_,rfl,a,gA W S j,rfl,n _ _ (ab j a N),cF y hS hj,by rw[gA,j_];exact le_trans I (!0),(hM.same U).same n,λt H4 T ht=>?_);have M:=T _ _ F;have up:∀{o:HO}b xs,H4 b<*.tup xs->L2.upd H4 D o b<*.tup xs:=λb xs e=>n7 e M (!5);refine k1 (.ref t) _ M (a'.set (n.trans T) O) (ts++[t],by rw[map_append];rfl,by rw[uA,d];rfl,λi u e=>?_);rcases Am e with z|⟨rfl,rfl⟩
   .exact ((p i u z).same λb xs e=>T _ _ e).same up
   .rw [d];exact ht.same up
  .intro D ys H' O n F hp;obtain⟨ts,rfl,d,p⟩:=hp;rw[j_,r]at d;refine q D (ts.map V.ref) H' (U.trans n) (.inr (Ae U O,F)) (by rw[j_,d]) λj x G=>?_;rw[n']at G;obtain⟨a,N,rfl⟩:=v8 G;unfold uE;rw[if_neg (!0)];exact(a,rfl,p j a N)
theorem sI(n:base.get? f<*kla_obj "<lambda>" q_al e_W e_V l_scope clos pm c ctv)(i:base.CodeRec (.ref c) q_al)(C:vb base clos l_scope [] [])(a:Hp->Prop)(U:LL):aa P w K mg base nq 1 f (kla_fn "<lambda>" q_al e_W e_V l_scope clos pm (.ref c) ctv) ["state"] (AZ .q qO U a):=by
 refine BA (fvs:=[]) n rfl i sr C (λj H Q E h=>?_) (λA d s H j Q E r h=>?_)
 .obtain ⟨k,v,rfl,_⟩:=h;rfl
 .obtain ⟨k,v,rfl,e,t,u,q⟩:=h;refine(_,p' 0,?_);unfold uE at e;rw[if_neg (!0)]at e;obtain⟨b,rfl,y,x,ks,rfl,l,p,o⟩:=e;exact(o_ p aw (q H (a'.refl H)))
end
end A
end K25
namespace K25
open PySem L2 RA
namespace H
noncomputable def sp_lot(K:Frag):Sp:=λvs H Q _=>∃(p:Addr)(ns:LN),vs=[.ref p]/\lb K H p (b' ns)/\(∀x∈ns,x<8)/\∀t H',a' H H'->H' t<*.tup (b' (bF ns))->Q (.ref t) H'
noncomputable def sp_hasm:Sp:=λvs H Q _=>∃(m v:Addr)(o:HO)(L:LN)(W:LL)(B:List Bool)(k:LN),vs=[.ref m,.ref v]/\ol H m L W B/\g_ L W B/\(o=.lst (b' k)\/o=.tup (b' k))/\H v=some o/\k.length≤60/\(∀x∈k,x<W.length)/\∀H',a' H H'->Q (.bl (k.any λr=>B.getD r false)) H'
noncomputable def ib(B1:List Bool)(n1 n2:Nat)(Rest:Hp->Prop):Sp:=λvs H Q _=>∃(r:Nat)(p:Addr)(l:LN),vs=[.int (r:Int),.ref p]/\H p=some (.lst (b' l))/\r<n1/\(∀x∈l,x<n2)/\l.length≤50/\Rest H/\∀t H',a' H H'->aX .p H' (bO B1 r l) t->Q (.ref t) H'
abbrev r_:Stmt:=uI 37
abbrev aJ:Stmt:=(ln r_).getD 3 (.Pass (0,0,0,0))
abbrev aq:Stmt:=(ln r_).getD 4 (.Pass (0,0,0,0))
abbrev q_te:Str:="then.<locals>.entered"
abbrev q_tg:Str:="then.<locals>.goals_of"
abbrev q_tl:Str:="then.<locals>.<lambda>"
abbrev dY:Expr:=match (ln r_).getD 5 (.Pass (0,0,0,0))with
 |.Return (some (.Call _ [.Call _ [_,_,_,l] _ _] _ _)) _=>l
 |_=>.Name "" (0,0,0,0)
abbrev e_W:Arguments:=match dY with|.Lambda a _ _ _=>a|_=>([],[],none,[],[],none,[])
abbrev e_V:Expr:=match dY with|.Lambda _ b _ _=>b|_=>.Name "" (0,0,0,0)
abbrev l_scope:Scope:=match dY with|.Lambda _ _ s _=>s|_=>h7 aq
abbrev fJ:Pos:=match dY with|.Lambda _ _ _ p=>p|_=>(0,0,0,0)
noncomputable def sitesH:List (Pos×Str):=[(f_d aJ,q_te,),(f_d aq,q_tg,),(fJ,q_tl,)]
theorem sh:wW [Z8,Q5,"ahead"] [Z8,Q5] ["ahead"] (h7 aJ):=(rfl,rfl,rfl,!3,rfl,rfl,!0,!3,!3)
theorem jk:wW ["state","goals","ahead","behind","entered"] ["state"] ["ahead","behind","entered"] (h7 aq):=(rfl,rfl,rfl,!3,rfl,rfl,!0,!3,!3)
theorem mi:wW ["state","behind"] ["state"] ["behind"] l_scope:=(rfl,rfl,rfl,!3,rfl,rfl,!0,!3,!3)
noncomputable def Two(H:Hp)(m m2:Addr)(L:LN)(W1 W2:LL)(B1 B2:List Bool):Prop:=ol H m L W1 B1/\ol H m2 L W2 B2
section
variable{P:Program}{w:World}{K:Frag}{mg:Str->Option Value}{base:Heap}{f c m m2 g:Addr}{clos:List (Str×Addr)}{doc pm ctv:Value}{L:LN}{W1 W2:LL}{B1 B2:List Bool}
theorem pX(Y:base.get? f<*fnMade "entered" q_te (nt aJ) (ln aJ) (h7 aJ) clos doc pm c ctv)(B:base.CodeRec (.ref c) q_te)(C:vb base clos (h7 aJ) ["ahead"] [.ref m])(F:g_ L W1 B1)(D:g_ L W2 B2)(h8:W2.length≤8)(S:Df P w K mg base "lot_of" 1 [Q5] (sp_lot K)):aa P w K mg base nq 2 f (PySem.W.fnX "entered" q_te (nt aJ) (ln aJ) (h7 aJ) clos .none .none doc pm none (.ref c) ctv) [Z8,Q5] (ib B1 W1.length W2.length λH=>Two H m m2 L W1 W2 B1 B2):=by
 refine zV (fvs:=[.ref m]) Y rfl B sh C (λT H Q E h=>?_) (λA n s H T Q E X h=>?_)
 .obtain ⟨r,p,l,rfl,_⟩:=h;rfl
 .obtain ⟨r,p,l,rfl,hp,y,hlW,hl50,Z,q⟩:=h;refine(_,(kd (n6 (yC (pu (pv 0) (ri S X (m_ (mD (uV (wK (p' 2) (pv 0))) (uQ mK (pv 1) (wc (m_ c_))) (pv 1)))))))),?_);obtain⟨wy,mk,I,h1,h2,h3,h4,h5⟩:=id Z.1;have e:∀x∈inT B1 r l,x<8:=λx U=>lt_of_lt_of_le (bG hlW D.n1 x U) h8;have b:2≤sizeLine:=o9 (!0);unfold bO at q;refine(_,rfl,o_ h1 ay (_,rfl,v6 h3 (x9 (bL F.bl y)) (_,rfl,?_)));unfold inT at q e;cases J:B1.getD r false with
  |true=>
   rw[if_pos J]at q e;refine ai ?_;refine(_,rfl,o9 (by show 1≤16777216;decide),λi d=>?_);have s2:=a'.upd (o:=.lst [.int 0]) d;have O:=p_ (u:=.lst [.int 0]) hp d;have N:L2.upd H i (.lst [.int 0]) i<*.lst [.int 0]:=j';generalize L2.upd H i (.lst [.int 0])=R at s2 O N;refine(p,i,_,_,rfl,rfl,O,N,o9 (by rw[e_];show l.length+1≤16777216;lia),λj z=>?_);have G:=s2.trans (a'.upd (o:=.lst (b' l++[.int 0])) z);have M:L2.upd R j (.lst (b' l++[.int 0])) j<*.lst (b' (l++[0])):=by rw[j',b',b',map_append];rfl
   generalize L2.upd R j (.lst (b' l++[.int 0]))=H3 at G M;exact(j,l++[0],rfl,lb.of M,e,λt H4 k v=>(b,λst a=>q st _ (G.trans (k.trans (a'.upd a))) (t,r,_,rfl,j',p_ v a)))
  |false=>
   rw[if_neg (by rw[J];exact Bool.false_ne_true)]at q e;exact ae (_,rfl,p,l,rfl,lb.of hp,e,λt H4 k v=>(b,λst a=>q st _ (k.trans (a'.upd a)) (t,r,_,rfl,j',p_ v a)))
theorem mO(ho:base.get? f<*fnMade Z7 q_tg (nt aq) (ln aq) (h7 aq) clos doc pm c ctv)(aC:base.CodeRec (.ref c) q_tg)(C:vb base clos (h7 aq) ["ahead","behind","entered"] [.ref m,.ref m2,.ref g])(J:g_ L W1 B1)(ar:g_ L W2 B2)(N:mg "zip"=none)(yh:Df P w K mg base "lots_after" 1 [Q0,Q5] sp_lotsafter)(hg:base.get? g<*(oc,od,.func fd,sl))(aM:vw K fd [Z8,Q5] [])(R:aa P w K mg base nq 2 g fd [Z8,Q5] (ib B1 W1.length W2.length λH=>Two H m m2 L W1 W2 B1 B2)):aa P w K mg base nq 3 f (PySem.W.fnX Z7 q_tg (nt aq) (ln aq) (h7 aq) clos .none .none doc pm none (.ref c) ctv) ["state"] (AY .p L (BG W1 B1 W2) (y1 W1.length W2.length) λH=>Two H m m2 L W1 W2 B1 B2):=by
 refine zV (fvs:=[.ref m,.ref m2,.ref g]) ho rfl aC jk C (λvs H Q E h=>?_) (λA as s H vs Q E hr h=>?_)
 .obtain ⟨k,v,rfl,_⟩:=h;rfl
 .obtain ⟨k,v,rfl,hv,hU,hM,q⟩:=h;have az:=hr.mono (j:=1) (!0);refine(_,(j3 ((oI 1 jk.nd ((ri yh az (pu (pv 3) (p' 0)))))) (kd (n6 (CZ ["state","goals","ahead","behind","entered"] rfl (!0) (my rfl N (pu (wK (p' 2) (p' 0)) (pv 1))) (λcl C fp s' H'=>(vY,B3 (i:=6) R hr hg aM (pv 6) (pu (pv 0) (pv 1)))))))),?_);obtain⟨U,S,rfl,Y,hS,ab⟩:=gZ hU;unfold uE at hv;rw[if_neg (!0)]at hv;obtain⟨b,rfl,c0,x,ks,e0,hb,aH⟩:=hv;cases e0;have aN:=J.lt.hi;obtain⟨an,ag⟩:=hM;refine(_,rfl,o_ hb ax (m2,c0,_,L,W2,B2,S,rfl,ag,ar,.inr rfl,aH,le_trans ab (!0),hS,λl ls H1 T hl aB aA=>?_));obtain⟨wy,mk,F,h1,h2,h3,h4,h5⟩:=id (an.same T);obtain⟨rr,X⟩:∃rr,F[U]?<*rr:=(F[U]'(by rw[h4];exact Y),j1 _);obtain⟨ws,e5,e6⟩:=h5 _ _ X;have B:=J.row ws (uM e5);have ew:W1.getD U []=ws:=by rw[m8,e5];rfl
  dsimp only[eX];refine wB (c:=rr) (d:=l) (λR h=>(o_ h1 ax (o_ (T _ _ hb) aw (v6 h2 (vZ V.ref X) (_,rfl,h))))) e6 hl (by rw[e_,j_,aB];exact B.1)
   (λD j ys H'=>∃ts:List Addr,ys=ts.map V.ref/\ts.length=j/\∀(i:Nat)(a:Addr),ts[i]?<*a->aX .p H' (BG W1 B1 W2 (U::S) i) a) (by rw[e_,B.1];exact o9 (le_trans aN (!0))) (λD hD=>([],rfl,rfl,λi a e=>by simp at e)) ?_ ?_
  .intro D j x z ys H' H3 R1 hD M hz y I hp n k1;obtain⟨ts,rfl,r,G⟩:=hp;have hj:j<ws.length:=by have:=(l' M).1;rwa [e_]at this
   have Z:j<L.length:=by rw[<-B.1];exact hj
   rw[wU hj]at M;cases M;rw[n']at hz;obtain⟨a,ha,rfl⟩:=v8 hz;have O:=T.trans (y.trans n);have eg:ws.getD j 0=goal W1 U j:=by unfold goal;rw[ew]
   refine(rfl,_,rfl,_,rfl,ws.getD j 0,a,gA W2 S j,rfl,(y.trans n) _ _ (aA j a ha),by rw[eg];exact wu J Y Z,cF ar hS Z,by rw[gA,j_];exact le_trans ab (!0),(an.same O,ag.same O),λt H4 s4 ht=>?_);rw[eg]at ht;have ap:=s4 _ _ (n _ _ I);have up:∀{o:HO}b xs,H4 b<*.tup xs->L2.upd H4 D o b<*.tup xs:=λb xs e=>n7 e ap (!5);refine k1 (.ref t) _ ap (a'.set (y.trans (n.trans s4)) hD) (ts++[t],by rw[map_append];rfl,by rw[uA,r];rfl,λi u e=>?_);rcases Am e with z|⟨rfl,rfl⟩
   .exact ((G i u z).same λb xs e=>s4 _ _ (n _ _ e)).same up
   .rw [r];exact ht.same up
  .intro D ys H' hD y I hp;obtain⟨ts,rfl,r,G⟩:=hp;rw[e_,B.1]at r;refine q D (ts.map V.ref) H' (T.trans y) (.inr (Ae T hD,I)) (by rw[j_,r]) λj x M=>?_;rw[n']at M;obtain⟨a,ha,rfl⟩:=v8 M;unfold uE;rw[if_neg (!0)];exact(a,rfl,G j a ha)
theorem mM(u:base.get? f<*kla_obj "<lambda>" q_tl e_W e_V l_scope clos pm c ctv)(e:base.CodeRec (.ref c) q_tl)(C:vb base clos l_scope ["behind"] [.ref m2])(l:g_ L W2 B2)(n:Df P w K mg base "has_marked" 1 [Q0,Q5] sp_hasm):aa P w K mg base nq 2 f (kla_fn "<lambda>" q_tl e_W e_V l_scope clos pm (.ref c) ctv) ["state"] (AZ .p (qN B2) (y1 W1.length W2.length) λH=>Two H m m2 L W1 W2 B1 B2):=by
 refine BA (fvs:=[.ref m2]) u rfl e mi C (λo H Q E h=>?_) (λA a s H o Q E t h=>?_)
 .obtain ⟨k,v,rfl,_⟩:=h;rfl
 .obtain ⟨k,v,rfl,d,z,D,q⟩:=h;refine(_,(ri n t (pu (pv 1) (p' 0))),?_);obtain⟨I,S,rfl,r,B,j⟩:=gZ z;unfold uE at d;rw[if_neg (!0)]at d;obtain⟨b,rfl,G,x,ks,F,y,i⟩:=d;cases F;exact(_,rfl,o_ y ax (m2,G,_,L,W2,B2,S,rfl,D.2,l,.inr rfl,i,le_trans j (!0),B,q))
end
end H
end K25
namespace K25
open PySem L2 RA
abbrev xl:Stmt:=uI 40
abbrev ba:Stmt:=(ln xl).getD 1 (.Pass (0,0,0,0))
abbrev aZ:Stmt:=(ln xl).getD 2 (.Pass (0,0,0,0))
abbrev q_pg:Str:="paired.<locals>.goals_of"
abbrev q_pm:Str:="paired.<locals>.is_marked"
noncomputable def bt:List (Pos×Str):=[(f_d ba,q_pg,),(f_d aZ,q_pm,)]
theorem sj:wW ["pair",Q0,Q3] ["pair"] [Q0,Q3] (h7 ba):=(rfl,rfl,rfl,!3,rfl,rfl,!0,!3,!3)
theorem si:wW ["pair","is_wanted",Q0,Q3] ["pair"] ["is_wanted",Q0,Q3] (h7 aZ):=(rfl,rfl,rfl,!3,rfl,rfl,!0,!3,!3)
noncomputable def Two(H:Hp)(m m2:Addr)(L:LN)(W1 W2:LL)(B1 B2:List Bool):Prop:=ol H m L W1 B1/\ol H m2 L W2 B2
section
variable{P:Program}{w:World}{K:Frag}{mg:Str->Option Value}{base:Heap}{f c m m2 g cg:Addr}{clos:List (Str×Addr)}{doc pm ctv:Value}{L:LN}{W1 W2:LL}{B1 B2:List Bool}{rule:Bool->Bool->Bool}
theorem sH(ho:base.get? f<*fnMade Z7 q_pg (nt ba) (ln ba) (h7 ba) clos doc pm c ctv)(S:base.CodeRec (.ref c) q_pg)(C:vb base clos (h7 ba) [Q0,Q3] [.ref m,.ref m2])(I:g_ L W1 B1)(X:g_ L W2 B2)(u:mg "list"=none)(z:mg "zip"=none):aa P w K mg base nq 1 f (PySem.W.fnX Z7 q_pg (nt ba) (ln ba) (h7 ba) clos .none .none doc pm none (.ref c) ctv) ["pair"] (AY .t L (gP W1 W2) (uP W1.length W2.length) λH=>Two H m m2 L W1 W2 B1 B2):=by
 refine zV (fvs:=[.ref m,.ref m2]) ho rfl S sj C (λvs H Q E h=>?_) (λA M s H vs Q E hr h=>?_)
 .obtain ⟨k,v,rfl,_⟩:=h;rfl
 .obtain ⟨k,v,rfl,N,hU,hM,q⟩:=h;refine(_,(kd (n6 (fu rfl rfl u rfl z (pu (wK (p' 1) (p' 0)) (wK (p' 2) (p' 0)))))),?_);obtain⟨a,b,rfl,ha,hb⟩:=g6 hU;unfold uE at N;rw[if_neg (!0)]at N;obtain⟨pp,rfl,O⟩:=N;obtain⟨U,T⟩:=hM;obtain⟨wy,mk,n,h1,h2,h3,h4,h5⟩:=U;obtain⟨ab,ag,d,g1,g2,g3,g4,g5⟩:=T;obtain⟨D,G⟩:∃D,n[a]?<*D:=(n[a]'(by rw[h4];exact ha),j1 _);obtain⟨J,p⟩:∃D,d[b]?<*D:=(d[b]'(by rw[g4];exact hb),j1 _);obtain⟨ws,e5,e6⟩:=h5 _ _ G;obtain⟨y,f5,f6⟩:=g5 _ _ p;have i:=I.row ws (uM e5);have o:=X.row y (uM f5);have an:=I.lt.hi;have r:H pp<*.tup [.int (a:Int),.int (b:Int)]:=O;refine(o_ h1 ax (o_ r aw (v6 h2 (vZ V.ref G) ?_)));refine(o_ g1 ax (o_ r ax (v6 g2 (vZ V.ref p) ?_)));refine(D,J,_,_,rfl,e6,f6,by rw[e_,e_,i.1,o.1],by rw[e_,i.1];exact le_trans an (!0),λl ts H2 B nd R sm hl ht=>?_);refine q l (ts.map V.ref) H2 sm (.inr (R,hl)) (by rw[j_,B,e_];exact i.1) λj x Z=>?_;rw[n']at Z;obtain⟨t,F,rfl⟩:=v8 Z;have hj:j<L.length:=by have:=(l' F).1;rw[B,e_,i.1]at this;exact this
  unfold uE;rw[if_neg (!0)];have ew:W1.getD a []=ws:=by rw[m8,e5];rfl
  have Y:W2.getD b []=y:=by rw[m8,f5];rfl
  refine(t,rfl,?_);have e:=ht j t _ _ F (wU (by rw[i.1];exact hj)) (wU (by rw[o.1];exact hj));show _<*HO.tup (b' [goal W1 a j,goal W2 b j]);rw[e];unfold goal;rw[ew,Y];rfl
theorem sG(M:base.get? f<*fnMade Q9 q_pm (nt aZ) (ln aZ) (h7 aZ) clos doc pm c ctv)(o:base.CodeRec (.ref c) q_pm)(C:vb base clos (h7 aZ) ["is_wanted",Q0,Q3] [.ref g,.ref m,.ref m2])(y:g_ L W1 B1)(x:g_ L W2 B2)(N:base.get? g<*(oc,od,.func B,sl))(p:vw K B [Y2,Y3] [])(R:aa P w K mg base nq 1 g B [Y2,Y3] (br rule)):aa P w K mg base nq 2 f (PySem.W.fnX Q9 q_pm (nt aZ) (ln aZ) (h7 aZ) clos .none .none doc pm none (.ref c) ctv) ["pair"] (AZ .t (E9 rule B1 B2) (uP W1.length W2.length) λH=>Two H m m2 L W1 W2 B1 B2):=by
 refine zV (fvs:=[.ref g,.ref m,.ref m2]) M rfl o si C (λF H Q E h=>?_) (λA j s H F Q E J h=>?_)
 .obtain ⟨k,v,rfl,_⟩:=h;rfl
 .obtain ⟨k,v,rfl,l,T,U,q⟩:=h;refine(_,(kd (n6 (B3 (i:=1) R J N p (pv 1) (pu (wK (p' 2) (p' 0)) (wK (p' 3) (p' 0)))))),?_);obtain⟨a,b,rfl,S,O⟩:=g6 T;unfold uE at l;rw[if_neg (!0)]at l;obtain⟨G,rfl,n⟩:=l;obtain⟨u,r⟩:=U;obtain⟨wy,mk,z,h1,h2,X,h4,h5⟩:=u;obtain⟨D,I,e,Z,g2,Y,g4,g5⟩:=r;have d:H G<*.tup [.int (a:Int),.int (b:Int)]:=n;exact(rfl,o_ h1 ay (o_ d aw (v6 X (x9 (bL y.bl S)) (o_ Z ay (o_ d ax (v6 Y (x9 (bL x.bl O)) (_,_,rfl,q H (a'.refl _))))))))
end
abbrev y_:Stmt:=uI 33
abbrev Cg:Str:="either.<locals>.<lambda>"
abbrev Da:Expr:=match (ln y_).getD 0 (.Pass (0,0,0,0))with
 |.Return (some (.Call _ [_,_,l] _ _)) _=>l
 |_=>.Name "" (0,0,0,0)
abbrev gM:Arguments:=match Da with|.Lambda a _ _ _=>a|_=>([],[],none,[],[],none,[])
abbrev gL:Expr:=match Da with|.Lambda _ b _ _=>b|_=>.Name "" (0,0,0,0)
abbrev x_either:Scope:=match Da with|.Lambda _ _ s _=>s|_=>h7 xl
abbrev mG:Pos:=match Da with|.Lambda _ _ _ p=>p|_=>(0,0,0,0)
noncomputable def Db:List (Pos×Str):=[(mG,Cg,)]
theorem j7:wW [Y2,Y3] [Y2,Y3] [] x_either:=(rfl,rfl,rfl,!3,rfl,rfl,!0,!3,!3)
theorem kg:s_ [Q0,Q3] [Q0,Q3] (h7 y_):=uH
theorem kx(k:base.get? f<*kla_obj "<lambda>" Cg gM gL x_either d pm c i)(g:base.CodeRec (.ref c) Cg)(C:vb base d x_either [] []):aa P w K mg base nq 1 f (kla_fn "<lambda>" Cg gM gL x_either d pm (.ref c) i) [Y2,Y3] (br (λa b=>a||b)):=by
 refine BA (fvs:=[]) k rfl g j7 C (λj H Q E h=>?_) (λA e s H j Q E l h=>?_)
 .obtain ⟨a,b,rfl,_⟩:=h;rfl
 .obtain ⟨a,b,rfl,q⟩:=h;refine(_,(jo (pv 0) (w_ (pv 1))),?_);cases a with
  |true=>exact(_,rfl,_,rfl,ai q)
  |false=>exact(_,rfl,_,rfl,ae (_,rfl,q))
abbrev za:Stmt:=uI 34
abbrev bw:Str:="both.<locals>.<lambda>"
abbrev d7:Expr:=match (ln za).getD 0 (.Pass (0,0,0,0))with
 |.Return (some (.Call _ [_,_,l] _ _)) _=>l
 |_=>.Name "" (0,0,0,0)
abbrev oq:Arguments:=match d7 with|.Lambda a _ _ _=>a|_=>([],[],none,[],[],none,[])
abbrev oa:Expr:=match d7 with|.Lambda _ b _ _=>b|_=>.Name "" (0,0,0,0)
abbrev x_both:Scope:=match d7 with|.Lambda _ _ s _=>s|_=>h7 xl
abbrev qD:Pos:=match d7 with|.Lambda _ _ _ p=>p|_=>(0,0,0,0)
noncomputable def Dc:List (Pos×Str):=[(qD,bw,)]
theorem oJ:wW [Y2,Y3] [Y2,Y3] [] x_both:=(rfl,rfl,rfl,!3,rfl,rfl,!0,!3,!3)
theorem oO:s_ [Q0,Q3] [Q0,Q3] (h7 za):=uH
theorem o6(k:base.get? f<*kla_obj "<lambda>" bw oq oa x_both d pm c i)(g:base.CodeRec (.ref c) bw)(C:vb base d x_both [] []):aa P w K mg base nq 1 f (kla_fn "<lambda>" bw oq oa x_both d pm (.ref c) i) [Y2,Y3] (br (λa b=>a&&b)):=by
 refine BA (fvs:=[]) k rfl g oJ C (λj H Q E h=>?_) (λA e s H j Q E l h=>?_)
 .obtain ⟨a,b,rfl,_⟩:=h;rfl
 .obtain ⟨a,b,rfl,q⟩:=h;refine(_,(xF (pv 0) (w_ (pv 1))),?_);cases a with
  |true=>exact(_,rfl,_,rfl,ai (_,rfl,q))
  |false=>exact(_,rfl,_,rfl,ae q)
abbrev zc:Stmt:=uI 35
abbrev bv:Str:="less.<locals>.<lambda>"
abbrev dZ:Expr:=match (ln zc).getD 0 (.Pass (0,0,0,0))with
 |.Return (some (.Call _ [_,_,l] _ _)) _=>l
 |_=>.Name "" (0,0,0,0)
abbrev oo:Arguments:=match dZ with|.Lambda a _ _ _=>a|_=>([],[],none,[],[],none,[])
abbrev n9:Expr:=match dZ with|.Lambda _ b _ _=>b|_=>.Name "" (0,0,0,0)
abbrev x_less:Scope:=match dZ with|.Lambda _ _ s _=>s|_=>h7 xl
abbrev qC:Pos:=match dZ with|.Lambda _ _ _ p=>p|_=>(0,0,0,0)
noncomputable def Dd:List (Pos×Str):=[(qC,bv,)]
theorem oH:wW [Y2,Y3] [Y2,Y3] [] x_less:=(rfl,rfl,rfl,!3,rfl,rfl,!0,!3,!3)
theorem oN:s_ [Q0,Q3] [Q0,Q3] (h7 zc):=uH
theorem o0(k:base.get? f<*kla_obj "<lambda>" bv oo n9 x_less d pm c i)(g:base.CodeRec (.ref c) bv)(C:vb base d x_less [] []):aa P w K mg base nq 1 f (kla_fn "<lambda>" bv oo n9 x_less d pm (.ref c) i) [Y2,Y3] (br (λa b=>a&&!b)):=by
 refine BA (fvs:=[]) k rfl g oH C (λj H Q E h=>?_) (λA e s H j Q E l h=>?_)
 .obtain ⟨a,b,rfl,_⟩:=h;rfl
 .obtain ⟨a,b,rfl,q⟩:=h;refine(_,(xF (pv 0) (w_ (bB (pv 1)))),?_);cases a with
  |true=>exact(_,rfl,_,rfl,ai (_,rfl,_,rfl,q))
  |false=>exact(_,rfl,_,rfl,ae q)
namespace Lm
abbrev s_g:Stmt:=(ln v7).getD 0 (.Pass (0,0,0,0))
abbrev s_m:Stmt:=(ln v7).getD 1 (.Pass (0,0,0,0))
abbrev q_g:Str:="walked_machine.<locals>.goals_of"
abbrev q_m:Str:="walked_machine.<locals>.is_marked"
noncomputable def f_d(s:Stmt):Pos:=match s with
 |.FunctionDef _ _ _ _ _ _ _ _ _ p=>p
 |_=>(0,0,0,0)
noncomputable def sites:List (Pos×Str):=[(f_d s_g,q_g,),(f_d s_m,q_m,)]
section
variable{P:Program}{w:World}{K:Frag}{mg:Str->Option Value}{base:Heap}{f c m:Addr}{clos:List (Str×Addr)}{doc pm ctv:Value}{L:LN}{W:LL}{B:List Bool}
theorem qL(F:base.get? f<*fnMade Z7 q_g (nt s_g) (ln s_g) (h7 s_g) clos doc pm c ctv)(t:base.CodeRec (.ref c) q_g)(C:vb base clos (h7 s_g) [Q0] [.ref m])(u:g_ L W B):aa P w K mg base nq 1 f (PySem.W.fnX Z7 q_g (nt s_g) (ln s_g) (h7 s_g) clos .none .none doc pm none (.ref c) ctv) [Z8] (AY .i L (gW W) (uW W) λH=>xN H m L W B):=by
 refine zV (fvs:=[.ref m]) F rfl t sq C (λD H Q E h=>?_) (λA l s H D Q E U h=>?_)
 .obtain ⟨k,v,rfl,_⟩:=h;rfl
 .obtain ⟨k,v,rfl,p,I,J,q⟩:=h;refine(_,(kd (n6 (wK (p' 1) (pv 0)))),?_);obtain⟨n,rfl,G⟩:=bp I;unfold uE at p;rw[if_pos rfl]at p;obtain⟨T,e,rfl⟩:=p;injection e with e;subst e;obtain⟨S,mk,a,h1,h2,X,N,M⟩:=J;obtain⟨g,d⟩:∃g,a[n]?<*g:=(a[n]'(by rw[N];exact G),j1 _);obtain⟨ws,y,R⟩:=M _ _ d;have o:=u.row ws (uM y);refine(o_ h1 ax (_,rfl,v6 h2 (vZ V.ref d) ?_));refine q g (b' ws) H (a'.refl H) (.inl R) (by rw[e_];exact o.1) λj x b=>?_;unfold uE;rw[if_pos rfl];rw[b',n']at b;cases r:ws[j]? with
  |none=>rw[r]at b;cases b
  |some z=>
   rw[r]at b;cases b;refine(z,?_,rfl);show[(W.getD n []).getD j 0]=[z];have O:W.getD n []=ws:=by
    rw[m8,y];rfl
   rw[O,m8,r];rfl
theorem qK(o:base.get? f<*fnMade Q9 q_m (nt s_m) (ln s_m) (h7 s_m) clos doc pm c ctv)(d:base.CodeRec (.ref c) q_m)(C:vb base clos (h7 s_m) [Q0] [.ref m])(g:g_ L W B):aa P w K mg base nq 1 f (PySem.W.fnX Q9 q_m (nt s_m) (ln s_m) (h7 s_m) clos .none .none doc pm none (.ref c) ctv) [Z8] (AZ .i (mkW B) (uW W) λH=>xN H m L W B):=by
 refine zV (fvs:=[.ref m]) o rfl d sk C (λl H Q E h=>?_) (λA a s H l Q E D h=>?_)
 .obtain ⟨k,v,rfl,_⟩:=h;rfl
 .obtain ⟨k,v,rfl,b,r,t,q⟩:=h;refine(_,(kd (n6 (u6 (p' 1) (pv 0)))),?_);obtain⟨n,rfl,p⟩:=bp r;unfold uE at b;rw[if_pos rfl]at b;obtain⟨z,e,rfl⟩:=b;injection e with e;subst e;obtain⟨y,mk,j,h1,h2,x,G,F⟩:=t;have u:B[n]?<*B.getD n false:=by
   rw[m8,j1 (by rw[g.bl];exact p)];rfl
  exact(o_ h1 ay (_,rfl,u_ x (vZ V.bl u) (q H (a'.refl H))))
end
set_option maxHeartbeats 8000000 in
theorem ok_wmach{P:Program}{w:World}{oc kV doc pm ct aA S p O d X a7:Value}(lk:K.lookup f<*(oc,od,.func (fnOf "walked_machine" "walked_machine" (nt v7) (ln v7) (h7 v7) .none kV doc pm an (.ref c) ct),cn))(bm:codeIn K (.ref c) "walked_machine"=true)(lw:K.lookup fw<*(aA,a6,.func (fnOf "walked" "walked" (nt vm) (ln vm) (h7 vm) (.ref tD) S p O an2 d X),osl2))(cw:codeIn K d "walked"=true)(kw:keepIn K (.ref fw)=true)(mw:mg "walked"<*.ref fw)(lD:K.lookup tD<*(a7,co,.seq #[.none] nD,cf))(WT:Av K mg cW fI fdI)(ap:mg "len"=none)(ag:mg "zip"=none)(hC:CodeHd base c P0)(hB:xi base mg):aa P w K mg base nq 6 f (fnOf "walked_machine" "walked_machine" (nt v7) (ln v7) (h7 v7) .none kV doc pm an (.ref c) ct) [Q0] (DX cW P0 sites):=by
 refine dU lk bm a_F (λvs H Q E h=>?_) (λA a5 s H vs Q E hr h=>?_)
 .obtain ⟨m,L,W,B,rfl,_⟩:=h;rfl
 .obtain ⟨m,L,W,B,rfl,hM,g,hT,q⟩:=h;refine(_,(j3 ((zx (i:=1) (qual:=q_g) (c:=c) (P0:=P0) (sites:=sites) a_F.nd rfl (Or.inl rfl) rfl hC hB (!3) (!3))) (j3 ((zx (i:=2) (qual:=q_m) (c:=c) (P0:=P0) (sites:=sites) a_F.nd rfl (Or.inl rfl) rfl hC hB (!3) (!3))) (kd (n6 (Bw (dvs:=[.non]) rfl mw kw (BN (kV:=S) (doc:=p) (pm:=O) (an:=an2) (cdv:=d) (ct:=X) lD) (.cons rfl .nil) (v_ (p' 0) (vg c_ (pv 1) (pv 2))) (λ_=>rfl)))))),?_);refine(hT,λZ l j H1 as aS cA cs s1 aU aM aC=>(aU,λY C F D ar aN cx cp s2 bV aH bk=>?_));have az:wv P0 H D:=Bx s1 s2;have aV:xN D m L W B:=hM.ofT (wj.ofX az hT);obtain⟨cg,b1,_⟩:=id aU;obtain⟨a4,b0,bg,T⟩:=id bV;have nP:∀{b:Addr}{φ:Heap->Prop},H1 b<*.ext φ->b≠P0:=λ{b φ}e z=>by rw[z,b1]at e;cases e
  have I:D l<*tj l Z7 q_g (nt s_g) (ln s_g) (h7 s_g) Z j:=s2 l _ (nP aC) aC;have J:D j<*k_ j q_g:=s2 j _ (nP aM) aM;have G:D C<*tj C Q9 q_m (nt s_m) (ln s_m) (h7 s_m) Y F:=bk;have b2:=aV;obtain⟨wy,mk,b5,h1,h2,h3,h4,h5⟩:=aV;have aT:∀u∈[l,C,j,F],∃φ,D u<*.ext φ:=λu hu=>by
   simp only[mem_cons,not_mem_nil,or_false]at hu;rcases hu with rfl|rfl|rfl|rfl
   .exact (_,I)
   .exact (_,G)
   .exact (_,J)
   .exact (_,aH)
  refine(o_ h1 aw (_,rfl,_,rfl,[l,C,j,F],aT,λv Wd=>?_));obtain⟨ca,cl,ce,a1⟩:=Wd.ext l _ (!1) I;obtain⟨b6,ch,cd,a0⟩:=Wd.ext C _ (!1) G;have b4:v.CodeRec (.ref j) q_g:=Wd.ext j _ (!1) J;have b3:v.CodeRec (.ref F) q_m:=Wd.ext F _ (!1) aH;have C1:=Cd (sc:=h7 s_g) (m:=m) Wd as aS rfl rfl rfl rfl (!3);have C2:=Cd (sc:=h7 s_m) (m:=m) Wd ar aN rfl rfl rfl rfl (!3);have Fw:eI K "walked" "walked" vm fw _:=((aA,a6,.ref tD,S,p,O,an2,d,X,osl2,rfl,lw,cw),kw);refine(5,A0 cW .i L (gW W) (mkW B) (uW W) (λH=>xN H m L W B) l C,hr,BL Fw WT ap ag ((qL a1 b4 C1 g).mono (!0)) ((qK a0 b3 C2 g).mono (!0)) a1 (_,rfl) a0 (_,rfl) (.all λus hl=>by obtain⟨_,rfl⟩:=xB hl;rfl) (.all λus hl=>by obtain⟨_,rfl⟩:=xB hl;rfl) (λ_ _ s h=>h.same s),?_);have k:∀{b:Addr}{o:HO},D b<*o->(∀φ,o≠.ext φ)->b∉[l,C,j,F]:=λ{b o}e ho M=>by
   obtain⟨φ,e2⟩:=aT b M;rw[e]at e2;exact ho φ (Option.some.inj e2)
  have cv:=g.n60;refine([0],.int 0,none,rfl,g.lt,?_,gY.mpr g.n1,pQ g,by rw[dg];exact le_trans cv (!0),b2.keep (λb xs e=>by rw[vC (k e (λ_ z=>nomatch z))];exact e) (λb xs e=>by rw[vC (k e (λ_ z=>nomatch z))];exact e),λwk t wd y md ks a2 ws N R Bm H3 a3 hW ht bd a9 hy aB bi bf ab bl a8 sub le he bs=>?_)
  .unfold uE;rw[if_pos rfl];exact(0,rfl,rfl)
  have hR:R.length=ks.length:=by
   rcases he with z|⟨n,z,_⟩
   .exact z
   .cases z
  have out:∀{b:Addr}{o:HO},H3 b<*o->retr [l,C,j,F] D H3 b<*o:=λ{b o}e=>by
   rw[xM λM=>?_]
   .exact e
   .rw [bs b M]at e;cases e
  have U:∀{b:Addr}{o:HO},D b<*o->retr [l,C,j,F] D H3 b<*o:=λ{b o}e=>by
   by_cases M:b∈[l,C,j,F]
   .rw [AJ M];exact e
   .exact out (a3 b o (by rw[vC M];exact e))
  rw[hR]at bf;obtain⟨dx,ew⟩:=hW.ex;exact q wk t wd y md ks a2 ws N R Bm _ (λb o M e=>U (az b o M e)) (a4,U b0,bg,λx hx=>(T x hx).imp id λbo=>by obtain⟨c',e1,e2⟩:=bo;exact(c',e1,U e2)) (dx,out ew) (out ht) (bd.same λb xs e=>out e) (out a9) (out hy) (aB.1,λi a r e1 e2=>out (aB.2 i a r e1 e2)) (out bi) bf ab hR bl a8 sub (by rw[dg]at le;exact le)
end Lm
end K25
namespace K25
open PySem L2 RA
namespace H
theorem f_D:s_ [Q0,Q3,"ahead","behind","entered",Z7] [Q0,Q3] (h7 r_):=uH
set_option maxHeartbeats 8000000 in
theorem Ax{P:Program}{w:World}{K:Frag}(nd:(ts.map Prod.fst).Nodup)(i0:(P0,sites,)∈ts)(i1:(P1,sitesH,)∈ts){oc kV doc pm ct ce bm aM bi W b1 c5:Value}(lk:K.lookup f<*(oc,od,.func (fnOf "then" "then" (nt r_) (ln r_) (h7 r_) .none kV doc pm an (.ref c) ct),e5))(dt:codeIn K (.ref c) "then"=true)(lw:K.lookup fw<*(ce,c4,.func (fnOf "walked" "walked" (nt vm) (ln vm) (h7 vm) (.ref tD) bm aM bi an2 W b1),osl2))(cw:codeIn K W "walked"=true)(kw:keepIn K (.ref fw)=true)(mw:mg "walked"<*.ref fw)(lD:K.lookup tD<*(c5,e6,.seq #[.none] nD,ey))(WT:Av K mg cW fI fdI)(b5:mg "len"=none)(aV:mg "zip"=none)(hC:CodeHd base c P1)(hB:xi base mg)(DL:∀base:Heap,Df P w K mg base "lots_after" 1 [Q0,Q5] sp_lotsafter)(DH:∀base:Heap,Df P w K mg base "has_marked" 1 [Q0,Q5] sp_hasm)(DT:∀base:Heap,Df P w K mg base "lot_of" 1 [Q5] (sp_lot K))(y9:vk P w K mg base "need_same_letters" 1 [Q0,Q3] (C' cOL))(y3:Df P w K mg base "least" 7 [Q0] (Cf P0 sites))(y0:vk P w K mg base "told" 4 [Z0] (A9 cW cTM)):aa P w K mg base (ve P w) 8 f (fnOf "then" "then" (nt r_) (ln r_) (h7 r_) .none kV doc pm an (.ref c) ct) [Q0,Q3] (bj cTM ts A4):=by
 refine BC lk dt f_D (λvs H Q E h=>?_) (λA c0 s H vs Q E hr h=>?_)
 .obtain ⟨m,m2,L,W1,W2,B1,B2,rfl,_⟩:=h;rfl
 .obtain ⟨n1,n2,L,V1,V2,D1,D2,rfl,hN1,hNa1,cI,hNa2,ec,ea,hA,qE,q⟩:=h;have cH:=hA _ i0;have dm:=hr.mono (j:=1) (!0);have dk:=hr.mono (j:=2) (!0);have de:=hr.mono (j:=4) (!0);have dd:=hr.mono (j:=5) (!0);refine(_,(j3 (vI (wS y9 dm (wR λ_ _ _ z=>z) (pu (pv 0) (pv 1)))) (j3 ((oI 2 f_D.nd ((ri y3 hr (m_ (pv 0)))))) (j3 ((oI 3 f_D.nd ((ri y3 hr (m_ (pv 1)))))) (j3 ((zx (i:=4) (qual:=q_te) (c:=c) (P0:=P1) (sites:=sitesH) f_D.nd rfl (Or.inr rfl) rfl hC hB (!3) (!3))) (j3 ((zx (i:=5) (qual:=q_tg) (c:=c) (P0:=P1) (sites:=sitesH) f_D.nd rfl (Or.inl rfl) rfl hC hB (!3) (!3))) (kd (n6 (wS y0 de (wR λ_ _ _ z=>z) (m_ (Bw (dvs:=[.non]) rfl mw kw (BN (kV:=bm) (doc:=aM) (pm:=bi) (an:=an2) (cdv:=W) (ct:=b1) lD) (.cons rfl .nil) (v_ (p' 2) (vg (mB (i:=4) [Z8,Q5] (pv 4) (pu c_ (wc zN)) (λ_=>rfl)) (pv 5) (Bz (qual:=q_tl) (c:=c) (P0:=P1) (sites:=sitesH) rfl hC hB (!3) (!3)))) (λ_=>rfl))))))))))),?_);refine(_,rfl,_,rfl,n1,n2,L,L,V1,D1,V2,D2,rfl,hN1,hNa1,cI,hNa2,λz=>absurd rfl z,λ_=>?_);refine(_,rfl,n1,L,V1,D1,rfl,hN1,hNa1,cH,λm W1 B1 Ha sa bs d6 U=>?_);have kA:KT ts H Ha:=KT.ofX nd i0 sa cH bs;have cV:=kA.sm;refine(_,rfl,n2,L,V2,D2,rfl,cI.tups cV.tup,hNa2,bs,λm2 W2 B2 H0 sb d1 d5 T=>?_);have G:=U.mach;have J:=T.mach;have eb:W1.length≤8:=le_trans U.len ec;have aH:W2.length≤8:=le_trans T.len ea;have kB:KT ts Ha H0:=KT.ofX nd i0 sb bs d1;have hT:vL H0 P1 sitesH:=kB.tb (kA.tb hA) _ i1;have cU:=kB.sm;have aC:Two H0 m m2 L W1 W2 B1 B2:=(d6.tups cU.tup,d5);refine(hT,λI D C H1 a2 bd fk e9 s1 cC cp cn=>(cC,λaN Z X H2 ca cv fg e8 s2 b0 dv dr=>?_));have cd:wv P1 H0 H2:=Bx s1 s2;have a1:=zX cd hT;have F:Two H2 m m2 L W1 W2 B1 B2:=(aC.1.tups a1,aC.2.tups a1);obtain⟨wy,mk,en,h1,h2,h3,h4,h5⟩:=id F.1;obtain⟨eN,d3,_⟩:=id cC;obtain⟨eH,d2,_⟩:=id b0;have cf:∀{b:Addr}{φ:Heap->Prop},H1 b<*.ext φ->b≠P1:=λ{b φ}e z=>by rw[z,d3]at e;cases e
  have c7:∀{b:Addr}{φ:Heap->Prop},H2 b<*.ext φ->b≠P1:=λ{b φ}e z=>by rw[z,d2]at e;cases e
  have as:H2 D<*tj D "entered" q_te (nt aJ) (ln aJ) (h7 aJ) I C:=s2 _ _ (cf cn) cn;have a8:H2 C<*k_ C q_te:=s2 _ _ (cf cp) cp;refine(o_ h1 aw (D,rfl,(_,_,_,_,_,_,_,as),zero_le _,λel ds=>?_));have sE:a' H2 (L2.upd H2 el (.lst [])):=a'.upd ds;have az:L2.upd H2 el (.lst []) el<*.lst (b' []):=j';generalize L2.upd H2 el (.lst [])=H2' at sE az;have ar:=sE _ _ as;have a7:=sE _ _ a8;have aA:Two H2' m m2 L W1 W2 B1 B2:=(F.1.same sE,F.2.same sE);have cA:∀u∈[D,C],∃φ,H2' u<*.ext φ:=λu Y=>by
   simp only[mem_cons,not_mem_nil,or_false]at Y;rcases Y with rfl|rfl
   .exact (_,ar)
   .exact (_,a7)
  refine((_,_,_,_,_,_,_,ar),[D,C],cA,λM b3=>?_);obtain⟨eo,eO,er,ee⟩:=b3.ext D _ (!1) ar;have eg:M.CodeRec (.ref C) q_te:=b3.ext C _ (!1) a7;have C5:vb M I (h7 aJ) ["ahead"] [.ref m]:=AN b3 a2 bd rfl λi y v l B=>by
   match i,l,B with
   |0,l,B=>cases l;cases B;exact((2,rfl,rfl),rfl,rfl)
   |i+1,l,_=>simp at l
  have ap:∀{b:Addr}{o:HO},H2' b<*o->(∀φ,o≠.ext φ)->b∉[D,C]:=λ{b o}e ho S=>by
   obtain⟨φ,B⟩:=cA b S;rw[e]at B;exact ho φ (Option.some.inj B)
  have a0:∀b xs,H2' b<*.tup xs->uD [D,C] H2' b<*.tup xs:=λb xs e=>by rw[vC (ap e (λ_ z=>nomatch z))];exact e
  refine(2,ib B1 W1.length W2.length (λH=>Two H m m2 L W1 W2 B1 B2),_,dk,.all λus hl=>by obtain⟨_,_,rfl⟩:=A8 hl;rfl,pX ee eg C5 G J aH (DT M),0,el,[],rfl,by rw[vC (ap az (λ_ z=>nomatch z))];exact az,G.n1,!1,!1,(aA.1.tups a0,aA.2.tups a0),λst b4 cX bo d0=>?_);have s3:a' H2 (retr [D,C] H2' b4):=λb o e=>by
   have e':=sE _ _ e;by_cases S:b∈[D,C]
   .rw [AJ S];exact e'
   .rw [xM S];exact cX b o (by rw[vC S];exact e')
  have a3:aX .p (retr [D,C] H2' b4) (bO B1 0 []) st:=bo.same λb xs e=>by
   rw[xM λS=>?_]
   .exact e
   .rw [d0 b S]at e;cases e
  generalize retr [D,C] H2' b4=H3 at s3 a3;have bV:=AK b0 s3;refine(_,rfl,bV,λb2 f3 c3 N b6 cs fe e7 s4 cB co cl=>?_);obtain⟨ez,fd,fc,dT⟩:=id cB;have aS:∀{b:Addr}{φ:Heap->Prop},H2 b<*.ext φ->N b<*.ext φ:=λe=>s4 _ _ (c7 e) (s3 _ _ e);have a5:N D<*tj D "entered" q_te (nt aJ) (ln aJ) (h7 aJ) I C:=aS as;have a9:N C<*k_ C q_te:=aS a8;have a4:N Z<*tj Z Z7 q_tg (nt aq) (ln aq) (h7 aq) aN X:=aS dr;have a6:N X<*k_ X q_tg:=aS dv;have ag:=zX s4 bV;have aB:Two N m m2 L W1 W2 B1 B2:=((F.1.same s3).tups ag,(F.2.same s3).tups ag);have ch:aX .p N (bO B1 0 []) st:=a3.same ag;have cx:∀u∈[D,Z,f3,C,X,c3],∃φ,N u<*.ext φ:=λu Y=>by
   simp only[mem_cons,not_mem_nil,or_false]at Y;rcases Y with rfl|rfl|rfl|rfl|rfl|rfl
   .exact (_,a5)
   .exact (_,a4)
   .exact (_,cl)
   .exact (_,a9)
   .exact (_,a6)
   .exact (_,co)
  refine([D,Z,f3,C,X,c3],cx,λg Wd=>?_);obtain⟨eq,e4,eu,cN⟩:=Wd.ext D _ (!1) a5;obtain⟨ep,e3,et,cM⟩:=Wd.ext Z _ (!1) a4;obtain⟨e0,es,cK⟩:=Wd.ext f3 _ (!1) cl;have ek:g.CodeRec (.ref C) q_te:=Wd.ext C _ (!1) a9;have ej:g.CodeRec (.ref X) q_tg:=Wd.ext X _ (!1) a6;have ei:g.CodeRec (.ref c3) q_tl:=Wd.ext c3 _ (!1) co;have C1:vb g I (h7 aJ) ["ahead"] [.ref m]:=AN Wd a2 bd rfl λi y v l B=>by
   match i,l,B with
   |0,l,B=>cases l;cases B;exact((2,rfl,rfl),rfl,rfl)
   |i+1,l,_=>simp at l
  have C2:vb g aN (h7 aq) ["ahead","behind","entered"] [.ref m,.ref m2,.ref D]:=AN Wd ca cv rfl λi y v l B=>by
   match i,l,B with
   |0,l,B=>cases l;cases B;exact((2,rfl,rfl),rfl,rfl)
   |1,l,B=>cases l;cases B;exact((3,rfl,rfl),rfl,rfl)
   |2,l,B=>cases l;cases B;exact((4,rfl,rfl),rfl,rfl)
   |i+3,l,_=>simp at l
  have C3:vb g b2 l_scope ["behind"] [.ref m2]:=AN Wd b6 cs rfl λi y v l B=>by
   match i,l,B with
   |0,l,B=>cases l;cases B;exact((3,rfl,rfl),rfl,rfl)
   |i+1,l,_=>simp at l
  have Fw:eI K "walked" "walked" vm fw _:=((ce,c4,.ref tD,bm,aM,bi,an2,W,b1,osl2,rfl,lw,cw),kw);refine(5,A0 cW .p L (BG W1 B1 W2) (qN B2) (y1 W1.length W2.length) (λH=>Two H m m2 L W1 W2 B1 B2) Z f3,dd,BL Fw WT b5 aV ((mO cM ej C2 G J aV (DL g) cN (.all λus hl=>by obtain⟨_,_,rfl⟩:=A8 hl;rfl) (pX cN ek C1 G J aH (DT g))).mono (!0)) ((mM cK ei C3 J (DH g)).mono (!0)) cM (_,rfl) cK (_,rfl) (.all λus hl=>by obtain⟨_,rfl⟩:=xB hl;rfl) (.all λus hl=>by obtain⟨_,rfl⟩:=xB hl;rfl) (λ_ _ s h=>(h.1.same s,h.2.same s)),?_);have bk:∀{b:Addr}{o:HO},N b<*o->(∀φ,o≠.ext φ)->b∉[D,Z,f3,C,X,c3]:=λ{b o}e ho S=>by
   obtain⟨φ,B⟩:=cx b S;rw[e]at B;exact ho φ (Option.some.inj B)
  have ab:∀b xs,N b<*.tup xs->uD [D,Z,f3,C,X,c3] N b<*.tup xs:=λb xs e=>by rw[vC (bk e (λ_ z=>nomatch z))];exact e
  have aU:=oF (n1:=W1.length) W2.length eb;refine(bO B1 0 [],.ref st,none,rfl,G.lt,?_,gr aH J.n1 G.n1 (!1),pC G J aH,le_trans aU (!0),(aB.1.tups ab,aB.2.tups ab),λwk t wd y md ks ev ws bg R Bm H5 cS hW ht fa dc hy cg dn bf O bl c8 sub le he dV=>?_)
  .unfold uE;rw[if_neg (!0)];exact(st,rfl,ch.same ab)
  have hR:R.length=ks.length:=by
   rcases he with z|⟨n,z,_⟩
   .exact z
   .cases z
  have out:∀{b:Addr}{o:HO},H5 b<*o->retr [D,Z,f3,C,X,c3] N H5 b<*o:=λ{b o}e=>by
   rw[xM λS=>?_]
   .exact e
   .rw [dV b S]at e;cases e
  have ed:∀{b:Addr}{o:HO},N b<*o->retr [D,Z,f3,C,X,c3] N H5 b<*o:=λ{b o}e=>by
   by_cases S:b∈[D,Z,f3,C,X,c3]
   .rw [AJ S];exact e
   .exact out (cS b o (by rw[vC S];exact e))
  rw[hR]at bf;obtain⟨dx,ew⟩:=hW.ex;have kT:KT ts H (retr [D,Z,f3,C,X,c3] N H5):=(kA.trans (kB.trans ((KT.ofX nd i1 cd hT b0).trans ((KT.of s3).trans (KT.ofX nd i1 s4 bV cB))))).trans (KT.of λb o e=>ed e);have aT:=B6 (Bm:=Bm) G.lt bf O hR bl (le_trans le (le_trans aU (!0)));have da:∀u:LN,(∀c∈u,c∈L)->(ub L R Bm u=true↔A4 (ub L V1 D1) (ub L V2 D2) u):=λu Y=>by
   unfold ub A4;dsimp only;rw[B7 bf O hR bl c8 Y,lT G J aH Y];constructor
   .rintro⟨x,v,rfl,l,B⟩;exact(x,v,rfl,by rw[<-U.takes hNa1 λc hc=>Y c (by simp[hc])];exact l,by rw[<-T.takes hNa2 λc hc=>Y c (by simp[hc])];exact B)
   .rintro⟨x,v,rfl,l,B⟩;exact(x,v,rfl,by rw[U.takes hNa1 λc hc=>Y c (by simp[hc])];exact l,by rw[T.takes hNa2 λc hc=>Y c (by simp[hc])];exact B)
  refine(wk,t,wd,y,md,bg,L,R,Bm,ws,rfl,(dx,out ew),out hy,(cg.1,λi a r l B=>out (cg.2 i a r l B)),out dn,out dc,by rw[hR];exact bf.len.symm,aT,λi v hv=>eM bf O hR aT hv,λd H' s' p9=>qE d H' (kT.trans (KT.of s')) (p9.congr da),λmm k ff H6 hm cO dp s6 hf d4=>?_);exact q ff _ _ H6 (kT.trans (KT.of s6)) d4 (A2 hm aT) (B9 dp) (B8 bf O hR aT cO hm)
end H
end K25
namespace K25
open PySem L2 RA
namespace A
theorem f_j:s_ [Q0,"piece","entered",Z7] [Q0] (h7 o5):=uH
set_option maxHeartbeats 8000000 in
theorem zI{P:Program}{w:World}{K:Frag}(nd:(ts.map Prod.fst).Nodup)(i0:(P0,sites,)∈ts)(i1:(P1,sitesA,)∈ts){oc kV doc pm ct a7 aS S aM I a0 cg:Value}(lk:K.lookup f<*(oc,od,.func (fnOf "again" "again" (nt o5) (ln o5) (h7 o5) .none kV doc pm an (.ref c) ct),d1))(cI:codeIn K (.ref c) "again"=true)(lw:K.lookup fw<*(a7,cf,.func (fnOf "walked" "walked" (nt vm) (ln vm) (h7 vm) (.ref tD) aS S aM an2 I a0),osl2))(cw:codeIn K I "walked"=true)(kw:keepIn K (.ref fw)=true)(mw:mg "walked"<*.ref fw)(lD:K.lookup tD<*(cg,d2,.seq #[.none] nD,dr))(WT:Av K mg cW fI fdI)(a2:mg "len"=none)(a1:mg "zip"=none)(hC:CodeHd base c P1)(hB:xi base mg)(DL:∀base:Heap,Df P w K mg base "lots_after" 1 [Q0,Q5] sp_lotsafter)(DH:∀base:Heap,Df P w K mg base "has_marked" 1 [Q0,Q5] sp_hasm)(DT:∀base:Heap,Df P w K mg base "lot_of" 1 [Q5] (sp_lot K))(y3:Df P w K mg base "least" 7 [Q0] (Cf P0 sites))(y0:vk P w K mg base "told" 4 [Z0] (A9 cW cTM)):aa P w K mg base (ve P w) 8 f (fnOf "again" "again" (nt o5) (ln o5) (h7 o5) .none kV doc pm an (.ref c) ct) [Q0] (dw cTM ts Ag):=by
 refine BC lk cI f_j (λvs H Q E h=>?_) (λA ce s H vs Q E hr h=>?_)
 .obtain ⟨m,L,W,B,rfl,_⟩:=h;rfl
 .obtain ⟨m0,L,W0,B0,rfl,c0,aB,hW8,hA,qE,q⟩:=h;have b2:=hA _ i0;have cx:=hr.mono (j:=4) (!0);have cv:=hr.mono (j:=5) (!0);refine(_,(j3 ((oI 1 f_j.nd ((ri y3 hr (m_ (pv 0)))))) (j3 ((zx (i:=2) (qual:=q_ae) (c:=c) (P0:=P1) (sites:=sitesA) f_j.nd rfl (Or.inr rfl) rfl hC hB (!3) (!3))) (j3 ((zx (i:=3) (qual:=q_ag) (c:=c) (P0:=P1) (sites:=sitesA) f_j.nd rfl (Or.inl rfl) rfl hC hB (!3) (!3))) (kd (n6 (wS y0 cx (wR λ_ _ _ z=>z) (m_ (Bw (dvs:=[.non]) rfl mw kw (BN (kV:=aS) (doc:=S) (pm:=aM) (an:=an2) (cdv:=I) (ct:=a0) lD) (.cons rfl .nil) (v_ (p' 1) (vg (yC (pu vD (yC (m_ c_)))) (pv 3) (Bz (qual:=q_al) (c:=c) (P0:=P1) (sites:=sitesA) rfl hC hB (!3) (!3)))) (λ_=>rfl))))))))),?_);refine(_,rfl,m0,L,W0,B0,rfl,c0,aB,b2,λm W B H0 s0 b1 hM aV=>?_);have C:=aV.mach;have h8:W.length≤8:=le_trans aV.len hW8;have kA:KT ts H H0:=KT.ofX nd i0 s0 b2 b1;have hT:vL H0 P1 sitesA:=kA.tb hA _ i1;refine(hT,λU O M H1 a5 bo ee d5 s1 b0 cM cH=>(b0,λT N J H2 a4 bm ed d4 s2 aU cK cC=>?_));have a6:wv P1 H0 H2:=Bx s1 s2;have b3:ol H2 m L W B:=hM.tups (zX a6 hT);obtain⟨wy,mk,dc,h1,h2,h3,h4,h5⟩:=id b3;refine(o_ h1 aw (o9 (by show 1≤16777216;decide),λzt cp=>(o9 (by show 2≤16777216;decide),λst bd=>?_)));have s3:a' H2 (L2.upd (L2.upd H2 zt (.tup [.int 0])) st (.tup [.bl true,.ref zt])):=(a'.upd cp).trans (a'.upd bd);have ap:aX .q (L2.upd (L2.upd H2 zt (.tup [.int 0])) st (.tup [.bl true,.ref zt])) [1,0] st:=(zt,1,[0],rfl,le_refl _,j',p_ j' bd);generalize L2.upd (L2.upd H2 zt (.tup [.int 0])) st (.tup [.bl true,.ref zt])=H3 at s3 ap;have aT:=AK aU s3;refine(_,rfl,aT,λc5 X Y p a3 bk ec d3 s4 bV bi bg=>?_);obtain⟨dv,cU,_⟩:=id b0;obtain⟨dt,cS,_⟩:=id aU;obtain⟨ds,eb,ea,cN⟩:=id bV;have cl:∀{b:Addr}{φ:Heap->Prop},H1 b<*.ext φ->b≠P1:=λ{b φ}e z=>by rw[z,cU]at e;cases e
  have ch:∀{b:Addr}{φ:Heap->Prop},H2 b<*.ext φ->b≠P1:=λ{b φ}e z=>by rw[z,cS]at e;cases e
  have aC:∀{b:Addr}{φ:Heap->Prop},H2 b<*.ext φ->p b<*.ext φ:=λe=>s4 _ _ (ch e) (s3 _ _ e);have up1:∀{b:Addr}{φ:Heap->Prop},H1 b<*.ext φ->p b<*.ext φ:=λe=>aC (s2 _ _ (cl e) e);have as:p O<*tj O "entered" q_ae (nt bb) (ln bb) (h7 bb) U M:=up1 cH;have aA:p M<*k_ M q_ae:=up1 cM;have ar:p N<*tj N Z7 q_ag (nt aW) (ln aW) (h7 aW) T J:=aC cC;have az:p J<*k_ J q_ag:=aC cK;have ag:=zX s4 aT;have cX:ol p m L W B:=(b3.same s3).tups ag;have a9:aX .q p [1,0] st:=ap.same ag;have bs:∀u∈[O,N,X,M,J,Y],∃φ,p u<*.ext φ:=λu hu=>by
   simp only[mem_cons,not_mem_nil,or_false]at hu;rcases hu with rfl|rfl|rfl|rfl|rfl|rfl
   .exact (_,as)
   .exact (_,ar)
   .exact (_,bg)
   .exact (_,aA)
   .exact (_,az)
   .exact (_,bi)
  refine([O,N,X,M,J,Y],bs,λg Wd=>?_);obtain⟨de,d0,dn,b6⟩:=Wd.ext O _ (!1) as;obtain⟨dd,dV,dm,b5⟩:=Wd.ext N _ (!1) ar;obtain⟨dT,dk,b4⟩:=Wd.ext X _ (!1) bg;have da:g.CodeRec (.ref M) q_ae:=Wd.ext M _ (!1) aA;have c8:g.CodeRec (.ref J) q_ag:=Wd.ext J _ (!1) az;have c7:g.CodeRec (.ref Y) q_al:=Wd.ext Y _ (!1) bi;have C1:vb g U (h7 bb) ["piece"] [.ref m]:=AN Wd a5 bo rfl λi y v D G=>by
   match i,D,G with
   |0,D,G=>cases D;cases G;exact((1,rfl,rfl),rfl,rfl)
   |i+1,D,_=>simp at D
  have C2:vb g T (h7 aW) ["entered","piece"] [.ref O,.ref m]:=AN Wd a4 bm rfl λi y v D G=>by
   match i,D,G with
   |0,D,G=>cases D;cases G;exact((2,rfl,rfl),rfl,rfl)
   |1,D,G=>cases D;cases G;exact((1,rfl,rfl),rfl,rfl)
   |i+2,D,_=>simp at D
  have C3:=Tu.w4 (sc:=l_scope) Wd a3 bk;have Fw:eI K "walked" "walked" vm fw _:=((a7,cf,.ref tD,aS,S,aM,an2,I,a0,osl2,rfl,lw,cw),kw);refine(5,A0 cW .q L (BE W B) qO (zF W.length) (λH=>ol H m L W B) N X,cv,BL Fw WT a2 a1 ((sJ b5 c8 C2 C h8 (DL g) b6 (.all λus hl=>by obtain⟨_,rfl⟩:=xB hl;rfl) (sK b6 da C1 C h8 (DH g) (DT g))).mono (!0)) ((sI b4 c7 C3 _ _).mono (!0)) b5 (_,rfl) b4 (_,rfl) (.all λus hl=>by obtain⟨_,rfl⟩:=xB hl;rfl) (.all λus hl=>by obtain⟨_,rfl⟩:=xB hl;rfl) (λ_ _ s h=>h.same s),?_);have aN:∀{b:Addr}{o:HO},p b<*o->(∀φ,o≠.ext φ)->b∉[O,N,X,M,J,Y]:=λ{b o}e ho hb=>by
   obtain⟨φ,G⟩:=bs b hb;rw[e]at G;exact ho φ (Option.some.inj G)
  have ab:∀b xs,p b<*.tup xs->uD [O,N,X,M,J,Y] p b<*.tup xs:=λb xs e=>by rw[vC (aN e (λ_ z=>nomatch z))];exact e
  refine([1,0],.ref st,none,rfl,C.lt,?_,wA (l:=[0]) (!1) (le_refl _) (λx hx=>by rw[uN hx];exact C.n1),Aq C h8,le_trans (je _) (!0),cX.tups ab,λwk t wd y md ks dp ws aH R Bm H5 cd hW ht d6 cs hy a8 cA bf F bl cn sub le he cO=>?_)
  .unfold uE;rw[if_neg (!0)];exact(st,rfl,a9.same ab)
  have hR:R.length=ks.length:=by
   rcases he with z|⟨n,z,_⟩
   .exact z
   .cases z
  have out:∀{b:Addr}{o:HO},H5 b<*o->retr [O,N,X,M,J,Y] p H5 b<*o:=λ{b o}e=>by
   rw[xM λhb=>?_]
   .exact e
   .rw [cO b hb]at e;cases e
  have c4:∀{b:Addr}{o:HO},p b<*o->retr [O,N,X,M,J,Y] p H5 b<*o:=λ{b o}e=>by
   by_cases hb:b∈[O,N,X,M,J,Y]
   .rw [AJ hb];exact e
   .exact out (cd b o (by rw[vC hb];exact e))
  rw[hR]at bf;obtain⟨dx,ew⟩:=hW.ex;have kT:KT ts H (retr [O,N,X,M,J,Y] p H5):=(kA.trans ((KT.ofX nd i1 a6 hT aU).trans ((KT.of s3).trans (KT.ofX nd i1 s4 aT bV)))).trans (KT.of λb o e=>c4 e);have Z:=B6 (Bm:=Bm) C.lt bf F hR bl (le_trans le (le_trans (je _) (!0)));have co:∀u:LN,(∀c∈u,c∈L)->(ub L R Bm u=true↔Ag (ub L W0 B0) u):=λu hu=>by
   unfold ub;rw[B7 bf F hR bl cn hu,on C h8 hu];have tk:∀v:LN,(∀c∈v,c∈u)->B.getD (run L W 0 v) false=B0.getD (run L W0 0 v) false:=λv hv=>aV.takes aB λc hc=>hu c (hv c hc);exact(λz=>z.congr tk,λz=>z.congr λv hv=>(tk v hv).symm)
  refine(wk,t,wd,y,md,aH,L,R,Bm,ws,rfl,(dx,out ew),out hy,(a8.1,λi a r D G=>out (a8.2 i a r D G)),out cA,out cs,by rw[hR];exact bf.len.symm,Z,λi v hv=>eM bf F hR Z hv,λd H' s' p9=>qE d H' (kT.trans (KT.of s')) (p9.congr co),λmm k ff H6 hm ca cB s6 hf cV=>?_);exact q ff _ _ H6 (kT.trans (KT.of s6)) cV (A2 hm Z) (B9 cB) (B8 bf F hR Z ca hm)
end A
end K25
namespace K25
open PySem L2 RA
noncomputable def Ch(P:Program)(w:World)(K:Frag)(mg:Str->Option Value)(cTM:Addr)(ts:List (Addr×List (Pos×Str))):Sp:=λvs H Q E=>∃(m m2 g cg:Addr)(L:LN)(W1 W2:LL)(B1 B2:List Bool)(rule:Bool->Bool->Bool),vs=[.ref m,.ref m2,.ref g]/\ol H m L W1 B1/\g_ L W1 B1/\ol H m2 L W2 B2/\g_ L W2 B2/\W1.length≤8/\W2.length≤8/\rC P w K mg H g cg rule/\gR ts H/\(∀d H',KT ts H H'->P9 H' d L (xA rule (ub L W1 B1) (ub L W2 B2))->E (.ref cTM) (some d) H')/\
 ∀(f:Addr)(W':LL)(B':List Bool)(H':Hp),KT ts H H'->ol H' f L W' B'->g_ L W' B'->W'.length≤8->(∃v,wY L W' B' v)->Q (.ref f) H'
theorem f_E:s_ [Q0,Q3,"is_wanted",Z7,Q9] [Q0,Q3,"is_wanted"] (h7 xl):=uH
set_option maxHeartbeats 8000000 in
theorem kC{P:Program}{w:World}{K:Frag}(nd:(ts.map Prod.fst).Nodup)(i1:(P1,bt,)∈ts){oc kV doc pm ct a2 aS T aM F aT ch:Value}(lk:K.lookup f<*(oc,od,.func (fnOf "paired" "paired" (nt xl) (ln xl) (h7 xl) .none kV doc pm an (.ref c) ct),dT))(cC:codeIn K (.ref c) "paired"=true)(lw:K.lookup fw<*(a2,cf,.func (fnOf "walked" "walked" (nt vm) (ln vm) (h7 vm) (.ref tD) aS T aM an2 F aT),osl2))(cw:codeIn K F "walked"=true)(kw:keepIn K (.ref fw)=true)(mw:mg "walked"<*.ref fw)(lD:K.lookup tD<*(ch,dV,.seq #[.none] nD,dn))(WT:Av K mg cW fI fdI)(aU:mg "len"=none)(ab:mg "zip"=none)(aC:mg "list"=none)(hC:CodeHd base c P1)(hB:xi base mg)(y9:vk P w K mg base "need_same_letters" 1 [Q0,Q3] (C' cOL))(y0:vk P w K mg base "told" 4 [Z0] (A9 cW cTM)):aa P w K mg base (ve P w) 6 f (fnOf "paired" "paired" (nt xl) (ln xl) (h7 xl) .none kV doc pm an (.ref c) ct) [Q0,Q3,"is_wanted"] (Ch P w K mg cTM ts):=by
 refine BC lk cC f_E (λvs H Q E h=>?_) (λA ce s H vs Q E hr h=>?_)
 .obtain ⟨m,m2,g,M,L,W1,W2,B1,B2,rule,rfl,_⟩:=h;rfl
 .obtain ⟨m,m2,g,M,L,W1,W2,B1,B2,rule,rfl,bV,C,bs,S,b2,b1,hRu,hA,qE,q⟩:=h;have hT:=hA _ i1;have cv:=hr.mono (j:=1) (!0);have cs:=hr.mono (j:=4) (!0);refine(_,(j3 (vI (wS y9 cv (wR λ_ _ _ z=>z) (pu (pv 0) (pv 1)))) (j3 ((zx (i:=3) (qual:=q_pg) (c:=c) (P0:=P1) (sites:=bt) f_E.nd rfl (Or.inl rfl) rfl hC hB (!3) (!3))) (j3 ((zx (i:=4) (qual:=q_pm) (c:=c) (P0:=P1) (sites:=bt) f_E.nd rfl (Or.inl rfl) rfl hC hB (!3) (!3))) (kd (n6 (wS y0 cs (wR λ_ _ _ z=>z) (m_ (Bw (dvs:=[.non]) rfl mw kw (BN (kV:=aS) (doc:=T) (pm:=aM) (an:=an2) (cdv:=F) (ct:=aT) lD) (.cons rfl .nil) (v_ (p' 0) (vg (yC (pu c_ c_)) (pv 3) (pv 4))) (λ_=>rfl))))))))),?_);refine(_,rfl,_,rfl,m,m2,L,L,W1,B1,W2,B2,rfl,bV,C,bs,S,λz=>absurd rfl z,λ_=>?_);refine(hT,λW I G H1 a0 bi d6 d1 s1 bo bd a8=>(bo,λU J X Y aV bg d5 d0 s2 bm a9 cB=>?_));have O:wv P1 H Y:=Bx s1 s2;have b0:ol Y m L W1 B1:=bV.tups (zX O hT);have cV:ol Y m2 L W2 B2:=bs.tups (zX O hT);obtain⟨ds,cM,_⟩:=id hT;obtain⟨dr,cK,_⟩:=id bo;obtain⟨qual,b6,dk,sc,de,a7,az,cO,cS⟩:=hRu.ex;have nP:∀{b:Addr}{φ:Heap->Prop},H1 b<*.ext φ->b≠P1:=λ{b φ}e z=>by rw[z,cK]at e;cases e
  have a3:∀{b:Addr}{φ:Heap->Prop},H b<*.ext φ->b≠P1:=λ{b φ}e z=>by rw[z,cM]at e;cases e
  have a6:=O g _ (a3 a7) a7;have as:=O M _ (a3 az) az;have ar:Y I<*tj I Z7 q_pg (nt ba) (ln ba) (h7 ba) W G:=s2 I _ (nP a8) a8;have aA:Y G<*k_ G q_pg:=s2 G _ (nP bd) bd;have ap:Y J<*tj J Q9 q_pm (nt aZ) (ln aZ) (h7 aZ) U X:=cB;obtain⟨wy,mk,c7,h1,h2,h3,h4,h5⟩:=id b0;refine(o_ h1 aw (o9 (by show 2≤16777216;decide),λst cp=>?_));have B:a' Y (L2.upd Y st (.tup [.int 0,.int 0])):=a'.upd cp;have ag:L2.upd Y st (.tup [.int 0,.int 0]) st<*.tup (b' [0,0]):=j';generalize L2.upd Y st (.tup [.int 0,.int 0])=H3 at B ag;have cX:=b0.same B;have cU:=cV.same B;obtain⟨dp,d4,d3,cH⟩:=AK bm B;have bk:∀u∈[I,J,G,X,g,M],∃φ,H3 u<*.ext φ:=λu hu=>by
   simp only[mem_cons,not_mem_nil,or_false]at hu;rcases hu with rfl|rfl|rfl|rfl|rfl|rfl
   .exact (_,B _ _ ar)
   .exact (_,B _ _ ap)
   .exact (_,B _ _ aA)
   .exact (_,B _ _ a9)
   .exact (_,B _ _ a6)
   .exact (_,B _ _ as)
  refine(_,rfl,_,rfl,[I,J,G,X,g,M],bk,λl Wd=>?_);obtain⟨da,dv,dd,b5⟩:=Wd.ext I _ (!1) (B _ _ ar);obtain⟨c8,dt,dc,b4⟩:=Wd.ext J _ (!1) (B _ _ ap);obtain⟨a1,aB,b3⟩:=Wd.ext g _ (!1) (B _ _ a6);have c5:l.CodeRec (.ref G) q_pg:=Wd.ext G _ (!1) (B _ _ aA);have c4:l.CodeRec (.ref X) q_pm:=Wd.ext X _ (!1) (B _ _ a9);have c3:l.CodeRec (.ref M) qual:=Wd.ext M _ (!1) (B _ _ as);have C1:vb l W (h7 ba) [Q0,Q3] [.ref m,.ref m2]:=AN Wd a0 bi rfl λi y v p x=>by
   match i,p,x with
   |0,p,x=>cases p;cases x;exact((0,rfl,rfl),rfl,rfl)
   |1,p,x=>cases p;cases x;exact((1,rfl,rfl),rfl,rfl)
   |i+2,p,_=>simp at p
  have C2:vb l U (h7 aZ) ["is_wanted",Q0,Q3] [.ref g,.ref m,.ref m2]:=AN Wd aV bg rfl λi y v p x=>by
   match i,p,x with
   |0,p,x=>cases p;cases x;exact((2,rfl,rfl),rfl,rfl)
   |1,p,x=>cases p;cases x;exact((0,rfl,rfl),rfl,rfl)
   |2,p,x=>cases p;cases x;exact((1,rfl,rfl),rfl,rfl)
   |i+3,p,_=>simp at p
  have Fw:eI K "walked" "walked" vm fw _:=((a2,cf,.ref tD,aS,T,aM,an2,F,aT,osl2,rfl,lw,cw),kw);refine(5,A0 cW .t L (gP W1 W2) (E9 rule B1 B2) (uP W1.length W2.length) (λH=>Two H m m2 L W1 W2 B1 B2) I J,hr,BL Fw WT aU ab ((sH b5 c5 C1 C S aC ab).mono (!0)) ((sG b4 c4 C2 C S b3 (cS a1 aB) (cO l a1 aB b3 c3)).mono (!0)) b5 (_,rfl) b4 (_,rfl) (.all λus hl=>by obtain⟨_,rfl⟩:=xB hl;rfl) (.all λus hl=>by obtain⟨_,rfl⟩:=xB hl;rfl) (λ_ _ s h=>(h.1.same s,h.2.same s)),?_);have aN:∀{b:Addr}{o:HO},H3 b<*o->(∀φ,o≠.ext φ)->b∉[I,J,G,X,g,M]:=λ{b o}e ho hb=>by
   obtain⟨φ,x⟩:=bk b hb;rw[e]at x;exact ho φ (Option.some.inj x)
  have N:∀b xs,H3 b<*.tup xs->uD [I,J,G,X,g,M] H3 b<*.tup xs:=λb xs e=>by rw[vC (aN e (λ_ z=>nomatch z))];exact e
  refine([0,0],.ref st,none,rfl,C.lt,?_,lO C.n1 S.n1,rG C S,le_trans (pR b2 b1) (!0),(cX.tups N,cU.tups N),λwk t wd y md ks dm ws aH R Bm H5 cd hW ht d2 co hy a5 cx bf D bl cl sub le he cI=>?_)
  .unfold uE;rw[if_neg (!0)];exact(st,rfl,N _ _ ag)
  have hR:R.length=ks.length:=by
   rcases he with z|⟨n,z,_⟩
   .exact z
   .cases z
  have out:∀{b:Addr}{o:HO},H5 b<*o->retr [I,J,G,X,g,M] H3 H5 b<*o:=λ{b o}e=>by
   rw[xM λhb=>?_]
   .exact e
   .rw [cI b hb]at e;cases e
  have c0:∀{b:Addr}{o:HO},H3 b<*o->retr [I,J,G,X,g,M] H3 H5 b<*o:=λ{b o}e=>by
   by_cases hb:b∈[I,J,G,X,g,M]
   .rw [AJ hb];exact e
   .exact out (cd b o (by rw[vC hb];exact e))
  rw[hR]at bf;obtain⟨dx,ew⟩:=hW.ex;have kT:KT ts H (retr [I,J,G,X,g,M] H3 H5):=(KT.ofX nd i1 O hT bm).trans (KT.of λb o e=>c0 (B _ _ e));have a4:=le_trans le (pR b2 b1);have Z:=B6 (Bm:=Bm) C.lt bf D hR bl (le_trans a4 (!0));have cn:∀u:LN,(∀c∈u,c∈L)->(ub L R Bm u=true↔xA rule (ub L W1 B1) (ub L W2 B2) u):=λu hu=>by
   unfold ub xA;rw[B7 bf D hR bl cl hu,sx];rfl
  refine(wk,t,wd,y,md,aH,L,R,Bm,ws,rfl,(dx,out ew),out hy,(a5.1,λi a r p x=>out (a5.2 i a r p x)),out cx,out co,by rw[hR];exact bf.len.symm,Z,λi v hv=>eM bf D hR Z hv,λd H' s' p9=>qE d H' (kT.trans (KT.of s')) (p9.congr cn),λmm k ff H6 hm ca cA s6 hf cN=>?_);exact q ff _ _ H6 (kT.trans (KT.of s6)) cN (A2 hm Z) (B9 cA) (B8 bf D hR Z ca hm)
set_option maxHeartbeats 8000000 in
theorem kD{P:Program}(Z:(ts.map Prod.fst).Nodup)(i1:(Pj,Db,)∈ts){Y kV doc pm ct:Value}(lk:K.lookup f<*(Y,od,.func (fnOf "either" "either" (nt y_) (ln y_) (h7 y_) .none kV doc pm an (.ref c) ct),X))(r:codeIn K (.ref c) "either"=true)(hC:CodeHd base c Pj)(hB:xi base mg)(T:vk P w K mg base "paired" 6 [Q0,Q3,"is_wanted"] (Ch P w K mg cTM ts)):aa P w K mg base (ve P w) 7 f (fnOf "either" "either" (nt y_) (ln y_) (h7 y_) .none kV doc pm an (.ref c) ct) [Q0,Q3] (bj cTM ts (xA (λa b=>a||b))):=by
 refine BC lk r kg (λU H Q E h=>?_) (λA n s H U Q E hr h=>?_)
 .obtain ⟨m,J,L,O,N,S,R,rfl,_⟩:=h;rfl
 .obtain ⟨m,J,L,O,N,S,R,rfl,v,C,u,x,D,B,M,qE,q⟩:=h;have j:=M _ i1;refine(_,(kd (n6 (wS T hr (wR λ_ _ _ z=>z) (vg (pv 0) (pv 1) (Bz (qual:=Cg) (c:=c) (P0:=Pj) (sites:=Db) rfl hC hB (!3) (!3)))))),?_);refine(_,rfl,_,rfl,j,λi g cg H1 sub has fr ne W t p hg=>?_);have l:KT ts H H1:=KT.ofX Z i1 W j t;have I:=l.sm;have o:∀y,i.lookup y=none:=λy=>by
   cases e:i.lookup y with
   |none=>rfl
   |some a=>exact nomatch (show(none:Option Addr)<*a from sub y a e)
  exact(m,J,g,cg,L,O,N,S,R,(λa b=>a||b),rfl,v.tups I.tup,C,u.tups I.tup,x,D,B,(_,_,_,_,i,hg,p,λG pm F eb cd=>kx eb cd (eh o (!3)),λpm F=>.all λus hl=>by obtain⟨_,_,rfl⟩:=A8 hl;rfl),l.tb M,λd H' k=>qE d H' (l.trans k),λff W' B' H' k=>q ff W' B' H' (l.trans k))
set_option maxHeartbeats 8000000 in
theorem pb{P:Program}(Z:(ts.map Prod.fst).Nodup)(i1:(Pj,Dc,)∈ts){Y kV doc pm ct:Value}(lk:K.lookup f<*(Y,od,.func (fnOf "both" "both" (nt za) (ln za) (h7 za) .none kV doc pm an (.ref c) ct),X))(r:codeIn K (.ref c) "both"=true)(hC:CodeHd base c Pj)(hB:xi base mg)(T:vk P w K mg base "paired" 6 [Q0,Q3,"is_wanted"] (Ch P w K mg cTM ts)):aa P w K mg base (ve P w) 7 f (fnOf "both" "both" (nt za) (ln za) (h7 za) .none kV doc pm an (.ref c) ct) [Q0,Q3] (bj cTM ts (xA (λa b=>a&&b))):=by
 refine BC lk r oO (λU H Q E h=>?_) (λA n s H U Q E hr h=>?_)
 .obtain ⟨m,J,L,O,N,S,R,rfl,_⟩:=h;rfl
 .obtain ⟨m,J,L,O,N,S,R,rfl,v,C,u,x,D,B,M,qE,q⟩:=h;have j:=M _ i1;refine(_,(kd (n6 (wS T hr (wR λ_ _ _ z=>z) (vg (pv 0) (pv 1) (Bz (qual:=bw) (c:=c) (P0:=Pj) (sites:=Dc) rfl hC hB (!3) (!3)))))),?_);refine(_,rfl,_,rfl,j,λi g cg H1 sub has fr ne W t p hg=>?_);have l:KT ts H H1:=KT.ofX Z i1 W j t;have I:=l.sm;have o:∀y,i.lookup y=none:=λy=>by
   cases e:i.lookup y with
   |none=>rfl
   |some a=>exact nomatch (show(none:Option Addr)<*a from sub y a e)
  exact(m,J,g,cg,L,O,N,S,R,(λa b=>a&&b),rfl,v.tups I.tup,C,u.tups I.tup,x,D,B,(_,_,_,_,i,hg,p,λG pm F eb cd=>o6 eb cd (eh o (!3)),λpm F=>.all λus hl=>by obtain⟨_,_,rfl⟩:=A8 hl;rfl),l.tb M,λd H' k=>qE d H' (l.trans k),λff W' B' H' k=>q ff W' B' H' (l.trans k))
set_option maxHeartbeats 8000000 in
theorem o8{P:Program}(Z:(ts.map Prod.fst).Nodup)(i1:(Pj,Dd,)∈ts){Y kV doc pm ct:Value}(lk:K.lookup f<*(Y,od,.func (fnOf "less" "less" (nt zc) (ln zc) (h7 zc) .none kV doc pm an (.ref c) ct),X))(r:codeIn K (.ref c) "less"=true)(hC:CodeHd base c Pj)(hB:xi base mg)(T:vk P w K mg base "paired" 6 [Q0,Q3,"is_wanted"] (Ch P w K mg cTM ts)):aa P w K mg base (ve P w) 7 f (fnOf "less" "less" (nt zc) (ln zc) (h7 zc) .none kV doc pm an (.ref c) ct) [Q0,Q3] (bj cTM ts (xA (λa b=>a&&!b))):=by
 refine BC lk r oN (λU H Q E h=>?_) (λA n s H U Q E hr h=>?_)
 .obtain ⟨m,J,L,O,N,S,R,rfl,_⟩:=h;rfl
 .obtain ⟨m,J,L,O,N,S,R,rfl,v,C,u,x,D,B,M,qE,q⟩:=h;have j:=M _ i1;refine(_,(kd (n6 (wS T hr (wR λ_ _ _ z=>z) (vg (pv 0) (pv 1) (Bz (qual:=bv) (c:=c) (P0:=Pj) (sites:=Dd) rfl hC hB (!3) (!3)))))),?_);refine(_,rfl,_,rfl,j,λi g cg H1 sub has fr ne W t p hg=>?_);have l:KT ts H H1:=KT.ofX Z i1 W j t;have I:=l.sm;have o:∀y,i.lookup y=none:=λy=>by
   cases e:i.lookup y with
   |none=>rfl
   |some a=>exact nomatch (show(none:Option Addr)<*a from sub y a e)
  exact(m,J,g,cg,L,O,N,S,R,(λa b=>a&&!b),rfl,v.tups I.tup,C,u.tups I.tup,x,D,B,(_,_,_,_,i,hg,p,λG pm F eb cd=>o0 eb cd (eh o (!3)),λpm F=>.all λus hl=>by obtain⟨_,_,rfl⟩:=A8 hl;rfl),l.tb M,λd H' k=>qE d H' (l.trans k),λff W' B' H' k=>q ff W' B' H' (l.trans k))
section
variable{P:Program}{w:World}{K:Frag}{mg:Str->Option Value}{base:Heap}{P0 PT cW:Addr}{ts:List (Addr×List (Pos×Str))}{tabs:List (Addr×Addr)}{cA_ cB_ cC_ cD_ cE_ cF_ cG_ cH_ cI_ cJ_ cK_:Addr}
theorem d_N:s_ ["values","numbers","value"] ["values"] (h7 D7):=uH
theorem w5(F:tS K "numbered" "numbered" D7 f Z)(T:Txt K mg cA_ cB_ cC_ cD_ cE_ cF_ cG_ cH_ cI_ cJ_ cK_):aa P w K mg base nq 1 f Z ["values"] sp_numbered:=by
 refine F.okA d_N ?_;rintro _ _ _ _ H _ _ _ N⟨a,o,xs,ks,nest,rfl,U,R,I,h,Y,q⟩;refine(_,(j3 ((oI 1 d_N.nd (oY))) (j3 ((wI PassesOwn.never rfl (xg (pv 0)) (v5 2 d_N.nd) ((kd ((t_ (wt (ku N.units) (pv 2) (pv 1) (by with_unfolding_all rfl)) ((kd (Bb (vx xZ (!4) T.len boot_len (m_ (pv 1))) (vM (pv 1) (pv 2) (xY N.units))))) (t6))))))) (kd (n6 (yS ["values","numbers","?"] rfl (!0) (xg (pv 0)) (λcl C fp s' H'=>(vY,nT (kS P w N.units) (pv 2) (pv 0) (λ_ _=>rfl)))))))),?_);have hz:xs.length≤sizeLine:=o9 (by rw[I];exact le_trans h (!0));have c:∀{i:Nat}{x:V},xs[i]?<*x->∃k,ks[i]?=some k/\gQ H k x/\CI k=nest:=λ{i x}u=>by
  have W:i<ks.length:=by rw[<-I];exact(l' u).1
  exact(ks[i],j1 W,Y i _ x (j1 W) u)
 refine(if nest=true then .nest else .bl,λd B=>?_);refine(_,rfl,a,o,xs,rfl,U,p_ R B,λJ L=>gg L (λi l H'=>∃G p,l=[some (.ref a),some (.ref d),G]/\H'=L2.upd H d p/\q5 P w H' d nest (ks.take i)) (none,_,rfl,rfl,q5.new P w H d nest) ?_ ?_ ?_)
 .rintro i l H'⟨G,p,rfl,rfl,_⟩;exact p_ R B
 .rintro i x l H' u⟨G,p,rfl,rfl,r⟩;obtain⟨k,g,s,m⟩:=c u;have n:gQ (L2.upd H d p) k x:=s.stay λb ys z=>p_ z B;refine(_,rfl,_,rfl,d,_,rfl,r.get n m,_,rfl,?_);by_cases v:k∈sg (ks.take i)
  .rw [show(!(dI (ks.take i) k).isSome)=false by rw[dI,if_pos v];rfl];refine ae (_,_,rfl,rfl,?_);rw[zv g];exact r.same v
  .rw [show(!(dI (ks.take i) k).isSome)=true by rw[dI,if_neg v];rfl];have Q:(sg (ks.take i)).length<sizeLine:=by
    have h1:=jK (ks.take i);have h2:(ks.take i).length≤2100:=by rw[length_take];exact le_trans (Nat.min_le_right _ _) h
    exact lt_of_lt_of_le (Nat.lt_succ_of_le (le_trans h1 h2)) (o9 (!0))
   obtain⟨M,A,O⟩:=r.put n m v Q;refine ai (_,rfl,d,_,rfl,r.len,_,rfl,_,rfl,d,_,rfl,A,?_);refine(some x,M,rfl,Ba,?_);rw[zv g];exact O
 .rintro l H'⟨G,p,rfl,rfl,r⟩;rw[I,take_length]at r;have E:L2.upd H d p a<*o:=p_ R B;have y:a' H (L2.upd H d p):=a'.upd B;refine(_,rfl,a,o,xs,rfl,U,E,λJ L=>DE L E (λD j ys H'=>ys=(b' (ao ks)).take j) hz (λD S=>!1) ?_ ?_)
  .intro D j x ys H' R1 R2 S u e t hp k1 k2;obtain⟨k,g,s,m⟩:=c u;have v:k∈sg ks:=mem_dis.mpr (uM g);have X:=(r.mono e).get (s.stay λb ys z=>(y.trans e) _ _ z) m;rw[show dI ks k<*_ from if_pos v]at X;refine i_ (_,rfl,_,rfl,d,_,rfl,X,k1 _ H' t (a'.set e S) ?_);rw[hp];refine(zv ?_).symm;rw[b',ao,List.map_map,n',g];rfl
  .intro D ys H' S e t hp;refine q D H' (y.trans e) ?_;rw[t,hp,I,take_of_length_le (by rw[e_,BV];exact le_refl _)]
theorem dA:s_ [Z5] [Z5] (h7 D8):=uH
theorem wD(F:tS K "many_lots" "many_lots" D8 f i)(T:Txt K mg cA_ cB_ cC_ cD_ cE_ cF_ cG_ cH_ cI_ cJ_ cK_):aa P w K mg base nq 1 f i [Z5] sp_manyM:=by
 refine F.okA dA ?_;rintro _ _ _ _ _ _ _ _ _⟨a,ns,rfl,h,d,q⟩;refine(_,(kd (n6 (uQ vO (vx (lv rfl) (!4) T.max PyProof.Rows.boot_max (m_ (pv 0))) c_))),?_);refine(_,rfl,a,zs ns,rfl,by rw[h,BY],by rw[db];exact d,λM g b=>(_,_,rfl,rfl,?_));obtain⟨m,e,rfl⟩:=mem_map.mp g;exact q m e λx c=>Int.ofNat_le.mp (b _ (mem_map.mpr (x,c,rfl)))
theorem c_l:s_ [Y0,"marks","most","rounds",Z5,"finer"] [Y0,"marks","most"] (h7 D9):=uH
theorem wE(F:tS K "rounds_of" "rounds_of" D9 f fd)(T:Txt K mg cA_ cB_ cC_ cD_ cE_ cF_ cG_ cH_ cI_ cJ_ cK_)(yn:Df P w K mg base "numbered" 1 ["values"] sp_numbered)(y6:Df P w K mg base "many_lots" 1 [Z5] sp_manyM):aa P w K mg base nq 2 f fd [Y0,"marks","most"] sp_roundsG:=by
 refine F.okA c_l ?_;rintro _ _ _ _ H _ _ _ hr⟨wy,mk,b0,o,om,L,W,B,J,rfl,ho,a8,bg,bk,aA,as,l,q⟩;refine(_,(j3 ((oI 3 c_l.nd (wc (m_ (ri yn hr (m_ (pv 1))))))) (j3 (fj PassesOwn.never (wt js (ri y6 hr (m_ (u6 (pv 3) (b7 Bd c_)))) (pv 2) (vz _)) (j3 ((oI 4 c_l.nd (u6 (pv 3) (b7 Bd c_)))) (j3 ((oI 5 c_l.nd ((ri yn hr (m_ (fD [Y0,"marks","most","rounds",Z5,"finer"] rfl (!0) (CV rfl T.enumerate (m_ (pv 0))) (λcl C fp s' H'=>yC (pu (nT (zU K) (pv 6) (pv 0) (λ_ _=>rfl)) (xS (EO K) (!4) T.tuple boot_tuple (m_ (yS [Z8,"row",Y0,"marks","most","rounds",Z5,"finer"] rfl (show List.Nodup (["goal",Z8,"row",Y0,"marks","most","rounds",Z5,"finer"]:List Str) by decide) (xg (pv 1)) (λcl C fp s' H'=>(vY,nT (zU K) (pv 7) (pv 0) (λ_ _=>rfl)))))))))))))) (j3 ((t_ (wt (qJ hr.units0) (pv 5) (pv 4) (vz _)) ((kd (fo))) (t6))) (kd (vI (wb (pv 3) (pv 5)))))))) (kd (n6 (pv 3))))),?_);have O:=l.n60;have bi:=l.n1;refine(_,rfl,mk,_,B.map V.bl,B.map (λb=>(KS.inl b:KS)),false,rfl,bg,bk,by rw[j_,j_],by rw[j_,l.bl];exact le_trans O (!0),?_,λp0 H1 s1 aV=>(o9 (by show 1≤16777216;decide),λp hp=>?_))
 .intro i k x I Z;rw[n']at I Z;cases hb:B[i]? with
  |none=>rw[hb]at I;cases I
  |some b=>rw[hb]at I Z;cases I;cases Z;exact(rfl,rfl)
 rw[mR]at aV;have bf:H p=none:=Ae s1 hp;refine(qf H wy mk p W B J,(_,0,[p0],none,none,rfl,rfl,s1.trans (a'.upd hp),j',rfl,?_,λi U=>absurd U (Nat.not_lt_zero _)),?_)
 .intro i r e;match i,e with
  |0,e=>cases e;exact p_ aV hp
  |n+1,e=>simp at e
 rintro m b1 H'⟨k,d,s4,s5,rfl,rfl,sm,ab,s,G,a1⟩;have I:=iQ l a1;obtain⟨la,a2⟩:∃la,d[k]?<*la:=(d[k]'(by rw[s];exact lt_succ_self k),j1 _);have S:=G k la a2;have a6:=CK s a2;have Q:=xL l k;refine(_,rfl,_,rfl,u_ ab a6 (la,Rd W B k,rfl,S,by rw[Q];exact bi,λM hM _=>(_,rfl,_,_,rfl,rfl,_,rfl,?_)));have b4:=bM l hM;refine aI (λb3=>?_) (λbs=>?_)
 rotate_left
 .exact (_,rfl,q p d k H' sm ab s G (.inr (M,hM,by have:¬ ((M:Int)+1)≤(J:Int):=bs;lia)) I)
 refine(λaM H2=>Rd W B (k+1)≠Rd W B k/\qf H wy mk p W B J (eU W.length (Rd W B (k+1))) aM H2,λaM H2 h=>(_,eT l h.1,h.2),?_);refine(_,rfl,_,rfl,u_ ab a6 ?_);dsimp only[vW];dsimp only[tNext,aF,aD,w',vq,xa,vX];refine gG (c:=wy) (λR h=>(_,rfl,h)) ho (sm _ _ a8) (λD i ys H2=>∃ps:List Addr,ys=ps.map V.ref/\ps.length=i/\∀(j:Nat)(t:Addr),ps[j]?<*t->zR H2 (cy W (Rd W B k) j) t) (by rw[j_,aA];exact o9 (le_trans O (!0))) (λD hD=>([],rfl,rfl,λj t e=>by simp at e)) ?_ ?_
 .intro D i x ys H2 H3 R1 hD Z A aC hp v k1;obtain⟨ps,rfl,E,aB⟩:=hp;rw[n']at Z;obtain⟨rr,aT,rfl⟩:=v8 Z;have U:i<W.length:=by rw[<-aA];exact(l' aT).1
  obtain⟨ws,aS,b2,a0,aU⟩:=as i rr aT;have s3:a' H H3:=(sm.trans A).trans v;have az:=s3 _ _ aU;have ap:H3 la<*.lst (b' (Rd W B k)):=v _ _ (A _ _ S);have ew:W.getD i []=ws:=by rw[m8,aS];rfl
  obtain⟨a9,bd⟩:=l.row ws (uM aS);have bV:=l.lt.hi;refine(_,rfl,_,rfl,u_ ap (xh (by rw[Q];exact U)) ?_);dsimp only[tNext,aF,aD,w',vq,xa,vX];refine x8 (a:=rr) (λR h=>(_,rfl,h)) a0 az (λD2 j ar H4=>ar=(b' (ws.map λg=>(Rd W B k).getD g 0)).take j) (by rw[e_,a9];exact o9 (le_trans bV (!0))) (λD2 aH=>!1) ?_ ?_
  .intro D2 j y ar H4 R3 R4 aH hy hsm4 hD2l ag k3 k4;have hj:j<ws.length:=by have:=(l' hy).1;rwa [e_]at this
   rw[wU hj]at hy;cases hy;refine i_ (_,rfl,_,rfl,u_ (hsm4 _ _ ap) (xh (by rw[Q];exact bd _ (AI hj))) (k3 _ H4 hD2l (a'.set hsm4 aH) ?_));rw[ag];refine(zv ?_).symm;rw[wU (by rw[j_];exact hj),DG hj]
  .intro D2 ar H4 aH hsm4 hD2l ag;rw[e_,take_of_length_le (by rw[e_,j_];exact le_refl _)]at ag;subst ag;refine(D2,_,rfl,.inl (lb.of hD2l,λb hb=>(o9 (by show 2≤16777216;decide),λt ht=>?_)));have s5:=hsm4.trans ((a'.upd (o:=.tup (b' (ws.map λg=>(Rd W B k).getD g 0))) hb).trans (a'.upd (o:=.tup [.int (((Rd W B k).getD i 0:Nat):Int),.ref b]) ht));have an:=s5 _ _ (v _ _ aC);refine k1 (.ref t) _ an (a'.set (A.trans (v.trans s5)) hD) (ps++[t],by rw[map_append];rfl,by rw[uA,E];rfl,λj u e=>?_);by_cases hj:j<ps.length
   .rw [getElem?_append_left hj]at e;exact u4 (λc cs z=>n7 ((v.trans s5) _ _ z) an (!5)) (aB j u e)
   .rw [getElem?_append_right (le_of_not_lt hj)]at e;have bm:j=i:=(qb hj (l' e).1).trans E;subst bm;rw[E,sub_self]at e;have et:t=u:=by simpa using e
    subst et;have ek:(zs (cy W (Rd W B k) j).2).map V.int=b' (ws.map λg=>(Rd W B k).getD g 0):=by
     rw[<-BY];show b' ((W.getD j []).map _)=_;rw[ew]
    refine(b,n7 j' an (!5),?_);rw[ek];exact n7 (p_ j' ht) an (!5)
 intro D ys H2 hD A aC hp;obtain⟨ps,rfl,E,aB⟩:=hp;refine(D,_,ps.map V.ref,(zO W (Rd W B k)).map (λx=>(KS.inr x:KS)),true,rfl,.inl rfl,aC,by rw[j_,j_,xK,E,j_,aA],by rw[j_,xK];exact le_trans O (!0),?_,λfa H4 Y a4=>?_)
 .intro i kk x I Z;rw[n']at I Z;obtain⟨nk,e1,rfl⟩:=v8 I;obtain⟨t,e2,rfl⟩:=v8 Z;have U:i<W.length:=by have:=(l' e1).1;rwa [xK]at this
  rw[Du U]at e1;cases e1;exact((t,rfl,aB i t e2),rfl)
 rw[mQ]at a4;have X:H4 fa<*.lst (b' (Rd W B (k+1))):=a4;have aN:a' H H4:=sm.trans (A.trans Y);have a7:=(A.trans Y) _ _ S;have p4:=(A.trans Y) _ _ ab;have N:=G.same (A.trans Y);refine(_,rfl,_,rfl,fa,la,zs (Rd W B (k+1)),zs (Rd W B k),rfl,rfl,by rw[X,BY],by rw[a7,BY],by rw[db,db,xL l,xL l],_,rfl,aI (λhe=>?_) (λhe=>?_))
 .exact (_,rfl,q p d k H4 aN p4 s N (.inl (df he)) I)
 have a5:Rd W B (k+1)≠Rd W B k:=λz=>he (by rw[z]);have a3:d≠[]:=by
  intro z;rw[z]at s;simp at s
 refine(_,rfl,.inl (rfl,_,lb.of p4),_,rfl,p,_,_,rfl,rfl,p4,?_,a5,k+1,d++[fa],_,_,rfl,rfl,a'.set aN bf,?_,?_,?_,?_)
 .rw [j_,s];exact ur I
 .rw [j',map_append];rfl
 .rw [uA,s];rfl
 .intro i r e;by_cases U:i<d.length
  .rw [getElem?_append_left U]at e;have h1:=N i r e;rw[a_ (jw h1 p4 a3)];exact h1
  .rw [getElem?_append_right (le_of_not_lt U)]at e;have bo:i=k+1:=(qb U (l' e).1).trans s;subst bo;rw[s,sub_self]at e;have et:fa=r:=by simpa using e
   subst et;rw[a_ (jw X p4 a3)];exact X
 .intro i U;by_cases h:i=k
  .subst h;exact a5
  .exact a1 i (sZ U h)
theorem FA:s_ [Z5] [Z5] (h7 D_):=uH
theorem FB(F:tS K "first_rooms" "first_rooms" D_ f B)(T:Txt K mg cA_ cB_ cC_ cD_ cE_ cF_ cG_ cH_ cI_ cJ_ cK_)(v:Df P w K mg base "many_lots" 1 [Z5] sp_manyM):aa P w K mg base nq 2 f B [Z5] sp_firstrooms:=by
 refine F.okA FA ?_;rintro _ _ _ _ _ _ _ _ z⟨a,ns,rfl,r,s,A,d,k,q⟩;refine(_,(kd (n6 (yS [Z5] rfl (!0) (ze rfl T.range (m_ (ri v z (m_ (pv 0))))) (λG C E s' H'=>(vY,kn K (pv 1) (m_ (pv 0))))))),?_);obtain⟨M,l,i⟩:=mW s;have t:=d M l;dsimp only[eX,vW,tNext,aF,aD,w',vq,xa,vX];refine BZ (n:=M+1) (λR h=>(_,rfl,a,ns,rfl,r,s,λu p g=>?_)) (!6) (λD j ys H'=>ys=b' ((List.range j).map λj=>ns.idxOf j)) (λD m=>rfl) ?_ ?_
 .have e:u=M:=le_antisymm (i u p) (g M l);rw[e];exact h
 .intro D j ys H' H R2 m o b c hp k1 k2;refine i_ (_,rfl,.inl (rfl,_,lb.of (b _ _ r)),_,rfl,a,zs ns,(0+(j:Int)),rfl,rfl,by rw[<-BY];exact b _ _ r,?_,?_)
  .rw [Int.zero_add];exact mem_map.mpr (j,k M j l (Nat.le_of_lt_succ o),rfl)
  .rw [Int.zero_add,lK];refine k1 _ H' c (a'.set b m) ?_;rw[hp,range_succ,map_append];exact(CT _ _).symm
 .intro D ys H' m b c hp;subst hp;exact q (M+1) D H' (Nat.succ_pos M,λx y=>Nat.lt_succ_of_le (i x y),λj o=>k M j l (Nat.le_of_lt_succ o)) b m c
theorem a_r:s_ [Q4,Y0,"rounds",Y2,Y3,"needed","here","there","word",Z5,Z1] [Q4,Y0,"rounds",Y2,Y3] (h7 Ea):=uH
theorem FC(F:tS K "parting_word" "parting_word" Ea f fd)(T:Txt K mg cA_ cB_ cC_ cD_ cE_ cF_ cG_ cH_ cI_ cJ_ cK_):aa P w K mg base nq 1 f fd [Q4,Y0,"rounds",Y2,Y3] sp_pword5:=by
 refine F.okA a_r ?_;rintro _ _ _ s H _ _ _ _⟨wy,p,bk,v,L,W,B,k,r,s,rfl,N,aC,b,hp,o,m,bf,as,Q,O,q⟩;refine(_,(j3 ((t_ (yA (u6 (u6 (pv 2) (b7 Bd c_)) (pv 3)) (u6 (u6 (pv 2) (b7 Bd c_)) (pv 4))) ((kd (n6 AR))) (t6))) (j3 ((oI 5 a_r.nd ((be plainAttrs_list PySem.F.slot_list_index PySem.F.type_list_index cj (yS [Q4,Y0,"rounds",Y2,Y3,"needed","here","there","word","?",Z1] rfl (!0) (xg (pv 2)) (λcl C fp s' H'=>(vY,xR zg (nT (zU K) (pv 0) (pv 4) (λ_ _=>rfl)) (nT (zU K) (pv 0) (pv 5) (λ_ _=>rfl)) (vz _)))) (m_ vD))))) (j3 ((oI 6 a_r.nd (pv 3))) (j3 ((oI 7 a_r.nd (pv 4))) (j3 ((oI 8 a_r.nd (wH))) (j3 ((wI PassesOwn.never rfl (qz rfl T.reversed (m_ (Cq ji (pv 2) Co (Cp (pv 5))))) (v5 9 a_r.nd) ((j3 ((oI 10 a_r.nd ((be plainAttrs_list PySem.F.slot_list_index PySem.F.type_list_index cj (fD [Q4,Y0,"rounds",Y2,Y3,"needed","here","there","word",Z5,Z1] rfl (!0) (jn rfl T.zip (pu (u6 (pv 1) (pv 6)) (u6 (pv 1) (pv 7)))) (λcl C fp s' H'=>xR zg (nT (zU K) (pv 11) (pv 0) (λ_ _=>rfl)) (nT (zU K) (pv 11) (pv 1) (λ_ _=>rfl)) (vz _))) (m_ vD))))) (j3 ((oI 8 a_r.nd (uQ Bh (pv 8) (nT iH (pv 0) (pv 10) (λ_ _=>rfl))))) (j3 ((oI 6 a_r.nd (u6 (u6 (pv 1) (pv 6)) (pv 10)))) (kd ((oI 7 a_r.nd (u6 (u6 (pv 1) (pv 7)) (pv 10))))))))))) (kd (n6 (pv 8))))))))),?_);have hz:(tx L).length≤sizeLine:=o9 (by rw[vn];exact le_trans b.lt.hi (!0));obtain⟨la,a0⟩:∃la,v[k]?<*la:=(v[k]'(by rw[o];exact lt_succ_self k),j1 _);have ap:=m k la a0;have a5:=CK o a0;have ab:=xL b k;refine(_,rfl,_,rfl,u_ hp a5 (_,rfl,u_ ap (xh (by rw[ab];exact Q)) ?_));refine(_,rfl,_,rfl,u_ hp a5 (_,rfl,u_ ap (xh (by rw[ab];exact O)) (rfl,_,rfl,?_)));rw[CJ];refine aI (λhe=>?_) (λhe=>?_)
 .exact (bf he).elim
 obtain⟨aU,X,a2,y⟩:=gm (f:=λj=>decide (l_ W B j r=l_ W B j s)) (n:=k+1) (j:=k) (lt_succ_self k) (decide_eq_false he);dsimp only[tNext,aF,aD,w',vq,xa,vX];refine x8 (a:=p) (λR h=>(_,rfl,h)) (.inl rfl) hp (λD j ys H'=>ys=(((List.range (k+1)).map λj=>decide (l_ W B j r=l_ W B j s)).map V.bl).take j) (by rw[j_,o];exact o9 (le_trans (Nat.succ_le_succ as) (!0))) (λD hD=>!1) ?_ ?_
 .intro D j x ys H' R1 R2 hD G A l U k1 k2;rw[n']at G;obtain⟨a7,ar,rfl⟩:=v8 G;have E:j<k+1:=by rw[<-o];exact(l' ar).1
  have h1:=A _ _ (m j a7 ar);refine i_ (_,rfl,_,rfl,u_ h1 (xh (by rw[xL b];exact Q)) (_,rfl,_,rfl,u_ h1 (xh (by rw[xL b];exact O)) (rfl,?_)));rw[CJ];refine k1 _ H' l (a'.set A hD) ?_;rw[U];refine(zv ?_).symm;rw[n',n',getElem?_range E];rfl
 intro D ys H1 hD A l U;rw[j_,o,take_of_length_le (!1)]at U;subst U;refine(.inl (rfl,_,lb.of l),D,_,rfl,rfl,l,aU,?_);generalize ((List.range (k+1)).map λj=>decide (l_ W B j r=l_ W B j s)).idxOf false=t at X a2 y⊢;have aT:l_ W B t r≠l_ W B t s:=of_decide_eq_false a2;have a3:∀j<t,l_ W B j r=l_ W B j s:=λj E=>of_decide_eq_true (y j E);refine(_,rfl,_,rfl,?_);refine(_,rfl,_,rfl,_,rfl,p,_,rfl,lb.of (A _ _ hp),λpl aS=>?_);rw[cP (by rw[j_,o];exact le_of_lt X)];have M:((v.map V.ref).take t).length=t:=by rw[length_take,j_,o];exact Nat.min_eq_left (le_of_lt X)
 refine(pl,_,rfl,j',gg mH (λi I H'=>∃(h1 h2:Nat)(w:LN)(s9 J:Option V),I=[some (.str (tx L)),some (.ref wy),some (.ref p),some (.int (r:Int)),some (.int (s:Int)),some (.int (t:Int)),some (.int (h1:Int)),some (.int (h2:Int)),some (.str (tx w)),s9,J]/\a' (L2.upd H1 pl (.lst ((v.map V.ref).take t))) H'/\h1<W.length/\h2<W.length/\w.length=i/\i≤t/\l_ W B (t-i) h1≠l_ W B (t-i) h2/\(∀j<t-i,l_ W B j h1=l_ W B j h2)/\w++pw L W B (t-i) h1 h2=pw L W B t r s) (r,s,[],none,none,by rw[<-Dq];rfl,a'.refl _,Q,O,rfl,zero_le _,aT,a3,rfl) ?_ ?_ ?_)
 .rintro i I H'⟨h1,h2,w,s9,J,rfl,sm2,_⟩;exact sm2 _ _ j'
 .rintro i x I H2 G⟨h1,h2,w,s9,J,rfl,sm2,hh1,hh2,az,bg,hne2,heq2,hw⟩;have hi:i<t:=by have:=(l' G).1;rwa [length_reverse,M]at this
  rw[List.getElem?_reverse (by rw[M];exact hi),M,List.getElem?_take,if_pos (pJ hi),n']at G;obtain⟨a6,an,rfl⟩:=v8 G;obtain⟨u,hu,bd,a9⟩:=rp hi;rw[bd]at an;rw[hu]at hne2 heq2 hw;have s0:a' H H2:=A.trans ((a'.upd aS).trans sm2);have aV:=s0 _ _ (m u a6 an);obtain⟨ra,aM,Z⟩:=(aC.sameL s0).row hh1;obtain⟨rb,aH,Y⟩:=(aC.sameL s0).row hh2;obtain⟨g,aN,bm⟩:=fq b hh1 hh2 hne2 (heq2 u (lt_succ_self u));have l1:=(xv b hh1).1;have l2:=(xv b hh2).1;have bi:=b.lt.hi;dsimp only[vW];dsimp only[tNext,aF,aD,w',vq,xa,vX];refine gF (c:=ra) (d:=rb) (λR h=>(_,rfl,_,rfl,u_ (s0 _ _ N) (vZ V.ref aM) (_,rfl,_,rfl,u_ (s0 _ _ N) (vZ V.ref aH) h))) Z Y (by rw[e_,e_,l1,l2]) (λD j ys H3=>ys=((zQ W B u h1 h2).map V.bl).take j) (by rw[e_,l1];exact o9 (le_trans bi (!0))) (λD hD=>!1) ?_ ?_
  .intro D j x z ys H3 H4 R1 hD G aB e l S hsm4 k1;have E:j<L.length:=by have:=(l' G).1;rwa [e_,l1]at this
   rw[wU (by rw[l1];exact E)]at G;rw[wU (by rw[l2];exact E)]at aB;cases G;cases aB;have ag:=hsm4 _ _ (e _ _ aV);refine(_,rfl,_,rfl,u_ ag (xh (by rw[xL b];exact wu b hh1 E)) (_,rfl,_,rfl,u_ ag (xh (by rw[xL b];exact wu b hh2 E)) (rfl,?_)));rw[CJ];refine k1 _ H4 (hsm4 _ _ l) (a'.set (e.trans hsm4) hD) ?_;rw[S];refine(zv ?_).symm;rw[n',CD b hh1 hh2 E];rfl
  intro D ys H3 hD e l S;rw[e_,l1,take_of_length_le (by rw[j_,Dy b hh1 hh2];exact le_refl _)]at S;subst S;have aA:false∈zQ W B u h1 h2:=List.idxOf_lt_length_iff.mp (by rw[Dy b hh1 hh2];exact g);refine(.inl (rfl,_,lb.of l),D,_,rfl,rfl,l,aA,?_);have s3:=s0.trans e;have a1:L[place W B u h1 h2]?<*L.getD (place W B u h1 h2) 0:=by rw[m8,j1 g];rfl
  have a4:vt (tx L).cps.toList ((place W B u h1 h2:Nat):Int)<*L.getD (place W B u h1 h2) 0:=by
   rw[zk];exact vJ a1
  have e1:=xh (ns:=W.getD h1 []) (r:=place W B u h1 h2) (by rw[l1];exact g);have e2:=xh (ns:=W.getD h2 []) (r:=place W B u h1 h2) (by rw[l2];exact g);refine(_,rfl,_,rfl,_,rfl,_,_,_,rfl,rfl,hz,a4,_,_,rfl,rfl,?_,?_)
  .rw [vn];show w.length+1≤sizeLine;exact o9 (sY az hi X as)
  refine(_,rfl,_,rfl,u_ (s3 _ _ N) (vZ V.ref aM) (_,rfl,u_ (e _ _ Z) e1 ?_));refine(_,rfl,_,rfl,u_ (s3 _ _ N) (vZ V.ref aH) (_,rfl,u_ (e _ _ Y) e2 ?_));rw[a9];refine(goal W h1 (place W B u h1 h2),goal W h2 (place W B u h1 h2),w++[L.getD (place W B u h1 h2) 0],_,_,by rw[<-Bj];rfl,sm2.trans e,wu b hh1 g,wu b hh2 g,by rw[uA,az];rfl,hi,aN,λj E=>((zP b hh1 hh2).mp (heq2 (j+1) (Nat.succ_lt_succ E))).2 _ g,?_);rw[append_assoc];exact hw
 .rintro I H2⟨h1,h2,w,s9,J,rfl,sm2,hh1,hh2,az,bg,hne2,heq2,hw⟩;rw[length_reverse,M,sub_self]at hw;have a8:w=pw L W B t r s:=by rw[<-hw];simp[pw]
  exact(_,rfl,(λsp=>q w H2 (A.trans ((a'.upd aS).trans sm2)) sp.1 (le_trans sp.2.1 b.n60) sp.2.2.1) ((eF.spec (.inr (t,by rw[a8],aT,a3):eF L W B r s (some w)) b Q O).2 w rfl))
theorem e_d:s_ [Z0,Z5,Q5,Y0,"marks"] [Z0,Z5] (h7 Eb):=uH
theorem yB(F:tS K "folded" "folded" Eb f fd)(T:Txt K mg cA_ cB_ cC_ cD_ cE_ cF_ cG_ cH_ cI_ cJ_ cK_)(Y:Ce K cW)(yk:Df P w K mg base "first_rooms" 2 [Z5] sp_firstrooms):aa P w K mg base nq 3 f fd [Z0,Z5] (EC cW):=by
 refine F.okA e_d ?_;rintro _ _ _ _ _ _ _ _ hr⟨wk,t,wd,y,md,lo,G,L,R,Bm,k,rfl,hW,hy,ab,aM,c,as,q⟩;refine(_,(j3 ((oI 2 e_d.nd ((ri yk hr (m_ (pv 1)))))) (j3 (BB [Z0,Z5,Q5,Y0,"marks"] (j:=3) rfl e_d.nd (!0) rfl (Or.inl rfl) (xg (pv 2)) (λcl C fp s' H'=>(vY,xS (EO K) (!4) T.tuple boot_tuple (m_ (yS [Z8,Z0,Z5,Q5,Y0,"marks"] rfl (show List.Nodup (["goal",Z8,Z0,Z5,Q5,Y0,"marks"]:List Str) by decide) (xg (nT (zU K) (dF (f:=Y0) K (pv 1) rfl) (pv 0) (λ_ _=>rfl))) (λcl C fp s' H'=>(vY,nT (zU K) (pv 3) (pv 0) (λ_ _=>rfl)))))))) (j3 (BB [Z0,Z5,Q5,Y0,"marks"] (j:=4) rfl e_d.nd (!0) rfl (Or.inl rfl) (xg (pv 2)) (λcl C fp s' H'=>(vY,nT (zU K) (dF (f:="marks") K (pv 1) rfl) (pv 0) (λ_ _=>rfl)))) (kd (n6 (yC (vg (v9 (f:=Q4) (pv 0) rfl) (xS Aa (!4) T.tuple boot_tuple (m_ (pv 3))) (xS Aa (!4) T.tuple boot_tuple (m_ (pv 4)))))))))),?_);obtain⟨dx,ew⟩:=hW.ex;have I:=c.n60;have Q:=xL c k;refine(_,rfl,lo,Rd R Bm k,rfl,as,by rw[Q];exact c.n1,by rw[Q];exact I,λx Z=>lt_of_lt_of_le (bM c Z) I,λM j hM s=>jR hM s,λm p H1 W s1 aN hp=>?_);have J:m≤2100:=by
  have:=bM c (W.has (m-1) (by have:=W.pos;lia));have:=W.pos;lia
 have B:(b' ((List.range m).map λj=>(Rd R Bm k).idxOf j)).length=m:=by rw[e_,j_,length_range]
 have room:∀{j:Nat}{x:V},(b' ((List.range m).map λj=>(Rd R Bm k).idxOf j))[j]?<*x->j<m/\x=.int (((Rd R Bm k).idxOf j:Nat):Int):=λ{j x}e=>by
  have s:j<m:=by have:=(l' e).1;rwa [B]at this
  rw[wU (by rw[j_,length_range];exact s)]at e;cases e;refine(s,?_);rw[m8,n',getElem?_range s];rfl
 dsimp only[vW];dsimp only[tNext,aF,aD,w',vq,xa,vX];refine x8 (a:=p) (λR h=>(_,rfl,h)) (.inl rfl) hp (λD j ys H'=>∃ps:List Addr,ys=ps.map V.ref/\ps.length=j/\∀(i:Nat)(t:Addr),ps[i]?<*t->i<m/\H' t<*.tup (b' ((uU R (Rd R Bm k) m).getD i []))) (by rw[B];exact o9 (le_trans J (!0))) (λD hD=>([],rfl,rfl,λi t e=>by simp at e)) ?_ ?_
 .intro D j x ys H' R1 R2 hD Z A E d k1 k2;obtain⟨ps,rfl,l,O⟩:=d;obtain⟨s,rfl⟩:=room Z;obtain⟨X,f2⟩:=wx W c s;have s2:=s1.trans A;obtain⟨ra,ar⟩:∃ra,G[(Rd R Bm k).idxOf j]?<*ra:=(G[(Rd R Bm k).idxOf j]'(by rw[ab.1];exact X),j1 _);have ap:=s2 _ _ (ab.2 _ ra _ ar (j1 X));obtain⟨aC,aH⟩:=c.row _ (getElem_mem X);refine i_ ?_;dsimp only[tNext,aF,aD,w',vq,xa,vX];refine x8 (a:=ra) (λR h=>(_,rfl,wk,cW,dx,_,_,rfl,s2 _ _ ew,Y.cls,Y.na4,rfl,_,rfl,u_ (s2 _ _ hy) (vZ V.ref ar) h)) (.inl rfl) ap (λD2 i N H4=>N=(b' (R[(Rd R Bm k).idxOf j].map λg=>(Rd R Bm k).getD g 0)).take i) (by rw[e_,aC];exact o9 (le_trans c.lt.hi (!0))) (λD2 S=>!1) ?_ ?_
  .intro D2 i y2 N H4 R3 R4 S hy2 hsm4 hD2l n k3 k4;have hi:i<R[(Rd R Bm k).idxOf j].length:=by have:=(l' hy2).1;rwa [e_]at this
   rw[wU hi]at hy2;cases hy2;refine i_ (_,rfl,_,rfl,u_ (hsm4 _ _ (s2 _ _ as)) (xh (by rw[Q];exact aH _ (AI hi))) (k3 _ H4 hD2l (a'.set hsm4 S) ?_));rw[n];refine(zv ?_).symm;rw[wU (by rw[j_];exact hi),DG hi]
  .intro D2 N H4 S hsm4 hD2l n;rw[e_,take_of_length_le (by rw[e_,j_];exact le_refl _)]at n;subst n;refine(D2,_,rfl,.inl (lb.of hD2l,λb hb=>?_));have s5:=hsm4.trans (a'.upd (o:=.tup (b' (R[(Rd R Bm k).idxOf j].map λg=>(Rd R Bm k).getD g 0))) hb);refine k1 (.ref b) _ (s5 _ _ E) (a'.set (A.trans s5) hD) (ps++[b],by rw[map_append];rfl,by rw[uA,l];rfl,λi u e=>?_);have aB:=s5 _ _ E;rcases Am e with z|⟨rfl,rfl⟩
   .obtain ⟨a1,a2⟩:=O i u z;exact(a1,n7 (s5 _ _ a2) aB (!5))
   .rw [l];refine(s,n7 ?_ aB (!5));rw[j',cG s,m8,j1 X];rfl
 intro Dw ys H2 aS H az d;obtain⟨ps,rfl,l,O⟩:=d;rw[B]at l;have n:=H _ _ hp;have s2:=s1.trans H;dsimp only[vW];dsimp only[tNext,aF,aD,w',vq,xa,vX];refine x8 (a:=p) (λR h=>(_,rfl,h)) (.inl rfl) n (λD j ys H'=>ys=((xk Bm (Rd R Bm k) m).map V.bl).take j) (by rw[B];exact o9 (le_trans J (!0))) (λD hD=>!1) ?_ ?_
 .intro D j x ys H' R1 R2 hD Z A E d k1 k2;obtain⟨s,rfl⟩:=room Z;obtain⟨X,f2⟩:=wx W c s;have U:=s2.trans A;refine i_ (_,rfl,wk,cW,dx,_,_,rfl,U _ _ ew,Y.cls,Y.na5,rfl,_,rfl,u_ (U _ _ aM) (x9 (by rw[c.bl];exact X)) (k1 _ H' E (a'.set A hD) ?_));rw[d];refine(zv ?_).symm;rw[n',xk,n',getElem?_range s];rfl
 intro Dm ys H3 aT v aA d;rw[B,take_of_length_le (by rw[j_,xk,j_,length_range];exact le_refl _)]at d;subst d;have U:=s2.trans v;refine(_,rfl,wk,cW,dx,_,_,rfl,U _ _ ew,Y.cls,Y.na1,rfl,?_);refine(_,rfl,Dw,_,rfl,.inl (lb.of (v _ _ az),λtw ag=>?_));refine(_,rfl,Dm,_,rfl,.inl (lb.of (p_ aA ag),λtm an=>(o9 (by show 3≤16777216;decide),λf hf=>?_)));have u1:a' H3 (L2.upd H3 tw (.tup (ps.map V.ref))):=a'.upd ag;have u2:=u1.trans (a'.upd (o:=.tup ((xk Bm (Rd R Bm k) m).map V.bl)) an);have u3:=u2.trans (a'.upd (o:=.tup [.str (tx L),.ref tw,.ref tm]) hf);refine q m f _ W (U.trans u3) (Ae (U.trans u2) hf) (tw,tm,ps,j',p_ (p_ j' an) hf,p_ j' hf,by rw[l,uU,j_,length_range],λi r e=>?_);obtain⟨a1,a2⟩:=O i r e;refine((uU R (Rd R Bm k) m).getD i [],?_,(v.trans u3) _ _ a2);rw[m8,uU,n',getElem?_range a1];rfl
theorem c_b:s_ [Z0,"rounds",Q5,"tails","i",Y2,"j"] [Z0,"rounds",Q5] (h7 Ec):=uH
theorem w6(F:tS K "tails_of" "tails_of" Ec f fd)(T:Txt K mg cA_ cB_ cC_ cD_ cE_ cF_ cG_ cH_ cI_ cJ_ cK_)(WK:Ce K cW)(yY:Df P w K mg base "parting_word" 1 [Q4,Y0,"rounds",Y2,Y3] sp_pword5):aa P w K mg base nq 2 f fd [Z0,"rounds",Q5] (bT cW):=by
 refine F.okA c_b ?_;rintro _ _ _ _ H _ _ _ hr⟨Y,t,wd,y,md,p,rm,N,O,L,R,Bm,k,rs,rfl,hW,hy,ag,az,hp,ar,I,hk,m,an,U,ap,q⟩;refine(_,(j3 ((oI 3 c_b.nd (wc zN))) (j3 ((wI PassesOwn.never rfl (CV rfl T.enumerate (m_ (pv 2))) (wo rfl (Az (v5 4 c_b.nd) (Az (v5 5 c_b.nd) Ck))) (kd ((wI PassesOwn.never rfl (bZ rfl T.range (pu (uQ vO (pv 4) c_) (wa T.len (pv 2)))) (v5 6 c_b.nd) ((kd (vI (wb (pv 3) (yC (vg (pv 4) (pv 6) (ri yY hr (v_ ((v9 (f:=Q4) (pv 0) rfl)) (v_ ((v9 (f:=Y0) (pv 0) rfl)) (vg (pv 1) (pv 5) (u6 (pv 2) (pv 6))))))))))))))))) (kd (n6 (pv 3))))),?_);obtain⟨dx,ew⟩:=hW.ex;have h:(b' rs).length=rs.length:=e_ _;refine(zero_le _,λv S=>?_);have s0:=a'.upd (o:=.lst []) S;refine(_,rfl,rm,_,rfl,.inr (s0 _ _ m,?_));have aA:10000≤sizeLine:=o9 (!0);refine lh (xs:=b' rs) (λi d H'=>∃(A:List Addr)(s4 Z C:Option V),d=[some (.ref Y),some (.ref p),some (.ref rm),some (.ref v),s4,Z,C]/\a' H H'/\H' v=some (.lst (A.map V.ref))/\A.length=off i/\xP H' L (λa b u=>Bm.getD (run L R (rs.getD a 0) u) false≠Bm.getD (run L R (rs.getD b 0) u) false) A i 0) ([],none,none,none,rfl,s0,j',rfl,λa b ab hb hc=>!6) ?_ ?_ ?_
 .rintro i d H'⟨xs,s4,Z,C,rfl,J,_⟩;exact J _ _ m
 .rintro i x pp d H1 hx G⟨xs,s4,Z,C,rfl,J,htl1,l,htk⟩;have hi:i<rs.length:=by have:=(l' hx).1;rwa [h]at this
  rw[wU hi]at hx;cases hx;have B:=J.trans (a'.upd (o:=.tup [.int (i:Int),.int ((rs.getD i 0:Nat):Int)]) G);have r:=p_ (u:=.tup [.int (i:Int),.int ((rs.getD i 0:Nat):Int)]) htl1 G;refine(pp,_,rfl,pa.of j',rfl,_,_,rfl,_,_,rfl,rfl,?_);have s:=htk.mono (λ_ _=>a'.upd (o:=.tup [.int (i:Int),.int ((rs.getD i 0:Nat):Int)]) G _ _) λ_ _ _ _ _ _ z=>z;generalize L2.upd H1 pp (.tup [.int (i:Int),.int ((rs.getD i 0:Nat):Int)])=H2 at B r s;refine(_,rfl,_,_,rfl,rfl,_,rfl,rm,_,rfl,.inl (lb.of (B _ _ m)),_,_,rfl,(!6,!6,by rw[h];lia,by rw[h];lia),?_);rw[h];refine z7 (n:=(((rs.length:Nat):Int)-((i:Int)+1)).toNat) (λj d H'=>∃(A:List Addr)(C:Option V),d=[some (.ref Y),some (.ref p),some (.ref rm),some (.ref v),some (.int (i:Int)),some (.int ((rs.getD i 0:Nat):Int)),C]/\a' H H'/\H' v=some (.lst (A.map V.ref))/\A.length=off i+j/\xP H' L (λa b u=>Bm.getD (run L R (rs.getD a 0) u) false≠Bm.getD (run L R (rs.getD b 0) u) false) A i j) (xs,C,rfl,B,r,l,s) ?_ ?_
  .rintro j d H3 hj⟨xs2,s6',rfl,c,htl3,hxl3,htk3⟩;have W:i+1+j<rs.length:=by lia
   have e1:rs[i]?<*rs.getD i 0:=by rw[m8,j1 hi];rfl
   have e2:rs[i+1+j]?<*rs.getD (i+1+j) 0:=by rw[m8,j1 W];rfl
   have as:vt (b' rs) ((i:Int)+1+(j:Int))<*.int ((rs.getD (i+1+j) 0:Nat):Int):=by
    rw[show(i:Int)+1+(j:Int)=((i+1+j:Nat):Int) by lia];exact xh W
   have X:=c _ _ ew;refine(_,rfl,.inl (rfl,_,lb.of htl3),_,rfl,_,rfl,_,rfl,Y,cW,dx,_,_,rfl,X,WK.cls,WK.na1,rfl,_,rfl,Y,cW,dx,_,_,rfl,X,WK.cls,WK.na4,rfl,_,rfl,_,rfl,_,rfl,_,rfl,u_ (c _ _ m) as ?_);refine(y,p,N,O,L,R,Bm,k,rs.getD i 0,rs.getD (i+1+j) 0,rfl,c _ _ hy,ag.sameL c,az,c _ _ hp,ar,I.same c,ap i (i+1+j) _ _ (!6) e1 e2,hk,U _ (uM e1),U _ (uM e2),λw H4 D w1 w2 w3=>(o9 (by show 3≤16777216;decide),λtt E=>?_));have g:=p_ (u:=.tup [.int (i:Int),.int ((i:Int)+1+(j:Int)),.str (tx w)]) (D _ _ htl3) E;refine(v,_,_,rfl,rfl,g,by rw[j_,hxl3];exact A1 (by have:=mP i;lia),?_);have h0:H v=none:=S;have Q:=(htk3.mono (λ_ _=>(D.trans (a'.upd (o:=.tup [.int (i:Int),.int ((i:Int)+1+(j:Int)),.str (tx w)]) E)) _ _) λ_ _ _ _ _ _ z=>z).snoc hxl3 j' w1 w2 w3;have M:a' H4 (L2.upd H4 tt (.tup [.int (i:Int),.int ((i:Int)+1+(j:Int)),.str (tx w)])):=a'.upd E;generalize L2.upd H4 tt (.tup [.int (i:Int),.int ((i:Int)+1+(j:Int)),.str (tx w)])=H5 at g Q M;refine(xs2++[tt],_,rfl,a'.set ((c.trans D).trans M) h0,by rw[map_append];exact j',by rw[uA,hxl3];rfl,?_);exact Q.mono (λb o e=>by rw[a_ (λz=>by rw[z,g]at e;cases e)];exact e) λ_ _ _ _ _ _ z=>z
  .rintro d H3⟨xs2,s6',rfl,c,htl3,hxl3,htk3⟩;rw[show(((rs.length:Nat):Int)-((i:Int)+1)).toNat=8-i by lia]at hxl3 htk3;exact(xs2,_,_,_,rfl,c,htl3,hxl3,htk3.next)
 .rintro d H1⟨xs,s4,Z,C,rfl,J,htl1,l,htk⟩;rw[h,an]at l htk;exact(_,rfl,q v xs H1 J htl1 l htk)
theorem h_a:s_ [Z0,"rounds",Z5,Q5] [Z0] (h7 ig):=uH
theorem o7(F:tS K "told" "told" ig f fd)(T:Txt K mg cA_ cB_ cC_ cD_ cE_ cF_ cG_ cH_ cI_ cJ_ cK_)(WK:Ce K cW)(WN:vj K cW Q7)(TM:Cc K mg cH_ cRE fX fdX)(yq:Df P w K mg base "rounds_of" 2 [Y0,"marks","most"] sp_roundsG)(y6:Df P w K mg base "many_lots" 1 [Z5] sp_manyM)(yy:Df P w K mg base "folded" 3 [Z0,Z5] (EC cW))(yk:Df P w K mg base "first_rooms" 2 [Z5] sp_firstrooms)(yJ:Df P w K mg base "tails_of" 2 [Z0,"rounds",Q5] (bT cW)):aa P w K mg base (ve P w) 4 f fd [Z0] (A9 cW cH_):=by
 refine F.okX h_a (λvs H Q E h=>?_) (λcdv A a0 s H vs Q E hr h=>?_)
 .obtain ⟨wk,t,wd,y,md,G,L,R,Bm,ws,rfl,_⟩:=h;rfl
 .obtain ⟨wk,t,wd,y,md,G,L,R,Bm,ws,rfl,hW,hy,Y,aM,a3,aB,g,reach,qE,q⟩:=h;obtain⟨tm,B⟩:=T.most;have a9:=hr.mono (j:=1) (!0);have az:=hr.mono (j:=2) (!0);have a8:=hr.mono (j:=3) (!0);refine(_,(j3 ((oI 1 h_a.nd ((ri yq az (vg ((v9 (f:=Y0) (pv 0) rfl)) ((v9 (f:="marks") (pv 0) rfl)) ((xQ (v:=.int 8) (!4) B (_,rfl)))))))) (j3 ((oI 2 h_a.nd (u6 (pv 1) (b7 Bd c_)))) (j3 ((t_ (wt js (ri y6 a9 (m_ (pv 2))) (xQ (v:=.int 8) (!4) B (_,rfl)) (vz _)) ((kd (n6 (ri yy a8 (pu (pv 0) (pv 2)))))) (t6))) (j3 ((oI 3 h_a.nd (Cq ji (ri yk az (m_ (pv 2))) Co (Cp (uQ vO (xQ (v:=.int 8) (!4) B (_,rfl)) c_))))) (kd ((kj rfl rfl eW TM.own TM.fn (ky TM T.list) (hr.mono (j:=2) (!0)) (TM.ini.binds (ps:=["self",Q7,"tails","part"]) (λ_ _ _ _ _ _ us hl=>by obtain⟨_,_,_,_,rfl⟩:=uf hl;rfl)) jq TM.kT (vg (yS [Z0,"rounds",Z5,Q5] rfl (!0) (xg (pv 3)) (λcl C fp s' H'=>(vY,nT (zU K) (dF (f:=Q7) K (pv 1) rfl) (pv 0) (λ_ _=>rfl)))) (ri yJ az (vg (pv 0) (pv 1) (pv 3))) AR)))))))),?_);obtain⟨dx,ew⟩:=hW.ex;have an:=g.n60;have aC:=g.n1;refine(_,rfl,wk,cW,dx,_,_,rfl,ew,WK.cls,WK.na4,rfl,_,rfl,wk,cW,dx,_,_,rfl,ew,WK.cls,WK.na5,rfl,?_);refine(y,md,G,_,_,L,R,Bm,8,rfl,.inl rfl,hy,.inl rfl,aM,Y.1,Y.toQ,g,λp N k H1 s1 hp aA S st hk=>?_);obtain⟨la,aT⟩:∃la,N[k]?<*la:=(N[k]'(by rw[aA];exact lt_succ_self k),j1 _);have W:=S k la aT;have bk:=CK aA aT;have U:=xL g k;refine(_,rfl,_,rfl,u_ hp bk ?_);refine(_,rfl,la,Rd R Bm k,rfl,W,by rw[U];exact aC,λM hM aH=>(_,_,rfl,rfl,_,rfl,aI (λaS=>?_) (λaU=>?_)))
  .have aS:(M:Int)+1≤8:=aS;have a6:Rd R Bm (k+1)=Rd R Bm k:=by
    rcases st with z|⟨M2,bm,z⟩
    .exact z
    .have:=aH M2 bm;lia
   refine(_,rfl,_,rfl,wk,t,wd,y,md,la,G,L,R,Bm,k,rfl,(dx,s1 _ _ ew),s1 _ _ hy,Y.sameL s1,s1 _ _ aM,g,W,λm f H2 hm s2 hf bl=>?_);have bd:m≤8:=by
    have h1:=hm.has (m-1) (by have:=hm.pos;lia);have h2:=aH _ h1;lia
   exact q m k f H2 hm a6 bd (s1.trans s2) (Ae s1 hf) bl
  .refine (_,rfl,la,Rd R Bm k,rfl,W,by rw[U];exact aC,by rw[U];exact an,λx hx=>lt_of_lt_of_le (bM g hx) an,λM j hM hj=>jR hM hj,λm rl H2 hm s2 bs a7=>?_);refine(_,_,rfl,rfl,_,rfl,rl,_,rfl,lb.of a7,λrm ar=>?_);have aV:=s1.trans s2;have aN:9≤m:=by
    have:=hm.lt M hM;have aU:¬ (M:Int)+1≤8:=aU;lia
   have e9:xn (b' ((List.range m).map λj=>(Rd R Bm k).idxOf j)) none (some (8+1))=b' (((List.range m).map λj=>(Rd R Bm k).idxOf j).take 9):=by
    have e:=cP (xs:=b' ((List.range m).map λj=>(Rd R Bm k).idxOf j)) (t:=9) (by rw[e_,j_,length_range];exact aN);refine e.trans ?_;unfold b';rw[List.map_take]
   rw[e9];have Z:∀(i a:Nat),(((List.range m).map λj=>(Rd R Bm k).idxOf j).take 9)[i]?<*a->i<m/\a=(Rd R Bm k).idxOf i:=λi a e=>by
    rw[List.getElem?_take]at e;split at e
    .have hi:i<m:=by have:=(l' e).1;rwa [j_,length_range]at this
     rw[n',getElem?_range hi]at e;cases e;exact(hi,rfl)
    .cases e
   have I:(((List.range m).map λj=>(Rd R Bm k).idxOf j).take 9).length=9:=by rw[length_take,j_,length_range];exact Nat.min_eq_left aN
   generalize ((List.range m).map λj=>(Rd R Bm k).idxOf j).take 9=rs at Z I;have as:∀r∈rs,r<R.length:=λr hr=>by
    obtain⟨i,hi⟩:=mem_iff_getElem?.mp hr;obtain⟨a1,rfl⟩:=Z i r hi;exact(wx hm g a1).1
   have s3:=aV.trans (a'.upd (o:=.lst (b' rs)) ar);have O:L2.upd H2 rm (.lst (b' rs)) rm<*.lst (b' rs):=j';have p3:=(s2.trans (a'.upd (o:=.lst (b' rs)) ar)) _ _ hp;have J:=S.same (s2.trans (a'.upd (o:=.lst (b' rs)) ar));generalize L2.upd H2 rm (.lst (b' rs))=H3 at s3 O p3 J;dsimp only[vW,tNext,aF,jg,vq];refine x8 (a:=rm) (λR h=>(_,rfl,h)) (.inl rfl) O (λ_ j ys _=>ys=na ((rs.take j).map λr=>ws.getD r [])) (by rw[e_,I];exact o9 (!0)) (λD hD=>rfl) ?_ ?_
   .intro D j x ys H' R1 R2 hD hx n ag hys k1 k2;have hj:j<rs.length:=by have:=(l' hx).1;rwa [e_]at this
    rw[wU hj]at hx;cases hx;have X:rs.getD j 0<ws.length:=by rw[aB];exact as _ (AI hj)
    have s4:=s3.trans n;refine i_ (_,rfl,wk,cW,dx,_,_,rfl,s4 _ _ ew,WK.cls,WN,rfl,_,rfl,u_ (s4 _ _ a3) (vZ (λv=>V.str (tx v)) (j1 X)) (k1 _ H' ag (a'.set n hD) ?_));rw[hys,zv (show rs[j]?<*rs.getD j 0 by rw[m8,j1 hj];rfl),map_append];unfold na;rw[map_append];show _=_++[V.str (tx (ws.getD (rs.getD j 0) []))];rw[m8 (l:=ws),j1 X];rfl
   .intro D ys H4 hD n ag hys;have s4:=s3.trans n;rw[hys,e_,take_length]at ag;refine(_,rfl,_,rfl,_,rfl,wk,t,wd,y,md,p,rm,G,N,L,R,Bm,k,rs,rfl,(dx,s4 _ _ ew),s4 _ _ hy,Y.sameL s4,g,n _ _ p3,aA,J.same n,hk,n _ _ O,I,as,λi j a b bV e1 e2=>?_,λtl ta H5 s5 a4 bo a5=>(o9 (by show 3≤16777216;decide),λe he=>(e,D,tl,.non,_,_,rfl,j',p_ (s5 _ _ ag) he,p_ a4 he,λH6 d l l2 k6 hd de le a2 bi bg bf=>(rfl,some d,hd,?_))))
    .obtain ⟨a1,rfl⟩:=Z i a e1;obtain⟨b1,rfl⟩:=Z j b e2;rw[(wx hm g a1).2,(wx hm g b1).2];lia
    .have s6:a' H5 (yo H6 e):=λb o z=>by
      have n1:b≠e:=f_ z he;rw[AM n1];exact k6 b o n1 (p_ z he)
     have ap:∀a,a<9->∃v,(rs.map λr=>ws.getD r []).getD a []=v/\(∀c∈v,c∈L)/\run L R 0 v=rs.getD a 0/\v.length≤2100:=λa ha=>by
      have hj:a<rs.length:=by rw[I];exact ha
      have X:rs.getD a 0<ws.length:=by rw[aB];exact as _ (AI hj)
      refine(_,rfl,?_);have e1:(rs.map λr=>ws.getD r []).getD a []=ws[rs.getD a 0]:=by
       rw[m8,n',j1 hj];show ws.getD rs[a] []=_;rw[show rs[a]=rs.getD a 0 by rw[m8,j1 hj];rfl,m8,j1 X];rfl
      rw[e1];exact reach _ _ (j1 X)
     refine qE d _ ((s4.trans s5).trans s6) (l,l2,rs.map λr=>ws.getD r [],ta,by rw[AM de];exact bi,by rw[AM le];exact bg,by rw[AM a2];exact bf,by rw[j_,I],bo,λv hv=>?_,a5.mono (λ_ _=>s6 _ _) λa b u ab hb hu z y=>?_)
     .obtain ⟨i,hi⟩:=mem_iff_getElem?.mp hv;have h9:=(l' hi).1;rw[j_,I]at h9;obtain⟨v',e1,e2,_,e3⟩:=ap i h9;rw[m8,hi]at e1;cases e1;exact(e2,e3)
     .obtain ⟨v,e1,e2,e3,_⟩:=ap a (lt_trans ab hb);obtain⟨v',f1,f2,f3,_⟩:=ap b hb;rw[e1,f1]at y;unfold ub at y;dsimp only at y;rw[uK,uK,e3,f3]at y;exact z (Bool.eq_iff_iff.mpr y)
theorem b_f:s_ [Q0,Q3,Q4,"others"] [Q0,Q3] (h7 Ed):=uH
theorem FD(F:tS K "need_same_letters" "need_same_letters" Ed f u)(T:Txt K mg cA_ cB_ cC_ cD_ cE_ cF_ cG_ cH_ cI_ cJ_ cK_):aa P w K mg base (ve P w) 1 f u [Q0,Q3] (C' cG_):=by
 refine F.okX b_f (λl H Q E h=>?_) (λcdv A b s H l Q E D h=>?_)
 .obtain ⟨m,o,L,L',W,B,v,y,rfl,_⟩:=h;rfl
 .obtain ⟨m,o,L,L',W,B,v,y,rfl,r,g,p,d,qE,q⟩:=h;refine(_,(j3 ((oI 2 b_f.nd (p' 0))) (j3 ((oI 3 b_f.nd (p' 1))) (kd ((t_ (zZ (pv 2) (pv 3)) ((kd ((mr rfl hZ T.oG_ T.kG_ (m_ (qB (c:=λi=>pM 2 i/\pM 3 i) (gf,gb 2 (pv 2) (λ_ z=>z.1),gf,gb 3 (pv 3) (λ_ z=>z.2),trivial))))))) (t6)))))),?_);obtain⟨C,mk,j,h1,h2,J,I,G⟩:=id r;obtain⟨k,n,a,t,R,O,N,M⟩:=id p;refine(o_ h1 aw ?_);refine(o_ t aw ?_);refine(_,rfl,_,rfl,rfl,_,rfl,?_);by_cases e:L=L'
  .exact xp (by rw[e]) (q e)
  .rw [decide_eq_false (λz=>e (qj (V.str.inj z)))];exact ai ((g.lt.sm.txt rfl,d.lt.sm.txt rfl),λx=>(o9 (by show 1≤16777216;decide),qE e))
theorem h_c:s_ [Q0,Z0,"rounds"] [Q0] (h7 dB):=uH
theorem zJ(F:tS K "least" "least" dB f fd)(T:Txt K mg cA_ cB_ cC_ cD_ cE_ cF_ cG_ cH_ cI_ cJ_ cK_)(n:Ce K cW)(yz:Df P w K mg base "walked_machine" 6 [Q0] (DN cW P0 sites))(yq:Df P w K mg base "rounds_of" 2 [Y0,"marks","most"] sp_roundsG)(yy:Df P w K mg base "folded" 3 [Z0,Z5] (EC cW)):aa P w K mg base nq 7 f fd [Q0] (Cf P0 sites):=by
 refine F.okA h_c ?_;rintro _ _ _ _ _ _ _ _ N⟨m,L,W,B,rfl,U,x,hT,q⟩;have J:=N.mono (j:=2) (!0);have I:=N.mono (j:=3) (!0);refine(_,(j3 ((oI 1 h_c.nd ((ri yz N (m_ (pv 0)))))) (j3 ((oI 2 h_c.nd ((ri yq J (vg ((v9 (f:=Y0) (pv 1) rfl)) ((v9 (f:="marks") (pv 1) rfl)) ((wa T.len ((v9 (f:=Y0) (pv 1) rfl))))))))) (kd (n6 (ri yy I (pu (pv 1) (u6 (pv 2) (b7 Bd c_)))))))),?_);refine(_,rfl,m,L,W,B,rfl,U,x,hT,λA t wd y Y ks ab ws g R Bm H1 s1 Q hW ht an ag H b o bf d hR bl G sub Z=>?_);have c:=jU x bf d hR bl Z;obtain⟨dx,D⟩:=hW.ex;refine(_,rfl,A,cW,dx,_,_,rfl,D,n.cls,n.na4,rfl,_,rfl,A,cW,dx,_,_,rfl,D,n.cls,n.na5,rfl,_,rfl,A,cW,dx,_,_,rfl,D,n.cls,n.na4,rfl,y,_,rfl,.inl (lb.of H),?_);refine(y,Y,g,_,_,L,R,Bm,R.length,by rw[j_,b.1];rfl,.inl rfl,H,.inl rfl,o,b.1,λi r e=>?_,c,λp h k H2 s2 hp s l E hk=>?_)
 .have hi:i<R.length:=by rw[<-b.1];exact(l' e).1
  exact(R[i],j1 hi,_,.inl rfl,b.2 i r _ e (j1 hi))
 have st:Rd R Bm (k+1)=Rd R Bm k:=by
  rcases E with z|⟨M,U,z⟩
  .exact z
  .have:=bM c U;lia
 obtain⟨C,v⟩:∃C,h[k]?<*C:=(h[k]'(by rw[s];exact lt_succ_self k),j1 _);have u:=l k C v;have O:=CK s v;refine(_,rfl,_,rfl,_,rfl,u_ hp O ?_);refine(A,t,wd,y,Y,C,g,L,R,Bm,k,rfl,(dx,s2 _ _ D),s2 _ _ H,(b.1,λi a r a1 a2=>s2 _ _ (b.2 i a r a1 a2)),s2 _ _ o,c,u,λmm f H3 hm X hf S=>?_);exact q f _ _ H3 (Bx s1 (mj (s2.trans X))) (AK (AK Q s2) X) S (ks,ws,R,Bm,k,mm,bf,d,hR,bl,G,sub,Z,c,st,hm,rfl,rfl)
theorem e_c:s_ [Q0,Q5,"rows"] [Q0,Q5] (h7 Ee):=uH
theorem Fi(F:tS K "lots_after" "lots_after" Ee f fd)(T:Txt K mg cA_ cB_ cC_ cD_ cE_ cF_ cG_ cH_ cI_ cJ_ cK_):aa P w K mg base nq 1 f fd [Q0,Q5] sp_lotsafter:=by
 refine F.okA e_c ?_;rintro _ _ _ _ _ _ _ _ _⟨m,v,o,L,W,B,k,rfl,hM,M,ho,hv,t,S,q⟩;refine(_,(j3 ((oI 2 e_c.nd (yS [Q0,Q5,"rows"] rfl (!0) (xg (pv 1)) (λcl C fp s' H'=>(vY,nT (Ad K) (nT (Ad K) (pv 1) c_ (λ_ _=>rfl)) (pv 0) (λ_ _=>rfl)))))) (kd (n6 (mE [Q0,Q5,"rows"] rfl (!0) (ze rfl T.range (m_ (BJ T.len (p' 0)))) (λcl C fp s' H'=>(vY,yS [Z1,Q0,Q5,"rows"] rfl (show List.Nodup (["row",Z1,Q0,Q5,"rows"]:List Str) by decide) (xg (pv 3)) (λcl C fp s' H'=>(vY,nT (Ad K) (pv 0) (pv 1) (λ_ _=>rfl))))))))),?_);obtain⟨wy,mk,ap,h1,h2,h3,h4,h5⟩:=id hM;have hz:(tx L).length≤sizeLine:=o9 (by rw[vn];exact le_trans M.lt.hi (!0));have ag:(b' k).length≤sizeLine:=by rw[e_];exact o9 (le_trans t (!0))
 have G:∀{j:Nat}{x:V},(b' k)[j]?<*x->j<k.length/\x=.int ((k.getD j 0:Nat):Int)/\k.getD j 0<W.length:=λ{j x}e=>by
  have A:j<k.length:=by have:=(l' e).1;rwa [e_]at this
  rw[wU A]at e;cases e;exact(A,rfl,S _ (AI A))
 dsimp only[vW];dsimp only[tNext,aF,aD,w',vq,xa,vX];refine x8 (a:=v) (λR h=>(_,rfl,h)) ho hv (λD j ys H'=>∃rs:List Addr,ys=rs.map V.ref/\rs.length=j/\∀(i:Nat)(a:Addr),rs[i]?<*a->H' a<*.tup (b' (W.getD (k.getD i 0) []))) ag (λD N=>([],rfl,rfl,λi a e=>by simp at e)) ?_ ?_
 .intro D j x ys H' R1 R2 N hx b c hp k1 k2;obtain⟨rs,rfl,d,H⟩:=hp;obtain⟨A,rfl,J⟩:=G hx;obtain⟨Z,p,O⟩:=ol.row h4 (h5.same b) J;refine i_ (o_ (b _ _ h1) ax (_,rfl,v6 (b _ _ h2) (vZ V.ref p) (k1 _ H' c (a'.set b N) (rs++[Z],by rw[map_append];rfl,by rw[uA,d];rfl,λi u e=>?_))));rcases Am e with z|⟨rfl,rfl⟩
  .exact n7 (H i u z) c (!5)
  .rw [d];exact n7 O c (!5)
 intro Dw ys H2 ar g U ab;obtain⟨rs,rfl,d,H⟩:=ab;rw[e_]at d;dsimp only[eX,vW,tNext,aF,aD,w',vq,xa,vX];refine BZ (n:=L.length) (λR h=>(o_ (g _ _ h1) aw (_,rfl,hz,by rw[vn];exact h))) (le_trans M.lt.hi (!0)) (λD j ys H'=>∃ls:List Addr,ys=ls.map V.ref/\ls.length=j/\∀(q:Nat)(a:Addr),ls[q]?<*a->a≠D/\H' a<*.lst (b' (gA W k q))) (λD N=>([],rfl,rfl,λi a e=>by simp at e)) ?_ ?_
 .intro D q0 ys H' R1 R2 N hq b c hp k1 k2;obtain⟨ls,rfl,s,I⟩:=hp;have s2:=g.trans b;refine i_ ?_;refine x8 (a:=Dw) (λR h=>(_,rfl,h)) (.inl rfl) (b _ _ U) (λX j E Y=>E=(b' (gA W k q0)).take j) (by rw[j_,d];exact o9 (le_trans t (!0))) (λX l=>!1) ?_ ?_
  .intro X j y E Y R3 R4 l hy hsm4 hD2l r k3 k4;rw[n']at hy;obtain⟨Z,p,rfl⟩:=v8 hy;have A:j<k.length:=by rw[<-d];exact(l' p).1
   have J:=S _ (AI (ws:=k) A);have l1:=(xv M J).1;refine i_ (_,rfl,_,rfl,v6 (hsm4 _ _ (b _ _ (H j Z p))) (by rw[Int.zero_add];exact xh (by rw[l1];exact hq)) (k3 _ Y hD2l (a'.set hsm4 l) ?_));rw[r];refine(zv ?_).symm;rw[wU (by rw[gA,j_];exact A),gA,DG A]
  .intro X E Y l hsm4 hD2l r;rw[j_,d,take_of_length_le (by rw[e_,gA,j_];exact le_refl _)]at r;subst r;have an:=hsm4 _ _ c;refine k1 (.ref X) Y an (a'.set (b.trans hsm4) N) (ls++[X],by rw[map_append];rfl,by rw[uA,s];rfl,λi u e=>?_);rcases Am e with z|⟨rfl,rfl⟩
   .obtain ⟨z1,z2⟩:=I i u z;exact(z1,by rw[a_ z1];exact hsm4 _ _ z2)
   .have Q:u≠D:=λzz=>by rw[zz,c]at l;cases l
    exact(Q,by rw[s,a_ Q];exact hD2l)
 .intro D ys H' N b c hp;obtain⟨ls,rfl,s,I⟩:=hp;exact q D ls H' (g.trans b) c s λq a e=>(I q a e).2
theorem kf:s_ [Q5] [Q5] (h7 Ef):=uH
theorem wm(F:tS K "lot_of" "lot_of" Ef f g)(T:Txt K mg cA_ cB_ cC_ cD_ cE_ cF_ cG_ cH_ cI_ cJ_ cK_):aa P w K mg base nq 1 f g [Q5] (H.sp_lot K):=by
 refine F.okA kf ?_;rintro _ _ _ _ _ _ _ _ _⟨p,ns,rfl,hp,b,q⟩;refine(_,(kd (n6 (xS Aa (!4) T.tuple boot_tuple (m_ (vx (iZ rfl) (!4) T.sorted PyProof.Rows.boot_sorted (m_ (xS (lu rfl) (!4) T.set PyProof.Rows.boot_set (m_ (pv 0))))))))),?_);refine(_,rfl,p,ns,rfl,hp,b,λa e=>(a,xO ns,rfl,C9 b,j',λl d=>(l,_,rfl,.inl (lb.of j',λt c=>?_))));exact q t _ ((a'.upd e).trans ((a'.upd d).trans (a'.upd c))) j'
theorem FE:s_ [Q0,Q5] [Q0,Q5] (h7 Eg):=uH
theorem Fj(F:tS K "has_marked" "has_marked" Eg f E)(T:Txt K mg cA_ cB_ cC_ cD_ cE_ cF_ cG_ cH_ cI_ cJ_ cK_):aa P w K mg base nq 1 f E [Q0,Q5] H.sp_hasm:=by
 refine F.okA FE ?_;rintro _ _ _ _ _ _ _ _ _⟨m,v,o,L,W,B,k,rfl,z,p,y,u,d,i,q⟩;refine(_,(kd (n6 (vx (lx rfl) (!4) T.any PyProof.Rows.boot_any (m_ (yS [Q0,Q5] rfl (!0) (xg (pv 1)) (λO C N s' H'=>(vY,nT (Ad K) (nT (Ad K) (pv 1) c_ (λ_ _=>rfl)) (pv 0) (λ_ _=>rfl)))))))),?_);obtain⟨I,mk,t,h1,h2,A,M,J⟩:=id z;have l:(b' k).length≤sizeLine:=by rw[e_];exact o9 (le_trans d (!0))
 dsimp only[eX,tNext,aF,aD,w',vq,xa,vX];refine x8 (a:=v) (λR h=>(_,rfl,h)) y u (λD j ys H'=>ys=((k.map λr=>B.getD r false).take j).map V.bl) l (λD s=>rfl) ?_ ?_
 .intro D j x ys H' Q R2 s g b c hp k1 k2;have e:j<k.length:=by have:=(l' g).1;rwa [e_]at this
  rw[wU e]at g;cases g;have n:=i _ (AI (ws:=k) e);refine i_ (o_ (b _ _ h1) ay (_,rfl,v6 (b _ _ A) (x9 (bL p.bl n)) (k1 _ H' c (a'.set b s) ?_)));rw[hp,take_add_one,n',j1 e,map_append,C8 e];rfl
 .intro D ys G s b c hp;rw[e_,<-j_ (f:=λr=>B.getD r false),take_length]at hp;subst hp;refine(D,_,rfl,c,?_);have:=q G b;rw[List.any_map];exact this
theorem FF:s_ [Q0,Z1,Q5] [Q0,Z1,Q5] (h7 Eh):=uH
theorem Fk(F:tS K "rooms_into" "rooms_into" Eh f O)(T:Txt K mg cA_ cB_ cC_ cD_ cE_ cF_ cG_ cH_ cI_ cJ_ cK_):aa P w K mg base nq 1 f O [Q0,Z1,Q5] Tu.sp_rinto:=by
 refine F.okA FF ?_;rintro _ _ _ _ _ _ _ _ _⟨m,st,L,W,B,j,S,rfl,M,s,J,v,q⟩;refine(_,(kd (n6 (xS Aa (!4) T.tuple boot_tuple (m_ (CZ [Q0,Z1,Q5] rfl (!0) (CV rfl T.enumerate (m_ (p' 0))) (λcl C Z s' H'=>(dC (wt (il K) (nT (Ad K) (pv 1) (pv 3) (λ_ _=>rfl)) (pv 4) (by with_unfolding_all rfl)),pv 0))))))),?_);obtain⟨H,mk,e,h1,h2,Y,E,N⟩:=id M;have k:(e.map V.ref).length=W.length:=by rw[j_,E]
 have o:=s.n60;dsimp only[eX,vX,vq];refine E8 (c:=H) (λR h=>(o_ h1 ax h)) (.inr rfl) h2 (λD i ys H'=>ys=b' ((List.range i).filter λr=>S.contains (goal W r j))) (by rw[k];exact o9 (le_trans o (!0))) (λD y=>rfl) ?_ ?_
 .intro D i x ys H' G R1 R2 y z d b hp a k1 k2;rw[n']at z;obtain⟨I,n,rfl⟩:=v8 z;have X:i<W.length:=by rw[<-E];exact(l' n).1
  obtain⟨ws,g,l⟩:=N i I n;have Q:W.getD i []=ws:=by rw[m8,g];rfl
  have t:=d.trans a;have u:=(s.row ws (uM g)).1;refine(_,rfl,_,rfl,v6 (t _ _ l) (xh (by rw[u];exact J)) (_,rfl,st,_,rfl,.inr (pa.of (t _ _ v)),rfl,E7 _,_,rfl,?_));have U:ws.getD j 0=goal W i j:=by unfold goal;rw[Q]
  rw[U];show if (AU (.int ((goal W i j:Nat):Int)) (b' S))=true then _ else _
  rw[DW];cases A:S.contains (goal W i j)with
  |true=>
   refine ai (_,rfl,k1 _ G (a _ _ b) (a'.set t y) ?_);rw[hp,uL,A];exact(CT _ _).symm
  |false=>
   refine ae (k2 G t (a _ _ b) ?_);rw[hp,uL,A];simp
 .intro D ys H' y d b hp;rw[k]at hp;subst hp;exact(D,_,rfl,.inl (lb.of b,λp hp=>q p _ (d.trans (a'.upd hp)) j'))
theorem g_E:s_ [Q0,"marks"] [Q0] (h7 Ei):=uH
theorem io(F:tS K "outside" "outside" Ei f fd)(T:Txt K mg cA_ cB_ cC_ cD_ cE_ cF_ cG_ cH_ cI_ cJ_ cK_)(nd:(ts.map Prod.fst).Nodup)(i0:(P0,sites,)∈ts)(yz:Df P w K mg base "walked_machine" 6 [Q0] (DX cW P0 sites))(y0:vk P w K mg base "told" 4 [Z0] (A9 cW cH_)):aa P w K mg base (ve P w) 7 f fd [Q0] (dw cH_ ts cc):=by
 refine F.okX g_E (λvs H Q E h=>?_) (λcdv A ab s H vs Q E hr h=>?_)
 .obtain ⟨m,L,W,B,rfl,_⟩:=h;rfl
 .obtain ⟨m,L,W,B,rfl,hM,g,hW8,hA,qE,q⟩:=h;have hT:=hA _ i0;have as:=hr.mono (j:=4) (!0);refine(_,(j3 (BB [Q0,"marks"] (j:=1) rfl g_E.nd (!0) rfl (Or.inl rfl) (xg (p' 0)) (λcl C fp s' H'=>(vY,bB (pv 0)))) (kd (n6 (wS y0 as (wR λ_ _ _ z=>z) (m_ ((ri yz hr (m_ (yC (vg (p' 0) (p' 0) (pv 1))))))))))),?_);obtain⟨I,mk,J,h1,h2,h3,h4,h5⟩:=id hM;have M:=g.n60;dsimp only[vW,tNext,aF,aD,w',vq,xa,vX];refine x8 (a:=mk) (λR h=>(o_ h1 ay h)) (.inr rfl) h3 (λD j ys H'=>ys=((B.map not).take j).map V.bl) (by rw[j_,g.bl];exact o9 (le_trans M (!0))) (λD hD=>rfl) ?_ ?_
  .intro D j x ys H' R1 R2 hD hx n G hp k1 k2;rw[n']at hx;obtain⟨b,hb,rfl⟩:=v8 hx;refine i_ (_,rfl,b,rfl,k1 _ H' G (a'.set n hD) ?_);rw[hp,take_add_one,n',hb,map_append];rfl
  .intro D ys H1 hD n G hp;rw[j_,<-j_ (f:=not),take_length]at hp;subst hp;have O:=n _ _ h1;refine(o_ O aw (o_ O ax (_,rfl,o9 (by show 3≤16777216;decide),λt ht=>?_)));have s2:=n.trans (a'.upd (o:=.tup [.str (tx L),.ref I,.ref D]) ht);have N:L2.upd H1 t (.tup [.str (tx L),.ref I,.ref D]) t<*.tup [.str (tx L),.ref I,.ref D]:=j';have X:=p_ (u:=.tup [.str (tx L),.ref I,.ref D]) G ht;generalize L2.upd H1 t (.tup [.str (tx L),.ref I,.ref D])=H2 at s2 N X;have aM:g_ L W (B.map not):={g with bl:=by rw[j_];exact g.bl};have S:=AK hT s2;refine(t,L,W,B.map not,rfl,(I,D,J,N,s2 _ _ h2,X,h4,λi a e=>by obtain⟨ws,e1,e2⟩:=h5 i a e;exact(ws,e1,s2 _ _ e2)),aM,S,λwk t' wd y md ks aS ws r R Bm H3 s3 aH hW aU aT ar hy ap az Y l U bl ag sub le=>?_);have kT:KT ts H H3:=(KT.of s2).trans (KT.ofX nd i0 s3 S aH);have p:=B6 (Bm:=Bm) g.lt Y l U bl (le_trans le M);have an:∀u:LN,(∀c∈u,c∈L)->(ub L R Bm u=true↔cc (ub L W B) u):=λu hu=>by
    unfold ub cc;dsimp only;rw[B7 Y l U bl ag hu];rw[DM 0 u.length u rfl];have aB:=vQ g (w:=u) g.n1 hu;show(B.map not).getD (run L W 0 u) false=true↔_;have aC:run L W 0 u<B.length:=by rw[g.bl];exact aB
    rw[m8,n',m8,j1 aC];show(!B[run L W 0 u])=true↔B[run L W 0 u]=false;rw[not_eq_true']
   refine(wk,t',wd,y,md,r,L,R,Bm,ws,rfl,hW,hy,ap,az,ar,by rw[U];exact Y.len.symm,p,λi v hv=>eM Y l U p hv,λd H' s' p9=>qE d H' (kT.trans (KT.of s')) (p9.congr an),λmm k ff H4 hm Z aA s4 hf aN=>?_);exact q ff _ _ H4 (kT.trans (KT.of s4)) aN (A2 hm p) (B9 aA) (B8 Y l U p Z hm)
theorem ke:s_ [Q0] [Q0] (h7 Ej):=uH
theorem kz(F:tS K "turned" "turned" Ej f fd)(T:Txt K mg cA_ cB_ cC_ cD_ cE_ cF_ cG_ cH_ cI_ cJ_ cK_)(nd:(ts.map Prod.fst).Nodup)(i0:(P0,sites,)∈ts)(iT:(PT,Tu.va,)∈ts)(y0:vk P w K mg base "told" 4 [Z0] (A9 cW cH_))(yd:Df P w K mg base "walked_turned" 6 [Q0] (Tu.vV cW PT Tu.va))(y3:Df P w K mg base "least" 7 [Q0] (Cf P0 sites)):aa P w K mg base (ve P w) 8 f fd [Q0] (dw cH_ ts BH):=by
 refine F.okX ke (λvs H Q E h=>?_) (λcdv A D s H vs Q E X h=>?_)
 .obtain ⟨m,L,W,B,rfl,_⟩:=h;rfl
 .obtain ⟨m,L,W,B,rfl,hM,n,hW8,hA,qE,q⟩:=h;have r:=hA _ i0;have U:=X.mono (j:=4) (!0);have S:=X.mono (j:=6) (!0);refine(_,(kd (n6 (wS y0 U (wR λ_ _ _ z=>z) (m_ ((ri yd S (m_ ((ri y3 X (m_ (pv 0))))))))))),?_);refine(_,rfl,m,L,W,B,rfl,hM,n,r,λf W1 B1 H1 s1 p an e=>?_);have kA:KT ts H H1:=KT.ofX nd i0 s1 r p;have l:=kA.tb hA _ iT;refine(f,L,W1,B1,rfl,an,e.mach,le_trans e.len hW8,l,λwk t wd y md ks ws o R Bm H2 s2 ab hW M hy J Y C a x bl G le=>?_);have kT:KT ts H H2:=kA.trans (KT.ofX nd iT s2 l ab);have b:=B6 (Bm:=Bm) n.lt C a x bl (le_trans le (!0));have I:∀u:LN,(∀c∈u,c∈L)->(ub L R Bm u=true↔BH (ub L W B) u):=λu O=>by
   unfold ub BH;dsimp only;have N:∀c∈u.reverse,c∈L:=λc hc=>O c (List.mem_reverse.mp hc);rw[B7 C a x bl G O,g9 e.mach O,e.takes n N]
  refine(wk,t,wd,y,md,o,L,R,Bm,ws,rfl,hW,hy,J,Y,M,by rw[x];exact C.len.symm,b,λi v hv=>eM C a x b hv,λd H' s' p9=>qE d H' (kT.trans (KT.of s')) (p9.congr I),λmm k g H3 hm st Z s3 hg ag=>?_);exact q g _ _ H3 (kT.trans (KT.of s3)) ag (A2 hm b) (B9 Z) (B8 C a x b st hm)
theorem FG:s_ ["_law_script","_law_k"] ["_law_script","_law_k"] (h7 Ek):=uH
theorem FH(F:tS K "_law_cell_at" "_law_cell_at" Ek f h)(T:Txt K mg cA_ cB_ cC_ cD_ cE_ cF_ cG_ cH_ cI_ cJ_ cK_):aa P w K mg base nq 1 f h ["_law_script","_law_k"] (dq K):=by
 refine F.okA FG ?_;rintro _ _ _ _ _ _ _ _ _⟨a,ns,k,rfl,d,h0,q⟩;refine(_,(j3 ((t_ (wt mI (pv 1) (wa T.len (pv 0)) (vz _)) ((kd (n6 (u6 (pv 0) (pv 1))))) (t6))) (kd (n6 c_))),?_);refine(_,rfl,_,rfl,a,_,rfl,.inl d,_,_,rfl,rfl,_,rfl,?_);refine aI (λc=>?_) (λ_=>q 0);obtain⟨v,g,b⟩:=oi (xs:=ns.map V.int) h0 c;obtain⟨z,rfl⟩:∃z,v=V.int z:=by
  rw[n']at b;cases e:ns[k.toNat]? with
  |none=>rw[e]at b;cases b
  |some z=>rw[e]at b;exact(z,(Option.some.inj b).symm)
 exact(_,rfl,_,rfl,a,_,_,_,rfl,rfl,d,g,q z)
theorem a_p:s_ ["_law_cell","_law_left","_law_number","_law_many","_law_found","_law_k","_law_at"] ["_law_cell"] (h7 El):=uH
theorem FI(F:tS K "_law_letters" "_law_letters" El f E)(T:Txt K mg cA_ cB_ cC_ cD_ cE_ cF_ cG_ cH_ cI_ cJ_ cK_):aa P w K mg base nq 1 f E ["_law_cell"] sp_letters:=by
 refine F.okA a_p ?_;rintro _ _ _ _ H _ _ _ _⟨c,rfl,q⟩;refine(_,(j3 ((oI 1 a_p.nd (wH))) (j3 ((oI 2 a_p.nd (uQ bC (pv 0) c_))) (j3 ((oI 3 a_p.nd (uQ im c_ (uQ bC (pv 2) c_)))) (j3 ((oI 2 a_p.nd (uQ Cn (pv 2) c_))) (j3 ((oI 4 a_p.nd (wH))) (j3 ((wI PassesOwn.never rfl (ze rfl T.range (m_ (pv 3))) (v5 5 a_p.nd) ((j3 ((oI 6 a_p.nd (uQ bC (pv 2) (BJ T.len (pv 1))))) (j3 ((oI 2 a_p.nd (uQ Cn (pv 2) (BJ T.len (pv 1))))) (j3 ((oI 4 a_p.nd (uQ Bh (pv 4) (nT iH (pv 1) (pv 6) (λ_ _=>rfl))))) (kd ((oI 1 a_p.nd (uQ Bh (Cq ma (pv 1) Co (Cp (pv 6))) (Cq ma (pv 1) (Cp (uQ im (pv 6) c_)) Co))))))))))) (kd (n6 (pv 4))))))))),?_);obtain⟨N,j,n1,r⟩:=pK (c%46800) 1 3 (!0);have j:(N:Int)=1+c%46800%3:=j;have y:N≤3:=Nat.le_of_lt_succ r;refine(_,rfl,_,_,rfl,rfl,(by show(0:Int)<46800;decide),_,rfl,_,_,rfl,rfl,(by show(0:Int)<3;decide),_,_,rfl,rfl,_,rfl,_,_,rfl,rfl,(!0,!0),_,rfl,_,rfl,by rw[<-j];exact(eB (le_trans (le_of_lt r) (!0))).1,by rw[<-j];exact(eB (le_trans (le_of_lt r) (!0))).2,?_);generalize D:(1:Int)+c%46800%3=M at j⊢;have h:M.toNat=N:=by rw[<-j];rfl
 refine z7 (n:=M.toNat) (λi o H'=>∃f l n k0 a0,o=[some (.int c),some (.str (tx l)),some (.int n),some (.int M),some (.str (tx f)),k0,a0]/\H'=H/\0≤n/\f.length=i/\l.length+i=26/\(f++l).Nodup/\∀c∈f++l,97≤c/\c≤122) ?_ ?_ ?_
 .refine ([],List.range' 97 26,c%46800/3,none,none,?_,rfl,Int.ediv_nonneg (Int.emod_nonneg _ (!0)) (!0),rfl,rfl,!0,!0);show[some (V.int c),some (V.str _),some (V.int _),some (V.int _),some (V.str _),none,none]=_;rw[rB,Dq,D]
 .rintro i o I C⟨f,l,n,k0,a0,rfl,rfl,z,m,s,p,az⟩;have k:i<3:=lt_of_lt_of_le (h▸C) y;obtain⟨l1,l26⟩:=rq s (le_of_lt k);have hz:(tx l).length≤sizeLine:=o9 (by rw[vn];exact le_trans l26 (!0));have b:(0:Int)<((tx l).length:Int):=by rw[vn];exact jO l1
  have a:=Int.emod_nonneg n (Int.ne_of_gt b);have e:=Int.emod_lt_of_pos n b;have t:0≤n/((tx l).length:Int):=Int.ediv_nonneg z (Int.le_of_lt b);have g:(n%((tx l).length:Int)).toNat<l.length:=Nat.lt_of_lt_of_eq (wT a e) (vn l);obtain⟨v,B,d⟩:=oi (xs:=(tx l).cps.toList) a (by rw[zk];exact Int.lt_of_lt_of_le e (Int.le_of_eq (congrArg Nat.cast (vn l))));rw[zk]at d;have G:v=l[(n%((tx l).length:Int)).toNat]:=by
   rw[j1 g]at d;exact(Option.some.inj d).symm
  subst G;refine(_,rfl,_,rfl,_,rfl,hz,_,_,rfl,rfl,b,_,rfl,_,rfl,_,rfl,hz,_,_,rfl,rfl,(b,by rw[vn];exact tu l26),_,rfl,_,rfl,_,rfl,_,_,_,rfl,rfl,hz,B,_,_,rfl,rfl,?_,_,rfl,_,rfl,_,rfl,_,rfl,hz,_,rfl,_,rfl,_,_,rfl,rfl,_,rfl,_,rfl,hz,_,_,rfl,rfl,?_,?_)
  .refine o9 ?_;rw[vn];show f.length+1≤_;rw[m];exact le_trans k (!0)
  .refine o9 ?_;have h1:=Txt.slice_le (tx l) none (some (n%((tx l).length:Int)));have h2:=Txt.slice_le (tx l) (some ((n%((tx l).length:Int))+1)) none;exact rn h1 h2 (by rw[vn];exact l26)
  .obtain ⟨d1,d2⟩:=nQ g p;refine(f++[l[(n%((tx l).length:Int)).toNat]],l.take (n%((tx l).length:Int)).toNat++l.drop ((n%((tx l).length:Int)).toNat+1),n/((tx l).length:Int),some (.int (0+(i:Int))),some (.int (n%((tx l).length:Int))),?_,rfl,t,by rw[uA,m];rfl,?_,d1,λc u=>az c (d2 c u))
   .have A:=lZ (tx l) a;have x:=ic (tx l) (i:=(n%((tx l).length:Int))+1) (Int.le_trans a (Int.le_of_lt (Int.lt_succ _))) (by rw[zk];exact Int.lt_of_lt_of_le e (Int.le_of_eq (congrArg Nat.cast (vn l))));rw[zk]at A x;rw[pI a]at x;show[some (V.int c),some (V.str (Txt.slice (tx l) none (some (n%((tx l).length:Int)))++Txt.slice (tx l) (some ((n%((tx l).length:Int))+1)) none)),some (V.int _),some (V.int M),some (V.str (tx f++⟨#[l[(n%((tx l).length:Int)).toNat]]⟩)),some _,some _]=_;rw[A,x,Bj,show(⟨#[l[(n%((tx l).length:Int)).toNat]]⟩:Str)=tx [l[(n%((tx l).length:Int)).toNat]]from rfl,Bj]
   .rw [uA,length_take,List.length_drop];exact pL g s
 .rintro o I⟨f,l,n,k0,a0,rfl,rfl,z,m,s,p,az⟩;refine(_,rfl,q f (by rw[m,h];exact n1,by rw[m,h];exact y,(List.nodup_append.mp p).1,λc u=>az c (mem_append_left _ u)))
theorem a_s:s_ ["_law_script","_law_at","_law_rooms","_law_letters_here","_law_ways","_law_marks","_law_number","_law_k","_law_rest","_law_row","_law_sign"] ["_law_script","_law_at","_law_rooms","_law_letters_here"] (h7 Em):=uH
theorem FJ(F:tS K "_law_machine" "_law_machine" Em f fd)(T:Txt K mg cA_ cB_ cC_ cD_ cE_ cF_ cG_ cH_ cI_ cJ_ cK_)(y4:Df P w K mg base "_law_cell_at" 1 ["_law_script","_law_k"] (dq K)):aa P w K mg base nq 2 f fd ["_law_script","_law_at","_law_rooms","_law_letters_here"] (Fh K):=by
 refine F.okA a_s ?_;rintro _ _ _ _ H _ _ _ hr⟨a,ns,p,n,L,rfl,hS,aH,O,g,hL,q⟩;refine(_,(j3 ((oI 4 a_s.nd (wc zN))) (j3 ((oI 5 a_s.nd (wc zN))) (j3 ((oI 6 a_s.nd (c_))) (j3 ((wI PassesOwn.never rfl (ze rfl T.range (m_ (pv 2))) (v5 7 a_s.nd) ((j3 ((oI 6 a_s.nd (uQ Bn (uQ vO (uQ vO (uQ sC (pv 6) (pv 6)) (uQ sC c_ (uQ BU (ri y4 hr (pu (pv 0) (uQ vO (pv 1) (pv 7)))) (uQ qH c_ c_)))) (pv 7)) c_))) (j3 ((oI 8 a_s.nd (pv 6))) (j3 ((oI 9 a_s.nd (wc zN))) (j3 ((wI PassesOwn.never rfl (bA (pv 3)) (v5 10 a_s.nd) ((j3 (vI (wb (pv 9) (uQ Bn (pv 8) (pv 2)))) (kd ((oI 8 a_s.nd (uQ mJ (pv 8) (pv 2))))))))) (j3 (vI (wb (pv 4) ((xS Aa (!4) T.tuple boot_tuple (m_ (pv 9)))))) (kd (vI (wb (pv 5) (xR zg (uQ Bn (pv 8) c_) c_ (vz _))))))))))))) (kd (n6 (yC (vg (pv 3) (xS Aa (!4) T.tuple boot_tuple (m_ (pv 4))) (xS Aa (!4) T.tuple boot_tuple (m_ (pv 5))))))))))),?_);refine(zero_le _,λl U=>(zero_le _,λmk A=>?_));have C:l≠mk:=f_ j' A;have an:H mk=none:=by rw[a_ C.symm]at A;exact A
 refine(_,rfl,_,rfl,(eB (le_trans g (!0))).1,(eB (le_trans g (!0))).2,?_);refine z7 (n:=(n:Int).toNat) (λi σ H'=>∃(d:List Addr)(W:LL)(B:List Bool)(t:Int)(k0 rest az Q:Option V),σ=[some (.ref a),some (.int p),some (.int (n:Int)),some (.str (tx L)),some (.ref l),some (.ref mk),some (.int t),k0,rest,az,Q]/\
  a' H H'/\H' l=some (.lst (d.map V.ref))/\H' mk=some (.lst (B.map V.bl))/\d.length=i/\W.length=i/\B.length=i/\0≤t/\t<2147483647/\AD H' d W/\∀ws∈W,ws.length=L.length/\∀x∈ws,x<n) ?_ ?_ ?_
 .exact ([],[],[],0,none,none,none,none,rfl,λb o e=>p_ (p_ e U) A,p_ j' A,j',rfl,rfl,rfl,!0,!0,λi r e=>by simp at e,λws e=>by simp at e)
 .rintro i σ G hi⟨d,W,B,t,k0,rest0,row0,sg0,rfl,h,h1wa,h1mk,y,hWl,hBl,ag,hn1',k,hW⟩;refine(_,rfl,_,rfl,_,_,rfl,rfl,.inl (tq ag hn1'),_,rfl,_,rfl,_,rfl,_,_,rfl,rfl,a,ns,_,rfl,h.seq hS,uq aH i,λz=>?_);refine(_,_,rfl,rfl,(!0,!0,!0),_,_,rfl,rfl,!0,_,_,rfl,rfl,.inl (!0,!0),_,_,rfl,rfl,_,rfl,_,_,rfl,rfl,_,_,rfl,rfl,!0,λs ap aM=>?_);refine(_,rfl,zero_le _,λrw D=>?_);have rwa:l≠rw:=f_ h1wa D;have aA:mk≠rw:=f_ h1mk D;refine(_,rfl,_,rfl,Cs (x:=tx L) (λj as H2=>∃(ws:LN)(rest:Int)(Q:Option V),as=[some (.ref a),some (.int p),some (.int (n:Int)),some (.str (tx L)),some (.ref l),some (.ref mk),some (.int s),some (.int (0+(i:Int))),some (.int rest),some (.ref rw),Q]/\
   H2=upd G rw (.lst (b' ws))/\ws.length=j/\(∀x∈ws,x<n)/\0≤rest) ([],s,sg0,rfl,rfl,rfl,λx e=>by simp at e,ap) ?_ ?_)
  .rintro j c ar H2 hc⟨ws,rest,Q,rfl,rfl,u,hwn,ab⟩;have aN:j<4:=by
    have h9:=(Array.getElem?_eq_some_iff.mp hc).1;have e:(tx L).cps.size=L.length:=vn L;rw[e]at h9;exact lt_of_lt_of_le h9 (le_trans hL.hi (!0))
   refine(_,rfl,.inl (rfl,_,lb.of j'),_,rfl,_,rfl,_,_,rfl,rfl,jO O,λr I aB=>(rw,_,_,rfl,rfl,j',?_,_,rfl,_,rfl,_,_,rfl,rfl,td O (le_trans g (!0)),ab,λq2 aC=>?_))
   .unfold b';rw[j_,u];exact Cr (le_trans (le_of_lt aN) (!0))
   .refine (ws++[r.toNat],q2,some (.str ⟨#[c]⟩),rfl,?_,by rw[uA,u];rfl,λx M=>?_,aC)
    .have e:((r.toNat:Nat):Int)=r:=Int.toNat_of_nonneg I;rw[Ba];unfold b';rw[map_append];show _=upd G rw (.lst (_++[V.int ((r.toNat:Nat):Int)]));rw[e]
    .rcases mem_append.mp M with M|M
     .exact hwn x M
     .rw [uN M];exact wT I aB
  .rintro ar H2⟨ws,rest,Q,rfl,rfl,u,hwn,ab⟩;rw[vn]at u;have a1:upd G rw (.lst (b' ws)) l<*.lst (d.map V.ref):=by rw[a_ rwa];exact h1wa
   have a2:upd G rw (.lst (b' ws)) mk<*.lst (B.map V.bl):=by rw[a_ aA];exact h1mk
   refine(_,rfl,.inl (rfl,_,lb.of a1),_,rfl,rw,_,rfl,.inl (lb.of j',λtp N=>?_));have R:l≠tp:=f_ a1 N;have J:mk≠tp:=f_ a2 N;refine(l,_,_,rfl,rfl,(by rw[a_ R];exact a1),(by rw[j_,y];exact Cr (le_trans (le_of_lt hi) (le_trans g (!0)))),?_);refine(_,rfl,.inl (rfl,_,lb.of (by rw[a_ C.symm,a_ J];exact a2)),_,rfl,_,_,rfl,rfl,!0,λr3 _ _=>(rfl,mk,_,_,rfl,rfl,(by rw[a_ C.symm,a_ J];exact a2),(by rw[j_,hBl];exact Cr (le_trans (le_of_lt hi) (le_trans g (!0)))),?_));have hk:∀b o,G b<*o->b≠l->b≠mk->upd (upd (upd (upd G rw (.lst (b' ws))) tp (.tup (b' ws))) l (.lst (d.map V.ref++[.ref tp]))) mk (.lst (B.map V.bl++[.bl (decide (V.int r3=V.int 1))])) b<*o:=λb o e e1 e2=>by
    rw[a_ e2,a_ e1,a_ (f_ (p_ e D) N),a_ (f_ e D)];exact e
   refine(d++[tp],W++[ws],B++[decide (V.int r3=V.int 1)],s,some (.int (0+(i:Int))),some (.int rest),some (.ref rw),Q,rfl,λb o e=>?_,?_,?_,?_,?_,?_,ap,aM,λj r e=>?_,λv X=>?_)
   .exact hk b o (h b o e) (f_ e U) (f_ e an)
   .rw [a_ C,j',map_append];rfl
   .rw [j',map_append];rfl
   .rw [uA,y];rfl
   .rw [uA,hWl];rfl
   .rw [uA,hBl];rfl
   .exact ki k (y.trans hWl.symm) (λb xs z=>hk b _ z (n_ z h1wa (!5)) (n_ z h1mk (!5))) (by rw[a_ J.symm,a_ R.symm,j']) j r e
   .rcases mem_append.mp X with X|X
    .exact hW v X
    .rw [uN X];exact(u,hwn)
 .rintro σ G⟨d,W,B,t,k0,rest0,row0,sg0,rfl,h,h1wa,h1mk,y,hWl,hBl,ag,hn1',k,hW⟩;refine(_,rfl,_,rfl,l,_,rfl,.inl (lb.of h1wa,λtw Y=>(_,rfl,mk,_,rfl,.inl (lb.of (p_ h1mk Y),λtm Z=>(o9 (by show 3≤16777216;decide),λm hm=>?_)))));have up:∀b o,G b<*o->upd (upd (upd G tw (.tup (d.map V.ref))) tm (.tup (B.map V.bl))) m (.tup [.str (tx L),.ref tw,.ref tm]) b<*o:=λb o e=>p_ (p_ (p_ e Y) Z) hm;have E:W.length=n:=hWl;exact q m W B _ (λb o e=>up b o (h b o e)) (tw,tm,d,j',p_ (p_ j' Z) hm,p_ j' hm,y.trans hWl.symm,k.same up) (hL,by rw[E];exact O,by rw[E];exact le_trans g (!0),hBl.trans hWl.symm,λws S=>((hW ws S).1,λx M=>by rw[E];exact(hW ws S).2 x M)) E
theorem b_s:s_ ["_law_found","_law_letters_here","_law_row","_law_goal"] ["_law_found","_law_letters_here"] (h7 En):=uH
theorem FK(F:tS K "_law_is_machine" "_law_is_machine" En f X)(T:Txt K mg cA_ cB_ cC_ cD_ cE_ cF_ cG_ cH_ cI_ cJ_ cK_):aa P w K mg base nq 1 f X ["_law_found","_law_letters_here"] sp_ismach:=by
 refine F.okA b_s ?_;rintro _ _ _ s H _ _ _ _⟨m,L,W,B,rfl,Q,e,q⟩;refine(_,(j3 ((t_ ((wM (xE (uV (vU T.isinst T.tuple boot_tuple (pv 0)))) (wM (zZ (wa T.len (pv 0)) c_) (wM (xE (uV (vU T.isinst T.str boot_str (p' 0)))) (zK (zZ (p' 0) (pv 1)))))).pt) ((kd (n6 vD))) (t6))) (j3 ((t_ ((wM (xE (uV (vU T.isinst T.tuple boot_tuple (p' 0)))) (wM (xE (uV (vU T.isinst T.tuple boot_tuple (p' 0)))) (zK (yA (wa T.len (p' 0)) c_)))).pt) ((kd (n6 vD))) (t6))) (j3 ((wI PassesOwn.never rfl (mz (p' 0)) (v5 2 b_s.nd) ((j3 ((t_ ((wM (xE (uV (vU T.isinst T.tuple boot_tuple (pv 2)))) (zK (zZ (wa T.len (pv 2)) (BJ T.len (pv 1))))).pt) ((kd (n6 vD))) (t6))) (kd ((wI PassesOwn.never rfl (mz (pv 2)) (v5 3 b_s.nd) ((kd ((t_ ((wM (xE (uV (vU T.isinst T.int boot_int (pv 3)))) (wM (uV (vU T.isinst T.bool boot_bool (pv 3))) (wM (wt mI (pv 3) c_ (vz _)) (zK (wt sF (pv 3) (wa T.len (p' 0)) (vz _)))))).pt) ((kd (n6 vD))) (t6)))))))))))) (kd (n6 (xF (xR zg (wa T.len (p' 0)) (wa T.len (p' 0)) (vz _)) (w_ (vx (cR rfl) (!4) T.all boot_all (m_ (yS ["_law_found","_law_letters_here","_law_row","_law_goal"] rfl (!0) (xg (p' 0)) (λcl C fp s' H'=>(vY,(vx (nZ (T:="bool") K) (!4) T.isinst boot_isinstance (pu (pv 0) (Ci (v:=.ty "bool") (!4) T.bool boot_bool rfl))))))))))))))),?_);obtain⟨r,mk,k,h1,h2,I,U,S⟩:=Q;have hz:(tx L).length≤sizeLine:=o9 (by rw[vn];exact le_trans e.lt.hi (!0));have o:(k.map V.ref).length=W.length:=by rw[j_,U]
 have N:=e.n1;have a0:∀{H':Hp},a' H H'->pa K H' m [.str (tx L),.ref r,.ref mk]:=λs=>pa.of (s _ _ h1);have Y:=a'.refl H;refine(_,rfl,_,_,_,rfl,af.tup h1,(xW K).1,_,rfl,ae (_,rfl,m,_,rfl,.inr (pa.of h1),rfl,_,rfl,xp rfl ?_));refine(o_ h1 aw (_,_,_,rfl,af.str _,xr K,_,rfl,ae ?_));refine(o_ h1 aw (_,rfl,rfl,_,rfl,xp rfl ?_));refine(o_ h1 ax (_,_,_,rfl,af.tup h2,(xW K).1,_,rfl,ae ?_));refine(o_ h1 ay (_,_,_,rfl,af.tup I,(xW K).1,_,rfl,ae ?_));refine(o_ h1 ax (r,_,rfl,.inr (pa.of h2),rfl,_,rfl,?_));rw[o,nU (!6)];refine ae ?_;refine(o_ h1 ax (r,rfl,(_,pa.of h2),?_));refine jF (K:=K) (a:=r) (xs:=k.map V.ref) (λi c H'=>∃s2 g,c=[some (.ref m),some (.str (tx L)),s2,g]/\H'=H) (none,none,rfl,rfl) ?_ ?_ ?_
 .rintro i c H' Z⟨s2,g,rfl,rfl⟩;exact pa.of h2
 .rintro i x c H' J⟨s2,g,rfl,rfl⟩;rw[n']at J;obtain⟨t,A,rfl⟩:=v8 J;obtain⟨ws,u,d⟩:=S i t A;obtain⟨y,z⟩:=e.row ws (uM u);refine(_,rfl,_,_,_,rfl,af.tup d,(xW K).1,_,rfl,ae (_,rfl,t,_,rfl,.inr (pa.of d),_,rfl,_,rfl,hz,rfl,_,rfl,?_));rw[e_,y,vn];refine xp rfl ?_;refine(_,rfl,t,rfl,(_,pa.of d),?_);refine jF (K:=K) (a:=t) (xs:=b' ws) (λi c l=>∃g,c=[some (.ref m),some (.str (tx L)),some (.ref t),g]/\l=H') (_,rfl,rfl) ?_ ?_ ?_
  .rintro j c l E⟨g,rfl,rfl⟩;exact pa.of d
  .rintro j x c l hxj⟨g,rfl,rfl⟩;have E:j<ws.length:=by have:=(l' hxj).1;rwa [e_]at this
   rw[wU E]at hxj;cases hxj;have O:=z _ (AI E);refine(_,rfl,_,_,_,rfl,af.int _,iD K,_,rfl,ae (_,rfl,_,_,_,rfl,af.int _,iE K,_,rfl,ae (_,rfl,_,_,rfl,rfl,_,rfl,?_)));rw[decide_eq_false (Int.not_lt.mpr (Int.natCast_nonneg _))];refine ae (_,rfl,o_ h1 ax (r,_,rfl,.inr (pa.of h2),_,_,rfl,rfl,_,rfl,?_));rw[o,decide_eq_false (Int.not_le.mpr (ofNat_lt.mpr O))];exact ae (_,rfl,rfl)
  .rintro c l⟨g,rfl,rfl⟩;exact(_,_,rfl,rfl)
 .rintro c H'⟨s2,g,rfl,rfl⟩;refine(o_ h1 ay (mk,_,rfl,.inr (pa.of I),o_ h1 ax (r,_,rfl,.inr (pa.of h2),rfl,_,rfl,?_)));rw[o,j_,e.bl,CJ,decide_eq_true rfl];refine ai ?_;dsimp only[vX,vq];refine x8 (a:=mk) (λR h=>(o_ h1 ay h)) (.inr rfl) I (λD j ys l=>ys=(replicate j true).map V.bl) (by rw[j_,e.bl];exact o9 (le_trans e.n60 (!0))) (λD G=>rfl) ?_ ?_
  .intro D j x ys l R1 R2 G hxj n p hp k1 k2;rw[n']at hxj;obtain⟨b,M,rfl⟩:=v8 hxj;refine i_ (_,rfl,_,_,_,rfl,af.bl _,xq K,k1 _ l p (a'.set n G) ?_);rw[hp,List.replicate_succ',map_append];rfl
  .intro D ys l G n p hp;subst hp;exact(D,_,rfl,p,λb M=>(List.mem_replicate.mp M).2,q _ n)
theorem sc__law_same:s_ ["_law_found","_law_due","_law_k"] ["_law_found","_law_due"] (h7 Eo):=uH
theorem wF(F:tS K "_law_same" "_law_same" Eo f B)(T:Txt K mg cA_ cB_ cC_ cD_ cE_ cF_ cG_ cH_ cI_ cJ_ cK_)(N:mg "_law_same"<*.ref f)(I:vw K B ["_law_found","_law_due"] []):aa P w K mg base nq 4 f B ["_law_found","_law_due"] (BO 3):=by
 have step:∀(d:Nat)(r:Sp),Df P w K mg base "_law_same" d ["_law_found","_law_due"] r->(∀d' x y H Q E,d=d'+1->eG H d' x y->Q (.bl true) H->r [x,y] H Q E)->aa P w K mg base nq (d+1) f B ["_law_found","_law_due"] (BO d):=by
  intro d r R G;refine F.ok sc__law_same (λS H Q E h=>?_) (λcdv A J s H S Q E W h=>?_)
  .obtain ⟨x,y,rfl,_⟩:=h;rfl
  .obtain ⟨x,y,rfl,hlike,q⟩:=h;refine(_,(j3 ((t_ ((wM (uV (vU T.isinst T.tuple boot_tuple (pv 1))) (zK (uV (vU T.isinst T.list boot_list (pv 1))))).pt) ((j3 ((t_ ((wM (zZ (vU T.isinst T.tuple boot_tuple (pv 0)) (vU T.isinst T.tuple boot_tuple (pv 1))) (zK (zZ (vU T.isinst T.list boot_list (pv 0)) (vU T.isinst T.list boot_list (pv 1))))).pt) ((kd (n6 vD))) (t6))) (j3 ((t_ (zZ (wa T.len (pv 0)) (wa T.len (pv 1))) ((kd (n6 vD))) (t6))) (j3 ((wI PassesOwn.never rfl (ze rfl T.range (m_ (wa T.len (pv 1)))) (v5 2 sc__law_same.nd) ((kd ((t_ (xE (uV (ri R W (pu (nT m3 (pv 0) (pv 2) (λ_ _=>rfl)) (nT m3 (pv 1) (pv 2) (λ_ _=>rfl)))))) ((kd (n6 vD))) (t6))))))) (kd (n6 vD)))))) (t6))) (j3 ((t_ (uV (vU T.isinst T.bool boot_bool (pv 1))) ((kd (n6 (xF (vU T.isinst T.bool boot_bool (pv 0)) (w_ (xR zg (pv 0) (pv 1) (vz _))))))) (t6))) (j3 ((t_ (uV (vU T.isinst T.int boot_int (pv 1))) ((kd (n6 (xF (vU T.isinst T.int boot_int (pv 0)) (xF (bB (vU T.isinst T.bool boot_bool (pv 0))) (w_ (xR zg (pv 0) (pv 1) (vz _)))))))) (t6))) (j3 ((t_ (uV (vU T.isinst T.str boot_str (pv 1))) ((kd (n6 (xF (vU T.isinst T.str boot_str (pv 0)) (w_ (xR zg (pv 0) (pv 1) (vz _))))))) (t6))) (kd (ms)))))),?_);have v:(x=y/\bJ x=true)\/∃d' p q xs ys,d=d'+1/\x=.ref p/\y=.ref q/\((H p=some (.tup xs)/\H q<*.tup ys)\/(H p=some (.lst xs)/\H q<*.lst ys))/\xs.length=ys.length/\xs.length≤2100/\∀(i:Nat)(x y:V),xs[i]?<*x->ys[i]?<*y->eG H d' x y:=by
    cases d with
    |zero=>exact .inl hlike
    |succ d'=>exact hlike.elim .inl λ⟨p,q,xs,ys,h⟩=>.inr (d',p,q,xs,ys,rfl,h)
   rcases v with⟨rfl,Z⟩|⟨d',p,g,xs,ys,O,rfl,rfl,u,k,L,m⟩
   .cases x with
    |bl b=>
     refine(_,rfl,_,_,_,rfl,af.bl _,qV K,_,rfl,ae (_,rfl,_,_,_,rfl,af.bl _,qW K,_,rfl,ae ?_));refine(_,rfl,_,_,_,rfl,af.bl _,xq K,_,rfl,ai (_,rfl,_,_,_,rfl,af.bl _,xq K,_,rfl,ai (_,rfl,_,rfl,rfl,?_)));show Q (.bl (decide (V.bl b=V.bl b))) H;rw[decide_eq_true rfl];exact q
    |int b=>
     refine(_,rfl,_,_,_,rfl,af.int _,qT K,_,rfl,ae (_,rfl,_,_,_,rfl,af.int _,qU K,_,rfl,ae ?_));refine(_,rfl,_,_,_,rfl,af.int _,iE K,_,rfl,ae ?_);refine(_,rfl,_,_,_,rfl,af.int _,iD K,_,rfl,ai (_,rfl,_,_,_,rfl,af.int _,iD K,_,rfl,ai (_,rfl,_,_,_,rfl,af.int _,iE K,_,rfl,_,rfl,ai (_,rfl,_,rfl,rfl,?_))));show Q (.bl (decide (V.int b=V.int b))) H;rw[decide_eq_true rfl];exact q
    |str b=>
     refine(_,rfl,_,_,_,rfl,af.str _,qP K,_,rfl,ae (_,rfl,_,_,_,rfl,af.str _,qQ K,_,rfl,ae ?_));refine(_,rfl,_,_,_,rfl,af.str _,qS K,_,rfl,ae ?_);refine(_,rfl,_,_,_,rfl,af.str _,qR K,_,rfl,ae ?_);refine(_,rfl,_,_,_,rfl,af.str _,xr K,_,rfl,ai (_,rfl,_,_,_,rfl,af.str _,xr K,_,rfl,ai (_,rfl,_,rfl,rfl,?_)));show Q (.bl (decide (V.str b=V.str b))) H;rw[decide_eq_true rfl];exact q
    |_=>exact absurd (show false=true from Z) Bool.false_ne_true
   .have hseq1:lb K H p xs\/pa K H p xs:=u.elim (λz=>.inr (pa.of z.1)) (λz=>.inl (lb.of z.1));have a:lb K H g ys\/pa K H g ys:=u.elim (λz=>.inr (pa.of z.2)) (λz=>.inl (lb.of z.2));rcases u with⟨hp,j⟩|⟨hp,j⟩
    .refine (_,rfl,_,_,_,rfl,af.tup j,(xW K).1,_,rfl,ai (ai ?_));refine(_,rfl,_,_,_,rfl,af.tup hp,(xW K).1,_,rfl,_,_,_,rfl,af.tup j,(xW K).1,rfl,_,rfl,xp rfl (_,rfl,_,_,_,rfl,af.tup hp,mZ K,_,rfl,_,_,_,rfl,af.tup j,mZ K,rfl,_,rfl,xp rfl ?_));refine(_,rfl,p,xs,rfl,hseq1,_,rfl,g,ys,rfl,a,rfl,_,rfl,xp (by rw[k]) ?_);refine(_,rfl,g,ys,rfl,a,_,rfl,!6,!6,?_);refine z7 (n:=ys.length) (λi o H'=>∃t,o=[some (.ref p),some (.ref g),t]/\H'=H) (none,rfl,rfl) ?_ ?_
     .rintro i o M Y⟨t,rfl,rfl⟩;have D:=j1 (l:=xs) (i:=i) (!6);have C:=j1 (l:=ys) (i:=i) (!2);have e:vt xs (0+(i:Int))<*xs[i]:=by rw[Int.zero_add];exact vJ D
      have c:vt ys (0+(i:Int))<*ys[i]:=by rw[Int.zero_add];exact vJ C
      exact(_,rfl,_,rfl,.inr (.inl (p,xs,_,_,rfl,rfl,pa.of hp,e,_,rfl,_,rfl,.inr (.inl (g,ys,_,_,rfl,rfl,pa.of j,c,G d' _ _ _ _ _ O (m i _ _ D C) (_,rfl,ae (_,rfl,rfl)))))))
     .rintro o M⟨t,rfl,rfl⟩;exact q
    .refine (_,rfl,_,_,_,rfl,af.lst j,iC K,_,rfl,ae (_,rfl,_,_,_,rfl,af.lst j,(xW K).2.1,_,rfl,ai ?_));refine(_,rfl,_,_,_,rfl,af.lst hp,iC K,_,rfl,_,_,_,rfl,af.lst j,iC K,rfl,_,rfl,xp rfl (_,rfl,_,_,_,rfl,af.lst hp,(xW K).2.1,_,rfl,_,_,_,rfl,af.lst j,(xW K).2.1,rfl,_,rfl,xp rfl ?_));refine(_,rfl,p,xs,rfl,hseq1,_,rfl,g,ys,rfl,a,rfl,_,rfl,xp (by rw[k]) ?_);refine(_,rfl,g,ys,rfl,a,_,rfl,!6,!6,?_);refine z7 (n:=ys.length) (λi o H'=>∃t,o=[some (.ref p),some (.ref g),t]/\H'=H) (none,rfl,rfl) ?_ ?_
     .rintro i o M Y⟨t,rfl,rfl⟩;have D:=j1 (l:=xs) (i:=i) (!6);have C:=j1 (l:=ys) (i:=i) (!2);have e:vt xs (0+(i:Int))<*xs[i]:=by rw[Int.zero_add];exact vJ D
      have c:vt ys (0+(i:Int))<*ys[i]:=by rw[Int.zero_add];exact vJ C
      exact(_,rfl,_,rfl,.inl (p,xs,_,_,rfl,rfl,lb.of hp,e,_,rfl,_,rfl,.inl (g,ys,_,_,rfl,rfl,lb.of j,c,G d' _ _ _ _ _ O (m i _ _ D C) (_,rfl,ae (_,rfl,rfl)))))
     .rintro o M⟨t,rfl,rfl⟩;exact q
 have all:∀d:Nat,aa P w K mg base nq (d+1) f B ["_law_found","_law_due"] (BO d):=by
  intro d;induction d with
  |zero=>exact step 0 (λ_ _ _ _=>False) (f,B,N,F.kp,I,(λ_ _ _ _ h=>h.elim,λ_ _ _ _ _ _ _ _ _ _ _ _ _ h=>h.elim)) (λd' _ _ _ _ _ h=>by cases h)
  |succ d U=>exact step (d+1) (BO d) (f,B,N,F.kp,I,U) (λd' x y H Q E h X q=>by cases h;exact(x,y,rfl,X,q))
 exact all 3
theorem c_I:s_ ["_law_machine_here","_law_room","_law_word","_law_sign"] ["_law_machine_here","_law_room","_law_word"] (h7 Ep):=uH
theorem FL(F:tS K "_law_after" "_law_after" Ep f z)(T:Txt K mg cA_ cB_ cC_ cD_ cE_ cF_ cG_ cH_ cI_ cJ_ cK_):aa P w K mg base nq 1 f z ["_law_machine_here","_law_room","_law_word"] sp_after:=by
 refine F.okA c_I ?_;rintro _ _ _ _ H _ _ _ _⟨m,L,W,B,r,w,rfl,u,h,l,hw,q⟩;obtain⟨I,mk,a,h1,h2,J,y,v⟩:=u;refine(_,(j3 ((wI PassesOwn.never rfl (bA (pv 2)) (v5 3 c_I.nd) ((kd ((oI 1 c_I.nd (wK (wK (p' 0) (pv 1)) (be plainAttrs_str slot_str_find type_str_find Ct (p' 0) (m_ (pv 3)))))))))) (kd (n6 (pv 1)))),?_);refine(_,rfl,_,rfl,Cs (x:=tx w) (λi j H'=>∃k,j=[some (.ref m),some (.int (run L W r (w.take i):Nat)),some (.str (tx w)),k]/\H'=H) (none,rfl,rfl) ?_ ?_)
 .rintro i c j G n⟨k,rfl,rfl⟩;rw[dh]at n;have g:c∈L:=hw c (uM n);have e:=vQ h (w:=w.take i) l λd t=>hw d (List.mem_of_mem_take t);obtain⟨ws,x,E,D,C,M⟩:=h.at e g;obtain⟨o,b⟩:∃o,a[run L W r (w.take i)]?<*o:=(a[run L W r (w.take i)]'(!6),by simp[y,e]);obtain⟨s,p,A⟩:=v _ _ b;rw[E]at p;cases p;refine(o_ h1 ax (_,rfl,v6 h2 (vZ V.ref b) (o_ h1 aw (rfl,_,rfl,_,_,rfl,rfl,?_))));rw[Cv g];refine(v6 A (vZ _ D) ?_);refine(some (.str ⟨#[c]⟩),?_,rfl);show[some (V.ref m),some (V.int ((x:Nat):Int)),some (V.str (tx w)),some _]=_;rw[take_add_one,n];show _=[some (V.ref m),some (V.int ((run L W r (w.take i++[c]):Nat):Int)),some (V.str (tx w)),some (V.str ⟨#[c]⟩)];rw[xV,C]
 .rintro j G⟨k,rfl,rfl⟩;rw[vn,take_length];exact(_,rfl,q)
theorem FM:s_ ["_law_machine_here","_law_word"] ["_law_machine_here","_law_word"] (h7 Er):=uH
theorem FN(F:tS K "_law_takes" "_law_takes" Er f i)(T:Txt K mg cA_ cB_ cC_ cD_ cE_ cF_ cG_ cH_ cI_ cJ_ cK_)(e:Df P w K mg base "_law_after" 1 ["_law_machine_here","_law_room","_law_word"] sp_after):aa P w K mg base nq 2 f i ["_law_machine_here","_law_word"] sp_ltakes:=by
 refine F.okA FM ?_;rintro _ _ _ _ _ _ _ _ g⟨m,L,W,B,v,rfl,d,a,c,q⟩;refine(_,(kd (n6 (wK (p' 0) ((ri e g (vg (pv 0) (c_) (pv 1))))))),?_);obtain⟨k,mk,b,h1,h2,h,n,l⟩:=id d;have j:=vQ a (w:=v) a.n1 c;exact(o_ h1 ay (_,rfl,_,rfl,m,L,W,B,0,v,rfl,d,a,a.n1,c,v6 h (x9 (bL a.bl j)) q))
theorem FO:s_ ["_law_found","_law_letters_here"] ["_law_found","_law_letters_here"] (h7 Es):=uH
theorem FP(F:tS K "_law_is_word" "_law_is_word" Es f j)(T:Txt K mg cA_ cB_ cC_ cD_ cE_ cF_ cG_ cH_ cI_ cJ_ cK_):aa P w K mg base nq 1 f j ["_law_found","_law_letters_here"] sp_isword:=by
 refine F.okA FO ?_;rintro _ _ _ _ _ _ _ _ _⟨L,w,rfl,hw,k,q⟩;refine(_,(kd (n6 (xF (vx (EL (T:="str") (b:=true)) (!4) T.isinst boot_isinstance (pu (pv 0) (Ci (v:=.ty "str") (!4) T.str boot_str rfl)))
  (w_ (xR zg (wa T.len (yS ["_law_found","_law_letters_here"] rfl (!0) (bA (pv 0)) (λm C l s' H'=>(dC (wt dH (pv 0) (pv 2) (by with_unfolding_all rfl)),pv 0)))) c_ (vz _)))))),?_)
 refine(_,rfl,_,_,rfl,af.str _,by with_unfolding_all rfl,_,rfl,ai ?_);dsimp only[zf,vX,vq];refine gE (x:=tx w) (λc=>!decide (c∈L)) (!4) (o9 (by rw[vn];exact le_trans k (!0))) (λi c H' R a g=>?_) (λD h=>?_)
 .refine (_,rfl,_,rfl,_,_,rfl,rfl,_,rfl,?_);have e:=d9 L c;unfold Txt.contains at e;rw[e];exact g
 .refine (D,_,rfl,.inl (lb.of j'),rfl,?_);have e:((tx w).cps.toList.filter λc=>!decide (c∈L))=[]:=by
   rw[zk,List.filter_eq_nil_iff];intro c a;simp[hw c a]
  have d:decide (V.int (((((tx w).cps.toList.filter λc=>!decide (c∈L)).map λc=>V.str ⟨#[c]⟩).length:Nat):Int)=V.int 0)=true:=by
   rw[e];rfl
  rw[d];exact q _ (a'.upd h)
theorem FQ:s_ ["_law_kind","_law_machine_here","_law_second"] ["_law_kind","_law_machine_here","_law_second"] (h7 Et):=uH
theorem FR(F:tS K "_law_joined" "_law_joined" Et f Y)(T:Txt K mg cA_ cB_ cC_ cD_ cE_ cF_ cG_ cH_ cI_ cJ_ cK_)(S:vk P w K mg base "either" 7 [Q0,Q3] (bj cH_ ts (xA (λa b=>a||b))))(R:vk P w K mg base "both" 7 [Q0,Q3] (bj cH_ ts (xA (λa b=>a&&b))))(W:vk P w K mg base "less" 7 [Q0,Q3] (bj cH_ ts (xA (λa b=>a&&!b))))(U:vk P w K mg base "outside" 7 [Q0] (dw cH_ ts cc))(N:vk P w K mg base "then" 8 [Q0,Q3] (bj cH_ ts A4))(O:vk P w K mg base "again" 8 [Q0] (dw cH_ ts Ag))(M:vk P w K mg base "turned" 8 [Q0] (dw cH_ ts BH)):aa P w K mg base (ve P w) 9 f Y ["_law_kind","_law_machine_here","_law_second"] (ED cH_ ts):=by
 refine F.okX FQ (λX H Q E h=>?_) (λcdv A B s H X Q E y h=>?_)
 .obtain ⟨k,m,u,L,p,v,r,x,rfl,_⟩:=h;rfl
 .obtain ⟨k,m,u,L,p,v,r,x,rfl,Z,c,d,l,n,g,o,t,qE,q⟩:=h;have i:=y.mono (j:=7) (!0);refine(_,(j3 ((t_ (yA (pv 0) c_) ((kd (n6 (wS S i (wR λ_ _ _ z=>z) (pu (pv 1) (pv 2)))))) (t6))) (j3 ((t_ (yA (pv 0) c_) ((kd (n6 (wS R i (wR λ_ _ _ z=>z) (pu (pv 1) (pv 2)))))) (t6))) (j3 ((t_ (yA (pv 0) c_) ((kd (n6 (wS W i (wR λ_ _ _ z=>z) (pu (pv 1) (pv 2)))))) (t6))) (j3 ((t_ (yA (pv 0) c_) ((kd (n6 (wS U i (wR λ_ _ _ z=>z) (m_ (pv 1)))))) (t6))) (j3 ((t_ (yA (pv 0) c_) ((kd (n6 (wS N y (wR λ_ _ _ z=>z) (pu (pv 1) (pv 2)))))) (t6))) (j3 ((t_ (yA (pv 0) c_) ((kd (n6 (wS O y (wR λ_ _ _ z=>z) (m_ (pv 1)))))) (t6))) (kd (n6 (wS M y (wR λ_ _ _ z=>z) (m_ (pv 1))))))))))),?_);refine(_,rfl,rfl,_,rfl,aI (λe=>?_) (λJ=>?_))
  .obtain rfl:k=0:=by have:=V.int.inj e;lia
   exact(_,rfl,_,rfl,m,u,L,p,v,r,x,rfl,c,d,l,n,g,o,t,qE,q)
  have J:k≠0:=λz=>J (by rw[z];rfl);refine(_,rfl,rfl,_,rfl,aI (λe=>?_) (λn1=>?_))
  .obtain rfl:k=1:=by have:=V.int.inj e;lia
   exact(_,rfl,_,rfl,m,u,L,p,v,r,x,rfl,c,d,l,n,g,o,t,qE,q)
  have n1:k≠1:=λz=>n1 (by rw[z];rfl);refine(_,rfl,rfl,_,rfl,aI (λe=>?_) (λI=>?_))
  .obtain rfl:k=2:=by have:=V.int.inj e;lia
   exact(_,rfl,_,rfl,m,u,L,p,v,r,x,rfl,c,d,l,n,g,o,t,qE,q)
  have I:k≠2:=λz=>I (by rw[z];rfl);refine(_,rfl,rfl,_,rfl,aI (λe=>?_) (λG=>?_))
  .obtain rfl:k=3:=by have:=V.int.inj e;lia
   exact(_,rfl,m,L,p,r,rfl,c,d,g,t,qE,q)
  have G:k≠3:=λz=>G (by rw[z];rfl);refine(_,rfl,rfl,_,rfl,aI (λe=>?_) (λD=>?_))
  .obtain rfl:k=4:=by have:=V.int.inj e;lia
   exact(_,rfl,_,rfl,m,u,L,p,v,r,x,rfl,c,d,l,n,g,o,t,qE,q)
  have D:k≠4:=λz=>D (by rw[z];rfl);refine(_,rfl,rfl,_,rfl,aI (λe=>?_) (λC=>?_))
  .obtain rfl:k=5:=by have:=V.int.inj e;lia
   exact(_,rfl,m,L,p,r,rfl,c,d,g,t,qE,q)
  have C:k≠5:=λz=>C (by rw[z];rfl);obtain rfl:k=6:=by lia
  exact(_,rfl,m,L,p,r,rfl,c,d,g,t,qE,q)
theorem e_e:s_ ["_law_e","_law_found"] ["_law_e"] (h7 Eu):=uH
theorem FS(F:tS K "_law_kinds" "_law_kinds" Eu f b)(T:Txt K mg cA_ cB_ cC_ cD_ cE_ cF_ cG_ cH_ cI_ cJ_ cK_):aa P w K mg base nq 1 f b ["_law_e"] (bW cH_):=by
 refine F.okA e_e ?_;rintro _ _ _ _ _ _ _ _ _⟨e,dd,rfl,a,q⟩;refine(_,(j3 ((oI 1 e_e.nd (wc zN))) (j3 ((t_ ((uV (vx (zq (D:=.ref cB_) (d:=.ref cB_) rfl (λ_ h=>h)) (!4) T.isinst boot_isinstance (pu (pv 0) (xQ (v:=.ref cB_) (!4) T.kB_ rfl))))) ((kd (vI (wb (pv 1) (wH))))) (t6))) (j3 ((t_ ((uV (vx (zq (D:=.ref cC_) (d:=.ref cC_) rfl (λ_ h=>h)) (!4) T.isinst boot_isinstance (pu (pv 0) (xQ (v:=.ref cC_) (!4) T.kC_ rfl))))) ((kd (vI (wb (pv 1) (wH))))) (t6))) (j3 ((t_ ((uV (vx (zq (D:=.ref cD_) (d:=.ref cD_) rfl (λ_ h=>h)) (!4) T.isinst boot_isinstance (pu (pv 0) (xQ (v:=.ref cD_) (!4) T.kD_ rfl))))) ((kd (vI (wb (pv 1) (wH))))) (t6))) (j3 ((t_ ((uV (vx (zq (D:=.ref cE_) (d:=.ref cE_) rfl (λ_ h=>h)) (!4) T.isinst boot_isinstance (pu (pv 0) (xQ (v:=.ref cE_) (!4) T.kE_ rfl))))) ((kd (vI (wb (pv 1) (wH))))) (t6))) (j3 ((t_ ((uV (vx (zq (D:=.ref cF_) (d:=.ref cF_) rfl (λ_ h=>h)) (!4) T.isinst boot_isinstance (pu (pv 0) (xQ (v:=.ref cF_) (!4) T.kF_ rfl))))) ((kd (vI (wb (pv 1) (wH))))) (t6))) (j3 ((t_ ((uV (vx (zq (D:=.ref cG_) (d:=.ref cG_) rfl (λ_ h=>h)) (!4) T.isinst boot_isinstance (pu (pv 0) (xQ (v:=.ref cG_) (!4) T.kG_ rfl))))) ((kd (vI (wb (pv 1) (wH))))) (t6))) (j3 ((t_ ((uV (vx (zq (D:=.ref cH_) (d:=.ref cH_) rfl (λ_ h=>h)) (!4) T.isinst boot_isinstance (pu (pv 0) (xQ (v:=.ref cH_) (!4) T.kH_ rfl))))) ((kd (vI (wb (pv 1) (wH))))) (t6))) (j3 ((t_ ((uV (vx (zq (D:=.ref cI_) (d:=.ref cI_) rfl (λ_ h=>h)) (!4) T.isinst boot_isinstance (pu (pv 0) (xQ (v:=.ref cI_) (!4) T.kI_ rfl))))) ((kd (vI (wb (pv 1) (wH))))) (t6))) (j3 ((t_ ((uV (vx (zq (D:=.ref cJ_) (d:=.ref cJ_) rfl (λ_ h=>h)) (!4) T.isinst boot_isinstance (pu (pv 0) (xQ (v:=.ref cJ_) (!4) T.kJ_ rfl))))) ((kd (vI (wb (pv 1) (wH))))) (t6))) (j3 ((t_ ((uV (vx (zq (D:=.ref cK_) (d:=.ref cK_) rfl (λ_ h=>h)) (!4) T.isinst boot_isinstance (pu (pv 0) (xQ (v:=.ref cK_) (!4) T.kK_ rfl))))) ((kd (vI (wb (pv 1) (wH))))) (t6))) (j3 ((t_ (xE (uV (vx (zq (D:=.type "ValueError") (d:=.ty "ValueError") rfl (λ_ h=>h)) (!4) T.isinst boot_isinstance (pu (pv 0) (Ci (v:=.ty "ValueError") (!4) T.verr ly rfl))))) ((kd (vI (wb (pv 1) (wH))))) (t6))) (kd (n6 (pv 1))))))))))))))),?_);refine(zero_le _,λp hp=>?_);refine(_,rfl,e,_,_,_,rfl,p_ a hp,T.eH_,T.iHB_,_,rfl,ae ?_);refine(_,rfl,e,_,_,_,rfl,p_ a hp,T.eH_,T.iHC_,_,rfl,ae ?_);refine(_,rfl,e,_,_,_,rfl,p_ a hp,T.eH_,T.iHD_,_,rfl,ae ?_);refine(_,rfl,e,_,_,_,rfl,p_ a hp,T.eH_,T.iHE_,_,rfl,ae ?_);refine(_,rfl,e,_,_,_,rfl,p_ a hp,T.eH_,T.iHF_,_,rfl,ae ?_);refine(_,rfl,e,_,_,_,rfl,p_ a hp,T.eH_,T.iHG_,_,rfl,ae ?_);refine(_,rfl,e,_,_,_,rfl,p_ a hp,T.eH_,T.iHH_,_,rfl,ai (_,rfl,.inl (rfl,_,lb.of j'),p,_,_,rfl,rfl,j',Cr (!0),?_));rw[Ba];refine(_,rfl,e,_,_,_,rfl,p_ a hp,T.eH_,T.iHI_,_,rfl,ae ?_);refine(_,rfl,e,_,_,_,rfl,p_ a hp,T.eH_,T.iHJ_,_,rfl,ae ?_);refine(_,rfl,e,_,_,_,rfl,p_ a hp,T.eH_,T.iHK_,_,rfl,ae ?_);exact(_,rfl,e,_,_,_,rfl,p_ a hp,T.eH_,T.vH_,_,rfl,ae (_,rfl,q p _ (a'.upd hp) j'))
theorem b_n:s_ ["_law_kind","_law_machine_here","_law_second","_law_found","_law_caught","_law_e"] ["_law_kind","_law_machine_here","_law_second"] (h7 Ev):=uH
theorem wG(F:tS K "_law_told" "_law_told" Ev f Z)(T:Txt K mg cA_ cB_ cC_ cD_ cE_ cF_ cG_ cH_ cI_ cJ_ cK_)(TM:Cc K mg cH_ cA_ fX fdX)(O:vk P w K mg base "_law_joined" 9 ["_law_kind","_law_machine_here","_law_second"] (ED cH_ ts)):aa P w K mg base nq 10 f Z ["_law_kind","_law_machine_here","_law_second"] (bU cH_ ts):=by
 refine F.okA b_n ?_;rintro _ _ _ _ H _ _ _ S⟨k,m,D,L,I,G,M,J,rfl,U,n,t,l,r,u,s,X,q⟩;refine(_,(j3 ((oI 3 b_n.nd (AR))) (j3 ((oI 4 b_n.nd (AR))) (BS ((oV (i:=5) (R:=cA_) (rfl,rfl,rfl,b_n.nd,rfl,rfl,Or.inl rfl,Or.inl rfl,!4,T.kA_,λv=>(kd ((oI 4 b_n.nd (pv 5)))),!0) (qx (j:=3) b_n.nd O S (vg (pv 0) (pv 1) (pv 2)) rfl (Or.inl rfl)))) (kd (n6 (yC (pu (pv 3) (pv 4)))))))),?_);refine⟨λh H'=>∃g b,h=[some (.int (k:Int)),some (.ref m),some (.ref D),some g,some b,none]/\qc cH_ ts H L (BI k (ub L I M) (ub L G J)) g b H',?_,?_⟩
 .exact (_,rfl,_,rfl,_,rfl,k,m,D,L,I,G,M,J,rfl,U,n,t,l,r,u,s,X,λd H' a Q=>(TM.exr,λe E=>(_,rfl,_,_,rfl,a.trans (KT.of (a'.upd E)),.inl (rfl,e,d,rfl,j',Q.same (a'.upd E)))),λf B C H' a W o Y cn=>(_,_,rfl,a,.inr (rfl,f,B,C,rfl,W,o,Y,cn)))
 rintro N H1⟨g,b,rfl,a,c⟩;refine(_,rfl,_,rfl,o9 (by show 2≤16777216;decide),λp hp=>q p g b _ (a.trans (KT.of (a'.upd hp)),?_) j');rcases c with⟨A,e,d,z,y,x⟩|⟨A,f,B,C,z,y,x⟩
 .exact .inl (A,e,d,z,p_ y hp,x.same (a'.upd hp))
 .exact .inr (A,f,B,C,z,y.same (a'.upd hp),x)
theorem d_O:s_ ["_law_machine_here","_law_there","_law_k","_law_after_here","_law_room"] ["_law_machine_here","_law_there","_law_k"] (h7 Ew):=uH
theorem w9(F:tS K "_law_led" "_law_led" Ew f fd)(T:Txt K mg cA_ cB_ cC_ cD_ cE_ cF_ cG_ cH_ cI_ cJ_ cK_):aa P w K mg base nq 1 f fd ["_law_machine_here","_law_there","_law_k"] sp_led:=by
 refine F.okA d_O ?_;rintro _ _ _ _ H _ _ _ _⟨m,z,L,W,B,y,k,rfl,Y,g,e,t,S,q⟩;refine(_,(j3 (BB ["_law_machine_here","_law_there","_law_k","_law_after_here","_law_room"] (j:=3) rfl d_O.nd (!0) rfl (Or.inl rfl) (xg (pv 1)) (λcl C fp s' H'=>(vY,vD))) (j3 ((wI PassesOwn.never rfl (ze rfl T.range (m_ (wa T.len (pv 1)))) (v5 4 d_O.nd) ((kd ((t_ (uV (u6 (pv 1) (pv 4))) ((kd (Bb vD (vM (pv 3) (wK (wK (p' 0) (pv 4)) (pv 2)) Dk)))) (t6))))))) (kd (n6 (pv 3))))),?_);obtain⟨wy,mk,O,h1,h2,h3,h4,Z⟩:=id Y;have E:=g.n60;have b:(y.map V.bl).length=W.length:=by rw[j_,t]
 dsimp only[vW,tNext,aF,aD];refine x8 (a:=z) (λR h=>(_,rfl,h)) (.inl rfl) e (λD j ys H'=>ys=(replicate j false).map V.bl) (by rw[b];exact o9 (le_trans E (!0))) (λD U=>rfl) ?_ ?_
 .intro D j x ys H' R1 R2 U hx G M hp k1 k2;refine i_ (k1 _ H' M (a'.set G U) ?_);rw[hp,List.replicate_succ',map_append];rfl
 intro v ys H2 s s2 N hp;rw[b]at hp;subst hp;refine(_,rfl,z,_,rfl,.inl (lb.of (s2 _ _ e)),_,rfl,!6,!6,?_);refine z7 (n:=(((y.map V.bl).length:Nat):Int).toNat) (λi d H'=>∃(l:List Bool)(A:Option V),d=[some (.ref m),some (.ref z),some (.int (k:Int)),some (.ref v),A]/\a' H H'/\H' v=some (.lst (l.map V.bl))/\zY W k i y l) (_,none,rfl,s2,N,zY.zero) ?_ ?_
 .rintro i d X r⟨l,A,rfl,c,u,o⟩;rw[b,toNat_natCast]at r;refine(_,rfl,_,rfl,u_ (c _ _ e) (by rw[Int.zero_add];exact x9 (by rw[t];exact r)) (_,rfl,?_));cases Q:y.getD i false with
  |false=>exact ae (l,_,rfl,c,u,o.no Q)
  |true=>
   obtain⟨ra,I,p⟩:=ol.row h4 Z r;have J:=wu g r S;refine ai (_,rfl,o_ (c _ _ h1) ax (_,rfl,v6 (c _ _ h2) (by rw[Int.zero_add];exact vZ V.ref I) (_,rfl,v6 (c _ _ p) (xh (by rw[(xv g r).1];exact S)) (v,_,_,goal W i k,rfl,rfl,u,?_,?_))))
   .exact iJ (!6) (by rw[j_,o.1];exact ofNat_lt.mpr J)
   .exact (l.set (goal W i k) true,_,rfl,a'.set c s,by rw[j',List.map_set],o.yes Q)
 .rintro d X⟨l,A,rfl,c,u,o⟩;rw[b,toNat_natCast]at o;exact(_,rfl,q v l X c s u o)
theorem d_G:s_ ["_law_machine_here","_law_there","_law_room"] ["_law_machine_here","_law_there"] (h7 Ex):=uH
theorem FT(F:tS K "_law_marked" "_law_marked" Ex f G)(T:Txt K mg cA_ cB_ cC_ cD_ cE_ cF_ cG_ cH_ cI_ cJ_ cK_):aa P w K mg base nq 1 f G ["_law_machine_here","_law_there"] sp_marked:=by
 refine F.okA d_G ?_;rintro _ _ _ _ H _ _ _ x⟨m,s,L,W,B,d,rfl,D,k,e,j,q⟩;refine(_,(j3 ((wI PassesOwn.never rfl (ze rfl T.range (m_ (wa T.len (pv 1)))) (v5 2 d_G.nd) ((kd ((t_ ((mq (uV (u6 (pv 1) (pv 2))) (jm (uV (wK (p' 0) (pv 2))))).pt) ((kd (n6 vD))) (t6))))))) (kd (n6 vD))),?_);obtain⟨J,mk,t,h1,h2,E,N,M⟩:=id D;have C:=k.n60;have g:(d.map V.bl).length=W.length:=by rw[j_,j]
 refine(_,rfl,s,_,rfl,.inl (lb.of e),_,rfl,!6,!6,?_);refine z7 (n:=(((d.map V.bl).length:Nat):Int).toNat) (λi c H'=>∃(s2:Option V),c=[some (.ref m),some (.ref s),s2]/\H'=H/\∀r,r<i->¬ (d.getD r false=true/\B.getD r false=true)) (none,rfl,rfl,λr h=>absurd h (Nat.not_lt_zero r)) ?_ ?_
 .rintro i c I l⟨s2,rfl,rfl,o⟩;rw[g,toNat_natCast]at l;have u:¬ (d.getD i false=true/\B.getD i false=true)->∀r,r<i+1->¬ (d.getD r false=true/\B.getD r false=true):=λz r x=>by
   rcases Nat.lt_succ_iff_lt_or_eq.mp x with y|y
   .exact o r y
   .rw [y];exact z
  refine(_,rfl,_,rfl,u_ e (by rw[Int.zero_add];exact x9 (by rw[j];exact l)) (_,rfl,?_));cases v:d.getD i false with
  |false=>exact ae (ae (_,rfl,rfl,u λz=>by rw[v]at z;cases z.1))
  |true=>
   refine ai (o_ h1 ay (_,rfl,v6 E (by rw[Int.zero_add];exact x9 (by rw[k.bl];exact l)) (_,rfl,?_)));cases A:B.getD i false with
   |false=>exact ae (_,rfl,rfl,u λz=>by rw[A]at z;cases z.2)
   |true=>exact ai (q true (λ_=>(i,l,v,A),λ_=>rfl))
 .rintro c I⟨s2,rfl,rfl,o⟩;rw[g,toNat_natCast]at o;exact q false (λz=>(nomatch z),λp=>by obtain⟨r,a,b⟩:=p;exact absurd b (o r a))
theorem a_P:s_ ["_law_machine_here","_law_second","_law_word","_law_room","_law_there","_law_sign"] ["_law_machine_here","_law_second","_law_word"] (h7 Ey):=uH
theorem FU(F:tS K "_law_in_then" "_law_in_then" Ey f fd)(T:Txt K mg cA_ cB_ cC_ cD_ cE_ cF_ cG_ cH_ cI_ cJ_ cK_)(yg:Df P w K mg base "_law_led" 1 ["_law_machine_here","_law_there","_law_k"] sp_led)(yj:Df P w K mg base "_law_marked" 1 ["_law_machine_here","_law_there"] sp_marked):aa P w K mg base nq 2 f fd ["_law_machine_here","_law_second","_law_word"] sp_inthen:=by
 refine F.okA a_P ?_;rintro _ _ _ _ H _ _ _ hr⟨m,m2,L,t,M,u,B2,v,rfl,hM,a,hN,g,hv,q⟩;refine(_,(j3 ((oI 3 a_P.nd (c_))) (j3 (BB ["_law_machine_here","_law_second","_law_word","_law_room","_law_there","_law_sign"] (j:=4) rfl a_P.nd (!0) rfl (Or.inl rfl) (ze rfl T.range (m_ (wa T.len (p' 1)))) (λcl C fp s' H'=>(vY,xF (xR zg (pv 0) c_ (vz _)) (w_ (nT (Ad K) (nT (Ad K) (pv 1) c_ (λ_ _=>rfl)) c_ (λ_ _=>rfl)))))) (j3 ((wI PassesOwn.never rfl (bA (pv 2)) (v5 5 a_P.nd) ((j3 ((oI 3 a_P.nd (wK (wK (p' 0) (pv 3)) (be plainAttrs_str slot_str_find type_str_find Ct (p' 0) (m_ (pv 5)))))) (j3 ((oI 4 a_P.nd ((ri yg hr (vg (pv 1) (pv 4) ((be plainAttrs_str slot_str_find type_str_find Ct (p' 0) (m_ (pv 5))))))))) (kd (Bb (jo (u6 (pv 4) c_) (w_ (wK (p' 0) (pv 3)))) (vM (pv 4) c_ Dk)))))))) (kd (n6 (ri yj hr (pu (pv 1) (pv 4)))))))),?_);obtain⟨wy,mk,aA,h1,h2,h3,h4,h5⟩:=id hM;obtain⟨aB,an,ab,g1,g2,g3,g4,g5⟩:=id hN;have ag:=g.n60;dsimp only[vW,tNext,aF,aD,tC];refine BZ (n:=M.length) (λR h=>(o_ g1 ay (an,_,rfl,.inr (pa.of g3),by rw[j_,g.bl];exact h))) ag (λD j ys H'=>ys=((List.range j).map λk=>decide (k=0)&&u.getD 0 false).map V.bl) (λD hD=>rfl) ?_ ?_
 .intro D j ys H' R1 R2 hD hj o Z hp k1 k2;refine i_ (_,rfl,rfl,_,rfl,aI (λe=>?_) (λe=>?_))
  .obtain rfl:j=0:=by have:=V.int.inj e;lia
   refine(o_ (o _ _ h1) ay (mk,_,_,_,rfl,rfl,pa.of (o _ _ h3),x9 (r:=0) (by rw[a.bl];exact a.n1),k1 _ H' Z (a'.set o hD) ?_));rw[hp];rfl
  .have ar:j≠0:=λz=>e (by rw[z];rfl);refine k1 _ H' Z (a'.set o hD) ?_;rw[hp,range_succ,map_append,map_append];show _++[V.bl false]=_++[V.bl (decide (j=0)&&_)];rw[decide_eq_false ar];rfl
 intro gp ys H2 aC s2 as hp;subst hp;have az:Bk L M (λy=>ub L t u y=true) (v.take 0) ((List.range M.length).map λk=>decide (k=0)&&u.getD 0 false):=by
  refine Bk.zero (by rw[j_,length_range]) λr hr=>?_;rw[m8,n',getElem?_range hr];show(decide (r=0)&&u.getD 0 false)=true↔r=0/\u.getD 0 false=true;rw[and_eq_true,decide_eq_true_iff]
 refine(_,rfl,_,rfl,Cs (x:=tx v) (λi A H'=>∃(N:Addr)(S:List Bool)(s5:Option V),A=[some (.ref m),some (.ref m2),some (.str (tx v)),some (.int ((run L t 0 (v.take i):Nat):Int)),some (.ref N),s5]/\a' H H'/\H' N=some (.lst (S.map V.bl))/\Bk L M (λy=>ub L t u y=true) (v.take i) S) (gp,_,none,rfl,s2,as,az) ?_ ?_)
 .rintro i c A H3 hc⟨N,S,s5,rfl,l,I,Q⟩;rw[dh]at hc;have s:c∈L:=hv c (uM hc);have G:∀d∈v.take i,d∈L:=λd hd=>hv d (List.mem_of_mem_take hd);have Y:L.idxOf c<L.length:=idxOf_lt_length_of_mem s;have X:=vQ a (w:=v.take i) a.n1 G;have W:=vQ a (w:=v.take i++[c]) a.n1 λd hd=>by
   rcases mem_append.mp hd with z|z
   .exact G d z
   .rw [uN z];exact s
  obtain⟨ra,ap,U⟩:=ol.row h4 h5 X;refine(o_ (l _ _ h1) ax (_,rfl,v6 (l _ _ h2) (vZ V.ref ap) (o_ (l _ _ h1) aw (rfl,_,rfl,_,_,rfl,rfl,?_))));rw[Cv s];refine(v6 (l _ _ U) (xh (by rw[(xv a X).1];exact Y)) (_,rfl,_,rfl,o_ (l _ _ h1) aw (rfl,_,rfl,_,_,rfl,rfl,?_)));rw[Cv s];refine(m2,N,L,M,B2,S,L.idxOf c,rfl,hN.same l,g,I,Q.1,Y,λp T' H4 s4 hp J E=>?_);have e1:(t.getD (run L t 0 (v.take i)) []).getD (L.idxOf c) 0=run L t 0 (v.take i++[c]):=(xV L t 0 (v.take i) c).symm;rw[e1];have ex:v.take (i+1)=v.take i++[c]:=by rw[take_add_one,hc];rfl
  have n2:=g.n1;have B:=l.trans s4;have nx:∀b:Bool,b=(T'.getD 0 false||u.getD (run L t 0 (v.take i++[c])) false)->a' H (L2.upd H4 p (.lst ((T'.map V.bl).set 0 (.bl b))))/\L2.upd H4 p (.lst ((T'.map V.bl).set 0 (.bl b))) p=some (.lst ((T'.set 0 b).map V.bl))/\Bk L M (λy=>ub L t u y=true) (v.take (i+1)) (T'.set 0 b):=λb O=>
   (a'.set B (Ae l hp),by rw[j',List.map_set],by rw[ex,O];exact Q.step g G E (by unfold ub;exact Iff.rfl))
  refine(_,rfl,p,_,_,_,rfl,rfl,lb.of J,x9 (r:=0) (by rw[E.1];exact n2),_,rfl,?_);have i0:xT (T'.map V.bl).length 0<*0:=iJ (!0) (by rw[j_,E.1];exact ofNat_lt.mpr n2);cases O:T'.getD 0 false with
  |true=>
   obtain⟨x1,x2,x3⟩:=nx true (by rw[O];rfl);exact ai (_,rfl,p,_,_,0,rfl,rfl,J,i0,p,T'.set 0 true,some (.str ⟨#[c]⟩),by rw[ex];rfl,x1,x2,x3)
  |false=>
   obtain⟨x1,x2,x3⟩:=nx _ rfl;rw[O,Bool.false_or]at x1 x2 x3;exact ae (o_ (B _ _ h1) ay (_,rfl,v6 (B _ _ h3) (x9 (by rw[a.bl];exact W)) (_,rfl,p,_,_,0,rfl,rfl,J,i0,p,_,some (.str ⟨#[c]⟩),by rw[ex];rfl,x1,x2,x3)))
 .rintro A H3⟨N,S,s5,rfl,l,I,Q⟩;rw[vn,take_length]at Q;refine(_,rfl,_,rfl,m2,N,L,M,B2,S,rfl,hN.same l,g,I,Q.1,λb O=>q b H3 l (O.trans ((Q.mark g hv).trans ?_)));exact Iff.rfl
theorem a_K:s_ ["_law_machine_here","_law_word","_law_good","_law_there","_law_sign"] ["_law_machine_here","_law_word"] (h7 Ez):=uH
theorem FV(F:tS K "_law_in_again" "_law_in_again" Ez f fd)(T:Txt K mg cA_ cB_ cC_ cD_ cE_ cF_ cG_ cH_ cI_ cJ_ cK_)(yg:Df P w K mg base "_law_led" 1 ["_law_machine_here","_law_there","_law_k"] sp_led)(yj:Df P w K mg base "_law_marked" 1 ["_law_machine_here","_law_there"] sp_marked):aa P w K mg base nq 2 f fd ["_law_machine_here","_law_word"] sp_inagain:=by
 refine F.okA a_K ?_;rintro _ _ _ _ H _ _ _ M⟨m,L,W,B,v,rfl,Z,a,hv,q⟩;refine(_,(j3 ((oI 2 a_K.nd (vD))) (j3 (BB ["_law_machine_here","_law_word","_law_good","_law_there","_law_sign"] (j:=3) rfl a_K.nd (!0) rfl (Or.inl rfl) (ze rfl T.range (m_ (wa T.len (p' 0)))) (λcl C fp s' H'=>(vY,xR zg (pv 0) c_ (vz _)))) (j3 ((wI PassesOwn.never rfl (bA (pv 1)) (v5 4 a_K.nd) ((j3 ((oI 3 a_K.nd ((ri yg M (vg (pv 0) (pv 3) ((be plainAttrs_str slot_str_find type_str_find Ct (p' 0) (m_ (pv 4))))))))) (j3 ((oI 2 a_K.nd ((ri yj M (pu (pv 0) (pv 3)))))) (kd (Bb (jo (u6 (pv 3) c_) (w_ (pv 2))) (vM (pv 3) c_ Dk)))))))) (kd (n6 (pv 2)))))),?_);obtain⟨wy,mk,ap,h1,h2,h3,h4,h5⟩:=id Z;have Q:=a.n60;have n1:=a.n1;dsimp only[vW,tNext,aF,aD,tC];refine BZ (n:=W.length) (λR h=>(o_ h1 ay (mk,_,rfl,.inr (pa.of h3),by rw[j_,a.bl];exact h))) Q (λD j ys H'=>ys=((List.range j).map λk=>decide (k=0)).map V.bl) (λD hD=>rfl) ?_ ?_
 .intro D j ys H' R1 R2 hD hj S ab hp k1 k2;refine i_ (_,rfl,rfl,k1 _ H' ab (a'.set S hD) ?_);rw[hp,range_succ,map_append,map_append];show _++[V.bl _]=_++[V.bl (decide (j=0))];congr 3;by_cases z:j=0
  .subst z;rfl
  .rw [decide_eq_false z,decide_eq_false λy=>z (by have:=V.int.inj y;lia)]
 intro gp ys H2 ar s2 ag hp;subst hp;have an:Bk L W (Ag (ub L W B)) (v.take 0) ((List.range W.length).map λk=>decide (k=0)):=by
  refine Bk.zero (by rw[j_,length_range]) λr M=>?_;rw[m8,n',getElem?_range M];show decide (r=0)=true↔r=0/\_;rw[decide_eq_true_iff];exact(λz=>(z,.nil),λz=>z.1)
 refine(_,rfl,_,rfl,Cs (x:=tx v) (λi o H'=>∃(u:Addr)(J:List Bool)(g:Bool)(O:Option V),o=[some (.ref m),some (.str (tx v)),some (.bl g),some (.ref u),O]/\a' H H'/\H' u=some (.lst (J.map V.bl))/\Bk L W (Ag (ub L W B)) (v.take i) J/\(g=true↔Ag (ub L W B) (v.take i))) (gp,_,true,none,rfl,s2,ag,an,λ_=>.nil,λ_=>rfl) ?_ ?_)
 .rintro i c o H3 Y⟨u,J,g,O,rfl,t,G,N,U⟩;rw[dh]at Y;have s:c∈L:=hv c (uM Y);have E:∀d∈v.take i,d∈L:=λd hd=>hv d (List.mem_of_mem_take hd);have X:L.idxOf c<L.length:=idxOf_lt_length_of_mem s;refine(_,rfl,_,rfl,o_ (t _ _ h1) aw (rfl,_,rfl,_,_,rfl,rfl,?_));rw[Cv s];refine(m,u,L,W,B,J,L.idxOf c,rfl,Z.same t,a,G,N.1,X,λp T' H4 s4 hp l e=>?_);have A:=t.trans s4;refine(_,rfl,_,rfl,m,p,L,W,B,T',rfl,Z.same A,a,l,e.1,λb hb=>?_);have I:=hb.trans (N.good rfl a E s e);have ex:v.take (i+1)=v.take i++[c]:=by rw[take_add_one,Y];rfl
  have nx:∀x:Bool,x=(T'.getD 0 false||b)->a' H (L2.upd H4 p (.lst ((T'.map V.bl).set 0 (.bl x))))/\L2.upd H4 p (.lst ((T'.map V.bl).set 0 (.bl x))) p=some (.lst ((T'.set 0 x).map V.bl))/\Bk L W (Ag (ub L W B)) (v.take (i+1)) (T'.set 0 x)/\(b=true↔Ag (ub L W B) (v.take (i+1))):=λx hx=>
   (a'.set A (Ae t hp),by rw[j',List.map_set],by rw[ex,hx];exact N.step a E e I,by rw[ex];exact I)
  refine(_,rfl,p,_,_,_,rfl,rfl,lb.of l,x9 (r:=0) (by rw[e.1];exact n1),_,rfl,?_);have i0:xT (T'.map V.bl).length 0<*0:=iJ (!0) (by rw[j_,e.1];exact ofNat_lt.mpr n1);cases hz:T'.getD 0 false with
  |true=>exact ai (_,rfl,p,_,_,0,rfl,rfl,l,i0,p,T'.set 0 true,b,_,rfl,nx true (by rw[hz];rfl))
  |false=>
   have x:=nx _ rfl;rw[hz,Bool.false_or]at x;exact ae (_,rfl,_,rfl,p,_,_,0,rfl,rfl,l,i0,p,_,b,_,rfl,x)
 .rintro o H3⟨u,J,g,O,rfl,t,G,N,U⟩;rw[vn,take_length]at U;exact(_,rfl,q g H3 t U)
theorem e_G:s_ ["_law_kind","_law_machine_here","_law_second","_law_word","_law_one","_law_two"] ["_law_kind","_law_machine_here","_law_second","_law_word"] (h7 EA):=uH
theorem xD(F:tS K "_law_in" "_law_in" EA f M)(T:Txt K mg cA_ cB_ cC_ cD_ cE_ cF_ cG_ cH_ cI_ cJ_ cK_)(E:Df P w K mg base "_law_in_then" 2 ["_law_machine_here","_law_second","_law_word"] sp_inthen)(G:Df P w K mg base "_law_in_again" 2 ["_law_machine_here","_law_word"] sp_inagain)(t:Df P w K mg base "_law_takes" 2 ["_law_machine_here","_law_word"] sp_ltakes):aa P w K mg base nq 3 f M ["_law_kind","_law_machine_here","_law_second","_law_word"] sp_in5:=by
 refine F.okA e_G ?_;rintro _ _ _ _ H _ _ _ d⟨k,m,A,L,r,C,s,D,v,rfl,I,p,a,B,o,b,g,q⟩;refine(_,(j3 ((t_ (yA (pv 0) c_) ((kd (n6 (ri E d (vg (pv 1) (pv 2) (pv 3)))))) (t6))) (j3 ((t_ (yA (pv 0) c_) ((kd (n6 (ri G d (pu (pv 1) (pv 3)))))) (t6))) (j3 ((t_ (yA (pv 0) c_) ((kd (n6 (ri t d (pu (pv 1) (fz rfl wH (m_ (pv 3)) (!4) T.reversed)))))) (t6))) (j3 ((oI 4 e_G.nd ((ri t d (pu (pv 1) (pv 3)))))) (j3 ((oI 5 e_G.nd ((ri t d (pu (pv 2) (pv 3)))))) (kd (n6 (u6 (wc (v_ (jo (pv 4) (w_ (pv 5))) (vg (xF (pv 4) (w_ (pv 5))) (xF (pv 4) (w_ (bB (pv 5)))) (bB (pv 4))))) (pv 0))))))))),?_);refine(_,rfl,rfl,_,rfl,aI (λe=>?_) (λy=>?_))
 .obtain rfl:k=4:=by have:=V.int.inj e;lia
  exact(_,rfl,_,rfl,_,rfl,m,A,L,r,C,s,D,v,rfl,p,a,B,o,b,q)
 have y:k≠4:=λz=>y (by rw[z];rfl);refine(_,rfl,rfl,_,rfl,aI (λe=>?_) (λx=>?_))
 .obtain rfl:k=5:=by have:=V.int.inj e;lia
  exact(_,rfl,_,rfl,m,L,r,s,v,rfl,p,a,b,q)
 have x:k≠5:=λz=>x (by rw[z];rfl);refine(_,rfl,rfl,_,rfl,aI (λe=>?_) (λu=>?_))
 .obtain rfl:k=6:=by have:=V.int.inj e;lia
  exact(_,rfl,rfl,_,rfl,v,rfl,by exact le_trans g (!0),m,L,r,s,v.reverse,rfl,p,a,λc J=>b c (List.mem_reverse.mp J),q _ H (a'.refl _) Iff.rfl)
 have u:k≠6:=λz=>u (by rw[z];rfl);refine(_,rfl,_,rfl,m,L,r,s,v,rfl,p,a,b,?_);refine(_,rfl,_,rfl,A,L,C,D,v,rfl,B,o,b,?_);refine Fx (i:=4) (j:=5) rfl rfl (ut (i:=4) (j:=5) rfl rfl (uu (i:=4) (j:=5) rfl rfl (_,rfl,_,rfl,o9 (by show 4≤16777216;decide),λl g=>(_,rfl,?_))));match k,I,y,x,u with
 |0,_,_,_,_=>exact(l,_,_,_,rfl,rfl,lb.of j',vJ (j:=0) rfl,q _ _ (a'.upd g) Iff.rfl)
 |1,_,_,_,_=>exact(l,_,_,_,rfl,rfl,lb.of j',vJ (j:=1) rfl,q _ _ (a'.upd g) Iff.rfl)
 |2,_,_,_,_=>exact(l,_,_,_,rfl,rfl,lb.of j',vJ (j:=2) rfl,q _ _ (a'.upd g) Iff.rfl)
 |3,_,_,_,_=>exact(l,_,_,_,rfl,rfl,lb.of j',vJ (j:=3) rfl,q _ _ (a'.upd g) (by rw[not_eq_true'];exact Iff.rfl))
 |n+7,h,_,_,_=>exact absurd h (!6)
theorem a_D:s_ ["_law_kind","_law_machine_here","_law_second","_law_refused","_law_words","_law_at","_law_one","_law_two","_law_told_here","_law_here"] ["_law_kind","_law_machine_here","_law_second","_law_refused"] (h7 EB):=uH
theorem FW(F:tS K "_law_parted" "_law_parted" EB f fd)(T:Txt K mg cA_ cB_ cC_ cD_ cE_ cF_ cG_ cH_ cI_ cJ_ cK_)(yr:Df P w K mg base "_law_is_word" 1 ["_law_found","_law_letters_here"] sp_isword)(y8:Df P w K mg base "_law_same" 4 ["_law_found","_law_due"] (BO 3))(yi:Df P w K mg base "_law_in" 3 ["_law_kind","_law_machine_here","_law_second","_law_word"] sp_in5):aa P w K mg base nq 5 f fd ["_law_kind","_law_machine_here","_law_second","_law_refused"] sp_parted5:=by
 refine F.okA a_D ?_;rintro _ _ _ _ H _ _ _ hr⟨k,A,D,tl,m,m2,L,W1,W2,B1,B2,g,ta,rfl,hk,hM,ag,hN,ab,e,hD,G,h9,aH,S,aA,q⟩;have X:=hr.mono (j:=1) (!0);have W:=hr.mono (j:=3) (!0);refine(_,(j3 ((t_ ((wM (xE (uV (vU T.isinst T.list boot_list (u6 (pv 3) c_)))) (zK (xE (uV (vU T.isinst T.list boot_list (u6 (pv 3) c_)))))).pt) ((kd (n6 vD))) (t6))) (j3 ((oI 4 a_D.nd (u6 (pv 3) c_))) (j3 ((t_ ((wM (wt wq (u6 (pv 3) c_) AR (vz _)) (wM (zZ (wa T.len (pv 4)) c_) (zK (zZ (wa T.len (u6 (pv 3) c_)) c_)))).pt) ((kd (n6 vD))) (t6))) (j3 ((t_ (xE (uV (vx (cR rfl) (!4) T.all boot_all (m_ (yS ["_law_kind","_law_machine_here","_law_second","_law_refused","_law_words","_law_at","_law_one","_law_two","_law_told_here","_law_here"] rfl (!0) (xg (pv 4)) (λcl C fp s' H'=>(vY,xF (ri yr X (pu (pv 0) (nT (Ad K) (pv 2) c_ (λ_ _=>rfl)))) (w_ (xR js (BJ T.len (pv 0)) c_ (vz _)))))))))) ((kd (n6 vD))) (t6))) (j3 ((oI 5 a_D.nd (c_))) (j3 ((wI PassesOwn.never rfl (ze rfl T.range (m_ c_)) (v5 6 a_D.nd) ((kd ((wI PassesOwn.never rfl (bZ rfl T.range (pu (uQ vO (pv 6) c_) c_)) (v5 7 a_D.nd) ((j3 ((oI 8 a_D.nd (u6 (u6 (pv 3) c_) (pv 5)))) (j3 ((oI 5 a_D.nd (uQ vO (pv 5) c_))) (j3 ((t_ ((wM (xE (uV (vU T.isinst T.tuple boot_tuple (pv 8)))) (wM (zZ (wa T.len (pv 8)) c_) (zK (xE (uV (ri yr X (pu (p' 8) (p' 1)))))))).pt) ((kd (n6 vD))) (t6))) (j3 ((t_ ((wM (xE (uV (ri y8 hr (pu (wc (pu (p' 8) (p' 8))) (wc (pu (pv 6) (pv 7))))))) (zK (wt pW (BJ T.len (p' 8)) c_ (vz _)))).pt) ((kd (n6 vD))) (t6))) (j3 ((oI 9 a_D.nd ((ri yi W (v_ (pv 0) (vg (pv 1) (pv 2) (uQ Bh (u6 (pv 4) (pv 6)) (p' 8)))))))) (kd ((t_ (yA (pv 9) (ri yi W (v_ (pv 0) (vg (pv 1) (pv 2) (uQ Bh (u6 (pv 4) (pv 7)) (p' 8)))))) ((kd (n6 vD))) (t6)))))))))))))))) (kd (n6 vD)))))))),?_);obtain⟨wy,mk,aM,h1,h2,h3,h4,h5⟩:=id hM;have wl:(na g).length=9:=by rw[na,j_];exact h9
 have N:(ta.map V.ref).length=36:=by rw[j_];exact aH
 have ug:∀a,a<9->g[a]?<*g.getD a []:=λa ha=>by rw[m8,j1 (!6)];rfl
 have uw:∀a,a<9->(∀c∈g.getD a [],c∈L)/\(g.getD a []).length≤2100:=λa ha=>S _ (uM (ug a ha));refine(_,rfl,A,_,_,_,rfl,rfl,lb.of e,vJ (j:=0) rfl,_,_,_,rfl,af.lst hD,(xW K).2.1,_,rfl,ae (_,rfl,A,_,_,_,rfl,rfl,lb.of e,vJ (j:=1) rfl,_,_,_,rfl,af.lst G,(xW K).2.1,_,rfl,ae ?_));refine(_,rfl,A,_,_,_,rfl,rfl,lb.of e,vJ (j:=0) rfl,?_);refine(_,rfl,A,_,_,_,rfl,rfl,lb.of e,vJ (j:=2) rfl,rfl,_,rfl,xp rfl (_,rfl,D,_,rfl,.inl (lb.of hD),rfl,_,rfl,xp (by rw[wl];rfl) (_,rfl,A,_,_,_,rfl,rfl,lb.of e,vJ (j:=1) rfl,tl,_,rfl,.inl (lb.of G),rfl,_,rfl,xp (by rw[N];rfl) ?_)));dsimp only[tNext,aF,rT,rQ,tB,jf,vq,vX];refine x8 (a:=D) (λR h=>(_,rfl,h)) (.inl rfl) hD (λD' j ys H'=>ys=(replicate j true).map V.bl) (by rw[wl];exact o9 (!0)) (λD' an=>rfl) ?_ ?_
 .intro D' j x ys H' R1 R2 an hx U aC hp k1 k2;rw[na,n']at hx;obtain⟨v,hv,rfl⟩:=v8 hx;obtain⟨v1,v2⟩:=S v (uM hv);refine i_ (_,rfl,o_ (U _ _ h1) aw (L,v,rfl,v1,by exact le_trans v2 (!0),λI Q=>(_,rfl,ai (_,rfl,_,rfl,o9 (by rw[vn];exact le_trans v2 (!0)),_,_,rfl,rfl,k1 _ I (Q _ _ aC) (a'.set (U.trans Q) an) ?_))));rw[hp,List.replicate_succ',map_append];show _++[V.bl (decide _)]=_++[V.bl true];rw[decide_eq_true (by rw[vn];lia)]
 intro ld ys H2 aN s2 g2 hp;subst hp;refine(ld,_,rfl,g2,λb hb=>(List.mem_replicate.mp hb).2,_,rfl,ae ?_);refine(_,rfl,!0,!0,?_);refine z7 (n:=(9:Int).toNat) (λi d H'=>∃(o s B O:Option V),d=[some (.int (k:Int)),some (.ref m),some (.ref m2),some (.ref A),some (.ref D),some (.int ((off i:Nat):Int)),o,s,B,O]/\a' H H') (_,_,_,_,rfl,s2) ?_ ?_
 .rintro i d H3 Z⟨o,s,B,O,rfl,sm⟩;have Z:i<9:=Z;refine(_,rfl,_,_,rfl,rfl,_,_,rfl,(!6,!6,!0,!0),?_);refine z7 (n:=((9:Int)-(0+(i:Int)+1)).toNat) (λj d H'=>∃(s B O:Option V),d=[some (.int (k:Int)),some (.ref m),some (.ref m2),some (.ref A),some (.ref D),some (.int ((off i+j:Nat):Int)),some (.int (0+(i:Int))),s,B,O]/\a' H H') (_,_,_,rfl,sm) ?_ ?_
  .rintro j d H4 hj⟨t7,t8,t9,rfl,E⟩;have hj:i+1+j<9:=by lia
   obtain⟨t,u,e1,e2,e3,e4,e5⟩:=aA i (i+1+j) (!6) hj (.inl Z);rw[show i+1+j-i-1=j by lia]at e1;have as:(i:Int)+1+(j:Int)=((i+1+j:Nat):Int):=by lia
   have az:0+(i:Int)=((i:Nat):Int):=by lia
   have ht:H4 t<*.tup [.int (i:Int),.int ((i+1+j:Nat):Int),.str (tx u)]:=E _ _ e2;refine(_,rfl,A,_,_,_,rfl,rfl,lb.of (E _ _ e),vJ (j:=1) rfl,_,rfl,u_ (E _ _ G) (vZ V.ref e1) (_,rfl,_,_,rfl,rfl,?_));refine(_,rfl,_,_,_,rfl,af.tup ht,(xW K).1,_,rfl,ae (_,rfl,t,_,rfl,.inr (pa.of ht),rfl,_,rfl,xp rfl (o_ ht ay (o_ (E _ _ h1) aw (L,u,rfl,e3,by exact le_trans e4 (!0),λI Q=>(_,rfl,ae ?_))))));have l:=Q _ _ ht;have ar:=E.trans Q;refine(o_ l aw (o_ l ax (o9 (by show 2≤16777216;decide),λM aB=>(_,rfl,_,rfl,o9 (by show 2≤16777216;decide),λJ Y=>?_))));rw[az,as];have o:a' I (L2.upd (L2.upd I M (.lst [.int (i:Int),.int ((i+1+j:Nat):Int)])) J (.lst [.int (i:Int),.int ((i+1+j:Nat):Int)])):=(a'.upd aB).trans (a'.upd Y);have q1:L2.upd (L2.upd I M (.lst [.int (i:Int),.int ((i+1+j:Nat):Int)])) J (.lst [.int (i:Int),.int ((i+1+j:Nat):Int)]) M<*.lst [.int (i:Int),.int ((i+1+j:Nat):Int)]:=p_ j' Y;have q2:L2.upd (L2.upd I M (.lst [.int (i:Int),.int ((i+1+j:Nat):Int)])) J (.lst [.int (i:Int),.int ((i+1+j:Nat):Int)]) J<*.lst [.int (i:Int),.int ((i+1+j:Nat):Int)]:=j';generalize L2.upd (L2.upd I M (.lst [.int (i:Int),.int ((i+1+j:Nat):Int)])) J (.lst [.int (i:Int),.int ((i+1+j:Nat):Int)])=H6 at o q1 q2;have r:=ar.trans o;refine(_,_,rfl,.inr (M,J,_,_,rfl,rfl,.inr (q1,q2),rfl,by show 2≤2100;decide,Dt rfl),_,rfl,ae (o_ (o _ _ l) ay (_,rfl,o9 (by rw[vn];exact le_trans e4 (!0)),_,_,rfl,rfl,_,rfl,rc (by rw[vn];lia) ?_)));have ap:∀a,a<9->(tx (g.getD a [])++tx u)=tx (g.getD a []++u)/\(∀c∈g.getD a []++u,c∈L)/\(g.getD a []++u).length≤9000/\(tx (g.getD a [])).length+(tx u).length≤sizeLine:=λa ha=>by
    obtain⟨w1,w2⟩:=uw a ha;refine(Bj _ _,λc hc=>?_,by rw[uA];lia,by rw[vn,vn];exact o9 (!6));rcases mem_append.mp hc with z|z
    .exact w1 c z
    .exact e3 c z
   obtain⟨a1,a2,a3,a4⟩:=ap i Z;obtain⟨b1,b2,b3,b4⟩:=ap (i+1+j) hj;refine(_,rfl,_,rfl,_,rfl,_,rfl,_,rfl,u_ (r _ _ hD) (vZ (λv=>V.str (tx v)) (ug i Z)) (o_ (o _ _ l) ay (_,_,rfl,rfl,a4,?_)));rw[a1];refine(k,m,m2,L,W1,W2,B1,B2,g.getD i []++u,rfl,hk,hM.same r,ag,hN.same r,ab,a2,a3,λx H7 s hx=>?_);have p:=r.trans s;refine(_,rfl,_,rfl,_,rfl,_,rfl,_,rfl,_,rfl,u_ (p _ _ hD) (vZ (λv=>V.str (tx v)) (ug _ hj)) (o_ (s _ _ (o _ _ l)) ay (_,_,rfl,rfl,b4,?_)));rw[b1];refine(k,m,m2,L,W1,W2,B1,B2,g.getD (i+1+j) []++u,rfl,hk,hM.same p,ag,hN.same p,ab,b2,b3,λy H8 B hy=>(rfl,_,rfl,rc (λz=>e5 ?_) (_,_,_,rfl,p.trans B)));rw[<-hx,<-hy,V.bl.inj z]
  .rintro d H4⟨t7,t8,t9,rfl,E⟩;rw[show off i+((9:Int)-(0+(i:Int)+1)).toNat=off (i+1) by show _=off i+(8-i);lia];exact(_,_,_,_,rfl,E)
 .rintro d H3⟨o,s,B,O,rfl,sm⟩;exact q H3 sm
theorem c_Y:s_ ["_law_script","_law_letters_here","_law_kind","_law_most","_law_rooms","_law_others","_law_machine_here","_law_second","_law_found","_law_caught"] ["_law_script"] (h7 Aw):=uH
theorem A_(F:tS K "law" "law" Aw f fd)(T:Txt K mg cA_ cB_ cC_ cD_ cE_ cF_ cG_ cH_ cI_ cJ_ cK_)(ab:∀p∈ts,∃c,(c,p.1,)∈tabs)(n:Cc K mg cH_ cA_ fX fdX)(nd:(ts.map Prod.fst).Nodup)(i0:(P0,sites,)∈ts)(yQ:Df P w K mg base "_law_letters" 1 ["_law_cell"] sp_letters)(A:Df P w K mg base "_law_cell_at" 1 ["_law_script","_law_k"] (dq K))(yf:Df P w K mg base "_law_machine" 2 ["_law_script","_law_at","_law_rooms","_law_letters_here"] (Fh K))(yP:Df P w K mg base "_law_told" 10 ["_law_kind","_law_machine_here","_law_second"] (bU cH_ ts))(yT:Df P w K mg base "_law_kinds" 1 ["_law_e"] (bW cH_))(yN:Df P w K mg base "_law_parted" 5 ["_law_kind","_law_machine_here","_law_second","_law_refused"] sp_parted5)(ya:Df P w K mg base "_law_is_machine" 1 ["_law_found","_law_letters_here"] sp_ismach)(y8:Df P w K mg base "_law_same" 4 ["_law_found","_law_due"] (BO 3))(y3:Df P w K mg base "least" 7 [Q0] (Cf P0 sites)):aa P w K mg base nq 11 f fd ["_law_script"] (du K tabs):=by
 refine F.okA c_Y ?_;rintro _ _ _ _ H _ _ _ r⟨a,ns,rfl,U,aM,aB,kq⟩;have b:=r.mono (j:=1) (!0);have G:=r.mono (j:=2) (!0);have ap:=r.mono (j:=4) (!0);have an:=r.mono (j:=5) (!0);have ag:=r.mono (j:=7) (!0);refine(_,(j3 ((oI 1 c_Y.nd ((ri yQ b (m_ ((ri A b (pu (pv 0) (c_))))))))) (j3 ((oI 2 c_Y.nd (uQ Bn (ri A b (pu (pv 0) (c_))) c_))) (j3 ((oI 3 c_Y.nd (u6 (wc (v_ c_ (v_ c_ (v_ c_ (v_ c_ (vg c_ c_ c_)))))) (pv 2)))) (BS ((t_ (yA (uQ BU (uQ Do (ri A b (pu (pv 0) (c_))) c_) c_) c_) ((kd ((oI 3 c_Y.nd (c_))))) (t6))) (j3 ((oI 4 c_Y.nd (uQ vO c_ (uQ Bn (ri A b (pu (pv 0) (c_))) (pv 3))))) (j3 ((oI 5 c_Y.nd (uQ vO c_ (uQ Bn (ri A b (pu (pv 0) (c_))) (pv 3))))) (j3 ((oI 6 c_Y.nd ((ri yf G (v_ (pv 0) (vg (c_) (pv 4) (pv 1))))))) (j3 ((oI 7 c_Y.nd ((ri yf G (v_ (pv 0) (vg (uQ vO c_ (pv 4)) (pv 5) (pv 1))))))) (j3 (Bb (ri yP r (vg (pv 2) (pv 6) (pv 7))) (wo rfl (Az (v5 8 c_Y.nd) (Az (v5 9 c_Y.nd) Ck)))) (j3 ((t_ (wt wq (pv 9) AR (vz _)) ((j3 ((t_ (wt (A6 r.units0) (ri yT b (m_ (pv 9))) (wc (m_ wH)) (vz _)) ((kd (n6 vD))) (t6))) (kd (n6 (ri yN an (v_ (pv 2) (vg (pv 6) (pv 7) (wc (vg (wC (f:=Q7) (pv 9)) (wC (f:="tails") (pv 9)) (wC (f:="part") (pv 9))))))))))) (t6))) (kd (n6 (xF (ri ya b (pu (pv 8) (pv 1))) (xF (xR js (wa T.len (p' 8)) c_ (vz _)) (w_ (ri y8 ap (pu ((ri y3 ag (m_ (pv 8)))) (pv 8)))))))))))))))))),?_);have hT:gR ts H:=λp hp=>by
  obtain⟨c,hc⟩:=ab p hp;exact(#[],aB (c,p.1,) hc,eV,λq _=>.inl rfl)
 refine(_,rfl,a,ns,1,rfl,U,!0,λz0=>(z0,rfl,λL hL=>?_));refine(_,rfl,a,ns,0,rfl,U,!0,λz1=>(_,_,rfl,rfl,!0,λk' k0 k7=>?_));obtain⟨k,rfl⟩:=Int.eq_ofNat_of_zero_le k0;have hk:k<7:=by lia
 obtain⟨d,hd,M,h⟩:∃d:Nat,vt [V.int 8,.int 8,.int 8,.int 8,.int 4,.int 6,.int 6] (k:Int)=some (.int (d:Int))/\1≤d/\d≤8:=by
  match k,hk with
  |0,_=>exact(8,rfl,!0,!0)
  |1,_=>exact(8,rfl,!0,!0)
  |2,_=>exact(8,rfl,!0,!0)
  |3,_=>exact(8,rfl,!0,!0)
  |4,_=>exact(4,rfl,!0,!0)
  |5,_=>exact(6,rfl,!0,!0)
  |6,_=>exact(6,rfl,!0,!0)
 refine(o9 (by show 7≤16777216;decide),λlm aA=>(_,rfl,u_ j' hd ?_));have s2:=a'.upd (o:=.lst [V.int 8,.int 8,.int 8,.int 8,.int 4,.int 6,.int 6]) aA;generalize L2.upd H lm (.lst [V.int 8,.int 8,.int 8,.int 8,.int 4,.int 6,.int 6])=H2 at s2;have m:=pV (wj.of s2) U;refine⟨λy H'=>∃d:Nat,y=[some (.ref a),some (.str (tx L)),some (.int (k:Int)),some (.int (d:Int)),none,none,none,none,none,none]/\H'=H2/\1≤d/\d≤8,?_,?_⟩
 .exact (_,rfl,a,ns,0,rfl,m,!0,λz2=>(_,_,rfl,rfl,(!0,!0),_,_,rfl,rfl,!0,rfl,_,rfl,aI (λ_=>(8,rfl,rfl,!0,!0)) (λ_=>(d,rfl,rfl,M,h))))
 rintro y H3⟨d,rfl,rfl,M,h⟩;refine(_,rfl,a,ns,2,rfl,m,!0,λz3=>(_,rfl,_,_,rfl,rfl,!6,λr1 aU aT=>(_,_,rfl,rfl,?_)));obtain⟨o1,az⟩:=Int.eq_ofNat_of_zero_le (show 0≤1+r1 by lia);rw[az];refine(_,rfl,a,ns,3,rfl,m,!0,λz4=>(_,rfl,_,_,rfl,rfl,!6,λr2 aS aN=>(_,_,rfl,rfl,?_)));obtain⟨o2,as⟩:=Int.eq_ofNat_of_zero_le (show 0≤1+r2 by lia);rw[as];refine(_,rfl,_,rfl,_,rfl,a,ns,4,o1,L,rfl,m,!0,!6,!6,hL,λm1 W1 B1 H4 s4 O R a0=>?_);have E:=s2.trans s4;have aC:=pV (wj.of E) U;refine(_,rfl,_,rfl,_,_,rfl,rfl,_,rfl,_,rfl,a,ns,_,o2,L,rfl,aC,!6,!6,!6,hL,λm2 W2 B2 H5 Y N Q aV=>?_);have k5:KT ts H H5:=KT.of (E.trans Y);refine(_,rfl,_,rfl,_,rfl,k,m1,m2,L,W1,W2,B1,B2,rfl,hk,O.same Y,R,N,Q,!6,!6,k5.tb hT,λp v3 v4 H6 X hp=>(p,_,rfl,pa.of hp,rfl,_,_,rfl,_,_,rfl,rfl,?_));obtain⟨k6,X⟩:=X;rcases X with⟨rfl,e,d,rfl,he,D,B,us,ta,x1,x2,x3,x4,x5,x6,x7⟩|⟨rfl,f,W',B',rfl,hf,i,h8,v,cn⟩
 .refine (_,rfl,rfl,_,rfl,ai ?_);refine(_,rfl,e,_,rfl,he,λp1 W S ar=>(o9 (by show 1≤16777216;decide),λZ I=>(p1,Z,_,rfl,rfl,lb.of (p_ ar I),lb.of j',rfl,_,rfl,ae ?_)));have x:a' H6 (L2.upd W Z (.lst [.str "TooMany"])):=S.trans (a'.upd I);generalize L2.upd W Z (.lst [.str "TooMany"])=H8 at x;have t:=x _ _ he;have h:=x _ _ x1;refine(_,rfl,_,rfl,_,rfl,_,rfl,e,_,d,_,_,rfl,t,h,n.ec,n.xc,n.na1,rfl,_,rfl,e,_,d,_,_,rfl,t,h,n.ec,n.xc,n.na2,rfl,_,rfl,e,_,d,_,_,rfl,t,h,n.ec,n.xc,n.na3,rfl,o9 (by show 3≤16777216;decide),λl hl=>?_);have C:=x.trans (a'.upd (o:=.lst [.ref D,.ref B,.non]) hl);have J:L2.upd H8 l (.lst [.ref D,.ref B,.non]) l<*.lst [.ref D,.ref B,.non]:=j';generalize L2.upd H8 l (.lst [.ref D,.ref B,.non])=H9 at C J;have k9:KT ts H5 H9:=k6.trans (KT.of C);exact(k,l,D,B,m1,m2,L,W1,W2,B1,B2,us,ta,rfl,hk,k9.mach (O.same Y),R,k9.mach N,Q,J,C _ _ x2,C _ _ x3,x4,x5,x6,x7.mono (λ_ _=>C _ _) λ_ _ _ _ _ _ z=>z,λH' _=>kq H')
 .refine (_,rfl,rfl,_,rfl,ae ?_);refine(_,rfl,_,rfl,f,L,W',B',rfl,hf,i,λW S=>(_,rfl,ai ?_));have s:=hf.same S;obtain⟨wy,mk,aH,h1,h2,h3,h4,h5⟩:=id s;refine(o_ h1 ax (wy,_,rfl,.inr (pa.of h2),_,_,rfl,rfl,_,rfl,sQ (by rw[j_,h4];lia) ?_));have k7:KT ts H W:=(k5.trans k6).trans (KT.of S);have t7:=k7.tb hT _ i0;refine(_,rfl,f,L,W',B',rfl,s,i,t7,λg Wg Bg H8 x t8 hg lo=>?_);obtain⟨v2,c2⟩:=lo.canon i;obtain⟨rfl,rfl⟩:=nY c2 cn λu hu=>lo.takes i hu;exact(_,rfl,_,_,rfl,iB hg ((KT.ofX nd i0 x t7 t8).mach s) i,kq _)
end
theorem A'{l:PySem.W.OpenLaw}{w:World}{K K0:Frag}{h:Heap}{mg:Str->Option Value}{fa u t r o n m k j P0 P1 P2 P3 P4 Z Y I:Addr}(hK:K=wh [P0,P1,P2,P3,P4,Z,Y,I] K0)(eO:[P0,P1,P2,P3,P4,Z,Y,I].Nodup)(X:K.In h)(G:h.Ns mainGlobals mg)(e0:mg "law"<*.ref fa){z:Addr}(nA_:nsIn K mainGlobals "RoomError"<*some (.ref z)){U:Addr}(nB_:nsIn K mainGlobals "NoLetters"<*some (.ref U)){S:Addr}(nC_:nsIn K mainGlobals "NoWord"<*some (.ref S)){R:Addr}(nD_:nsIn K mainGlobals "NoNumber"<*some (.ref R)){Q:Addr}(nE_:nsIn K mainGlobals "NoRoom"<*some (.ref Q)){P:Addr}(nF_:nsIn K mainGlobals "NoMachine"<*some (.ref P)){f:Addr}(nG_:nsIn K mainGlobals "OtherLetters"<*some (.ref f)){d:Addr}(nH_:nsIn K mainGlobals "TooMany"<*some (.ref d)){O:Addr}(nI_:nsIn K mainGlobals "NoPattern"<*some (.ref O)){N:Addr}(nJ_:nsIn K mainGlobals "TooGreat"<*some (.ref N)){M:Addr}(nK_:nsIn K mainGlobals "NoKind"<*some (.ref M))(oG_:xt K f)(eG_:zo K f)(mG_:exmOne K (.ref f) (.ref z)<*true)(iGB_:PySem.W.kitOne K (.ref f) (.ref U)<*false)(iGC_:PySem.W.kitOne K (.ref f) (.ref S)<*false)(iGD_:PySem.W.kitOne K (.ref f) (.ref R)<*false)(iGE_:PySem.W.kitOne K (.ref f) (.ref Q)<*false)(iGF_:PySem.W.kitOne K (.ref f) (.ref P)<*false)(iGG_:PySem.W.kitOne K (.ref f) (.ref f)<*true)(iGH_:PySem.W.kitOne K (.ref f) (.ref d)<*false)(iGI_:PySem.W.kitOne K (.ref f) (.ref O)<*false)(iGJ_:PySem.W.kitOne K (.ref f) (.ref N)<*false)(iGK_:PySem.W.kitOne K (.ref f) (.ref M)<*false)(vG_:PySem.W.kitOne K (.ref f) (.type "ValueError")<*true)(eH_:zo K d)(mH_:exmOne K (.ref d) (.ref z)<*true)(iHB_:PySem.W.kitOne K (.ref d) (.ref U)<*false)(iHC_:PySem.W.kitOne K (.ref d) (.ref S)<*false)(iHD_:PySem.W.kitOne K (.ref d) (.ref R)<*false)(iHE_:PySem.W.kitOne K (.ref d) (.ref Q)<*false)(iHF_:PySem.W.kitOne K (.ref d) (.ref P)<*false)(iHG_:PySem.W.kitOne K (.ref d) (.ref f)<*false)(iHH_:PySem.W.kitOne K (.ref d) (.ref d)<*true)(iHI_:PySem.W.kitOne K (.ref d) (.ref O)<*false)(iHJ_:PySem.W.kitOne K (.ref d) (.ref N)<*false)(iHK_:PySem.W.kitOne K (.ref d) (.ref M)<*false)(vH_:PySem.W.kitOne K (.ref d) (.type "ValueError")<*true){fI:Addr}{d2 gx:Option Addr}{c1:Array (Option Value)}{ej ew fn dn ga:Value}{cl:Addr}{y:Addr}(nW:nsIn K mainGlobals "Walk"<*some (.ref y))(hI0:PySem.W.findIn K0 (.ref y) "__init__"<*some (.ref fI))(cls:zM K y)(mk:Mk K y fI)(na1:vj K y "letters")(na2:vj K y "things")(na3:vj K y "words")(na4:vj K y "ways")(na5:vj K y "marks")(lI:K.lookup fI<*(ej,d2,.func (fnOf "__init__" "Walk.__init__" (nt BK) (ln BK) (h7 BK) .none ew fn dn gx (.ref cl) ga),c1))(cI:codeIn K (.ref cl) "Walk.__init__"=true){fX:Addr}{dv gk:Option Addr}{cv:Array (Option Value)}{eb eq fe c8 fv:Value}{cg:Addr}(hX0:PySem.W.findIn K0 (.ref d) "__init__"<*some (.ref fX))(xo:wz K d fX)(xc:gN K d)(xn1:vj K d "words")(xn2:vj K d "tails")(xn3:vj K d "part")(xb:oB K z)(xf:isFn K (.ref fX)=true)(xe:exmOne K (.ref d) (.ref d)<*true)(lX:K.lookup fX<*(eb,dv,.func (fnOf "__init__" "TooMany.__init__" (nt BM) (ln BM) (h7 BM) .none eq fe c8 gk (.ref cg) fv),cv))(cX:codeIn K (.ref cg) "TooMany.__init__"=true){tD:Addr}{el:Value}{d4:Option Addr}{c3:Array (Option Value)}{nD:Nat}{fV:Addr}{dx gl:Option Addr}{cw:Array (Option Value)}{ec er ff da fw:Value}{ch:Addr}(aV:nsIn K mainGlobals "walked"<*some (.ref fV))(lV:K.lookup fV<*(ec,dx,.func (fnOf "walked" "walked" (nt vm) (ln vm) (h7 vm) (.ref tD) er ff da gl (.ref ch) fw),cw))(cV:codeIn K (.ref ch) "walked"=true)(lD:K.lookup tD<*(el,d4,.seq #[.none] nD,c3)){fM:Addr}{d1 gt:Option Addr}{c0:Array (Option Value)}{ei ev fm dk fT:Value}(aM:nsIn K mainGlobals "walked_machine"<*some (.ref fM))(lM:K.lookup fM<*(ei,d1,.func (fnOf "walked_machine" "walked_machine" (nt v7) (ln v7) (h7 v7) .none ev fm dk gt (.ref u) fT),c0))(cM:codeIn K (.ref u) "walked_machine"=true){fA:Addr}{ea g0:Option Addr}{c7:Array (Option Value)}{ep eH ft dt gi:Value}(aA:nsIn K mainGlobals "paired"<*some (.ref fA))(lA:K.lookup fA<*(ep,ea,.func (fnOf "paired" "paired" (nt xl) (ln xl) (h7 xl) .none eH ft dt g0 (.ref t) gi),c7))(cA:codeIn K (.ref t) "paired"=true){fB:Addr}{d6 gV:Option Addr}{c5:Array (Option Value)}{eo ez fs ds ge:Value}(aB:nsIn K mainGlobals "either"<*some (.ref fB))(lB:K.lookup fB<*(eo,d6,.func (fnOf "either" "either" (nt y_) (ln y_) (h7 y_) .none ez fs ds gV (.ref r) ge),c5))(cB:codeIn K (.ref r) "either"=true){fC:Addr}{d5 gS:Option Addr}{c4:Array (Option Value)}{en ey fr dr gd:Value}(aC:nsIn K mainGlobals "both"<*some (.ref fC))(lC:K.lookup fC<*(en,d5,.func (fnOf "both" "both" (nt za) (ln za) (h7 za) .none ey fr dr gS (.ref o) gd),c4))(cC:codeIn K (.ref o) "both"=true){fS:Addr}{dV gp:Option Addr}{cK:Array (Option Value)}{ee et fk dd fy:Value}(aS:nsIn K mainGlobals "less"<*some (.ref fS))(lS:K.lookup fS<*(ee,dV,.func (fnOf "less" "less" (nt zc) (ln zc) (h7 zc) .none et fk dd gp (.ref n) fy),cK))(cS:codeIn K (.ref n) "less"=true){fH:Addr}{d3 gz:Option Addr}{c2:Array (Option Value)}{ek ex fp dp gc:Value}(aH:nsIn K mainGlobals "then"<*some (.ref fH))(lH:K.lookup fH<*(ek,d3,.func (fnOf "then" "then" (nt H.r_) (ln H.r_) (h7 H.r_) .none ex fp dp gz (.ref m) gc),c2))(cH:codeIn K (.ref m) "then"=true){fN:Addr}{d0 gs:Option Addr}{cO:Array (Option Value)}{eg eu fl de fO:Value}(aN:nsIn K mainGlobals "again"<*some (.ref fN))(lN:K.lookup fN<*(eg,d0,.func (fnOf "again" "again" (nt A.o5) (ln A.o5) (h7 A.o5) .none eu fl de gs (.ref k) fO),cO))(cN:codeIn K (.ref k) "again"=true){fU:Addr}{dT go:Option Addr}{cx:Array (Option Value)}{ed es fg dc fx:Value}(aU:nsIn K mainGlobals "walked_turned"<*some (.ref fU))(lU:K.lookup fU<*(ed,dT,.func (fnOf "walked_turned" "walked_turned" (nt Tu.h_) (ln Tu.h_) (h7 Tu.h_) .none es fg dc go (.ref j) fx),cx))(cU:codeIn K (.ref j) "walked_turned"=true)(l0:vh K "numbered" D7)(l1:vh K "many_lots" D8)(l2:vh K "rounds_of" D9)(l3:vh K "first_rooms" D_)(l4:vh K "parting_word" Ea)(l5:vh K "folded" Eb)(l6:vh K "tails_of" Ec)(l7:vh K "told" ig)(l8:vh K "need_same_letters" Ed)(l9:vh K "least" dB)(l10:vh K "lots_after" Ee)(l11:vh K "lot_of" Ef)(l12:vh K "has_marked" Eg)(l13:vh K "rooms_into" Eh)(l14:vh K "outside" Ei)(l15:vh K "turned" Ej)(l16:vh K "_law_cell_at" Ek)(l17:vh K "_law_letters" El)(l18:vh K "_law_machine" Em)(l19:vh K "_law_is_machine" En)(l20:vh K "_law_same" Eo)(l21:vh K "_law_after" Ep)(l22:vh K "_law_takes" Er)(l23:vh K "_law_is_word" Es)(l24:vh K "_law_joined" Et)(l25:vh K "_law_kinds" Eu)(l26:vh K "_law_told" Ev)(l27:vh K "_law_led" Ew)(l28:vh K "_law_marked" Ex)(l29:vh K "_law_in_then" Ey)(l30:vh K "_law_in_again" Ez)(l31:vh K "_law_in" EA)(l32:vh K "_law_parted" EB){cf:Addr}{ca as:Option Addr}{b6:Array (Option Value)}{cd an ap ag ar:Value}{F:Addr}(a33:nsIn K mainGlobals "law"<*some (.ref cf))(l33:K.lookup cf<*(cd,ca,.func (fnOf "law" "law" (nt Aw) (ln Aw) (h7 Aw) .none an ap ag as (.ref F) ar),b6))(c33:codeIn K (.ref F) "law"=true)(z_len:nsIn K mainGlobals "len"<*none)(z_range:nsIn K mainGlobals "range"<*none)(z_isinst:nsIn K mainGlobals "isinstance"<*none)(z_int:nsIn K mainGlobals "int"<*none)(z_bool:nsIn K mainGlobals "bool"<*none)(z_tuple:nsIn K mainGlobals "tuple"<*none)(z_list:nsIn K mainGlobals "list"<*none)(z_str:nsIn K mainGlobals "str"<*none)(z_zip:nsIn K mainGlobals "zip"<*none)(z_enumerate:nsIn K mainGlobals "enumerate"<*none)(z_reversed:nsIn K mainGlobals "reversed"<*none)(z_max:nsIn K mainGlobals "max"<*none)(z_all:nsIn K mainGlobals "all"<*none)(z_any:nsIn K mainGlobals "any"<*none)(z_set:nsIn K mainGlobals "set"<*none)(z_sorted:nsIn K mainGlobals "sorted"<*none)(z_verr:nsIn K mainGlobals "ValueError"<*none){x:Tok}(z_most:nsIn K mainGlobals "MOST_ROOMS"<*some (.int 8 x))
  :∃fd:FuncData,(∀(s:Shared)(v:Value),BindsTo s fd ([v],[]) [("_law_script",v,)])/\∀base:Heap,K.In base->base.Ns mainGlobals mg->xi base mg->(∀q∈[(u,P0,),(t,P1,),(r,P2,),(o,P3,),(n,P4,),(m,Z,),(k,Y,),(j,I,)],CodeHd base q.1 q.2)->aa l.prog w K mg base nq 11 fa fd ["_law_script"] (du K [(u,P0,),(t,P1,),(r,P2,),(o,P3,),(n,P4,),(m,Z,),(k,Y,),(j,I,)]):=by
 have e:=e0.symm.trans (mg_of X G a33);cases e;have T:Txt K mg z U S R Q P f d O N M:=(mg_of X G nA_,mg_of X G nB_,mg_of X G nC_,mg_of X G nD_,mg_of X G nE_,mg_of X G nF_,mg_of X G nG_,mg_of X G nH_,mg_of X G nI_,mg_of X G nJ_,mg_of X G nK_,oG_,eG_,mG_,iGB_,iGC_,iGD_,iGE_,iGF_,iGG_,iGH_,iGI_,iGJ_,iGK_,vG_,eH_,mH_,iHB_,iHC_,iHD_,iHE_,iHF_,iHG_,iHH_,iHI_,iHJ_,iHK_,vH_,mg_none_of X G z_len,mg_none_of X G z_range,mg_none_of X G z_isinst,mg_none_of X G z_int,mg_none_of X G z_bool,mg_none_of X G z_tuple,mg_none_of X G z_list,mg_none_of X G z_str,mg_none_of X G z_zip,mg_none_of X G z_enumerate,mg_none_of X G z_reversed,mg_none_of X G z_max,mg_none_of X G z_all,mg_none_of X G z_any,mg_none_of X G z_set,mg_none_of X G z_sorted,mg_none_of X G z_verr,(x,mg_of X G z_most));obtain⟨f0,a0,_,F0⟩:=l0;obtain⟨f1,a1,_,F1⟩:=l1;obtain⟨f2,a2,_,F2⟩:=l2;obtain⟨f3,a3,_,F3⟩:=l3;obtain⟨f4,a4,_,F4⟩:=l4;obtain⟨f5,a5,_,F5⟩:=l5;obtain⟨f6,a6,_,F6⟩:=l6;obtain⟨f7,a7,_,F7⟩:=l7;obtain⟨f8,a8,_,F8⟩:=l8;obtain⟨f9,a9,_,F9⟩:=l9;obtain⟨hI,ct,_,E⟩:=l10;obtain⟨hH,cs,_,D⟩:=l11;obtain⟨hG,cp,_,C⟩:=l12;obtain⟨hF,co,_,B⟩:=l13;obtain⟨fc,hk,_,b5⟩:=l14;obtain⟨e9,hj,_,b4⟩:=l15;obtain⟨hE,hi,_,b3⟩:=l16;obtain⟨hD,hh,_,b2⟩:=l17;obtain⟨hA,hg,_,b1⟩:=l18;obtain⟨hz,hf,_,b0⟩:=l19;obtain⟨hy,cn,_,ab⟩:=l20;obtain⟨hx,he,_,bV⟩:=l21;obtain⟨hw,hd,_,bs⟩:=l22;obtain⟨hv,hc,_,bo⟩:=l23;obtain⟨e8,hb,_,bm⟩:=l24;obtain⟨hu,ha,_,bl⟩:=l25;obtain⟨ht,g8,_,bk⟩:=l26;obtain⟨hs,g7,_,bi⟩:=l27;obtain⟨hr,g5,_,bg⟩:=l28;obtain⟨hq,g4,_,bf⟩:=l29;obtain⟨ho,g3,_,bd⟩:=l30;obtain⟨hn,g2,_,aT⟩:=l31;obtain⟨hm,g1,_,az⟩:=l32;have hl:=xU (st:=Aw) l33 c33 (vy l33);have WT:=Av.mk (mg_of X G nW) cls mk na1 na2 na3 na4 na5 (xU (st:=BK) lI cI (vy lI));have TM:Cc K mg d z fX _:=(mg_of X G nH_,mg_of X G nA_,xo,xc,xn1,xn2,xn3,xb,xf,xe,eH_,mH_,xU (st:=BM) lX cX (vy lX));have WK:Ce K y:=(cls,na1,na4,na5);have DL:∀base:Heap,Df l.prog w K mg base "lots_after" 1 ["machine","rooms"] sp_lotsafter:=λbase=>@Cb l.prog w K mg base h X G _ _ _ _ _ _ _ ct E (wL E (by intros;rfl)) (Fi E T);have DH:∀base:Heap,Df l.prog w K mg base "has_marked" 1 ["machine","rooms"] H.sp_hasm:=λbase=>@Cb l.prog w K mg base h X G _ _ _ _ _ _ _ cp C (wL C (by intros;rfl)) (Fj C T);have DT:∀base:Heap,Df l.prog w K mg base "lot_of" 1 ["rooms"] (H.sp_lot K):=λbase=>@Cb l.prog w K mg base h X G _ _ _ _ _ _ _ cs D (xC D (by intros;rfl)) (wm D T);have DR:∀base:Heap,Df l.prog w K mg base "rooms_into" 1 ["machine","place","rooms"] Tu.sp_rinto:=λbase=>@Cb l.prog w K mg base h X G _ _ _ _ _ _ _ co B (z5 B (by intros;rfl)) (Fk B T);refine(fnOf "law" "law" (nt Aw) (ln Aw) (h7 Aw) .none an ap ag as (.ref F) ar,λs v=>.of_eq rfl,λbase _ _ L hC=>?_);have g:=@Cb l.prog w K mg base h X G;obtain⟨ts,i⟩:∃ts:List (Addr×List (Pos×Str)),ts=[(P0,sites,),(P1,bt,),(P2,Db,),(P3,Dc,),(P4,Dd,),(Z,H.sitesH,),(Y,A.sitesA,),(I,Tu.va,)]:=(_,rfl);have J:(ts.map Prod.fst).Nodup:=by rw[i];exact eO
 have i0:(P0,sites,)∈ts:=by rw[i];simp
 have i1:(P1,bt,)∈ts:=by rw[i];simp
 have i2:(P2,Db,)∈ts:=by rw[i];simp
 have i3:(P3,Dc,)∈ts:=by rw[i];simp
 have i4:(P4,Dd,)∈ts:=by rw[i];simp
 have i5:(Z,H.sitesH,)∈ts:=by rw[i];simp
 have i6:(Y,A.sitesA,)∈ts:=by rw[i];simp
 have i7:(I,Tu.va,)∈ts:=by rw[i];simp
 have eN:∀p∈ts,∃c,(c,p.1,)∈[(u,P0,),(t,P1,),(r,P2,),(o,P3,),(n,P4,),(m,Z,),(k,Y,),(j,I,)]:=by
  rw[i];intro p hp;simp only[mem_cons,not_mem_nil,or_false]at hp;rcases hp with rfl|rfl|rfl|rfl|rfl|rfl|rfl|rfl
  .exact (u,!1)
  .exact (t,!1)
  .exact (r,!1)
  .exact (o,!1)
  .exact (n,!1)
  .exact (m,!1)
  .exact (k,!1)
  .exact (j,!1)
 have ce:CodeHd base u P0:=hC (u,P0,) (!1);have e7:CodeHd base t P1:=hC (t,P1,) (!1);have e6:CodeHd base r P2:=hC (r,P2,) (!1);have e5:CodeHd base o P3:=hC (o,P3,) (!1);have e4:CodeHd base n P4:=hC (n,P4,) (!1);have e3:CodeHd base m Z:=hC (m,Z,) (!1);have e2:CodeHd base k Y:=hC (k,Y,) (!1);have e1:CodeHd base j I:=hC (j,I,) (!1);have yz:Df l.prog w K mg base "walked_machine" 6 ["machine"] (DN y P0 sites):=(fM,_,mg_of X G aM,vy lM,xC (xU (st:=v7) lM cM (vy lM)) (by intros;rfl),ok_wmach lM cM lV cV (vy lV) (mg_of X G aV) lD WT (mg_none_of X G z_len) (mg_none_of X G z_zip) ce L);have yI:Df l.prog w K mg base "walked_machine" 6 ["machine"] (DX y P0 sites):=(fM,_,mg_of X G aM,vy lM,xC (xU (st:=v7) lM cM (vy lM)) (by intros;rfl),Lm.ok_wmach lM cM lV cV (vy lV) (mg_of X G aV) lD WT (mg_none_of X G z_len) (mg_none_of X G z_zip) ce L);have yd:Df l.prog w K mg base "walked_turned" 6 ["machine"] (Tu.vV y I Tu.va):=(fU,_,mg_of X G aU,vy lU,xC (xU (st:=Tu.h_) lU cU (vy lU)) (by intros;rfl),Tu.zH lU cU lV cV (vy lV) (mg_of X G aV) lD WT (mg_none_of X G z_len) (mg_none_of X G z_zip) (mg_none_of X G z_tuple) (mg_none_of X G z_range) (mg_none_of X G z_enumerate) e1 L DR);have yn:=g a0 F0 (xC F0 (by intros;rfl)) (w5 F0 T );have y6:=g a1 F1 (xC F1 (by intros;rfl)) (wD F1 T );have yq:=g a2 F2 (z5 F2 (by intros;rfl)) (wE F2 T yn y6);have yk:=g a3 F3 (xC F3 (by intros;rfl)) (FB F3 T y6);have yY:=g a4 F4 (Fz F4 (by intros;rfl)) (FC F4 T );have yy:=g a5 F5 (wL F5 (by intros;rfl)) (yB F5 T WK yk);have yJ:=g a6 F6 (z5 F6 (by intros;rfl)) (w6 F6 T WK yY);have y0:vk l.prog w K mg base "told" 4 ["walk"] (A9 y d):=(f7,_,mg_of X G a7,F7.kp,xC F7 (by intros;rfl),o7 F7 T WK na3 TM yq y6 yy yk yJ);have y9:vk l.prog w K mg base "need_same_letters" 1 ["machine","second"] (C' f):=(f8,_,mg_of X G a8,F8.kp,wL F8 (by intros;rfl),FD F8 T );have y3:=g a9 F9 (xC F9 (by intros;rfl)) (zJ F9 T WK yz yq yy);have yh:=g ct E (wL E (by intros;rfl)) (Fi E T );have yw:=g cs D (xC D (by intros;rfl)) (wm D T );have yt:=g cp C (wL C (by intros;rfl)) (Fj C T );have yL:=g co B (z5 B (by intros;rfl)) (Fk B T );have yK:vk l.prog w K mg base "outside" 7 ["machine"] (dw d ts cc):=(fc,_,mg_of X G hk,b5.kp,xC b5 (by intros;rfl),io b5 T J i0 yI y0);have yc:vk l.prog w K mg base "turned" 8 ["machine"] (dw d ts BH):=(e9,_,mg_of X G hj,b4.kp,xC b4 (by intros;rfl),kz b4 T J i0 i7 y0 yd y3);have y4:=g hi b3 (wL b3 (by intros;rfl)) (FH b3 T );have yQ:=g hh b2 (xC b2 (by intros;rfl)) (FI b2 T );have yf:=g hg b1 (D6 b1 (by intros;rfl)) (FJ b1 T y4);have ya:=g hf b0 (wL b0 (by intros;rfl)) (FK b0 T );have y8:=g cn ab (wL ab (by intros;rfl)) (wF ab T  (mg_of X G cn) (wL ab (by intros;rfl)));have yU:=g he bV (z5 bV (by intros;rfl)) (FL bV T );have yu:=g hd bs (wL bs (by intros;rfl)) (FN bs T yU);have yr:=g hc bo (wL bo (by intros;rfl)) (FP bo T );have y7:vk l.prog w K mg base "paired" 6 ["machine","second","is_wanted"] (Ch l.prog w K mg d ts):=(fA,_,mg_of X G aA,vy lA,z5 (xU (st:=xl) lA cA (vy lA)) (by intros;rfl),kC J i1 lA cA lV cV (vy lV) (mg_of X G aV) lD WT (mg_none_of X G z_len) (mg_none_of X G z_zip) (mg_none_of X G z_list) e7 L y9 y0);have yR:vk l.prog w K mg base "either" 7 ["machine","second"] (bj d ts (xA (λa b=>a||b))):=(fB,_,mg_of X G aB,vy lB,wL (xU (st:=y_) lB cB (vy lB)) (by intros;rfl),kD J i2 lB cB e6 L y7);have yV:vk l.prog w K mg base "both" 7 ["machine","second"] (bj d ts (xA (λa b=>a&&b))):=(fC,_,mg_of X G aC,vy lC,wL (xU (st:=za) lC cC (vy lC)) (by intros;rfl),pb J i3 lC cC e5 L y7);have yG:vk l.prog w K mg base "less" 7 ["machine","second"] (bj d ts (xA (λa b=>a&&!b))):=(fS,_,mg_of X G aS,vy lS,wL (xU (st:=zc) lS cS (vy lS)) (by intros;rfl),o8 J i4 lS cS e4 L y7);have yb:vk l.prog w K mg base "then" 8 ["machine","second"] (bj d ts A4):=(fH,_,mg_of X G aH,vy lH,wL (xU (st:=H.r_) lH cH (vy lH)) (by intros;rfl),H.Ax J i0 i5 lH cH lV cV (vy lV) (mg_of X G aV) lD WT (mg_none_of X G z_len) (mg_none_of X G z_zip) e3 L DL DH DT y9 y3 y0);have yZ:vk l.prog w K mg base "again" 8 ["machine"] (dw d ts Ag):=(fN,_,mg_of X G aN,vy lN,xC (xU (st:=A.o5) lN cN (vy lN)) (by intros;rfl),A.zI J i0 i6 lN cN lV cV (vy lV) (mg_of X G aV) lD WT (mg_none_of X G z_len) (mg_none_of X G z_zip) e2 L DL DH DT y3 y0);have yX:vk l.prog w K mg base "_law_joined" 9 ["_law_kind","_law_machine_here","_law_second"] (ED d ts):=(e8,_,mg_of X G hb,bm.kp,z5 bm (by intros;rfl),FR bm T yR yV yG yK yb yZ yc);have yT:=g ha bl (xC bl (by intros;rfl)) (FS bl T );have yP:=g g8 bk (z5 bk (by intros;rfl)) (wG bk T TM yX);have yg:=g g7 bi (z5 bi (by intros;rfl)) (w9 bi T );have yj:=g g5 bg (wL bg (by intros;rfl)) (FT bg T );have yW:=g g4 bf (z5 bf (by intros;rfl)) (FU bf T yg yj);have yM:=g g3 bd (wL bd (by intros;rfl)) (FV bd T yg yj);have yi:=g g2 aT (D6 aT (by intros;rfl)) (xD aT T yW yM yu);have yN:=g g1 az (D6 az (by intros;rfl)) (FW az T yr y8 yi);exact A_ hl T eN TM J i0 yQ y4 yf yP yT yN ya y8 y3
end K25
end
structure PySem.W.Fast:Prop where
 (tw11863919719057680163 tw1461014915811193638 tw17514236547415487515 tw2442300828422921490 tw12849109702599203862 tw607565977358759896 tw1490195871812721149 tw17949214494400584135 tw16893333237954086287 tw1191601091621247593 tw10111659792185445642 tw12157455287923676692 tw464605308124000339 tw10963674665071252895 tw13050668574723348458 tw8416881926525349715 tw9334227424565023359 tw17542291715237741814 tw14698260698328604317 tw7335488361545523773 tw1688615601147508997 tw3642118598480608084 tw7879368642719099417 tw12045700913751629865 tw10944772457468850824 tw1634905329718504699 tw12579487443210443835 tw17560390728552183295 tw14757630512235527375 tw8420581787353767214 tw15320519043651522865 tw15122791747579860072 tw11642239019585930722 tw17345311306921274475 tw14959764997962631602 tw13178623515497899149 tw16723851829532170557 tw18086684505574910077 tw889804662171706552 tw6874833935606818943 tw15950757686770619238 tw933349138950878007 tw4834260030077561871 tw11802577841814158214 tw8080819956143723623 tw6114048469725132085 tw13442830736302136459 tw11752745161411909893 tw3529398766760550209 tw10813184757403818590 tw16503333840822103210 tw12435792545460588499 tw889768690593323313 tw13889246855565621433 tw8985676306137030581 tw7007358972194793832 tw1837584955675003859 tw6712473645782417964 tw11186906839373203475 tw11942819347157520234 tw639296976119359659 tw8465142088967827871 tw15356497629889726166 tw5076501539197710121 tw10104547793859969570 tw14482001085161849545 tw2234736612304125209 tw3997390647395864760 tw13019057656316365590 tw12105573094894448436 tw11320619438925342988 tw3417239048840638752 tw7772584244944727831 tw8690826442733046938 tw15701595099035146182 tw2231724025225689331 tw6133111680052442505 tw8302230395583696910 tw13711127736204795275 tw15046225184204321562 tw2492247521927874405 tw110666557393647355 tw11168317798963359978 tw16539979426584288609 tw6169878687083344199 tw4484081978964117690 tw11424046965719814737 tw5511465873675547911 tw9340740321953044759 tw18024965552836017869 tw6699341352045142824 tw4451654451318475648 tw5816680826403596495 tw12441738223344308460 tw12807917525725925855 tw8596331396131150531 tw14297017425180809259 tw11956475547250178833 tw10522762952569000070 tw9885430898938675490 tw13395508923577281792 tw16681178014976103657 tw2574194115029014803 tw11045379906192531503 tw15864781785703429196 tw3010370946051171034 tw15505324301048271113 tw17523856782175361063 tw12683758523247117679 tw57525393961746523 tw10539102879391924914 tw15328269930329888480 tw8892528693590651713 tw6646143603587657226 tw10673622423003660041 tw18401852531850633747 tw6016108260961051518 tw2994576298540779350 tw15073575541304205768 tw3151130488608257876 tw4522160210980792349 tw9507954491388216978 tw10344418381254466307 tw12180949182541005228 tw15275180003511268945 tw6183586131435903670 tw17272362357630268922 tw16395057329469514941 tw7405101034198443530 tw2757667486263161353 tw17016983902304182948 tw17030906521751709294 tw12894898706489501591 tw923950812310061820 tw9786895907205887211 tw13697375423027171890 tw11193538524697438711 tw12590916602906360056 tw17066989588190786753 tw7367375483663962196 tw15585484152775605268 tw6741927368341102243 tw17771617085370072831 tw8542726052254423134 tw7464779382474781976 tw10351129395804428895 tw9595532662560439656 tw10128728863555836048 tw13445474523416750420 tw1786012280339393282 tw4572680309297029199 tw13843578914813877030 tw6731085027611834866 tw14017125176744824710 tw5211474308814966726 tw12920405586451443513 tw13058114461001964620 tw2651446544763263102 tw8819006177737426925 tw9968459107315499017 tw13691752715719191589 tw14908176015174392908 tw180126791239016632 tw9480940182568878977 tw2610797148061271331 tw6435807106384540577 tw2898255833781801083 tw16249290940994052638 tw7352242526683696701 tw12934475857275186347 tw4309659962808505013 tw1126110499649641836 tw11680567810928251644 tw326591688603622861 tw6157347568307820424 tw7797393005358778785 tw6860236135870300186 tw18333540718089685249 tw1487752705003045281 tw17820524674956406726 tw13557332844199040878 tw3536786595111143208 tw9339198986413850975 tw7514461716801400749 tw5079290545426203896 tw2795946374263218853 tw3495784873541123375 tw7936146964666745705 tw11954170062405527230 tw4231352241929839180 tw3518649910404285246 tw7010353377529506387 tw11287553982212259941 tw3360694260292839502 tw8342370223829183452 tw6850076809535869534 tw5183200753256278158 tw1444740603695019366 tw15957728962073168657 tw5273828420933194414 tw6479482975845014665 tw4276983978845226244 tw3221298352282771942 tw5168000929774681985 tw1531533704853311032 tw6120684152848570534 tw2952571119251176481 tw4560757044513627179 tw7901017285605504835 tw10720132787483405369 tw636238617287806219 tw9072986298694683363 tw6233495318466566986 tw13879038068903910082 tw17370927998346891510 tw4694568034675783591 tw10407758035290635080 tw13621267396468625378 tw5831506726045263457 tw7643751705773986949 tw9903265672505904115 tw13828912164674496357 tw18249772645611755800 tw7695621802760073789 tw10797496820890051927 tw14301663230698308562 tw14917663980801692162 tw1880823267451285555 tw14046265812339606535 tw9026213195720224222 tw13891486304635461623 tw1628302030997333202 tw2353676897998665286 tw8422467948223946297 tw10917095917369276597 tw16820857544222787879 tw18214229317803169460 tw11533403124952476474 tw17039288303988758539 tw13301057414922658182 tw13906068452965196696 tw7903644134375554642 tw3901924739631493040 tw10682046012428422687 tw15728433184441916085 tw6059638254456690415 tw10369620622353445636 tw16370124703860203269 tw14881077432345073287 tw15707185652710565932 tw17399025547543215925 tw5305216396772970981 tw9369423796877030643 tw334482025519384131 tw9692040421026020375 tw1549130646285405048 tw15164694667410336768 tw8657134012758533116 tw13145341448636533893 tw359319246112927998 tw15705128307933880491:True)
open PySem PySem.W PyProof.Rows
set_option maxRecDepth 100000 in
set_option maxHeartbeats 0 in
theorem PySem.Challenge.cw_roomalgebra_k25_eight_rooms_or_nine_word_holds : PySem.Challenge.rw_roomalgebra_k25_eight_rooms_or_nine_word.Holds := by
 w_on;o_law;z_head;(case hw=>w_witness2)
 k_fill
 intro w sa sb mg mb G ye fa ob pm cd dc dv kv e1 e2 e3 e4 e5 e6 gs vs bs La c1 c2 c3 c4 c5
 z_open ye La KX ZH ZN ZT
 clear ye La ZH ZN ZT
 refine L2.Ah (k:=11) (x:="_law_script") (l:=PySem.Challenge.rw_roomalgebra_k25_eight_rooms_or_nine_word) (tabs:=[(242,238),(318,314),(271,267),(278,274),(285,281),(297,293),(304,300),(264,262)]) rfl rfl ⟨rfl,by decide,by decide⟩ ?T ?F w sa sb mg mb G KX fa ob pm cd dc dv kv e1 e2 e3 e4 e5 e6 gs vs bs c1 c2 c3 c4 c5
 case T=>
  intro p q hq
  simp only [mem_cons,not_mem_nil,or_false] at hq
  rcases hq with rfl|rfl|rfl|rfl|rfl|rfl|rfl|rfl
  all_goals exact ⟨by kernel_rfl,by kernel_rfl⟩
 case F=>
  intro w mg fa h KX G hmg
  refine' K25.A' rfl (by decide) KX G hmg ?nA_ ?nB_ ?nC_ ?nD_ ?nE_ ?nF_ ?nG_ ?nH_ ?nI_ ?nJ_ ?nK_ ?oG_ ?eG_ ?mG_ ?iGB_ ?iGC_ ?iGD_ ?iGE_ ?iGF_ ?iGG_ ?iGH_ ?iGI_ ?iGJ_ ?iGK_ ?vG_ ?eH_ ?mH_ ?iHB_ ?iHC_ ?iHD_ ?iHE_ ?iHF_ ?iHG_ ?iHH_ ?iHI_ ?iHJ_ ?iHK_ ?vH_ ?nW ?hI0 ?cls ?mk ?na1 ?na2 ?na3 ?na4 ?na5 ?lI ?cI ?hX0 ?xo ?xc ?xn1 ?xn2 ?xn3 ?xb ?xf ?xe ?lX ?cX ?aV ?lV ?cV ?lD ?aM ?lM ?cM ?aA ?lA ?cA ?aB ?lB ?cB ?aC ?lC ?cC ?aS ?lS ?cS ?aH ?lH ?cH ?aN ?lN ?cN ?aU ?lU ?cU ?l0 ?l1 ?l2 ?l3 ?l4 ?l5 ?l6 ?l7 ?l8 ?l9 ?l10 ?l11 ?l12 ?l13 ?l14 ?l15 ?l16 ?l17 ?l18 ?l19 ?l20 ?l21 ?l22 ?l23 ?l24 ?l25 ?l26 ?l27 ?l28 ?l29 ?l30 ?l31 ?l32 ?a33 ?l33 ?c33 ?z_len ?z_range ?z_isinst ?z_int ?z_bool ?z_tuple ?z_list ?z_str ?z_zip ?z_enumerate ?z_reversed ?z_max ?z_all ?z_any ?z_set ?z_sorted ?z_verr ?z_most
  (case nA_|nB_|nC_|nD_|nE_|nF_|nG_|nH_|nI_|nJ_|nK_|nW|aV|aM|aA|aB|aC|aS|aH|aN|aU|a33|z_len|z_range|z_isinst|z_int|z_bool|z_tuple|z_list|z_str|z_zip|z_enumerate|z_reversed|z_max|z_all|z_any|z_set|z_sorted|z_verr|z_most=>exact L2.E1 (by k_is) (by decide))
  (case oG_=>unfold L2.xt;kernel_rfl)
  (case eG_|eH_=>exact ⟨by kernel_rfl,by kernel_rfl,by kernel_rfl,by kernel_rfl,by kernel_rfl,by kernel_rfl,by kernel_rfl,by kernel_rfl⟩)
  (case mG_|iGB_|iGC_|iGD_|iGE_|iGF_|iGG_|iGH_|iGI_|iGJ_|iGK_|vG_|mH_|iHB_|iHC_|iHD_|iHE_|iHF_|iHG_|iHH_|iHI_|iHJ_|iHK_|vH_|xf|xe=>kernel_rfl)
  (case hI0|hX0=>k_is)
  (case cls|mk=>exact ⟨by kernel_rfl,by kernel_rfl,by kernel_rfl,by kernel_rfl⟩)
  (case na1|na2|na3|na4|na5|xn1|xn2|xn3=>unfold L2.vj;kernel_rfl)
  (case lI|lX|lV|lD|lM|lA|lB|lC|lS|lH|lN|lU|l33=>exact L2.EZ (by k_is) (by decide))
  (case cI|cX|cV|cM|cA|cB|cC|cS|cH|cN|cU|c33=>exact L2.E2 (by k_is) (by decide))
  (case xo=>unfold L2.wz;kernel_rfl)
  (case xc|xb=>exact ⟨by kernel_rfl,by kernel_rfl,by kernel_rfl⟩)
  (case l0|l1|l2|l3|l4|l5|l6|l7|l8|l9|l10|l11|l12|l13|l14|l15|l16|l17|l18|l19|l20|l21|l22|l23|l24|l25|l26|l27|l28|l29|l30|l31|l32=>exact ⟨_,L2.E1 (by k_is) (by decide),L2.Ca (L2.EZ (by k_is) (by decide)) (L2.E2 (by k_is) (by decide))⟩)
#print axioms PySem.Challenge.cw_roomalgebra_k25_eight_rooms_or_nine_word_holds
