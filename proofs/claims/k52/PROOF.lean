import PyProof.Rows.All
import Wide.All
import OpenK.AllK
import Wide.FinOn
import Lean
import PyProof.EqAt
import PyProof.EqKinds
import PyProof.TupleCall
import PyProof.Draws
import PyProof.ZipIter
import PySem.Challenge.RW_roomalgebra_k52_by_last_signs
set_option Elab.async false
set_option linter.all false
set_option maxRecDepth 100000
set_option compiler.extract_closed false
namespace zz
open Lean
def N k a:=Syntax.node .none k a
def A:=Syntax.atom .none
def P(p s:String):=s!"Lean.Parser.{p}.{s}".toName
def T:=P "Term"
def C:=P "Command"
def Q:=P "Tactic"
def L:=N `null
def U f a:=N (T "app") #[f,L a]
def S t:=N (Q "tacticSeq") #[N (Q "tacticSeq1Indented") #[L t]]
def J k a:=N (Q k) (#[A k]++a)
def F(a:Array (Array Syntax)):=J "first" #[L (a.map λy=>N `group #[A "|",S y])]
def B(n:Nat):=
 let i:=J "intro" #[L #[N (T "hole") #[A "_"]]];let V:=N (Q "optConfig") #[L #[]];let r:=N (Q "tacticRfl") #[A "rfl"];let z:=mkIdent `z;let l:Array Name:=#[``Or.inl,``Or.inr]
 match n with
 |0=>#[J "decide" #[V]]
 |1=>#[J "simp" #[V,L #[],L #[],L #[],L #[]]]
 |2=>#[J "omega" #[V]]
 |3=>#[J "decide" #[N (Q "optConfig") #[L #[N (Q "configItem") #[N (Q "posConfigItem") #[A "+",mkIdent `kernel]]]]]]
 |4=>#[r]
 |5=>#[J "intro" #[L #[z]],A ";",J "cases" #[L #[N (Q "elimTarget") #[L #[],z]],L #[],L #[]]]
 |6=>#[J "lia" #[V]]
 |7=>#[i,A ";",F #[#[r],#[i,A ";",r]]]
 |8=>let e:=l.map λx=>U (mkCIdent x) #[mkCIdent ``rfl];#[F (((e++e.map λy=>U (mkCIdent ``Or.inr) #[y]).map λy=>#[J "exact" #[y]]).push #[J "assumption" #[]])]
 |_=>#[N (Q "withUnfoldingAll") #[A "with_unfolding_all",S #[r]]]
def R(n:String)s v m:=N (C "declaration") #[m,N (C "theorem") #[A "theorem",N (C "declId") #[mkIdent n.toName,L #[]],s,v]]
def K(x:List Char):=(List.range (x.length/10)).map λi=>((x.drop (10*i)).take 10).foldr (λx n=>n*90+x.toNat-35-(if x.toNat>92 then 2 else 0)) 0
def W(s:Syntax):=s.rewriteBottomUp λx=>match x with|.atom _ v=>.atom .none v|.ident _ r v p=>.ident .none r v p|x=>x
def D(s:Syntax):MacroM Syntax:=do
 let d:=s[1];let k:=d.getKind;let m:=s[0]
 if k==C "example" then if let some x:=d[2][1].isStrLit? then return L ((K x.toList).toArray.map λn=>R ("PySem.W.Fast.tw"++toString n) (N (C "declSig") #[L #[],N (T "typeSpec") #[A ":",mkCIdent ``True]]) (N (C "declValSimple") #[A ":=",mkCIdent ``trivial,N `Lean.Parser.Termination.suffix #[L #[],L #[]],L #[]]) m)
 let i:=if k==C "instance" then d[3][0] else d[1]
 unless (i.getHeadInfo matches .original ..)&&m.getArgs.all (·.getNumArgs==0) do Macro.throwUnsupported
 let f:=λm k x a=>return W (N s.getKind #[m,N (C k) (#[A x,i]++a)])
 if k==C "definition" then f m "theorem" "theorem" #[N (C "declSig") #[d[2][0],d[2][1][0]],d[3]]
 else if k==C "abbrev" then f (m.setArg 4 (L #[N (C "noncomputable") #[A "noncomputable"]])) "definition" "def" #[d[2],d[3],L #[]]
 else if k==C "instance" then f m "abbrev" "abbrev" #[N (C "optDeclSig") #[d[4][0],L #[d[4][1]]],d[5]]
 else Macro.throwUnsupported
def O(s:Syntax):=
 let p:=s[2][0]
 if p.getKind==T "letPatDecl" then
  let q:=p[0].rewriteBottomUp λs=>match s with
   |.ident ..=>N (Q "rcasesPat.one") #[s]
   |.node _ k a=>if k==T "hole" then N (Q "rcasesPat.ignore") a else if k==T "anonymousCtor" then N (Q "rcasesPat.tuple") #[a[0]!,L (a[1]!.getArgs.map λe=>if e.isAtom then e else N (Q "rcasesPatLo") #[N (Q "rcasesPatMed") #[L #[e]],L #[]]),a[2]!] else s
   |_=>s
  N (Q "obtain") #[A "obtain",L #[N (Q "rcasesPatMed") #[L #[q]]],L #[],L #[A ":=",L #[p[4]]]]
 else N (Q "tacticHave__") #[A "have",s[1],s[2]]
def E(s:Syntax):MacroM Syntax:=do
 let b:=s[1][2].getArgs
 if b.size%2==0 then Macro.throwUnsupported
 return N (T "anonymousCtor") #[A "⟨",L ((#[s[1][0]]++b).flatMap λe=>if e.isAtom then #[] else (match e.isNatLit? with|some n=>(#["hr","r","hhrr","q","hrhr","66","rr","hh","hhr","qq"][n]?.map λ(s:String)=>s.toList.toArray.map λc=>if c=='h' then N (T "hole") #[A "_"] else if c=='r' then mkCIdent ``rfl else if c=='q' then N (T "syntheticHole") #[A "?",A "_"] else N `term!_ #[A "!",N `num #[A c.toString]]).getD #[e]|_=>#[e]).flatMap λe=>#[e,A ","]),A "⟩"]
end zz
def zz.a0:=zz.S (zz.B 0)
def zz.a3:=zz.S (zz.B 3)
def zz.a4:=zz.S (zz.B 4)
def zz.a7:=zz.S (zz.B 7)
def zz.a8:=zz.S (zz.B 8)
def zz.a9:=zz.S (zz.B 9)
noncomputable section
local macro_rules(kind:=Lean.Parser.Term.tuple)|s=>zz.E s
local macro_rules(kind:=Lean.Parser.Tactic.tacticLet__)|s=>return zz.O s
local macro_rules(kind:=Lean.Parser.Tactic.show)|s=>return zz.N (zz.Q "exact") #[zz.A "exact",s[1]]
local macro_rules(kind:=«term_<*_»)|s=>return zz.N `«term_=_» #[s[0],zz.A "=",zz.U (Lean.mkCIdent ``some) #[s[2]]]
local macro_rules(kind:=«term_⁻¹»)|s=>return zz.N (zz.T "proj") #[s[0],zz.A ".",Lean.mkIdent `heap.objs.size]
local macro_rules(kind:=«term_>>>_»)|s=>match s[2].isNatLit? with|some n=>return zz.U (Lean.mkCIdent ``autoParam) #[s[0],Lean.mkCIdent (`zz++.mkSimple s!"a{n}")]|_=>Lean.Macro.throwUnsupported
local macro_rules(kind:=term!_)|s=>match s[1].isNatLit? with|some n=>return zz.N (zz.T "byTactic") #[zz.A "by",zz.S (zz.B n)]|_=>Lean.Macro.throwUnsupported
local macro_rules(kind:=Lean.Parser.Command.declaration)|s=>zz.D s
@[reducible]def LN:=List Nat
@[reducible]def LL:=List LN
open PySem.W (Frag fnOf nsIn mg_none_of codeIn mg_of CodeHd keepIn fnMade kla_obj kia_one kitOne findIn emptyDict envX instObj tabObj hideAll callWith_K kla_fn lookIn takerIn plainGet methodObj hasDictIn)
open List (getElem?_eq_getElem length_map length_append getElem?_map getD_eq_getElem?_getD mem_of_getElem? mem_cons mem_singleton mem_range map_append mem_map getElem_mem getElem?_append_right getElem?_append_left length_cons mem_append mem_iff_getElem? length_take idxOf_lt_length_of_mem length_range size_toArray all_eq_true mem_cons_of_mem lookup_cons take_length not_mem_nil length_drop map_cons getElem_idxOf mem_append_right take_of_length_le mem_of_mem_take append_nil mem_append_left mem_reverse mem_cons_self find?_cons take_append_drop reverse length_eq_zero_iff nodup_cons forIn_cons cons_append map_map append_assoc forIn_nil mem_filter getElem?_range length_replicate take_add_one length_reverse range_succ mem_of_mem_drop filter_nil extract_eq_take_drop Nodup getElem?_toArray pairwise_map filter_append dropLast_concat_getLast take_take replicate filterMap_cons reverse_reverse idxOf_cons length_filter_le getElem_inj reverse_perm nodup_append getElem?_drop flatMap_append pairwise_iff_getElem of_mem_zip getElem?_zip_eq_some drop_eq_getElem_cons mem_flatMap getElem?_eq_none eq_nil_or_concat concat_eq_append)
open PySem.Heap (get?_push_of_some lt_size get?_push_size size_push SameBut size_update)
open PyProof.Rows (boot_tuple boot_isinstance boot_zip boot_list boot_max boot_int boot_bool)
open Nat (zero_le ne_of_lt lt_of_lt_of_le le_add_right lt_succ_self le_of_not_lt lt_of_le_of_lt not_lt_zero le_of_eq lt_trans min_eq_left ne_of_gt lt_irrefl zero_max sub_self le_succ le_antisymm lt_trichotomy sub_succ_lt_self add_assoc succ_mul succ_le_succ mul_comm lt_succ_of_lt)
open Option (map_eq_some_iff)
open Array (length_toList toList_append getElem_toList getElem?_toList toList_extract toList_push size_extract Perm getElem_extract)
open PySem.Obj (mapSeq)
open PySem (boot_len)
open PySem.F (plainAttrs_str plainAttrs_list slot_list_index type_list_index)
open Bool (eq_false_iff and_eq_true false_eq_true)
open Int (ofNat_lt toNat toNat_natCast emod_nonneg)
def j0{b:Type _}{l:List b}{i:Nat}{a:b}(h:l[i]?<*a):∃h:i<l.length,l[i]=a:=List.getElem?_eq_some_iff.mp h
def hH{a:Type _}{l:List a}{i:Nat}(h:i<l.length):l[i]?<*l[i]:=List.getElem?_eq_getElem h
def mu{b:Type _}{l:List b}{i:Nat}{a:b}:l.getD i a=l[i]?.getD a:=List.getD_eq_getElem?_getD
def ix{a:Type _}{b:Type _}{l:List a}(f:a->b):(l.map f).length=l.length:=List.length_map f
def j_{a:Type _}{l m:List a}:(l++m).length=l.length+m.length:=List.length_append
def lv{a:Type _}{b:Type _}{f:a->b}{l:List a}{i:Nat}:(l.map f)[i]?=Option.map f l[i]?:=List.getElem?_map
@[reducible]def g_:=@PySem.wpAny_bind
@[reducible]def j3:=@PySem.wpAny_pure
@[reducible]def mJ:=@PySem.Heap.get?_push_of_some
def t5{c:Type _}{a b:c}:a∈[b]->a=b:=List.mem_singleton.mp
def pa{b:Type _}{l:List b}{i:Nat}{a:b}(h:l[i]?<*a):a∈l:=List.mem_of_getElem? h
def uJ{d:Type _}{c:Type _}{f:d->c}{x:Option d}{b:c}(h:Option.map f x<*b):∃a,x=some a/\f a=b:=Option.map_eq_some_iff.mp h
open PySem
namespace L2
open PySem.Spec PyProof.Rows
@[reducible]def vW:=Sum Int Str
abbrev cN:vW->Value->Bool
 |.inl k,v=>Value.isInt k v
 |.inr x,v=>Value.isStrOf x v
abbrev t8(w:World):vW->Int
 |.inl k=>hashInt k
 |.inr x=>hashStr w x
def l_:∀{k:vW}{v:Value},cN k v=true->(∃i t,k=Sum.inl i/\v=Value.int i t)\/(∃x t,k=Sum.inr x/\v=Value.str x t)
 |.inl i,v,h=>by
  let⟨t,e⟩:=Value.isInt_shape (k:=i) (v:=v) h;show .inl (i,t,1,e)
 |.inr x,v,h=>by
  let⟨t,e⟩:=Value.isStrOf_shape (x:=x) (v:=v) h;show .inr (x,t,1,e)
def kO(i:Int)(t:Tok):cN (.inl i) (.int i t)=true:=by simp[cN,Value.isInt]
def kN(x:Str)(t:Tok):cN (.inr x) (.str x t)=true:=by simp[cN,Value.isStrOf]
def qY(a b:Int):decide ((Sum.inl a:vW)=Sum.inl b)=(a==b):=by
 by_cases e:a=b
 .subst e;simp
 .let h:¬ (Sum.inl a:vW)=Sum.inl b:=λq=>e (Sum.inl.inj q);rw[decide_eq_false h];show(beq_eq_false_iff_ne.mpr e).symm
def qV(a b:Str):decide ((Sum.inr a:vW)=Sum.inr b)=decide (a=b):=by
 by_cases e:a=b
 .subst e;simp
 .let h:¬ (Sum.inr a:vW)=Sum.inr b:=λq=>e (Sum.inr.inj q);rw[decide_eq_false h,decide_eq_false e]
def qX(a:Int)(b:Str):decide ((Sum.inl a:vW)=Sum.inr b)=false:=decide_eq_false (λq=>nomatch q)
def qW(a:Str)(b:Int):decide ((Sum.inr a:vW)=Sum.inl b)=false:=decide_eq_false (λq=>nomatch q)
abbrev JC(prog:Program)(w:World):PySem.KeyKind prog w vW where
 is:=cN
 hash:=t8 w
 inj:=λv a b ha hb=>by
  rcases l_ ha with⟨i,t,rfl,rfl⟩|⟨x,t,rfl,rfl⟩
  .rcases l_ hb with⟨j,u,rfl,e⟩|⟨y,u,rfl,e⟩
   .injection e with e1 _;rw[e1]
   .exact nomatch e
  .rcases l_ hb with⟨j,u,rfl,e⟩|⟨y,u,rfl,e⟩
   .exact nomatch e
   .injection e with e1 _;rw[e1]
 byValue:=λk v h=>by
  rcases l_ h with⟨i,t,rfl,rfl⟩|⟨x,t,rfl,rfl⟩<;>rfl
 pyHash:=λhv h=>by
  rcases l_ hv with⟨i,t,rfl,rfl⟩|⟨x,t,rfl,rfl⟩
  .exact wpAny_pyHash_int h
  .exact wpAny_pyHash_str h
 eqBool:=λhu hv h=>by
  rcases l_ hu with⟨i,t,rfl,rfl⟩|⟨x,t,rfl,rfl⟩
  .rcases l_ hv with⟨j,u,rfl,rfl⟩|⟨y,u,rfl,rfl⟩
   .rw [qY]at h;show wpAny_eqBool_int h
   .rw [qX]at h;show SeqAt.EqAt.int_str i t y u _ _ _ _ h
  .rcases l_ hv with⟨j,u,rfl,rfl⟩|⟨y,u,rfl,rfl⟩
   .rw [qW]at h;show SeqAt.EqAt.str_int x t j u _ _ _ _ h
   .rw [qV]at h;show wpAny_eqBool_str h
 «strs»:=λk x t v h=>by
  rcases l_ h with⟨i,u,rfl,e⟩|⟨y,u,rfl,e⟩
  .exact nomatch e
  .injection e with e1 _
   subst e1
   cases v<;>rfl
def FA(prog:Program)(w:World)(i:Int)(t:Tok):(JC prog w).is (.inl i) (.int i t)=true:=kO i t
def fW(prog:Program)(w:World)(x:Str)(t:Tok):(JC prog w).is (.inr x) (.str x t)=true:=kN x t
inductive V where
 |non|bl (b:Bool)|int (i:Int)|str (x:Str)|byt (b:Array UInt8)|flt (b:UInt64)|ref (a:Addr)|ty (n:String)
 deriving DecidableEq
abbrev ad:V->Value->Prop
 |.non,u=>u=Value.none
 |.bl b,u=>u=Value.bool b
 |.int i,u=>∃t,u=Value.int i t
 |.str x,u=>∃t,u=Value.str x t
 |.byt b,u=>∃t,u=Value.bytes b t
 |.flt b,u=>∃t,u=Value.float b t
 |.ref a,u=>u=Value.ref a
 |.ty n,u=>u=Value.type n
instance ae:List V->List Value->Prop:=Paired ad
def ae.length(r:ae xs a):xs.length=a.length:=Paired.length r
def ae.get:∀{xs:List V}{a:List Value}{i:Nat}{x:V},ae xs a->xs[i]?<*x->∃u,a[i]?=some u/\ad x u
 |_,_,_,_,.nil,e=>by simp at e
 |_,_,0,_,.cons r _,e=>by simp at e;subst e;show(0,r)
 |_,_,i+1,x,.cons _ t,e=>by
  let⟨u,c,b⟩:=ae.get (i:=i) (x:=x) t (by simpa using e);show(u,by simpa using c,b)
def ae.append:∀{xs ys:List V}{a ws:List Value},ae xs a->ae ys ws->ae (xs++ys) (a++ws)
 |_,_,_,_,.nil,s=>s
 |_,_,_,_,.cons r t,s=>.cons r (ae.append t s)
def ae.take:∀{xs:List V}{a:List Value}(n:Nat),ae xs a->ae (xs.take n) (a.take n)
 |_,_,0,_=>.nil
 |_,_,_+1,.nil=>.nil
 |_,_,n+1,.cons r t=>.cons r (ae.take n t)
def ae.drop:∀{xs:List V}{a:List Value}(n:Nat),ae xs a->ae (xs.drop n) (a.drop n)
 |_,_,0,r=>r
 |_,_,_+1,.nil=>.nil
 |_,_,n+1,.cons _ t=>ae.drop n t
abbrev al:Option V->Option Value->Prop
 |some v,some u=>ad v u
 |none,none=>True
 |_,_=>False
abbrev KV{κ:Type}:List (κ×V)->List (κ×Value)->Prop:=Paired λ(p:κ×V)(q:κ×Value)=>p.1=q.1/\ad p.2 q.2
abbrev kV:vW->V
 |.inl i=>.int i
 |.inr x=>.str x
inductive HO where
  |lst (xs:List V)
  |tup (xs:List V)
  |dK (kvs:List (vW×V))|dT (kvs:List (List vW×V))
  |set (S:Int->Bool) (n:Nat)
  |ins (C dx:Addr) (fs:List (Str×V))
  |own (x:Addr)
  |xd (fs:List (Str×V))
  |met (f x:Addr)
  |rng (lo hi:Int)
  |frz (o:Obj) (u:HO)
  |tbl (ps:Array Value)
  |ext (φ:Heap->Prop)
@[reducible]def Hp:=Addr->Option HO
abbrev upd(H:Hp)(a:Addr)(o:HO):Hp:=λb=>if b=a then some o else H b
def a_:upd H a o a<*o:=by unfold upd;rw[if_pos rfl]
def b_(h:b≠a):upd H a o b=H b:=by unfold upd;rw[if_neg h]
def JD:upd (upd H a o) a u=upd H a u:=by
 funext b;unfold upd;split<;>rfl
def m3{H:Hp}(h:H a<*o)(h':H b<*u)(d:o≠u):a≠b:=by
 intro e;subst e;rw[h]at h';show d (Option.some.inj h')
def f'{H:Hp}(h:H a<*o)(h':H b=none):a≠b:=by
 intro e;subst e;rw[h]at h';cases h'
section
variable(P:Program)(w:World)
abbrev uz(H:Hp)(h:Heap)(a:Addr):HO->Prop
 |.lst xs=>xs.length≤sizeLine/\∃(its:List Value)(n:Nat),ae xs its/\h.get? a<*{cls:=.type "list",data:=.seq its.toArray n}
 |.tup xs=>xs.length≤sizeLine/\∃its:List Value,ae xs its/\IsTup h a its.toArray
 |.dK kvs=>kvs.length≤sizeLine/\(a==sysModules)=false/\∃vs,KV kvs vs/\h.DictOf (JC P w) a vs
 |.dT kvs=>kvs.length≤sizeLine/\(a==sysModules)=false/\∃xs:List (List vW×Addr×Value),
   Paired (λ(p:List vW×V)(q:List vW×Addr×Value)=>p.1=q.1/\H q.2.1=some (.tup (p.1.map kV))/\ad p.2 q.2.2) kvs xs/\
   ∃o es ep,h.get? a=some o/\o.ExactDict/\o.data=.dict es ep/\es.toList=xs.map (entryOfKey (tupleKind (JC P w)))/\(xs.map (·.1)).Nodup
 |.set S n=>h.SetOf (intKind P w) a S n
 |.ins C dx fs=>H dx=some (.own a)/\fs.length≤1000/\dx≠a/\h.get? a=some (instObj C dx)/\
   ∃mA,h.Ns1 dx mA/\(∀f,al (fs.lookup f) (mA f))/\PySem.Within mA (fs.map (·.1))
 |.own _=>∃o,h.get? a<*o
 |.xd fs=>∃mA,h.Ns1 a mA/\∀f,al (fs.lookup f) (mA f)
 |.rng lo hi=>∃t u v,h.get? a<*{cls:=.type "range",data:=.fields #[.int lo t,.int hi u,.int 1 v]}
 |.frz o u=>h.get? a=some o/\uz H h a u
 |.tbl ps=>h.get? a<*{cls:=.none,data:=.fields ps}
 |.met f x=>h.get? a<*methodObj (.ref f) (.ref x)
 |.ext φ=>φ h/\(∃o,h.get? a<*o)/\∀h1 h2:Heap,φ h1->(∀o,h1.get? a<*o->h2.get? a<*o)->φ h2
abbrev uK(H:Hp)(h:Heap):Prop:=∀a o,H a<*o->uz P w H h a o
end
section
variable{P:Program}{w:World}{H H':Hp}{h h':Heap}{a:Addr}{o:HO}
def uz.lt(x:uz P w H h a o):a<h.objs.size:=by
 cases o with
 |lst xs=>let⟨_,_,_,_,e⟩:=x;show lt_size e
 |tup xs=>let⟨_,_,_,p⟩:=x;show p.lt
 |dK kvs=>let⟨_,_,_,_,o,_,_,e,_⟩:=x;show lt_size e
 |dT kvs=>let⟨_,_,_,_,o,_,_,e,_⟩:=x;show lt_size e
 |set S n=>let⟨o,_,_,_,e,_⟩:=x;show lt_size e
 |ins C dx b=>let⟨_,_,_,e,_⟩:=x;show lt_size e
 |own y=>let⟨_,e⟩:=x;show lt_size e
 |xd b=>let⟨_,⟨_,_,_,e,_⟩,_⟩:=x;show lt_size e
 |rng lo g=>let⟨_,_,_,e⟩:=x;show lt_size e
 |frz d u=>let⟨e,_⟩:=x;show lt_size e
 |tbl ps=>show lt_size (show h.get? a<*_ from x)
 |met f y=>show lt_size (show h.get? a<*_ from x)
 |ext c=>let⟨_,⟨_,e⟩,_⟩:=x;show lt_size e
def Paired.mapP{g e:Type}{F G:g->e->Prop}:∀{d:List g}{c:List e},Paired F d c->(∀a b,F a b->G a b)->Paired G d c
 |_,_,.nil,_=>.nil
 |_,_,.cons r t,f=>.cons (f _ _ r) (Paired.mapP t f)
def uz.stay(x:uz P w H h a o)(k:∀b u,(b=a\/H b<*.own a)->h.get? b<*u->h'.get? b<*u)(E:∀b,H b<*.own a->H' b<*.own a)(D:∀b xs,H b<*.tup xs->H' b<*.tup xs):uz P w H' h' a o:=by
 induction o with
 |lst xs=>let⟨z,l,n,r,e⟩:=x;show(z,l,n,r,k _ _ (.inl rfl) e)
 |tup xs=>let⟨z,l,r,g,e,c⟩:=x;show(z,l,r,g,k _ _ (.inl rfl) e,c)
 |dK kvs=>let⟨z,y,vs,r,g,i,j,e,c⟩:=x;show(z,y,vs,r,g,i,j,k _ _ (.inl rfl) e,c)
 |dT kvs=>
  let⟨z,y,xs,r,g,i,j,e,c⟩:=x;show(z,y,xs,Paired.mapP r λp q z=>(z.1,D _ _ z.2.1,z.2.2),g,i,j,k _ _ (.inl rfl) e,c)
 |set S n=>let⟨g,i,j,t,e,c⟩:=x;show(g,i,j,t,k _ _ (.inl rfl) e,c)
 |ins C dx F=>
  let⟨d,z,A,e,s,⟨m,i,j,G,c⟩,r⟩:=x;show(E _ d,z,A,k _ _ (.inl rfl) e,s,(m,i,j,k _ _ (.inr d) G,c),r)
 |own y=>let⟨g,e⟩:=x;show(g,k _ _ (.inl rfl) e)
 |xd F=>let⟨s,⟨m,i,j,e,c⟩,r⟩:=x;show(s,(m,i,j,k _ _ (.inl rfl) e,c),r)
 |rng lo L=>let⟨t,u,v,e⟩:=x;show(t,u,v,k _ _ (.inl rfl) e)
 |frz g u B=>let⟨e,q⟩:=x;show(k _ _ (.inl rfl) e,B q)
 |tbl ps=>
  let e:h.get? a<*{cls:=.none,data:=.fields ps}:=x;change h'.get? a<*{cls:=.none,data:=.fields ps};show k a _ (.inl rfl) e
 |met f y=>
  let e:h.get? a<*methodObj (.ref f) (.ref y):=x;change h'.get? a<*methodObj (.ref f) (.ref y);show k a _ (.inl rfl) e
 |ext I=>let⟨p,⟨o,e⟩,st⟩:=x;show(st _ _ p λo q=>k _ _ (.inl rfl) q,(o,k _ _ (.inl rfl) e),st)
def uK.lt(x:uK P w H h)(e:H a<*o):a<h.objs.size:=(x a o e).lt
def uK.fresh(x:uK P w H h)(e:h.objs.size≤a):H a=none:=by
 cases q:H a with
 |none=>rfl
 |some u=>show absurd (lt_of_lt_of_le (x.lt q) e) (lt_irrefl _)
def uK.kept(x:uK P w H h)(k:∀b u,h.get? b<*u->h'.get? b<*u):uK P w H h':=λa o e=>
 (x a o e).stay (λb u _ q=>k b u q) (λ_ q=>q) λ_ _ q=>q
def uK.laid(x:uK P w H h)(k:∀b u,h.get? b<*u->h'.get? b<*u)(hp:h.objs.size≤a)(d:uz P w (upd H a o) h' a o):uK P w (upd H a o) h':=λb u e=>by
 let f:=x.fresh hp;by_cases g:b=a
 .subst g;rw[a_]at e;cases e;show d
 .rw [b_ g]at e;show(x b u e).stay (λc v _ q=>k c v q) (λc q=>by rw[b_ (f' q f)];show q) λc xs q=>by rw[b_ (f' q f)];show q
end
abbrev Rd(H:Hp)(a:Addr)(u:HO):Prop:=H a<*u\/∃o,H a<*.frz o u
def Rd.ok(r:Rd H a u)(x:uK P w H h):uz P w H h a u:=by
 rcases r with r|⟨o,r⟩
 .exact x a u r
 .obtain ⟨_,q⟩:=x a _ r;show q
abbrev J7:Option HO->Prop
 |some (.lst _)=>True
 |some (.dK _)=>True
 |some (.dT _)=>True
 |some (.set _ _)=>True
 |some (.ins _ _ _)=>True
 |some (.ext _)=>True
 |_=>False
section
variable{P:Program}{w:World}{H:Hp}{h h':Heap}{x e:Addr}{o':HO}
def uK.write(ok:uK P w H h)(g:J7 (H x))(o:e=x\/H e<*.own x)(k:∀b u,b≠e->h.get? b<*u->h'.get? b<*u)(m:∃u,h'.get? e<*u)(l:uz P w (upd H x o') h' x o'):uK P w (upd H x o') h':=λb u q=>by
 let d:∀c y,H c<*.own y->c≠x:=λc y r z=>by subst z;rw[r]at g;show g
 let f:∀c xs,H c<*.tup xs->c≠x:=λc xs r z=>by subst z;rw[r]at g;show g
 by_cases j:b=x
 .subst j;rw[a_]at q;cases q;show l
 .rw [b_ j]at q;by_cases a:b=e
  .let n:H b<*.own x:=by
    rcases o with z|z
    .exact absurd (a.trans z) j
    .rw [a];show z
   rw[q]at n;cases n;let⟨v,p⟩:=m;show(v,by rw[a];show p)
  .refine (ok b u q).stay (λc v i r=>k c v ?_ r) (λc r=>by rw[b_ (d c b r)];show r) λc xs r=>by rw[b_ (f c xs r)];show r
   rcases i with rfl|i
   .exact a
   .rintro rfl;rcases o with z|z
    .exact d c b i z
    .rw [i]at z;cases z;show j rfl
end
structure Un(fs ex:List Addr)(H H':Hp)(h h':Heap):Prop where
 keep:∀b o,h.get? b<*o->H b=none->b∉fs->b∉ex->h'.get? b<*o
 slot:∀b o,h.get? b<*o->H b=none->b∈fs->b∉ex->∃sl,h'.get? b<*{o with slots:=sl}
 free:∀b o,h.get? b<*o->H b=none->b∉ex->H' b=none
 there:∀b o,h.get? b<*o->b∉ex->∃o',h'.get? b<*o'
 tups:∀b xs,H b<*.tup xs->H' b<*.tup xs
 frzs:∀b o u,H b<*.frz o u->H' b<*.frz o u
 tbls:∀b ps,H b<*.tbl ps->∃more,H' b<*.tbl (ps++more)
section
variable{fs fs' ex ex':List Addr}{H H1 H2:Hp}{h h1 h2 h':Heap}{a x e:Addr}{o:HO}
def Un.any(u:Un fs ex H H1 h h1)(q:h.get? b<*c)(n:H b=none)(d:b∉ex):∃g,h1.get? b<*{c with slots:=g}:=by
 by_cases f:b∈fs
 .exact u.slot b c q n f d
 .exact (c.slots,u.keep b c q n f d)
def Un.kept(k:∀b u,h.get? b<*u->h'.get? b<*u):Un fs ex H H h h':=
 (λb c q _ _ _=>k b c q,λb c q _ _ _=>(c.slots,k b c q),λ_ _ _ n _=>n,λb c q _=>(c,k b c q),λ_ _ q=>q,λ_ _ _ q=>q,λ_ ps q=>(#[],by rw[q];simp))
def Un.refl:Un fs ex H H h h:=Un.kept λ_ _ q=>q
def Un.laid(k:∀b u,h.get? b<*u->h'.get? b<*u)(hp:h.objs.size≤a)(c:H a=none):Un fs ex H (upd H a o) h h' where
 keep:=λb u q _ _ _=>k b u q
 slot:=λb u q _ _ _=>(u.slots,k b u q)
 free:=λb u q n _=>by rw[b_ (ne_of_lt (lt_of_lt_of_le (lt_size q) hp))];show n
 there:=λb u q _=>(u,k b u q)
 tups:=λb xs q=>by rw[b_ (f' q c)];show q
 frzs:=λb u xs q=>by rw[b_ (f' q c)];show q
 tbls:=λb ps q=>(#[],by rw[b_ (f' q c),q];simp)
def Un.write(d:J7 (H x))(m:e=x\/H e<*.own x)(k:∀b u,b≠e->h.get? b<*u->h'.get? b<*u)(g:∃u,h'.get? e<*u):Un fs ex H (upd H x o) h h':=by
 let i:∀b,H b=none->b≠x:=λb n z=>by subst z;rw[n]at d;show d
 let j:∀b,H b=none->b≠e:=λb n z=>by
  subst z;rcases m with r|r
  .exact i b n r
  .rw [n]at r;cases r
 let f:∀b u,H b<*u->¬ J7 (some u)->b≠x:=λb u q l z=>by subst z;rw[q]at d;show l d
 refine(λb u q n _ _=>k b u (j b n) q,λb u q n _ _=>(u.slots,k b u (j b n) q),λb u q n _=>by rw[b_ (i b n)];show n,λb u q _=>?_,
  λb xs q=>by rw[b_ (f b _ q λz=>z)];show q,λb u xs q=>by rw[b_ (f b _ q λz=>z)];show q,λb ps q=>(#[],by rw[b_ (f b _ q λz=>z),q];simp))
 by_cases c:b=e
 .subst c;show g
 .exact (u,k b u c q)
end
abbrev IQ(h:Heap)(H:Hp):List Addr:=(List.range h.objs.size).filter λa=>(H a).isSome
abbrev bD(h:Heap)(H:Hp):Heap:=hideAll h (IQ h H)
def kU(h:Heap)(H:Hp):(bD h H).objs.size=h.objs.size:=PySem.W.hideAll_size _ _
def nS(e:h.get? b<*o)(n:H b=none):(bD h H).get? b<*o:=
 PySem.W.hideAll_get _ e λa=>by
  let q:(H b).isSome=true:=(mem_filter.mp a).2;rw[n]at q;simp at q
def pq(e:(bD h H).get? b<*o):h.get? b=some o/\H b=none:=by
 let e':h.get? b<*o:=PySem.W.of_hideAll (IQ h H) e;refine(e',3);cases q:H b with
 |none=>rfl
 |some x=>
  let a:b∈IQ h H:=mem_filter.mpr (mem_range.mpr (lt_size e'),by simp[q]);let z:(bD h H).get? b=none:=PySem.W.hideAll_none (IQ h H) a;rw[z]at e;cases e
structure Mod(K:Frag)(mg:Str->Option Value)(base:Heap):Prop where
 kin:K.In base
 glob:base.Ns mainGlobals mg
 blt:∃mb,base.Ns builtinsNs mb/\∀x:Str,x≠"__name__"->mb x=bootBuiltins x
 nolimit:base.NoLimit
structure Cx where
 prog:Program
 w:World
 K:Frag
 mg:Str->Option Value
 base:Heap
 A:Around
 N:List Str
 s₀:Shared
 H₀:Hp
 env:Env
 outer:List Env
 stack:List Env
 ex:List Addr
 fn:Str->Bool
 calm:Bool
 pn:List (Addr×Obj)
 xe:Value->Shared->Prop
abbrev vf(l:List Env):List Addr:=l.filterMap (·.frame)
instance Cx.fs(X:Cx):List Addr:=vf X.outer
abbrev J8(sc:Scope)(x:Str):Prop:=sc.names.lookup x<*.local\/sc.names.lookup x<*.cell\/sc.names.lookup x<*.free
abbrev Hy(sc:Scope)(x:Str):Prop:=sc.names.lookup x<*.local\/sc.names.lookup x<*.cell
abbrev um(env:Env)(h:Heap)(m:Str->Option Value)(x:Str)(u:Value):Prop:=
 (env.kindOf x=some .local/\m x<*u)\/((env.kindOf x<*.cell\/env.kindOf x<*.free)/\∃c,env.cells.lookup x=some c/\h.IsCell c (some u))
structure Cx.Ok(X:Cx):Prop where
 mod:Mod X.K X.mg X.base
 kind:X.env.scope.kind=.function
 glob:X.env.globals=mainGlobals
 blt:X.env.builtins=builtinsNs
 above:X.s₀⁻¹≤X.env.locals
 inj:∀x y c,X.env.cells.lookup x<*c->X.env.cells.lookup y<*c->x=y
 has:∀x,(X.env.kindOf x<*.cell\/X.env.kindOf x<*.free)->∃c,X.env.cells.lookup x<*c
 cab:∀x c,X.fn x=true->X.env.cells.lookup x<*c->X.s₀⁻¹≤c
 hd:X.calm=true->X.A.handled=none
 frames:X.A.frames<*X.stack
 stk:X.stack=X.outer\/(X.stack=X.env::X.outer/\X.env.frame<*X.env.locals)
 exf:∀b∈X.ex,b≠X.env.locals/\∀x c,X.env.cells.lookup x<*c->c≠b
 bs:∀b o,X.base.get? b<*o->X.s₀.heap.get? b=some o/\X.H₀ b=none
 bsz:X.base.objs.size≤X.s₀⁻¹
 noex:∀b o,X.base.get? b<*o->b∉X.ex
 exfs:∀b∈X.ex,b∉X.fs
 funs:X.s₀.heap.FunFrames X.base X.outer
 frf:∀b∈X.fs,X.H₀ b=none
structure hA(X:Cx)(pins:List (Addr×Obj))(σ:List (Option V))(H:Hp)(s:Shared):Prop where
 ok:X.Ok
 os:s.os=X.s₀.os
 bare:AllBare s.gens
 base:Un X.fs X.ex X.H₀ H X.s₀.heap s.heap
 loc:∃m,s.heap.Ns X.env.locals m/\∀(i:Nat)(x:Str)(v:V),X.N[i]?<*x->σ[i]?<*some v->J8 X.env.scope x->∃u,ad v u/\um X.env s.heap m x u
 cell:∀x c,X.env.cells.lookup x<*c->∃v,s.heap.IsCell c v
 free:H X.env.locals=none
 freeC:∀x c,X.env.cells.lookup x<*c->H c=none
 pin:∀p∈X.pn++pins,s.heap.get? p.1=some p.2/\H p.1=none/\p.1≠X.env.locals/\p.1∉X.fs/\∀v,p.2.data≠.cell v
 hok:uK X.prog X.w H s.heap
 len:σ.length=X.N.length
section
variable{X:Cx}{pins:List (Addr×Obj)}{σ:List (Option V)}{H H':Hp}{s:Shared}{h':Heap}
def Cx.Ok.nofr(ok:X.Ok)(e:X.base.get? b<*o):b∉X.fs:=λa=>by
 have:=(ok.funs.mem a).1;rw[e]at this;cases this
def hA.bs(I:hA X pins σ H s):∀b o,X.base.get? b<*o->s.heap.get? b=some o/\H b=none:=λb o e=>
 (I.base.keep b o (I.ok.bs b o e).1 (I.ok.bs b o e).2 (I.ok.nofr e) (I.ok.noex b o e),I.base.free b o (I.ok.bs b o e).1 (I.ok.bs b o e).2 (I.ok.noex b o e))
def hA.bk(I:hA X pins σ H s):∀b o,X.base.get? b<*o->s.heap.get? b<*o:=λb o e=>(I.bs b o e).1
def hA.mod(I:hA X pins σ H s):Mod X.K X.mg X.base:=I.ok.mod
def hA.kIn(I:hA X pins σ H s):X.K.In s.heap:=I.ok.mod.kin.keeps I.bk
def hA.lt(I:hA X pins σ H s):X.env.locals<s⁻¹:=let⟨_,a,_⟩:=I.loc;a.lt
def hA.sz(I:hA X pins σ H s):X.s₀⁻¹≤s⁻¹:=Nat.le_trans I.ok.above (Nat.le_of_lt I.lt)
def hA.nofs(I:hA X pins σ H s){a:Addr}(h:s⁻¹≤a):a∉X.fs:=λc=>by
 let⟨_,o,b,_⟩:=I.ok.funs.mem c;show absurd (lt_of_lt_of_le (lt_size b) (Nat.le_trans I.sz h)) (lt_irrefl _)
def hA.cne(I:hA X pins σ H s):∀x c,X.env.cells.lookup x<*c->c≠X.env.locals:=λx c e z=>by
 let⟨v,o,d,f⟩:=I.cell x c e;let⟨m,⟨g,h,i,a,b,_⟩,_⟩:=I.loc;rw[z,a]at d;cases d;rw[b]at f;cases f
def hA.funs(I:hA X pins σ H s):s.heap.FunFrames X.base X.outer:=by
 let all:∀(l:List Env),(∀b∈vf l,b∈X.fs)->X.s₀.heap.FunFrames X.base l->s.heap.FunFrames X.base l:=by
  intro l;induction l with
  |nil=>intro _ _;trivial
  |cons env r g=>
   intro f k;let⟨m,⟨L,o,a,j,i,n⟩,h⟩:=k;let d:L∈X.fs:=f L (by unfold vf;rw[filterMap_cons,a];show mem_cons_self);let⟨p,e⟩:=I.base.slot L o i (I.ok.frf L d) d λz=>I.ok.exfs L z d;show(m,(L,_,a,j,e,n),g (λb c=>f b (by unfold vf;rw[filterMap_cons,a];show mem_cons_of_mem _ c)) h)
 show all X.outer (λ_ c=>c) I.ok.funs
def hA.stack(I:hA X pins σ H s):s.heap.FunFrames X.base X.stack:=by
 rcases I.ok.stk with e|⟨e,b⟩
 .rw [e];show I.funs
 .rw [e];let⟨m,a,_⟩:=I.loc;refine .cons (by rw[I.ok.kind];decide) b a ?_ I.funs;show Heap.get?_none_of_le (Nat.le_trans I.ok.bsz I.ok.above)
def hA.stkSub(I:hA X pins σ H s):∀b∈vf X.stack,b∈X.env.locals::X.fs:=λb a=>by
 rcases I.ok.stk with e|⟨e,c⟩
 .rw [e]at a;show mem_cons_of_mem _ a
 .rw [e]at a;unfold vf at a;rw[filterMap_cons,c]at a;show a
def hA.stkFree(I:hA X pins σ H s):∀b∈vf X.stack,H b=none:=λb a=>by
 rcases mem_cons.mp (I.stkSub b a)with e|a
 .rw [e];show I.free
 .obtain ⟨_,o,c,_⟩:=I.ok.funs.mem a;show I.base.free b o c (I.ok.frf b a) λz=>I.ok.exfs b z a
def hA.step{ch:List Addr}(I:hA X pins σ H s)(j:∀b∈ch,(b∈X.ex\/X.s₀⁻¹≤b)/\b≠X.env.locals/\(∀x c,X.env.cells.lookup x<*c->c≠b)/\∀p∈X.pn++pins,p.1≠b)(h:∀b o,b≠X.env.locals->b∉X.fs->b∉ch->s.heap.get? b<*o->H b=none->h'.get? b<*o)(B:∀b o,b≠X.env.locals->b∈X.fs->b∉ch->s.heap.get? b<*o->H b=none->∃Q,h'.get? b<*{o with slots:=Q})(f:∀b o,b∉ch->s.heap.get? b<*o->H b=none->H' b=none)(C:∀b o,b∉ch->s.heap.get? b<*o->∃G,h'.get? b<*G)(tups:∀b xs,H b<*.tup xs->H' b<*.tup xs)(N:∀b o u,H b<*.frz o u->H' b<*.frz o u)(F:∀b ps,H b<*.tbl ps->∃M,H' b<*.tbl (ps++M))(ns:∀m,s.heap.Ns X.env.locals m->h'.Ns X.env.locals m)(R:uK X.prog X.w H' h')(hg:AllBare g'):hA X pins σ H' {s with heap:=h',gens:=g',drawn:=d',toks:=t'}:=by
 let L:∀b o,X.s₀.heap.get? b<*o->b≠X.env.locals:=λb o e=>ne_of_lt (lt_of_lt_of_le (lt_size e) I.ok.above);let y:∀b o,X.s₀.heap.get? b<*o->b∉X.ex->b∉ch:=λb o e a D=>by
  rcases(j b D).1 with z|z
  .exact a z
  .exact absurd (lt_of_lt_of_le (lt_size e) z) (lt_irrefl _)
 let t:∀x c,X.env.cells.lookup x<*c->∀v,s.heap.IsCell c v->h'.IsCell c v:=λx c e v T=>by
  let⟨o,E,S⟩:=T;let g:c∉ch:=λz=>(j c z).2.2.1 x c e rfl;by_cases W:c∈X.fs
  .obtain ⟨Q,q⟩:=B c o (I.cne x c e) W g E (I.freeC x c e);show(_,q,S)
  .exact (o,h c o (I.cne x c e) W g E (I.freeC x c e),S)
 refine(I.ok,I.os,hg,(λb o e n D a=>?_,λb o e n D a=>?_,λb o e n a=>?_,λb o e a=>?_,λb xs e=>tups b xs (I.base.tups b xs e),λb o xs e=>N b o xs (I.base.frzs b o xs e),λb ps e=>?_),3,λx c e=>?_,3,λx c e=>?_,λp hp=>?_,R,I.len)
 .exact h b o (L b o e) D (y b o e a) (I.base.keep b o e n D a) (I.base.free b o e n a)
 .obtain ⟨Q,A⟩:=I.base.slot b o e n D a;let⟨P,O⟩:=B b _ (L b o e) D (y b o e a) A (I.base.free b o e n a);show(P,O)
 .obtain ⟨G,A⟩:=I.base.there b o e a;show f b G (y b o e a) A (I.base.free b o e n a)
 .obtain ⟨G,A⟩:=I.base.there b o e a;show C b G (y b o e a) A
 .obtain ⟨Z,A⟩:=I.base.tbls b ps e;let⟨Y,O⟩:=F b _ A;show(Z++Y,by rw[O,Array.append_assoc])
 .obtain ⟨m,hn,hl⟩:=I.loc;refine(m,ns m hn,λi x v A O e3=>?_);let⟨u,r,l⟩:=hl i x v A O e3;refine(u,r,3);rcases l with l|⟨k,c,e,z⟩
  .exact .inl l
  .exact .inr (k,c,e,t x c e _ z)
 .obtain ⟨v,z⟩:=I.cell x c e;show(v,t x c e v z)
 .obtain ⟨m,⟨o,_,_,E,_⟩,_⟩:=I.loc;show f _ o (λz=>(j _ z).2.1 rfl) E I.free
 .obtain ⟨v,o,E,S⟩:=I.cell x c e;show f c o (λz=>(j c z).2.2.1 x c e rfl) E (I.freeC x c e)
 .obtain ⟨e,n,U,nf,d⟩:=I.pin p hp;let g:p.1∉ch:=λz=>(j p.1 z).2.2.2 p hp rfl;show(h p.1 p.2 U nf g e n,f p.1 p.2 g e n,U,nf,d)
def hA.un(I:hA X pins σ H s)(u:Un X.fs [] H H' s.heap h')(c:uK X.prog X.w H' h'):hA X pins σ H' {s with heap:=h',toks:=t'}:=by
 let⟨m,⟨o,t,v,h,r⟩,_⟩:=id I.loc;let⟨l,k⟩:=u.any h I.free (!1);show I.step (g':=s.gens) (d':=s.drawn) (ch:=[]) (λ_ z=>nomatch z) (λb o _ d _ e n=>u.keep b o e n d (!1)) (λb o _ d _ e n=>u.slot b o e n d (!1)) (λb o _ e n=>u.free b o e n (!1)) (λb o _ e=>u.there b o e (!1)) u.tups u.frzs u.tbls (λq j=>by
  let⟨p,f,g,a,i⟩:=j;rw[h]at a;cases a;show(_,f,g,k,i)) c I.bare
def hA.call(I:hA X pins σ H s)(u:Un (vf X.stack) ch H H' s.heap h')(g:uK X.prog X.w H' h')(t:AllBare g')(f:∀b∈ch,(b∈X.ex\/X.s₀⁻¹≤b)/\b≠X.env.locals/\(∀x c,X.env.cells.lookup x<*c->c≠b)/\∀p∈X.pn++pins,p.1≠b):hA X pins σ H' {s with heap:=h',gens:=g',drawn:=d',toks:=t'}:=by
 let⟨m,⟨o,C,D,k,r⟩,_⟩:=id I.loc;let⟨y,h⟩:=u.any k I.free λz=>(f _ z).2.1 rfl;show I.step (ch:=ch) f (λb o h v a e n=>u.keep b o e n (λz=>(mem_cons.mp (I.stkSub b z)).elim h v) a) (λb o _ _ a e n=>u.any e n a) (λb o a e n=>u.free b o e n a) (λb o a e=>u.there b o e a) u.tups u.frzs u.tbls (λB q=>by
  let⟨A,i,j,d,l⟩:=q;rw[k]at d;cases d;show(_,i,j,h,l)) g t
def hA.turned(I:hA X pins σ H s)(k:∀b o,b≠it->s.heap.get? b<*o->h'.get? b<*o)(h:H it=none)(f:it≠X.env.locals)(w:it∈X.ex\/X.s₀⁻¹≤it)(t:∀x c,X.env.cells.lookup x<*c->c≠it)(l:∀p∈X.pn++pins,p.1≠it):hA X pins σ H {s with heap:=h',toks:=t'}:=by
 let d:∀b u,H b<*u->b≠it:=λb u e z=>by rw[z,h]at e;cases e
 refine I.step (g':=s.gens) (d':=s.drawn) (ch:=[it]) (λb j=>?_) (λb o _ _ a e _=>k b o (λz=>a (by simp[z])) e) (λb o _ _ a e _=>(o.slots,k b o (λz=>a (by simp[z])) e)) (λ_ _ _ _ n=>n)
  (λb o a e=>(o,k b o (λz=>a (by simp[z])) e)) (λ_ _ e=>e) (λ_ _ _ e=>e) (λb ps e=>(#[],by rw[e];simp)) (λm i=>?_) (λb u e=>?_) I.bare
 .let e:b=it:=by simpa using j
  subst e;show(w,f,t,l)
 .obtain ⟨o,y,A,g,r⟩:=i;show(o,y,A,k _ o (Ne.symm f) g,r)
 .refine (I.hok b u e).stay (λc v a q=>k c v ?_ q) (λ_ q=>q) λ_ _ q=>q;rcases a with z|z
  .rw [z];show d b u e
  .exact d c _ z
def hA.tok(I:hA X pins σ H s)(t:Nat):hA X pins σ H {s with toks:=t}:=I.un (h':=s.heap) (t':=t) Un.refl I.hok
def hA.kept(I:hA X pins σ H s)(k:∀b u,s.heap.get? b<*u->h'.get? b<*u):hA X pins σ H {s with heap:=h',toks:=t'}:=I.un (Un.kept k) (I.hok.kept k)
def hA.laid{a:Addr}(I:hA X pins σ H s)(k:∀b u,s.heap.get? b<*u->h'.get? b<*u)(hp:s⁻¹≤a)(c:uz X.prog X.w (upd H a o) h' a o):hA X pins σ (upd H a o) {s with heap:=h',toks:=t'}:=I.un (Un.laid k hp (I.hok.fresh hp)) (I.hok.laid k hp c)
def hA.write(I:hA X pins σ H s)(d:J7 (H x))(f:e=x\/H e<*.own x)(k:∀b u,b≠e->s.heap.get? b<*u->h'.get? b<*u)(a:∃u,h'.get? e<*u)(c:uz X.prog X.w (upd H x o) h' x o):hA X pins σ (upd H x o) {s with heap:=h',toks:=t'}:=I.un (Un.write d f k a) (I.hok.write d f k a c)
def hA.pins_of(I:hA X pins σ H s)(h:∀p∈a,s.heap.get? p.1=some p.2/\H p.1=none/\p.1≠X.env.locals/\p.1∉X.fs/\∀v,p.2.data≠.cell v):hA X a σ H s:=
 (I.ok,I.os,I.bare,I.base,I.loc,I.cell,I.free,I.freeC,λp hp=>(mem_append.mp hp).elim (λz=>I.pin p (mem_append_left _ z)) (h p),I.hok,I.len)
def vH{N:List Str}(c:N.Nodup){i j:Nat}(a:N[i]?<*x)(b:N[j]?<*x):i=j:=by
 let⟨g,e⟩:=j0 a;let⟨f,d⟩:=j0 b;show(getElem_inj c).mp (e.trans d.symm)
def bX(I:hA X pins σ H s)(hN:X.N.Nodup)(U:X.N[i]?<*x)(B:Hy X.env.scope x)(r:ad v u)(h:∀s',hA X pins (σ.set i (some v)) H s'->(∃a,SameBut a s.heap s'.heap/\(a=X.env.locals\/X.env.cells.lookup x<*a))->Q () s')(hf:(X.fn x=true\/X.env.scope.names.lookup x<*.local)>>>8):wpAny M A (storeName X.env x u) Q E s:=by
 let⟨m,hn,hl⟩:=id I.loc;let W:(X.env.scope.kind==.class||(X.env.scope.kind==.module&&X.env.locals != X.env.globals))=false:=by rw[I.ok.kind];rfl
 let G:i<σ.length:=by rw[I.len];show(j0 U).1
 let R:=I.cne;let g:∀{a:Addr}{h':Heap},(∃o,s.heap.get? a=some o/\H a=none)->SameBut a s.heap h'->uK X.prog X.w H h':=λ{a h'}ha f b ob e=>by
  let⟨_,_,C⟩:=ha;refine(I.hok b ob e).stay (λc w' t q=>(f.2 c ?_).trans q) (λ_ q=>q) λ_ _ q=>q;rintro rfl;rcases t with rfl|t
  .rw [C]at e;cases e
  .rw [C]at t;cases t
 rcases B with F|F
 .refine wpAny_storeName_local F hn (λh' ac f=>?_) W;let⟨oL,_,_,ab,_⟩:=id hn;refine h _ (I.ok,I.os,I.bare,(λb o e n P B=>?_,λb o e n P B=>?_,I.base.free,λb o e B=>?_,I.base.tups,I.base.frzs,I.base.tbls),(_,ac,λj y v' l D e3=>?_),λy c e=>?_,I.free,I.freeC,λp hp=>?_,g (oL,ab,I.free) f,by simpa using I.len) (_,f,.inl rfl)
  .exact (f.2 b (ne_of_lt (lt_of_lt_of_le (lt_size e) I.ok.above))).trans (I.base.keep b o e n P B)
  .obtain ⟨sl,l⟩:=I.base.slot b o e n P B;show(sl,(f.2 b (ne_of_lt (lt_of_lt_of_le (lt_size e) I.ok.above))).trans l)
  .obtain ⟨o',l⟩:=I.base.there b o e B;show(o',(f.2 b (ne_of_lt (lt_of_lt_of_le (lt_size e) I.ok.above))).trans l)
  .by_cases L:j=i
   .subst L;rw[U]at l;cases l;rw[List.getElem?_set_self G]at D;cases D;show(u,r,.inl (F,!1))
   .rw [List.getElem?_set_ne (Ne.symm L)]at D;let⟨u',r',q⟩:=hl j y v' l D e3;refine(u',r',3);rcases q with⟨k,e⟩|⟨k,c,e,z⟩
    .refine .inl (k,3);have:y≠x:=λe=>L (vH hN l (e▸U));simp[this,e]
    .exact .inr (k,c,e,z.sameBut f (R y c e))
  .obtain ⟨w',z⟩:=I.cell y c e;show(w',z.sameBut f (R y c e))
  .obtain ⟨e,n,ne,nf,d⟩:=I.pin p hp;show((f.2 p.1 ne).trans e,n,ne,nf,d)
 .let O:X.fn x=true:=by
   rcases hf with z|z
   .exact z
   .rw [z]at F;cases F
  let⟨c,t⟩:=I.ok.has x (.inl F);let⟨w',z⟩:=I.cell x c t;refine wpAny_storeName_cell I.ok.kind F t z (λh' Z f=>?_);let⟨oc,T,S⟩:=id z;refine h {s with heap:=h'} (I.ok,I.os,I.bare,(λb o e n P B=>?_,λb o e n P B=>?_,I.base.free,λb o e B=>?_,I.base.tups,I.base.frzs,I.base.tbls),(m,hn.sameBut f (Ne.symm (R x c t)),λj y v' l D e3=>?_),λy c' e=>?_,I.free,I.freeC,λp hp=>?_,g (oc,T,I.freeC x c t) f,by simpa using I.len) (c,f,.inr t)
  .exact (f.2 b (ne_of_lt (lt_of_lt_of_le (lt_size e) (I.ok.cab x c O t)))).trans (I.base.keep b o e n P B)
  .obtain ⟨sl,l⟩:=I.base.slot b o e n P B;show(sl,(f.2 b (ne_of_lt (lt_of_lt_of_le (lt_size e) (I.ok.cab x c O t)))).trans l)
  .obtain ⟨o',l⟩:=I.base.there b o e B;show(o',(f.2 b (ne_of_lt (lt_of_lt_of_le (lt_size e) (I.ok.cab x c O t)))).trans l)
  .by_cases L:j=i
   .subst L;rw[U]at l;cases l;rw[List.getElem?_set_self G]at D;cases D;show(u,r,.inr (.inl F,c,t,Z))
   .rw [List.getElem?_set_ne (Ne.symm L)]at D;let⟨u',r',q⟩:=hl j y v' l D e3;refine(u',r',3);rcases q with q|⟨k,c',e,z'⟩
    .exact .inl q
    .refine .inr (k,c',e,z'.sameBut f ?_);rintro rfl;show L (vH hN l (I.ok.inj _ _ _ e t▸U))
  .by_cases Y:c'=c
   .subst Y;show(_,Z)
   .obtain ⟨w2,z2⟩:=I.cell y c' e;show(w2,z2.sameBut f Y)
  .obtain ⟨e,n,ne,nf,d⟩:=I.pin p hp;refine((f.2 p.1 ?_).trans e,n,ne,nf,d);intro q;rw[q,T]at e;let q':oc=p.2:=Option.some.inj e;show d w' (by rw[<-q'];show S)
def vI(I:hA X pins σ H s)(d:X.N.Nodup)(b:X.N[i]?<*x)(a:Hy X.env.scope x)(r:ad v u)(h:∀s',hA X pins (σ.set i (some v)) H s'->Q () s')(c:(X.fn x=true\/X.env.scope.names.lookup x<*.local)>>>8):wpAny M A (storeName X.env x u) Q E s:=
 bX I d b a r (λs' e _=>h s' e) c
def hA.call'(I:hA X pins σ H s)(g:s'.os=s.os)(u:Un (vf X.stack) ch H H' s.heap s'.heap)(a:uK X.prog X.w H' s'.heap)(h:AllBare s'.gens)(d:∀b∈ch,(b∈X.ex\/X.s₀⁻¹≤b)/\b≠X.env.locals/\(∀x c,X.env.cells.lookup x<*c->c≠b)/\∀p∈X.pn++pins,p.1≠b):hA X pins σ H' s':=by
 let⟨h',g',d',t',f⟩:=s';let e:f=s.os:=g;subst e;show I.call (g':=g') (t':=t') (d':=d') u a h d
end
@[reducible]def XK:=Value->Option Addr->Hp->Prop
@[reducible]def St:=List (Option V)
@[reducible]def VK:=V->Hp->Prop
@[reducible]def TE:=St->Hp->VK->Prop
@[reducible]def TT:=St->Hp->(Bool->Hp->Prop)->Prop
@[reducible]def TA:=St->Hp->(List V->Hp->Prop)->Prop
structure aO where
 nx:St->Hp->Prop
 rt:VK
 bk:St->Hp->Prop:=λ_ _=>False
 ct:St->Hp->Prop:=λ_ _=>False
@[reducible]def TS:=aO->St->Hp->Prop
inductive EP(X:Cx)(pins:List (Addr×Obj))(σ:St)(Q:VK)(u:Value)(s':Shared):Prop
 |mk (v H':_) (_:hA X pins σ H' s') (_:ad v u) (_:Q v H')
inductive TP(X:Cx)(pins:List (Addr×Obj))(σ:St)(Q:Bool->Hp->Prop)(b:Bool)(s':Shared):Prop
 |mk (H':_) (_:hA X pins σ H' s') (_:Q b H')
inductive AP(X:Cx)(pins:List (Addr×Obj))(σ:St)(Q:List V->Hp->Prop)(us:List Value)(s':Shared):Prop
 |mk (vs H':_) (_:hA X pins σ H' s') (_:ae vs us) (_:Q vs H')
abbrev SP(X:Cx)(pins:List (Addr×Obj))(D:aO)(f:Flow)(s':Shared):Prop:=
 match f with
 |.next=>∃σ' H',hA X pins σ' H' s'/\D.nx σ' H'
 |.brk=>∃σ' H',hA X pins σ' H' s'/\D.bk σ' H'
 |.cont=>∃σ' H',hA X pins σ' H' s'/\D.ct σ' H'
 |.ret u=>∃v σ' H',hA X pins σ' H' s'/\ad v u/\D.rt v H'
abbrev PE(X:Cx)(e:Expr)(t:TE):Prop:=
 ∀(pins:List (Addr×Obj))(s:Shared)(σ:St)(H:Hp)(Q:VK),hA X pins σ H s->t σ H Q->wpAny (model X.prog X.w) X.A (eval e X.env) (EP X pins σ Q) X.xe s
abbrev PT(X:Cx)(e:Expr)(t:TT):Prop:=
 ∀(pins:List (Addr×Obj))(s:Shared)(σ:St)(H:Hp)(Q:Bool->Hp->Prop),hA X pins σ H s->t σ H Q->wpAny (model X.prog X.w) X.A (isTrue e X.env (eval e X.env)) (TP X pins σ Q) X.xe s
abbrev PW(X:Cx)(e:Expr)(t:TT):Prop:=
 ∀(whole:Sem Value)(pins:List (Addr×Obj))(s:Shared)(σ:St)(H:Hp)(Q:Bool->Hp->Prop),hA X pins σ H s->t σ H Q->wpAny (model X.prog X.w) X.A (isTrue e X.env whole) (TP X pins σ Q) X.xe s
def PW.pt(h:PW X e t):PT X e t:=h _
abbrev PA(X:Cx)(es:List Expr)(t:TA):Prop:=
 ∀(pos:Pos)(pins:List (Addr×Obj))(s:Shared)(σ:St)(H:Hp)(Q:List V->Hp->Prop),hA X pins σ H s->t σ H Q->wpAny (model X.prog X.w) X.A (spliced (backTo pos (starEach es X.env))) (AP X pins σ Q) X.xe s
abbrev PS(X:Cx)(st:Stmt)(t:TS):Prop:=
 ∀(pins:List (Addr×Obj))(s:Shared)(σ:St)(H:Hp)(D:aO),hA X pins σ H s->t D σ H->wpAny (model X.prog X.w) X.A (exec st X.env) (SP X pins D) X.xe s
abbrev wo(X:Cx)(st:List Stmt)(t:TS):Prop:=
 ∀(pins:List (Addr×Obj))(s:Shared)(σ:St)(H:Hp)(D:aO),hA X pins σ H s->t D σ H->wpAny (model X.prog X.w) X.A (execs st X.env) (SP X pins D) X.xe s
def kl{t:Sem c}{Q b:c->Shared->Prop}(h:wpAny M A t Q E s)(d:∀a s,Q a s->b a s):wpAny M A t b E s:=wpAny_mono h d λ_ _ x=>x
section
variable{X:Cx}
inductive bP(i:Nat)(σ:St)(H:Hp)(Q:VK):Prop
 |mk (v:_) (_:σ[i]?<*some v) (_:Q v H)
abbrev tC(v:V):TE:=λ_ H Q=>Q v H
def qF{pos:Pos}(w:X.N[i]?<*x)(o:J8 X.env.scope x)(g:((x==("__debug__":Str))=false)>>>0)(j:((x==("__classdict__":Str))=false)>>>0):PE X (.Name x pos) (bP i):=by
 intro f s n H Q I h;let⟨v,e,h⟩:=h;let⟨m,p,t⟩:=I.loc;let⟨u,r,l⟩:=t i x v w e o;let d:EP X f n Q u s:=(v,H,I,r,h);rcases l with⟨b,q⟩|⟨b,c,k,a⟩
 .exact wpAny_Name (wpAny_loadName_local I.ok.kind b p q d) g
 .rcases b with b|b
  .exact wpAny_Name (wpAny_loadName_cell I.ok.kind b k a d) g
  .exact wpAny_Name (wpAny_loadName_free I.ok.kind b k a d j) g
def e_{i j pos}:PE X (.Constant (.int i) j pos) (tC (.int i)):=λ_ _ _ H _ I h=>wpAny_Constant_int (.int i,H,I.tok _,(_,rfl),h)
def uP{b j pos}:PE X (.Constant (.bool b) j pos) (tC (.bl b)):=λ_ _ _ H _ I h=>Constant_bool (.bl b,H,I,1,h)
def JE{j pos}:PE X (.Constant .none j pos) (tC .non):=λ_ _ _ H _ I h=>Constant_none (.non,H,I,1,h)
def we{x j pos}:PE X (.Constant (.str x) j pos) (tC (.str x)):=λ_ _ _ H _ I h=>Calls.Constant_str (.str x,H,I.tok _,(_,rfl),h)
abbrev Gl(X:Cx)(x:Str):Prop:=X.env.kindOf x<*.globalImplicit
def vE{b:St}(I:hA X a b H s)(d:Gl X x)(c:X.mg x<*u)(h:Q u s)(e:((x==("__debug__":Str))=false)>>>0):wpAny (model X.prog X.w) X.A (eval (.Name x pos) X.env) Q E s:=
 Calls.Name_function_global I.ok.kind d (Calls.loadGlobal_global (by rw[I.ok.glob];show I.mod.glob.keeps I.bk) c h) e
def pj{E:Value->Shared->Prop}{b:St}{pos:Pos}(I:hA X a b H s)(f:Gl X x)(e:X.mg x=none)(c:bootBuiltins x<*u)(h:Q u s)(d:(x≠"__name__")>>>0)(g:((x==("__debug__":Str))=false)>>>0):wpAny (model X.prog X.w) X.A (eval (.Name x pos) X.env) Q E s:=by
 let⟨k,j,i⟩:=I.mod.blt;show Calls.Name_function_global I.ok.kind f (Calls.loadGlobal_builtin (by rw[I.ok.glob];show I.mod.glob.keeps I.bk) e (by rw[I.ok.blt];show j.keeps I.bk) ((i x d).trans c) h) g
def Ii(b:Gl X x)(a:X.mg x<*u)(r:ad v u)(c:((x==("__debug__":Str))=false)>>>0):PE X (.Name x pos) (tC v):=
 λ_ _ _ H _ I h=>vE I b a (v,H,I,r,h) c
def KC{pos:Pos}(d:Gl X x)(c:X.mg x=none)(a:bootBuiltins x<*u)(r:ad v u)(b:(x≠"__name__")>>>0)(e:((x==("__debug__":Str))=false)>>>0):PE X (.Name x pos) (tC v):=
 λ_ _ _ H _ I h=>pj I d c a (v,H,I,r,h) b e
variable{a b:Expr}{ta tb:TE}{pos:Pos}
inductive NJ(Q:Bool->Hp->Prop)(x:V)(H1:Hp):Prop
 |mk (c:_) (_:x=.bl c) (_:Q c H1)
abbrev tB(t:TE):TT:=λσ H Q=>t σ H (NJ Q)
def vh(h:PE X e t)(l:(∀c,isTrue e X.env c=(do let v <-c;standAt e.pos;holding [v] (truthy v)))>>>7):PT X e (tB t):=by
 intro f s i H Q I hw;refine isTrue_plain (kl (h f s i H _ I hw) λv o g=>?_) (l _);let⟨x,n,m,j,k⟩:=g;let⟨d,rfl,q⟩:=k;cases j;show wpAny_truthy_bool (n,m,q)
variable{tA tB':TT}{rest:List Expr}
abbrev tP(t u:TT):TT:=λσ H Q=>t σ H λc H1=>if c=true then u σ H1 Q else Q false H1
abbrev NL(t u:TT):TT:=λσ H Q=>t σ H λc H1=>if c=true then Q true H1 else u σ H1 Q
abbrev tJ(t:TT):TT:=λσ H Q=>t σ H λc H1=>Q (!c) H1
def KD(g:PT X a tA):PW X (.BoolOp .And [a] pos) tA:=by
 intro i d s f H Q I h;refine isTrue_and (kl (g d s f H Q I h) λc j e=>?_);cases c with
 |true=>show isTrue_and_nil e
 |false=>show e
def Jk(g:PT X a tA):PW X (.BoolOp .Or [a] pos) tA:=by
 intro i d s f H Q I h;refine isTrue_or (kl (g d s f H Q I h) λc j e=>?_);cases c with
 |false=>show isTrue_or_nil e
 |true=>show e
def dH(n:PT X a tA)(m:PW X (.BoolOp .And (b::rest) pos) tB'):PW X (.BoolOp .And (a::b::rest) pos) (tP tA tB'):=by
 intro k d s f H Q I h;refine isTrue_and (kl (n d s f H _ I h) λc l e=>?_);let⟨j,i,g⟩:=e;cases c with
 |true=>show m k d l f j Q i g
 |false=>show(j,i,g)
def vx(n:PT X a tA)(m:PW X (.BoolOp .Or (b::rest) pos) tB'):PW X (.BoolOp .Or (a::b::rest) pos) (NL tA tB'):=by
 intro k d s f H Q I h;refine isTrue_or (kl (n d s f H _ I h) λc l e=>?_);let⟨j,i,g⟩:=e;cases c with
 |true=>show(j,i,g)
 |false=>show m k d l f j Q i g
def vX(i:PT X a tA):PT X (.UnaryOp .Not a pos) (tJ tA):=by
 intro d s g H Q I h;show isTrue_not (kl (i d s g H (λc f=>Q (!c) f) I h) λc s' e=>by let⟨f,j,q⟩:=e;show(f,j,q))
inductive qv(ta tb:TE)(σ:St)(Q:VK)(x:V)(H1:Hp):Prop
 |mk (c:_) (_:x=.bl c) (_:if c=true then tb σ H1 Q else Q (.bl false) H1)
abbrev rW(ta tb:TE):TE:=λσ H Q=>ta σ H (qv ta tb σ Q)
inductive qt(Q:VK)(x:V)(H1:Hp):Prop
 |mk (c:_) (_:x=.bl c) (_:Q (.bl (!c)) H1)
abbrev rO(ta:TE):TE:=λσ H Q=>ta σ H (qt Q)
def dP{op}(h:PE X a t):PE X (.BoolOp op [a] pos) t:=λc s d H Q I hw=>BoolOp_one (h c s d H Q I hw)
def dR(n:PE X a ta)(m:PE X (.BoolOp .And (b::rest) pos) tb):PE X (.BoolOp .And (a::b::rest) pos) (rW ta tb):=by
 intro d s g H Q I h;refine BoolOp_and (kl (n d s g H _ I h) λv k f=>?_);let⟨x,j,i,l,e⟩:=f;let⟨c,rfl,e⟩:=e;cases l;refine wpAny_truthy_bool ?_;cases c with
 |true=>show m d k g j Q i e
 |false=>show(.bl false,j,i,1,e)
def qG(j:PE X a ta):PE X (.UnaryOp .Not a pos) (rO ta):=by
 intro d s g H Q I h;refine UnaryOp_ (kl (j d s g H _ I h) λv m f=>?_);let⟨x,l,k,i,e⟩:=f;let⟨c,rfl,e⟩:=e;cases i;show not_of (wpAny_truthy_bool (.bl (!c),l,k,1,e))
end
abbrev i4(K:Frag)(H:Hp)(a:Addr)(xs:List V):Prop:=
 Rd H a (.lst xs) \/
  ∃(o:Obj)(its:Array Value)(n:Nat),K.lookup a=some o/\o.cls=.type "list"/\o.dict=none/\o.data=.seq its n/\its.size≤sizeLine/\ae xs its.toList
abbrev nj(K:Frag)(H:Hp)(a:Addr)(xs:List V):Prop:=
 Rd H a (.tup xs) \/
  ∃(o:Obj)(its:Array Value)(n:Nat),K.lookup a=some o/\o.cls=.type "tuple"/\o.data=.seq its n/\its.size≤sizeLine/\ae xs its.toList
abbrev ug:Value->Option V
 |.none=>some .non
 |.bool b=>some (.bl b)
 |.int i _=>some (.int i)
 |.str x _=>some (.str x)
 |.bytes b _=>some (.byt b)
 |.float b _=>some (.flt b)
 |.ref a=>some (.ref a)
 |.type n=>some (.ty n)
 |_=>none
def ad.abs(r:ad x u):ug u<*x:=by
 cases x with
 |non=>cases r;rfl
 |bl _=>cases r;rfl
 |int _=>let⟨t,rfl⟩:=r;rfl
 |str _=>let⟨t,rfl⟩:=r;rfl
 |byt _=>let⟨t,rfl⟩:=r;rfl
 |flt _=>let⟨t,rfl⟩:=r;rfl
 |ref _=>cases r;rfl
 |ty _=>cases r;rfl
def ad.inj(r:ad x u)(q:ad y u):x=y:=Option.some.inj (r.abs.symm.trans q.abs)
def ae.inj:∀{xs ys:List V}{a:List Value},ae xs a->ae ys a->xs=ys
 |_,_,_,.nil,.nil=>rfl
 |_,_,_,.cons r t,.cons b t'=>by rw[r.inj b,ae.inj t t']
section
variable{X:Cx}{pins:List (Addr×Obj)}{σ:St}{H:Hp}{s:Shared}{a:Addr}{xs ys:List V}
def i4.of{K:Frag}(h:H a<*.lst xs):i4 K H a xs:=.inl (.inl h)
def nj.of{K:Frag}(h:H a<*.tup xs):nj K H a xs:=.inl (.inl h)
def hA.list(I:hA X pins σ H s)(h:i4 X.K H a xs):∃b:List Value,ae xs b/\PlainL s.heap a b.toArray/\xs.length≤sizeLine:=by
 rcases h with h|⟨o,b,n,d,g,f,c,hz,r⟩
 .obtain ⟨z,b,n,r,e⟩:=h.ok I.hok;show(b,r,(_,n,e,6,1),z)
 .refine (b.toList,r,(o,n,I.kIn a o d,g,f,by simpa using c),3);let e:=r.length;simp only[length_toList]at e;lia
def hA.tuple(I:hA X pins σ H s)(h:nj X.K H a xs):∃b:List Value,ae xs b/\IsTup s.heap a b.toArray/\xs.length≤sizeLine:=by
 rcases h with h|⟨o,b,n,d,f,c,hz,r⟩
 .obtain ⟨z,b,r,p⟩:=h.ok I.hok;show(b,r,p,z)
 .refine (b.toList,r,(o,I.kIn a o d,f,n,by simpa using c),3);let e:=r.length;simp only[length_toList]at e;lia
def hA.list_inj(I:hA X pins σ H s)(h:i4 X.K H a xs)(h':i4 X.K H a ys):xs=ys:=by
 let⟨b,r,⟨o,n,e,_,_,d⟩,_⟩:=I.list h;let⟨its',c,⟨f,g,e',_,_,d'⟩,_⟩:=I.list h';rw[e]at e';cases e';rw[d]at d';injection d' with d1 _;have:b=its':=by simpa using congrArg Array.toList d1
 subst this;show r.inj c
def hA.tuple_inj(I:hA X pins σ H s)(h:nj X.K H a xs)(h':nj X.K H a ys):xs=ys:=by
 let⟨b,r,⟨o,e,_,n,d⟩,_⟩:=I.tuple h;let⟨its',c,⟨f,e',_,g,d'⟩,_⟩:=I.tuple h';rw[e]at e';cases e';rw[d]at d';injection d' with d1 _;have:b=its':=by simpa using congrArg Array.toList d1
 subst this;show r.inj c
end
instance Cx.wish(X:Cx)(E:Value->Shared->Prop):Cx:={X with xe:=E}
instance Cx.nox(X:Cx):Cx:=X.wish λ_ _=>False
def Cx.Ok.wish{X:Cx}(ok:X.Ok)(E:Value->Shared->Prop):(X.wish E).Ok:=
 (ok.mod,ok.kind,ok.glob,ok.blt,ok.above,ok.inj,ok.has,ok.cab,ok.hd,ok.frames,ok.stk,ok.exf,ok.bs,ok.bsz,ok.noex,ok.exfs,ok.funs,ok.frf)
def Cx.Ok.unwish{X:Cx}(ok:(X.wish E).Ok):X.Ok:=
 (ok.mod,ok.kind,ok.glob,ok.blt,ok.above,ok.inj,ok.has,ok.cab,ok.hd,ok.frames,ok.stk,ok.exf,ok.bs,ok.bsz,ok.noex,ok.exfs,ok.funs,ok.frf)
section
variable{X:Cx}{pins:List (Addr×Obj)}{σ:St}{H:Hp}{s:Shared}{E:Value->Shared->Prop}
def hA.wish(I:hA X pins σ H s)(E:Value->Shared->Prop):hA (X.wish E) pins σ H s:=(I.ok.wish E,I.os,I.bare,I.base,I.loc,I.cell,I.free,I.freeC,I.pin,I.hok,I.len)
def hA.unwish(I:hA (X.wish E) pins σ H s):hA X pins σ H s:=(I.ok.unwish,I.os,I.bare,I.base,I.loc,I.cell,I.free,I.freeC,I.pin,I.hok,I.len)
def SP.unwish(h:SP (X.wish E) pins D f s'):SP X pins D f s':=by
 cases f with
 |next=>let⟨a,H',I,q⟩:=h;show(a,H',I.unwish,q)
 |brk=>let⟨a,H',I,q⟩:=h;show(a,H',I.unwish,q)
 |cont=>let⟨a,H',I,q⟩:=h;show(a,H',I.unwish,q)
 |ret u=>let⟨v,a,H',I,r,q⟩:=h;show(v,a,H',I.unwish,r,q)
def wo.nox{st:List Stmt}(h:wo X.nox st t):wo X st t:=λpins s σ H D I hw=>
 wpAny_mono (h pins s σ H D (I.wish _) hw) (λ_ _ q=>q.unwish) λ_ _ z=>False.elim z
end
section
variable{X:Cx}{st:Stmt}{rest:List Stmt}{t u:TS}{e:Expr}{te:TE}{pos:Pos}
abbrev tNext:TS:=λD σ H=>D.nx σ H
abbrev ax(t u:TS):TS:=λD σ H=>t {D with nx:=u D} σ H
def sT:wo X [] tNext:=λ_ _ a H _ I h=>wpAny_execs_nil (a,H,I,h)
def h6(i:PS X st t)(g:wo X rest u):wo X (st::rest) (ax t u):=by
 intro a s c H D I h;refine wpAny_execs_cons (kl (i a s c H {D with nx:=u D} I h) λf d q=>?_);cases f with
 |next=>
  let⟨b,H',j,q⟩:=q;show g a d b H' D j q
 |ret v=>show q
 |brk=>show q
 |cont=>show q
def iy(c:PS X st t):wo X [st] t:=by
 intro a s b H D I h;refine wpAny_execs_cons (kl (c a s b H D I h) λf d q=>?_);cases f with
 |next=>show wpAny_execs_nil q
 |ret v=>show q
 |brk=>show q
 |cont=>show q
abbrev tBreak:TS:=λD σ H=>D.bk σ H
def fJ:PS X (.Break pos) tBreak:=λ_ _ a H _ I h=>wpAny_Break (a,H,I,h)
def hA.quiet{b:St}(I:hA X a b H s):interactive X.env=false:=by simp[interactive,I.ok.kind]
abbrev rT(te:TE):TS:=λD σ H=>te σ H λ_ H1=>D.nx σ H1
def uU(g:PE X e te)(f:(swapsWith e none pos.line X.env=pure false)>>>4):PS X (.Expr e pos) (rT te):=by
 intro a s c H D I h;show wpAny_Expr_any (kl (g a s c H _ I h) λv k b=>by let⟨x,j,i,l,d⟩:=b;show(c,j,i,d)) I.quiet f
abbrev aG(te:TE):TS:=λD σ H=>te σ H D.rt
def k_(g:PE X e te):PS X (.Return (some e) pos) (aG te):=by
 intro a s c H D I h;show wpAny_Return_some (kl (g a s c H _ I h) λv k b=>by let⟨x,j,i,d,f⟩:=b;show(x,c,j,i,d,f))
abbrev tM(c:TT)(t u:TS):TS:=λD σ H=>c σ H λb H1=>if b=true then t D σ H1 else u D σ H1
def ri(n:PT X c tc)(p:wo X a t)(o:wo X b u):PS X (.If c a b pos) (tM tc t u):=by
 intro f s g H D I h;refine wpAny_If (kl (n f s g H _ I h) λd j i=>?_);let⟨m,l,k⟩:=i;cases d with
 |true=>show p f j g m D l k
 |false=>show o f j g m D l k
abbrev tNever:TS:=λ_ _ _=>False
def Lu:PS X st tNever:=λ_ _ _ _ _ _ h=>h.elim
end
@[reducible]def TG:=V->St->Hp->(St->Hp->Prop)->Prop
@[reducible]def TGs:=List V->St->Hp->(St->Hp->Prop)->Prop
abbrev PG(X:Cx)(target:Expr)(t:TG):Prop:=
 ∀(pins:List (Addr×Obj))(s:Shared)(σ:St)(H:Hp)(v:V)(u:Value)(Q:St->Hp->Prop),hA X pins σ H s->ad v u->t v σ H Q->
  wpAny (model X.prog X.w) X.A (assign target X.env u) (λ_ s'=>∃σ' H',hA X pins σ' H' s'/\Q σ' H') X.xe s
abbrev KE(X:Cx)(ts:List Expr)(t:TGs):Prop:=
 ∀(pins:List (Addr×Obj))(s:Shared)(σ:St)(H:Hp)(vs:List V)(us:List Value)(Q:St->Hp->Prop),hA X pins σ H s->ae vs us->t vs σ H Q->
  wpAny (model X.prog X.w) X.A (assignInOrder ((assignEach ts X.env).map (·.2)) us) (λ_ s'=>∃σ' H',hA X pins σ' H' s'/\Q σ' H') X.xe s
@[reducible]def J9:=V->V->V->Hp->(Hp->Prop)->Prop
abbrev pW(X:Cx)(t:J9):Prop:=
 ∀(pins:List (Addr×Obj))(s:Shared)(σ:St)(H:Hp)(o i v:V)(ov iv u:Value)(Q:Hp->Prop),hA X pins σ H s->ad o ov->ad i iv->ad v u->t o i v H Q->
  wpAny (model X.prog X.w) X.A (setItem ov iv u) (λ_ s'=>∃H',hA X pins σ H' s'/\Q H') X.xe s
section
variable{X:Cx}{pos:Pos}
abbrev uY(i:Nat):TG:=λv σ H Q=>Q (σ.set i (some v)) H
def KF(e:X.N.Nodup)(c:X.N[i]?<*x)(b:Hy X.env.scope x)(d:(X.fn x=true\/X.env.scope.names.lookup x<*.local)>>>8):PG X (.Name x pos) (uY i):=by
 intro a s g H v u Q I r h;show wpAny_assign_Name (vI I e c b r (λs' f=>(_,H,f,h)) d)
abbrev gNil:TGs:=λvs σ H Q=>vs=[]/\Q σ H
abbrev n6(t:TG)(u:TGs):TGs:=λvs σ H Q=>∃v r,vs=v::r/\t v σ H λσ' H'=>u r σ' H' Q
def J_:KE X [] gNil:=by
 intro a s b H vs c Q I r h;let⟨e,h⟩:=h;subst e;cases r;show assignInOrder_nil (b,H,I,h)
def HS(m:PG X e t)(l:KE X d u)(k:((assignEach (e::d) X.env).map (·.2)=assign e X.env::(assignEach d X.env).map (·.2))>>>4):KE X (e::d) (n6 t u):=by
 intro a s f H vs w Q I r h;let⟨v,q,n,h⟩:=h;subst n;cases r with
 |cons r i=>
  rw[k];refine assignInOrder_cons (kl (m a s f H _ _ _ I r h) λ_ g c=>?_);let⟨b,p,o,j⟩:=c;show l a g b p _ _ Q o i j
inductive sW(K:Frag)(n:Nat)(t:TGs)(v:V)(σ:St)(H:Hp)(Q:St->Hp->Prop):Prop
 |mk (a xs:_) (_:v=.ref a) (_:nj K H a xs) (_:xs.length=n) (_:t xs σ H Q)
def br{k:Nat}(x:X.calm=true)(h:KE X f t)(q:((assignEach f X.env).length=n)>>>4)(d:((assignEach f X.env).findIdx? (·.1)=none)>>>4):PG X (.Tuple f k pos) (sW X.K n t):=by
 intro c s g H v u Q I r hw;let⟨a,xs,y,p,w,hw⟩:=hw;subst y;cases r;let⟨j,i,m,hz⟩:=I.tuple p;refine assign_Tuple_tuple (I.ok.hd x) m (by simp[q,<-w,i.length]) d λh' l=>?_;let z:hA X c g H {s with heap:=h'}:=I.kept (t':=s.toks) λb o e=>l b o (ne_of_lt (lt_size e)) e;show h c _ g H xs _ Q z (by simpa using i) hw
abbrev uc(to ti:TE)(t:J9):TG:=λv σ H Q=>to σ H λo H1=>ti σ H1 λi H2=>t o i v H2 λH3=>Q σ H3
def Gz(z:PE X o to)(A:PE X i j)(w:pW X t)(B:(∀v,assign (.Subscript o i pos) X.env v=(do
   let b <-holding [v] (eval o X.env)
   let c <-holding [v,b] (eval i X.env)
   standAt pos
   holding [v,b,c] (setItem b c v)
   release [v,b,c] []))>>>7):PG X (.Subscript o i pos) (uc to j t):=by
 intro a s d H v u Q I r h;rw[B];refine g_ (wpAny_holding (kl (z a s d H _ I h) λb k e=>?_));let⟨x,L,E,m,q⟩:=e;refine g_ (wpAny_holding (kl (A a k d L _ E q) λc s2 g=>?_));let⟨y,G,D,l,p⟩:=g;refine g_ (wpAny_standAt (g_ (wpAny_holding (kl (w a s2 d G x y v b c u _ D m l r p) λ_ M f=>?_))));let⟨F,C,n⟩:=f;show wpAny_release (d,F,C,n)
abbrev ar(te:TE)(g:TG):TS:=λD σ H=>te σ H λx H1=>g x σ H1 D.nx
def GA(n:PE X e f)(m:PG X b g)(l:(swapsWithSole [b] e pos.line X.env=pure false)>>>4)(hw:(swappedStores [b] e X.env=pure none)>>>4)(o:((assignEach [b] X.env).map (·.2)=[assign b X.env])>>>4):PS X (.Assign [b] e pos) (ar f g):=by
 intro a s d H D I h;refine wpAny_Assign_stores (kl (n a s d H _ I h) λv i c=>?_) l hw;let⟨x,r,p,j,k⟩:=c;rw[o];show kl (m a i d r x v _ p j k) λ_ s2 q=>q
def qC(p:X.N.Nodup)(m:X.N[i]?<*x)(k:Hy X.env.scope x)(o:PE X e f)(l:(swapsWith e (some (.Name x a)) pos.line X.env=pure false)>>>4)(n:(X.fn x=true\/X.env.scope.names.lookup x<*.local)>>>8):PS X (.Assign [.Name x a] e pos) (ar f (uY i)):=by
 intro b s d H D I h;refine wpAny_Assign_Name (kl (o b s d H _ I h) λv u c=>?_) l;let⟨y,t,r,g,j⟩:=c;show vI r p m k g (λs2 q=>(_,t,q,j)) n
abbrev qp(c:TT)(tb:TS):TS:=λD σ H=>∃W:Nat->St->Hp->Prop,(∃m,W m σ H)/\∀m σ H,W m σ H->
 c σ H λb H1=>if b=true then ∃N:St->Hp->Prop,(∀σ' H',N σ' H'->∃m',m'<m/\W m' σ' H')/\tb {D with nx:=N,ct:=N,bk:=D.nx} σ H1 else D.nx σ H1
def JF(hp:PassesOwn (model X.prog X.w) X.A X.env X.xe)(O:PT X c tc)(P:wo X j G):PS X (.While c j [] pos) (qp tc G):=by
 intro d s C H D I h;let⟨W,⟨M,F⟩,i⟩:=h;refine wpAny_While (codeAny_whileLoop (λn s'=>∃g H',hA X d g H' s'/\W n g H') ?_ M (C,H,I,F));rintro n L⟨e,B,Q,E⟩;refine wpAny_passesOwn hp (kl (O d L e B _ Q (i n e B E)) λb s2 t=>?_);let⟨z,y,m⟩:=t;cases b with
 |true=>
  let⟨N,x,m⟩:=m;rw[if_pos rfl];refine wpAny_passesOwn hp (kl (P d s2 e z _ y m) λf R l=>?_);cases f with
  |next=>
   let⟨a,k,u,p⟩:=l;let⟨q,r,o⟩:=x a k p;show(q,r,a,k,u,o)
  |cont=>
   let⟨a,k,u,p⟩:=l;let⟨q,r,o⟩:=x a k p;show(q,r,a,k,u,o)
  |brk=>show l
  |ret v=>show l
 |false=>
  rw[if_neg Bool.false_ne_true];show wpAny_execs_nil (e,z,y,m)
end
structure It where
 go:Nat->Hp->Prop
 yld:Nat->Hp->V->Hp->Prop
 stop:Nat->Hp->Prop
abbrev aJ(X:Cx)(pins:List (Addr×Obj))(H:Hp)(b:Addr):Prop:=
 H b=none/\b≠X.env.locals/\b∉X.fs/\(b∈X.ex\/X.s₀⁻¹≤b)/\(∀x c,X.env.cells.lookup x<*c->c≠b)/\∀p∈X.pn++pins,p.1≠b
def hA.fpOk{f:St}{b:Addr}(I:hA X a f H s)(d:s⁻¹≤b)(g:H' b=none):aJ X a H' b:=by
 refine(g,ne_of_gt (lt_of_lt_of_le I.lt d),I.nofs d,.inr (Nat.le_trans I.sz d),λx c e z=>?_,λp hp z=>?_)
 .obtain ⟨v,q⟩:=I.cell x c e;show absurd (lt_of_lt_of_le q.lt (by rw[z];show d)) (lt_irrefl _)
 .exact absurd (lt_of_lt_of_le (lt_size (I.pin p hp).1) (by rw[z];show d)) (lt_irrefl _)
structure bS(P:Program)(w:World)(K:Frag)(tg:Expr)(J:It)(fp:List Addr)(it:Addr)(tn:Nat->Heap->Prop):Prop where
 mem:it∈fp
 obj:∀i h,tn i h->∀b∈fp,∃o,h.get? b=some o/\∀v,o.data≠.cell v
 keep:∀i h h',tn i h->(∀b∈fp,∀o,h.get? b<*o->h'.get? b<*o)->tn i h'
 item:∀(X:Cx),X.prog=P->X.w=w->X.K=K->X.calm=true->∀(i:Nat)(pins:List (Addr×Obj))(s:Shared)(σ:St)(H:Hp)(E:Value->Shared->Prop),hA X pins σ H s->(∀b∈fp,aJ X pins H b)->tn i s.heap->J.go i H->
  wpAny (model P w) X.A (pyNext (.ref it)) (λr s1=>∃u,r=some u/\
   wpAny (model P w) X.A (letOwnedTupleGo tg (.ref it) u) (λ_ s2=>∃x H',hA X pins σ H' s2/\ad x u/\J.yld i H x H'/\tn (i+1) s2.heap/\∀b∈fp,H' b=none) E s1) E s
 done:∀(X:Cx),X.prog=P->X.w=w->X.K=K->X.calm=true->∀(i:Nat)(pins:List (Addr×Obj))(s:Shared)(σ:St)(H:Hp)(E:Value->Shared->Prop),hA X pins σ H s->(∀b∈fp,aJ X pins H b)->tn i s.heap->J.stop i H->
  wpAny (model P w) X.A (pyNext (.ref it)) (λr s1=>r=none/\hA X pins σ H s1) E s
 self:∀(A:Around)(i:Nat)(s:Shared)(Q:Value->Shared->Prop)(E:Value->Shared->Prop),tn i s.heap->Q (.ref it) s->wpAny (model P w) A (pyIter (.ref it)) Q E s
@[reducible]def TI:=St->Hp->(It->Hp->Prop)->Prop
inductive KG(X:Cx)(pins:List (Addr×Obj))(σ:St)(tg:Expr)(R:It->Hp->Prop)(itv:Value)(s2:Shared):Prop
 |mk (it:Addr) (fp:List Addr) (tn:Nat->Heap->Prop) (J:It) (H':Hp) (_:itv=.ref it) (_:hA X pins σ H' s2) (_:bS X.prog X.w X.K tg J fp it tn) (_:tn 0 s2.heap) (_:(∀b∈fp,aJ X pins H' b)) (_:R J H')
abbrev PI(X:Cx)(tg iter:Expr)(wi:TI):Prop:=
 ∀(pins:List (Addr×Obj))(s:Shared)(σ:St)(H:Hp)(R:It->Hp->Prop),hA X pins σ H s->wi σ H R->
  wpAny (model X.prog X.w) X.A (eval iter X.env) (λv s1=>wpAny (model X.prog X.w) X.A (pyIter v) (KG X pins σ tg R) X.xe s1) X.xe s
def cQ{M:Model}{A:Around}(c:s.heap.get? it<*o)(f:o.cls=.type n)(e:o.data=.fields vs)(d:["enumerate","zip","dict_itemiterator","dict_reverseitemiterator","odict_iterator","itertools.zip_longest","itertools.pairwise"].contains n=false)(a:Q () s):wpAny M A (letOwnedTupleGo b (.ref it) u) Q E s:=by
 unfold letOwnedTupleGo;cases b<;>first
  |show j3 a
  | (cases u<;>first
    |show j3 a
    | (refine g_ (wpAny_load c ?_)
       rw[f,e];change wpAny M A (if (["enumerate","zip","dict_itemiterator","dict_reverseitemiterator","odict_iterator","itertools.zip_longest","itertools.pairwise"].contains n&&vs[0]?==some (rawInt _))=true then _ else _) Q E s;rw[if_neg (by intro h;rw[d,Bool.false_and]at h;cases h)];show j3 a))
abbrev JG(K:Frag)(a:Addr):It:=
 ⟨λi H=>∃xs x,i4 K H a xs/\xs[i]?<*x,λi H x H'=>H'=H/\∀xs,i4 K H a xs->xs[i]?<*x,λi H=>∃xs,i4 K H a xs/\xs.length≤i⟩
abbrev JH(K:Frag)(a:Addr):It:=
 ⟨λi H=>∃xs x,nj K H a xs/\xs[i]?<*x,λi H x H'=>H'=H/\∀xs,nj K H a xs->xs[i]?<*x,λi H=>∃xs,nj K H a xs/\xs.length≤i⟩
abbrev HU(lo:Int)(n:Nat):It:=(λi _=>i<n,λi H x H'=>H'=H/\x=.int (lo+i),λi _=>n≤i)
def bW{K:Frag}(a it:Addr):bS P w K W (JG K a) [it] it (λi h=>h.IsListIter it a i)  where
 mem:=by simp
 obj:=λi h st b g=>by
  let e:b=it:=by simpa using g
  subst e;let⟨o,e,c,d⟩:=st;show(o,e,λv z=>by rw[d]at z;cases z)
 keep:=λi h h' st k=>st.at λo e=>k it (!1) o e
 item:=by
  intro X y hw A M i f s L H E I m st t;subst y hw A;let⟨xs,x,l,r⟩:=t;let⟨q,n,p,hz⟩:=I.list l;let⟨u,R,O⟩:=n.get r;let⟨G,F,S,D,C,B⟩:=m it (!1);refine wpAny_pyNext_list_item st p.isList (x:=u) (by simpa using R) λh' j N=>?_;let U:hA X f L H {s with heap:=h'}:=I.turned (t':=s.toks) (λb o g e=>(N.2 b g).trans e) G F D C B;let⟨o,e,c,d⟩:=id j;show(u,1,cQ (s:={s with heap:=h'}) e c d (!0) (x,H,U,O,(1,λys Q=>by rw[I.list_inj Q l];show r),j,λb g=>(m b g).1))
 done:=by
  intro X y hw A M i f s L H E I m st t;subst y hw A;let⟨xs,l,r⟩:=t;let⟨q,n,p,hz⟩:=I.list l;let⟨G,F,S,D,C,B⟩:=m it (!1);let Y:=n.length;show wpAny_pyNext_list_end (I.ok.hd M) st p.isList (by simp;lia) λh' T=>(1,I.turned (t':=s.toks) (λb o g e=>T b o g e) G F D C B)
 self:=λ_ _ _ _ _ st h=>wpAny_pyIter_listiter st h
def M8{K:Frag}(a it:Addr):bS P w K W (JH K a) [it] it (λi h=>h.IsTupleIter it a i)  where
 mem:=by simp
 obj:=λi h st b j=>by
  let e:b=it:=by simpa using j
  subst e;let⟨o,e,c,d⟩:=st;show(o,e,λv z=>by rw[d]at z;cases z)
 keep:=λi h h' st k=>st.at λo e=>k it (!1) o e
 item:=by
  intro X y hw A M i f s L H E I n st t;subst y hw A;let⟨xs,x,m,r⟩:=t;let⟨g,q,p,hz⟩:=I.tuple m;let⟨u,R,O⟩:=q.get r;let⟨G,F,S,D,C,B⟩:=n it (!1);refine wpAny_pyNext_tuple_item st (show s.heap.IsTuple a g.toArray from p) (x:=u) (by simpa using R) λh' l N=>?_;let U:hA X f L H {s with heap:=h'}:=I.turned (t':=s.toks) (λb o j e=>(N.2 b j).trans e) G F D C B;let⟨o,e,c,d⟩:=id l;show(u,1,cQ (s:={s with heap:=h'}) e c d (!0) (x,H,U,O,(1,λys Q=>by rw[I.tuple_inj Q m];show r),l,λb j=>(n b j).1))
 done:=by
  intro X y hw A M i f s L H E I n st t;subst y hw A;let⟨xs,m,r⟩:=t;let⟨g,q,p,hz⟩:=I.tuple m;let⟨G,F,S,D,C,B⟩:=n it (!1);let Y:=q.length;show wpAny_pyNext_tuple_end (I.ok.hd M) st (show s.heap.IsTuple a g.toArray from p) (by simp;lia) λh' T=>(1,I.turned (t':=s.toks) (λb o j e=>T b o j e) G F D C B)
 self:=λ_ _ _ _ _ st h=>wpAny_pyIter_tupleiter st h
def h7{K:Frag}(it:Addr)(lo:Int)(n:Nat):bS P w K M (HU lo n) [it] it (λi h=>IsRangeIter h it (lo+(i:Nat)*1) ((n:Int)-(i:Nat)) 1)  where
 mem:=by simp
 obj:=λi h st b c=>by
  let e:b=it:=by simpa using c
  subst e;show(_,st,λv z=>by
   let B:Data.fields _=Data.cell v:=z;cases B)
 keep:=λi h h' st k=>k it (!1) _ st
 item:=by
  intro X l hw m j i a s y H E I f st g;subst l hw m;let⟨x,u,F,r,q,p⟩:=f it (!1);let W:=Walks.range (prog:=X.prog) (w:=X.w) (I.ok.hd j) it lo 1 n;refine W.item i s _ _ g st λv h' A D d C=>?_;let⟨t,rfl⟩:=D;let L:hA X a y H {s with heap:=h',toks:=A}:=I.turned (λb o c e=>C b o (by simpa using c) e) x u r q p;refine(0,cQ (s:={s with heap:=h',toks:=A}) (n:="range_iterator") d rfl rfl (!0) (.int (lo+i),H,L,(t,3),(1,1),d,λb c=>(f b c).1));rw[Int.mul_one]
 done:=by
  intro X l hw m j i a s y H E I f st g;subst l hw m;let⟨x,u,F,r,q,p⟩:=f it (!1);show wpAny_pyNext_range_end (I.ok.hd j) st (by have:n≤i:=g;lia) λh' G=>(1,I.turned (t':=s.toks) (λb o c e=>G b o c e) x u r q p)
 self:=λ_ _ _ _ _ st h=>wpAny_pyIter_rangeiter st h
section
variable{X:Cx}{tg:Expr}
inductive rc(K:Frag)(R:It->Hp->Prop)(x:V)(H1:Hp):Prop
 |mk (a:_) (_:x=.ref a) (_:(∃xs,i4 K H1 a xs)) (_:R (JG K a) H1)
abbrev sV(K:Frag)(tl:TE):TI:=λσ H R=>tl σ H (rc K R)
inductive sP(K:Frag)(R:It->Hp->Prop)(x:V)(H1:Hp):Prop
 |mk (a:_) (_:x=.ref a) (_:(∃xs,nj K H1 a xs)) (_:R (JH K a) H1)
abbrev t9(K:Frag)(tl:TE):TI:=λσ H R=>tl σ H (sP K R)
def HV(t:PE X l j):PI X tg l (sV X.K j):=by
 intro c s i H R I h;refine kl (t c s i H _ I h) λv d g=>?_;let⟨x,w,f,k,m⟩:=g;let⟨a,e,⟨xs,r⟩,q⟩:=m;subst e;cases k;let⟨n,y,p,hz⟩:=f.list r;refine wpAny_pyIter_list p.isList ?_;refine(d⁻¹,[d⁻¹],7,w,1,f.kept (t':=d.toks) λb o e=>mJ _ e,bW a _,(_,get?_push_size _ rfl,6),λb u=>?_,q);let e:b=d⁻¹:=by simpa using u
 subst e;show f.fpOk (Nat.le_refl _) (f.hok.fresh (Nat.le_refl _))
def mF(t:PE X l k):PI X tg l (t9 X.K k):=by
 intro d s j H R I h;refine kl (t d s j H _ I h) λv c i=>?_;let⟨x,w,f,m,n⟩:=i;let⟨a,e,⟨xs,r⟩,q⟩:=n;subst e;cases m;let⟨g,y,p,hz⟩:=f.tuple r;refine wpAny_pyIter_tuple (show c.heap.IsTuple a g.toArray from p) ?_;refine(c⁻¹,[c⁻¹],7,w,1,f.kept (t':=c.toks) λb o e=>mJ _ e,M8 a _,(_,get?_push_size _ rfl,6),λb u=>?_,q);let e:b=c⁻¹:=by simpa using u
 subst e;show f.fpOk (Nat.le_refl _) (f.hok.fresh (Nat.le_refl _))
def fD{d:St}{lo a:Int}(I:hA X c d H s)(l:-(2^62)≤lo)(k:lo<2^62)(j:-(2^62)≤a)(i:a<2^62)(q:R (HU lo (a-lo).toNat) H):wpAny (model X.prog X.w) X.A (pyIter (.ref s⁻¹)) (KG X c d tg R) E {s with heap:=s.heap.push {cls:=.type "range",data:=.fields #[.int lo t,.int a u,.int 1 v]},toks:=g}:=by
 refine wpAny_pyIter_range (IsRange.new ..) (small_one l k j i) ?_;let f:hA X c d H {s with heap:=s.heap.push {cls:=.type "range",data:=.fields #[.int lo t,.int a u,.int 1 v]},toks:=g}:=I.kept λb o e=>mJ _ e;refine((s.heap.push {cls:=.type "range",data:=.fields #[.int lo t,.int a u,.int 1 v]}).objs.size,[(s.heap.push {cls:=.type "range",data:=.fields #[.int lo t,.int a u,.int 1 v]}).objs.size],7,H,1,
  f.kept (t':=g) λb o e=>mJ _ e,h7 _ lo (a-lo).toNat,3,λb h=>?_,q)
 .let n:lo+((0:Nat):Int)*1=lo:=by simp
  let m:(((a-lo).toNat:Nat):Int)-((0:Nat):Int)=Builtin.Range.rangeSize lo a 1:=by rw[rangeSize_one];split<;>lia
  change IsRangeIter _ _ (lo+((0:Nat):Int)*1) ((((a-lo).toNat:Nat):Int)-((0:Nat):Int)) 1;rw[n,m];show get?_push_size _ rfl
 .let e:b=(s.heap.push {cls:=.type "range",data:=.fields #[.int lo t,.int a u,.int 1 v]}).objs.size:=by simpa using h
  subst e;show f.fpOk (Nat.le_refl _) (f.hok.fresh (Nat.le_refl _))
inductive q9(R:It->Hp->Prop)(vs:List V)(H1:Hp):Prop
 |mk (j:Int) (_:vs=[.int j]) (_:-(2^62)≤j) (_:j<2^62) (_:R (HU 0 j.toNat) H1)
abbrev jH(ta:TA):TI:=λσ H R=>ta σ H (q9 R)
inductive qZ(R:It->Hp->Prop)(vs:List V)(H1:Hp):Prop
 |mk (i j:Int) (_:vs=[.int i,.int j]) (_:(-(2^62)≤i/\i<2^62/\-(2^62)≤j/\j<2^62)) (_:R (HU i (j-i).toNat) H1)
abbrev sS(ta:TA):TI:=λσ H R=>ta σ H (qZ R)
def Hf(n:Gl X "range")(m:X.mg "range"=none)(o:PA X [a] ta)(l:(starEach [a] X.env=[(false,eval a X.env,)])>>>4):PI X tg (.Call (.Name "range" p) [a] [] pos) (jH ta):=by
 intro b s f H R I h;refine Call_ (pj I n m boot_range (PyProof.Rows.callWith_type1 (kl (o pos b s f H _ I h) λv w d=>?_) l rfl));let⟨vs,x,u,i,c⟩:=d;let⟨j,e,c,k,q⟩:=c;subst e;cases i with
 |cons r g=>
  cases g;let⟨t,rfl⟩:=r;show call_range_1 (fD u (!6) (!6) c k (by simpa using q))
def cf{p pos:Pos}(y:Gl X "range")(x:X.mg "range"=none)(z:PA X [a,b] ta)(w:(starEach [a,b] X.env=[(false,eval a X.env,),(false,eval b X.env,)])>>>4)(d:(starEach [b] X.env=[(false,eval b X.env,)])>>>4):PI X tg (.Call (.Name "range" p) [a,b] [] pos) (sS ta):=by
 intro c s l H R I h;refine Call_ (pj I y x boot_range (PyProof.Rows.callWith_type1 (kl (z pos c s l H _ I h) λB C k=>?_) (by rw[w,d]) (by rw[d];rfl)));let⟨vs,D,A,m,g⟩:=k;let⟨i,j,e,⟨g,v,u,o⟩,q⟩:=g;subst e;cases m with
 |cons r f=>
  cases f with
  |cons n f=>
   cases f;let⟨t,rfl⟩:=r;let⟨t',rfl⟩:=n;show call_range_2 (fD A g v u o q)
abbrev tN(wi:TI)(g:TG)(tb:TS):TS:=λD σ H=>wi σ H λJ H1=>∃W:Nat->Nat->St->Hp->Prop,(∃m,W 0 m σ H1)/\∀i m σ H,W i m σ H->
 (J.stop i H/\D.nx σ H)\/(J.go i H/\∃N:St->Hp->Prop,(∀σ' H',N σ' H'->∃m',m'<m/\W (i+1) m' σ' H')/\∀x H',J.yld i H x H'->g x σ H' λσ2 H2=>tb {D with nx:=N,ct:=N,bk:=D.nx} σ2 H2)
abbrev dM(fp:List Addr)(h:Heap):List (Addr×Obj):=fp.filterMap λb=>(h.get? b).map λo=>(b,o,)
def JI(a:b∈c)(e:h.get? b<*o):(b,o,)∈dM c h:=List.mem_filterMap.mpr (b,a,by rw[e];rfl)
def kB(hp:p∈dM c h):p.1∈c/\h.get? p.1<*p.2:=by
 let⟨b,a,e⟩:=List.mem_filterMap.mp hp;cases q:h.get? b with
 |none=>rw[q]at e;cases e
 |some o=>
  rw[q]at e;let e':(b,o,)=p:=Option.some.inj e;subst e';show(a,q)
def hA.pinned{c:St}(I:hA X a c H s)(i:∀b∈g,aJ X a H b)(h:∀b∈g,∃o,s.heap.get? b=some o/\∀v,o.data≠.cell v):hA X (a++dM g s.heap) c H s:=
 I.pins_of λp hp=>(mem_append.mp hp).elim (λz=>I.pin p (mem_append_right _ z)) λz=>by
  let⟨f,e⟩:=kB z;let⟨l,k,j,_⟩:=i p.1 f;let⟨o,e',d⟩:=h p.1 f;rw[e]at e';cases e';show(e,l,k,j,d)
def hA.unpinned{b:St}(I:hA X (a++pl) b H s):hA X a b H s:=I.pins_of λp hp=>I.pin p (mem_append_right _ (mem_append_left _ hp))
def uL(hp:PassesOwn (model X.prog X.w) X.A X.env X.xe)(hc:X.calm=true)(hi:PI X tg iter wi)(hg:PG X tg g)(p:wo X L tb)(hs:(∀x,foldedSetIterable iter X.env x=pure x)>>>7):PS X (.For tg iter L [] pos) (tN wi g tb):=by
 intro c s σ H D I h;refine wpAny_For (kl (hi c s σ H _ I h) λv s1 h1=>kl h1 λab s2 h2=>?_) hs;let⟨it,G,tn,J,H2,e,I2,T,P,f2,W,⟨m0,w0⟩,B⟩:=h2;subst e;let l:∀{H':Hp},(∀b∈G,H' b=none)->∀b∈G,aJ X c H' b:=λhn b p=>(hn b p,(f2 b p).2);refine codeAny_forLoop_any (λn s'=>∃i k H',hA X c k H' s'/\tn i s'.heap/\(∀b∈G,H' b=none)/\W i n k H') ?_ m0 ((0),σ,H2,I2,P,λb p=>(f2 b p).1,w0);rintro n s3⟨i,j,M,I3,C,F,w3⟩;rcases B i n j M w3 with⟨stop,qn⟩|⟨go,N,hN,step⟩
 .refine wpAny_passesOwn hp (kl (T.done X rfl rfl rfl hc i c s3 j M X.xe I3 (l F) C stop) λr s4⟨R,I4⟩=>?_);subst R;show wpAny_execs_nil (j,M,I4,qn)
 .refine wpAny_passesOwn hp (kl (T.item X rfl rfl rfl hc i c s3 j M X.xe I3 (l F) C go) λr s4⟨u,R,h4⟩=>?_);subst R;refine wpAny_passesOwn hp (kl h4 λ_ s5 U=>?_);let⟨x,H5,I5,r5,y5,z,Y⟩:=U;let Z:=I5.pinned (l Y) (T.obj _ _ z);refine wpAny_passesOwn hp (kl (hg _ s5 j H5 x u _ Z r5 (step x H5 y5)) λ_ s6 S=>?_);let⟨O,H6,I6,q6⟩:=S;refine wpAny_passesOwn hp (kl (p _ s6 O H6 _ I6 q6) λf Q y=>?_);let again:∀{a:St}{t:Hp},hA X (c++dM G s5.heap) a t Q->N a t->∃m,m<n/\∃i k H',hA X c k H' Q/\tn i Q.heap/\(∀b∈G,H' b=none)/\W i m k H':=λ{a t}q E=>by
   let⟨m',hm,w7⟩:=hN a t E;refine(m',hm,i+1,a,t,q.unpinned,T.keep _ _ _ z λb p o e=>(q.pin (b,o,) (mem_append_right _ (mem_append_right _ (JI p e)))).1,λb p=>?_,w7);let⟨o,e,d⟩:=T.obj _ _ z b p;show(q.pin (b,o,) (mem_append_right _ (mem_append_right _ (JI p e)))).2.1
  cases f with
  |next=>let⟨a,t,q,E⟩:=y;show again q E
  |cont=>let⟨a,t,q,E⟩:=y;show again q E
  |brk=>let⟨a,t,q,y⟩:=y;show(a,t,q.unpinned,y)
  |ret v=>let⟨x7,a,t,q,r7,y⟩:=y;show(x7,a,t,q.unpinned,r7,y)
end
def HW{K:Frag}{g:TG}{k:TS}{D:aO}(c:Nat->St->Hp->Prop)(h0:c 0 b H)(r:∀i b H,i≤xs.length->c i b H->i4 K H a xs)(o:∀i x b H,xs[i]?<*x->c i b H->g x b H λd j=>k {D with nx:=c (i+1),ct:=c (i+1),bk:=D.nx} d j)(t:∀b H,c xs.length b H->D.nx b H):∃W:Nat->Nat->St->Hp->Prop,(∃m,W 0 m b H)/\∀i m b H,W i m b H->
   ((JG K a).stop i H/\D.nx b H)\/((JG K a).go i H/\∃N:St->Hp->Prop,(∀f H',N f H'->∃l,l<m/\W (i+1) l f H')/\∀x H',(JG K a).yld i H x H'->g x b H' λd j=>k {D with nx:=N,ct:=N,bk:=D.nx} d j):=by
 refine(λi m b H=>m=xs.length-i/\i≤xs.length/\c i b H,(xs.length,!1,zero_le _,h0),3);rintro i m b H⟨rfl,s,p⟩;let q:=r i b H s p;by_cases h:i<xs.length
 .refine .inr ((xs,xs[i],q,by simp[h]),c (i+1),λf H' n=>(xs.length-(i+1),!2,1,h,n),λx H' y=>?_);let⟨e,y⟩:=y;subst e;show o i x b _ (y xs q) p
 .let e:i=xs.length:=by lia
  subst e;show .inl ((xs,q,Nat.le_refl _),t b H p)
def jI{K:Frag}{g:TG}{k:TS}{D:aO}(c:Nat->St->Hp->Prop)(h0:c 0 b H)(r:∀i b H,i≤xs.length->c i b H->nj K H a xs)(o:∀i x b H,xs[i]?<*x->c i b H->g x b H λd j=>k {D with nx:=c (i+1),ct:=c (i+1),bk:=D.nx} d j)(t:∀b H,c xs.length b H->D.nx b H):∃W:Nat->Nat->St->Hp->Prop,(∃m,W 0 m b H)/\∀i m b H,W i m b H->
   ((JH K a).stop i H/\D.nx b H)\/((JH K a).go i H/\∃N:St->Hp->Prop,(∀f H',N f H'->∃l,l<m/\W (i+1) l f H')/\∀x H',(JH K a).yld i H x H'->g x b H' λd j=>k {D with nx:=N,ct:=N,bk:=D.nx} d j):=by
 refine(λi m b H=>m=xs.length-i/\i≤xs.length/\c i b H,(xs.length,!1,zero_le _,h0),3);rintro i m b H⟨rfl,s,p⟩;let q:=r i b H s p;by_cases h:i<xs.length
 .refine .inr ((xs,xs[i],q,by simp[h]),c (i+1),λf H' n=>(xs.length-(i+1),!2,1,h,n),λx H' y=>?_);let⟨e,y⟩:=y;subst e;show o i x b _ (y xs q) p
 .let e:i=xs.length:=by lia
  subst e;show .inl ((xs,q,Nat.le_refl _),t b H p)
def IR{lo:Int}{g:TG}{j:TS}{D:aO}(f:Nat->St->Hp->Prop)(h0:f 0 a H)(o:∀i a H,i<n->f i a H->g (.int (lo+i)) a H λb h=>j {D with nx:=f (i+1),ct:=f (i+1),bk:=D.nx} b h)(q:∀a H,f n a H->D.nx a H):∃W:Nat->Nat->St->Hp->Prop,(∃m,W 0 m a H)/\∀i m a H,W i m a H->
   ((HU lo n).stop i H/\D.nx a H)\/((HU lo n).go i H/\∃N:St->Hp->Prop,(∀c H',N c H'->∃k,k<m/\W (i+1) k c H')/\∀x H',(HU lo n).yld i H x H'->g x a H' λb h=>j {D with nx:=N,ct:=N,bk:=D.nx} b h):=by
 refine(λi m a H=>m=n-i/\i≤n/\f i a H,(n,!1,zero_le _,h0),3);rintro i m a H⟨rfl,r,p⟩;by_cases d:i<n
 .refine .inr (d,f (i+1),λc H' l=>(n-(i+1),!2,1,d,l),λx H' y=>?_);let⟨e,y⟩:=y;subst e y;show o i a _ d p
 .let e:i=n:=by lia
  subst e;show .inl (Nat.le_refl _,q a H p)
@[reducible]def R2:=V->V->Hp->VK->Prop
abbrev uq(X:Cx)(f:Value->Value->Sem Value)(r:R2):Prop:=
 ∀(pins:List (Addr×Obj))(s:Shared)(σ:St)(H:Hp)(x y:V)(v u:Value)(Q:VK),hA X pins σ H s->ad x v->ad y u->r x y H Q->
  wpAny (model X.prog X.w) X.A (f v u) (EP X pins σ Q) X.xe s
abbrev Lv(X:Cx)(f:Value->Sem Value)(r:V->Hp->VK->Prop):Prop:=
 ∀(pins:List (Addr×Obj))(s:Shared)(σ:St)(H:Hp)(x:V)(v:Value)(Q:VK),hA X pins σ H s->ad x v->r x H Q->
  wpAny (model X.prog X.w) X.A (f v) (EP X pins σ Q) X.xe s
abbrev Hg(X:Cx)(f:Value)(r:List V->Hp->VK->Prop):Prop:=
 ∀(pins:List (Addr×Obj))(s:Shared)(σ:St)(H:Hp)(xs:List V)(us:List Value)(Q:VK),hA X pins σ H s->ae xs us->r xs H Q->
  wpAny (model X.prog X.w) X.A (call f us) (EP X pins σ Q) X.xe s
abbrev Hh(r:R2)(ta tb:TE):TE:=λσ H Q=>ta σ H λx H1=>tb σ H1 λy H2=>r x y H2 Q
abbrev NM(r:V->Hp->VK->Prop)(ta:TE):TE:=λσ H Q=>ta σ H λx H1=>r x H1 Q
inductive rI(C:Int->Int->Prop)(g:Int->Int->V)(x:V)(y:V)(H:Hp)(Q:VK):Prop
 |mk (i j:_) (_:x=.int i) (_:y=.int j) (_:C i j) (_:Q (g i j) H)
inductive Ij(g:Int->Int->V)(x:V)(y:V)(H:Hp)(Q:VK):Prop
 |mk (i j:_) (_:x=.int i) (_:y=.int j) (_:Q (g i j) H)
inductive rU(g:Int->V)(x:V)(H:Hp)(Q:VK):Prop
 |mk (i:_) (_:x=.int i) (_:Q (g i) H)
section
variable{X:Cx}{a b c:Expr}{ta tb tc:TE}{pos:Pos}
def Jl(B:PE X a ta)(z:PE X b tb){e:St}{R:V->V->Hp->Prop}(I:hA X d e H s)(h:ta e H λx m=>tb e m λy g=>R x y g){f:Value->Value->Sem Value}(t:∀v u s2 x y g,hA X d e g s2->ad x v->ad y u->R x y g->wpAny (model X.prog X.w) X.A (f v u) Q X.xe s2):wpAny (model X.prog X.w) X.A (eval a X.env) (λv j=>wpAny (model X.prog X.w) X.A (eval b X.env) (λu i=>wpAny (model X.prog X.w) X.A (f v u) Q X.xe i) X.xe j) X.xe s:=by
 refine kl (B d s e H _ I h) λv n k=>?_;let⟨x,m,D,p,r⟩:=k;refine kl (z d n e m _ D r) λu s2 l=>?_;let⟨y,g,C,o,q⟩:=l;show t v u s2 x y g C p o q
def mB(i:uq X (binaryOp op) r)(k:PE X a ta)(j:PE X b tb):PE X (.BinOp a op b pos) (Hh r ta tb):=by
 intro d s e H Q I h;show wpAny_BinOp (Jl k j I h λv u s2 x y m l g f q=>i d s2 e m x y v u Q l g f q)
def aP(k:Lv X (unaryOp op) r)(l:PE X a ta):PE X (.UnaryOp op a pos) (NM r ta):=by
 intro d s f H Q I h;show UnaryOp_ (kl (l d s f H _ I h) λv g e=>by let⟨x,n,m,i,j⟩:=e;show k d g f n x v Q m i j)
def KH{g:Int->Int->Int}(rule:∀(i j:Int)(t u:Tok)(s:Shared)(Q:Value->Shared->Prop)(E:Value->Shared->Prop),C i j->Q (.int (g i j) s.toks) {s with toks:=s.toks+1}->wpAny (model X.prog X.w) X.A (f (.int i t) (.int j u)) Q E s):uq X f (rI C λi j=>.int (g i j)):=by
 intro d s m H x y v u Q I k e h;let⟨i,j,rfl,rfl,l,q⟩:=h;let⟨t,rfl⟩:=k;let⟨t',rfl⟩:=e;show rule i j t t' s _ _ l (.int (g i j),H,I.tok _,(_,rfl),q)
def su{g:Int->Int->Int}(rule:∀(i j:Int)(t u:Tok)(s:Shared)(Q:Value->Shared->Prop)(E:Value->Shared->Prop),Q (.int (g i j) s.toks) {s with toks:=s.toks+1}->wpAny (model X.prog X.w) X.A (f (.int i t) (.int j u)) Q E s):uq X f (Ij λi j=>.int (g i j)):=by
 intro d s l H x y v u Q I k e h;let⟨i,j,rfl,rfl,q⟩:=h;let⟨t,rfl⟩:=k;let⟨t',rfl⟩:=e;show rule i j t t' s _ _ (.int (g i j),H,I.tok _,(_,rfl),q)
def qO{g:Int->Int->Bool}(rule:∀(i j:Int)(t u:Tok)(s:Shared)(Q:Value->Shared->Prop)(E:Value->Shared->Prop),Q (.bool (g i j)) s->wpAny (model X.prog X.w) X.A (f (.int i t) (.int j u)) Q E s):uq X f (Ij λi j=>.bl (g i j)):=by
 intro d s l H x y v u Q I k e h;let⟨i,j,rfl,rfl,q⟩:=h;let⟨t,rfl⟩:=k;let⟨t',rfl⟩:=e;show rule i j t t' s _ _ (.bl (g i j),H,I,1,q)
abbrev tF(i j:Int):Prop:=0<j/\j<1073741824
abbrev uo(i j:Int):Prop:=0≤j/\j≤1000000/\i.natAbs<2^64
abbrev rC(i j:Int):Prop:=(-(2^64)<i/\i<2^64)\/(-(2^64)<j/\j<2^64)
def rC.ok(h:rC i j):IntMulOk i j:=by
 rcases h with⟨e,d⟩|⟨e,d⟩
 .exact .of_left (intBits_le_64 e d)
 .exact .of_right (intBits_le_64 e d)
def iu:uq X (binaryOp .Add) (Ij λi j=>.int (i+j)):=su λ_ _ _ _ _ _ _ q=>add_int q
def qK:uq X (binaryOp .Sub) (Ij λi j=>.int (i-j)):=su λ_ _ _ _ _ _ _ q=>sub_int q
def qL:uq X (binaryOp .Mult) (rI rC λi j=>.int (i*j)):=KH λ_ _ _ _ _ _ _ d q=>mul_int q d.ok
def J':uq X (binaryOp .FloorDiv) (rI tF λi j=>.int (i/j)):=KH λi j _ _ _ _ _ d q=>by
 let f:(0:Int)<j:=d.1;let e:j<1073741824:=d.2;show floordiv_int (!6) (by rw[Int.fdiv_eq_ediv_of_nonneg i (!6)];show q) (.inl (PyProof.noPylong_small (!2)))
def Jm:uq X (binaryOp .Mod) (rI (λ_ j=>0<j) λi j=>.int (i%j)):=KH λi j _ _ _ _ _ d q=>by
 let e:(0:Int)<j:=d;show mod_int' (!6) (by rw[Int.fmod_eq_emod_of_nonneg i (!6)];show q)
def GB:uq X (binaryOp .Pow) (rI uo λi j=>.int (i^j.toNat)):=KH λ_ _ _ _ _ _ _ d q=>pow_int_small d.1 d.2.1 d.2.2 q
def NN{g:Int->Int}(rule:∀(i:Int)(t:Tok)(s:Shared)(Q:Value->Shared->Prop)(E:Value->Shared->Prop),Q (.int (g i) s.toks) {s with toks:=s.toks+1}->wpAny (model X.prog X.w) X.A (f (.int i t)) Q E s):Lv X f (rU λi=>.int (g i)):=by
 intro d s j H x v Q I e h;let⟨i,rfl,q⟩:=h;let⟨t,rfl⟩:=e;show rule i t s _ _ (.int (g i),H,I.tok _,(_,rfl),q)
def IS:Lv X (unaryOp .USub) (rU λi=>.int (-i)):=NN λ_ _ _ _ _ q=>neg_int q
end
abbrev rY:V->V->Bool
 |.non,.non=>true|.non,.int _=>true|.int _,.non=>true|.non,.bl _=>true|.bl _,.non=>true|.non,.str _=>true|.str _,.non=>true
 |.int _,.int _=>true|.bl _,.bl _=>true|.str _,.str _=>true|.byt _,.byt _=>true
 |.int _,.str _=>true|.str _,.int _=>true|.bl _,.str _=>true|.str _,.bl _=>true
 |_,_=>false
abbrev rEq:R2:=λx y H Q=>rY x y=true/\Q (.bl (decide (x=y))) H
abbrev rNe:R2:=λx y H Q=>rY x y=true/\Q (.bl (!decide (x=y))) H
def jN:decide (V.int i=V.int j)=(i==j):=by
 rw[Bool.eq_iff_iff];simp
def ot:decide (V.bl i=V.bl j)=(i==j):=by
 rw[Bool.eq_iff_iff];simp
def jM:decide (V.str i=V.str j)=(i==j):=by
 rw[Bool.eq_iff_iff];simp
def jO:decide (V.byt i=V.byt j)=(i.toList==j.toList):=by
 rw[Bool.eq_iff_iff];cases i;cases j;simp
section
variable{X:Cx}{a b c:Expr}{ta tb tc:TE}{pos:Pos}
def uQ{f:St}(I:hA X d f H s)(q:Q (.bl k) H)(e:k=g):EP X d f Q (.bool g) s:=by
 subst e;show(.bl k,H,I,1,q)
def Ik:uq X (compareOp .Eq) rEq:=by
 intro g s k H x y v u Q I f d h;let⟨e,q⟩:=h;cases x with
 |non=>
  cases f;cases y with
  |non=>cases d;show PySem.EqNone.eq_none_none (uQ I q (!1))
  |bl j=>cases d;show PySem.EqNone.eq_none_bool (uQ I q (!1))
  |int j=>let⟨t',rfl⟩:=d;show PySem.EqNone.eq_none_int (uQ I q (!1))
  |str j=>let⟨t',rfl⟩:=d;show PySem.EqNone.eq_none_str (uQ I q (!1))
  |_=>show absurd (show false=true from e) Bool.false_ne_true
 |bl i=>
  cases f;cases y with
  |non=>cases d;show PySem.EqNone.eq_bool_none (uQ I q (!1))
  |bl j=>cases d;show eq_bool (uQ I q ot)
  |str j=>let⟨t',rfl⟩:=d;show PySem.EqMixed.eq_bool_str (uQ I q (!1))
  |_=>show absurd (show false=true from e) Bool.false_ne_true
 |int i=>
  let⟨t,rfl⟩:=f;cases y with
  |non=>cases d;show PySem.EqNone.eq_int_none (uQ I q (!1))
  |int j=>let⟨t',rfl⟩:=d;show eq_int (uQ I q jN)
  |str j=>let⟨t',rfl⟩:=d;show PySem.EqMixed.eq_int_str (uQ I q (!1))
  |_=>show absurd (show false=true from e) Bool.false_ne_true
 |str i=>
  let⟨t,rfl⟩:=f;cases y with
  |non=>cases d;show PySem.EqNone.eq_str_none (uQ I q (!1))
  |bl j=>cases d;show PySem.EqMixed.eq_str_bool (uQ I q (!1))
  |int j=>let⟨t',rfl⟩:=d;show PySem.EqMixed.eq_str_int (uQ I q (!1))
  |str j=>let⟨t',rfl⟩:=d;show eq_str (uQ I q jM)
  |_=>show absurd (show false=true from e) Bool.false_ne_true
 |byt i=>
  let⟨t,rfl⟩:=f;cases y with
  |byt j=>let⟨t',rfl⟩:=d;show PySem.W.eq_bytes (uQ I q jO)
  |_=>show absurd (show false=true from e) Bool.false_ne_true
 |_=>cases y<;>show absurd (show false=true from e) Bool.false_ne_true
def ss:uq X (compareOp .NotEq) rNe:=by
 intro g s k H x y v u Q I f d h;let⟨e,q⟩:=h;cases x with
 |non=>
  cases f;cases y with
  |non=>cases d;show PySem.EqNone.ne_none_none (uQ I q (!1))
  |bl j=>cases d;show PySem.EqNone.ne_none_bool (uQ I q (!1))
  |int j=>let⟨t',rfl⟩:=d;show PySem.EqNone.ne_none_int (uQ I q (!1))
  |str j=>let⟨t',rfl⟩:=d;show PySem.EqNone.ne_none_str (uQ I q (!1))
  |_=>show absurd (show false=true from e) Bool.false_ne_true
 |bl i=>
  cases f;cases y with
  |non=>cases d;show PySem.EqNone.ne_bool_none (uQ I q (!1))
  |bl j=>cases d;show ne_bool (uQ I q (congrArg not ot))
  |str j=>let⟨t',rfl⟩:=d;show PySem.EqMixed.ne_bool_str (uQ I q (!1))
  |_=>show absurd (show false=true from e) Bool.false_ne_true
 |int i=>
  let⟨t,rfl⟩:=f;cases y with
  |non=>cases d;show PySem.EqNone.ne_int_none (uQ I q (!1))
  |int j=>let⟨t',rfl⟩:=d;show ne_int (uQ I q (congrArg not jN))
  |str j=>let⟨t',rfl⟩:=d;show PySem.EqMixed.ne_int_str (uQ I q (!1))
  |_=>show absurd (show false=true from e) Bool.false_ne_true
 |str i=>
  let⟨t,rfl⟩:=f;cases y with
  |non=>cases d;show PySem.EqNone.ne_str_none (uQ I q (!1))
  |bl j=>cases d;show PySem.EqMixed.ne_str_bool (uQ I q (!1))
  |int j=>let⟨t',rfl⟩:=d;show PySem.EqMixed.ne_str_int (uQ I q (!1))
  |str j=>let⟨t',rfl⟩:=d;show ne_str (uQ I q (congrArg not jM))
  |_=>show absurd (show false=true from e) Bool.false_ne_true
 |byt i=>
  let⟨t,rfl⟩:=f;cases y with
  |byt j=>let⟨t',rfl⟩:=d;show PySem.W.ne_bytes (uQ I q (congrArg not jO))
  |_=>show absurd (show false=true from e) Bool.false_ne_true
 |_=>cases y<;>show absurd (show false=true from e) Bool.false_ne_true
def Il:uq X (compareOp .Lt) (Ij λi j=>.bl (decide (i<j))):=qO λ_ _ _ _ _ _ _ q=>lt_int q
def fQ:uq X (compareOp .LtE) (Ij λi j=>.bl (decide (i≤j))):=qO λ_ _ _ _ _ _ _ q=>le_int q
def cA:uq X (compareOp .Gt) (Ij λi j=>.bl (decide (j<i))):=qO λ_ _ _ _ _ _ _ q=>gt_int q
def dW:uq X (compareOp .IsNot) (λx y H Q=>y=.non/\Q (.bl (!decide (x=.non))) H):=by
 intro e s g H x y v u Q I d f h;let⟨rfl,q⟩:=h;cases f;refine isnot_none_gen (uQ I q ?_);cases x<;>first
  |(cases d;rfl)
  |(let⟨t,rfl⟩:=d;rfl)
def M9:uq X (compareOp .NotIn) (λx y H Q=>∃i j,x=.str i/\y=.str j/\Q (.bl (!(!(Builtin.Str.occurrences j i 0 j.length 1).isEmpty))) H):=by
 intro d s g H x y v u Q I f e h;let⟨i,j,rfl,rfl,q⟩:=h;let⟨t,rfl⟩:=f;let⟨t',rfl⟩:=e;show notIn_str (uQ I q rfl)
def uV(b:Expr)(h:(op≠.In)>>>0)(d:(op≠.NotIn)>>>0):behindInMarks op b=false:=by
 let f:(op==CmpOp.In)=false:=by cases op<;>first|rfl|show absurd rfl h
 let e:(op==CmpOp.NotIn)=false:=by cases op<;>first|rfl|show absurd rfl d
 cases b<;>simp[behindInMarks,f,e]
def Hi(i:uq X (compareOp op) r)(l:PE X a ta)(k:PE X b tb)(j:behindInMarks op b=false):PE X (.Compare a [op] [b] pos) (Hh r ta tb):=by
 intro d s e H Q I h;show wpAny_Compare1 (Jl l k I h λv u s2 x y n m g f q=>i d s2 e n x y v u Q m g f q) j
inductive qq(Q:Bool->Hp->Prop)(x:V)(H':Hp):Prop
 |mk (k:_) (_:x=.bl k) (_:Q k H')
abbrev jd(t:TE):TT:=λσ H Q=>t σ H (qq Q)
def uZ(p:uq X (compareOp op) r)(w:PE X a ta)(t:PE X b tb)(q:behindInMarks op b=false):PT X (.Compare a [op] [b] pos) (jd (Hh r ta tb)):=by
 intro d s f H Q I h;refine wpAny_isTrue_Compare1 (kl (w d s f H _ I h) λv g⟨x,F,C,l,o⟩=>kl (t d g f F _ C o) λu s2⟨y,E,B,j,n⟩=>
  kl (p d s2 f E x y v u _ B l j n) λc G⟨z,D,A,i,k,e,m⟩=>?_) q
 subst e;cases i;show wpAny_truthy_bool (D,A,m)
abbrev mi(r r':R2)(ta tb tc:TE):TE:=λσ H Q=>ta σ H λx H1=>tb σ H1 λy H2=>r x y H2 λz H3=>∃k,z=.bl k/\
 (if k=true then tc σ H3 λw' H4=>r' y w' H4 Q else Q (.bl false) H3)
def mM(L:uq X (compareOp op) r)(i:uq X (compareOp op') D)(P:PE X a ta)(O:PE X b tb)(N:PE X c tc)(M:(lastMarks [op,op'] [b,c]=false)>>>9):PE X (.Compare a [op,op'] [b,c] pos) (mi r D ta tb tc):=by
 intro f s g H Q I h;refine Compare_chain (kl (P f s g H _ I h) λv w⟨x,Y,T,C,G⟩=>chain_link (kl (O f w g Y _ T G) λu s2⟨y,W,S,j,F⟩=>
  kl (L f s2 g W x y v u _ S C j F) λd t⟨z,n,m,B,k,e,l⟩=>?_)) M
 subst e;cases B;refine wpAny_truthy_bool ?_;cases k with
 |false=>show ite_ff (.bl false,n,m,1,l)
 |true=>show ite_tt (chain_last (kl (N f t g n _ m l) λp q⟨o,U,R,A,E⟩=>i f q g U y o u p Q R j A E))
def fH(P:uq X (compareOp op) r)(i:uq X (compareOp op') F)(U:PE X a ta)(T:PE X b tb)(S:PE X c tc)(R:(lastMarks [op,op'] [b,c]=false)>>>9):PT X (.Compare a [op,op'] [b,c] pos) (jd (mi r F ta tb tc)):=by
 intro f s g H Q I h;refine isTrue_chain (kl (U f s g H _ I h) λv A⟨x,H1,I1,E,N⟩=>test_link (kl (T f A g H1 _ I1 N) λu s2⟨y,H2,I2,l,M⟩=>
  kl (P f s2 g H2 x y v u _ I2 E l M) λd w⟨z,o,n,D,k,e,m⟩=>?_)) R
 subst e;cases D;refine wpAny_truthy_bool ?_;cases k with
 |false=>
  let⟨k',e',O⟩:=m;cases e';show ite_ff (o,n,O)
 |true=>
  refine ite_tt (test_last (kl (S f w g o _ n m) λq t⟨p,H4,Z,C,L⟩=>kl (i f t g H4 y p u q _ Z l C L) λd' s5 j=>?_));let⟨z2,H5,Y,B,k2,W,G⟩:=j;subst W;cases B;show wpAny_truthy_bool (H5,Y,G)
def bw:(sizeLine:Nat)<2^63:=by rw[sizeLine_eq];decide
def Im:uq X (binaryOp .Add) (λx y H Q=>∃i j,x=.str i/\y=.str j/\i.length+j.length≤sizeLine/\Q (.str (i++j)) H):=by
 intro d s g H x y v u Q I f e h;let⟨i,j,rfl,rfl,hz,q⟩:=h;let⟨t,rfl⟩:=f;let⟨t',rfl⟩:=e;show add_str (λt' k=>(.str (i++j),H,I.tok _,(_,rfl),q)) hz
def GC(r:ae [x] d):∃u,d=[u]/\ad x u:=by
 cases r with
 |cons f e=>cases e;show(0,f)
def bn(r:ae [x,y] e):∃u d,e=[u,d]/\ad x u/\ad y d:=by
 cases r with
 |cons i h=>
  cases h with
  |cons g f=>cases f;show(8,i,g)
def lf:Hg X (.type "int") (λxs H Q=>(∃i,xs=[.int i]/\Q (.int i) H)\/∃k,xs=[.bl k]/\Q (.int (if k then 1 else 0)) H):=by
 intro d s f H xs g Q I r h;rcases h with⟨i,rfl,q⟩|⟨k,rfl,q⟩
 .obtain ⟨u,rfl,t,rfl⟩:=GC r;show call_int_int (.int i,H,I,(_,rfl),q)
 .obtain ⟨u,rfl,e⟩:=GC r;cases e;show call_int_bool (.int (if k then 1 else 0),H,I.tok _,(_,rfl),q)
end
structure lC(h:Heap)(x dx C:Addr)(mA:Str->Option Value):Prop where
 obj:h.get? x<*instObj C dx
 ns:h.Ns1 dx mA
 ne:dx≠x
def kL{h:Heap}(n:h.Ns1 dx f):∃c,h.get? dx=some c/\∀name,lookIn name c<*f name:=by
 let⟨o,d,p,i,l,k,_,j⟩:=n;refine(o,i,λname=>?_);let e:=j name;unfold nsFind findBy at e;rw[<-Array.find?_toList]at e;unfold lookIn;rw[l];dsimp only;split
 .rename_i y q;rw[q]at e;show congrArg some e
 .rename_i q;rw[q]at e;let a:d.toList.any (·.refKey)=false:=by
   rw[List.any_eq_false];intro y g;let⟨z,t,b⟩:=k y (Array.mem_toList_iff.mp g);simp[DictEntry.refKey,b]
  let m:¬ d.toList.any (·.refKey)=true:=by rw[a];show Bool.false_ne_true
  rw[if_neg m];show congrArg some e
def lC.look(I:lC h x dx C b):∃a,PySem.W.InstAt h x (instObj C dx) C (some a)/\∀name,lookIn name a<*b name:=
 let⟨a,c,d⟩:=kL I.ns
 (a,(I.obj,6,c),d)
section
variable{prog:Program}{w:World}{A:Around}{E:Value->Shared->Prop}{s:Shared}{K:Frag}{x dx C f:Addr}{mA:Str->Option Value}{name:Str}{v:Value}
def pJ(X:K.In s.heap)(I:lC s.heap x dx C mA)(e:plainGet K C name=true)(d:hasDictIn K C=true)(g:findIn K (.ref C) name<*none)(b:mA name<*v)(a:PySem.W.handedIn v=true)(h:Q v {s with toks:=s.toks+1}):wpAny (model prog w) A (getAttr (.ref x) name expr) Q E s:=by
 let⟨i,J,c⟩:=I.look;show PySem.W.get_value X J (PySem.W.plainGet_of e).1 (PySem.W.findObj_own d g rfl (by rw[c,b])) a h
def oQ(X:K.In s.heap)(I:lC s.heap x dx C mA)(m:findIn K (.ref C) "__setattr__"<*some (.builtin "object.__setattr__"))(hp:PySem.W.plainOver K C=true)(l:takerIn K C name<*none)(n:hasDictIn K C=true)(hw:PySem.Within mA ns)(hsz:ns.length≤sizeLine)(h:∀h',lC h' x dx C (λy=>if y=name then some v else mA y)->SameBut dx s.heap h'->Q () {s with heap:=h',toks:=s.toks+2}):wpAny (model prog w) A (setAttr (.ref x) name v) Q E s:=by
 let⟨t,J,z⟩:=I.look;refine PySem.W.set_plain X J m (PySem.W.osa_open (s:={s with toks:=s.toks+1}) (r:=none) X J hp l λb=>?_);let⟨B,o,i⟩:=PySem.W.any_some n;let k:s.heap.get? x<*(.ref C,some dx,.plain,#[]):=I.obj;refine g_ (j3 (g_ (g_ (wpAny_loadPart k (g_ (PySem.W.Looks.here (s:={s with toks:=s.toks+1}) (PySem.W.looks_clsIn X o) ?_))))));rw[i];refine j3 (a:=some dx) (g_ (j3 (g_ ?_)));refine wpAny_nsSet1 (s:={s with toks:=s.toks+1}) I.ns λh' d c=>?_;let⟨u,p,q,e,g,j⟩:=d.count (PySem.Within.cons name v hw);refine g_ (wpAny_lookBehind e (by rw[g];show pastItsLine_dict (Nat.le_trans j (by rw[length_cons];lia))) ?_);show j3 (h _ ((c.2 _ (Ne.symm I.ne)).trans I.obj,d,I.ne) c)
def ni(X:K.In s.heap)(c:PySem.W.makesIn K C=true)(e:findIn K (.ref C) "__init__"<*some (.ref f))(i:PySem.W.typeIn K (.ref f)<*.type "function")(h:codeAny (model prog w) (A.under (.builtin "type.__call__" (.ref C::vs,b))) (.call (.ref f) (.ref (s⁻¹+1)::vs,b)) (PySem.W.InitBack (s⁻¹+1) R)
   {s with heap:=(s.heap.push emptyDict).push (instObj C s⁻¹)}):codeAny (model prog w) A (.call (.ref C) (vs,b)) R s:=by
 let⟨j,g,d,t,os⟩:=s;show PySem.W.make_core (PySem.W.makes_of X c) (PySem.W.looks_findIn X e) (λa=>PySem.W.bind_fn X a i) (.inl rfl) h
end
abbrev aj(f:Str)(v:V):List (Str×V)->List (Str×V)
 |[]=>[(f,v,)]
 |(g,x)::r=>if g=f then(g,v,)::r else(g,x,)::aj f v r
def M_(f g:Str)(v:V):∀c:List (Str×V),(aj f v c).lookup g=if g=f then some v else c.lookup g
 |[]=>by
  change List.lookup g [(f,v,)]=_;by_cases h:g=f
  .let a:(g==f)=true:=beq_iff_eq.mpr h;simp only[List.lookup,a,if_pos h]
  .let a:(g==f)=false:=beq_eq_false_iff_ne.mpr h;simp only[List.lookup,a,if_neg h]
 |(k,x)::r=>by
  let d:=M_ f g v r;rw[show aj f v ((k,x,)::r)=(if k=f then(k,v,)::r else(k,x,)::aj f v r)from rfl];by_cases b:k=f
  .rw [if_pos b];by_cases h:g=k
   .let a:(g==k)=true:=beq_iff_eq.mpr h;simp only[List.lookup,a,if_pos (h.trans b)]
   .let a:(g==k)=false:=beq_eq_false_iff_ne.mpr h;simp only[List.lookup,a,if_neg (λe:g=f=>h (e.trans b.symm))]
  .rw [if_neg b];by_cases h:g=k
   .let a:(g==k)=true:=beq_iff_eq.mpr h;simp only[List.lookup,a,if_neg (λe:g=f=>b (h.symm.trans e))]
   .let a:(g==k)=false:=beq_eq_false_iff_ne.mpr h;simp only[List.lookup,a];show d
def Lw(f:Str)(v:V):∀b:List (Str×V),f∈(aj f v b).map (·.1)/\∀g,g∈b.map (·.1)->g∈(aj f v b).map (·.1)
 |[]=>(by simp[aj],λg h=>by simp at h)
 |(k,x)::r=>by
  let⟨i1,i2⟩:=Lw f v r;rw[show aj f v ((k,x,)::r)=(if k=f then(k,v,)::r else(k,x,)::aj f v r)from rfl];by_cases a:k=f
  .rw [if_pos a];subst a;show(!1,λg h=>by simpa using h)
  .rw [if_neg a];refine(3,λg h=>?_)
   .rw [map_cons];show mem_cons_of_mem _ i1
   .rw [map_cons]at h⊢;rcases mem_cons.mp h with e|e
    .exact mem_cons.mpr (.inl e)
    .exact mem_cons_of_mem _ (i2 g e)
def vz(f:Str)(v:V):∀b:List (Str×V),(aj f v b).length≤b.length+1
 |[]=>by simp[aj]
 |(k,x)::r=>by
  let c:=vz f v r;rw[show aj f v ((k,x,)::r)=(if k=f then(k,v,)::r else(k,x,)::aj f v r)from rfl];by_cases a:k=f
  .rw [if_pos a,length_cons,length_cons];lia
  .rw [if_neg a,length_cons,length_cons];lia
def al.some_of(r:al (some v) o):∃u,o=some u/\ad v u:=by
 cases o with
 |none=>show(show False from r).elim
 |some u=>show(u,1,r)
def al.none_of(r:al none o):o=none:=by
 cases o with
 |none=>rfl
 |some u=>show(show False from r).elim
def kX(r:ad v u):PySem.W.handedIn u=true:=by
 cases v with
 |non=>cases(show u=Value.none from r);rfl
 |bl b=>cases(show u=Value.bool b from r);rfl
 |int i=>let⟨t,e⟩:=(show ∃t,u=Value.int i t from r);cases e;rfl
 |str x=>let⟨t,e⟩:=(show ∃t,u=Value.str x t from r);cases e;rfl
 |byt b=>let⟨t,e⟩:=(show ∃t,u=Value.bytes b t from r);cases e;rfl
 |flt b=>let⟨t,e⟩:=(show ∃t,u=Value.float b t from r);cases e;rfl
 |ref a=>cases(show u=Value.ref a from r);rfl
 |ty n=>cases(show u=Value.type n from r);rfl
section
variable{P:Program}{w:World}{H H':Hp}{h h':Heap}{a C dx:Addr}{fs fs':List (Str×V)}
def eD(c:uK P w H h)(e:H a<*.ins C dx fs):∃b,lC h a dx C b/\(∀f,al (fs.lookup f) (b f))/\PySem.Within b (fs.map (·.1))/\fs.length≤1000/\H dx<*.own a:=by
 let⟨d,z,i,g,b,n,r,q⟩:=(show uz P w H h a (.ins C dx fs)from c a _ e);show(b,(g,n,i),r,q,z,d)
end
structure HX(K:Frag)(C:Addr):Prop where
 pg:plainGet K C Str.empty=true
 hd:hasDictIn K C=true
 po:PySem.W.plainOver K C=true
 sa:findIn K (.ref C) "__setattr__"<*some (.builtin "object.__setattr__")
def HX.get{K:Frag}(c:HX K C)(f:Str):plainGet K C f=true:=c.pg
abbrev vJ(K:Frag)(C:Addr)(f:Str):Prop:=findIn K (.ref C) f<*none
def vJ.taker{K:Frag}(n:vJ K C f):takerIn K C f<*none:=by
 unfold takerIn;rw[show findIn K (.ref C) f<*none from n];rfl
section
variable{X:Cx}{pins:List (Addr×Obj)}{σ:St}{H:Hp}{s:Shared}{a C dx:Addr}{fs:List (Str×V)}{f:Str}{v:V}{A:Around}{E:Value->Shared->Prop}
def iL(I:hA X pins σ H s)(e:H a<*.ins C dx fs)(c:HX X.K C)(n:vJ X.K C f)(l:fs.lookup f<*v)(h:∀u s',hA X pins σ H s'->ad v u->Q u s'):wpAny (model X.prog X.w) A (getAttr (.ref a) f b) Q E s:=by
 let⟨g,O,r,_,_,_⟩:=eD I.hok e;let⟨u,i,d⟩:=al.some_of (v:=v) (o:=g f) (by rw[<-l];show r f);show pJ I.kIn O (c.get f) c.hd n i (kX d) (h u _ (I.tok _) d)
def ie(I:hA X pins σ H s)(e:H a<*.ins C dx fs)(c:HX X.K C)(n:vJ X.K C f)(D:fs.length<1000)(m:ad y u)(h:∀s',hA X pins σ (upd H a (.ins C dx (aj f y fs))) s'->Q () s'):wpAny (model X.prog X.w) A (setAttr (.ref a) f u) Q E s:=by
 let⟨j,O,r,i,_,k⟩:=eD I.hok e;let hz:(fs.map (·.1)).length≤sizeLine:=by rw[ix,sizeLine_eq];omega
 refine oQ I.kIn O c.sa c.po n.taker c.hd i hz λh' d l=>h _ ?_;let t:∃o,h'.get? dx<*o:=let⟨o,_,_,e',_⟩:=d.ns;(o,e');refine I.write (x:=a) (e:=dx) (by rw[e];show True.intro) (.inr k) (λb q B z=>(l.2 b B).trans z) t ?_;refine(by rw[b_ O.ne];show k,3,O.ne,d.obj,_,d.ns,λg=>?_,λg p=>?_)
 .have:=vz f y fs;lia
 .change al ((aj f y fs).lookup g) (if g=f then some u else j g);rw[M_];by_cases q:g=f
  .rw [if_pos q,if_pos q];show m
  .rw [if_neg q,if_neg q];show r g
 .by_cases q:g=f
  .rw [q];show(Lw f y fs).1
  .refine (Lw f y fs).2 g (i g λz=>p ?_);show(if g=f then some u else j g)=none;rw[if_neg q];show z
def hA.made(I:hA X pins σ H s):hA X pins σ (upd (upd H s⁻¹ (.own (s⁻¹+1))) (s⁻¹+1) (.ins C s⁻¹ []))
  {s with heap:=(s.heap.push emptyDict).push (instObj C s⁻¹)}:=by
 let d:(s.heap.push emptyDict).get? s⁻¹<*emptyDict:=get?_push_size s.heap rfl;let j:((s.heap.push emptyDict).push (instObj C s⁻¹)).get? (s⁻¹+1)<*instObj C s⁻¹:=by
  have:=get?_push_size (s.heap.push emptyDict) (o:=instObj C s⁻¹) rfl
  rwa [size_push]at this
 let i:(s.heap.push emptyDict).Ns s⁻¹ (λ_=>none):=(emptyDict,#[],_,d,1,(λe h=>absurd h (!1)),λ_=>rfl);let k:=I.laid (a:=s⁻¹) (o:=.own (s⁻¹+1)) (h':=s.heap.push emptyDict) (t':=s.toks) (λb u q=>mJ _ q) (Nat.le_refl _) (_,d);refine k.laid (a:=s⁻¹+1) (o:=.ins C s⁻¹ []) (t':=s.toks) (λb u q=>mJ _ q) (le_of_eq (size_push _ _)) ?_;let c:s⁻¹≠s⁻¹+1:=ne_of_lt (lt_succ_self _);refine(by rw[b_ c,a_],zero_le _,c,j,λ_=>none,(Heap.Ns1.of_empty i).at λo q=>mJ _ q,λ_=>True.intro,λy g=>absurd rfl g)
def Io(c:attributeBase e f env (eval e env)=eval e env)(h:wpAny (model prog w) A (eval e env) (λo b=>wpAny (model prog w) A (getAttr o f true) Q E b) E s):wpAny (model prog w) A (eval (.Attribute e f pos) env) Q E s:=
 Attribute_any_ h (by rw[arm_eval_Attribute,c])
end
inductive rR(K:Frag)(f:Str)(Q:VK)(x:V)(H1:Hp):Prop
 |mk (a C dx fs v:_) (_:x=.ref a) (_:H1 a<*.ins C dx fs) (_:HX K C) (_:vJ K C f) (_:fs.lookup f<*v) (_:Q v H1)
abbrev rS(K:Frag)(ta:TE)(f:Str):TE:=λσ H Q=>ta σ H (rR K f Q)
inductive sh(K:Frag)(f:Str)(D:aO)(σ:St)(y:V)(x:V)(H2:Hp):Prop
 |mk (a C dx fs:_) (_:x=.ref a) (_:H2 a<*.ins C dx fs) (_:HX K C) (_:vJ K C f) (_:fs.length<1000) (_:D.nx σ (upd H2 a (.ins C dx (aj f y fs))))
abbrev tT(K:Frag)(ta tv:TE)(f:Str):TS:=λD σ H=>tv σ H λy H1=>ta σ H1 (sh K f D σ y)
section
variable{X:Cx}{o e value:Expr}{f:Str}{pos pos' tpos:Pos}{ta tv:TE}
def vm(k:PE X e ta)(m:attributeBase e f X.env (eval e X.env)=eval e X.env):PE X (.Attribute e f pos) (rS X.K ta f):=by
 intro b s g H Q I h;refine Io m (kl (k b s g H _ I h) λu A d=>?_);let⟨x,y,w,i,a,C,dx,B,v,p,r,c,n,l,q⟩:=d;subst p;obtain rfl:u=Value.ref a:=i;show iL w r c n l λz s2 t j=>(v,y,t,j,q)
def bq(v:PE X o ta)(r:PE X value tv)(t:swapsWith value (some (.Attribute o f pos')) pos.line X.env=pure false):PS X (.Assign [.Attribute o f pos'] value pos) (tT X.K ta tv f):=by
 intro b s d H D I h;refine plainObj_wpAny_Assign_Attribute (kl (r b s d H _ I h) λu i⟨y,F,E,j,q⟩=>kl (v b i d F _ E q) λp s2 g=>?_) t;let⟨x,M,B,k,a,C,dx,L,w,z,c,n,l,m⟩:=g;subst w;obtain rfl:p=Value.ref a:=k;show ie B z c n l j λG A=>(d,_,A,m)
end
section
variable{X:Cx}{pins:List (Addr×Obj)}{σ:St}{H:Hp}{s:Shared}{A:Around}{E:Value->Shared->Prop}{Q:Value->Shared->Prop}{c:Value}{b:Bool}
inductive av(K:Frag)(H:Hp):V->Value->Prop where
 |non:av K H .non (.type "NoneType")
 |bl (x:Bool):av K H (.bl x) (.type "bool")
 |int (i:Int):av K H (.int i) (.type "int")
 |str (x:Str):av K H (.str x) (.type "str")
 |flt (x:UInt64):av K H (.flt x) (.type "float")
 |lst {a:Addr} {xs:List V} (e:H a<*.lst xs):av K H (.ref a) (.type "list")
 |frz {a:Addr} {o:Obj} {xs:List V} (e:H a<*.frz o (.lst xs)):av K H (.ref a) (.type "list")
 |tup {a:Addr} {xs:List V} (e:H a<*.tup xs):av K H (.ref a) (.type "tuple")
 |dK {a:Addr} {kvs:List (vW×V)} (e:H a<*.dK kvs):av K H (.ref a) (.type "dict")
 |dT {a:Addr} {kvs:List (List vW×V)} (e:H a<*.dT kvs):av K H (.ref a) (.type "dict")
 |ins {a C dx:Addr} {fs:List (Str×V)} (e:H a<*.ins C dx fs) (cl:HX K C) (ha:findIn K (.ref C) "__class__"<*some (.builtin "object.__class__"))
   (hn:PySem.W.specialIn K (.builtin "object.__class__") "__get__"<*some (.builtin "getset_descriptor.__get__")) (htk:PySem.W.takesIn K (.builtin "object.__class__")<*true)
   (hm:PySem.W.mroIn K C (.type "object")<*true):av K H (.ref a) (.ref C)
def kR(I:hA X pins σ H s)(d:ad x u)(ty:av X.K H x t)(e:kitOne X.K t c<*b)(h:∀l,Q (.bool b) {s with toks:=l}):wpAny (model X.prog X.w) A (call (.builtin "isinstance") [u,c]) Q E s:=by
 cases ty with
 |non=>cases(show u=Value.none from d);show kia_one PySem.W.kitx_none I.kIn True.intro e (λz=>nomatch z) h
 |bl y=>cases(show u=Value.bool y from d);show kia_one PySem.W.kitx_bool I.kIn True.intro e (λz=>nomatch z) h
 |int i=>let⟨t,q⟩:=(show ∃t,u=Value.int i t from d);cases q;show kia_one PySem.W.kitx_int I.kIn True.intro e (λz=>nomatch z) h
 |str y=>let⟨t,q⟩:=(show ∃t,u=Value.str y t from d);cases q;show kia_one PySem.W.kitx_str I.kIn True.intro e (λz=>nomatch z) h
 |flt y=>let⟨t,q⟩:=(show ∃t,u=Value.float y t from d);cases q;show kia_one PySem.W.kitx_float I.kIn True.intro e (λz=>nomatch z) h
 |@lst a xs f=>
  cases(show u=Value.ref a from d);let⟨_,_,n,_,g⟩:=(show uz X.prog X.w H s.heap a (.lst xs)from I.hok a _ f);show kia_one PySem.W.kitx_list I.kIn (_,g,1) e (λz=>nomatch z) h
 |@frz a m xs f=>
  cases(show u=Value.ref a from d);let⟨_,_,_,n,_,g⟩:=(show uz X.prog X.w H s.heap a (.frz m (.lst xs))from I.hok a _ f);show kia_one PySem.W.kitx_list I.kIn (_,g,1) e (λz=>nomatch z) h
 |@tup a xs f=>
  cases(show u=Value.ref a from d);let⟨_,_,_,p⟩:=(show uz X.prog X.w H s.heap a (.tup xs)from I.hok a _ f);let⟨o,g,j,_⟩:=p;show kia_one PySem.W.kitx_tuple I.kIn (o,g,j) e (λz=>nomatch z) h
 |@dK a kvs f=>
  cases(show u=Value.ref a from d);let⟨_,_,vs,_,p⟩:=(show uz X.prog X.w H s.heap a (.dK kvs)from I.hok a _ f);let⟨o,D,F,g,j,_⟩:=p;show kia_one PySem.W.kitx_dict I.kIn (o,g,j.1) e (λz=>nomatch z) h
 |@dT a kvs f=>
  cases(show u=Value.ref a from d);let⟨_,_,xs,_,o,D,F,g,j,_⟩:=(show uz X.prog X.w H s.heap a (.dT kvs)from I.hok a _ f);show kia_one PySem.W.kitx_dict I.kIn (o,g,j.1) e (λz=>nomatch z) h
 |@ins a C dx M f k B r htk v=>
  cases(show u=Value.ref a from d);let⟨L,O,_⟩:=eD I.hok f;let⟨G,J,_⟩:=O.look;show kia_one (PySem.W.kitx_own (k.get _) k.hd B r htk v) I.kIn J e (λz=>nomatch z) h
end
structure ag(k:Nat)(A:Around):Prop where
 hd:A.handled=none
 dp:A.depth+3*k+5<recursionLimit
 un:A.units+16*k+200<cLine
def ag.mono(r:ag k A)(h:j≤k):ag j A:=(r.hd,by have:=r.dp;lia,by have:=r.un;lia)
def ag.deeper(r:ag (k+1) A)(env:Env):ag k (A.deeper env):=
 (r.hd,by have:=r.dp;change A.depth+1+3*k+5<_;lia,by have:=r.un;change A.units+3+16*k+200<_;lia)
def ag.in1(r:ag (k+1) A):ag k A.in1:=
 (r.hd,by have:=r.dp;change A.depth+3*k+5<_;lia,by have:=r.un;change A.units+1+16*k+200<_;lia)
def iE{A:Around}:(A.under (.builtin "type.__call__" (.ref C::a,b))).depth=A.depth+1:=by
 first|rfl|simp[Around.under,Code.weight,Code.isCreation,Code.isGuard,Code.isCaller,Code.frames,Code.isFrame,guardIds]
def iD{A:Around}:(A.under (.builtin "type.__call__" (.ref C::a,b))).units=A.units+1:=by
 first|rfl|simp[Around.under,Code.cUnits,Code.frames,Code.isFrame]
def ag.make(r:ag (k+1) A)(C:Addr)(a:List Value)(b:List (Str×Value)):ag k (A.under (.builtin "type.__call__" (.ref C::a,b))):=
 (r.hd,by have:=r.dp;rw[iE];lia,by have:=r.un;rw[iD];lia)
def ag.depth(r:ag k A):A.depth<recursionLimit:=by have:=r.dp;lia
def ag.units(r:ag k A):A.units+64<cLine:=by have:=r.un;lia
def ag.units0(r:ag k A):A.units<cLine:=by have:=r.un;lia
abbrev tNil:TA:=λ_ H Q=>Q [] H
abbrev uA(ta:TE)(tr:TA):TA:=λσ H Q=>ta σ H λx H1=>tr σ H1 λxs H2=>Q (x::xs) H2
section
variable{X:Cx}{e:Expr}{es:List Expr}{te:TE}{t:TA}{pos:Pos}
def wL:PA X [] tNil:=λ_ _ _ _ H Q I h=>Calls.spliced_nil ([],H,I,.nil,h)
def GX(n:PE X e te)(m:PA X es t)(l:(starEach (e::es) X.env=(false,eval e X.env,)::starEach es X.env)>>>4):PA X (e::es) (uA te t):=by
 intro pos a s d H Q I h;rw[l];change wpAny _ _ (spliced ((false,eval e X.env,)::backTo pos (starEach es X.env))) _ _ s;refine Calls.spliced_cons (kl (n a s d H _ I h) λu f b=>?_);let⟨x,r,p,i,k⟩:=b;show kl (m pos a f d r _ p k) λv s2 c=>by let⟨xs,q,o,g,j⟩:=c;show(x::xs,q,o,.cons i g,j)
abbrev tI(t:TA):TE:=λσ H Q=>t σ H λxs H1=>xs.length≤sizeLine/\∀p,H1 p=none->Q (.ref p) (upd H1 p (.tup xs))
abbrev tK(t:TA):TE:=λσ H Q=>t σ H λxs H1=>xs.length≤sizeLine/\∀p,H1 p=none->Q (.ref p) (upd H1 p (.lst xs))
def wf{i}(h:PA X es t):PE X (.Tuple es i pos) (tI t):=by
 intro a s g H Q I k;refine wpAny_Tuple_spliced (kl (h pos a s g H _ I k) λj c⟨xs,f,d,r,z,q⟩=>(by rw[<-r.length];show z,3));let l:f c⁻¹=none:=d.hok.fresh (Nat.le_refl _);refine(.ref c⁻¹,upd f c⁻¹ (.tup xs),d.laid (t':=c.toks) (λb u e=>mJ _ e) (Nat.le_refl _) ?_,1,q _ l);show(z,j,r,(_,get?_push_size _ rfl,1,0))
def uT(h:PA X es t):PE X (.List es pos) (tK t):=by
 intro a s g H Q I j;refine wpAny_List_spliced (kl (h pos a s g H _ I j) λi c⟨xs,f,d,r,z,q⟩=>(by rw[<-r.length];show z,3));let k:f c⁻¹=none:=d.hok.fresh (Nat.le_refl _);refine(.ref c⁻¹,upd f c⁻¹ (.lst xs),d.laid (t':=c.toks) (λb u e=>mJ _ e) (Nat.le_refl _) ?_,1,q _ k);show(z,i,(0),r,get?_push_size _ rfl)
end
@[reducible]def Sp:=List V->Hp->VK->XK->Prop
@[reducible]def CXT:=List Env->Hp->Shared->XK->Value->Shared->Prop
structure aD(P:Program)(w:World)(K:Frag)(mg:Str->Option Value)(base:Heap)(A:Around)(outer:List Env)(s:Shared)(H:Hp):Prop where
 frames:A.frames<*outer
 mod:Mod K mg base
 bs:∀b o,base.get? b<*o->s.heap.get? b=some o/\H b=none
 bsz:base.objs.size≤s⁻¹
 funs:s.heap.FunFrames base outer
 frf:∀b∈vf outer,H b=none
 hok:uK P w H s.heap
 bare:AllBare s.gens
inductive CE(outer:List Env)(P:Program)(w:World)(H:Hp)(s:Shared)(Q:VK)(u:Value)(s':Shared):Prop
 |mk (v H':_) (_:s'.os=s.os) (_:AllBare s'.gens) (_:Un (vf outer) [] H H' s.heap s'.heap) (_:uK P w H' s'.heap) (_:ad v u) (_:Q v H')
abbrev CR(CX:CXT)(outer:List Env)(P:Program)(w:World)(H:Hp)(s:Shared)(Q:VK)(E:XK)(r:Result)(s':Shared):Prop:=
 match r with
 |.ok (.ret u)=>CE outer P w H s Q u s'
 |.ok _=>False
 |.error e=>CX outer H s E e s'
structure aa(P:Program)(w:World)(K:Frag)(mg:Str->Option Value)(base:Heap)(CX:CXT)(k:Nat)(f:Addr)(fd:FuncData)(ps:List Str)(sp:Sp):Prop where
 len:∀vs H Q E,sp vs H Q E->vs.length=ps.length
 run:∀(A:Around)(outer:List Env)(s:Shared)(H:Hp)(args:Args)(us:List Value)(vs:List V)(Q:VK)(E:XK),ag k A->aD P w K mg base A outer s H->BindsTo s fd args (ps.zip us)->ae vs us->sp vs H Q E->
  codeAny (model P w) A (.call (.ref f) args) (CR CX outer P w H s Q E) s
def aa.mono{P:Program}{w:World}{K:Frag}(F:aa P w K mg base i j f g ps d)(h:j≤k):aa P w K mg base i k f g ps d:=(F.len,λA a s H b c vs Q E e=>F.run A a s H b c vs Q E (e.mono h))
def aD.make{K:Frag}(e:aD P w K mg base A a s H)(C:Addr)(b:List Value)(c:List (Str×Value)):aD P w K mg base (A.under (.builtin "type.__call__" (.ref C::b,c))) a s H:=(by first|show e.frames|(simpa[Around.under,Code.envs,Code.isFrame,pushEnvs]using e.frames),e.mod,e.bs,e.bsz,e.funs,e.frf,e.hok,e.bare)
def aD.in1{K:Frag}(e:aD P w K mg base A a s H):aD P w K mg base A.in1 a s H:=(e.frames,e.mod,e.bs,e.bsz,e.funs,e.frf,e.hok,e.bare)
section
variable{X:Cx}{pins:List (Addr×Obj)}{σ:St}{H:Hp}{s s':Shared}
def hA.env0(I:hA X pins σ H s):aD X.prog X.w X.K X.mg X.base X.A X.stack s H:=
 (I.ok.frames,I.ok.mod,I.bs,Nat.le_trans I.ok.bsz I.sz,I.stack,I.stkFree,I.hok,I.bare)
def hA.after(I:hA X pins σ H s)(h:CE X.stack X.prog X.w H s Q u s'):EP X pins σ Q u s':=by
 let⟨v,H',os,a,f,e,r,q⟩:=h;let⟨i,g,d,t,c⟩:=s';obtain rfl:c=s.os:=os;show(v,H',I.call (h':=i) (g':=g) (d':=d) (t':=t) (ch:=[]) f e a (λb z=>absurd z (!1)),r,q)
end
abbrev vY(sp:Sp)(dvs:List V)(E:XK)(t:TA):TE:=λσ H Q=>t σ H λvs H1=>sp (vs++dvs) H1 Q E
abbrev rQ(C:Addr)(sp:Sp)(dvs:List V)(E:XK)(t:TA):TE:=λσ H Q=>t σ H λvs H1=>∀x dx,H1 x=none->H1 dx=none->dx≠x->
 sp (.ref x::(vs++dvs)) (upd (upd H1 dx (.own x)) x (.ins C dx [])) (λv H2=>v=.non/\Q (.ref x) H2) E
abbrev vC(K:Frag)(fd:FuncData)(ps:List Str)(ds:List Value):Prop:=
 ∀(s:Shared)(us:List Value),K.In s.heap->(us++ds).length=ps.length->BindsTo s fd (us,[]) (ps.zip (us++ds))
def vC.all{K:Frag}(h:∀a:List Value,a.length=ps.length->bindArgs c (a,[])=pure (ps.zip a)):vC K c ps []:=λs a _ b=>by
 rw[append_nil]at b⊢;show .of_eq (h a b)
abbrev bN(CX:CXT)(X:Cx)(E:XK):Prop:=∀(pins:List (Addr×Obj))(σ:St)(H:Hp)(s:Shared)(e:Value)(s':Shared),hA X pins σ H s->CX X.stack H s E e s'->X.xe e s'
section
variable{X:Cx}{CX:CXT}{k:Nat}{f C:Addr}{fd:FuncData}{ps:List Str}{sp:Sp}{dvs:List V}{ds:List Value}{E:XK}{x m:Str}{p pos apos:Pos}{e o:Expr}{es:List Expr}{ta:TE}{t:TA}
def dF{d:St}(F:aa X.prog X.w X.K X.mg X.base CX k f fd ps sp)(j:ag k X.A)(q:vC X.K fd ps ds)(n:ae dvs ds)(i:bN CX X E)(I:hA X a d H s)(r:ae vs b)(h:sp (vs++dvs) H Q E):wpAny (model X.prog X.w) X.A (call (.ref f) b) (EP X a d Q) X.xe s:=by
 let g:ae (vs++dvs) (b++ds):=r.append n;let l:(b++ds).length=ps.length:=by rw[<-g.length];show F.len _ _ _ _ h
 refine wpAny_call (codeAny_mono (F.run X.A X.stack s H (b,[]) (b++ds) (vs++dvs) Q E j I.env0 (q s b I.kIn l) g h) λr s' c=>?_);cases r with
 |error e=>show i a d H s e s' I c
 |ok v=>
  cases v with
  |ret u=>show I.after c
  |next=>show False.elim c
  |brk=>show False.elim c
  |cont=>show False.elim c
def jr(F:aa X.prog X.w X.K X.mg X.base CX k f fd ps sp)(j:ag k X.A)(u:Gl X x)(l:X.mg x<*.ref f)(n:keepIn X.K (.ref f)=true)(z:vC X.K fd ps ds)(y:ae dvs ds)(i:bN CX X E)(B:PA X (e::es) t)(c:((x==("__debug__":Str))=false)>>>0)(v:(starEach (e::es) X.env=(false,eval e X.env,)::starEach es X.env)>>>4)(b:((backTo pos (starEach es X.env)).any (·.1)=false)>>>4):PE X (.Call (.Name x p) (e::es) [] pos) (vY sp dvs E t):=by
 intro a s g H Q I h;refine wpAny_Call_Name_kw (vE I u l ?_ c);refine callWith_K (h₀:=X.base) I.ok.mod.kin n (kl (B pos a s g H _ I h) λD G⟨vs,L,d,r,q⟩=>(d.kIn,3)) v b;show dF F j z y i d r q
structure Mk(K:Frag)(C f:Addr):Prop where
 makes:PySem.W.makesIn K C=true
 init:findIn K (.ref C) "__init__"<*some (.ref f)
 fn:PySem.W.isFn K (.ref f)=true
 kp:keepIn K (.ref C)=true
def my{g:St}(M:Mk X.K C f)(F:aa X.prog X.w X.K X.mg X.base CX k f fd ps sp)(y:ag (k+1) X.A)(D:vC X.K fd ps ds)(B:ae dvs ds)(q:bN CX X E)(I:hA X c g H s)(r:ae vs b)(h:∀x dx,H x=none->H dx=none->dx≠x->sp (.ref x::(vs++dvs)) (upd (upd H dx (.own x)) x (.ins C dx [])) (λv O=>v=.non/\Q (.ref x) O) E):wpAny (model X.prog X.w) X.A (call (.ref C) b) (EP X c g Q) X.xe s:=by
 let j:=h (s⁻¹+1) s⁻¹ (I.hok.fresh (le_succ _)) (I.hok.fresh (Nat.le_refl _)) (ne_of_lt (lt_succ_self _));let d:=hA.made (C:=C) I;let i:ae (V.ref (s⁻¹+1)::(vs++dvs)) (Value.ref (s⁻¹+1)::(b++ds)):=.cons rfl (r.append B);let z:(Value.ref (s⁻¹+1)::b++ds).length=ps.length:=by
  let e:=i.length;rw[F.len _ _ _ _ j]at e;show e.symm
 refine wpAny_call (ni (f:=f) I.kIn M.makes M.init (beq_iff_eq.mp M.fn) (codeAny_mono (F.run _ X.stack _ _ (Value.ref (s⁻¹+1)::b,[]) (Value.ref (s⁻¹+1)::(b++ds)) _ _ E (y.make C b [])
  (d.env0.make C b []) (D _ (Value.ref (s⁻¹+1)::b) d.kIn z) i j) λr s' a=>?_))
 cases r with
 |error e=>show q c g _ _ e s' d a
 |ok G=>
  cases G with
  |ret u=>
   let⟨v,H',N,l,L,n⟩:=d.after a;subst L;show(l,(V.ref (s⁻¹+1),H',N,1,n))
  |next=>show False.elim a
  |brk=>show False.elim a
  |cont=>show False.elim a
def pc(M:Mk X.K C f)(F:aa X.prog X.w X.K X.mg X.base CX k f fd ps sp)(j:ag (k+1) X.A)(n:Gl X x)(l:X.mg x<*.ref C)(y:vC X.K fd ps ds)(v:ae dvs ds)(i:bN CX X E)(z:PA X (e::es) t)(c:((x==("__debug__":Str))=false)>>>0)(u:(starEach (e::es) X.env=(false,eval e X.env,)::starEach es X.env)>>>4)(b:((backTo pos (starEach es X.env)).any (·.1)=false)>>>4):PE X (.Call (.Name x p) (e::es) [] pos) (rQ C sp dvs E t):=by
 intro a s g H Q I h;refine wpAny_Call_Name_kw (vE I n l ?_ c);refine callWith_K (h₀:=X.base) I.ok.mod.kin M.kp (kl (z pos a s g H _ I h) λB D⟨vs,G,d,r,q⟩=>(d.kIn,3)) u b;show my M F j y v i d r q
end
abbrev PK(X:Cx)(kws:List Keyword)(t:TA):Prop:=
 ∀(pos:Pos)(pins:List (Addr×Obj))(s:Shared)(σ:St)(H:Hp)(Q:List V->Hp->Prop),hA X pins σ H s->t σ H Q->wpAny (model X.prog X.w) X.A (evalAll ((backToKw pos (keywordEach kws X.env)).map (·.2))) (AP X pins σ Q) X.xe s
section
variable{X:Cx}{CX:CXT}{k:Nat}{f C:Addr}{fd:FuncData}{ps ks:List Str}{sp:Sp}{E:XK}{x m:Str}{p pos apos kpos:Pos}{e o:Expr}{es:List Expr}{kws:List Keyword}{te ta:TE}{t tk:TA}{nm:Option Str}
def qD:PK X [] tNil:=λ_ _ _ _ H Q I h=>wpAny_evalAll_nil ([],H,I,.nil,h)
def o6(q:PE X e te)(n:PK X kws t):PK X ((nm,e,kpos)::kws) (uA te t):=by
 intro pos a s c H Q I h;change wpAny _ _ (evalAll ((do let v <-eval e X.env;standAt pos;pure v)::(backToKw pos (keywordEach kws X.env)).map (·.2))) _ _ s;refine wpAny_evalAll_cons (g_ (kl (q a s c H _ I h) λu d⟨x,z,w,i,l⟩=>g_ (wpAny_standAt (j3 ?_))));show kl (n pos a d c z _ w l) λA s2 b=>by let⟨xs,y,r,g,j⟩:=b;show(x::xs,y,r,.cons i g,j)
variable{g:List Value->List Value->List Value}{gV:List V->List V->List V}
end
structure oj(N P:List Str)(sc:Scope):Prop where
 kind:sc.kind=.function
 co:sc.isCoroutine=false
 gen:sc.isGenerator=false
 nd:N.Nodup
 pre:N.take P.length=P
 par:∀x∈P,sc.names.lookup x<*.local\/sc.names.lookup x<*.cell
 nofree:∀y∈sc.names,y.2≠.free
def db{kindOf:Str->Option NameKind}{x:Str}:∀{a:List (Str×Value)}{m:Str->Option Value},(∀v,(x,v,)∉a)->bindL kindOf a m x=m x
 |[],_,_=>rfl
 |(n,v)::r,m,h=>by
  unfold bindL;rw[db λw hw=>h w (mem_cons_of_mem _ hw)];split
  .have:x≠n:=by rintro rfl;show h v mem_cons_self
   simp[this]
  .rfl
def wp{kindOf:Str->Option NameKind}{x:Str}:∀{a:List (Str×Value)}{m:Str->Option Value},(∀v,(x,v,)∉a)->bindC kindOf a m x=m x
 |[],_,_=>rfl
 |(n,v)::r,m,h=>by
  unfold bindC;rw[wp λw hw=>h w (mem_cons_of_mem _ hw)];split
  .rfl
  .have:x≠n:=by rintro rfl;show h v mem_cons_self
   simp[this]
def wq{kindOf:Str->Option NameKind}{x:Str}{v:Value}:∀{P:List Str}{vs:List Value}{i:Nat}{m:Str->Option Value},P.Nodup->P[i]?<*x->vs[i]?<*v->kindOf x<*.local->
  bindL kindOf (P.zip vs) m x<*v
 |[],_,_,_,_,h,_,_=>by simp at h
 |_::_,[],_,_,_,_,h,_=>by simp at h
 |p::P,w::vs,0,m,c,b,a,d=>by
  simp at b a;subst b;subst a;change bindL kindOf ((p,w,)::P.zip vs) m p=_;unfold bindL;rw[db λv e=>(nodup_cons.mp c).1 (of_mem_zip e).1,if_pos d];simp
 |p::P,w::vs,i+1,m,c,b,a,d=>by
  change bindL kindOf ((p,w,)::P.zip vs) m x=_;unfold bindL;show wq (i:=i) (nodup_cons.mp c).2 (by simpa using b) (by simpa using a) d
def de{kindOf:Str->Option NameKind}{x:Str}{v:Value}:∀{P:List Str}{vs:List Value}{i:Nat}{m:Str->Option Value},P.Nodup->P[i]?<*x->vs[i]?<*v->kindOf x≠some .local->
  bindC kindOf (P.zip vs) m x<*v
 |[],_,_,_,_,h,_,_=>by simp at h
 |_::_,[],_,_,_,_,h,_=>by simp at h
 |p::P,w::vs,0,m,c,b,a,d=>by
  simp at b a;subst b;subst a;change bindC kindOf ((p,w,)::P.zip vs) m p=_;unfold bindC;rw[wp λv e=>(nodup_cons.mp c).1 (of_mem_zip e).1,if_neg d];simp
 |p::P,w::vs,i+1,m,c,b,a,d=>by
  change bindC kindOf ((p,w,)::P.zip vs) m x=_;unfold bindC;show de (i:=i) (nodup_cons.mp c).2 (by simpa using b) (by simpa using a) d
abbrev start(N:List Str)(vs:List V):St:=vs.map some++replicate (N.length-vs.length) none
abbrev eM(CX:CXT)(P:Program)(w:World)(K:Frag)(mg:Str->Option Value)(base:Heap)(N:List Str)(qual:Str)(scope:Scope)(f:Addr)(cd:Value)(A:Around)(outer:List Env)(s:Shared)(H:Hp)(E:XK):Cx where
 prog:=P
 w:=w
 K:=K
 mg:=mg
 base:=base
 A:=A.deeper (envOfC qual scope s⁻¹ f cd)
 N:=N
 s₀:=s
 H₀:=H
 env:=envOfC qual scope s⁻¹ f cd
 outer:=outer
 stack:=envOfC qual scope s⁻¹ f cd::outer
 ex:=[]
 calm:=true
 fn:=λ_=>true
 pn:=[]
 xe:=λe s'=>wpAny (model P w) (A.deeper (envOfC qual scope s⁻¹ f cd)) (leaving (envOfC qual scope s⁻¹ f cd) e) (λ_ s''=>CX outer H s E e s'') (λe' s''=>CX outer H s E e' s'') s'
def FB{sc:Scope}(h:sc.names.lookup x<*.cell):∃c,(cellsFrom n sc.names []).lookup x<*c:=by
 let q:=PySem.W.cellsFrom_some sc.names n [] (.inl h);show Option.isSome_iff_exists.mp q
def kT{M:CXT}{P:Program}{w:World}{K:Frag}{mg:Str->Option Value}{base:Heap}{N ps:List Str}{qual:Str}{d:Scope}{f:Addr}{D:Value}{A:Around}{g:List Env}{s G:Shared}{H:Hp}{E:XK}{F:List Value}{vs:List V}(S:oj N ps d)(R:A.handled=none)(l:aD P w K mg base A g s H)(W:vs.length=ps.length)(r:ae vs F)(x:InCallC s s⁻¹ (bindL (envOfC qual d s⁻¹ f D).kindOf (ps.zip F) λ_=>none) (cellsFrom (s⁻¹+1) d.names []) (bindC (envOfC qual d s⁻¹ f D).kindOf (ps.zip F) λ_=>none) G):hA (eM M P w K mg base N qual d f D A g s H E) [] (start N vs) H G:=by
 let Q:ps.length≤N.length:=by have:=congrArg List.length S.pre;rw[length_take]at this;lia
 let⟨C,U,rfl,L⟩:=x.done;let m:∀b:Addr,b∉(eM M P w K mg base N qual d f D A g s H E).ex:=λb z=>absurd (show b∈([]:List Addr)from z) (!1);refine((l.mod,S.kind,6,Nat.le_refl _,λy z c C j=>?_,λy o=>?_,λy c _ h=>?_,λ_=>R,Around.frames_deeper l.frames,.inr (1,1),λb z=>absurd z (m b),l.bs,l.bsz,λb _ _=>m b,λb z=>absurd z (m b),l.funs,l.frf),
  rfl,l.bare,Un.kept L,(_,x.toInCall.ns,λi y v C j X=>?_),λy c h=>(_,x.cell y c h),l.hok.fresh (Nat.le_refl _),λy c h=>?_,λp hp=>absurd (show p∈([]:List (Addr×Obj))from hp) (!1),l.hok.kept L,3)
 .exact name_of_addr x.apart (PySem.mem_of_lookup C) (PySem.mem_of_lookup j)
 .let o:d.names.lookup y<*.cell\/d.names.lookup y<*.free:=o;rcases o with o|o
  .exact FB o
  .exact absurd rfl (S.nofree _ (PySem.mem_of_lookup o))
 .exact Nat.le_of_lt (x.above y c (PySem.mem_of_lookup h))
 .let B:i<vs.length:=by
   unfold start at j;by_cases B:i<vs.length
   .exact B
   .rw [getElem?_append_right (by simpa using B)]at j;rw[List.getElem?_replicate]at j;split at j<;>cases j
  let T:vs[i]?<*v:=by
   unfold start at j;rw[getElem?_append_left (by simpa using B),lv]at j;cases e:vs[i]? with
   |none=>rw[e]at j;cases j
   |some a=>rw[e]at j;cases j;rfl
  let⟨u,I,O⟩:=r.get T;let hp:ps[i]?<*y:=by
   rw[<-S.pre,List.getElem?_take_of_lt (!6)];show C
  let t:ps.Nodup:=by rw[<-S.pre];show S.nd.sublist (List.take_sublist _ _)
  refine(u,O,3);rcases S.par y (pa hp)with k|k
  .exact .inl (k,wq t hp I k)
  .obtain ⟨c,e⟩:=FB (n:=s⁻¹+1) k;refine .inr (.inl k,c,e,3);let q:=x.cell y c e;rw[de t hp I (by change d.names.lookup y≠_;rw[k];decide)]at q;show q
 .exact l.hok.fresh (Nat.le_of_lt (x.above y c (PySem.mem_of_lookup h)))
 .unfold start;change _=N.length;rw[j_,ix,length_replicate];lia
def oh{B:CXT}{P:Program}{w:World}{K:Frag}{mg:Str->Option Value}{base:Heap}{k:Nat}{f:Addr}{name qual:Str}{d:Arguments}{g:List Stmt}{a:Scope}{T kV doc pm cdv ct oc:Value}{an Z:Option Addr}{F:Array (Option Value)}{N ps:List Str}{C:Sp}(lk:K.lookup f<*(oc,Z,.func (fnOf name qual d g a T kV doc pm an cdv ct),F))(M:codeIn K cdv qual=true)(S:oj N ps a)(len:∀vs H Q E,C vs H Q E->vs.length=ps.length)(j:∀(A:Around)(c:List Env)(s:Shared)(H:Hp)(vs:List V)(Q:VK)(E:XK),ag k (A.deeper (envOfC qual a s⁻¹ f cdv))->C vs H Q E->
   ∃t,wo (eM B P w K mg base N qual a f cdv A c s H E) g t/\t {nx:=λ_ H'=>Q .non H',rt:=Q} (start N vs) H):aa P w K mg base B (k+1) f (fnOf name qual d g a T kV doc pm an cdv ct) ps C:=by
 refine(len,λA c s H U Y vs Q E L z hb r m=>?_);let hl:=len _ _ _ _ m;let X:K.In s.heap:=z.mod.kin.keeps λb o e=>(z.bs b o e).1;let G:s.heap.NoLimit:=z.mod.nolimit.keeps λb o e=>(z.bs b o e).1;let i:∀y∈ps.zip Y,a.names.lookup y.1<*.local\/(a.names.lookup y.1=some .cell/\((cellsFrom (s⁻¹+1) a.names []).lookup y.1).isSome=true):=λO hy=>by
  let⟨n,v⟩:=O;rcases S.par n (of_mem_zip hy).1 with q|q
  .exact .inl q
  .exact .inr (q,PySem.W.cellsFrom_some _ _ _ (.inl q))
 refine codeAny_call_function L.depth (X _ _ lk) rfl S.co S.gen rfl (PySem.W.codeRec_of X M) (hb _ _ _ _ ?_);refine wpAny_newFunctionEnv_cells S.kind i λenv he R x=>?_;subst he;refine(G.keeps x.toInCall.keep,codeAny_func ?_);let⟨t,ht,hq⟩:=j A c s H vs Q E (L.deeper _) m;let I:hA (eM B P w K mg base N qual a f cdv A c s H E) [] (start N vs) H R:=kT S L.hd z hl r x;refine wpAny_mono (ht [] R (start N vs) H _ I hq) (λfl s' l=>?_) λe s' l=>l;let p:∀{h:St}{H':Hp}{v:V}{u:Value},hA (eM B P w K mg base N qual a f cdv A c s H E) [] h H' s'->ad v u->Q v H'->CE c P w H s Q u s':=
  λ{h H' v u}J D q=>(v,H',J.os,J.bare,J.base,J.hok,D,q)
 cases fl with
 |ret u=>
  let⟨v,h,H',J,D,q⟩:=l;show p J D q
 |next=>
  let⟨h,H',J,q⟩:=l;show p (v:=V.non) (u:=Value.none) J rfl q
 |brk=>
  let⟨_,_,_,q⟩:=l;show False.elim q
 |cont=>
  let⟨_,_,_,q⟩:=l;show False.elim q
section
variable{X:Cx}{x:Str}{p pos:Pos}{e:Expr}{es:List Expr}{t:TA}{id T:String}{r:List V->Hp->VK->Prop}
abbrev vn(r:List V->Hp->VK->Prop)(t:TA):TE:=λσ H Q=>t σ H λvs H1=>r vs H1 Q
def Gr(u:Hg X (.builtin id) r)(o:Gl X x)(n:X.mg x=none)(l:bootBuiltins x<*.builtin id)(v:PA X (e::es) t)(m:(x≠"__name__")>>>0)(c:((x==("__debug__":Str))=false)>>>0)(q:(starEach (e::es) X.env=(false,eval e X.env,)::starEach es X.env)>>>4)(b:((backTo pos (starEach es X.env)).any (·.1)=false)>>>4):PE X (.Call (.Name x p) (e::es) [] pos) (vn r t):=by
 intro a s f H Q I h;refine wpAny_Call_Name_kw (pj I o n l ?_ m c);show PyProof.Rows.callWith_builtin1 (kl (v pos a s f H _ I h) λg i d=>by let⟨vs,y,w,j,k⟩:=d;show u a i f y vs g Q w j k) q b
def vK(u:Hg X (.type T) r)(o:Gl X x)(n:X.mg x=none)(l:bootBuiltins x<*.type T)(v:PA X (e::es) t)(m:(x≠"__name__")>>>0)(c:((x==("__debug__":Str))=false)>>>0)(q:(starEach (e::es) X.env=(false,eval e X.env,)::starEach es X.env)>>>4)(b:((backTo pos (starEach es X.env)).any (·.1)=false)>>>4):PE X (.Call (.Name x p) (e::es) [] pos) (vn r t):=by
 intro a s f H Q I h;refine wpAny_Call_Name_kw (pj I o n l ?_ m c);show PyProof.Rows.callWith_type1 (kl (v pos a s f H _ I h) λg i d=>by let⟨vs,y,w,j,k⟩:=d;show u a i f y vs g Q w j k) q b
end
end L2
namespace HT
open PyProof.Rows
section
open PySem.SeqAt
open PySem.AutoSeq1 (wpAny_loadPart')
open PySem.MeetsSeq PySem.MeetsSeq2 PySem.MeetsSeq3
end
section
variable{prog:Program}{w:World}{A:Around}{E:Value->Shared->Prop}{s:Shared}
def Ip(r:IsTup s.heap t vs.toArray)(u:IsTup s.heap b ws.toArray)(k:vs≠[])(x:ws=[]->Q (.ref t) s)(v:ws≠[]->Q (.ref s⁻¹) {s with heap:=s.heap.push {cls:=.type "tuple",data:=.seq (vs++ws).toArray} })(hsz:vs.length+ws.length≤sizeLine):wpAny (model prog w) A (binaryOp .Add (.ref t) (.ref b)) Q E s:=by
 let⟨⟨cls,o,p,i⟩,h,m,n,l⟩:=id r;let⟨⟨q,g,data2,c⟩,a,f,j,d⟩:=id u;simp only at m l f d;subst m l f d;let e:vs.toArray++ws.toArray=(vs++ws).toArray:=by simp
 by_cases hw:ws=[]
 .exact concat_meets (_,h,1) (_,a,1) noFill_tuple_add seq_tuple_add PySem.F.slot_tuple_add PySem.F.entry_tuple_add (PySem.F.args_tuple_add_2 _ _)
   (tuple_addW1 t b vs.toArray ws.toArray n j o g i c (by simpa using k) (by simp[hw])) (h,a,x hw)
 .refine concat_meets (_,h,1) (_,a,1) noFill_tuple_add seq_tuple_add PySem.F.slot_tuple_add PySem.F.entry_tuple_add (PySem.F.args_tuple_add_2 _ _)
   (tuple_addW2 t b vs.toArray ws.toArray n j o g i c (by simpa using k) (by simpa using hw) (by rw[size_toArray,size_toArray];show hsz)) (h,a,3)
  rw[e];show v hw
abbrev sIx(n d:Nat):Option Int->Nat
 |none=>d
 |some v=>if v<0 then(v+(n:Int)).toNat else min v.toNat n
def FC(n d:Nat):sIx n d none=d:=rfl
def sIx_nat(n d k:Nat):sIx n d (some (k:Int))=min k n:=by
 show(if (k:Int)<0 then((k:Int)+(n:Int)).toNat else min (k:Int).toNat n)=min k n;rw[if_neg (!6),toNat_natCast]
def qB(n d:Nat)(b:d≤n)(o:Option Int):sIx n d o≤n:=by
 cases o with
 |none=>show b
 |some v=>
  show(if v<0 then(v+(n:Int)).toNat else min v.toNat n)≤n;by_cases a:v<0
  .rw [if_pos a];lia
  .rw [if_neg a];show Nat.min_le_right _ _
def jP(v:Int)(n d:Nat):(if v<0 then max (v+(n:Int)) 0 else min v (n:Int))=((sIx n d (some v):Nat):Int):=by
 show(if v<0 then max (v+(n:Int)) 0 else min v (n:Int))=(((if v<0 then(v+(n:Int)).toNat else min v.toNat n):Nat):Int);by_cases a:v<0
 .simp only[if_pos a];lia
 .simp only[if_neg a];lia
def iY(lo a:Option Int)(n:Nat):Builtin.Slice.sliceAdjust lo a 1 (n:Int)=(((sIx n 0 lo:Nat):Int),((sIx n n a:Nat):Int),):=by
 let b:¬ ((1:Int)<0):=by lia
 unfold Builtin.Slice.sliceAdjust;simp only[b,if_false];refine Prod.ext ?_ ?_
 .cases lo with
  |none=>rfl
  |some v=>show jP v n 0
 .cases a with
  |none=>rfl
  |some v=>show jP v n n
def io(i j:Nat):Builtin.Slice.slicePlaces (i:Int) (j:Int) 1=j-i:=by
 unfold Builtin.Slice.slicePlaces;let a:(1:Int)>0:=by lia
 simp only[a,if_true,Int.ediv_one];split<;>lia
def M'(p:IsPart v o)(h:Q o s):wpAny (model prog w) A (Builtin.Slice.slicePartIndex v) Q E s:=by
 cases p with
 |none=>show slicePart_none h
 |int i t=>show slicePart_int h
def NO{lo b:Option Int}{n:Nat}(g:s.heap.IsSliceOf e d vu .none)(pl:IsPart d lo)(f:IsPart vu b)(h:Q (((sIx n 0 lo:Nat):Int),1,sIx n n b-sIx n 0 lo,) s):wpAny (model prog w) A (Builtin.Slice.sliceApplied (.ref e) (pure (n:Int))) Q E s:=by
 let⟨os,a,i,c⟩:=id g;unfold Builtin.Slice.sliceApplied Builtin.Slice.sliceFields;refine g_ (g_ (wpAny_field a c (x:=d) rfl (g_ (wpAny_field a c (x:=vu) rfl (g_ (wpAny_field a c (x:=.none) rfl (j3 ?_)))))));refine g_ (slicePart_none ?_);change wpAny _ _ (if ((1:Int)==0)=true then _ else _) _ _ s;rw[if_neg (!0)];refine g_ (M' pl (g_ (M' f (g_ (j3 ?_)))));change wpAny _ _ (match Builtin.Slice.sliceAdjust lo b 1 (n:Int)with|(lo,b)=>pure (lo,(1:Int),Builtin.Slice.slicePlaces lo b 1,)) _ _ s;rw[iY lo b n];change wpAny _ _ (pure (((sIx n 0 lo:Nat):Int),(1:Int),Builtin.Slice.slicePlaces ((sIx n 0 lo:Nat):Int) ((sIx n n b:Nat):Int) 1,)) _ _ s;rw[io];show j3 h
def mE(xs:Array Value)(i k:Nat):((List.range k).filterMap λ(m:Nat)=>xs[((i:Int)+(m:Int)*1).toNat]?).toArray=((xs.toList.drop i).take k).toArray:=by
 let e:(λ(m:Nat)=>xs[((i:Int)+(m:Int)*1).toNat]?)=λm=>xs[i+m]?:=by
  funext m;have:((i:Int)+(m:Int)*1).toNat=i+m:=by lia
  rw[this]
 rw[e];have:=pick_run xs i k;rw[List.filterMap_map]at this;let a:((λx=>xs[x]?)∘λx=>i+x)=λm=>xs[i+m]?:=rfl;rw[a]at this;rw[this]
def u0{lo c:Option Int}(d:IsTup s.heap t a)(k:s.heap.IsSliceOf j l vu .none)(pl:IsPart l lo)(n:IsPart vu c)(hw:¬ (sIx a.size 0 lo=0/\sIx a.size a.size c=a.size))(h:Q (.ref s⁻¹) {s with heap:=s.heap.push {cls:=.type "tuple",data:=.seq ((a.toList.drop (sIx a.size 0 lo)).take (sIx a.size a.size c-sIx a.size 0 lo)).toArray} })(hsz:a.size≤sizeLine):wpAny (model prog w) A (getItem (.ref t) (.ref j)) Q E s:=by
 let b:sizeOk (.seq ((a.toList.drop (sIx a.size 0 lo)).take (sIx a.size a.size c-sIx a.size 0 lo)).toArray):=by
  show((a.toList.drop (sIx a.size 0 lo)).take (sIx a.size a.size c-sIx a.size 0 lo)).toArray.size≤sizeLine;rw[size_toArray,length_take,length_drop,length_toList];omega
 let u:sIx a.size a.size c≤a.size:=qB _ _ (Nat.le_refl _) c;let⟨os,e,g,o⟩:=id k;let i:s.TypeIs (.ref j) "slice":=(os,e,g);unfold getItem;try with_reducible refine wpAny_holding ?_
 first|refine g_ (j3 ?_)|skip
 refine g_ (wpAny_sequenceKey d.typeIs (!0) ?_);refine g_ (wpAny_callSpecial?_slot (name:=Str.ofString "__getitem__") d.typeIs PyProof.Rows.slot_tuple_getitem
  (wpAny_call_entry PyProof.Rows.slot_tuple_getitem d.typeIs entry_tuple_getitem ?_ (args_tuple_getitem _ _)))
 change wpAny _ _ (Builtin.Tuple.tupleItemsOf (.ref t)>>=_) _ _ s;refine g_ (tupleItemsOf_ d ?_);refine g_ (wpAny_typeOf i ?_);rw[if_pos (!0)];refine g_ (NO k pl n ?_);let f:¬ ((((sIx a.size 0 lo:Nat):Int)==0&&(1:Int)==1&&(sIx a.size a.size c-sIx a.size 0 lo)==a.size)=true):=by
  intro q;rw[and_eq_true,and_eq_true]at q;let r:((sIx a.size 0 lo:Nat):Int)=0:=eq_of_beq q.1.1;let p:sIx a.size a.size c-sIx a.size 0 lo=a.size:=eq_of_beq q.2;show hw (!6,!6)
 change wpAny _ _ (if (((sIx a.size 0 lo:Nat):Int)==0&&(1:Int)==1&&(sIx a.size a.size c-sIx a.size 0 lo)==a.size)=true then _ else _) _ _ s;rw[if_neg f,mE];first
  |show g_ (m:=Builtin.Tuple.tupleExact _) (wpAny_newObj_type (j3 (0,j3 h)) b)
  |show g_ (m:=Builtin.Tuple.tupleExact _) (wpAny_newObj_type (g_ (j3 (j3 (0,j3 h)))) b)
  |show g_ (g_ (m:=Builtin.Tuple.tupleExact _) (wpAny_newObj_type (j3 (j3 (0,j3 h))) b))
  |show g_ (g_ (m:=Builtin.Tuple.tupleExact _) (wpAny_newObj_type (j3 (0,j3 h)) b))
end
end HT
namespace L2
open PySem.Spec PyProof.Rows
@[reducible]def TO:=St->Hp->(Option Int->Hp->Prop)->Prop
abbrev PO(X:Cx)(e:Option Expr)(t:TO):Prop:=
 ∀(pins:List (Addr×Obj))(s:Shared)(σ:St)(H:Hp)(Q:Option Int->Hp->Prop),hA X pins σ H s->t σ H Q->
  wpAny (model X.prog X.w) X.A (evalPart e X.env) (λu s'=>∃o H',hA X pins σ H' s'/\IsPart u o/\Q o H') X.xe s
abbrev tNoPart:TO:=λ_ H Q=>Q none H
inductive qr(Q:Option Int->Hp->Prop)(x:V)(H1:Hp):Prop
 |mk (i:_) (_:x=.int i) (_:Q (some i) H1)
abbrev rN(t:TE):TO:=λσ H Q=>t σ H (qr Q)
section
variable{X:Cx}{e:Expr}{te:TE}{lo hi:Option Expr}{tl th:TO}{pos p2:Pos}
def Iq:PO X none tNoPart:=by
 intro a s b H Q I h;rw[evalPart_none];show j3 (none,H,I,.none,h)
def Hj(h:PE X e te):PO X (some e) (rN te):=by
 intro a s c H Q I hw;rw[evalPart_some];refine kl (h a s c H _ I hw) λu k b=>?_;let⟨x,j,g,d,f⟩:=b;let⟨i,rfl,q⟩:=f;let⟨t,rfl⟩:=d;show(some i,j,g,.int i t,q)
abbrev KI(X:Cx)(r:V->Option Int->Option Int->Hp->VK->Prop):Prop:=
 ∀(pins:List (Addr×Obj))(s:Shared)(σ:St)(H:Hp)(x:V)(v vl vu:Value)(lo hi:Option Int)(sl:Addr)(Q:VK),hA X pins σ H s->ad x v->s.heap.IsSliceOf sl vl vu .none->IsPart vl lo->IsPart vu hi->r x lo hi H Q->
  ∃T id,typeLookup (.type T) "__getitem__"=pure (some (.builtin id))/\s.TypeIs v T/\wpAny (model X.prog X.w) X.A (getItem v (.ref sl)) (EP X pins σ Q) X.xe s
abbrev NP(r:V->Option Int->Option Int->Hp->VK->Prop)(te:TE)(tl th:TO):TE:=λσ H Q=>te σ H λx H1=>tl σ H1 λl H2=>th σ H2 λu H3=>r x l u H3 Q
def HY(B:KI X r)(E:PE X e te)(C:PO X lo tl)(y:PO X hi th):PE X (.Subscript e (.Slice lo hi none p2) pos) (NP r te tl th):=by
 intro a s d H Q I h;refine Subscript_ (kl (E a s d H _ I h) λv k i=>?_);let⟨x,P,N,m,p⟩:=i;refine wpAny_Slice (kl (C a k d P _ N p) λf s2⟨l,O,M,pl,o⟩=>kl (y a s2 d O _ M o) λvu c g=>?_);let⟨u,j,L,t,n⟩:=g;rw[evalPart_none];refine j3 ?_;let G:hA X a d j {c with heap:=c.heap.push {cls:=.type "slice",data:=.fields #[f,vu,.none]} }:=L.kept (t':=c.toks) λb R q=>mJ _ q;let⟨T,id,F,z,D⟩:=B a {c with heap:=c.heap.push {cls:=.type "slice",data:=.fields #[f,vu,.none]} } d j x v f vu l u c⁻¹ Q G m (Heap.IsSliceOf.new ..) pl t n;change wpAny (model X.prog X.w) X.A (subscriptTail e (.Slice lo hi none p2) v (.ref c⁻¹)) (EP X a d Q) X.xe {c with heap:=c.heap.push {cls:=.type "slice",data:=.fields #[f,vu,.none]} };show tail_any (ops:=[.ref c⁻¹,v]) z F D (by with_unfolding_all rfl)
abbrev vo(xs:List V)(lo hi:Option Int):List V:=(xs.drop (HT.sIx xs.length 0 lo)).take (HT.sIx xs.length xs.length hi-HT.sIx xs.length 0 lo)
def Na(xs:List V)(lo hi:Option Int):(vo xs lo hi).length≤xs.length:=by
 unfold vo;rw[length_take,length_drop];lia
inductive tU(K:Frag)(x:V)(lo:Option Int)(hi:Option Int)(H:Hp)(Q:VK):Prop
 |mk (a xs:_) (_:x=.ref a) (_:nj K H a xs) (_:¬ (HT.sIx xs.length 0 lo=0/\HT.sIx xs.length xs.length hi=xs.length)) (_:∀p,H p=none->Q (.ref p) (upd H p (.tup (vo xs lo hi))))
def mq:KI X (tU X.K):=by
 intro f s m H x v n vu lo hi p Q I i l pl j h;let⟨a,xs,rfl,k,hw,q⟩:=h;cases i;let⟨d,r,g,hz⟩:=I.tuple k;let c:d.toArray.size=xs.length:=by rw[size_toArray];show r.length.symm
 refine("tuple",_,PyProof.Rows.slot_tuple_getitem.lookup,g.typeIs,3);refine HT.u0 g l pl j (by rw[c];show hw) ?_ (by rw[c];show hz);rw[c];refine(.ref s⁻¹,_,I.laid (t':=s.toks) (o:=.tup (vo xs lo hi)) (λb t q=>mJ _ q) (Nat.le_refl _) ?_,1,q _ (I.hok.fresh (Nat.le_refl _)));show(Nat.le_trans (Na xs lo hi) hz,_,(r.drop (HT.sIx xs.length 0 lo)).take (HT.sIx xs.length xs.length hi-HT.sIx xs.length 0 lo),IsTup.new _ _)
inductive sr(K:Frag)(x:V)(y:V)(H:Hp)(Q:VK):Prop
 |mk (a b xs ys:_) (_:x=.ref a) (_:y=.ref b) (_:nj K H a xs) (_:nj K H b ys) (_:xs≠[]) (_:xs.length+ys.length≤sizeLine) (_:(ys=[]->Q (.ref a) H)) (_:(ys≠[]->∀p,H p=none->Q (.ref p) (upd H p (.tup (xs++ys)))))
def ae.nil_iff(r:ae xs a):a=[]↔xs=[]:=by
 cases r with
 |nil=>simp
 |cons _ _=>simp
def pk:uq X (binaryOp .Add) (sr X.K):=by
 intro f s A H x y v u Q I j i h;let⟨a,b,xs,ys,rfl,rfl,t,r,p,hz,l,k⟩:=h;cases j;cases i;let⟨n,d,m,_⟩:=I.tuple t;let⟨g,c,p2,_⟩:=I.tuple r;refine HT.Ip m p2 (λz=>p (d.nil_iff.mp z)) (λz=>(.ref a,H,I,1,l (c.nil_iff.mp z))) (λz=>?_) (by rw[<-d.length,<-c.length];show hz);refine(.ref s⁻¹,_,I.laid (t':=s.toks) (o:=.tup (xs++ys)) (λb B q=>mJ _ q) (Nat.le_refl _) ?_,1,k (λw=>z (c.nil_iff.mpr w)) _ (I.hok.fresh (Nat.le_refl _)));show(by rw[j_];show hz,_,d.append c,IsTup.new _ _)
end
abbrev IT(n:Nat)(i:Int):Option Nat:=if 0≤i then(if i<n then some i.toNat else none)else if -(n:Int)≤i then some (i+n).toNat else none
abbrev ux{α:Type}(xs:List α)(i:Int):Option α:=(IT xs.length i).bind λj=>xs[j]?
def pG(h:IT n i<*j):seqIndex? i n=some j/\j<n/\-(n:Int)≤i/\i<n:=by
 unfold IT at h;by_cases h0:0≤i
 .rw [if_pos h0]at h;by_cases a:i<n
  .rw [if_pos a]at h;let e:i.toNat=j:=Option.some.inj h;show(by rw[seqIndex_of h0 a,e],5,a)
  .rw [if_neg a]at h;cases h
 .rw [if_neg h0]at h;by_cases a:-(n:Int)≤i
  .rw [if_pos a]at h;let e:(i+n).toNat=j:=Option.some.inj h;show(by rw[seqIndex_neg (!6) a,e],!6,a,!6)
  .rw [if_neg a]at h;cases h
def eR{xs:List a}{v:a}(h:ux xs i<*v):∃j,seqIndex? i xs.length=some j/\xs[j]?=some v/\j<xs.length/\-(xs.length:Int)≤i/\i<xs.length:=by
 unfold ux at h;cases e:IT xs.length i with
 |none=>rw[e]at h;cases h
 |some j=>
  rw[e]at h;let⟨f,d,c,b⟩:=pG e;show(j,f,h,d,c,b)
def wu{xs:List a}{j:Nat}{v:a}(h:xs[j]?<*v):ux xs (j:Int)<*v:=by
 let b:j<xs.length:=(j0 h).1;let e:IT xs.length (j:Int)<*j:=by
  unfold IT;rw[if_pos (!6),if_pos (!6)];simp
 unfold ux;rw[e];show h
def gT(xs:List a)(v:a):ux (xs++[v]) (-1)<*v:=by
 let b:(xs++[v]).length=xs.length+1:=by simp
 let e:IT (xs++[v]).length (-1)<*xs.length:=by
  unfold IT;rw[b,if_neg (!0),if_pos (!6)];congr 1;lia
 unfold ux;rw[e];show(xs++[v])[xs.length]?<*v;simp
abbrev eT(b:Expr):Prop:=∀o i,subscripted b false o i=operate [o,i] (getItem o i)
abbrev Hz(X:Cx)(r:R2):Prop:=
 ∀(value slice:Expr)(pins:List (Addr×Obj))(s:Shared)(σ:St)(H:Hp)(x y:V)(v u:Value)(Q:VK),hA X pins σ H s->ad x v->ad y u->r x y H Q->
  subscripted slice false v u=operate [v,u] (getItem v u)->wpAny (model X.prog X.w) X.A (subscriptTail value slice v u) (EP X pins σ Q) X.xe s
abbrev Ka(X:Cx)(id:String)(r:V->List V->Hp->VK->Prop):Prop:=
 ∀(pins:List (Addr×Obj))(s:Shared)(σ:St)(H:Hp)(x:V)(xs:List V)(v:Value)(us:List Value)(Q:VK),hA X pins σ H s->ad x v->ae xs us->r x xs H Q->
  wpAny (model X.prog X.w) X.A (call (.builtin id) (v::us)) (EP X pins σ Q) X.xe s
section
variable{X:Cx}{a b:Expr}{ta tb:TE}{pos:Pos}
def u_(i:Hz X r)(k:PE X a ta)(j:PE X b tb)(g:eT b):PE X (.Subscript a b pos) (Hh r ta tb):=by
 intro c s d H Q I h;show Subscript_ (Jl k j I h λv u s2 x y m l f e q=>i a b c s2 d m x y v u Q l f e q (g _ _))
inductive oZ(K:Frag)(x:V)(y:V)(H:Hp)(Q:VK):Prop
 |mk (p xs i v:_) (_:x=.ref p) (_:y=.int i) (_:i4 K H p xs) (_:ux xs i<*v) (_:Q v H)
inductive kj(K:Frag)(x:V)(y:V)(H:Hp)(Q:VK):Prop
 |mk (p xs i v:_) (_:x=.ref p) (_:y=.int i) (_:nj K H p xs) (_:ux xs i<*v) (_:Q v H)
inductive rIxS(x:V)(y:V)(H:Hp)(Q:VK):Prop
 |mk (z i c:_) (_:x=.str z) (_:y=.int i) (_:z.length≤sizeLine) (_:ux z.cps.toList i<*c) (_:Q (.str ⟨#[c]⟩) H)
def eA:Hz X (oZ X.K):=by
 intro f g c s n H x y v u Q I C B h o;let⟨p,xs,i,z,rfl,rfl,D,F,q⟩:=h;cases C;let⟨t,rfl⟩:=B;let⟨l,r,pl,hz⟩:=I.list D;let⟨j,e,M,O,L,G⟩:=eR F;let⟨w,A,k⟩:=r.get M;let E:=r.length;let N:=bw;let d:EP X c n Q w s:=(z,H,I,k,q);by_cases h0:0≤i
 .let m:i.toNat=j:=by
   rw[seqIndex_of h0 G]at e;show Option.some.inj e
  show item_listR pl.isList h0 (!6) (by rw[m];simpa using A) d o
 .let m:(i+(l.toArray.size:Int)).toNat=j:=by
   rw[seqIndex_neg (!6) L]at e;rw[size_toArray,<-E];show Option.some.inj e
  show subscriptTail_builtinR (x:=w) pl.isList.typeIs slot_list_getitem.lookup
   (wpAny_getItem_list_neg (Q:=λr s'=>r=w/\EP X c n Q r s') pl.isList (!6) (by rw[size_toArray]<;>lia) (!6) (by rw[m];simpa using A) (1,d)) o
def em:Hz X (kj X.K):=by
 intro d e c s k H x y v u Q I m l h o;let⟨p,xs,i,z,rfl,rfl,A,C,q⟩:=h;cases m;let⟨t,rfl⟩:=l;let⟨n,r,pl,hz⟩:=I.tuple A;let⟨j,E,D,N,M,L⟩:=eR C;let⟨w,F,f⟩:=r.get D;let B:=r.length;let G:=bw;let g:EP X c k Q w s:=(z,H,I,f,q);show subscriptTail_builtinR (x:=w) pl.typeIs slot_tuple_getitem.lookup
  (getItem_tuple (j:=j) (Q:=λr s'=>r=w/\EP X c k Q r s') pl (!6) (!6) (by rw[size_toArray,<-B];show E) (by simpa using F) (1,g)) o
def vL:Hz X rIxS:=by
 intro d e f s C H x y v u Q I l k h m;let⟨z,i,c,rfl,rfl,hz,o,q⟩:=h;let⟨t,rfl⟩:=l;let⟨t',rfl⟩:=k;let⟨j,g,w,E,r,p⟩:=eR o;let n:z.cps.toList.length=z.length:=by simp[Str.length]
 rw[n]at g r p;let D:=bw;show tail_any (typeIs_str s z t) slot_str_getitem.lookup (getItem_str (c:=c) (by
  let B:decide (i < -(2^63:Int))=false:=decide_eq_false (!6);let A:decide (i≥2^63)=false:=decide_eq_false (!6);rw[B,A,Bool.or_false]) (by rw[g];simpa using w) (.str ⟨#[c]⟩,H,I.tok _,(_,rfl),q)) m
def hA.lst{f:St}(I:hA X d f H s)(h:H p<*.lst xs):∃(c:List Value)(n:Nat),ae xs c/\s.heap.get? p=some {cls:=.type "list",data:=.seq c.toArray n}/\xs.length≤sizeLine:=by
 let⟨z,c,n,r,e⟩:=I.hok p _ h;show(c,n,r,e,z)
def dq(lo c:Option Int)(n:Nat):(sliceBounds lo c none n).1=((HT.sIx n 0 lo:Nat):Int)/\(sliceBounds lo c none n).2.1=((HT.sIx n n c:Nat):Int)/\(sliceBounds lo c none n).2.2=1:=by
 refine(9,1)
 .cases lo with
  |none=>simp[sliceBounds,HT.sIx]
  |some i=>
   simp only[sliceBounds,HT.sIx,Option.getD_none,show(1:Int)>0 by decide,if_true];by_cases h:i<0
   .simp only[h,if_true]<;>lia
   .simp only[h,if_false]<;>lia
 .cases c with
  |none=>simp[sliceBounds,HT.sIx]
  |some i=>
   simp only[sliceBounds,HT.sIx,Option.getD_none,show(1:Int)>0 by decide,if_true];by_cases h:i<0
   .simp only[h,if_true]<;>lia
   .simp only[h,if_false]<;>lia
def NQ(c:List Value)(lo d:Option Int):slicePick c.toArray lo d none=((c.drop (HT.sIx c.length 0 lo)).take (HT.sIx c.length c.length d-HT.sIx c.length 0 lo)).toArray:=by
 let⟨g,f,e⟩:=dq lo d c.toArray.size;unfold slicePick;rw[g,f,e];simp only[sliceRange_one,pick_run,size_toArray]<;>rfl
inductive tV(K:Frag)(x:V)(lo:Option Int)(hi:Option Int)(H:Hp)(Q:VK):Prop
 |mk (a xs:_) (_:x=.ref a) (_:i4 K H a xs) (_:∀p,H p=none->Q (.ref p) (upd H p (.lst (vo xs lo hi))))
def wM:KI X (tV X.K):=by
 intro e s m H x v n vu lo d p Q I g l pl i h;let⟨a,xs,rfl,k,q⟩:=h;cases g;let⟨j,r,f,hz⟩:=I.list k;let c:=r.length;refine("list",_,slot_list_getitem.lookup,f.isList.typeIs,3);refine wpAny_getItem_list_slice f.isList l pl i .none (!1) ?_ (by rw[size_toArray]<;>lia);rw[NQ,<-c];refine(.ref s⁻¹,_,I.laid (t':=s.toks) (o:=.lst (vo xs lo d)) (λb t q=>mJ _ q) (Nat.le_refl _) ?_,1,q _ (I.hok.fresh (Nat.le_refl _)));show(Nat.le_trans (Na xs lo d) hz,_,(0),(r.drop (HT.sIx xs.length 0 lo)).take (HT.sIx xs.length xs.length d-HT.sIx xs.length 0 lo),get?_push_size _ rfl)
abbrev HZ:V->Bool
 |.non=>true
 |.bl _=>true
 |.int _=>true
 |.str _=>true
 |_=>false
abbrev HA:V->V->Bool
 |.non,.non=>true
 |.bl a,.bl b=>a==b
 |.bl a,.int b=>(if a then 1 else 0)==b
 |.int a,.bl b=>a==(if b then 1 else 0)
 |.int a,.int b=>a==b
 |.str a,.str b=>a==b
 |_,_=>false
def HB(d:ad y u)(c:ad x v)(f:HZ y=true)(e:HZ x=true):SeqAt.EqAt A s u v (HA y x):=by
 cases y with
 |non=>
  cases d;cases x with
  |non=>cases c;show SeqAt.EqAt.same _
  |bl b=>cases c;show SeqAt.EqAt.none_bool b
  |int b=>let⟨t,rfl⟩:=c;show SeqAt.EqAt.none_int b t
  |str b=>let⟨t,rfl⟩:=c;show SeqAt.EqAt.none_str b t
  |_=>show absurd (show false=true from e) Bool.false_ne_true
 |bl a=>
  cases d;cases x with
  |non=>cases c;show SeqAt.EqAt.bool_none a
  |bl b=>cases c;show SeqAt.EqAt.bool_bool a b
  |int b=>let⟨t,rfl⟩:=c;show SeqAt.EqAt.bool_int a b t
  |str b=>let⟨t,rfl⟩:=c;show SeqAt.EqAt.bool_str a b t
  |_=>show absurd (show false=true from e) Bool.false_ne_true
 |int a=>
  let⟨t',rfl⟩:=d;cases x with
  |non=>cases c;show SeqAt.EqAt.int_none a t'
  |bl b=>cases c;show SeqAt.EqAt.int_bool a t' b
  |int b=>let⟨t,rfl⟩:=c;show SeqAt.EqAt.int_int a t' b t
  |str b=>let⟨t,rfl⟩:=c;show SeqAt.EqAt.int_str a t' b t
  |_=>show absurd (show false=true from e) Bool.false_ne_true
 |str a=>
  let⟨t',rfl⟩:=d;cases x with
  |non=>cases c;show SeqAt.EqAt.str_none a t'
  |bl b=>cases c;show SeqAt.EqAt.str_bool a t' b
  |int b=>let⟨t,rfl⟩:=c;show SeqAt.EqAt.str_int a t' b t
  |str b=>let⟨t,rfl⟩:=c;show SeqAt.EqAt.str_str a t' b t
  |_=>show absurd (show false=true from e) Bool.false_ne_true
 |_=>show absurd (show false=true from f) Bool.false_ne_true
abbrev GD(x:V)(u:Value):Bool:=match u with
 |.none=>HA .non x
 |.bool b=>HA (.bl b) x
 |.int i _=>HA (.int i) x
 |.str z _=>HA (.str z) x
 |_=>false
def HC(r:ad y u)(f:HZ y=true):GD x u=HA y x:=by
 cases y with
 |non=>cases r;rfl
 |bl b=>cases r;rfl
 |int i=>let⟨t,rfl⟩:=r;rfl
 |str z=>let⟨t,rfl⟩:=r;rfl
 |_=>show absurd (show false=true from f) Bool.false_ne_true
def Kb{x:V}:∀{xs:List V}{c:List Value},ae xs c->xs.all HZ=true->c.any (GD x)=xs.any λy=>HA y x
 |_,_,.nil,_=>rfl
 |y::xs,u::c,.cons r t,f=>by
  rw[List.all_cons,and_eq_true]at f;rw[List.any_cons,List.any_cons,HC r f.1,Kb t f.2]
def uD{A:Around}{s:Shared}{x:V}{v:Value}(e:ad x v)(g:HZ x=true):∀{xs:List V}{d:List Value},ae xs d->xs.all HZ=true->∀u∈d,SeqAt.EqAt A s u v (GD x u)
 |_,_,.nil,_=>λu c=>by cases c
 |y::xs,u::d,.cons r t,f=>λh c=>by
  rw[List.all_cons,and_eq_true]at f;rcases mem_cons.mp c with rfl|c
  .rw [HC r f.1];show HB r e f.1 g
  .exact uD e g t f.2 h c
abbrev Hk(x:V)(xs:List V):Bool:=xs.any λy=>HA y x
inductive Lx(K:Frag)(neg:Bool)(x:V)(y:V)(H:Hp)(Q:VK):Prop
 |mk (p xs:_) (_:y=.ref p) (_:(i4 K H p xs\/nj K H p xs)) (_:HZ x=true) (_:xs.all HZ=true) (_:Q (.bl (if neg then !Hk x xs else Hk x xs)) H)
def KJ:uq X (compareOp .In) (Lx X.K false):=by
 intro g s k H x y v u Q I f j h;let⟨p,xs,rfl,d,i,e,q⟩:=h;cases j;rcases d with d|d
 .obtain ⟨c,r,pl,hz⟩:=I.list d;refine SeqAt.in_listAt (GD x) pl.isList (λw hw=>uD f i r e w (by simpa using hw)) (.bl _,H,I,1,3);rw[show c.toArray.any (GD x)=c.any (GD x) by simp,Kb r e];show q
 .obtain ⟨c,r,pl,hz⟩:=I.tuple d;refine SeqAt.in_tupleAt (GD x) pl (λw hw=>uD f i r e w (by simpa using hw)) (.bl _,H,I,1,3);rw[show c.toArray.any (GD x)=c.any (GD x) by simp,Kb r e];show q
def dX:uq X (compareOp .NotIn) (Lx X.K true):=by
 intro g s k H x y v u Q I f j h;let⟨p,xs,rfl,d,i,e,q⟩:=h;cases j;rcases d with d|d
 .obtain ⟨c,r,pl,hz⟩:=I.list d;refine SeqAt.notIn_listAt (GD x) pl.isList (λw hw=>uD f i r e w (by simpa using hw)) (.bl _,H,I,1,3);rw[show c.toArray.any (GD x)=c.any (GD x) by simp,Kb r e];show q
 .obtain ⟨c,r,pl,hz⟩:=I.tuple d;refine SeqAt.notIn_tupleAt (GD x) pl (λw hw=>uD f i r e w (by simpa using hw)) (.bl _,H,I,1,3);rw[show c.toArray.any (GD x)=c.any (GD x) by simp,Kb r e];show q
def JJ:Hg X (.builtin "len") (λxs H Q=>∃p ys,xs=[.ref p]/\(i4 X.K H p ys\/nj X.K H p ys)/\Q (.int ys.length) H):=by
 intro g s j H xs k Q I r h;let⟨p,ys,rfl,d,q⟩:=h;let⟨u,rfl,i⟩:=GC r;cases i;let l:=bw;rcases d with d|d
 .obtain ⟨f,e,pl,hz⟩:=I.list d;let c:=e.length;show Calls.call_len_list pl.isList (by simp only[size_toArray]<;>lia) (.int ys.length,H,I.tok _,(s.toks+1,by rw[size_toArray,c]),q)
 .obtain ⟨f,e,pl,hz⟩:=I.tuple d;let c:=e.length;show len_tuple pl (by simp only[size_toArray]<;>lia) (.int ys.length,H,I.tok _,(s.toks+1,by rw[size_toArray,c]),q)
def Nb:Hg X (.builtin "len") (λxs H Q=>∃z,xs=[.str z]/\z.length≤sizeLine/\Q (.int z.length) H):=by
 intro c s d H xs e Q I r h;let⟨z,rfl,hz,q⟩:=h;let⟨u,rfl,t,rfl⟩:=GC r;let f:=bw;show len_str (!6) (.int z.length,H,I.tok _,(_,rfl),q)
def ww:Hg X (.type "tuple") (λxs H Q=>∃p ys,xs=[.ref p]/\((i4 X.K H p ys/\∀l,H l=none->Q (.ref l) (upd H l (.tup ys)))\/(nj X.K H p ys/\Q (.ref p) H))):=by
 intro c s i H xs v Q I r h;let⟨p,ys,rfl,h⟩:=h;let⟨u,rfl,m⟩:=GC r;cases m;rcases h with⟨g,q⟩|⟨g,q⟩
 .obtain ⟨d,f,pl,hz⟩:=I.list g;let j:=f.length;refine call_tuple_list pl.isList (λh' n=>?_) (by simp only[size_toArray]<;>lia);let k:hA X c i H {s with heap:=h'}:=I.kept (t':=s.toks) n;let t:hA X c i (upd H h'.objs.size (.tup ys)) {s with heap:=h'.push {cls:=.type "tuple",data:=.seq d.toArray} }:=
   k.laid (t':=s.toks) (λb o e=>mJ _ e) (Nat.le_refl _) (show uz X.prog X.w _ _ _ (.tup ys)from(hz,d,f,IsTup.new _ _))
  show(.ref h'.objs.size,_,t,1,q _ (k.hok.fresh (Nat.le_refl _)))
 .obtain ⟨d,f,pl,hz⟩:=I.tuple g;show call_tuple_same pl (.ref p,H,I,1,q)
abbrev Nc(K:Frag)(T:String)(x:V)(H:Hp):Prop:=match x with
 |.str _=>T="str"
 |.int _=>T="int"
 |.ref p=>(T="list"/\∃xs,i4 K H p xs)\/(T="tuple"/\∃o,K.lookup p=some o/\o.cls=.type "tuple"/\o.dict=none) \/
   (T="dict"/\((∃kvs,H p<*.dK kvs)\/∃kvs,H p<*.dT kvs))\/(T="set"/\∃S n,H p<*.set S n)
 |_=>False
def ql{l:St}(I:hA X j l H s)(r:ad x v)(ty:Nc X.K T x H):s.TypeIs v T/\∀a,v=.ref a->∃k,s.heap.get? a=some k/\k.dict=none:=by
 cases x with
 |str z=>
  let⟨t,rfl⟩:=r;cases(show T="str" from ty);show(typeIs_str s z t,λ_ e=>nomatch e)
 |int i=>
  let⟨t,rfl⟩:=r;cases(show T="int" from ty);show(typeIs_int s i t,λ_ e=>nomatch e)
 |ref p=>
  cases r;rcases ty with⟨rfl,xs,q⟩|⟨rfl,o,d,u,g⟩|⟨rfl,d⟩|⟨rfl,S,n,d⟩
  .obtain ⟨m,_,pl,_⟩:=I.list q;refine(pl.isList.typeIs,λa e=>?_);cases e;let⟨o,n,e,c,g,_⟩:=pl;show(o,e,g)
  .refine ((o,I.kIn p o d,u),λa e=>?_);cases e;show(o,I.kIn _ o d,g)
  .let z:∃o,s.heap.get? p=some o/\o.ExactDict:=by
    rcases d with⟨kvs,d⟩|⟨kvs,d⟩
    .obtain ⟨_,_,_,_,o,_,_,e,f,_⟩:=I.hok p _ d;show(o,e,f)
    .obtain ⟨_,_,_,_,o,_,_,e,f,_⟩:=I.hok p _ d;show(o,e,f)
   let⟨o,e,f⟩:=z;refine((o,e,f.1),λa h=>?_);cases h;show(o,e,f.2.1)
  .obtain ⟨o,_,_,_,e,f,_⟩:=I.hok p _ d;refine((o,e,f.1),λa h=>?_);cases h;show(o,e,f.2.1)
 |_=>show False.elim ty
abbrev wg(K:Frag)(T:String)(r:V->List V->Hp->VK->Prop)(to:TE)(t:TA):TE:=λσ H Q=>to σ H λx H1=>Nc K T x H1/\t σ H1 λxs H2=>r x xs H2 Q
variable{o e:Expr}{es:List Expr}{to:TE}{t:TA}{name:Str}{apos cpos:Pos}{T id:String}{r:V->List V->Hp->VK->Prop}
def Hl(C:PlainAttrs T)(i:Slot T name id)(l:typeOf (.builtin id)=pure (.type "method_descriptor"))(F:Ka X id r)(E:PE X o to)(G:PA X (e::es) t)(g:(attributeBase o name X.env (eval o X.env)=eval o X.env)>>>4)(j:(((backTo cpos (starEach (e::es) X.env)).all (λx=>!x.1)&&(backToKw cpos (keywordEach [] X.env)).all (λx=>x.1.isSome)
   && decide ((e::es).length+([]:List Keyword).length+(if ([]:List Keyword).isEmpty then 0 else 1)<30))=true)>>>4)(f:((apos.endLine==cpos.line)=true)>>>4)(D:(starEach (e::es) X.env=(false,eval e X.env,)::starEach es X.env)>>>4)(d:((backTo cpos (starEach es X.env)).any (·.1)=false)>>>4):PE X (.Call (.Attribute o name apos) (e::es) [] cpos) (wg X.K T r to t):=by
 intro c s k H Q I h;refine wpAny_Call_method_late g j f rfl (kl (E c s k H _ I h) λv y m=>?_);let⟨x,P,u,p,ty,B⟩:=m;let⟨M,L⟩:=ql u p ty;refine(T,id,C,i,l,M,L,3);let q:=G cpos c y k P _ u B;rw[D]at q⊢;refine Calls.callWith_builtin (by show(false||(backTo cpos (starEach es X.env)).any (·.1))=false;rw[d]<;>rfl) (Calls.evalArgs_plain ?_);show kl q λw s2 n=>by let⟨vs,O,N,z,A⟩:=n;show F c s2 k O x vs v w Q N p z A
end
abbrev KL(X:Cx)(id:String)(r:V->List V->Hp->VK->Prop):Prop:=
 ∀(pins:List (Addr×Obj))(s:Shared)(σ:St)(H:Hp)(x:V)(xs:List V)(v:Value)(us:List Value)(Q:VK),hA X pins σ H s->ad x v->ae xs us->r x xs H Q->
  wpAny (model X.prog X.w) X.A (call (.builtin id) (v::us)) (EP X pins σ Q) X.xe s
def ae.one:∀{x:V}{a:List Value},ae [x] a->∃u,a=[u]/\ad x u
 |_,_,.cons r .nil=>(0,r)
section
variable{X:Cx}{pins:List (Addr×Obj)}{σ:St}{H:Hp}{s:Shared}{l b:Addr}{xs ys zs:List V}
def hA.lset{a its':List Value}(I:hA X pins σ H s)(i:H l<*.lst xs)(e:s.heap.get? l<*{cls:=.type "list",data:=.seq a.toArray n})(g:f a.toArray=its'.toArray)(c:ae ys its')(hz:ys.length≤sizeLine):hA X pins σ (upd H l (.lst ys)) {s with heap:=s.heap.update l (mapSeq f),toks:=t'}:=by
 let q:=PySem.IsL.update e f;rw[g]at q;refine I.write (x:=l) (e:=l) (by rw[i];show trivial) (.inl rfl) (λj u h d=>(Heap.get?_update_other s.heap (mapSeq f) (Ne.symm h)).trans d) (_,q) ?_;show(hz,its',_,c,q)
def hA.lnew(I:hA X pins σ H s)(c:ae ys a)(hz:ys.length≤sizeLine):hA X pins σ (upd H s⁻¹ (.lst ys)) {s with heap:=s.heap.push {cls:=.type "list",data:=.seq a.toArray},toks:=t'}:=
 I.laid (λ_ _ q=>mJ _ q) (Nat.le_refl _) (hz,a,(0),c,get?_push_size _ rfl)
def hA.fresh(I:hA X pins σ H s):H s⁻¹=none:=I.hok.fresh (Nat.le_refl _)
def hA.lstM(I:hA X pins σ H s)(c:H l<*.lst xs):xs.length≤sizeLine/\∃(a:List Value)(n:Nat),ae xs a/\xs.length=a.length/\s.heap.get? l<*{cls:=.type "list",data:=.seq a.toArray n}:=by
 let⟨z,a,n,r,e⟩:=I.hok l _ c;show(z,a,n,r,r.length,e)
def m6(h:n≤sizeLine):Builtin.List.listTooLong n=false:=by
 unfold Builtin.List.listTooLong;show decide_eq_false (!6)
end
section
variable{X:Cx}
inductive rAppend(x:V)(vs:List V)(H:Hp)(Q:VK):Prop
 |mk (l xs y:_) (_:x=.ref l) (_:vs=[y]) (_:H l<*.lst xs) (_:xs.length<sizeLine) (_:Q .non (upd H l (.lst (xs++[y]))))
def cE:KL X "list.append" rAppend:=by
 intro b s i H x vs v j Q I d f h;let⟨l,xs,y,rfl,rfl,c,hz,q⟩:=h;cases d;let⟨u,rfl,g⟩:=f.one;let⟨z,a,n,r,k,e⟩:=I.lstM c;refine call_meets F.slot_list_append (_,e,1) F.entry_list_append (F.args_list_append_2 _ _) (PySem.list_append l a.toArray n u (by rw[size_toArray];lia)) (e,3);refine(.non,_,I.lset (its':=a++[u]) c e (!1) (r.append (.cons g .nil)) ?_,1,q);rw[j_,List.length_singleton];lia
inductive rExtend(x:V)(vs:List V)(H:Hp)(Q:VK):Prop
 |mk (l b xs zs:_) (_:x=.ref l) (_:vs=[.ref b]) (_:H l<*.lst xs) (_:H b<*.lst zs) (_:xs.length+zs.length≤sizeLine) (_:Q .non (upd H l (.lst (xs++zs))))
def kJ:KL X "list.extend" rExtend:=by
 intro f s y H x vs v B Q I i j h;let⟨l,b,xs,zs,rfl,rfl,g,t,hz,q⟩:=h;cases i;let⟨u,rfl,k⟩:=j.one;cases k;let⟨z,c,n,r,C,e⟩:=I.lstM g;let⟨A,a,o,m,p,w⟩:=I.lstM t;let hsz:c.toArray.size+a.toArray.size≤sizeLine:=by rw[size_toArray,size_toArray];lia
 let d:¬ (!c.toArray.isEmpty&&Builtin.List.listTooLong (c.toArray.size+a.toArray.size))=true:=by
  rw[m6 hsz,Bool.and_false];show Bool.false_ne_true
 refine call_meets F.slot_list_extend (_,e,1) F.entry_list_extend (F.args_list_extend_2 _ _)
  (AutoSeq1.list_extend_list_list_0 l c.toArray n b a.toArray o d (by rw[size_toArray];lia) (!6)) (e,w,3)
 refine(.non,_,I.lset (its':=c++a) g e (!1) (r.append m) ?_,1,q);rw[j_];omega
inductive rCat(x:V)(y:V)(H:Hp)(Q:VK):Prop
 |mk (l b xs zs:_) (_:x=.ref l) (_:y=.ref b) (_:H l<*.lst xs) (_:H b<*.lst zs) (_:xs.length+zs.length≤sizeLine) (_:∀p,H p=none->Q (.ref p) (upd H p (.lst (xs++zs))))
def ir:uq X (binaryOp .Add) rCat:=by
 intro d s t H x y v u Q I g f h;let⟨l,b,xs,zs,rfl,rfl,k,m,hz,q⟩:=h;cases g;cases f;let⟨z,c,n,r,B,e⟩:=I.lstM k;let⟨w,a,A,i,j,p⟩:=I.lstM m;refine PySem.P.add_list e p ?_ (by rw[size_toArray,size_toArray];lia);let o:c.toArray++a.toArray=(c++a).toArray:=by simp
 rw[o];show(.ref _,_,I.lnew (t':=s.toks) (r.append i) (by rw[j_];omega),1,q _ I.fresh)
end
section
variable{prog:Program}{w:World}{A:Around}{E:Value->Shared->Prop}{s:Shared}
end
section
variable{X:Cx}
end
end L2
namespace Att
open PySem.W PySem.Calls PyProof.Rows
def NR:∀(ns:List Int)(vs:List Value),WellAll P h vs (ns.map WData.int)->IntsAre vs ns:=by
 intro ns;induction ns with
 |nil=>
  intro vs w;rw[List.map_nil]at w;cases w;show .nil
 |cons n ns c=>
  intro vs w;rw[map_cons]at w;cases w with
  |cons a b=>
   cases a;show .cons _ _ (c _ b)
def kg{l:OpenLaw}(v:l.most<*n)(c:l.row.toRowW.claim.pre b=true)(k:WellAll P h e b):∃a vs ns,e=[Value.ref a]/\b=[WData.list (ns.map WData.int)]/\h.get? a=some {cls:=.type "list",data:=.seq vs.toArray}/\IntsAre vs ns/\ns.length≤n:=by
 let m:WShape.hasAll [] b [.list .int]=true:=(pre_splitW c).1;let o:l.pre.holds [] {args:=b}=true:=(pre_splitW c).2;let⟨d,r,rfl,y,x⟩:=hasAllW_cons m;obtain rfl:=hasAllW_nil x;let⟨xs,rfl,w⟩:=hasW_list y;let⟨ns,rfl⟩:=items_int w;let f:ns.length≤n:=by
  unfold OpenLaw.pre at o;let j:(WTm.not (.lt (.lit (.int (n:Int))) (.len (.arg 0)))).holds [] {args:=[.list (ns.map .int)]}=true:=by
   let j:=(holds_andW o).1;rw[v]at j;show j
  let i:=condW_of j (w_not (w_lt w_lit (w_len_list (w_arg rfl))));rw[ix]at i;refine le_of_not_lt λq=>?_;let t:(n:Int)<((ns.length:Nat):Int):=by omega
  first
   |(rw[decide_eq_true t]at i;show absurd i (!0))
   |(simp at i;omega)
 cases k with
 |cons s p=>
  cases p;cases s with
  |list u g=>show(7,ns,6,u,NR ns _ g,f)
def km(l:OpenLaw)(a:List WData):l.row.toRowW.claim.post a (.bool true) a=true:=
 postW_of (r:=l.row.toRowW) (X:=(true==true))
  (show WShape.has [] (.bool true) .bool=true by first|rfl|decide|simp[WShape.has,WShape.arms,WShape.armsAll])
  (show(WTm.eq .res (.lit (.bool true))).value [] {args:=a,res:=some (.bool true),after:=a}<*.bool (true==true)from w_eq_bool (w_res rfl) w_lit) rfl
def FD{l:OpenLaw}(C:l.most<*n)(s:d.params.defaults=[])(call:∀(w:World)(c b:Shared)(mg k:Str->Option Value)(fa:Addr)(o:Obj)(pm j doc:Value)(a:Addr)(vs:List Value)(ns:List Int),
   Ground q loose [] XP w c mg k b.heap->YP w b.heap->
   b.heap.get? fa<*o->o.data=.func (docDef d.name d.params d.body d.scope pm j doc)->b.heap.CodeRec j d.name->mg d.name<*.ref fa->
   b.heap.get? a<*{cls:=.type "list",data:=.seq vs.toArray}->IntsAre vs ns->ns.length≤n->b.gens=#[]->
   codeAny (model l.prog w) callerA (.call (.ref fa) ([.ref a],[])) (λr s'=>r=.ok (.ret (.bool true))/\OldK b.heap s'.heap/\s'.os=b.os/\AllBare s'.gens) b):WalkO q loose XP YP l.row.toRowW d [] (λf vs=>PySem.call f vs):=by
 intro w c b mg k G Y fa o pm j doc N kV B H t x p F y u O g v z m E;obtain rfl:N=.none:=Dflts.none x s;obtain rfl:kV=.none:=Dflts.noKw x;let⟨a,vs,ns,rfl,rfl,h,e,i⟩:=kg C g m;refine enter_call (codeAny_mono (call w c b mg k fa o pm j doc a vs ns G Y B (fd_plain H) t p h e i F) λr s' A=>?_);let⟨rfl,M,L,I⟩:=A;show(.inl (.bool true,.bool true,[],1,λ_=>rfl,.bool true,km l _,λ_=>(List.Pairwise.nil,λ_ D=>(nomatch D))),M,L,I)
section
variable{prog:Program}{w:World}{A:Around}{E:Value->Shared->Prop}{s:Shared}{K:Frag}
end
end Att
namespace L2
open PySem.Spec PyProof.Rows
def bU:∀{vs:List Value}{ns:List Int},IntsAre vs ns->ae (ns.map V.int) vs
 |_,_,.nil=>.nil
 |_,_,.cons n t h=>.cons (t,1) (bU h)
abbrev pH(s:Stmt)(j:Nat):Stmt:=match s with
 |.ClassDef _ _ _ body _ _ _ _ _ _ _=>body.getD j (.Pass ((0),(0),(0),(0)))
 |_=>.Pass ((0),(0),(0),(0))
abbrev r_(s:Stmt):Arguments:=match s with
 |.FunctionDef _ a _ _ _ _ _ _ _ _=>a
 |_=>{posonlyargs:=[],args:=[],vararg:=none,kwonlyargs:=[],kw_defaults:=[],kwarg:=none,defaults:=[]}
abbrev pf(s:Stmt):List Stmt:=match s with
 |.FunctionDef _ _ b _ _ _ _ _ _ _=>b
 |_=>[]
abbrev i_(s:Stmt):Scope:=match s with
 |.FunctionDef _ _ _ _ _ _ sc _ _ _=>sc
 |_=>{kind:=.function,names:=[],isGenerator:=false,isCoroutine:=false}
instance kd:CXT:=λ_ _ _ _ _ _=>False
instance E0:XK:=λ_ _ _=>False
def ci:bN kd X E0:=λ_ _ _ _ _ _ _ h=>h.elim
structure n'(K:Frag)(x qual:Str)(st:Stmt)(f:Addr)(fd:FuncData):Prop where
 ex:∃(oc:Value)(od:Option Addr)(kV doc pm:Value)(an:Option Addr)(cdv ct:Value)(osl:Array (Option Value)),
  fd=fnOf x qual (r_ st) (pf st) (i_ st) .none kV doc pm an cdv ct/\K.lookup f=some (oc,od,.func fd,osl)/\codeIn K cdv qual=true
 kp:keepIn K (.ref f)=true
section
variable{P:Program}{w:World}{K:Frag}{mg:Str->Option Value}{base:Heap}
def n'.ok{st:Stmt}(F:n' K x qual st f j)(S:oj N ps (i_ st))(len:∀vs H Q E,e vs H Q E->vs.length=ps.length)(b:∀(cdv:Value)(A:Around)(a:List Env)(s:Shared)(H:Hp)(vs:List V)(Q:VK)(E:XK),ag k (A.deeper (envOfC qual (i_ st) s⁻¹ f cdv))->e vs H Q E->
   ∃t,wo (eM kd P w K mg base N qual (i_ st) f cdv A a s H E).nox (pf st) t/\t {nx:=λ_ H'=>Q .non H',rt:=Q} (start N vs) H):aa P w K mg base kd (k+1) f j ps e:=by
 let⟨m,l,kV,doc,pm,an,cdv,ct,g,rfl,lk,d⟩:=F.ex;refine oh lk d S len λA a s H vs Q E i c=>?_;let⟨t,h,q⟩:=b cdv A a s H vs Q E i c;show(t,h.nox,q)
def n'.binds{st:Stmt}(F:n' K x qual st f d)(h:∀(kV doc pm:Value)(an:Option Addr)(cdv ct:Value)(a:List Value),a.length=ps.length->bindArgs (fnOf x qual (r_ st) (pf st) (i_ st) .none kV doc pm an cdv ct) (a,[])=pure (ps.zip a)):vC K d ps []:=by
 let⟨g,e,kV,doc,pm,an,cdv,ct,b,rfl,lk,c⟩:=F.ex;show .all (h kV doc pm an cdv ct)
def JK{st:Stmt}{kV doc pm cdv ct:Value}(l:K.lookup f<*(d,b,.func (fnOf x qual (r_ st) (pf st) (i_ st) .none kV doc pm an cdv ct),a))(c:codeIn K cdv qual=true)(k:keepIn K (.ref f)=true):n' K x qual st f (fnOf x qual (r_ st) (pf st) (i_ st) .none kV doc pm an cdv ct):=((d,b,kV,doc,pm,an,cdv,ct,a,1,l,c),k)
end
def GO(h:n≤1000):n<sizeLine:=lt_of_le_of_lt h (!0)
section
variable{X:Cx}
def pv(i:Nat){pos:Pos}(d:(X.N[i]?<*x)>>>4)(b:J8 X.env.scope x>>>8)(c:((x==("__debug__":Str))=false)>>>0)(a:((x==("__classdict__":Str))=false)>>>0):PE X (.Name x pos) (bP i):=qF d b c a
end
def af{A B:Prop}(h:B):if false=true then A else B:=by
 rw[if_neg Bool.false_ne_true];show h
def am{A B:Prop}(h:A):if true=true then A else B:=by
 rw[if_pos rfl];show h
def aQ{c A B:Prop}[Decidable c](a:c)(h:B):if (!decide c)=true then A else B:=by
 rw[decide_eq_true a];show af h
abbrev b'(H H':Hp):Prop:=∀b o,H b<*o->H' b<*o
def b'.refl(H:Hp):b' H H:=λ_ _ h=>h
def b'.trans(a:b' H e)(b:b' e d):b' H d:=λc o h=>b c o (a c o h)
def b'.seq{K:Frag}(e:b' H H')(h:i4 K H a xs):i4 K H' a xs:=by
 rcases h with(h|⟨o,h⟩)|h
 .exact .inl (.inl (e _ _ h))
 .exact .inl (.inr (o,e _ _ h))
 .exact .inr h
end L2
set_option Elab.async false
set_option maxRecDepth 100000
set_option maxHeartbeats 4000000
namespace RA
open L2
end RA
namespace L2
open PySem.Spec PyProof.Rows
abbrev Ir(x:Str):It:=(λi _=>i<x.length,λi H v H'=>H'=H/\∃c,x.cps[i]?=some c/\v=.str ⟨#[c]⟩,λi _=>x.length≤i)
def j8{K:Frag}(x:Str)(t:Tok)(it:Addr):bS P w K M (Ir x) [it] it (λi h=>h.IsStrIter it "str_ascii_iterator" x t i)  where
 mem:=by simp
 obj:=λi h st b g=>by
  let e:b=it:=by simpa using g
  subst e;let⟨o,e,c,d⟩:=st;show(o,e,λv z=>by rw[d]at z;cases z)
 keep:=λi h h' st k=>by
  let⟨o,e,r⟩:=st;show(o,k it (!1) o e,r)
 item:=by
  intro X m hw n C i a s B H E I l st f;subst m hw n;let f:i<x.cps.size:=f;let⟨A,y,F,u,q,p⟩:=l it (!1);refine wpAny_pyNext_ascii_item st (c:=x.cps[i]) (by simp[f]) λh' j D=>?_;let L:hA X a B H {s with heap:=h',toks:=s.toks+1}:=I.turned (t':=s.toks+1) (λb o g e=>(D.2 b g).trans e) A y u q p;let⟨o,e,c,d⟩:=id j;show(0,cQ (s:={s with heap:=h',toks:=s.toks+1}) e c d (!0) (.str ⟨#[x.cps[i]]⟩,H,L,(_,rfl),(1,_,by simp[f],1),j,λb g=>(l b g).1))
 done:=by
  intro X m hw n C i a s B H E I l st f;subst m hw n;let f:x.cps.size≤i:=f;let⟨A,y,F,u,q,p⟩:=l it (!1);show wpAny_pyNext_ascii_end (I.ok.hd C) st (by simp[f]) λh' G=>(1,I.turned (t':=s.toks) (λb o g e=>G b o g e) A y u q p)
 self:=λ_ _ _ _ _ st h=>wpAny_pyIter_striter_ascii st h
def j7{K:Frag}(x:Str)(t:Tok)(it:Addr):bS P w K M (Ir x) [it] it (λi h=>h.IsStrIter it "str_iterator" x t i)  where
 mem:=by simp
 obj:=λi h st b g=>by
  let e:b=it:=by simpa using g
  subst e;let⟨o,e,c,d⟩:=st;show(o,e,λv z=>by rw[d]at z;cases z)
 keep:=λi h h' st k=>by
  let⟨o,e,r⟩:=st;show(o,k it (!1) o e,r)
 item:=by
  intro X m hw n C i a s B H E I l st f;subst m hw n;let f:i<x.cps.size:=f;let⟨A,y,F,u,q,p⟩:=l it (!1);refine wpAny_pyNext_wide_item st (c:=x.cps[i]) (by simp[f]) λh' j D=>?_;let L:hA X a B H {s with heap:=h',toks:=s.toks+1}:=I.turned (t':=s.toks+1) (λb o g e=>(D.2 b g).trans e) A y u q p;let⟨o,e,c,d⟩:=id j;show(0,cQ (s:={s with heap:=h',toks:=s.toks+1}) e c d (!0) (.str ⟨#[x.cps[i]]⟩,H,L,(_,rfl),(1,_,by simp[f],1),j,λb g=>(l b g).1))
 done:=by
  intro X m hw n C i a s B H E I l st f;subst m hw n;let f:x.cps.size≤i:=f;let⟨A,y,F,u,q,p⟩:=l it (!1);show wpAny_pyNext_wide_end (I.ok.hd C) st (by simp[f]) λh' G=>(1,I.turned (t':=s.toks) (λb o g e=>G b o g e) A y u q p)
 self:=λ_ _ _ _ _ st h=>wpAny_pyIter_striter_wide st h
inductive sQ(R:It->Hp->Prop)(v:V)(H1:Hp):Prop
 |mk (x:_) (_:v=.str x) (_:R (Ir x) H1)
abbrev sR(tl:TE):TI:=λσ H R=>tl σ H (sQ R)
def Is(r:PE X l m):PI X u l (sR m):=by
 intro d s k H R I h;refine kl (r d s k H _ I h) λv a g=>?_;let⟨y,j,c,n,p⟩:=g;let⟨x,rfl,q⟩:=p;let⟨t,rfl⟩:=n;cases i:x.cps.all (· < 128)
 .refine wpAny_pyIter_wide i ?_;refine(a⁻¹,[a⁻¹],7,j,1,c.kept (t':=a.toks) λb o e=>mJ _ e,j7 x t _,(_,get?_push_size _ rfl,6),λb f=>?_,q);let e:b=a⁻¹:=by simpa using f
  subst e;show c.fpOk (Nat.le_refl _) (c.hok.fresh (Nat.le_refl _))
 .refine wpAny_pyIter_ascii i ?_;refine(a⁻¹,[a⁻¹],7,j,1,c.kept (t':=a.toks) λb o e=>mJ _ e,j8 x t _,(_,get?_push_size _ rfl,6),λb f=>?_,q);let e:b=a⁻¹:=by simpa using f
  subst e;show c.fpOk (Nat.le_refl _) (c.hok.fresh (Nat.le_refl _))
def IU{g:TG}{k:TS}{D:aO}(f:Nat->St->Hp->Prop)(h0:f 0 a H)(o:∀i c a H,x.cps[i]?<*c->f i a H->g (.str ⟨#[c]⟩) a H λb j=>k {D with nx:=f (i+1),ct:=f (i+1),bk:=D.nx} b j)(r:∀a H,f x.length a H->D.nx a H):∃W:Nat->Nat->St->Hp->Prop,(∃m,W 0 m a H)/\∀i m a H,W i m a H->
   ((Ir x).stop i H/\D.nx a H)\/((Ir x).go i H/\∃N:St->Hp->Prop,(∀d H',N d H'->∃l,l<m/\W (i+1) l d H')/\∀y H',(Ir x).yld i H y H'->g y a H' λb j=>k {D with nx:=N,ct:=N,bk:=D.nx} b j):=by
 refine(λi m a H=>m=x.length-i/\i≤x.length/\f i a H,(x.length,!1,zero_le _,h0),3);rintro i m a H⟨rfl,u,p⟩;by_cases h:i<x.length
 .refine .inr (h,f (i+1),λd H' n=>(x.length-(i+1),!2,1,h,n),λy H' q=>?_);let⟨e,c,s,t⟩:=q;subst e t;show o i c a _ s p
 .let e:i=x.length:=by lia
  subst e;show .inl (Nat.le_refl _,r a H p)
section
variable{X:Cx}
inductive rSlS(x:V)(lo:Option Int)(hi:Option Int)(H:Hp)(Q:VK):Prop
 |mk (z:_) (_:x=.str z) (_:z.length≤sizeLine) (_:Q (.str (Txt.slice z lo hi)) H)
def bp:KI X rSlS:=by
 intro b s g H x v r vu lo p w Q I m n pl f h;let⟨z,rfl,hz,q⟩:=h;let⟨t,rfl⟩:=m;refine("str",_,PySem.F.slot_str_getitem.lookup,typeIs_str _ _ _,3);let a:∀t' k,EP X b g Q (.str (Txt.slice z lo p) t') {s with toks:=k}:=λt' k=>(.str _,H,I.tok k,(t',1),q);let⟨o,c,e,d⟩:=n;cases pl with
 |none=>
  cases f with
  |none=>show wpAny_getItem_str_slice (l:=none) (u:=none) (st:=none) (o,c,e,d) rfl (post_val_or_str (Nat.le_trans (Txt.slice_le z _ _) hz,λt' k=>a t' k))
  |int j uj=>show wpAny_getItem_str_slice (l:=none) (u:=some (j,uj,)) (st:=none) (o,c,e,d) rfl (post_val_or_str (Nat.le_trans (Txt.slice_le z _ _) hz,λt' k=>a t' k))
 |int i ui=>
  cases f with
  |none=>show wpAny_getItem_str_slice (l:=some (i,ui,)) (u:=none) (st:=none) (o,c,e,d) rfl (post_val_or_str (Nat.le_trans (Txt.slice_le z _ _) hz,λt' k=>a t' k))
  |int j uj=>show wpAny_getItem_str_slice (l:=some (i,ui,)) (u:=some (j,uj,)) (st:=none) (o,c,e,d) rfl (post_val_or_str (Nat.le_trans (Txt.slice_le z _ _) hz,λt' k=>a t' k))
def d8:Ka X "str.find" (λx xs H Q=>∃z y,x=.str z/\xs=[.str y]/\Q (.int (Txt.find z y)) H):=by
 intro a s d H x xs v e Q I b c h;let⟨z,y,rfl,rfl,q⟩:=h;let⟨t,rfl⟩:=b;let⟨u,rfl,t',rfl⟩:=GC c;show SC.find (.int _,H,I.tok _,(_,rfl),q)
def nc:Ka X "str.count" (λx xs H Q=>∃z y,x=.str z/\xs=[.str y]/\Q (.int (Txt.count z y)) H):=by
 intro a s d H x xs v e Q I b c h;let⟨z,y,rfl,rfl,q⟩:=h;let⟨t,rfl⟩:=b;let⟨u,rfl,t',rfl⟩:=GC c;show SC.count (.int _,H,I.tok _,(_,rfl),q)
inductive rIndex(x:V)(xs:List V)(H:Hp)(Q:VK):Prop
 |mk (z y:_) (_:x=.str z) (_:xs=[.str y]) (_:Txt.contains z y=true) (_:Q (.int (Txt.find z y)) H)
def FE:Ka X "str.index" rIndex:=by
 intro c s f H x xs v g Q I d e h;let⟨z,y,rfl,rfl,b,q⟩:=h;let⟨t,rfl⟩:=d;let⟨u,rfl,t',rfl⟩:=GC e;unfold Txt.contains at b;unfold Txt.find at q;cases a:Builtin.Str.occurrences z y 0 z.length 1 with
 |nil=>rw[a]at b;show absurd b (!0)
 |cons i rest=>
  rw[a]at q;show SC.index a (.int _,H,I.tok _,(_,rfl),q)
def cv:uq X (compareOp .LtE) (λx y H Q=>∃i j,x=.str i/\y=.str j/\Q (.bl (!decide (j.cps.toList<i.cps.toList))) H):=by
 intro a s d H x y v u Q I c b h;let⟨i,j,rfl,rfl,q⟩:=h;let⟨t,rfl⟩:=c;let⟨t',rfl⟩:=b;show PySem.P.le_str (.bl _,H,I,1,q)
def KM:Hg X (.builtin "isinstance") (λxs H Q=>∃x t,xs=[x,.ty T]/\av X.K H x t/\kitOne X.K t (.type T)=some b/\Q (.bl b) H):=by
 intro a s g H xs j Q I r h;let⟨x,t,rfl,ty,e,q⟩:=h;let⟨u,i,rfl,f,d⟩:=bn r;cases d;show kR I f ty e λc=>(.bl b,H,I.tok c,1,q)
end
abbrev j4(X:Cx)(x:Str)(sc:Scope)(cl:List (Str×Addr))(C:Addr)(fp:List Addr)(s:Shared)(H:Hp):Cx where
 prog:=X.prog
 w:=X.w
 K:=X.K
 mg:=X.mg
 base:=X.base
 A:=X.A
 N:=x::X.N
 s₀:=s
 H₀:=H
 env:=compEnvC sc cl C X.env
 outer:=X.stack
 stack:=X.stack
 ex:=fp
 fn:=λ_=>false
 calm:=X.calm
 pn:=[]
 xe:=λ_ _=>False
abbrev Iu(X:Cx)(ifs:List Expr)(t:TT):Prop:=
 ∀(pins:List (Addr×Obj))(s:Shared)(σ:St)(H:Hp)(Q:Bool->Hp->Prop),hA X pins σ H s->t σ H Q->
  wpAny (model X.prog X.w) X.A (forIn ifs true λc r=>if r=true then do let ok <-isTrue c X.env (eval c X.env);pure (ForInStep.yield ok)else pure (ForInStep.yield r)) (TP X pins σ Q) X.xe s
abbrev tAlways:TT:=λ_ H Q=>Q true H
def h_{A B:Hp->Prop}(h:A H):tAlways c H (λb a=>if b=true then A a else B a):=am (A:=A H) (B:=B H) h
def vi:Iu X [] tAlways:=λ_ _ _ H _ I h=>wpAny_tests_nil (H,I,h)
def dI(h:PT X c t):Iu X [c] t:=λa s b H Q I hw=>wpAny_tests_one (h a s b H Q I hw)
abbrev GP(wi:TI)(tt:TT)(te:TE):TE:=λσ H Q=>wi σ H λJ H1=>∀D,H1 D=none->∃W:Nat->Nat->List V->Hp->Prop,
 (∃m,W 0 m [] (upd H1 D (.lst [])))/\∀i m ys H2,W i m ys H2->H2 D=some (.lst ys)/\((J.stop i H2/\Q (.ref D) H2)\/(J.go i H2/\ys.length<sizeLine/\∀x H3,J.yld i H2 x H3->
  tt (some x::σ) H3 λb H4=>if b=true then te (some x::σ) H4 λy H5=>H5 D=some (.lst ys)/\∃m',m'<m/\W (i+1) m' (ys++[y]) (upd H5 D (.lst (ys++[y])))
   else ∃m',m'<m/\W (i+1) m' ys H4))
def JL{a b:Nat}(h:a≠b):(show Addr from a)≠(show Addr from b):=h
def Ly(B:∀y∈sc.names,y.2=.free->∃c,env.cells.lookup y.1<*c):∃f,closureFor sc env=pure f/\(∀y c,f.lookup y<*c->env.cells.lookup y<*c)/\∀y∈sc.names,y.2=.free->∃c,f.lookup y.1<*c:=by
 let D:∀(l:List (Str×NameKind))(b:List (Str×Addr)),(∀y∈l,y.2=.free->∃c,env.cells.lookup y.1<*c)->(∀y c,b.lookup y<*c->env.cells.lookup y<*c)->
   ∃f,(forIn l b λ(p:Str×NameKind)r=>if (p.2==.free)=true then do let a <-cellOf env p.1;pure (ForInStep.yield ((p.1,a,)::r))else pure (ForInStep.yield r):Sem (List (Str×Addr)))=pure f/\
    (∀y c,f.lookup y<*c->env.cells.lookup y<*c)/\(∀y c,b.lookup y<*c->∃g,f.lookup y<*g)/\∀y∈l,y.2=.free->∃c,f.lookup y.1<*c:=by
  intro l;induction l with
  |nil=>intro b _ t;show(b,1,t,λy c e=>(c,e),λy d=>by simp at d)
  |cons p r z=>
   intro b v t;let⟨n,k⟩:=p;by_cases w:k=.free
   .subst w;let⟨c,A⟩:=v (n,.free,) mem_cons_self rfl;let E:cellOf env n=pure c:=by unfold cellOf;rw[A]
    let x:∀y g,((n,c,)::b).lookup y<*g->env.cells.lookup y<*g:=λy g e=>by
     by_cases d:(y==n)=true
     .rw [lookup_cons,d]at e;cases e;rw[eq_of_beq d];show A
     .rw [lookup_cons,eq_false_iff.mpr d]at e;show t y g e
    let⟨f,q,o,u,m⟩:=z ((n,c,)::b) (λy d=>v y (mem_cons_of_mem _ d)) x;let j:∀y g,b.lookup y<*g->∃i,((n,c,)::b).lookup y<*i:=λy g e=>by
     by_cases d:(y==n)=true
     .exact (c,by rw[lookup_cons,d])
     .exact (g,by rw[lookup_cons,eq_false_iff.mpr d];show e)
    refine(f,3,o,λy g e=>?_,λy d h=>?_)
    .rw [forIn_cons];simp only[beq_self_eq_true,if_true,E,pure_bind];show q
    .obtain ⟨i,e'⟩:=j y g e;show u y i e'
    .rcases mem_cons.mp d with rfl|d
     .exact u n c (by rw[lookup_cons,beq_self_eq_true])
     .exact m y d h
   .let C:(k==NameKind.free)=false:=by simpa using w
    let⟨f,q,o,u,m⟩:=z b (λy d=>v y (mem_cons_of_mem _ d)) t;refine(f,3,o,u,λy d h=>?_)
    .rw [forIn_cons];simp only[C,false_eq_true,if_false,pure_bind];show q
    .rcases mem_cons.mp d with rfl|d
     .exact absurd h w
     .exact m y d h
 let⟨f,q,o,_,m⟩:=D sc.names [] B (λy c e=>by simp at e);refine(f,3,o,m);show((forIn sc.names [] λ(p:Str×NameKind)r=>if (p.2==.free)=true then do let a <-cellOf env p.1;pure (ForInStep.yield ((p.1,a,)::r))else pure (ForInStep.yield r):Sem (List (Str×Addr)))>>=λs=>pure s)=pure f;rw[bind_pure,q]
def nq(h:(relabel sc env).names.lookup y<*k):sc.names.lookup y<*k\/(k=.cell/\sc.names.lookup y=some .free/\env.kindOf y<*.cell):=by
 let f:∀(l:List (Str×NameKind)),(l.map λ(n,k)=>if (k==.free&&env.scope.kind==.function&&env.kindOf n==some .cell)then(n,NameKind.cell,)else(n,k,)).lookup y<*k->
   l.lookup y<*k\/(k=.cell/\l.lookup y=some .free/\env.kindOf y<*.cell):=by
  intro l;induction l with
  |nil=>intro h;simp at h
  |cons p r d=>
   let⟨n,c⟩:=p;intro h;simp only[map_cons]at h;by_cases b:(c==NameKind.free&&env.scope.kind==.function&&env.kindOf n==some .cell)=true
   .rw [if_pos b]at h;rw[lookup_cons]at h⊢;cases a:y==n with
    |true=>
     rw[a]at h;let e:k=.cell:=(Option.some.inj h).symm;let i:c=.free:=by
      have:=(Bool.and_eq_true_iff.mp (Bool.and_eq_true_iff.mp b).1).1;simpa using this
     let g:env.kindOf n<*.cell:=by
      have:=(Bool.and_eq_true_iff.mp b).2;simpa using this
     rw[eq_of_beq a];show .inr (e,by rw[i],g)
    |false=>
     rw[a]at h;show d h
   .rw [if_neg b]at h;rw[lookup_cons]at h⊢;cases a:y==n with
    |true=>rw[a]at h;show .inl h
    |false=>rw[a]at h;show d h
 show f sc.names h
section
variable{X:Cx}{elt iter:Expr}{x:Str}{px pos:Pos}{ifs:List Expr}{sc:Scope}{wi:TI}{tt:TT}{te:TE}
end
def iQ{k:TT}{h:St}{Q:VK}(p:Nat->Bool)(hz:x.length≤sizeLine)(r:∀(i:Nat)(c:Nat)(H':Hp)(R:Bool->Hp->Prop),x.cps[i]?<*c->R (p c) H'->k (some (.str ⟨#[c]⟩)::h) H' R)(s:∀D,H D=none->Q (.ref D) (upd H D (.lst ((x.cps.toList.filter p).map λc=>V.str ⟨#[c]⟩)))):∀D,H D=none->∃W:Nat->Nat->List V->Hp->Prop,
 (∃m,W 0 m [] (upd H D (.lst [])))/\∀i m ys a,W i m ys a->a D=some (.lst ys)/\(((Ir x).stop i a/\Q (.ref D) a)\/((Ir x).go i a/\ys.length<sizeLine/\∀y j,(Ir x).yld i a y j->
  k (some y::h) j λb o=>if b=true then bP 0 (some y::h) o λz n=>n D=some (.lst ys)/\∃f,f<m/\W (i+1) f (ys++[z]) (upd n D (.lst (ys++[z])))
   else ∃f,f<m/\W (i+1) f ys o)):=by
 intro D t;refine(λi m ys a=>m=x.length-i/\i≤x.length/\ys=((x.cps.toList.take i).filter p).map (λc=>V.str ⟨#[c]⟩)/\a=upd H D (.lst ys),(x.length,!1,zero_le _,!1,1),3);rintro i m ys a⟨rfl,v,rfl,rfl⟩;refine(a_,3);by_cases d:i<x.length
 .refine .inr (d,3,λy j q=>?_)
  .rw [ix];have:=length_filter_le p (x.cps.toList.take i);rw[length_take]at this;lia
  .obtain ⟨e,c,l,u⟩:=q;subst e u;let g:x.cps.toList[i]?<*c:=by simpa using l
   refine r i c _ _ l ?_;cases hp:p c with
   |true=>
    refine am (0,a_,x.length-(i+1),!2,1,d,9)
    .rw [take_add_one,g,filter_append,map_append];simp[hp]
    .rw [JD]
   |false=>
    refine af (x.length-(i+1),!2,1,d,3,1);rw[take_add_one,g,filter_append,map_append];simp[hp]
 .let e:i=x.length:=by lia
  subst e;refine .inl (Nat.le_refl _,3);rw[show x.length=x.cps.toList.length by simp[Str.length],take_length];show s D t
def gL{a:St}(p:Nat->Bool)(d:a[j]?<*some (.str x))(hz:x.length≤sizeLine)(e:∀(i:Nat)(c:Nat)(H':Hp)(R:Bool->Hp->Prop),x.cps[i]?<*c->R (p c) H'->b (some (.str ⟨#[c]⟩)::a) H' R)(f:∀D,H D=none->Q (.ref D) (upd H D (.lst ((x.cps.toList.filter p).map λc=>V.str ⟨#[c]⟩)))):GP (sR (bP j)) b (bP 0) a H Q:=(_,d,x,1,iQ p hz e f)
abbrev Df(P:Program)(w:World)(K:Frag)(mg:Str->Option Value)(base:Heap)(x:Str)(k:Nat)(ps:List Str)(sp:Sp):Prop:=
 ∃(f:Addr)(fd:FuncData),mg x=some (.ref f)/\keepIn K (.ref f)=true/\vC K fd ps []/\aa P w K mg base kd k f fd ps sp
def mr{p pos:Pos}(D:Df X.prog X.w X.K X.mg X.base x k ps d)(g:ag k X.A)(j:PA X (e::a) t)(h:Gl X x>>>4)(c:((x==("__debug__":Str))=false)>>>0)(i:(starEach (e::a) X.env=(false,eval e X.env,)::starEach a X.env)>>>4)(b:((backTo pos (starEach a X.env)).any (·.1)=false)>>>4):PE X (.Call (.Name x p) (e::a) [] pos) (vY d [] E0 t):=by
 let⟨f,o,n,m,l,F⟩:=D;show jr F g h n m l .nil ci j c i b
def nN{c A B:Prop}[Decidable c](a:c)(h:A):if decide c=true then A else B:=by
 rw[decide_eq_true a];show am h
def nM{c A B:Prop}[Decidable c](a:¬ c)(h:B):if decide c=true then A else B:=by
 rw[decide_eq_false a];show af h
def aB{c A B:Prop}[Decidable c](b:c->A)(a:¬ c->B):if decide c=true then A else B:=by
 by_cases h:c
 .exact nN h (b h)
 .exact nM h (a h)
def b'.upd(n:H D=none):b' H (upd H D o):=λb u e=>by rw[b_ (f' e n)];show e
def kA(h:n≤16777216):n≤sizeLine:=by rw[sizeLine_eq];show h
def iX{xs:List b}{i:Int}(h0:0≤i)(c:i<xs.length):∃v,ux xs i=some v/\xs[i.toNat]?<*v:=by
 let⟨j,rfl⟩:=Int.eq_ofNat_of_zero_le h0;let a:j<xs.length:=by lia
 show(xs[j],wu (by simp[a]),by simp[a])
abbrev tO(t u:TS):TS:=λD σ H=>∃M:St->Hp->Prop,t {D with nx:=M} σ H/\∀σ' H',M σ' H'->u D σ' H'
def IV{st:Stmt}(i:PS X st t)(g:wo X rest u):wo X (st::rest) (tO t u):=by
 intro a s c H D I h;let⟨M,h,e⟩:=h;refine wpAny_execs_cons (kl (i a s c H {D with nx:=M} I h) λf d q=>?_);cases f with
 |next=>
  let⟨b,H',j,q⟩:=q;show g a d b H' D j (e b H' q)
 |ret v=>show q
 |brk=>show q
 |cont=>show q
abbrev cutI(ns:List Int)(lo hi:Option Int):List Int:=(ns.drop (HT.sIx ns.length 0 lo)).take (HT.sIx ns.length ns.length hi-HT.sIx ns.length 0 lo)
def k9(ns:List Int)(lo a:Option Int):vo (ns.map V.int) lo a=(cutI ns lo a).map V.int:=by
 unfold vo cutI;rw[ix,List.map_take,List.map_drop]
def gH(ns:List Int)(lo a:Option Int):(cutI ns lo a).length≤ns.length:=by
 unfold cutI;rw[length_take,length_drop];lia
section
variable{X:Cx}
def wh:uq X (binaryOp .Mod) (rI (λ_ j=>0<j) λi j=>.int (i%j)):=Jm
def pi:uq X (binaryOp .FloorDiv) (rI (λ_ j=>0<j/\j<1073741824) λi j=>.int (i/j)):=J'
def uy:uq X (binaryOp .Add) (Ij λi j=>.int (i+j)):=iu
def dU:uq X (binaryOp .Sub) (Ij λi j=>.int (i-j)):=qK
def Jn:uq X (binaryOp .Mult) (rI (λi j=>(-(2^64)<i/\i<2^64)\/(-(2^64)<j/\j<2^64)) λi j=>.int (i*j)):=qL
end
section
variable{X:Cx}
def JN:uq X (binaryOp .Mod) (λx y H Q=>∃i j,x=.int i/\y=.int j/\0<j/\∀r,0≤r->r<j->Q (.int r) H):=by
 intro a s c H x y v u Q I e d h;let⟨i,j,g,f,b,q⟩:=h;show Jm a s c H x y v u Q I e d (i,j,g,f,b,q _ (emod_nonneg _ (!6)) (Int.emod_lt_of_pos _ b))
def mT:uq X (binaryOp .FloorDiv) (λx y H Q=>∃i j,x=.int i/\y=.int j/\tF i j/\0≤i/\∀r,0≤r->Q (.int r) H):=by
 intro a s c H x y v u Q I e d h;let⟨i,j,k,g,b,f,q⟩:=h;show J' a s c H x y v u Q I e d (i,j,k,g,b,q _ (Int.ediv_nonneg f (by have:=b.1;lia)))
end
def n7(h:H a<*o)(n:H b=none):upd H b u a<*o:=by
 rw[b_ (f' h n)];show h
def i0(h:H a<*o)(n:H b<*v)(d:o≠v):upd H b u a<*o:=by
 rw[b_ (m3 h n d)];show h
def qU(K:Frag):kitOne K (.type "int") (.type "bool")<*false:=by kernel_rfl
def qT(K:Frag):kitOne K (.type "int") (.type "int")<*true:=by with_unfolding_all rfl
def Jo(K:Frag):kitOne K (.type "bool") (.type "bool")<*true:=by with_unfolding_all rfl
section
variable{X:Cx}
end
section
variable{X:Cx}
end
end L2
namespace L2
inductive E2{a0 a1:Type}(p:a0->a1->Prop):Prop
 |mk (x0:a0) (x1:a1) (h:p x0 x1)
inductive E3{a0 a1 a2:Type}(p:a0->a1->a2->Prop):Prop
 |mk (x0:a0) (x1:a1) (x2:a2) (h:p x0 x1 x2)
inductive E4{a0 a1 a2 a3:Type}(p:a0->a1->a2->a3->Prop):Prop
 |mk (x0:a0) (x1:a1) (x2:a2) (x3:a3) (h:p x0 x1 x2 x3)
inductive E5{a0 a1 a2 a3 a4:Type}(p:a0->a1->a2->a3->a4->Prop):Prop
 |mk (x0:a0) (x1:a1) (x2:a2) (x3:a3) (x4:a4) (h:p x0 x1 x2 x3 x4)
inductive E6{a0 a1 a2 a3 a4 a5:Type}(p:a0->a1->a2->a3->a4->a5->Prop):Prop
 |mk (x0:a0) (x1:a1) (x2:a2) (x3:a3) (x4:a4) (x5:a5) (h:p x0 x1 x2 x3 x4 x5)
inductive E8{a0 a1 a2 a3 a4 a5 a6 a7:Type}(p:a0->a1->a2->a3->a4->a5->a6->a7->Prop):Prop
 |mk (x0:a0) (x1:a1) (x2:a2) (x3:a3) (x4:a4) (x5:a5) (x6:a6) (x7:a7) (h:p x0 x1 x2 x3 x4 x5 x6 x7)
inductive A3(a0 a1 a2:Prop):Prop
 |mk (_:a0) (_:a1) (_:a2)
inductive A4(a0 a1 a2 a3:Prop):Prop
 |mk (_:a0) (_:a1) (_:a2) (_:a3)
inductive A5(a0 a1 a2 a3 a4:Prop):Prop
 |mk (_:a0) (_:a1) (_:a2) (_:a3) (_:a4)
inductive A6(a0 a1 a2 a3 a4 a5:Prop):Prop
 |mk (_:a0) (_:a1) (_:a2) (_:a3) (_:a4) (_:a5)
inductive A7(a0 a1 a2 a3 a4 a5 a6:Prop):Prop
 |mk (_:a0) (_:a1) (_:a2) (_:a3) (_:a4) (_:a5) (_:a6)
inductive A8(a0 a1 a2 a3 a4 a5 a6 a7:Prop):Prop
 |mk (_:a0) (_:a1) (_:a2) (_:a3) (_:a4) (_:a5) (_:a6) (_:a7)
inductive A9(a0 a1 a2 a3 a4 a5 a6 a7 a8:Prop):Prop
 |mk (_:a0) (_:a1) (_:a2) (_:a3) (_:a4) (_:a5) (_:a6) (_:a7) (_:a8)
inductive NS(a0 a1 a2 a3 a4 a5 a6 a7 a8 a9 a10:Prop):Prop
 |mk (_:a0) (_:a1) (_:a2) (_:a3) (_:a4) (_:a5) (_:a6) (_:a7) (_:a8) (_:a9) (_:a10)
end L2
namespace RA
open PySem.StrLaws Builtin Builtin.Str
abbrev tx(l:LN):Str:=⟨l.toArray⟩
def vp(l:LN):(tx l).cps.toList=l:=by simp[tx]
def nb(l:LN):(tx l).length=l.length:=by simp[tx,Str.length]
def H_(a b:LN):tx a++tx b=tx (a++b):=by
 apply Str.ext';change a.toArray++b.toArray=(a++b).toArray;simp
def vM(h:tx a=tx b):a=b:=by
 have:=congrArg (λs:Str=>s.cps.toList) h;simpa[tx]using this
def JM(l:LN)(i:Nat):(tx l).cps[i]?=l[i]?:=by simp[tx]
def vr(l:LN)(c i:Nat):At (tx l) ⟨#[c]⟩ (tx l).length i↔l[i]?<*c:=by
 let h:=subAt_one (tx l) c i;rw[vp]at h;show h
def KN(l:LN)(c:Nat):Txt.contains (tx l) ⟨#[c]⟩=decide (c∈l):=by
 let h:=found_one (tx l) c;rw[vp]at h;show h
def bC:∀{l:LN}{c i:Nat},l[i]?<*c->l.idxOf c≤i
 |[],_,_,h=>by simp at h
 |a::l,c,0,h=>by
  let e:a=c:=by simpa using h
  subst e;simp
 |a::l,c,i+1,h=>by
  rw[idxOf_cons];cases e:a==c with
  |true=>simp
  |false=>
   have:=bC (l:=l) (c:=c) (i:=i) (by simpa using h);simp;omega
def Kc(h:c∈l):Txt.find (tx l) ⟨#[c]⟩=(l.idxOf c:Nat):=by
 unfold Txt.find;rcases occ_head (tx l) ⟨#[c]⟩ 1 (Nat.le_refl _)with⟨_,b⟩|⟨i,r,e,f,b⟩
 .obtain ⟨i,d⟩:=mem_iff_getElem?.mp h;show absurd ((vr l c i).mpr d) (b i)
 .rw [e];let d:=(vr l c i).mp f;let a:l.idxOf c<l.length:=idxOf_lt_length_of_mem h;let g:l[l.idxOf c]?<*c:=by
   rw[hH a,getElem_idxOf a]
  let k:¬ l.idxOf c<i:=λz=>b _ z ((vr l c _).mpr g);let j:l.idxOf c≤i:=by
   show bC d
  have:i=l.idxOf c:=by lia
  rw[this]
def mo(x:Str)(h:0≤j):Txt.slice x none (some j)=tx (x.cps.toList.take j.toNat):=by
 let c:∀j:Int,0≤j->j≤x.cps.toList.length->Txt.slice x none (some j)=tx (x.cps.toList.take j.toNat):=λj h0 g=>by
  let e:Txt.slice x none (some j)=sliceText x none (some j):=rfl;rw[e,sliceText_to (h0,g)];simp[tx]
 by_cases f:j≤x.cps.toList.length
 .exact c j h f
 .let e:Txt.slice x none (some j)=Txt.slice x none (some (x.length:Int)):=by
   let d:x.length=x.cps.toList.length:=by simp[Str.length]
   let k:strSliceIndices none (some j) 1 x.length=strSliceIndices none (some (x.length:Int)) 1 x.length:=by
    let a:¬ (j<0):=by lia
    let b:¬ ((x.length:Int)<0):=by lia
    let m:min j (x.length:Int)=(x.length:Int):=by lia
    simp[strSliceIndices,a,b,m]
   unfold Txt.slice;rw[k]
  rw[e,c _ (!6) (by simp[Str.length])];let d:x.length=x.cps.toList.length:=by simp[Str.length]
  rw[take_of_length_le (i:=j.toNat) (!6),take_of_length_le (!6)]
def KO(x:Str){i:Int}(h:0≤i)(a:i≤x.cps.toList.length):Txt.slice x (some i) none=tx (x.cps.toList.drop i.toNat):=by
 let e:Txt.slice x (some i) none=sliceText x (some i) none:=rfl;rw[e,sliceText_from (h,a)];let b:((x.cps.toList.length:Int)-i).toNat=(x.cps.toList.drop i.toNat).length:=by rw[length_drop];lia
 rw[b,take_length];rfl
def nv(a b:Nat):(!decide ((⟨#[b]⟩:Str).cps.toList<(⟨#[a]⟩:Str).cps.toList))=decide (a≤b):=by
 show(!decide ([b]<[a]))=decide (a≤b);rw[lt_cons_cons,lt_nil_nil,Bool.and_false,Bool.or_false];by_cases h:a≤b
 .rw [decide_eq_false (!6),decide_eq_true h];rfl
 .rw [decide_eq_true (!6),decide_eq_false h];rfl
def gI(l:LN)(c:Nat):∀(b:LN)(a f:Nat),ChainG (tx l) ⟨#[c]⟩ (tx l).length a b f->(∀k,f≤k->¬ At (tx l) ⟨#[c]⟩ (tx l).length k)->(l.drop a).count c=b.length:=by
 intro b;induction b with
 |nil=>
  intro a f h j;let e:f=a:=h;subst e;rw[List.length_nil,List.count_eq_zero];intro m;let⟨i,g⟩:=mem_iff_getElem?.mp m;rw[getElem?_drop]at g;show j _ (le_add_right _ _) ((vr l c _).mpr g)
 |cons d r o=>
  intro a f h j;let⟨x,v,u,t⟩:=h;let s:=(vr l c d).mp v;let q:=o (d+1) f t j;let⟨n,w⟩:=j0 s;let split:l.drop a=(l.drop a).take (d-a)++c::l.drop (d+1):=by
   conv=>lhs;rw[<-take_append_drop (d-a) (l.drop a)]
   rw[List.drop_drop,show a+(d-a)=d by lia,drop_eq_getElem_cons n,w]
  rw[split,List.count_append,List.count_cons_self,q,length_cons];let z:((l.drop a).take (d-a)).count c=0:=by
   rw[List.count_eq_zero];intro m;let⟨i,g⟩:=mem_iff_getElem?.mp m;rw[List.getElem?_take]at g;split at g
   .rename_i p;rw[getElem?_drop]at g;show u (a+i) (le_add_right _ _) (!6) ((vr l c _).mpr g)
   .cases g
  lia
def GY(l:LN)(c:Nat):Txt.count (tx l) ⟨#[c]⟩=(l.count c:Nat):=by
 unfold Txt.count;let⟨f,b,a⟩:=occ_tight (tx l) ⟨#[c]⟩ (by simp[Str.length]);let q:=gI l c _ 0 f b a;rw[List.drop_zero]at q;rw[q]
structure vN(L:LN):Prop where
 lo:1≤L.length
 hi:L.length≤3
 nd:L.Nodup
 az:∀c∈L,97≤c/\c≤122
abbrev val(L:LN):Int->LN->Int
 |v,[]=>v
 |v,c::w=>val L (v*(L.length:Int)+(L.idxOf c:Nat)+1) w
def ja(L:LN):∀(a b:LN)(v:Int),val L v (a++b)=val L (val L v a) b
 |[],_,_=>rfl
 |_::a,b,_=>ja L a b _
def KP(L w:LN)(c:Nat)(v:Int):val L v (w++[c])=val L v w*(L.length:Int)+(L.idxOf c:Nat)+1:=by
 rw[ja];rfl
def vN.three(h:vN L):(L.length:Int)=1\/(L.length:Int)=2\/(L.length:Int)=3:=by
 have:=h.lo;have:=h.hi;lia
def Ke{L:LN}(b:L.Nodup)(h:i<L.length):L.idxOf L[i]=i:=by
 let f:=bC (l:=L) (c:=L[i]) (i:=i) (by simp[h]);let a:L.idxOf L[i]<L.length:=by omega
 let e:=getElem_idxOf a;by_cases d:L.idxOf L[i]<i
 .exact absurd e (pairwise_iff_getElem.mp b _ _ a h d)
 .lia
def on{f l:LN}(b:i<l.length)(a:(f++l).Nodup):((f++[l[i]])++(l.take i++l.drop (i+1))).Nodup/\∀c,c∈(f++[l[i]])++(l.take i++l.drop (i+1))->c∈f++l:=by
 let e:l=l.take i++l[i]::l.drop (i+1):=by
  conv=>lhs;rw[<-take_append_drop i l,drop_eq_getElem_cons b]
 let p:(f++l).Perm ((f++[l[i]])++(l.take i++l.drop (i+1))):=by
  conv=>lhs;rw[e]
  rw[append_assoc];refine List.Perm.append_left f ?_;show(l.take i++l[i]::l.drop (i+1)).Perm (l[i]::(l.take i++l.drop (i+1)));show List.perm_middle
 show(p.nodup_iff.mp a,λc d=>p.mem_iff.mpr d)
end RA
namespace RA
open L2
def rq:(Str.ofString "abcdefghijklmnopqrstuvwxyz")=tx (List.range' 97 26):=by decide +kernel
def bG:(Str.ofString "")=tx []:=by decide +kernel
structure hF(L:LN)(W:LL)(B:List Bool):Prop where
 lt:vN L
 n1:1≤W.length
 n60:W.length≤2100
 bl:B.length=W.length
 row:∀ws∈W,ws.length=L.length/\∀x∈ws,x<W.length
abbrev uR(L:LN)(W:LL)(r c:Nat):Nat:=(W.getD r []).getD (L.idxOf c) 0
abbrev run(L:LN)(W:LL)(r:Nat)(w:LN):Nat:=w.foldl (uR L W) r
def hF.at(h:hF L W B)(b:r<W.length)(e:c∈L):∃ws x,W[r]?=some ws/\ws[L.idxOf c]?=some x/\uR L W r c=x/\x<W.length:=by
 let hw:W[r]?<*W[r]:=by simp[b]
 let⟨g,f⟩:=h.row W[r] (getElem_mem b);let d:L.idxOf c<W[r].length:=by rw[g];show idxOf_lt_length_of_mem e
 let a:W[r][L.idxOf c]?<*W[r][L.idxOf c]:=by simp[d]
 refine(W[r],W[r][L.idxOf c],hw,a,3,f _ (getElem_mem d));unfold uR;let i:W.getD r []=W[r]:=by
  rw[mu,hw];rfl
 rw[i,mu,a];rfl
def Ia(L:LN)(W:LL)(r:Nat)(w:LN)(c:Nat):run L W r (w++[c])=uR L W (run L W r w) c:=by
 unfold run;rw[List.foldl_append];rfl
def ur{L:LN}{W:LL}{B:List Bool}(h:hF L W B):∀{w:LN}{r:Nat},r<W.length->(∀c∈w,c∈L)->run L W r w<W.length
 |[],_,a,_=>a
 |c::w,r,a,hw=>by
  let⟨ws,x,_,_,e,b⟩:=h.at a (hw c (!1));show ur h (w:=w) (r:=uR L W r c) (by rw[e];show b) λd f=>hw d (by simp[f])
abbrev c_(ws:LN):List V:=ws.map λ(n:Nat)=>V.int (n:Int)
abbrev BF(H:Hp)(rows:List Addr)(W:LL):Prop:=∀(i:Nat)(r:Addr),rows[i]?<*r->∃ws,W[i]?=some ws/\H r<*.tup (c_ ws)
inductive p'(H:Hp)(m:Addr)(L:LN)(W:LL)(B:List Bool):Prop
 |mk (wy mk:Addr) (rows:List Addr) (_:H m<*.tup [.str (tx L),.ref wy,.ref mk]) (_:H wy<*.tup (rows.map V.ref)) (_:H mk<*.tup (B.map V.bl)) (_:rows.length=W.length) (_:BF H rows W)
def BF.same(h:BF H a W)(s:b' H H'):BF H' a W:=λi r e=>by
 let⟨ws,c,b⟩:=h i r e;show(ws,c,s _ _ b)
def p'.same(h:p' H m L W B)(s:b' H H'):p' H' m L W B:=by
 let⟨b,mk,a,g,f,e,d,c⟩:=h;show(b,mk,a,s _ _ g,s _ _ f,s _ _ e,d,c.same s)
def vZ{a b:Type}{xs:List a}(f:a->b){x:a}(h:xs[i]?<*x):ux (xs.map f) ((i:Nat):Int)<*f x:=wu (by rw[lv,h];rfl)
def Kf:∀{a b:LN},a.Nodup->(∀c∈a,c∈b)->a.length≤b.length
 |[],_,_,_=>zero_le _
 |c::a,b,j,h=>by
  let⟨n,m,e⟩:=List.append_of_mem (h c (!1));let⟨l,k⟩:=nodup_cons.mp j;have:=Kf (a:=a) (b:=n++m) k λd i=>by
   let f:=h d (by simp[i]);rw[e]at f;let g:d≠c:=λz=>l (z▸i);simp[g]at f;simpa using f
  rw[e];simp at this⊢;lia
end RA
namespace RA
def lO(L:LN):∀(w:LN)(v:Int),0≤v->0≤val L v w
 |[],_,h=>h
 |c::w,v,h=>by
  let a:0≤v*(L.length:Int):=Int.mul_nonneg h (!6);show lO L w _ (!6)
def lP(h:vN L)(a:c∈L):0<val L 0 (p++[c])/\(val L 0 (p++[c])-1)%(L.length:Int)=((L.idxOf c:Nat):Int)/\(val L 0 (p++[c])-1)/(L.length:Int)=val L 0 p/\val L 0 p<val L 0 (p++[c]):=by
 let h0:=lO L p 0 (!6);let b:L.idxOf c<L.length:=idxOf_lt_length_of_mem a;rw[KP];generalize val L 0 p=v at h0⊢;rcases h.three with e|e|e<;>rw[e]<;>refine(9,9)<;>lia
abbrev ah(L:LN):LN->LN->Bool
 |c::a,d::b=>if c=d then ah L a b else decide (L.idxOf c<L.idxOf d)
 |_,_=>false
abbrev o4(L a b:LN):Bool:=if a.length≠b.length then decide (a.length<b.length)else ah L a b
def pD(L:LN){a b:LN}(f:a[i]?<*c)(e:b[i]?<*d):ah L (a.drop i) (b.drop i)=if c=d then ah L (a.drop (i+1)) (b.drop (i+1))else decide (L.idxOf c<L.idxOf d):=by
 let⟨h,k⟩:=j0 f;let⟨g,j⟩:=j0 e;rw[drop_eq_getElem_cons h,drop_eq_getElem_cons g,k,j];rfl
end RA
namespace L2
namespace RV
section
variable{prog:Program}{w:World}{A:Around}{E:Value->Shared->Prop}{s:Shared}
end
end RV
namespace ZP
abbrev aE(S:List Addr)(h h':Heap):Prop:=h'.objs.size=h.objs.size/\∀c o,c∉S->h.get? c<*o->h'.get? c<*o
def aE.one(x:SameBut a h h')(m:a∈S):aE S h h':=(x.1,λc o b e=>(x.2 c λq=>b (q▸m)).trans e)
def aE.trans(x:aE S h d)(y:aE S d b):aE S h b:=(y.1.trans x.1,λc o a e=>y.2 c o a (x.2 c o a e))
section
variable{prog:Program}{w:World}{A:Around}{E:Value->Shared->Prop}{s:Shared}{z TI TO i1 i2:Addr}{f1 f2:List Addr}{n1 n2 k:Nat}{P1 P2:Nat->Value->Prop}{S1 S2:Nat->Heap->Prop}{a b:Value}
def IW{Q:Value->Shared->Prop}(D1:Draws prog w A i1 f1 n1 P1 S1)(D2:Draws prog w A i2 f2 n2 P2 S2)(m1:∀c∈f1,c=i1\/c∉[z,TO,i1,i2])(m2:∀c∈f2,c=i2\/c∉[z,TO,i1,i2])(d:ZipApart z TI TO i1 i2 TI TI)(hz:IsZip s.heap z TI TO .none)(B:IsPair s.heap TI (.ref i1) (.ref i2))(U:IsPair s.heap TO a b)(h1:S1 k s.heap)(h2:S2 k s.heap)(l1:k<n1)(l2:k<n2)(hQ:∀x y h' tk,P1 k x->P2 k y->IsZip h' z TI TO (rawInt s⁻¹)->IsPair h' TI (.ref i1) (.ref i2)->IsPair h' TO x y->S1 (k+1) h'->S2 (k+1) h'->IsPair h' s⁻¹ x y->
   (∀c o,c∉[z,TO,i1,i2]->s.heap.get? c<*o->h'.get? c<*o)->Q (.ref s⁻¹) {s with heap:=h',toks:=tk}):wpAny (model prog w) A (Builtin.«zip.__next__» ([.ref z],[])) (λW s'=>∃v,W=.done (.ret v)/\Q v s') E s:=by
 unfold Builtin.«zip.__next__»;refine g_ (wpAny_of_eq (a:=(Value.ref z,[],)) rfl (g_ (wpAny_field hz rfl (x:=.bool false) rfl (g_ (wpAny_field hz rfl (x:=.ref TI) rfl (g_ (wpAny_seqItems B rfl ?_)))))));refine wpAny_ite_false (!1) (g_ ?_);unfold Builtin.SmallTypes.ownedTupleIsFree;refine g_ (wpAny_field hz rfl (x:=.none) rfl (j3 (wpAny_ite_true (!0) (g_ (wpAny_rule (g_ (wpAny_field hz rfl (x:=.ref TO) rfl (g_ (wpAny_setField_rec hz (!1) λg1 z1 I=>?_)))))))));let R:aE [z,TO,i1,i2] s.heap g1:=.one I (!1);let n:∀{j:Nat}{g g':Heap},(∀c o,c∉[z,TO,i1,i2]->g.get? c<*o->g'.get? c<*o)->S1 j g->(∀o,g.get? i1<*o->g'.get? i1<*o)->S1 j g':=λk st e=>D1.frame _ _ _ st λc h=>by
  rcases m1 c h with rfl|T
  .exact e
  .exact λo q=>k c o T q
 let l:∀{j:Nat}{g g':Heap},(∀c o,c∉[z,TO,i1,i2]->g.get? c<*o->g'.get? c<*o)->S2 j g->(∀o,g.get? i2<*o->g'.get? i2<*o)->S2 j g':=λk st e=>D2.frame _ _ _ st λc h=>by
  rcases m2 c h with rfl|T
  .exact e
  .exact λo q=>k c o T q
 simp only[List.zipIdx_cons,List.zipIdx_nil,forIn_cons,forIn_nil];refine g_ (g_ (g_ (wpAny_onRaise (g_ (m:=Builtin.SmallTypes.nextOf (.ref i1)) (D1.item k _ _ _ l1 (n R.2 h1 λo e=>(I.2 i1 d.i1z).trans e) λx g2 t2 p1 d1 D=>j3 ?_)))));let Z:IsPair g2 TO a b:=(D.2 TO d.TOi1).trans ((I.2 TO d.TOz).trans U);refine g_ (wpAny_seqItems Z rfl (g_ (wpAny_updateSeq_pair Z λg3 o3 r=>g_ (wpAny_letGo (j3 (g_ (g_ (wpAny_onRaise (g_ (m:=Builtin.SmallTypes.nextOf (.ref i2)) (D2.item k _ _ _ l2 (l ((R.trans (.one D (!1))).trans (.one r (!1))).2 h2 λo e=>?_) λy g4 t4 p2 d2 C=>j3 ?_))))))))))
 .exact (r.2 i2 d.TOi2.symm).trans ((D.2 i2 d.i12.symm).trans ((I.2 i2 d.i2z).trans e))
 let Y:IsPair g4 TO x b:=(C.2 TO d.TOi2).trans o3;refine g_ (wpAny_seqItems Y rfl (g_ (wpAny_updateSeq_pair Y λf G p=>g_ (wpAny_letGo (j3 (j3 ?_))))));replace G:IsPair f TO x y:=G;let P:aE [z,TO,i1,i2] s.heap f:=(((R.trans (.one D (!1))).trans (.one r (!1))).trans (.one C (!1))).trans (.one p (!1));let X:IsZip f z TI TO .ellipsis:=(p.2 z d.TOz.symm).trans ((C.2 z d.i2z.symm).trans ((r.2 z d.TOz.symm).trans ((D.2 z d.i1z.symm).trans z1)));let O:S1 (k+1) f:=n (((aE.one (S:=[z,TO,i1,i2]) r (!1)).trans (.one C (!1))).trans (.one p (!1))).2 d1 λo e=>(p.2 i1 d.TOi1.symm).trans ((C.2 i1 d.i12).trans ((r.2 i1 d.TOi1.symm).trans e));let N:S2 (k+1) f:=l (aE.one (S:=[z,TO,i1,i2]) p (!1)).2 d2 λo e=>(p.2 i2 d.TOi2.symm).trans e;refine g_ (wpAny_seqItems G rfl (g_ (wpAny_newTuple ?_)));unfold Builtin.SmallTypes.ownedTupleHandOut;let z6:IsZip (f.push {cls:=.type "tuple",data:=.seq #[x,y]}) z TI TO .ellipsis:=mJ _ X;refine g_ (g_ (wpAny_setField_rec z6 (!1) λg7 L c7=>?_));replace L:IsZip g7 z TI TO (rawInt f.objs.size):=L;refine wpAny_setField_rec L (!1) λH F c8=>j3 (0,3);replace F:IsZip H z TI TO (rawInt f.objs.size):=F;let i:∀c o,c≠z->f.get? c<*o->H.get? c<*o:=λc o h e=>(c8.2 c h).trans ((c7.2 c h).trans (mJ _ e));let t:f.objs.size≠z:=ne_of_gt (lt_size X);let u:IsPair H f.objs.size x y:=(c8.2 _ t).trans ((c7.2 _ t).trans (get?_push_size _ rfl));let sz:f.objs.size=s⁻¹:=P.1;let M:IsPair f TI (.ref i1) (.ref i2):=P.2 TI _ (by simp[d.TIz,d.TITO,d.TIi1,d.TIi2]) B;change Q (.ref f.objs.size) _;rw[sz]at F u⊢;show hQ x y H t4 p1 p2 F (i _ _ d.TIz M) (i _ _ d.TOz G) (n (λc o h e=>i c o (λq=>h (by simp[q])) e) O λo e=>i _ o d.i1z e) (l (λc o h e=>i c o (λq=>h (by simp[q])) e) N λo e=>i _ o d.i2z e) u λc o h e=>i c o (λq=>h (by simp[q])) (P.2 c o h e)
def HD(N:Draws prog w A i1 f1 n1 P1 S1)(W:Draws prog w A i2 f2 n2 P2 S2)(m1:∀c∈f1,c=i1\/c∉[z,TO,i1,i2])(m2:∀c∈f2,c=i2\/c∉[z,TO,i1,i2])(d:ZipApart z TI TO i1 i2 TI TI)(hz:IsZip s.heap z TI TO .none)(H:IsPair s.heap TI (.ref i1) (.ref i2))(G:IsPair s.heap TO a b)(h1:S1 k s.heap)(h2:S2 k s.heap)(t:k=n1\/(k<n1/\k=n2))(hE:∀h' e l,(∀c o,c∉[z,TO,i1,i2]->s.heap.get? c<*o->h'.get? c<*o)->(∃o,h'.get? e=some o/\o.cls=.type "StopIteration")->E (.ref e) {s with heap:=h',toks:=l}):wpAny (model prog w) A (Builtin.«zip.__next__» ([.ref z],[])) Q E s:=by
 unfold Builtin.«zip.__next__»;refine g_ (wpAny_of_eq (a:=(Value.ref z,[],)) rfl (g_ (wpAny_field hz rfl (x:=.bool false) rfl (g_ (wpAny_field hz rfl (x:=.ref TI) rfl (g_ (wpAny_seqItems H rfl (wpAny_ite_false (!1) (g_ ?_)))))))));unfold Builtin.SmallTypes.ownedTupleIsFree;refine g_ (wpAny_field hz rfl (x:=.none) rfl (j3 (wpAny_ite_true (!0) (g_ (wpAny_rule (g_ (wpAny_field hz rfl (x:=.ref TO) rfl (g_ (wpAny_setField_rec hz (!1) λI P B=>?_)))))))));let v:aE [z,TO,i1,i2] s.heap I:=.one B (!1);let M:∀{j:Nat}{g g':Heap},(∀c o,c∉[z,TO,i1,i2]->g.get? c<*o->g'.get? c<*o)->S1 j g->(∀o,g.get? i1<*o->g'.get? i1<*o)->S1 j g':=λk st e=>N.frame _ _ _ st λc i=>by
  rcases m1 c i with rfl|D
  .exact e
  .exact λo q=>k c o D q
 let L:∀{j:Nat}{g g':Heap},(∀c o,c∉[z,TO,i1,i2]->g.get? c<*o->g'.get? c<*o)->S2 j g->(∀o,g.get? i2<*o->g'.get? i2<*o)->S2 j g':=λk st e=>W.frame _ _ _ st λc i=>by
  rcases m2 c i with rfl|D
  .exact e
  .exact λo q=>k c o D q
 let R:S1 k I:=M v.2 h1 λo e=>(B.2 i1 d.i1z).trans e;let n:∀(it:Addr)(g g':Heap)(e:Addr)(l:Nat),it=i1\/it=i2->aE [z,TO,i1,i2] s.heap g->IsZip g z TI TO .ellipsis->Heap.ExtBut it g g'->(∃o,g'.get? e=some o/\o.cls=.type "StopIteration")->
   wpAny (model prog w) A (setField (.ref z) 0 .none) (λ_ s'=>E (.ref e) s') E {s with heap:=g',toks:=l}:=λit g g' e l p hk hg T f=>by
  let⟨oe,f,U⟩:=f;let C:z≠it:=by rcases p with q|q<;>rw[q];show d.i1z.symm;show d.i2z.symm
  let O:IsZip g' z TI TO .ellipsis:=T z _ C hg;let ez:e≠z:=λq=>by
   rw[q]at f;have:=congrArg (Option.map Obj.cls) (f.symm.trans O);rw[Option.map_some,Option.map_some,U]at this;show absurd (show Value.type "StopIteration"=Value.type "zip" from Option.some.inj this) (!0)
  refine wpAny_setField_rec (s:={s with heap:=g',toks:=l}) O (!1) λu _ h=>hE u e l (λc o i q=>?_) (oe,(h.2 e ez).trans f,U);refine(h.2 c λr=>i (by simp[r])).trans (T c o (λr=>i ?_) (hk.2 c o i q));rcases p with q|q<;>rw[r,q]<;>simp
 simp only[List.zipIdx_cons,List.zipIdx_nil,forIn_cons,forIn_nil];rcases t with rfl|⟨F,rfl⟩
 .refine g_ (g_ (g_ (wpAny_onRaise (g_ (m:=Builtin.SmallTypes.nextOf (.ref i1)) (N.done _ _ _ R λu e Y f=>?_)))));show n i1 I u e s.toks (.inl rfl) v P Y f
 .refine g_ (g_ (g_ (wpAny_onRaise (g_ (m:=Builtin.SmallTypes.nextOf (.ref i1)) (N.item k _ _ _ F R λx u Z p1 d1 h=>j3 ?_)))));let S:IsPair u TO a b:=(h.2 TO d.TOi1).trans ((B.2 TO d.TOz).trans G);refine g_ (wpAny_seqItems S rfl (g_ (wpAny_updateSeq_pair S λg3 o3 y=>g_ (wpAny_letGo (j3 (g_ (g_ (wpAny_onRaise (g_ (m:=Builtin.SmallTypes.nextOf (.ref i2)) (W.done _ _ _ (L ((v.trans (.one h (!1))).trans (.one y (!1))).2 h2 λo e=>?_) λg4 e X f=>?_))))))))))
  .exact (y.2 i2 d.TOi2.symm).trans ((h.2 i2 d.i12.symm).trans ((B.2 i2 d.i2z).trans e))
  .exact n i2 g3 g4 e Z (.inr rfl) ((v.trans (.one h (!1))).trans (.one y (!1))) ((y.2 z d.TOz.symm).trans ((h.2 z d.i1z.symm).trans P)) X f
end
section
variable{prog:Program}{w:World}{A:Around}{E:Value->Shared->Prop}{s:Shared}{z TI TO i1 i2:Addr}{n1 n2 k:Nat}{P1 P2:Nat->Value->Prop}{S1 S2:Nat->Heap->Prop}{a b:Value}
abbrev HE(x:Str)(t:Tok):Obj:={cls:=.type (if x.cps.all (· < 128)then "str_ascii_iterator" else "str_iterator"),data:=.fields #[.str x t,.int 0 0]}
def kQ(h:Q (.ref s⁻¹) {s with heap:=s.heap.push (HE x t)}):wpAny (model prog w) A (pyIter (.str x t)) Q E s:=by
 unfold HE at h;cases e:x.cps.all (· < 128)<;>rw[e]at h
 .exact wpAny_pyIter_wide e h
 .exact wpAny_pyIter_ascii e h
abbrev GQ(x:Str)(t:Tok)(it:Addr)(i:Nat)(h:Heap):Prop:=h.IsStrIter it (if x.cps.all (· < 128)then "str_ascii_iterator" else "str_iterator") x t i
def draws(d:A.handled=none)(it:Addr)(x:Str)(t:Tok):Draws prog w A it [it] x.cps.size (λi v=>∃c u,x.cps[i]?=some c/\v=.str ⟨#[c]⟩ u) (GQ x t it):=by
 unfold GQ;cases x.cps.all (· < 128)
 .exact Draws.strWide d it x t
 .exact Draws.strAscii d it x t
end
end ZP
end L2
namespace RA
open L2 Builtin Builtin.Str
def uh:(Str.ofString "a")=⟨#[97]⟩:=by decide +kernel
def tG:(Str.ofString "z")=⟨#[122]⟩:=by decide +kernel
end RA
namespace L2
open PySem.Spec PyProof.Rows
section
variable{X:Cx}{pins:List (Addr×Obj)}{σ:St}{H:Hp}{s:Shared}{h':Heap}
def t6{S:List Addr}(f:∀b∈S,H b=none)(e:H b<*u):b∉S:=λa=>by rw[f b a]at e;cases e
def hA.turnedL{S:List Addr}(I:hA X pins σ H s)(k:∀b o,b∉S->s.heap.get? b<*o->h'.get? b<*o)(f:∀b∈S,aJ X pins H b):hA X pins σ H {s with heap:=h',toks:=t'}:=by
 refine I.call (g':=s.gens) (d':=s.drawn) (ch:=S) (λb o e _ _ d=>k b o d e,λb o e _ _ d=>(o.slots,k b o d e),λ_ _ _ n _=>n,λb o e d=>(o,k b o d e),λ_ _ e=>e,λ_ _ _ e=>e,λ_ ps e=>(#[],by rw[e];simp))
  (λb u e=>(I.hok b u e).stay (λc v d q=>k c v ?_ q) (λ_ q=>q) λ_ _ q=>q) I.bare λb a=>((f b a).2.2.2.1,(f b a).2.1,(f b a).2.2.2.2.1,(f b a).2.2.2.2.2)
 rcases d with z|z
 .rw [z];show t6 (λb a=>(f b a).1) e
 .exact t6 (λb a=>(f b a).1) z
def hA.turnedNew{S:List Addr}{t':Nat}{o:HO}(I:hA X pins σ H s)(k:∀b o,b∉S->s.heap.get? b<*o->h'.get? b<*o)(f:∀b∈S,aJ X pins H b)(h:uz X.prog X.w (upd H s⁻¹ o) h' s⁻¹ o):hA X pins σ (upd H s⁻¹ o) {s with heap:=h',toks:=t'}:=by
 let i:H s⁻¹=none:=I.hok.fresh (Nat.le_refl _);let g:∀b u,H b<*u->b≠s⁻¹:=λb u e=>f' e i;refine I.call (g':=s.gens) (d':=s.drawn) (ch:=S) (λb o e _ _ d=>k b o d e,λb o e _ _ d=>(o.slots,k b o d e),λb o e n _=>?_,λb o e d=>(o,k b o d e),λb xs e=>by rw[b_ (g b _ e)];show e,λb o u e=>by rw[b_ (g b _ e)];show e,λb ps e=>(#[],by rw[b_ (g b _ e),e];simp))
  (λb u e=>?_) I.bare λb a=>((f b a).2.2.2.1,(f b a).2.1,(f b a).2.2.2.2.1,(f b a).2.2.2.2.2)
 .rw [b_ (ne_of_lt (lt_size e))];show n
 .by_cases a:b=s⁻¹
  .subst a;rw[a_]at e;cases e;show h
  .rw [b_ a]at e;refine(I.hok b u e).stay (λc v d q=>k c v ?_ q) (λc q=>by rw[b_ (g c _ q)];show q) λc xs q=>by rw[b_ (g c _ q)];show q
   rcases d with z|z
   .rw [z];show t6 (λb a=>(f b a).1) e
   .exact t6 (λb a=>(f b a).1) z
end
inductive NT(h:Heap)(e T:Addr)(cls a0:Value)(d:Option Addr):Prop
 |mk (oe vs oT ts:_) (_:h.get? e<*oe) (_:(oe.cls=cls/\vs[0]?<*a0)) (_:oe.data=.fields vs) (_:vs[1]?<*.ref T) (_:T≠e) (_:h.get? T<*oT) (_:oT.data=.fields ts) (_:ts[3]?<*.none) (_:∀x,d<*x->oe.dict<*x)
inductive Ow(P:Program)(w:World)(outer:List Env)(H:Hp)(s:Shared)(E:XK)(ev:Value)(s':Shared):Prop
 |mk (e T:Addr) (C a0:Value) (dd:Option Addr) (H':Hp) (_:ev=.ref e) (_:s'.os=s.os) (_:AllBare s'.gens) (_:Un (vf outer) [] H H' s.heap s'.heap) (_:uK P w H' s'.heap) (_:s.heap.get? e=none) (_:s.heap.get? T=none) (_:H' e=none) (_:H' T=none) (_:NT s'.heap e T C a0 dd) (_:E C dd H')
def Nd{h base:Heap}{a:List Addr}:∀{l:List Env},h.FunFrames base l->(∀b∈vf l,b∈a)->h.FunFrames (hideAll h a) l
 |[],_,_=>trivial
 |env::r,i,c=>by
  let⟨j,⟨L,o,d,n,g,k⟩,f⟩:=i;let e:vf (env::r)=L::vf r:=by unfold vf;rw[filterMap_cons,d]
  show(j,(L,o,d,PySem.W.hideAll_none _ (c L (by rw[e];show mem_cons_self)),g,k),Nd f λb m=>c b (by rw[e];show mem_cons_of_mem _ m))
section
variable{X:Cx}{pins:List (Addr×Obj)}{σ:St}{H H':Hp}{s:Shared}{h1 h2:Heap}
end
section
variable{X:Cx}{E:XK}
end
section
variable{X:Cx}
end
section
variable{P:Program}{w:World}{K:Frag}{mg:Str->Option Value}{base:Heap}{N:List Str}{qual:Str}{scope:Scope}{f:Addr}{cd:Value}{A:Around}{outer:List Env}{s:Shared}{H:Hp}{E:XK}
end
section
variable{X:Cx}{pins:List (Addr×Obj)}{σ:St}{H:Hp}{s:Shared}
end
section
variable{X:Cx}{pins:List (Addr×Obj)}{σ:St}{H:Hp}{s:Shared}{x n y fx:Str}{R:Addr}{i j k:Nat}{np hpos pos p cp yp ap:Pos}{b0:Stmt}{suite:List Stmt}{ts:TS}{D:aO}{ps:List Str}{sp:Sp}{e:Expr}{es:List Expr}{t:TA}
end
def b'.set(s:b' H H')(n:H a=none):b' H (L2.upd H' a o):=λb u e=>by
 rw[b_ (f' e n)];show s b u e
section
variable{K:Frag}{tl:TE}{a:Addr}{xs:List V}{tt:TT}{te:TE}{σ:St}{H:Hp}{Q:VK}
end
def eh(K:Frag):kitOne K (.type "tuple") (.type "tuple")=some true/\kitOne K (.type "list") (.type "list")=some true/\kitOne K (.type "str") (.type "str")<*true:=
 (by with_unfolding_all rfl,by with_unfolding_all rfl,by with_unfolding_all rfl)
def oB:Hg X (.builtin "isinstance") (λxs H Q=>∃x t b,xs=[x,.ty T]/\av X.K H x t/\kitOne X.K t (.type T)=some b/\Q (.bl b) H):=by
 intro a s c H xs d Q I r h;let⟨x,t,b,g,f,e,q⟩:=h;show KM (b:=b) a s c H xs d Q I r (x,t,g,f,e,q)
section
variable{X:Cx}{elt iter:Expr}{x:Str}{px pos:Pos}{ifs:List Expr}{sc:Scope}{wi:TI}{tt:TT}{te:TE}
def wx(g:swapsWith (.ListComp elt [(c,iter,ifs,(0))] sc pos) (some (.Name y d)) a.line env=pure true)(h:∀p,wpAny M A (comprehension (.ListComp elt [(c,iter,ifs,(0))] sc pos) sc env p (newList []) false (eval iter env) (some (assign (.Name y d) env))) (λ_ s'=>Q .next s') E s):wpAny M A (exec (.Assign [.Name y d] (.ListComp elt [(c,iter,ifs,(0))] sc pos) a) env) Q E s:=by
 let b:wpAny M A (evalThenUse (.ListComp elt [(c,iter,ifs,(0))] sc pos) env (assign (.Name y d) env)) (λ_ s'=>Q .next s') E s:=
  g_ (wpAny_mono (h iter.pos) (λ_ _ q=>j3 q) λ_ _ e=>e)
 let f:=exec_Assign_Name_used (env:=env) y d (.ListComp elt [(c,iter,ifs,(0))] sc pos) a g;show f▸g_ (wpAny_standAt (g_ (wpAny_mono b (λ_ _ q=>j3 q) λ_ _ e=>e)))
end
def Lz(K:Frag)(a:(X.K=K)>>>4):Hg X (.type "tuple") (λxs H Q=>∃p ys,xs=[.ref p]/\((i4 K H p ys/\∀l,H l=none->Q (.ref l) (upd H l (.tup ys)))\/(nj K H p ys/\Q (.ref p) H))):=by
 subst a;show ww
section
variable{X:Cx}{elt iter:Expr}{x:Str}{px pos:Pos}{ifs:List Expr}{sc:Scope}{wi:TI}{tt:TT}{te:TE}
end
section
variable{κ:Type}[DecidableEq κ]
abbrev aw(kvs:List (κ×V))(k:κ):Option V:=(kvs.find? λkv=>decide (kv.1=k)).map (·.2)
def LA{p:κ×V}{r:List (κ×V)}{k:κ}(e:p.1=k):aw (p::r) k<*p.2:=by simp[aw,find?_cons,e]
def KQ{p:κ×V}{r:List (κ×V)}{k:κ}(e:¬ p.1=k):aw (p::r) k=aw r k:=by simp[aw,find?_cons,e]
def KV.val{kvs:List (κ×V)}{vs:List (κ×Value)}(r:KV kvs vs)(k:κ):al (aw kvs k) (valueAt vs k):=by
 unfold KV at r;induction r with
 |nil=>show True.intro
 |@cons p q ps a h t d=>
  let⟨c,f⟩:=h;by_cases e:p.1=k
  .let e':q.1=k:=c.symm.trans e;let b:valueAt (q::a) k<*q.2:=by simp[valueAt,find?_cons,e']
   rw[LA e,b];show f
  .let e':¬ q.1=k:=λz=>e (c.trans z);let b:valueAt (q::a) k=valueAt a k:=by simp[valueAt,find?_cons,e']
   rw[KQ e,b];show d
end
section
variable{X:Cx}{d:Addr}{kvs:List (vW×V)}
end
end L2
namespace L2
open PySem.Spec PySem.W PyProof.Rows Builtin Builtin.ObjectAttr Builtin.Getset_descriptor
section
variable{prog:Program}{w:World}{A:Around}{E:Value->Shared->Prop}{s:Shared}{K:Frag}{e C:Addr}
end
end L2
namespace RA
section
variable{κ:Type}[DecidableEq κ]
abbrev ay(acc:List κ):List κ->List κ
 |[]=>acc
 |k::ks=>ay (if k∈acc then acc else acc++[k]) ks
abbrev q5(ks:List κ):List κ:=ay [] ks
abbrev ak(ks:List κ):LN:=ks.map λk=>(q5 ks).idxOf k
def cY(k:κ):∀(ks a:List κ),ay a (ks++[k])=if k∈ay a ks then ay a ks else ay a ks++[k]
 |[],_=>rfl
 |_::ks,_=>cY k ks _
def gC:∀(ks b:List κ)(k:κ),k∈b\/k∈ks↔k∈ay b ks
 |[],b,k=>by simp[ay]
 |a::ks,b,k=>by
  change _↔k∈ay (if a∈b then b else b++[a]) ks;rw[<-gC ks];by_cases h:a∈b
  .rw [if_pos h,mem_cons];constructor
   .rintro (x|rfl|x)
    .exact .inl x
    .exact .inl h
    .exact .inr x
   .rintro (x|x)
    .exact .inl x
    .exact .inr (.inr x)
  .rw [if_neg h,mem_cons,mem_append,mem_singleton];constructor
   .rintro (x|x|x)
    .exact .inl (.inl x)
    .exact .inl (.inr x)
    .exact .inr x
   .rintro ((x|x)|x)
    .exact .inl x
    .exact .inr (.inl x)
    .exact .inr (.inr x)
def mem_dis{ks:List κ}{k:κ}:k∈q5 ks↔k∈ks:=by
 rw[q5,<-gC];simp
def uE(ks:List κ)(k:κ):q5 (ks++[k])=if k∈q5 ks then q5 ks else q5 ks++[k]:=cY k ks []
def gE:∀(ks b:List κ),(ay b ks).length≤b.length+ks.length
 |[],_=>by simp[ay]
 |a::ks,b=>by
  let h:=gE ks (if a∈b then b else b++[a]);let c:(if a∈b then b else b++[a]).length≤b.length+1:=by
   split
   .lia
   .simp
  show(ay (if a∈b then b else b++[a]) ks).length≤_;rw[length_cons];lia
def jL(ks:List κ):(q5 ks).length≤ks.length:=by
 have:=gE ks [];simpa[q5]using this
def GR{l:List κ}{a b:κ}(c:a∈l)(h:l.idxOf a=l.idxOf b):a=b:=by
 let e:l.idxOf a<l.length:=idxOf_lt_length_of_mem c;let d:l.idxOf b<l.length:=by lia
 let g:=getElem_idxOf e;let f:=getElem_idxOf d;rw[<-g,<-f];congr 1
def JO{l:List κ}{c:κ}:∀{i:Nat},l[i]?<*c->l.idxOf c≤i:=by
 induction l with
 |nil=>intro i e;simp at e
 |cons a l d=>
  intro i e;by_cases b:a=c
  .subst b;rw[List.idxOf_cons_self];show zero_le _
  .cases i with
   |zero=>simp at e;show absurd e b
   |succ i=>
    let g:=d (i:=i) (by simpa using e);let f:(a::l).idxOf c=l.idxOf c+1:=by
     rw[idxOf_cons,beq_eq_false_iff_ne.mpr b];rfl
    lia
def Kg(ks:List κ):(ak ks).length=ks.length:=by simp[ak]
def Kh{ks:List κ}{i:Nat}{k:κ}(h:ks[i]?<*k):(ak ks).getD i 0=(q5 ks).idxOf k:=by
 rw[mu,ak,lv,h];rfl
def Nf{ks:List κ}{x:Nat}(h:x∈ak ks):x<ks.length:=by
 let⟨k,a,rfl⟩:=mem_map.mp h;show lt_of_lt_of_le (idxOf_lt_length_of_mem (mem_dis.mpr a)) (jL ks)
def JP{ks:List κ}{i j:Nat}{a b:κ}(c:ks[i]?<*a)(d:ks[j]?<*b):(ak ks).getD i 0=(ak ks).getD j 0↔a=b:=by
 rw[Kh c,Kh d];constructor
 .exact GR (mem_dis.mpr (pa c))
 .rintro rfl;rfl
def vF{l m:List κ}{a:κ}(h:a∈l):(l++m).idxOf a=l.idxOf a:=by
 rw[List.idxOf_append,if_pos h]
def jG{l:List κ}{a:κ}(h:a∉l):(l++[a]).idxOf a=l.length:=by
 rw[List.idxOf_append,if_neg h];simp
def kC{q:Type}[DecidableEq q]:∀(n:Nat)(ks:List κ)(c:List q),ks.length=n->c.length=n->
  (∀(i j:Nat)(a b:κ)(f B:q),ks[i]?<*a->ks[j]?<*b->c[i]?<*f->c[j]?<*B->(a=b↔f=B))->
  (q5 ks).length=(q5 c).length/\∀(i:Nat)(a:κ)(f:q),ks[i]?<*a->c[i]?<*f->(q5 ks).idxOf a=(q5 c).idxOf f:=by
 intro n;induction n with
 |zero=>
  intro ks c y x _;rw[length_eq_zero_iff]at y x;subst y x;show(1,λi a f h=>by simp at h)
 |succ n G=>
  intro ks c y x hp;obtain⟨k,l,rfl⟩:∃k l,ks=l++[k]:=(ks.getLast (by intro z;rw[z]at y;cases y),ks.dropLast,(dropLast_concat_getLast _).symm);obtain⟨u,r,rfl⟩:∃k l,c=l++[k]:=(c.getLast (by intro z;rw[z]at x;cases x),c.dropLast,(dropLast_concat_getLast _).symm);let l1:l.length=n:=by simpa using y
  let l2:r.length=n:=by simpa using x
  let s:∀{A:Type}{l:List A}{k:A}{i:Nat}{a:A},l[i]?<*a->(l++[k])[i]?<*a:=λ{A l k i a}e=>by
   rw[getElem?_append_left (j0 e).1];show e
  let p:(l++[k])[n]?<*k:=by rw[getElem?_append_right (!6),l1];simp
  let d:(r++[u])[n]?<*u:=by rw[getElem?_append_right (!6),l2];simp
  let⟨D,C⟩:=G l r l1 l2 λi j a b f B m o I H=>hp i j a b f B (s m) (s o) (s I) (s H);let F:k∈q5 l↔u∈q5 r:=by
   rw[mem_dis,mem_dis];constructor
   .intro t;let⟨i,w⟩:=mem_iff_getElem?.mp t;let g:i<r.length:=by have:=(j0 w).1;lia
    let e:=(hp i n k k r[i] u (s w) p (s (hH g)) d).mp rfl;rw[<-e];show getElem_mem g
   .intro t;let⟨i,w⟩:=mem_iff_getElem?.mp t;let g:i<l.length:=by have:=(j0 w).1;lia
    let e:=(hp i n l[i] k u u (s (hH g)) p (s w) d).mpr rfl;rw[<-e];show getElem_mem g
  let split:∀{i:Nat}{a:κ}{f:q},(l++[k])[i]?<*a->(r++[u])[i]?<*f->(l[i]?=some a/\r[i]?<*f)\/(i=n/\a=k/\f=u):=λ{i a f}m o=>by
   by_cases w:i<n
   .rw [getElem?_append_left (!6)]at m o;show .inl (m,o)
   .have:i=n:=by
     have:=(j0 m).1;simp at this;lia
    subst this;rw[p]at m;rw[d]at o;show .inr (1,(Option.some.inj m).symm,(Option.some.inj o).symm)
  rw[uE,uE];by_cases t:k∈q5 l
  .let v:=F.mp t;rw[if_pos t,if_pos v];refine(D,λi a f m o=>?_);rcases split m o with⟨m,o⟩|⟨rfl,rfl,rfl⟩
   .exact C i a f m o
   .obtain ⟨j,E⟩:=mem_iff_getElem?.mp (mem_dis.mp t);let g:j<r.length:=by have:=(j0 E).1;lia
    let e:=(hp j i a a r[j] f (s E) p (s (hH g)) d).mp rfl;show C j a f E (by rw[<-e];show hH g)
  .let v:u∉q5 r:=λz=>t (F.mpr z);rw[if_neg t,if_neg v];refine(by simp[D],λi a f m o=>?_);rcases split m o with⟨m,o⟩|⟨rfl,rfl,rfl⟩
   .rw [vF (mem_dis.mpr (pa m)),vF (mem_dis.mpr (pa o))];show C i a f m o
   .rw [jG t,jG v,D]
def KR{d:Type}[DecidableEq d]{ks:List κ}{c:List d}(l:ks.length=c.length)(hp:∀(i j:Nat)(a b:κ)(k g:d),ks[i]?<*a->ks[j]?<*b->c[i]?<*k->c[j]?<*g->(a=b↔k=g)):ak ks=ak c:=by
 let⟨_,h⟩:=kC c.length ks c l rfl hp;refine List.ext_getElem? λi=>?_;by_cases m:i<ks.length
 .let f:ks[i]?<*ks[i]:=hH m;let e:c[i]?<*(c[i]'(!6)):=hH (!6);rw[ak,ak,lv,lv,f,e];show congrArg some (h i _ _ f e)
 .rw [getElem?_eq_none (by rw[Kg];lia),getElem?_eq_none (by rw[Kg];lia)]
end
abbrev cO(W:LL)(lots:LN)(i:Nat):Nat×LN:=(lots.getD i 0,(W.getD i []).map λg=>lots.getD g 0,)
abbrev Ib(W:LL)(lots:LN):List (Nat×LN):=(List.range W.length).map (cO W lots)
abbrev Rd(W:LL)(B:List Bool):Nat->LN
 |0=>ak B
 |k+1=>ak (Ib W (Rd W B k))
def LB(h:i<W.length):(Ib W a)[i]?<*cO W a i:=by
 rw[Ib,lv,getElem?_range h];rfl
def GS(W:LL)(a:LN):(Ib W a).length=W.length:=by simp[Ib]
def GZ{L:LN}{W:LL}{B:List Bool}(h:hF L W B):∀k,(Rd W B k).length=W.length
 |0=>by rw[Rd,Kg,h.bl]
 |k+1=>by rw[Rd,Kg,GS]
def gU(h:hF L W B)(a:x∈Rd W B k):x<W.length:=by
 cases k with
 |zero=>rw[<-h.bl];show Nf a
 |succ k=>rw[<-GS W (Rd W B k)];show Nf a
abbrev jj(W:LL)(B:List Bool)(k r:Nat):Nat:=(Rd W B k).getD r 0
def KU(h:hF L W B)(d:r<W.length)(c:s<W.length):jj W B 0 r=jj W B 0 s↔B.getD r false=B.getD s false:=by
 let b:B[r]?<*(B[r]'(by rw[h.bl];show d)):=hH _;let a:B[s]?<*(B[s]'(by rw[h.bl];show c)):=hH _;rw[jj,jj,Rd,JP b a,mu,mu,b,a];rfl
def Gu(h:hF L W B)(a:r<W.length):(W.getD r []).length=L.length/\∀x∈W.getD r [],x<W.length:=by
 let e:W.getD r []=W[r]:=by rw[mu,hH a];rfl
 rw[e];show h.row _ (getElem_mem a)
abbrev goal(W:LL)(r i:Nat):Nat:=(W.getD r []).getD i 0
def Gv(h:hF L W B)(a:r<W.length)(c:i<L.length):goal W r i<W.length:=by
 let⟨d,b⟩:=Gu h a;rw[goal,mu,hH (!6)];show b _ (getElem_mem _)
def JQ(L:LN)(W:LL)(r c:Nat):uR L W r c=goal W r (L.idxOf c):=rfl
def Hm(h:hF L W B)(b:r<W.length)(a:s<W.length):jj W B (k+1) r=jj W B (k+1) s↔jj W B k r=jj W B k s/\∀i<L.length,jj W B k (goal W r i)=jj W B k (goal W s i):=by
 rw[jj,jj,Rd,JP (LB b) (LB a),cO,cO,Prod.mk.injEq];let⟨f,_⟩:=Gu h b;let⟨d,_⟩:=Gu h a;refine and_congr Iff.rfl (λe i c=>?_,λe=>List.ext_getElem? λi=>?_)
 .have:=congrArg (λl=>l[i]?) e;simp only[lv]at this;rw[hH (!6),hH (!6)]at this;rw[goal,goal,mu (l:=W.getD r []),mu (l:=W.getD s []),hH (!6),hH (!6)];show Option.some.inj this
 .by_cases c:i<L.length
  .have:=e i c;rw[goal,goal,mu (l:=W.getD r []),mu (l:=W.getD s []),hH (!6),hH (!6)]at this;rw[lv,lv,hH (!6),hH (!6)];show congrArg some this
  .rw [lv,lv,getElem?_eq_none (!6),getElem?_eq_none (!6)]
def LC(h:hF L W B)(f:r<W.length)(d:s<W.length):∀{j:Nat},j≤k->jj W B k r=jj W B k s->jj W B j r=jj W B j s:=by
 induction k with
 |zero=>intro j b e;rw[Nat.le_zero.mp b];show e
 |succ k c=>
  intro j b e;by_cases a:j=k+1
  .subst a;show e
  .exact c (!6) ((Hm h f d).mp e).1
def KW{L:LN}{W:LL}{B:List Bool}(h:hF L W B):∀{k:Nat}{w:LN}{r s:Nat},r<W.length->s<W.length->w.length≤k->(∀c∈w,c∈L)->jj W B k r=jj W B k s->B.getD (run L W r w) false=B.getD (run L W s w) false
 |k,[],r,s,b,a,_,_,e=>(KU h b a).mp (LC h b a (zero_le k) e)
 |0,c::w,r,s,b,a,f,_,e=>by simp at f
 |k+1,c::w,r,s,b,a,f,hw,e=>by
  let g:L.idxOf c<L.length:=idxOf_lt_length_of_mem (hw c (!1));show KW h (k:=k) (w:=w) (Gv h b g) (Gv h a g) (by simpa using f) (λd i=>hw d (by simp[i])) (((Hm h b a).mp e).2 _ g)
def jT{W:LL}{B:List Bool}{k:Nat}(e:Rd W B (k+1)=Rd W B k):∀j,Rd W B (k+j)=Rd W B k
 |0=>rfl
 |j+1=>by
  change ak (Ib W (Rd W B (k+j)))=_;rw[jT e j];show e
def jz(h:hF L W B)(e:Rd W B (k+1)=Rd W B k)(q:jj W B k r=jj W B k s)(b:r<W.length)(a:s<W.length)(j:Nat):jj W B j r=jj W B j s:=by
 by_cases c:j≤k
 .exact LC h b a c q
 .have:=jT e (j-k);rw[show k+(j-k)=j by lia]at this;rw[jj,jj,this];show q
abbrev fc(n:Nat)(lots:LN):Nat:=(List.range (n*n)).countP λx=>decide (lots.getD (x/n) 0=lots.getD (x%n) 0)
def Ki{e:Type}{p q:e->Bool}:∀{l:List e},(∀x∈l,p x=true->q x=true)->(∃x∈l,q x=true/\p x=false)->l.countP p<l.countP q
 |[],_,⟨x,b,_⟩=>by simp at b
 |a::l,d,⟨x,b,f,hp⟩=>by
  let le:l.countP p≤l.countP q:=List.countP_mono_left λy c=>d y (by simp[c]);rw[List.countP_cons,List.countP_cons];rcases mem_cons.mp b with rfl|b
  .rw [f,hp];simp;lia
  .have:=Ki (l:=l) (λy c=>d y (by simp[c])) (x,b,f,hp);let g:=d a (!1);cases hpa:p a with
   |false=>simp;lia
   |true=>rw[g hpa];simp;omega
def eZ(h:hF L W B)(e:Rd W B (k+1)≠Rd W B k):fc W.length (Rd W B (k+1))<fc W.length (Rd W B k):=by
 let D:=h.n1;let m:∀x∈List.range (W.length*W.length),x/W.length<W.length/\x%W.length<W.length:=λx d=>by
  let d:=mem_range.mp d;show(Nat.div_lt_of_lt_mul d,Nat.mod_lt _ (!6))
 refine Ki (λx d hp=>?_) ?_
 .obtain ⟨z,y⟩:=m x d;let q:jj W B (k+1) (x/W.length)=jj W B (k+1) (x%W.length):=of_decide_eq_true hp;show decide_eq_true ((Hm h z y).mp q).1
 .refine Classical.byContradiction λw=>e ?_;let c:∀r s,r<W.length->s<W.length->(jj W B (k+1) r=jj W B (k+1) s↔jj W B k r=jj W B k s):=λr s u f=>by
   refine(λq=>((Hm h u f).mp q).1,λq=>Classical.byContradiction λv=>w (r*W.length+s,9,3))
   .rw [mem_range]
    calc r*W.length+s<r*W.length+W.length:=by lia
     _=(r+1)*W.length:=by rw[succ_mul]
     _≤W.length*W.length:=Nat.mul_le_mul_right _ u
   .let d1:(r*W.length+s)/W.length=r:=by rw[mul_comm,Nat.mul_add_div (!6),Nat.div_eq_of_lt f];lia
    let d2:(r*W.length+s)%W.length=s:=by rw[mul_comm,Nat.mul_add_mod,Nat.mod_eq_of_lt f]
    simp only[d1,d2];show decide_eq_true q
   .let d1:(r*W.length+s)/W.length=r:=by rw[mul_comm,Nat.mul_add_div (!6),Nat.div_eq_of_lt f];lia
    let d2:(r*W.length+s)%W.length=s:=by rw[mul_comm,Nat.mul_add_mod,Nat.mod_eq_of_lt f]
    simp only[d1,d2];show decide_eq_false v
  cases k with
  |zero=>
   change ak (Ib W (Rd W B 0))=ak B;refine KR (by rw[GS,h.bl]) λi j a b C A l g t p=>?_;let o:i<W.length:=by have:=(j0 l).1;rwa [GS]at this
   let n:j<W.length:=by have:=(j0 g).1;rwa [GS]at this
   rw[<-JP l g,<-JP t p];show c i j o n
  |succ k=>
   change ak (Ib W (Rd W B (k+1)))=ak (Ib W (Rd W B k));refine KR (by rw[GS,GS]) λi j a b C A l g t p=>?_;let o:i<W.length:=by have:=(j0 l).1;rwa [GS]at this
   let n:j<W.length:=by have:=(j0 g).1;rwa [GS]at this
   rw[<-JP l g,<-JP t p];show c i j o n
abbrev Ic(W:LL)(B:List Bool)(k r s:Nat):List Bool:=((W.getD r []).zip (W.getD s [])).map λp=>decide (jj W B k p.1=jj W B k p.2)
abbrev place(W:LL)(B:List Bool)(k r s:Nat):Nat:=(Ic W B k r s).idxOf false
abbrev pw(L:LN)(W:LL)(B:List Bool):Nat->Nat->Nat->LN
 |0,_,_=>[]
 |k+1,r,s=>L.getD (place W B k r s) 0::pw L W B k (goal W r (place W B k r s)) (goal W s (place W B k r s))
def KY(h:hF L W B)(b:r<W.length)(a:s<W.length)(c:i<L.length):(Ic W B k r s)[i]?<*decide (jj W B k (goal W r i)=jj W B k (goal W s i)):=by
 let⟨f,_⟩:=Gu h b;let⟨d,_⟩:=Gu h a;rw[Ic,lv,goal,goal,mu (l:=W.getD r []),mu (l:=W.getD s [])];let e:((W.getD r []).zip (W.getD s []))[i]?<*((W.getD r [])[i]'(!6),(W.getD s [])[i]'(!6),):=by
  rw[getElem?_zip_eq_some];show(hH _,hH _)
 rw[e,hH (!6),hH (!6)];rfl
def LD(h:hF L W B)(b:r<W.length)(a:s<W.length):(Ic W B k r s).length=L.length:=by
 let⟨d,_⟩:=Gu h b;let⟨c,_⟩:=Gu h a;rw[Ic,ix,List.length_zip];lia
def fL(h:hF L W B)(d:r<W.length)(c:s<W.length)(j:jj W B (k+1) r≠jj W B (k+1) s)(m:jj W B k r=jj W B k s):place W B k r s<L.length/\jj W B k (goal W r (place W B k r s))≠jj W B k (goal W s (place W B k r s))/\∀i<place W B k r s,jj W B k (goal W r i)=jj W B k (goal W s i):=by
 let l:false∈Ic W B k r s:=by
  refine Classical.byContradiction λg=>j ((Hm h d c).mpr (m,λi e=>Classical.byContradiction λq=>g ?_));have:=KY h (k:=k) d c e;rw[decide_eq_false q]at this;show pa this
 let a:place W B k r s<(Ic W B k r s).length:=idxOf_lt_length_of_mem l;let f:place W B k r s<L.length:=by rw[LD h d c]at a;show a
 refine(f,3,λi e=>?_)
 .let o:=getElem_idxOf a;let b:=KY h (k:=k) d c f;rw[hH a]at b;let n:decide (jj W B k (goal W r (place W B k r s))=jj W B k (goal W s (place W B k r s)))=false:=by
   rw[<-Option.some.inj b];show o
  show of_decide_eq_false n
 .let b:=KY h (k:=k) d c (i:=i) (!2);refine Classical.byContradiction λq=>?_;rw[decide_eq_false q]at b;have:(Ic W B k r s).idxOf false≤i:=by
   let hi2:=(j0 b);let⟨u,t⟩:=hi2;show JO b
  let p:place W B k r s≤i:=this;lia
def dG{L:LN}{W:LL}{B:List Bool}(h:hF L W B):∀{k r s:Nat},r<W.length->s<W.length->jj W B k r≠jj W B k s->(∀j<k,jj W B j r=jj W B j s)->
  (pw L W B k r s).length=k/\(∀c∈pw L W B k r s,c∈L)/\B.getD (run L W r (pw L W B k r s)) false≠B.getD (run L W s (pw L W B k r s)) false/\
  ∀u:LN,(∀c∈u,c∈L)->B.getD (run L W r u) false≠B.getD (run L W s u) false->o4 L u (pw L W B k r s)=false
 |0,r,s,o,n,z,_=>by
  refine(1,λc l=>by simp[pw]at l,λe=>z ((KU h o n).mpr e),λu _ _=>?_);change o4 L u []=false;unfold o4;by_cases m:u.length=0
  .rw [length_eq_zero_iff.mp m];rfl
  .rw [if_pos (by simpa using m)];simp
 |k+1,r,s,o,n,z,F=>by
  let⟨q,A,f⟩:=fL h o n z (F k (!6));let P:=Gv h o q;let O:=Gv h n q;let D:∀j<k,jj W B j (goal W r (place W B k r s))=jj W B j (goal W s (place W B k r s)):=λj Q=>((Hm h o n).mp (F (j+1) (!6))).2 _ q;let⟨i1,i2,M,I⟩:=dG h P O A D;let i:L.getD (place W B k r s) 0=L[place W B k r s]:=by rw[mu,hH q];rfl
  let b:L.idxOf (L.getD (place W B k r s) 0)=place W B k r s:=by rw[i];show Ke h.lt.nd q
  let w:L.getD (place W B k r s) 0∈L:=by rw[i];show getElem_mem q
  let H:uR L W r (L.getD (place W B k r s) 0)=goal W r (place W B k r s):=by rw[JQ,b]
  let G:uR L W s (L.getD (place W B k r s) 0)=goal W s (place W B k r s):=by rw[JQ,b]
  refine(by rw[pw,length_cons,i1],λc l=>?_,3,λu m v=>?_)
  .rw [pw,mem_cons]at l;rcases l with rfl|l
   .exact w
   .exact i2 c l
  .change B.getD (run L W (uR L W r (L.getD (place W B k r s) 0)) (pw L W B k _ _)) false≠B.getD (run L W (uR L W s (L.getD (place W B k r s) 0)) (pw L W B k _ _)) false;rw[H,G];show M
  .let g:k+1≤u.length:=Nat.lt_of_not_le λa=>v (KW h o n a m (F k (!6)));let y:(pw L W B (k+1) r s).length=k+1:=by rw[pw,length_cons,i1]
   cases u with
   |nil=>simp at g
   |cons c u=>
    let l:=m c (!1);let x:L.idxOf c<L.length:=idxOf_lt_length_of_mem l;by_cases a:(c::u).length=k+1
    .let hpu':B.getD (run L W (uR L W r c) u) false≠B.getD (run L W (uR L W s c) u) false:=v;let t:u.length=k:=by simpa using a
     let N:place W B k r s≤L.idxOf c:=le_of_not_lt λC=>hpu' (KW h (Gv h o x) (Gv h n x) (le_of_eq t) (λd E=>m d (by simp[E])) (f _ C));unfold o4;rw[if_neg (by rw[y];simpa using a),pw,ah];by_cases p:c=L.getD (place W B k r s) 0
     .rw [if_pos p];have:=I u (λd E=>m d (by simp[E])) (by rw[p,H,G]at hpu';show hpu');unfold o4 at this;rw[if_neg (by rw[i1];simpa using t)]at this;show this
     .rw [if_neg p,b];simp;omega
    .unfold o4;rw[if_pos (by rw[y];show a),y];simp;simp at g a;omega
abbrev bO(L:LN)(W:LL)(B:List Bool)(r s:Nat)(o:Option LN):Prop:=
 (o=none/\∀k,jj W B k r=jj W B k s)\/∃k,o=some (pw L W B k r s)/\jj W B k r≠jj W B k s/\∀j<k,jj W B j r=jj W B j s
def LF{L:LN}{W:LL}{B:List Bool}(h:hF L W B){k:Nat}(e:∀i<k,Rd W B (i+1)≠Rd W B i):∀j≤k,fc W.length (Rd W B j)+j≤W.length*W.length
 |0,_=>by
  have:=List.countP_le_length (p:=λx=>decide ((Rd W B 0).getD (x/W.length) 0=(Rd W B 0).getD (x%W.length) 0)) (l:=List.range (W.length*W.length));rw[length_range]at this;show this
 |j+1,a=>by
  let c:=LF h e j (!6);let b:=eZ h (e j (!6));lia
def iN(h:hF L W B)(e:∀i<k,Rd W B (i+1)≠Rd W B i):k≤4410000:=by
 let b:=LF h e k (Nat.le_refl _);let a:W.length*W.length≤2100*2100:=Nat.mul_le_mul h.n60 h.n60;lia
def bO.spec(h:bO L W B r s o)(a:hF L W B)(e:r<W.length)(d:s<W.length):(o=none->∀u:LN,(∀c∈u,c∈L)->B.getD (run L W r u) false=B.getD (run L W s u) false)/\
  ∀w,o<*w->(∀c∈w,c∈L)/\w.length≤W.length*W.length/\B.getD (run L W r w) false≠B.getD (run L W s w) false/\∀u:LN,(∀c∈u,c∈L)->B.getD (run L W r u) false≠B.getD (run L W s u) false->o4 L u w=false:=by
 rcases h with⟨g,b⟩|⟨k,g,b,f⟩<;>subst g
 .exact (λ_ u m=>KW a e d (Nat.le_refl _) m (b u.length),λw z=>by cases z)
 .refine (λz=>(by cases z),λw z=>?_);cases z;let⟨i1,i2,l,j⟩:=dG a e d b f;refine(i2,3,l,j);rw[i1];let p:=LF a (k:=k) (λi n z=>b (jz a z (f i n) e d k)) k (Nat.le_refl _);lia
end RA
namespace L2
open PySem.Spec PyProof.Rows
abbrev nQ(b:Bool):Value->Bool
 |.bool c=>c==b
 |_=>false
def JR(h:nQ b v=true):v=.bool b:=by
 cases v with
 |bool c=>rw[eq_of_beq (show(c==b)=true from h)]
 |_=>show absurd (show false=true from h) Bool.false_ne_true
abbrev Ie(P:Program)(w:World):PySem.KeyKind P w Bool where
 is:=nQ
 hash:=λb=>reduceHash (if b then 1 else 0)
 inj:=λv a b ha hb=>by
  let e:=(JR ha).symm.trans (JR hb)
  cases e
  rfl
 byValue:=λk v h=>by rw[JR h];rfl
 pyHash:=λ{A E s k v Q}h q=>by
  cases JR h
  refine PySem.W.pyHash_slot (T:="bool") rfl F.slot_bool_hash entry_int_hash (args_int_hash _) (beq_builtin_none _) (.inl rfl) ?_
  cases k
  .exact (show wpAny _ _ (do ret (<-mkInt 0)) _ _ s from g_ (wpAny_mkInt (j3 (8,q))))
  .exact (show wpAny _ _ (do ret (<-mkInt 1)) _ _ s from g_ (wpAny_mkInt (j3 (8,q))))
 eqBool:=λ{A E s a b u v Q}ha hb q=>by
  cases JR ha
  cases JR hb
  let e:(a==b)=decide (a=b):=by cases a<;>cases b<;>rfl
  show SeqAt.EqAt.bool_bool a b _ _ _ _ (by rw[e];show q)
 «strs»:=λk x t v h=>absurd (show false=true from h) Bool.false_ne_true
@[reducible]def NK:=Nat×LN
abbrev zs(ks:LN):List Int:=ks.map λ(n:Nat)=>(n:Int)
def bj(h:zs a=zs b):a=b:=by
 induction a generalizing b with
 |nil=>cases b with
  |nil=>rfl
  |cons y b=>cases h
 |cons x a c=>cases b with
  |nil=>cases h
  |cons y b=>
   let h:((x:Int)::zs a)=((y:Int)::zs b):=h;injection h with e d;rw[c d,Int.ofNat.inj e]
section
variable(P:Program)(w:World)
abbrev q_(h:Heap)(k:NK)(a:Addr):Prop:=∃(o:Obj)(n:Nat)(t:Tok)(b:Addr),h.get? a=some o/\o.cls=.type "tuple"/\o.data=.seq #[.int (k.1:Int) t,.ref b] n/\IsTupleKey (intKind P w) h (zs k.2) b
abbrev LG(k:NK):Int:=reduceHash (Builtin.Tuple.tupleHashOf [hashInt (k.1:Int),tupleKeyHash (intKind P w) (zs k.2)])
end
section
variable{P:Program}{w:World}
def q_.inj(i:q_ P w h x a)(g:q_ P w h y a):x=y:=by
 let⟨o,n,t,b,l,_,k,j⟩:=i;let⟨E,F,t',A,d,_,c,m⟩:=g;rw[l]at d;cases d;rw[k]at c;injection c with z _;let v:[Value.int (x.1:Int) t,.ref b]=[Value.int (y.1:Int) t',.ref A]:=congrArg Array.toList z;injection v with u s;injection u with r _;injection s with q _;injection q with p;subst p;let f:=bj (j.inj m);let e:x.1=y.1:=Int.ofNat.inj r;let⟨D,C⟩:=x;let⟨y1,B⟩:=y;simp only at f e;rw[f,e]
def q_.keeps{p q}(x:q_ P w h k a)(c:h.get? d<*o)(e:o.data=.dict p q)(f:SameBut d h h'):q_ P w h' k a:=by
 let⟨j,n,t,b,i,m,g,l⟩:=x;refine(j,n,t,b,(f.2 a ?_).trans i,m,g,l.keeps c e f);rintro rfl;rw[i]at c;cases c;rw[g]at e;cases e
def q_.tup(x:q_ P w h k a):∃t b,h.IsTuple a #[.int (k.1:Int) t,.ref b]/\IsTupleKey (intKind P w) h (zs k.2) b:=by
 let⟨o,n,t,b,f,e,d,c⟩:=x;show(t,b,(o,f,e,n,d),c)
def kF(d:A.units+1<cLine)(x:q_ P w s.heap k a)(q:Q (LG P w k) {s with toks:=s.toks+(k.2.length+3)}):wpAny (model P w) A (pyHash (.ref a)) Q E s:=by
 let⟨o,n,t,b,c,h,g,f⟩:=x;refine PySem.W.pyHash_slot (T:="tuple") (o,c,h) F.slot_tuple_hash F.entry_tuple_hash (F.args_tuple_hash_1 _) (beq_builtin_none _) (.inr (!6)) ?_;refine g_ (m:=Builtin.Tuple.tupleItemsOf (.ref a)) (wpAny_tupleItemsOf c g (g_ ?_));rw[<-Array.forIn_toList];change wpAny _ _ (forIn [Value.int (k.1:Int) t,.ref b] _ _) _ _ _;rw[forIn_cons];refine g_ (g_ (wpAny_pyHash_int (g_ (j3 (j3 ?_)))));dsimp only;rw[forIn_cons];refine g_ (g_ (wpAny_pyHash_tuple (knd:=intKind P w) (by change A.in1.units<cLine;rw[Around.in1_units];show d) f (g_ (j3 (j3 ?_)))));dsimp only;rw[forIn_nil];refine j3 ?_;refine g_ (wpAny_mkInt (j3 (8,3)));let e:s.toks+1+((zs k.2).length+1)+1=s.toks+(k.2.length+3):=by
  have:(zs k.2).length=k.2.length:=by simp[zs]
  lia
 simpa[e,LG]using q
def lX(x:IsTupleKey (intKind P w) h ks b):IsTupleKey (intKind k j) h ks b:=by
 let⟨o,c,n,i,g,f,d⟩:=x;refine(o,c,n,i,g,f,3);generalize c.toList=l at d⊢;induction d with
 |nil=>show .nil
 |cons a _ e=>show .cons a e
def pC(C:A.units+1<cLine)(r:q_ P w s.heap x a)(p:q_ P w s.heap y b)(E:Value->Shared->Prop)(Q:Bool->Shared->Prop)(q:Q (decide (x=y)) s):wpAny (model P w) A (eqBool (.ref a) (.ref b)) Q E s:=by
 by_cases g:a=b
 .subst g;let e:=r.inj p;rw[decide_eq_true e]at q;show SeqAt.EqAt.same (.ref a) P w E Q q
 .obtain ⟨t,c,F,D⟩:=r.tup;let⟨u,d,H,G⟩:=p.tup;let i:A.in1.units<cLine:=by rw[Around.in1_units];show C
  let f:SeqAt.EqAt A.in1 s (.ref c) (.ref d) (decide (zs x.2=zs y.2)):=λI v E' L B=>wpAny_eqBool_tuple (knd:=intKind I v) i (lX D) (lX G) B;let all:=SeqAt.EqAt.of_refs (A:=A) g (SeqAt.RcAt.tuples (s:=s) (e:=λj=>if j=0 then((x.1:Int)==(y.1:Int))else decide (zs x.2=zs y.2)) F H (!6) (λj l1 l2=>by
   match j,l1,l2 with
   |0,_,_=>show SeqAt.EqAt.int_int _ t _ u
   |1,_,_=>show f
   | n+2,l1,_=>show absurd l1 (by change ¬ (n+2<2);lia)))
  refine all P w E Q ?_;let e:((List.range (min (#[Value.int (x.1:Int) t,.ref c]:Array Value).size (#[Value.int (y.1:Int) u,.ref d]:Array Value).size)).all (λj=>if j=0 then((x.1:Int)==(y.1:Int))else decide (zs x.2=zs y.2))&&(#[Value.int (x.1:Int) t,.ref c]:Array Value).size==(#[Value.int (y.1:Int) u,.ref d]:Array Value).size)=decide (x=y):=by
   show(((x.1:Int)==(y.1:Int))&&(decide (zs x.2=zs y.2)&&true)&&true)=_;let⟨o,m⟩:=x;let⟨y1,l⟩:=y;by_cases h:o=y1
   .by_cases k:m=l
    .subst h k;simp
    .have:zs m≠zs l:=λz=>k (bj z);simp[h,k,this]
   .have:¬ ((o:Int)=(y1:Int)):=λz=>h (Int.ofNat.inj z);simp[h,this]
  rw[e];show q
def fE(x:s.heap.IsTuple a b)(h:∀v∈b.toList,∀(R:Bool->Shared->Prop),R true s->wpAny (model P w) A (eqIsQuiet n v) R E s)(q:Q true s):wpAny (model P w) A (eqIsQuiet (n+1) (.ref a)) Q E s:=by
 let⟨o,e,j,m,i⟩:=x;let d:s.TypeIs (.ref a) "tuple":=(o,e,j);unfold eqIsQuiet;refine g_ (wpAny_specialOf d F.slot_tuple_eq.lookup (g_ (m:=isInstance (.ref a) (.type "tuple")) (wpAny_isInstance d isSubtype_tuple_tuple ?_)));simp only[Bool.not_true,false_eq_true,if_false];refine g_ (wpAny_seqItems e i (g_ ?_));change wpAny _ _ (forIn b _ _) _ _ _;rw[<-Array.forIn_toList];refine wpAny_forIn_list _ (λrest r s'=>r.1=none/\s'=s/\∀v∈rest,v∈b.toList) _ ?_ ?_ _ _ (6,λv f=>f)
 .rintro v rest r s'⟨c,rfl,all⟩;refine g_ (h v (all v mem_cons_self) _ ?_);simp only[Bool.not_true,false_eq_true,if_false];show j3 (6,λu g=>all u (mem_cons_of_mem _ g))
 .rintro⟨l,k⟩s'⟨c,rfl,_⟩;simp only at c;subst c;show j3 q
def iz(x:q_ P w s.heap k a)(q:Q true s):wpAny (model P w) A (eqIsQuiet 8 (.ref a)) Q E s:=by
 let⟨t,b,f,e⟩:=x.tup;refine fE (n:=7) f (λv c R r=>?_) q;let c:v∈[Value.int (k.1:Int) t,.ref b]:=c;rcases mem_cons.mp c with rfl|c
 .rw [eqIsQuiet_byValue _ rfl];show j3 r
 .rw [t5 c];let⟨o,d,n,j,i,h,g⟩:=e;refine fE (n:=6) (o,j,i,n,h) (λv c R r=>?_) r;rw[eqIsQuiet_byValue _ (g.byValue v c)];show j3 r
end
abbrev m9(P:Program)(w:World):HeapKind P w NK where
 is:=q_ P w
 hash:=LG P w
 draws:=λk=>k.2.length+3
 room:=λA=>A.units+1<cLine
 inj:=λa b=>a.inj b
 keeps:=λx ho hd hs=>x.keeps ho hd hs
 pyHash:=λhu hk h=>kF hu hk h
 eqBool:=λhu hx hy h=>pC hu hx hy _ _ h
 quiet:=λhk h=>iz hk h
structure HF(P:Program)(w:World)(κ:Type)[DecidableEq κ] where
 knd:HeapKind P w κ
 kin:Hp->κ->Addr->Prop
 ok:∀{H:Hp}{h:Heap}{k:κ}{a:Addr},kin H k a->uK P w H h->knd.is h k a
 room:∀{A:Around},A.units+64<cLine->knd.room A.in1/\knd.room A
 stay:∀{H H':Hp}{k:κ}{a:Addr},(∀b xs,H b<*.tup xs->H' b<*.tup xs)->kin H k a->kin H' k a
abbrev IX(H:Hp)(k:List Int)(a:Addr):Prop:=H a<*.tup (k.map V.int)
abbrev Ig(H:Hp)(k:NK)(a:Addr):Prop:=∃b,H a=some (.tup [.int (k.1:Int),.ref b])/\H b<*.tup ((zs k.2).map V.int)
def items_int{P:Program}{w:World}:∀{ks:List Int}{a:List Value},ae (ks.map V.int) a->ItemsAre (intKind P w) ks a
 |[],_,r=>by rw[List.map_nil]at r;cases r;show .nil
 |k::ks,_,r=>by
  rw[map_cons]at r;cases r with
  |cons h t=>
   let⟨u,rfl⟩:=(show ∃t,_=Value.int k t from h);show .cons (by change Value.isInt k (.int k u)=true;simp[Value.isInt]) (items_int t)
def lY(e:IX H k a)(ok:uK P w H h):IsTupleKey (intKind P w) h k a:=by
 let⟨_,b,r,o,f,d,n,c⟩:=(show uz P w H h a (.tup (k.map V.int))from ok a _ e);show(o,b.toArray,n,f,d,c,by simpa using items_int r)
abbrev d_v(P:Program)(w:World):HF P w (List Int) where
 knd:=tupleKind (intKind P w)
 kin:=IX
 ok:=λe ok=>lY e ok
 room:=λ{A}hu=>(by change A.in1.units<cLine;rw[Around.in1_units];lia,by change A.units<cLine;lia)
 stay:=λs e=>s _ _ e
abbrev Hn(P:Program)(w:World):HF P w NK where
 knd:=m9 P w
 kin:=Ig
 ok:=λ{H h k a}e ok=>by
  let⟨b,e1,e2⟩:=e
  let⟨_,its,r,o,h1,h2,n,h3⟩:=(show uz P w H h a (.tup [.int (k.1:Int),.ref b])from ok a _ e1)
  let⟨u1,u2,rfl,r1,r2⟩:=bn r
  let⟨t,rfl⟩:=(show ∃t,u1=Value.int (k.1:Int) t from r1)
  cases(show u2=Value.ref b from r2)
  show(o,n,t,b,h1,h2,h3,lY e2 ok)
 room:=λ{A}hu=>(by change A.in1.units+1<cLine;rw[Around.in1_units];lia,by change A.units+1<cLine;lia)
 stay:=λs hZ2=>by let⟨b,e1,e2⟩:=hZ2;show(b,s _ _ e1,s _ _ e2)
abbrev uu{P:Program}{w:World}{κ:Type}[DecidableEq κ](knd:PySem.KeyKind P w κ)(d:Addr)(kvs:List (κ×V)):HO:=.ext λh=>(d==sysModules)=false/\kvs.length≤sizeLine/\∃vs,KV kvs vs/\h.DictOf knd d vs
instance JS(κ:Type):(κ×Addr×V)->(κ×Addr×Value)->Prop:=λp q=>p.1=q.1/\p.2.1=q.2.1/\ad p.2.2 q.2.2
abbrev vt{P:Program}{w:World}{κ:Type}[DecidableEq κ](D:HF P w κ)(d:Addr)(kvs:List (κ×Addr×V)):HO:=.ext λh=>(d==sysModules)=false/\kvs.length≤sizeLine/\∃xs,Paired (JS κ) kvs xs/\
 ∃o es ep,h.get? d=some o/\o.ExactDict/\o.data=.dict es ep/\es.toList=xs.map (entryOfKey D.knd)/\(xs.map (·.1)).Nodup
section
variable{P:Program}{w:World}{κ:Type}[DecidableEq κ]
def va{knd:PySem.KeyKind P w κ}{H:Hp}{h:Heap}{d:Addr}{kvs:List (κ×V)}{vs:List (κ×Value)}(ns:(d==sysModules)=false)(f:kvs.length≤sizeLine)(r:KV kvs vs)(c:h.DictOf knd d vs):uz P w H h d (uu knd d kvs):=by
 refine((ns,f,vs,r,c),let⟨o,_,_,e,_⟩:=c;(o,e),λm l a b=>?_);let⟨k,j,vs,r,o,g,i,e,q⟩:=a;show(k,j,vs,r,o,g,i,b o e,q)
def gq{D:HF P w κ}{H:Hp}{h:Heap}{d:Addr}{kvs:List (κ×Addr×V)}{xs:List (κ×Addr×Value)}(ns:(d==sysModules)=false)(l:kvs.length≤sizeLine)(r:Paired (JS κ) kvs xs)(m:h.DictOfH D.knd d xs):uz P w H h d (vt D d kvs):=by
 let⟨o,c,f,e,k,j,i,_,g⟩:=m;refine((ns,l,xs,r,o,c,f,e,k,j,i,g),(o,e),λt s a b=>?_);let⟨p,n,vs,r,o,c,f,e,q⟩:=a;show(p,n,vs,r,o,c,f,b o e,q)
def GE{knd:PySem.KeyKind P w κ}{H:Hp}{h:Heap}{d:Addr}{kvs:List (κ×V)}(ok:uK P w H h)(e:H d<*uu knd d kvs):(d==sysModules)=false/\kvs.length≤sizeLine/\∃vs,KV kvs vs/\h.DictOf knd d vs:=(ok d _ e).1
def bE{D:HF P w κ}{H:Hp}{h:Heap}{d:Addr}{kvs:List (κ×Addr×V)}(ok:uK P w H h)(e:H d<*vt D d kvs)(f:∀x∈kvs,D.kin H x.1 x.2.1):(d==sysModules)=false/\kvs.length≤sizeLine/\∃xs,Paired (JS κ) kvs xs/\h.DictOfH D.knd d xs:=by
 let⟨u,g,xs,r,o,m,n,s,j,i,c,b⟩:=(ok d _ e).1;refine(u,g,xs,r,o,m,n,s,j,i,c,3,b);clear c b e g;induction r with
 |nil=>intro x a;simp at a
 |@cons p q ps v h t k=>
  intro x a;rcases mem_cons.mp a with rfl|a
  .have:=D.ok (f p (!1)) ok;rw[<-h.1,<-h.2.1];show this
  .exact k (λy l=>f y (by simp[l])) x a
abbrev aq(kvs:List (κ×Addr×V))(k:κ):Option V:=(kvs.find? λx=>decide (x.1=k)).map (·.2.2)
def iH{kvs:List (κ×Addr×V)}{xs:List (κ×Addr×Value)}(r:Paired (JS κ) kvs xs)(k:κ):al (aq kvs k) ((atKey xs k).map (·.2)):=by
 induction r with
 |nil=>show True.intro
 |@cons p q ps a h t d=>
  by_cases e:p.1=k
  .let e':q.1=k:=h.1.symm.trans e;let c:aq (p::ps) k<*p.2.2:=by simp[aq,find?_cons,e]
   let b:atKey (q::a) k<*q.2:=by simp[atKey,find?_cons,e']
   rw[c,b];show h.2.2
  .let e':¬ q.1=k:=λz=>e (h.1.trans z);let c:aq (p::ps) k=aq ps k:=by simp[aq,find?_cons,e]
   let b:atKey (q::a) k=atKey a k:=by simp[atKey,find?_cons,e']
   rw[c,b];show d
def dS{d c:Type}{F:d->c->Prop}{a:d}{b:c}(h:F a b):∀{l:List d}{m:List c},Paired F l m->Paired F (l++[a]) (m++[b])
 |_,_,.nil=>.cons h .nil
 |_,_,.cons r t=>.cons r (dS h t)
def KZ(r:al o u):o.isSome=u.isSome:=by
 cases o<;>cases u<;>first|rfl|show(show False from r).elim
end
section
variable{X:Cx}{pins:List (Addr×Obj)}{σ:St}{H:Hp}{s:Shared}{d:Addr}
def hA.bigS(I:hA X pins σ H s):sysModules<s⁻¹:=by
 let h:mainGlobals<s⁻¹:=(I.mod.glob.keeps I.bk).lt;show lt_trans (!0) h
abbrev p6(P:Program)(w:World)(H:Hp)(d:Addr)(y:V)(r:Option V):Prop:=
 (∃kvs k,H d=some (uu (Ie P w) d kvs)/\y=.bl k/\r=aw kvs k) \/
 (∃kvs k b,H d=some (vt (Hn P w) d kvs)/\(∀x∈kvs,Ig H x.1 x.2.1)/\y=.ref b/\Ig H k b/\r=aq kvs k) \/
 ∃kvs k b,H d=some (vt (d_v P w) d kvs)/\(∀x∈kvs,IX H x.1 x.2.1)/\y=.ref b/\IX H k b/\r=aq kvs k
abbrev tz(P:Program)(w:World)(H:Hp)(d:Addr)(y v:V)(H':Hp):Prop:=
 (∃kvs k,H d=some (uu (Ie P w) d kvs)/\y=.bl k/\aw kvs k=none/\kvs.length<sizeLine/\H'=upd H d (uu (Ie P w) d (kvs++[(k,v,)]))) \/
 (∃kvs k b,H d=some (vt (Hn P w) d kvs)/\(∀x∈kvs,Ig H x.1 x.2.1)/\y=.ref b/\Ig H k b/\aq kvs k=none/\kvs.length<sizeLine/\H'=upd H d (vt (Hn P w) d (kvs++[(k,b,v,)]))) \/
 ∃kvs k b,H d=some (vt (d_v P w) d kvs)/\(∀x∈kvs,IX H x.1 x.2.1)/\y=.ref b/\IX H k b/\aq kvs k=none/\kvs.length<sizeLine/\H'=upd H d (vt (d_v P w) d (kvs++[(k,b,v,)]))
abbrev tE(P:Program)(w:World)(H:Hp)(d:Addr)(n:Nat):Prop:=
 (∃kvs,H d=some (uu (Ie P w) d kvs)/\n=kvs.length)\/∃kvs,H d=some (vt (Hn P w) d kvs)/\n=kvs.length
def nY{a:Type}[DecidableEq a]{D:HF X.prog X.w a}{kvs:List (a×Addr×V)}{k:a}{b:Addr}{v:V}{A:Around}{E:Value->Shared->Prop}{Q:Value->Shared->Prop}(m:A.units+64<cLine)(I:hA X pins σ H s)(e:H d<*vt D d kvs)(n:∀x∈kvs,D.kin H x.1 x.2.1)(j:D.kin H k b)(l:some v=aq kvs k)(h:∀c s',hA X pins σ H s'->ad v c->Q c s'):wpAny (model X.prog X.w) A (getItem (.ref d) (.ref b)) Q E s:=by
 let⟨_,_,xs,g,q⟩:=bE I.hok e n;let⟨c,hw,f⟩:=al.some_of (v:=v) (o:=(atKey xs k).map (·.2)) (by rw[l];show iH g k);let⟨p,hp,i⟩:=uJ hw;refine wpAny_getItem_heap (D.room m).1 (D.ok j I.hok) q hp ?_;rw[i];show h c _ (I.tok _) f
def eE{a:Type}[DecidableEq a]{D:HF X.prog X.w a}{kvs:List (a×Addr×V)}{k:a}{b:Addr}{A:Around}{E:Value->Shared->Prop}{Q:Value->Shared->Prop}(g:A.units+64<cLine)(I:hA X pins σ H s)(e:H d<*vt D d kvs)(i:∀x∈kvs,D.kin H x.1 x.2.1)(f:D.kin H k b)(h:∀s',hA X pins σ H s'->Q (.bool (!(aq kvs k).isSome)) s'):wpAny (model X.prog X.w) A (compareOp .NotIn (.ref b) (.ref d)) Q E s:=by
 let⟨ns,_,xs,c,j⟩:=bE I.hok e i;refine wpAny_notIn_heap (D.room g).1 (D.ok f I.hok) ns j ?_;let q:=KZ (iH c k);rw[Option.isSome_map]at q;rw[<-q];show h _ (I.tok _)
def Jp(I:hA X pins σ H s)(f:J7 (H d))(g:SameBut d s.heap h')(h:∃q,h'.get? d<*q)(a:uz X.prog X.w (upd H d c) h' d c):hA X pins σ (upd H d c) {s with heap:=h',toks:=t'}:=
 I.write (x:=d) (e:=d) f (.inl rfl) (λb q i z=>(g.2 b i).trans z) h a
def qb{a:Type}[DecidableEq a]{D:HF X.prog X.w a}{kvs:List (a×Addr×V)}{xs:List (a×Addr×Value)}{k:a}{b:Addr}{v:V}{r:Value}{h':Heap}{t':Nat}(I:hA X pins σ H s)(e:H d<*vt D d kvs)(ns:(d==sysModules)=false)(j:kvs.length<sizeLine)(c:Paired (JS a) kvs xs)(i:aq kvs k=none)(g:ad v r)(f:h'.DictOfH D.knd d (storedH xs k b r))(h:SameBut d s.heap h'):hA X pins σ (upd H d (vt D d (kvs++[(k,b,v,)]))) {s with heap:=h',toks:=t'}:=by
 let q:=al.none_of (show al none ((atKey xs k).map (·.2)) by rw[<-i];show iH c k);rw[storedH_new (Option.map_eq_none_iff.mp q)]at f;show Jp I (by rw[e];show True.intro) h (let⟨o,_,_,q,_⟩:=f;(o,q)) (gq ns (by rw[j_];show j) (dS (F:=JS a) (6,g) c) f)
def nX{c:Type}[DecidableEq c]{D:HF X.prog X.w c}{kvs:List (c×Addr×V)}{k:c}{b:Addr}{v:V}{r:Value}{A:Around}{E:Value->Shared->Prop}{Q:Unit->Shared->Prop}(j:A.units+64<cLine)(I:hA X pins σ H s)(e:H d<*vt D d kvs)(o:∀x∈kvs,D.kin H x.1 x.2.1)(i:D.kin H k b)(m:aq kvs k=none)(n:kvs.length<sizeLine)(g:ad v r)(h:∀s',hA X pins σ (upd H d (vt D d (kvs++[(k,b,v,)]))) s'->Q () s'):wpAny (model X.prog X.w) A (setItem (.ref d) (.ref b) r) Q E s:=by
 let⟨ns,hz,xs,a,p⟩:=bE I.hok e o;show wpAny_setItem_heap (hsz:=by rw[<-Paired.length a];show hz) (D.room j).1 (D.ok i I.hok) p λh' f l=>h _ (qb I e ns n a m g f l)
def JT{kvs:List (a×V)}{vs:List (a×Value)}{k:a}(b:KV kvs vs)(c:ad v r):KV (kvs++[(k,v,)]) (vs++[(k,r,)]):=dS (F:=λ(p:a×V)(q:a×Value)=>p.1=q.1/\ad p.2 q.2) (1,c) b
def JU{a:Type}[DecidableEq a]{vs:List (a×Value)}{k:a}{r:Value}(h:valueAt vs k=none):stored vs k r=vs++[(k,r,)]:=by
 unfold stored;rw[if_neg];intro q;rw[List.any_eq_true]at q;let⟨x,b,e⟩:=q;unfold valueAt at h;rw[Option.map_eq_none_iff,List.find?_eq_none]at h;show h x b e
def jA(ns:(d==sysModules)=false)(b:s.heap.get? d<*o)(f:o.ExactDict)(e:o.data=.dict a i)(hz:a.size≤sizeLine)(h:∀t t',Q (.int (a.size:Nat) t) {s with toks:=t'}):wpAny (model X.prog X.w) A (call (.builtin "len") [.ref d]) Q E s:=by
 let c:s.TypeIs (.ref d) "dict":=(o,b,f.1);let g:(a.size:Int)<2^63:=by rw[sizeLine_eq]at hz;lia
 refine Calls.call_function_entry kind_len plain_len entry_len (args_len1 _) ?_;unfold Builtin.«len»;refine g_ (m:=oneArg "len" _) (j3 (g_ (m:=callSpecial? (.ref d) (Str.ofString "__len__")) (wpAny_callSpecial?_slot (name:=Str.ofString "__len__") c F.slot_dict_len (wpAny_call_entry F.slot_dict_len c F.entry_dict_len ?_ (F.args_dict_len_1 _)))));refine g_ (m:=dictSize d) ?_;unfold dictSize;refine g_ (wpAny_dictEntries b e (j3 (g_ (m:=Builtin.Dict.pendingCount d) (wpAny_pendingCount_other ns (g_ (wpAny_mkInt (j3 (0,g_ (wpAny_holding (j3 (g_ (wpAny_letGo ?_))))))))))));refine wpAny_ite_false (!1) (wpAny_ite_false (by simp;lia) (g_ (wpAny_mkInt (j3 (0,3)))));simpa using h _ _
end
section
variable{X:Cx}
inductive oY(P:Program)(w:World)(x:V)(y:V)(H:Hp)(Q:VK):Prop
 |mk (d o:_) (_:y=.ref d) (_:p6 P w H d x o) (_:Q (.bl (!o.isSome)) H)
def kx(m:X.A.units+64<cLine):uq X (compareOp .NotIn) (oY X.prog X.w):=by
 intro l s r H x y v u Q I a n h;let⟨d,o,rfl,g,q⟩:=h;cases n;rcases g with⟨kvs,k,e,rfl,rfl⟩|⟨kvs,k,b,e,i,rfl,f,rfl⟩|⟨kvs,k,b,e,i,rfl,f,rfl⟩
 .cases a;let⟨ns,_,vs,c,p⟩:=GE I.hok e;refine wpAny_notIn_of (knd:=Ie X.prog X.w) (k:=k) (show nQ k (.bool k)=true by cases k<;>rfl) ns p.mapOf ?_;rw[<-KZ (c.val k)];show(.bl _,H,I.tok _,1,q)
 .cases a;show eE (D:=Hn X.prog X.w) m I e i f λs' j=>(.bl _,H,j,1,q)
 .cases a;show eE (D:=d_v X.prog X.w) m I e i f λs' j=>(.bl _,H,j,1,q)
def pP{h:St}(I:hA X f h H s)(g:p6 X.prog X.w H d y o):s.TypeIs (.ref d) "dict":=by
 rcases g with⟨kvs,k,e,_⟩|⟨kvs,k,b,e,c,_⟩|⟨kvs,k,b,e,c,_⟩
 .obtain ⟨_,_,vs,_,a⟩:=GE I.hok e;show a.typeIs
 .obtain ⟨_,_,vs,_,a⟩:=bE (D:=Hn X.prog X.w) I.hok e c;show a.typeIs
 .obtain ⟨_,_,vs,_,a⟩:=bE (D:=d_v X.prog X.w) I.hok e c;show a.typeIs
inductive sq(P:Program)(w:World)(x:V)(y:V)(H:Hp)(Q:VK):Prop
 |mk (d v:_) (_:x=.ref d) (_:p6 P w H d y (some v)) (_:Q v H)
def nJ(B:X.A.units+64<cLine):Hz X (sq X.prog X.w):=by
 intro c f t s L H x y v u Q I C i h E;let⟨d,z,rfl,g,q⟩:=h;cases C;refine tail_any (ops:=[.ref d,u]) (pP I g) PySem.F.slot_dict_getitem.lookup ?_ E;rcases g with⟨kvs,k,e,rfl,l⟩|⟨kvs,k,b,e,n,rfl,m,l⟩|⟨kvs,k,b,e,n,rfl,m,l⟩
 .cases i;let⟨ns,_,vs,j,G⟩:=GE I.hok e;let⟨r,hw,a⟩:=al.some_of (v:=z) (o:=valueAt vs k) (by rw[l];show j.val k);show wpAny_getItem_of (knd:=Ie X.prog X.w) (k:=k) (show nQ k (.bool k)=true by cases k<;>rfl) G.mapOf hw (z,H,I.tok _,a,q)
 .cases i;show nY (D:=Hn X.prog X.w) B I e n m l λr s' p a=>(z,H,p,a,q)
 .cases i;show nY (D:=d_v X.prog X.w) B I e n m l λr s' p a=>(z,H,p,a,q)
inductive so(P:Program)(w:World)(o:V)(i:V)(v:V)(H:Hp)(Q:Hp->Prop):Prop
 |mk (d H':_) (_:o=.ref d) (_:tz P w H d i v H') (_:Q H')
def G0(x:X.A.units+64<cLine):pW X (so X.prog X.w):=by
 intro t s E H o i v F G u Q I y m l h;let⟨d,H',rfl,g,q⟩:=h;cases y;rcases g with⟨kvs,k,e,rfl,f,j,rfl⟩|⟨kvs,k,b,e,p,rfl,n,f,j,rfl⟩|⟨kvs,k,b,e,p,rfl,n,f,j,rfl⟩
 .cases m;let⟨ns,hz,vs,a,C⟩:=GE I.hok e;refine wpAny_setItem_pairs (knd:=Ie X.prog X.w) (k:=k) (hsz:=by rw[<-a.length];show hz) (show nQ k (.bool k)=true by cases k<;>rfl) C λh' c B=>(_,3,q);let z:=al.none_of (show al none (valueAt vs k) by rw[<-f];show a.val k);rw[JU z]at c;show Jp I (by rw[e];show True.intro) B (let⟨o,_,_,q,_⟩:=c;(o,q)) (va ns (by rw[j_];show j) (JT a l) c)
 .cases m;show nX (D:=Hn X.prog X.w) x I e p n f j l λs' r=>(_,r,q)
 .cases m;show nX (D:=d_v X.prog X.w) x I e p n f j l λs' r=>(_,r,q)
def G1:Hg X (.builtin "len") (λxs H Q=>∃d n,xs=[V.ref d]/\tE X.prog X.w H d n/\Q (.int (n:Nat)) H):=by
 intro k s u H xs v Q I r h;let⟨d,n,rfl,g,q⟩:=h;let⟨x,rfl,l⟩:=GC r;cases l;rcases g with⟨kvs,e,rfl⟩|⟨kvs,e,rfl⟩
 .obtain ⟨ns,hz,vs,a,o,j,p,i,f,c,_,hp,_⟩:=GE I.hok e;let b:j.size=kvs.length:=by rw[a.length,<-hp.length];simp
  refine jA (X:=X) ns i f c (!6) λt t'=>(.int (kvs.length:Nat),H,I.tok _,(t,by rw[b]),q)
 .obtain ⟨ns,hz,xs,a,o,j,p,i,f,c,m,_⟩:=(I.hok d _ e).1;let b:j.size=kvs.length:=by rw[Paired.length a,<-length_toList,m,ix]
  refine jA (X:=X) ns i f c (!6) λt t'=>(.int (kvs.length:Nat),H,I.tok _,(t,by rw[b]),q)
inductive Nh where
 |bl|nest|pair
abbrev pB(P:Program)(w:World)(d:Addr):Nh->HO
 |.bl=>uu (Ie P w) d []
 |.nest=>vt (Hn P w) d []
 |.pair=>vt (d_v P w) d []
def qQ(h:Heap)(a:sysModules<h.objs.size)(k:Nh):uz P w H (h.push {cls:=.type "dict",data:=.dict #[]}) h.objs.size (pB P w h.objs.size k):=by
 let ns:(h.objs.size==sysModules)=false:=beq_eq_false_iff_ne.mpr (Ne.symm (ne_of_lt a));cases k with
 |bl=>show va (knd:=Ie P w) ns (zero_le _) .nil (Heap.DictOf.new h)
 |nest=>show gq (D:=Hn P w) ns (zero_le _) .nil (Heap.DictOfH.new h)
 |pair=>show gq (D:=d_v P w) ns (zero_le _) .nil (Heap.DictOfH.new h)
inductive rV(P:Program)(w:World)(_0:St)(H:Hp)(Q:VK):Prop
 |mk (k:_) (_:∀p,H p=none->Q (.ref p) (upd H p (pB P w p k)))
def pe:PE X (.Dict [] [] pos) (rV X.prog X.w):=λb s c H Q I⟨k,h⟩=>
 wpAny_Dict_empty (.ref s⁻¹,_,I.laid (a:=s⁻¹) (o:=pB X.prog X.w s⁻¹ k) (t':=s.toks) (λ_ _ q=>mJ _ q) (Nat.le_refl _) (qQ s.heap I.bigS k),1,h _ (I.hok.fresh (Nat.le_refl _)))
end
section
variable{X:Cx}{elt iter:Expr}{x y:Str}{px py pt pos:Pos}{kt:Nat}{sc:Scope}{wi:TI}{te:TE}
abbrev mh(K:Frag)(wi:TI)(te:TE):TE:=λσ H Q=>wi σ H λJ H1=>∀D,H1 D=none->∃W:Nat->Nat->List V->Hp->Prop,
 (∃m,W 0 m [] (upd H1 D (.lst [])))/\∀i m ys H2,W i m ys H2->H2 D=some (.lst ys)/\((J.stop i H2/\Q (.ref D) H2)\/(J.go i H2/\ys.length<sizeLine/\∀x H3,J.yld i H2 x H3->
  ∃p a b,x=.ref p/\nj K H3 p [a,b]/\te (some a::some b::σ) H3 λy H5=>H5 D=some (.lst ys)/\∃m',m'<m/\W (i+1) m' (ys++[y]) (upd H5 D (.lst (ys++[y])))))
end
section
variable{prog:Program}{w:World}{A:Around}{E:Value->Shared->Prop}{s:Shared}{it t:Addr}{i:Nat}{items:Array Value}
def iw(a:s.heap.IsTupleIter it t i)(g:s.heap.IsTuple t items)(f:items[i]?<*x)(j:∀h',h'.IsTupleIter it t (i+1)->SameBut it s.heap h'->Q x {s with heap:=h'}):wpAny (model prog w) A (Builtin.SmallTypes.nextOf (.ref it)) Q E s:=by
 let⟨o,c,h,b⟩:=id a;let⟨k,d,_,l,e⟩:=g;unfold Builtin.SmallTypes.nextOf;refine g_ (wpAny_callSpecial?_slot (name:=Str.ofString "__next__") a.typeIs F.slot_tuple_iterator_next (wpAny_call_entry F.slot_tuple_iterator_next a.typeIs F.entry_tuple_iterator_next ?_ (F.args_tuple_iterator_next_1 _)));refine g_ (m:=field (.ref it) 0) (wpAny_field c b (x:=.ref t) rfl (wpAny_ite_false rfl (g_ (m:=field (.ref it) 1) (wpAny_field c b (x:=.int i 0) rfl (g_ (m:=seqItems? (.ref t)) (wpAny_seqItems d e ?_))))));simp only[toNat_natCast,f];refine g_ (wpAny_setField c b (!1) (j3 (x,1,j3 (j _ (_,Heap.get?_update_self _ c (Obj.isFreed_of_fields (Obj.data_mapFields b _)),(Obj.cls_mapFields ..).trans h,3) (SameBut.update ..)))));rw[Obj.data_mapFields b];simp[rawInt]
def kD(h:A.handled=none)(b:s.heap.IsTupleIter it t i)(k:s.heap.IsTuple t items)(j:items[i]?=none)(l:∀h' e,Heap.ExtBut it s.heap h'->(∃o,h'.get? e=some o/\o.cls=.type "StopIteration")->E (.ref e) {s with heap:=h'}):wpAny (model prog w) A (Builtin.SmallTypes.nextOf (.ref it)) Q E s:=by
 let⟨o,d,q,g⟩:=id b;let⟨n,c,_,p,f⟩:=k;unfold Builtin.SmallTypes.nextOf;refine g_ (wpAny_callSpecial?_slot (name:=Str.ofString "__next__") b.typeIs F.slot_tuple_iterator_next (wpAny_call_entry F.slot_tuple_iterator_next b.typeIs F.entry_tuple_iterator_next ?_ (F.args_tuple_iterator_next_1 _)));refine g_ (m:=field (.ref it) 0) (wpAny_field d g (x:=.ref t) rfl (wpAny_ite_false rfl (g_ (m:=field (.ref it) 1) (wpAny_field d g (x:=.int i 0) rfl (g_ (m:=seqItems? (.ref t)) (wpAny_seqItems c f ?_))))));simp only[toNat_natCast,j];refine g_ (wpAny_rule (g_ (wpAny_setField d g (!1) (g_ (m:=newExc (.type "StopIteration") []) ?_))));simp only[newExc,newTuple];refine g_ (wpAny_newObj_type (g_ (m:=firstArgMember _ _) (wpAny_of_eq (a:=Value.none) (by first|rfl|(simp only[firstArgMember];rfl)) (wpAny_newObj_type ?_ (by size_fits)))) (by size_fits));simp only[raiseNew];refine g_ (wpAny_handled ?_);first|rw[show A.in1.handled=none from h]|rw[h]
 show g_ (j3 (wpAny_throw (l _ _ (((SameBut.update ..).extBut.push _).push _) (_,get?_push_size _ rfl,1))))
end
def IsTup.keeps{h h':Heap}(x:h.IsTuple t a)(k:∀o,h.get? t<*o->h'.get? t<*o):h'.IsTuple t a:=let⟨o,e,r⟩:=x;(o,k o e,r)
def iP(k:A.handled=none)(it t:Addr)(d:t≠it)(a:Array Value):Draws prog w A it [it,t] a.size (λi v=>a[i]?<*v) (λi h=>h.IsTupleIter it t i/\h.IsTuple t a)  where
 live:=λ_ _ st=>let⟨o,j,_⟩:=st.1;(o,j)
 frame:=λ_ _ _ st f=>(st.1.at λo e=>f it (!1) o e,IsTup.keeps st.2 λo e=>f t (!1) o e)
 item:=λi s Q E g st l=>iw st.1 st.2 (x:=a[i]) (by simp[g]) λh' c b=>l _ h' s.toks (by simp[g]) (c,IsTup.keeps st.2 λo e=>(b.2 t d).trans e) b
 done:=λs Q E st m=>kD k st.1 st.2 (!1) m
def ke:isSubtype (.type "enumerate") (.type "enumerate")=pure true:=by rw[isSubtype_type];kernel_rfl
set_option maxHeartbeats 1000000 in
def fX(l:Addr)(a:Array Value)(n:Nat)(e:Option Addr)(i:Array (Option Value)):Meets (Builtin.«enumerate.__new__» ([.type "enumerate",.ref l],[])) (λ_ R s=>s.heap.get? l=some {cls:=.type "tuple",dict:=e,data:=.seq a n,slots:=i}/\
   R (.ok (.ret (.ref (s.heap.push {cls:=.type "tuple_iterator",data:=.fields #[.ref l,.int 0 0]}).objs.size)))
    {s with heap:=(s.heap.push {cls:=.type "tuple_iterator",data:=.fields #[.ref l,.int 0 0]}).push {cls:=.type "enumerate",data:=.fields #[.none,.bool false,.ref s⁻¹,rawInt 0,.none,.none]} }):=
 .of_wp λprog w A R s h=>by
  let⟨hp,g,d,k,os⟩:=s;let⟨j,h⟩:=h;let f:=ke;let b:hp.IsTuple l a:=(_,j,1,n,1)
  wp_walk using wpAny_pyIter_tuple b
  refine wpAny_stack_any λst=>j3 ?_;split
  .rename_i c _ _ _ _ _;cases(c==Value.type "enumerate")<;>(wp_walk using wpAny_pyIter_tuple b;show(0,h))
  .wp_walk using wpAny_pyIter_tuple b
   show(0,h)
def iU(p:s.heap.IsTuple l a)(h:∀h',IsEnum h' (s⁻¹+1) s⁻¹ 0 .none->h'.IsTupleIter s⁻¹ l 0->(∀b o,s.heap.get? b<*o->h'.get? b<*o)->Q (.ref (s⁻¹+1)) {s with heap:=h'}):wpAny (model prog w) A (call (.type "enumerate") [.ref l]) Q E s:=by
 let⟨⟨c,f,r,k⟩,m,j,n,i⟩:=p;simp only at j i;subst j i;refine callType_new F.called_enumerate (!0) (F.typeCall_enumerate_1 _) (F.newCall_enumerate_1 _) (λd=>F.args_object_init_2 d _) F.entry_enumerate_new (fX l a n f k) (m,3);generalize e:s.heap.push {cls:=.type "tuple_iterator",data:=.fields #[.ref l,.int 0 0]}=G;let hz:G.objs.size=s⁻¹+1:=by rw[<-e];show size_push ..
 let g:IsEnum (G.push {cls:=.type "enumerate",data:=.fields #[.none,.bool false,.ref s⁻¹,rawInt 0,.none,.none]}) (s⁻¹+1) s⁻¹ 0 .none:=by
  let q:=get?_push_size G (o:={cls:=.type "enumerate",data:=.fields #[.none,.bool false,.ref s⁻¹,rawInt 0,.none,.none]}) rfl;rw[hz]at q;show q
 change _/\_;rw[hz];show((_,g,1),h _ g (_,mJ _ (by rw[<-e];show get?_push_size _ rfl),6) λb o x=>mJ _ (by rw[<-e];show mJ _ x))
abbrev pX(a:Addr):It:=⟨λi H=>∃xs x,H a=some (.tup xs)/\xs[i]?<*x,λi H v H'=>∃p x xs,H a=some (.tup xs)/\xs[i]?=some x/\v=.ref p/\H p=none/\H'=upd H p (.tup [.int (i:Int),x]),λi H=>∃xs,H a=some (.tup xs)/\i=xs.length⟩
def ia{K:Frag}(a e it:Addr)(r:e≠it):bS P w K (.Tuple es kt pt) (pX a) [e,it] e (λi h=>(∃f,IsEnum h e it i f)/\h.IsTupleIter it a i)  where
 mem:=by simp
 obj:=λi h ac c C=>by
  let⟨⟨f,j⟩,⟨N,m,_,d1⟩⟩:=ac;simp only[mem_cons,not_mem_nil,or_false]at C;rcases C with rfl|rfl
  .exact (_,j,λv q=>by cases q)
  .exact (N,m,λv q=>by rw[d1]at q;cases q)
 keep:=λi h h' ab k=>by let⟨⟨f,j⟩,⟨N,m,r1⟩⟩:=ab;show((f,k e (!1) _ j),(N,k it (!1) _ m,r1))
 item:=by
  rintro X hP hw hK C i D s σ H E I Q⟨⟨f,j⟩,y⟩hg;subst hP hw hK;let⟨xs,x,O,hx⟩:=hg;let⟨d,U,p,hz⟩:=I.tuple (nj.of O);let⟨u,hu,ru⟩:=U.get hx;let B:s.heap.IsTuple a d.toArray:=p;let Y:i<d.toArray.size:=by
   have:=(j0 hu).1;simpa using this
  let t:a≠it:=by
   let⟨o,m,M,_⟩:=B;let⟨o2,G,L,_⟩:=y;rintro rfl;rw[m]at G;cases G;rw[M]at L;show absurd L (!0)
  let Z:e≠a:=by
   let⟨o,m,M,_⟩:=B;rintro rfl;let F:s.heap.get? e<*_:=j;rw[m]at F;cases F;show absurd (show Value.type "enumerate"=Value.type "tuple" from M) (!0)
  refine wpAny_pyNext_enum_itemD (iP (A:=X.A.in1) (I.ok.hd C) it a t d.toArray) j (y,B) Y r (by simp[r,Z]) λv g T pv ho st W hsz gk=>(0,3);let ev:v=u:=by
   have:d.toArray[i]?<*v:=pv;rw[getElem?_toArray,hu]at this;show(Option.some.inj this).symm
  subst ev;refine wpAny_letOwnedTupleGo_enum (s:={s with heap:=g,toks:=T+1}) ho λg' ge gs=>?_;let R:∀b o,b≠e->g.get? b<*o->g'.get? b<*o:=λb o l q=>(gs.2 b l).trans q;let ne:s⁻¹≠e:=ne_of_gt (lt_size j);let tup:uz X.prog X.w (upd H s⁻¹ (.tup [.int (i:Int),x])) g' s⁻¹ (.tup [.int (i:Int),x]):=
   (kA (by change 2≤16777216;decide),[.int i T,v],.cons (_,rfl) (.cons ru .nil),(_,R _ _ ne W,1,(0),1))
  refine(.ref s⁻¹,_,I.turnedNew (S:=[e,it]) (h':=g') (t':=T+1) (λb o l q=>R b o (λz=>l (by simp[z])) (gk b o (λz=>l (by simp[z])) (λz=>l (by simp[z])) q)) Q tup,1,
   (_,x,xs,O,hx,1,I.hok.fresh (Nat.le_refl _),1),((_,by rw[Int.natCast_succ];show ge),st.1.at λo q=>R _ o (λz=>r z.symm) q),λb l=>?_)
  let lt:b<s⁻¹:=by
   let⟨N,m,_⟩:=y;simp only[mem_cons,not_mem_nil,or_false]at l;rcases l with rfl|rfl
   .exact lt_size j
   .exact lt_size m
  rw[b_ (ne_of_lt lt)];show(Q b l).1
 done:=by
  rintro X hP hw hK C i D s σ H E I Q⟨⟨f,j⟩,y⟩n;subst hP hw hK;let⟨xs,O,rfl⟩:=n;let⟨d,U,p,hz⟩:=I.tuple (nj.of O);let B:s.heap.IsTuple a d.toArray:=p;let t:a≠it:=by
   let⟨o,m,M,_⟩:=B;let⟨o2,G,L,_⟩:=y;rintro rfl;rw[m]at G;cases G;rw[M]at L;show absurd L (!0)
  let hsz:xs.length=d.toArray.size:=by rw[U.length];simp
  refine wpAny_pyNext_enum_endD (iP (A:=X.A.in1) (I.ok.hd C) it a t d.toArray) j (by rw[<-hsz];show y,B) λg gs=>(1,3);show I.turnedL (S:=[e,it]) (λb o l q=>gs b o (λz=>l (by simp[z])) q) Q
 self:=λ_ _ _ _ _ st h=>by
  let⟨⟨f,j⟩,_⟩:=st;show wpAny_pyIter_enum j h
namespace ZP
section
variable{prog:Program}{w:World}{A:Around}{E:Value->Shared->Prop}{s:Shared}{z TI TO i1 i2:Addr}{f1 f2:List Addr}{n1 n2 k:Nat}{P1 P2:Nat->Value->Prop}{S1 S2:Nat->Heap->Prop}{a b:Value}
abbrev IY(a:Addr):Obj:={cls:=.type "tuple_iterator",data:=.fields #[.ref a,.int 0 0]}
def nK{a:Addr}(d:s.heap.IsTuple a c)(h:Q (.ref s⁻¹) {s with heap:=s.heap.push (IY a)}):wpAny (model prog w) A (pyIter (.ref a)) Q E s:=wpAny_pyIter_tuple d h
end
end ZP
def gp:∀{ns:List Int}{a:List Value},ae (ns.map V.int) a->IntsAre a ns
 |[],_,r=>by rw[List.map_nil]at r;cases r;show .nil
 |n::ns,_,r=>by
  rw[map_cons]at r;cases r with
  |cons h t=>
   let⟨u,rfl⟩:=(show ∃t,_=Value.int n t from h);show .cons n u (gp t)
section
variable{X:Cx}
inductive rIndexB(x:V)(vs:List V)(H:Hp)(Q:VK):Prop
 |mk (l:Addr) (bs:List Bool) (_:x=.ref l) (_:vs=[.bl false]) (_:H l<*.lst (bs.map V.bl)) (_:false∈bs) (_:Q (.int (bs.idxOf false:Nat)) H)
def cD:KL X "list.index" rIndexB:=by
 intro D s U H x vs v W Q I L M h;let⟨l,d,rfl,rfl,G,R,q⟩:=h;cases L;let⟨u,rfl,N⟩:=M.one;cases N;let⟨z,g,n,r,Y,e⟩:=I.lstM G;let f:g.length=d.length:=by rw[<-r.length,ix]
 let p:d.idxOf false<d.length:=idxOf_lt_length_of_mem R;let o:∀(j:Nat)(w:j<g.toArray.size),∃k:j<d.length,g.toArray[j]=.bool d[j]:=λj w=>by
  let k:j<d.length:=by simpa[f]using w
  refine(k,3);let⟨a,T,O⟩:=r.get (i:=j) (x:=.bl d[j]) (by rw[lv,hH k];rfl);cases O;let⟨_,q⟩:=j0 T;simpa using q
 let A:((d.idxOf false:Nat):Int)<2^63-1:=by
  let S:(d.map V.bl).length≤sizeLine:=(I.lst G).choose_spec.choose_spec.2.2;rw[ix,sizeLine_eq]at S;lia
 refine call_meets F.slot_list_index (_,e,1) F.entry_list_index (F.args_list_index_2 _ _) (SeqAt.list_indexAt l g.toArray n none #[] (.bool false) (λy=>match y with|.bool b=>b==false|_=>false) (d.idxOf false) (by simpa[f]using p) A ?_ ?_) (e,3,(.int _,H,I.tok _,(_,rfl),q))
 .obtain ⟨k,t⟩:=o (d.idxOf false) (by simpa[f]using p);rw[t];have:=getElem_idxOf k;rw[this];rfl
 .intro m B E;let⟨k,t⟩:=o m B;rw[t];show(d[m]==false)=false;cases C:d[m]with
  |true=>rfl
  |false=>
   have:=RA.JO (l:=d) (c:=false) (i:=m) (by rw[hH k,C]);lia
 .intro y P;let⟨j,w,rfl⟩:=Array.mem_iff_getElem.mp P;let⟨k,t⟩:=o j w;rw[t];show SeqAt.EqAt.bool_bool _ _
inductive tY(K:Frag)(x:V)(y:V)(H:Hp)(Q:VK):Prop
 |mk (p q:Addr) (xs ys:List Int) (_:x=.ref p) (_:y=.ref q) (_:H p<*.lst (xs.map V.int)) (_:H q<*.lst (ys.map V.int)) (_:xs.length=ys.length) (_:Q (.bl (decide (xs=ys))) H)
def qM(L:X.A.units<cLine):uq X (compareOp .Eq) (tY X.K):=by
 intro r s W H x y v u Q I C B h;let⟨p,q,xs,ys,rfl,rfl,hp,N,Y,k⟩:=h;cases C;cases B;let⟨c,o,l,G⟩:=I.list (i4.of hp);let⟨d,n,g,F⟩:=I.list (i4.of N);let l1:=o.length;let l2:=n.length;rw[ix]at l1 l2;refine SeqAt.eq_listAt (e:=λj=>decide (xs.getD j 0=ys.getD j 0)) l.isList g.isList (by simp;lia) L (λj O Z=>?_) (.bl _,H,I,1,3)
 .let w:j<xs.length:=by simp at O;lia
  let f:j<ys.length:=by lia
  let⟨a,R,E⟩:=o.get (i:=j) (x:=.int xs[j]) (by rw[lv,hH w];rfl);let⟨b,P,D⟩:=n.get (i:=j) (x:=.int ys[j]) (by rw[lv,hH f];rfl);let⟨t,rfl⟩:=E;let⟨t',rfl⟩:=D;let U:c.toArray[j]=.int xs[j] t:=by
   let⟨_,e⟩:=j0 R;simpa using e
  let T:d.toArray[j]=.int ys[j] t':=by
   let⟨_,e⟩:=j0 P;simpa using e
  rw[U,T];let S:decide (xs.getD j 0=ys.getD j 0)=(xs[j]==ys[j]):=by
   rw[mu,mu,hH w,hH f];by_cases z:xs[j]=ys[j]<;>simp[z]
  change SeqAt.EqAt _ _ _ _ (decide (xs.getD j 0=ys.getD j 0));rw[S];show SeqAt.EqAt.int_int _ t _ t'
 .let e:((List.range c.toArray.size).all λj=>decide (xs.getD j 0=ys.getD j 0))=decide (xs=ys):=by
   let M:c.toArray.size=xs.length:=by simp;lia
   rw[M];by_cases z:xs=ys
   .subst z;simp
   .rw [decide_eq_false z,eq_false_iff];intro all;refine z (List.ext_getElem? λi=>?_);rw[all_eq_true]at all;by_cases m:i<xs.length
    .have:=of_decide_eq_true (all i (mem_range.mpr m));rw[mu,mu,hH m,hH (!6)]at this;rw[hH m,hH (!6)];show congrArg some this
    .rw [getElem?_eq_none (!6),getElem?_eq_none (!6)]
  rw[e];show k
end
abbrev K1(a:Addr)(n:Nat):It:=⟨λi H=>∃xs,H a=some (.lst xs)/\xs.length=n/\i<n,λi H v H'=>H'=H/\∃xs,H a=some (.lst xs)/\xs[n-1-i]?<*v,λi _=>i=n⟩
def lW{K:Frag}(a it:Addr)(n:Nat):bS P w K tg (K1 a n) [it] it (λi h=>h.IsRevIter it a ((n:Int)-1-(i:Int)))  where
 mem:=by simp
 obj:=λi h st b j=>by
  let e:b=it:=by simpa using j
  subst e;let⟨o,e,c,d⟩:=st;show(o,e,λv z=>by rw[d]at z;cases z)
 keep:=λi h h' st k=>st.at λo e=>k it (!1) o e
 item:=by
  intro X y hw A O i f s L H E I r st l;subst y hw A;let⟨xs,N,hl,hi⟩:=l;let G:(n:Int)-1-(i:Int)=((n-1-i:Nat):Int):=by omega
  rw[G]at st;let M:xs[n-1-i]?<*(xs[n-1-i]'(!2)):=hH _;let⟨S,Q,p,hz⟩:=I.list (i4.of N);let⟨u,T,R⟩:=Q.get M;let⟨m,F,Y,D,C,B⟩:=r it (!1);refine wpAny_pyNext_rev_item st p.isList (x:=u) (by simpa using T) λh' g q=>?_;let I1:hA X f L H {s with heap:=h'}:=I.turned (t':=s.toks) (λb o j e=>(q.2 b j).trans e) m F D C B;let Z:((n-1-i:Nat):Int)-1=(n:Int)-1-((i+1:Nat):Int):=by lia
  rw[Z]at g;let⟨o,U,t,W⟩:=id g;refine(u,1,cQ (s:={s with heap:=h'}) U t W (!0) (_,H,I1,R,(1,xs,N,M),g,λb j=>?_));let e:b=it:=by simpa using j
  subst e;show m
 done:=by
  intro X y hw A O i f s L H E I r st l;subst y hw A;let l:i=n:=l;let G:(n:Int)-1-(i:Int)=-1:=by lia
  rw[G]at st;let⟨m,F,Y,D,C,B⟩:=r it (!1);show wpAny_pyNext_rev_end (I.ok.hd O) st λh' q=>(1,I.turned (t':=s.toks) (λb o j e=>q b o j e) m F D C B)
 self:=λ_ _ _ _ _ st h=>wpAny_pyIter_revIter st h
inductive sU(R:It->Hp->Prop)(vs:List V)(H1:Hp):Prop
 |mk (a xs:_) (_:vs=[.ref a]) (_:H1 a<*.lst xs) (_:R (K1 a xs.length) H1)
abbrev ub(t:TA):TI:=λσ H R=>t σ H (sU R)
def qE{m a:Expr}{p pos:Pos}(y:Gl X "reversed")(x:X.mg "reversed"=none)(B:PA X [a] ta)(v:(starEach [a] X.env=(false,eval a X.env,)::starEach [] X.env)>>>4)(j:((backTo pos (starEach [] X.env)).any (·.1)=false)>>>4):PI X m (.Call (.Name "reversed" p) [a] [] pos) (ub ta):=by
 intro g s l H R I h;refine wpAny_Call_Name_kw (pj I y x PyProof.Rows.boot_reversed (PyProof.Rows.callWith_type1 (kl (B pos g s l H _ I h) λD d z=>?_) v j));let⟨vs,C,i,t,b,xs,rfl,w,q⟩:=z;let⟨E,rfl,r⟩:=GC t;cases r;let⟨f,n,u,hz⟩:=i.list (i4.of w);let hsz:f.toArray.size=xs.length:=by rw[n.length];simp
 refine call_reversed_list u.isList ?_;let k:(d.heap.push (revObj b ((f.toArray.size:Int)-1))).IsRevIter d⁻¹ b ((xs.length:Int)-1-((0:Nat):Int)):=(_,get?_push_size _ rfl,1,by rw[hsz];simp[revObj]);refine wpAny_pyIter_revIter (s:={d with heap:=d.heap.push (revObj b ((f.toArray.size:Int)-1))}) k ?_;refine(_,[d⁻¹],_,K1 b xs.length,C,1,i.kept (t':=d.toks) λb o e=>mJ _ e,lW b _ _,k,λc A=>?_,q);let e:c=d⁻¹:=by simpa using A
 subst e;show i.fpOk (Nat.le_refl _) (i.hok.fresh (Nat.le_refl _))
abbrev lA(J:It)(a:Addr)(o:HO)(xs:List V):Prop:=∀H2:Hp,H2 a<*o->(∀i,i<xs.length->J.go i H2)/\(∀i x H3,i<xs.length->J.yld i H2 x H3->H3=H2/\xs[i]?<*x)/\J.stop xs.length H2
def qJ{K:Frag}:lA (JG K a) a (.lst xs) xs:=λf e=>
 (λi h=>(xs,xs[i],i4.of e,hH h),λi x d _ b=>by let⟨c,h⟩:=b;show(c,h xs (i4.of e)),(xs,i4.of e,Nat.le_refl _))
def qI{K:Frag}:lA (JH K a) a (.tup xs) xs:=λf e=>
 (λi h=>(xs,xs[i],nj.of e,hH h),λi x d _ b=>by let⟨c,h⟩:=b;show(c,h xs (nj.of e)),(xs,nj.of e,Nat.le_refl _))
inductive ua(R:It->Hp->Prop)(x:V)(H1:Hp):Prop
 |mk (a o xs:_) (_:x=.ref a) (_:(o=.lst xs\/o=.tup xs)) (_:H1 a<*o) (_:∀J,lA J a o xs->R J H1)
abbrev IZ(tl:TE):TI:=λσ H R=>tl σ H (ua R)
def wA(z:PE X l r):PI X B l (IZ r):=by
 intro f s n H R I h;refine kl (z f s n H _ I h) λv c j=>?_;let⟨x,k,g,u,w⟩:=j;let⟨a,o,xs,e,y,m,q⟩:=w;subst e;cases u;let d:∀b∈[c⁻¹],aJ X f k b:=λb A=>by
  let e:b=c⁻¹:=by simpa using A
  subst e;show g.fpOk (Nat.le_refl _) (g.hok.fresh (Nat.le_refl _))
 rcases y with rfl|rfl
 .obtain ⟨i,t,p,hz⟩:=g.list (i4.of m);refine wpAny_pyIter_list p.isList ?_;show(c⁻¹,[c⁻¹],7,k,1,g.kept (t':=c.toks) λb o e=>mJ _ e,bW a _,(_,get?_push_size _ rfl,6),d,q _ qJ)
 .obtain ⟨i,t,p,hz⟩:=g.tuple (nj.of m);refine wpAny_pyIter_tuple (show c.heap.IsTuple a i.toArray from p) ?_;show(c⁻¹,[c⁻¹],7,k,1,g.kept (t':=c.toks) λb o e=>mJ _ e,M8 a _,(_,get?_push_size _ rfl,6),d,q _ qI)
def gw{g:TG}{k:TS}{D:aO}(u:lA J a o xs)(d:Nat->St->Hp->Prop)(h0:d 0 b H)(w:∀i b H,d i b H->H a<*o)(v:∀i x b H,xs[i]?<*x->d i b H->g x b H λf j=>k {D with nx:=d (i+1),ct:=d (i+1),bk:=D.nx} f j)(A:∀b H,d xs.length b H->D.nx b H):∃W:Nat->Nat->St->Hp->Prop,(∃m,W 0 m b H)/\∀i m b H,W i m b H->
   (J.stop i H/\D.nx b H)\/(J.go i H/\∃N:St->Hp->Prop,(∀h H',N h H'->∃l,l<m/\W (i+1) l h H')/\∀x H',J.yld i H x H'->g x b H' λf j=>k {D with nx:=N,ct:=N,bk:=D.nx} f j):=by
 refine(λi m b H=>m=xs.length-i/\i≤xs.length/\d i b H,(xs.length,!1,zero_le _,h0),3);rintro i m b H⟨rfl,z,p⟩;let⟨s,r,q⟩:=u H (w i b H p);by_cases c:i<xs.length
 .refine .inr (s i c,d (i+1),λh H' t=>(xs.length-(i+1),sub_succ_lt_self _ _ c,1,c,t),λx H' y=>?_);let⟨e,n⟩:=r i x H' c y;subst e;show v i x b _ n p
 .let e:i=xs.length:=le_antisymm z (le_of_not_lt c);subst e;show .inl (q,A b H p)
def LH{u:TT}{v:TE}{q:St}{Q:VK}(C:lA J a o xs)(L:H a<*o)(l:Addr->Nat->List V->Hp->Prop)(hz:xs.length≤sizeLine)(h0:∀D,H D=none->l D 0 [] (upd H D (.lst [])))(F:∀(D:Addr)(i:Nat)(x:V)(ys:List V)(H':Hp)(w:VK)(R2:Hp->Prop),H D=none->xs[i]?<*x->b' H H'->H' D<*.lst ys->l D i ys H'->
   (∀y h,h D<*.lst ys->b' H (upd h D (.lst (ys++[y])))->l D (i+1) (ys++[y]) (upd h D (.lst (ys++[y])))->w y h)->(∀g,b' H g->g D<*.lst ys->l D (i+1) ys g->R2 g)->
   u (some x::q) H' λb g=>if b=true then v (some x::q) g w else R2 g)(G:∀D ys H',H D=none->b' H H'->H' D<*.lst ys->l D xs.length ys H'->Q (.ref D) H'):∀D,H D=none->∃W:Nat->Nat->List V->Hp->Prop,
 (∃m,W 0 m [] (upd H D (.lst [])))/\∀i m ys f,W i m ys f->f D=some (.lst ys)/\((J.stop i f/\Q (.ref D) f)\/(J.go i f/\ys.length<sizeLine/\∀x p,J.yld i f x p->
  u (some x::q) p λb g=>if b=true then v (some x::q) g λy h=>h D=some (.lst ys)/\∃n,n<m/\W (i+1) n (ys++[y]) (upd h D (.lst (ys++[y])))
   else ∃n,n<m/\W (i+1) n ys g)):=by
 intro D r;refine(λi m ys f=>m=xs.length-i/\i≤xs.length/\ys.length≤i/\b' H f/\f D=some (.lst ys)/\l D i ys f,(xs.length,!1,zero_le _,!1,b'.upd r,a_,h0 D r),3);rintro i m ys f⟨rfl,I,t,j,k,hp⟩;refine(k,3);let⟨B,A,z⟩:=C f (j _ _ L);by_cases d:i<xs.length
 .refine .inr (B i d,lt_of_le_of_lt t (lt_of_lt_of_le d hz),λx p s=>?_);let⟨e,E⟩:=A i x p d s;subst e;show F D i x ys p _ _ r E j k hp (λy h a b c=>(a,xs.length-(i+1),sub_succ_lt_self _ _ d,1,d,by rw[j_];show succ_le_succ t,b,a_,c)) (λg a b c=>(xs.length-(i+1),sub_succ_lt_self _ _ d,1,d,Nat.le_succ_of_le t,a,b,c))
 .let e:i=xs.length:=le_antisymm I (le_of_not_lt d);subst e;show .inl (z,G D ys f r j k hp)
abbrev i6(K:Frag)(J:It)(te:TE)(σ:St)(H1:Hp)(Q:VK):Prop:=∀D,H1 D=none->∃W:Nat->Nat->List V->Hp->Prop,
 (∃m,W 0 m [] (upd H1 D (.lst [])))/\∀i m ys H2,W i m ys H2->H2 D=some (.lst ys)/\((J.stop i H2/\Q (.ref D) H2)\/(J.go i H2/\ys.length<sizeLine/\∀x H3,J.yld i H2 x H3->
  ∃p a b,x=.ref p/\nj K H3 p [a,b]/\te (some a::some b::σ) H3 λy H5=>H5 D=some (.lst ys)/\∃m',m'<m/\W (i+1) m' (ys++[y]) (upd H5 D (.lst (ys++[y])))))
def Ni{K:Frag}{s:St}(v:Nat->V->V->Prop)(j:Addr->Nat->List V->Hp->Prop)(hz:n≤sizeLine)(B:∀i c,b' H c->i<n->J.go i c)(A:∀i c x h,b' H c->i<n->J.yld i c x h->∃p a b,x=.ref p/\v i a b/\c p=none/\h=upd c p (.tup [a,b]))(z:∀c,b' H c->J.stop n c)(h0:∀D,H D=none->j D 0 [] (upd H D (.lst [])))(C:∀(D:Addr)(i:Nat)(a b:V)(ys:List V)(H' h:Hp)(u:VK),H D=none->i<n->v i a b->b' H H'->H' D<*.lst ys->j D i ys H'->b' H' h->
   (∀y k,k D<*.lst ys->b' H (upd k D (.lst (ys++[y])))->j D (i+1) (ys++[y]) (upd k D (.lst (ys++[y])))->u y k)->w (some a::some b::s) h u)(E:∀D ys H',H D=none->b' H H'->H' D<*.lst ys->j D n ys H'->Q (.ref D) H'):i6 K J w s H Q:=by
 intro D l;refine(λi m ys c=>m=n-i/\i≤n/\ys.length≤i/\b' H c/\c D=some (.lst ys)/\j D i ys c,(n,!1,zero_le _,!1,b'.upd l,a_,h0 D l),3);rintro i m ys c⟨rfl,F,t,f,g,hp⟩;refine(g,3);by_cases d:i<n
 .refine .inr (B i c f d,lt_of_le_of_lt t (lt_of_lt_of_le d hz),λx h o=>?_);let⟨p,a,b,rfl,r,q,rfl⟩:=A i c x h f d o;refine(p,a,b,1,nj.of a_,C D i a b ys c _ _ l d r f g hp (b'.upd q) λy k L I G=>(L,n-(i+1),sub_succ_lt_self _ _ d,1,d,by rw[j_];show succ_le_succ t,I,a_,G))
 .let e:i=n:=le_antisymm F (le_of_not_lt d);subst e;show .inl (z c f,E D ys c l f g hp)
def iS{K:Frag}{k:St}(j:H c<*.tup xs)(d:Addr->Nat->List V->Hp->Prop)(hz:xs.length≤sizeLine)(h0:∀D,H D=none->d D 0 [] (upd H D (.lst [])))(q:∀(D:Addr)(i:Nat)(x:V)(ys:List V)(H' e:Hp)(f:VK),H D=none->xs[i]?<*x->b' H H'->H' D<*.lst ys->d D i ys H'->b' H' e->
   (∀y g,g D<*.lst ys->b' H (upd g D (.lst (ys++[y])))->d D (i+1) (ys++[y]) (upd g D (.lst (ys++[y])))->f y g)->o (some (.int (i:Int))::some x::k) e f)(r:∀D ys H',H D=none->b' H H'->H' D<*.lst ys->d D xs.length ys H'->Q (.ref D) H'):i6 K (pX c) o k H Q:=by
 refine Ni (n:=xs.length) (λi a b=>a=.int (i:Int)/\xs[i]?<*b) d hz (λi m s h=>(xs,xs[i],s _ _ j,hH h)) ?_ (λm s=>(xs,s _ _ j,1)) h0 ?_ r
 .rintro i m x e s h⟨p,y,zs,l,A,z,w,v⟩;rw[s _ _ j]at l;cases l;show(p,_,y,z,(1,A),w,v)
 .rintro D i a b ys H' e f u I⟨rfl,t⟩G F E C B;show q D i b ys H' e f u t G F E C B
section
variable{X:Cx}{elt iter:Expr}{x:Str}{px pos:Pos}{ifs:List Expr}{sc:Scope}{wi:TI}{tt:TT}{te:TE}
end
def HG(K:Frag)(a:(X.K=K)>>>4):Hz X (oZ K):=by
 subst a;show eA
def aX(K:Frag)(a:(X.K=K)>>>4):Hz X (kj K):=by
 subst a;show em
def kP{X:Cx}(P:Program)(w:World)(a:X.A.units+64<cLine)(b:(X.prog=P)>>>4)(hw:(X.w=w)>>>4):Hz X (sq P w):=by
 subst b hw;show nJ a
def mS:lA (K1 a ys.length) a (.lst ys) ys.reverse:=λj e=>by
 refine(λi h=>(ys,e,1,by simpa using h),λi x g c h=>?_,3)
 .obtain ⟨f,xs,b,d⟩:=h;rw[e]at b;cases b;refine(f,3);rw[List.getElem?_reverse (by simpa using c)];show d
 .change ys.reverse.length=ys.length;rw[length_reverse]
def LI{xs:List V}(h:t≤xs.length):vo xs none (some (t:Int))=xs.take t:=by
 unfold vo;rw[HT.FC,HT.sIx_nat,List.drop_zero,Nat.sub_zero,min_eq_left h]
end L2
namespace RA
open L2
inductive KS where
 |inl (b:Bool)
 |inr (k:NK)
instance:DecidableEq KS:=λa b=>match a,b with
 |.inl a,.inl b=>if h:a=b then isTrue (by rw[h])else isFalse λz=>h (KS.inl.inj z)
 |.inr a,.inr b=>if h:a=b then isTrue (by rw[h])else isFalse λz=>h (KS.inr.inj z)
 |.inl _,.inr _=>isFalse λz=>by cases z
 |.inr _,.inl _=>isFalse λz=>by cases z
abbrev K2:KS->Bool
 |.inl _=>false
 |.inr _=>true
abbrev gX(H:Hp):KS->V->Prop
 |.inl b,x=>x=.bl b
 |.inr k,x=>∃p,x=.ref p/\Ig H k p
def uF(s:∀b xs,H b<*.tup xs->H' b<*.tup xs)(h:Ig H k a):Ig H' k a:=by
 let⟨b,d,c⟩:=h;show(b,s _ _ d,s _ _ c)
def gX.stay(s:∀b xs,H b<*.tup xs->H' b<*.tup xs)(h:gX H k x):gX H' k x:=by
 cases k with
 |inl b=>show h
 |inr k=>
  let⟨p,e,h⟩:=h;show(p,e,uF s h)
def Kj{d c:Type}[DecidableEq c](key:d->c)(val:d->V)(k:c):∀(kvs:List d)(n:Nat),(∀i x,kvs[i]?<*x->val x=.int ((n+i:Nat):Int))->
  (kvs.find? λx=>decide (key x=k)).map val=if k∈kvs.map key then some (.int ((n+(kvs.map key).idxOf k:Nat):Int))else none
 |[],n,_=>by simp
 |a::kvs,n,h=>by
  by_cases e:key a=k
  .let h0:=h 0 a rfl;rw[if_pos (by simp[e])];subst e;simp[find?_cons,h0]
  .let f:=Kj key val k kvs (n+1) λi x g=>by
    have:=h (i+1) x (by simpa using g);rw[this];congr 2;lia
   let j:(kvs.map key).idxOf k+1=((a::kvs).map key).idxOf k:=by
    rw[map_cons,idxOf_cons,beq_eq_false_iff_ne.mpr e];rfl
   rw[find?_cons,decide_eq_false e];show(kvs.find? λx=>decide (key x=k)).map val=_;rw[f];by_cases b:k∈kvs.map key
   .rw [if_pos b,if_pos (by rw[map_cons];show mem_cons_of_mem _ b),<-j];congr 3;lia
   .rw [if_neg b,if_neg (by rw[map_cons,mem_cons];rintro(z|z);show e z.symm;show b z)]
abbrev o_(P:Program)(w:World)(H:Hp)(d:Addr)(nest:Bool)(ks:List KS):Prop:=
 (nest=false/\∃kvs:List (Bool×V),H d=some (uu (Ie P w) d kvs)/\(kvs.map λx=>(KS.inl x.1:KS))=q5 ks/\∀(i:Nat)(x:Bool×V),kvs[i]?<*x->x.2=V.int (i:Int)) \/
 (nest=true/\∃kvs:List (NK×Addr×V),H d=some (vt (Hn P w) d kvs)/\(∀x∈kvs,Ig H x.1 x.2.1)/\(kvs.map λx=>(KS.inr x.1:KS))=q5 ks/\∀(i:Nat)(x:NK×Addr×V),kvs[i]?<*x->x.2.2=V.int (i:Int))
section
variable{P:Program}{w:World}{H:Hp}{d:Addr}{nest:Bool}{ks:List KS}
abbrev dZ(ks:List KS)(k:KS):Option V:=if k∈q5 ks then some (.int ((q5 ks).idxOf k:Nat))else none
def o_.get(h:o_ P w H d nest ks)(j:gX H k x)(g:K2 k=nest):p6 P w H d x (dZ ks k):=by
 rcases h with⟨rfl,kvs,e,f,c⟩|⟨rfl,kvs,e,l,f,c⟩
 .cases k with
  |inr k=>cases g
  |inl b=>
   refine .inl (kvs,b,e,j,3);have:=Kj (λx:Bool×V=>(KS.inl x.1:KS)) (·.2) (KS.inl b) kvs 0 (λi x a=>by rw[c i x a,Nat.zero_add]);rw[f]at this;unfold dZ aw;rw[Nat.zero_add]at this;rw[<-this];congr 2;funext x;show decide_eq_decide.mpr (λz=>KS.inl.inj z,λz=>by rw[z])
 .cases k with
  |inl k=>cases g
  |inr b=>
   let⟨p,n,m⟩:=j;refine .inr (.inl (kvs,b,p,e,l,n,m,3));have:=Kj (λx:NK×Addr×V=>(KS.inr x.1:KS)) (·.2.2) (KS.inr b) kvs 0 (λi x a=>by rw[c i x a,Nat.zero_add]);rw[f]at this;unfold dZ aq;rw[Nat.zero_add]at this;rw[<-this];congr 2;funext x;show decide_eq_decide.mpr (λz=>KS.inr.inj z,λz=>by rw[z])
def o_.len(h:o_ P w H d nest ks):tE P w H d (q5 ks).length:=by
 rcases h with⟨_,kvs,e,a,_⟩|⟨_,kvs,e,_,a,_⟩
 .exact .inl (kvs,e,by rw[<-a,ix])
 .exact .inr (kvs,e,by rw[<-a,ix])
def o_.same(h:o_ P w H d nest ks)(a:k∈q5 ks):o_ P w H d nest (ks++[k]):=by
 unfold o_ at h⊢;rw[uE,if_pos a];show h
def o_.mono(h:o_ P w H d nest ks)(s:b' H H'):o_ P w H' d nest ks:=by
 rcases h with⟨a,kvs,e,c⟩|⟨a,kvs,e,g,c⟩
 .exact .inl (a,kvs,s _ _ e,c)
 .exact .inr (a,kvs,s _ _ e,λx f=>uF (λb xs z=>s _ _ z) (g x f),c)
def o_.tups(h:o_ P w H d nest ks)(e:H'=upd H d c):∀b xs,H b<*.tup xs->H' b<*.tup xs:=λb xs z=>by
 rw[e,b_ (λq=>?_)]
 .exact z
 .subst q;rcases h with⟨_,kvs,a,_⟩|⟨_,kvs,a,_⟩
  .rw [a]at z;cases z
  .rw [a]at z;cases z
def mY(h:¬ j<n)(a:j-n<1):j=n:=by lia
def o_.put(h:o_ P w H d nest ks)(u:gX H k x)(t:K2 k=nest)(c:k∉q5 ks)(A:(q5 ks).length<sizeLine):∃v,tz P w H d x (.int ((q5 ks).length:Nat)) (upd H d v)/\o_ P w (upd H d v) d nest (ks++[k]):=by
 let l:dZ ks k=none:=if_neg c;let q:=h.get u t;rw[l]at q;let h0:=h;rcases h with⟨rfl,kvs,e,m,o⟩|⟨rfl,kvs,e,B,m,o⟩
 .cases k with
  |inr k=>cases t
  |inl b=>
   let f:(q5 ks).length=kvs.length:=by rw[<-m,ix]
   let g:aw kvs b=none:=by
    have:=Kj (λx:Bool×V=>(KS.inl x.1:KS)) (·.2) (KS.inl b) kvs 0 (λi x s=>by rw[o i x s,Nat.zero_add]);rw[m,if_neg c]at this;unfold aw;rw[<-this];congr 2;funext x;show decide_eq_decide.mpr (λz=>by rw[z],λz=>KS.inl.inj z)
   refine(_,.inl (kvs,b,e,u,g,by rw[<-f];show A,1),.inl (1,kvs++[(b,.int ((q5 ks).length:Nat),)],a_,3,λi y a=>?_))
   .rw [uE,if_neg c,map_append,m];rfl
   .by_cases n:i<kvs.length
    .rw [getElem?_append_left n]at a;show o i y a
    .rw [getElem?_append_right (le_of_not_lt n)]at a;let r:=mY n (j0 a).1;rw[r,sub_self]at a;cases a;change V.int ((q5 ks).length:Nat)=_;rw[f,r]
 .cases k with
  |inl k=>cases t
  |inr b=>
   let f:(q5 ks).length=kvs.length:=by rw[<-m,ix]
   let⟨p,D,C⟩:=u;let g:aq kvs b=none:=by
    have:=Kj (λx:NK×Addr×V=>(KS.inr x.1:KS)) (·.2.2) (KS.inr b) kvs 0 (λi x s=>by rw[o i x s,Nat.zero_add]);rw[m,if_neg c]at this;unfold aq;rw[<-this];congr 2;funext x;show decide_eq_decide.mpr (λz=>by rw[z],λz=>KS.inr.inj z)
   let j:=h0.tups (H':=upd H d (vt (Hn P w) d (kvs++[(b,p,.int ((q5 ks).length:Nat),)]))) rfl;refine(_,.inr (.inl (kvs,b,p,e,B,D,C,g,by rw[<-f];show A,1)),.inr (1,kvs++[(b,p,.int ((q5 ks).length:Nat),)],a_,λy a=>?_,3,λi y a=>?_))
   .rcases mem_append.mp a with a|a
    .exact uF j (B y a)
    .rw [t5 a];show uF j C
   .rw [uE,if_neg c,map_append,m];rfl
   .by_cases n:i<kvs.length
    .rw [getElem?_append_left n]at a;show o i y a
    .rw [getElem?_append_right (le_of_not_lt n)]at a;let r:=mY n (j0 a).1;rw[r,sub_self]at a;cases a;change V.int ((q5 ks).length:Nat)=_;rw[f,r]
def o_.new(P:Program)(w:World)(H:Hp)(p:Addr)(nest:Bool):o_ P w (upd H p (pB P w p (if nest=true then .nest else .bl))) p nest []:=by
 cases nest with
 |false=>show .inl (1,[],a_,1,λi x h=>by simp at h)
 |true=>show .inr (1,[],a_,λx h=>by simp at h,1,λi x h=>by simp at h)
end
def m4(e:List Bool):ak (e.map λb=>(KS.inl b:KS))=ak e:=KR (by rw[ix]) λi j a b k h d c g f=>by
 rw[lv,g]at d;rw[lv,f]at c;cases d;cases c;show(λz=>KS.inl.inj z,λz=>by rw[z])
def mZ(e:List NK):ak (e.map λb=>(KS.inr b:KS))=ak e:=KR (by rw[ix]) λi j a b k h d c g f=>by
 rw[lv,g]at d;rw[lv,f]at c;cases d;cases c;show(λz=>KS.inr.inj z,λz=>by rw[z])
def td(h:i<j+1)(n:¬ i=j):i<j:=Nat.lt_of_le_of_ne (Nat.le_of_lt_succ h) n
def qd(h:¬ j<n)(a:j-n<1):j=n:=by lia
def pT(h:i<t):t-1-i<t:=by omega
def rk(h:i<t):∃u,t-i=u+1/\t-1-i=u/\t-(i+1)=u:=(t-i-1,5,!6)
def sZ(d:w=i)(c:i<t)(b:t<k+1)(a:k≤4410000):w+1≤16777216:=by lia
def uf(h:k≤4410000):k+1<sizeLine:=by
 have:16777216≤sizeLine:=kA (!0);lia
def bi(z:Int)(b m:Nat)(a:0<m):∃n:Nat,(n:Int)=(b:Int)+z%(m:Int)/\b≤n/\n<b+m:=by
 let h0:=emod_nonneg z (show(m:Int)≠0 by lia);let c:=Int.emod_lt_of_pos z (show(0:Int)<(m:Int) by lia);show(b+(z%(m:Int)).toNat,5,!6)
def Kk(ws:LN):c_ ws=(zs ws).map V.int:=by
 unfold c_ zs;rw[map_map];rfl
def gY(ws:LN):(zs ws).length=ws.length:=by simp[zs]
def f_(ws:LN):(c_ ws).length=ws.length:=by simp[c_]
def G2(h:i<ws.length):(c_ ws)[i]?<*.int ((ws.getD i 0:Nat):Int):=by
 unfold c_;rw[lv,mu,hH h];rfl
def wN{ns:LN}(h:r<ns.length):ux (c_ ns) (r:Int)<*.int ((ns.getD r 0:Nat):Int):=wu (G2 h)
def FG{a:Type}{l:List a}{x:a}(h:l[i]?<*x):l.take (i+1)=l.take i++[x]:=by
 rw[take_add_one,h];rfl
def eK{a b:Nat}:decide (V.int (a:Int)=V.int (b:Int))=decide (a=b):=by
 by_cases h:a=b
 .subst h;simp
 .have:¬ V.int (a:Int)=V.int (b:Int):=λz=>h (by injection z with z;show Int.ofNat.inj z);rw[decide_eq_false h,decide_eq_false this]
abbrev oV:Option LN->V
 |none=>.non
 |some w=>.str (tx w)
abbrev JV(H:Hp)(lots:List Addr)(W:LL)(B:List Bool):Prop:=∀(i:Nat)(r:Addr),lots[i]?<*r->H r<*.lst (c_ (Rd W B i))
def JV.same(h:JV H a W B)(s:b' H H'):JV H' a W B:=λi r e=>s _ _ (h i r e)
def gy(g:j<n)(k:f j=false):false∈(List.range n).map f/\((List.range n).map f).idxOf false<n/\f (((List.range n).map f).idxOf false)=false/\∀i<((List.range n).map f).idxOf false,f i=true:=by
 let get:∀i,i<n->((List.range n).map f)[i]?<*f i:=λi d=>by rw[lv,getElem?_range d];rfl
 let c:false∈(List.range n).map f:=mem_map.mpr (j,mem_range.mpr g,k);let b:=idxOf_lt_length_of_mem c;let a:((List.range n).map f).idxOf false<n:=by simpa using b
 refine(c,a,3,λi d=>?_)
 .let e:=get _ a;rw[hH b,getElem_idxOf b]at e;show(Option.some.inj e).symm
 .let e:=get i (!2);cases h:f i with
  |true=>rfl
  |false=>
   rw[h]at e;have:=JO e;lia
def p'.row(g:a.length=W.length)(h:BF H a W)(f:r<W.length):∃b,a[r]?=some b/\H b<*.tup (c_ (W.getD r [])):=by
 let e:a[r]?<*(a[r]'(!6)):=hH _;let⟨ws,d,c⟩:=h r _ e;refine(_,e,3);rw[c,mu,d];rfl
def Ho(s:b' H H')(h:H' p=none):H p=none:=by
 cases e:H p with
 |none=>rfl
 |some o=>rw[s _ _ e]at h;cases h
def iR{u:TT}{v:TE}{p:St}{Q:VK}(k:Addr->Nat->List V->Hp->Prop)(hz:n≤sizeLine)(h0:∀D,H D=none->k D 0 [] (L2.upd H D (.lst [])))(A:∀(D:Addr)(i:Nat)(ys:List V)(H':Hp)(w:VK)(R2:Hp->Prop),H D=none->i<n->b' H H'->H' D<*.lst ys->k D i ys H'->
   (∀y h,h D<*.lst ys->b' H (L2.upd h D (.lst (ys++[y])))->k D (i+1) (ys++[y]) (L2.upd h D (.lst (ys++[y])))->w y h)->(∀g,b' H g->g D<*.lst ys->k D (i+1) ys g->R2 g)->
   u (some (.int (lo+(i:Int)))::p) H' λb g=>if b=true then v (some (.int (lo+(i:Int)))::p) g w else R2 g)(B:∀D ys H',H D=none->b' H H'->H' D<*.lst ys->k D n ys H'->Q (.ref D) H'):∀D,H D=none->∃W:Nat->Nat->List V->Hp->Prop,
 (∃m,W 0 m [] (L2.upd H D (.lst [])))/\∀i m ys f,W i m ys f->f D=some (.lst ys)/\(((HU lo n).stop i f/\Q (.ref D) f)\/((HU lo n).go i f/\ys.length<sizeLine/\∀x r,(HU lo n).yld i f x r->
  u (some x::p) r λb g=>if b=true then v (some x::p) g λy h=>h D=some (.lst ys)/\∃l,l<m/\W (i+1) l (ys++[y]) (L2.upd h D (.lst (ys++[y])))
   else ∃l,l<m/\W (i+1) l ys g)):=by
 intro D q;refine(λi m ys f=>m=n-i/\i≤n/\ys.length≤i/\b' H f/\f D=some (.lst ys)/\k D i ys f,(n,!1,zero_le _,!1,b'.upd q,a_,h0 D q),3);rintro i m ys f⟨rfl,C,t,o,j,hp⟩;refine(j,3);by_cases d:i<n
 .refine .inr (d,lt_of_le_of_lt t (lt_of_lt_of_le d hz),λx r s=>?_);let⟨e,z⟩:=s;subst e z;show A D i ys r _ _ q d o j hp (λy h a b c=>(a,n-(i+1),sub_succ_lt_self _ _ d,1,d,by rw[j_];show succ_le_succ t,b,a_,c)) (λg a b c=>(n-(i+1),sub_succ_lt_self _ _ d,1,d,Nat.le_succ_of_le t,a,b,c))
 .let e:i=n:=le_antisymm C (le_of_not_lt d);subst e;show .inl (Nat.le_refl _,B D ys f q o j hp)
def LJ{a:List Addr}(c:a.length=k+1)(h:a[k]?<*b):ux (a.map V.ref) (-1)<*.ref b:=by
 let e:a=a.take k++[b]:=by rw[<-FG h,take_of_length_le (!6)]
 rw[e,map_append];show gT _ _
def LK{ws:LN}(h:j<ws.length):(ws.map f).getD j 0=f (ws.getD j 0):=by
 rw[mu,mu,lv,hH h];rfl
def ba{ws:LN}(h:j<ws.length):ws.getD j 0∈ws:=by
 rw[mu,hH h];show getElem_mem h
def jy{H:Hp}(e:H r<*.lst (c_ ns))(b:H p<*.lst (ls.map V.ref))(d:ls≠[]):r≠p:=by
 rintro rfl;rw[e]at b;injection b with b;injection b with b;cases ls with
 |nil=>show d rfl
 |cons a l=>
  cases ns with
  |nil=>cases b
  |cons n ns=>
   rw[map_cons,c_,map_cons]at b;injection b with c _;cases c
inductive Kl(H:Hp)(wy mk p:Addr)(W:LL)(B:List Bool)(m:Nat)(σ:St)(H':Hp):Prop
 |mk (k:Nat) (lots:List Addr) (s4 s5:Option V) (_:m=fc W.length (Rd W B k)) (_:σ=[some (.ref wy),some (.ref mk),some (.int ((W.length:Nat):Int)),some (.ref p),s4,s5]) (_:b' H H') (_:H' p<*.lst (lots.map V.ref)) (_:lots.length=k+1) (_:JV H' lots W B) (_:∀i<k,Rd W B (i+1)≠Rd W B i)
section
variable{K:Frag}{te:TE}{tt:TT}{σ:St}{H:Hp}{Q:VK}{a c d:Addr}{o:HO}{xs zs:List V}
def HH(h:∀R:VK,R (.ref a) H->l σ H R)(q:o=.lst xs\/o=.tup xs)(j:H a<*o)(f:Addr->Nat->List V->Hp->Prop)(hz:xs.length≤sizeLine)(h0:∀D,H D=none->f D 0 [] (L2.upd H D (.lst [])))(n:∀(D:Addr)(i:Nat)(x:V)(ys:List V)(H':Hp)(k:VK)(R2:Hp->Prop),H D=none->xs[i]?<*x->b' H H'->H' D<*.lst ys->f D i ys H'->
   (∀y g,g D<*.lst ys->b' H (L2.upd g D (.lst (ys++[y])))->f D (i+1) (ys++[y]) (L2.upd g D (.lst (ys++[y])))->k y g)->(∀e,b' H e->e D<*.lst ys->f D (i+1) ys e->R2 e)->
   tt (some x::σ) H' λb e=>if b=true then te (some x::σ) e k else R2 e)(p:∀D ys H',H D=none->b' H H'->H' D<*.lst ys->f D xs.length ys H'->Q (.ref D) H'):GP (IZ l) tt te σ H Q:=
 h _ (a,o,xs,1,q,j,λJ m=>LH m j f hz h0 n p)
def Km{n:Nat}(j:∀R:List V->Hp->Prop,R [.int (n:Int)] H->t σ H R)(m:n≤2100)(f:Addr->Nat->List V->Hp->Prop)(h0:∀D,H D=none->f D 0 [] (L2.upd H D (.lst [])))(k:∀(D:Addr)(i:Nat)(ys:List V)(H':Hp)(h:VK)(R2:Hp->Prop),H D=none->i<n->b' H H'->H' D<*.lst ys->f D i ys H'->
   (∀y g,g D<*.lst ys->b' H (L2.upd g D (.lst (ys++[y])))->f D (i+1) (ys++[y]) (L2.upd g D (.lst (ys++[y])))->h y g)->(∀e,b' H e->e D<*.lst ys->f D (i+1) ys e->R2 e)->
   tt (some (.int (0+(i:Int)))::σ) H' λb e=>if b=true then te (some (.int (0+(i:Int)))::σ) e h else R2 e)(l:∀D ys H',H D=none->b' H H'->H' D<*.lst ys->f D n ys H'->Q (.ref D) H'):GP (jH t) tt te σ H Q:=
 j _ ((n:Int),1,5,iR (n:=n) f (kA (!2)) h0 k l)
end
def rf(L:LN)(W:LL)(r c:Nat)(u:LN):run L W r (c::u)=run L W (uR L W r c) u:=rfl
section
variable{P:Program}{w:World}{H:Hp}{d q:Addr}{ps:List (Nat×Nat)}
end
def I_{B:List Bool}(h:r<B.length):ux (B.map V.bl) ((r:Nat):Int)<*.bl (B.getD r false):=vZ V.bl (by rw[mu,hH h];rfl)
def qS{b:Type}{l:List b}(h:l.length=1):∃a,l=[a]:=match l,h with|[a],_=>(a,1)
def sI{c:Type}{l:List c}(h:l.length=2):∃a b,l=[a,b]:=match l,h with|[a,b],_=>(a,b,1)
end RA
namespace RA
def cH(L:LN)(c d:Nat):∀{a b:LN},ah L a b=true->ah L (a++[c]) (b++[d])=true
 |[],_,h=>by simp[ah]at h
 |_::_,[],h=>by simp[ah]at h
 |x::a,y::b,h=>by
  rw[cons_append,cons_append,ah];rw[ah]at h;by_cases e:x=y
  .rw [if_pos e]at h⊢;show cH L c d h
  .rw [if_neg e]at h⊢;show h
def Nj(L:LN)(c:Nat):∀{a b:LN},a.length=b.length->ah L (a++[c]) (b++[c])=true->ah L a b=true
 |[],[],_,h=>by simp[ah]at h
 |[],_::_,e,_=>by simp at e
 |_::_,[],e,_=>by simp at e
 |x::a,y::b,e,h=>by
  rw[cons_append,cons_append,ah]at h;rw[ah];by_cases q:x=y
  .rw [if_pos q]at h⊢;show Nj L c (by simpa using e) h
  .rw [if_neg q]at h⊢;show h
def cK(L:LN){c d:Nat}(b:L.idxOf c<L.idxOf d):∀a:LN,ah L (a++[c]) (a++[d])=true
 |[]=>by
  rw[List.nil_append,List.nil_append,ah,if_neg (λe=>by rw[e]at b;lia)];show decide_eq_true b
 |x::a=>by
  rw[cons_append,cons_append,ah,if_pos rfl];show cK L b a
def Nk(L:LN):∀{a b:LN},ah L a b=true->ah L b a=false
 |[],_,h=>by simp[ah]at h
 |_::_,[],h=>by simp[ah]at h
 |x::a,y::b,h=>by
  rw[ah]at h⊢;by_cases e:x=y
  .rw [if_pos e]at h;rw[if_pos e.symm];show Nk L h
  .rw [if_neg e]at h;rw[if_neg (Ne.symm e)];have:=of_decide_eq_true h;show decide_eq_false (!6)
def Nl(L:LN):∀{a b c:LN},ah L a b=true->ah L b c=true->ah L a c=true
 |[],_,_,h,_=>by simp[ah]at h
 |_::_,[],_,h,_=>by simp[ah]at h
 |_::_,_::_,[],_,h=>by simp[ah]at h
 |x::a,y::b,z::c,h,k=>by
  rw[ah]at h k⊢;by_cases e:x=y
  .subst e;rw[if_pos rfl]at h;by_cases f:x=z
   .rw [if_pos f]at k⊢;show Nl L h k
   .rw [if_neg f]at k⊢;show k
  .rw [if_neg e]at h;let d:=of_decide_eq_true h;by_cases f:y=z
   .subst f;rw[if_neg e];show h
   .rw [if_neg f]at k;let i:=of_decide_eq_true k;rw[if_neg (λg=>by rw[g]at d;lia)];show decide_eq_true (!2)
def Nm{L:LN}:∀{a b:LN},a.length=b.length->(∀c∈a,c∈L)->(∀c∈b,c∈L)->ah L a b=true\/a=b\/ah L b a=true
 |[],[],_,_,_=>.inr (.inl rfl)
 |[],_::_,e,_,_=>by simp at e
 |_::_,[],e,_,_=>by simp at e
 |x::a,y::b,e,f,g=>by
  rw[ah,ah];by_cases q:x=y
  .subst q;rw[if_pos rfl,if_pos rfl];rcases Nm (a:=a) (b:=b) (by simpa using e) (λc d=>f c (by simp[d])) (λc d=>g c (by simp[d]))with h|h|h
   .exact .inl h
   .exact .inr (.inl (by rw[h]))
   .exact .inr (.inr h)
  .rw [if_neg q,if_neg (Ne.symm q)];rcases lt_trichotomy (L.idxOf x) (L.idxOf y)with h|h|h
   .exact .inl (decide_eq_true h)
   .exact absurd (GR (f x (!1)) h) q
   .exact .inr (.inr (decide_eq_true h))
section
variable{L a b c:LN}
def Jb(h:a.length<b.length):o4 L a b=true:=by
 unfold o4;rw[if_pos (!6)];show decide_eq_true h
def HI(h:a.length=b.length):o4 L a b=ah L a b:=by
 unfold o4;rw[if_neg (by simpa using h)]
def JW(h:o4 L a b=true):a.length≤b.length:=by
 by_cases e:a.length=b.length
 .lia
 .unfold o4 at h;rw[if_pos e]at h;have:=of_decide_eq_true h;lia
def bH(x y:Nat)(h:o4 L a b=true):o4 L (a++[x]) (b++[y])=true:=by
 let d:=JW h;by_cases e:a.length=b.length
 .rw [HI (by simp[e])];rw[HI e]at h;show cH L x y h
 .exact Jb (by simp;lia)
def bI(h:L.idxOf x<L.idxOf y):o4 L (a++[x]) (a++[y])=true:=by
 rw[HI (!1)];show cK L h a
def Kn(h:o4 L a b=true):o4 L b a=false:=by
 let d:=JW h;by_cases e:a.length=b.length
 .rw [HI e]at h;rw[HI e.symm];show Nk L h
 .unfold o4;rw[if_pos (Ne.symm e)];show decide_eq_false (!6)
def wC(h:o4 L a b=true)(k:o4 L b c=true):o4 L a c=true:=by
 let f:=JW h;let d:=JW k;by_cases e:a.length=c.length
 .rw [HI (!6)]at h k;rw[HI e];show Nl L h k
 .exact Jb (!6)
def eG:o4 L a []=false:=by
 unfold o4;by_cases e:a.length=([]:LN).length
 .rw [if_neg (by simpa using e)];cases a<;>simp[ah]
 .rw [if_pos e];simp
def K3(f:∀x∈a,x∈L)(d:∀x∈b,x∈L):o4 L a b=true\/a=b\/o4 L b a=true:=by
 by_cases e:a.length=b.length
 .rw [HI e,HI e.symm];show Nm e f d
 .by_cases h:a.length<b.length
  .exact .inl (Jb h)
  .exact .inr (.inr (Jb (!6)))
def eI(e:∀x∈a,x∈L)(d:∀x∈b,x∈L)(h:o4 L b a=false)(k:o4 L c b=false):o4 L c a=false:=by
 cases q:o4 L c a with
 |false=>rfl
 |true=>
  rcases K3 e d with t|t|t
  .rw [wC q t]at k;cases k
  .rw [<-t,q]at k;cases k
  .rw [t]at h;cases h
def gB(x:Nat)(h:o4 L b a=false):o4 L (b++[x]) (a++[x])=false:=by
 cases q:o4 L (b++[x]) (a++[x])with
 |false=>rfl
 |true=>
  let d:=JW q;by_cases e:b.length=a.length
  .rw [HI (by simp[e])]at q;rw[HI e,Nj L x e q]at h;cases h
  .rw [Jb (by simp at d;lia)]at h;cases h
end
section
variable{κ:Type}[DecidableEq κ]
abbrev aA(g:κ->Nat->κ)(L:LN)(s:κ)(w:LN):κ:=w.foldl (λt c=>g t (L.idxOf c)) s
def Ko(g:κ->Nat->κ)(L:LN)(s:κ)(w:LN)(c:Nat):aA g L s (w++[c])=g (aA g L s w) (L.idxOf c):=by
 unfold aA;rw[List.foldl_append];rfl
structure Bf(g:κ->Nat->κ)(L:LN)(s:κ)(ts:List κ)(ws:LL)(n k:Nat):Prop where
 len:ts.length=ws.length
 nd:ts.Nodup
 t0:ts[0]?<*s
 w0:ws[0]?<*[]
 srt:∀(i j:Nat)(a b:LN),i<j->ws[i]?<*a->ws[j]?<*b->o4 L a b=true
 lead:∀(i:Nat)(t:κ)(a:LN),ts[i]?<*t->ws[i]?<*a->(∀c∈a,c∈L)/\aA g L s a=t
 par:∀(j:Nat)(b:LN),ws[j]?<*b->b=[]\/∃(p q:Nat)(a:LN),ws[p]?=some a/\q<L.length/\b=a++[L.getD q 0]/\(p<n\/(p=n/\q<k))
 fin:∀(r q:Nat)(t:κ)(a:LN),(r<n\/(r=n/\q<k))->q<L.length->ts[r]?<*t->ws[r]?<*a->∃(j:Nat)(b:LN),ts[j]?=some (g t q)/\ws[j]?=some b/\o4 L (a++[L.getD q 0]) b=false
variable{g:κ->Nat->κ}{L:LN}{s:κ}{ts:List κ}{ws:LL}{n k:Nat}
def Bf.start(g:κ->Nat->κ)(L:LN)(s:κ):Bf g L s [s] [[]] 0 0 where
 len:=rfl
 nd:=by simp
 t0:=rfl
 w0:=rfl
 srt:=λi j a b l f d=>by
  have:=(j0 d).1;simp at this;lia
 lead:=λi t a e f=>by
  match i,e,f with
  |0,e,f=>cases e;cases f;show(λc m=>by simp at m,1)
  |i+1,e,_=>simp at e
 par:=λj b d=>by
  match j,d with
  |0,d=>cases d;show .inl rfl
  |j+1,d=>simp at d
 fin:=λr q t a h=>by lia
def Bf.behind(h:Bf g L s ts ws n k)(d:L.Nodup){a:LN}(i:ws[n]?<*a)(f:k<L.length){j:Nat}{b:LN}(l:ws[j]?<*b):o4 L b (a++[L.getD k 0])=true:=by
 rcases h.par j b l with rfl|⟨p,q,r,hp,e,rfl,c⟩
 .exact Jb (!1)
 .rcases c with c|⟨rfl,c⟩
  .exact bH _ _ (h.srt p n r a c hp i)
  .rw [i]at hp;cases hp;refine bI ?_;let o:L.idxOf (L.getD q 0)=q:=by rw[mu,hH e];show Ke d e
   let m:L.idxOf (L.getD k 0)=k:=by rw[mu,hH f];show Ke d f
   rw[o,m];show c
def jx(h:r<n\/(r=n/\q<k+1)):(r<n\/(r=n/\q<k))\/(r=n/\q=k):=by lia
def Bf.old(h:Bf g L s ts ws n k)(u:L.Nodup){t:κ}{a:LN}(v:ts[n]?<*t)(o:ws[n]?<*a)(y:k<L.length)(x:g t k∈ts):Bf g L s ts ws n (k+1):=
 {h with
  par:=λj b z=>by
   rcases h.par j b z with e|⟨p,q,i,C,B,A,D⟩
   .exact .inl e
   .exact .inr (p,q,i,C,B,A,!6)
  fin:=λr q t' i f w c d=>by
   rcases jx f with f|⟨rfl,rfl⟩
   .exact h.fin r q t' i f w c d
   .rw [v]at c;rw[o]at d;cases c;cases d;let⟨j,m⟩:=mem_iff_getElem?.mp x;let l:j<ws.length:=by rw[<-h.len];show(j0 m).1
    show(j,ws[j],m,hH l,Kn (h.behind u o y (hH l)))}
def Bf.new(h:Bf g L s ts ws n k)(O:L.Nodup){t:κ}{a:LN}(F:ts[n]?<*t)(E:ws[n]?<*a)(C:k<L.length)(R:g t k∉ts):Bf g L s (ts++[g t k]) (ws++[a++[L.getD k 0]]) n (k+1):=by
 let P:L.getD k 0=L[k]:=by rw[mu,hH C];rfl
 let w:∀{o:Type}{l:List o}{x y:o}{i:Nat},l[i]?<*y->(l++[x])[i]?<*y:=λ{o l x y i}e=>by
  rw[getElem?_append_left (j0 e).1];show e
 let split:∀{o:Type}{l:List o}{x y:o}{i:Nat},(l++[x])[i]?<*y->l[i]?<*y\/(i=l.length/\y=x):=λ{o l x y i}e=>by
  by_cases S:i<l.length
  .rw [getElem?_append_left S]at e;show .inl e
  .rw [getElem?_append_right (!6)]at e;have:i-l.length=0:=by
    have:=(j0 e).1;simp at this;lia
   rw[this]at e;show .inr (!6,(Option.some.inj e).symm)
 let A:(ts++[g t k])[ts.length]?<*g t k:=by rw[getElem?_append_right (Nat.le_refl _),sub_self];rfl
 let u:(ws++[a++[L.getD k 0]])[ws.length]?<*(a++[L.getD k 0]):=by rw[getElem?_append_right (Nat.le_refl _),sub_self];rfl
 let⟨H,B⟩:=h.lead n t a F E;refine(by simp[h.len],3,w h.t0,w h.w0,λi j x y I d z=>?_,λi t' x f d=>?_,λj b M=>?_,λr q t' x G Q f d=>?_)
 .rw [nodup_append];show(h.nd,!1,λx d y z e=>R (by rw[t5 z]at e;rw[<-e];show d))
 .rcases split z with z|⟨rfl,rfl⟩
  .rcases split d with d|⟨rfl,rfl⟩
   .exact h.srt i j x y I d z
   .have:=(j0 z).1;lia
  .rcases split d with d|⟨rfl,rfl⟩
   .exact h.behind O E C d
   .lia
 .rcases split f with f|⟨rfl,rfl⟩
  .rcases split d with d|⟨rfl,rfl⟩
   .exact h.lead i t' x f d
   .have:=(j0 f).1;rw[h.len]at this;lia
  .rcases split d with d|⟨_,rfl⟩
   .have:=(j0 d).1;rw[h.len]at this;lia
   .refine (λc D=>?_,3)
    .rcases mem_append.mp D with D|D
     .exact H c D
     .rw [t5 D,P];show getElem_mem C
    .rw [Ko,B,P,Ke O C]
 .rcases split M with M|⟨rfl,rfl⟩
  .rcases h.par j b M with e|⟨p,q,a',W,U,T,h4⟩
   .exact .inl e
   .exact .inr (p,q,a',w W,U,T,!6)
  .exact .inr (n,k,a,w E,C,1,.inr (1,lt_succ_self k))
 .let hrn:r≤n:=by lia
  let hn:=(j0 F).1;let m:ts[r]?<*t':=by rw[getElem?_append_left (!6)]at f;show f
  let v:ws[r]?<*x:=by rw[getElem?_append_left (by rw[<-h.len];lia)]at d;show d
  rcases jx G with G|⟨rfl,rfl⟩
  .obtain ⟨j,b,Z,Y,X⟩:=h.fin r q t' x G Q m v;show(j,b,w Z,w Y,X)
  .rw [F]at m;rw[E]at v;cases m;cases v;refine(ts.length,_,A,by rw[h.len];show u,3);cases N:o4 L (a++[L.getD q 0]) (a++[L.getD q 0])with
   |false=>rfl
   |true=>show N.symm.trans (Kn N)
def Bf.next(h:Bf g L s ts ws n L.length):Bf g L s ts ws (n+1) 0:=
 {h with
  par:=λj b f=>by
   rcases h.par j b f with e|⟨p,q,u,o,m,l,w⟩
   .exact .inl e
   .exact .inr (p,q,u,o,m,l,!6)
  fin:=λr q t a v d c i=>h.fin r q t a (!6) d c i}
def Bf.told(h:Bf g L s ts ws ts.length 0)(F:L.Nodup):∀(w:LN)(m:Nat),w.length=m->(∀c∈w,c∈L)->∃(j:Nat)(b:LN),ts[j]?=some (aA g L s w)/\ws[j]?=some b/\o4 L w b=false:=by
 intro w m;induction m generalizing w with
 |zero=>
  intro e _;rw[length_eq_zero_iff.mp e];show((0),[],h.t0,h.w0,eG)
 |succ m u=>
  intro e hw;obtain⟨c,v,rfl⟩:∃c v,w=v++[c]:=(w.getLast (by intro z;rw[z]at e;cases e),w.dropLast,(dropLast_concat_getLast _).symm);let y:∀x∈v,x∈L:=λx d=>hw x (by simp[d]);let l:c∈L:=hw c (!1);let⟨r,a,i,t,E⟩:=u v (by simpa using e) y;let A:=(j0 i).1;let f:L.idxOf c<L.length:=idxOf_lt_length_of_mem l;let⟨j,b,q,p,o⟩:=h.fin r (L.idxOf c) _ a (.inl A) f i t;let D:L.getD (L.idxOf c) 0=c:=by rw[mu,hH f];show getElem_idxOf f
  rw[D]at o;let⟨C,_⟩:=h.lead r _ a i t;refine(j,b,by rw[Ko];show q,p,3);let⟨B,_⟩:=h.lead j _ b q p;refine eI (b:=a++[c]) B (λx d=>?_) o (gB c E);rcases mem_append.mp d with d|d
  .exact C x d
  .rw [t5 d];show l
abbrev vO(U ts:List κ):Nat:=U.countP λx=>!decide (x∈ts)
def cL{U ts:List κ}{x:κ}(b:x∈U)(a:x∉ts):vO U (ts++[x])<vO U ts:=by
 refine Ki (λz hz h=>?_) (x,b,9)
 .simp only[Bool.not_eq_true',decide_eq_false_iff_not]at h⊢;show λq=>h (mem_append_left _ q)
 .simp only[Bool.not_eq_true',decide_eq_false_iff_not];show a
 .simp only[Bool.not_eq_false',decide_eq_true_eq];show mem_append_right _ (mem_singleton.mpr rfl)
end
end RA
namespace L2
open PySem.Spec PyProof.Rows
structure Iv(N ps fr:List Str)(sc:Scope):Prop where
 kind:sc.kind=.function
 co:sc.isCoroutine=false
 gen:sc.isGenerator=false
 nd:N.Nodup
 pre:N.take ps.length=ps
 suf:N.drop (N.length-fr.length)=fr
 fit:ps.length+fr.length≤N.length
 par:∀x∈ps,sc.names.lookup x<*.local
 nocell:∀y∈sc.names,y.2≠.cell
structure GF(h:Heap)(clos:List (Str×Addr))(sc:Scope)(fr:List Str)(fvs:List V):Prop where
 inj:∀y z c,clos.lookup y<*c->clos.lookup z<*c->y=z
 has:∀y∈sc.names,y.2=.free->∃c,clos.lookup y.1<*c
 cell:∀y c,clos.lookup y<*c->∃v,h.IsCell c v
 len:fvs.length=fr.length
 val:∀(i:Nat)(y:Str)(v:V),fr[i]?<*y->fvs[i]?<*v->(sc.names.lookup y<*.free)/\∃c u,clos.lookup y=some c/\h.IsCell c (some u)/\ad v u
abbrev aR(CX:CXT)(P:Program)(w:World)(K:Frag)(mg:Str->Option Value)(base:Heap)(N:List Str)(qual:Str)(scope:Scope)(f:Addr)(cd:Value)(clos:List (Str×Addr))(A:Around)(outer:List Env)(s:Shared)(H:Hp)(E:XK):Cx where
 prog:=P
 w:=w
 K:=K
 mg:=mg
 base:=base
 A:=A.deeper (envX qual scope s⁻¹ f cd clos)
 N:=N
 s₀:=s
 H₀:=H
 env:=envX qual scope s⁻¹ f cd clos
 outer:=outer
 stack:=envX qual scope s⁻¹ f cd clos::outer
 ex:=[]
 calm:=true
 fn:=λ_=>false
 pn:=[]
 xe:=λe s'=>wpAny (model P w) (A.deeper (envX qual scope s⁻¹ f cd clos)) (leaving (envX qual scope s⁻¹ f cd clos) e) (λ_ s''=>CX outer H s E e s'') (λe' s''=>CX outer H s E e' s'') s'
abbrev GG(N:List Str)(vs fvs:List V):St:=vs.map some++(replicate (N.length-vs.length-fvs.length) none++fvs.map some)
def oS:∀{ps:List Str}{a:List Value}{i:Nat},ps.Nodup->ps[i]?<*x->a[i]?<*v->(ps.zip a).reverse.lookup x<*v:=by
 intro ps a i k h g;let l:(x,v,)∈(ps.zip a).reverse:=by
  rw[mem_reverse];let hz:(ps.zip a)[i]?<*(x,v,):=by rw[getElem?_zip_eq_some];show(h,g)
  show pa hz
 let c:∀b,(x,b,)∈(ps.zip a).reverse->b=v:=λb d=>by
  rw[mem_reverse]at d;let⟨j,f⟩:=mem_iff_getElem?.mp d;rw[getElem?_zip_eq_some]at f;let e:j=i:=vH k f.1 h;subst e;have:=f.2;rw[g]at this;show(Option.some.inj this).symm
 cases e:(ps.zip a).reverse.lookup x with
 |none=>
  have:=List.lookup_eq_none_iff.mp e _ l;simp at this
 |some b=>rw[c b (PySem.mem_of_lookup e)]
section
variable{CX:CXT}{P:Program}{w:World}{K:Frag}{mg:Str->Option Value}{base:Heap}{N ps fr:List Str}{qual:Str}{scope:Scope}{f:Addr}{cd:Value}{clos:List (Str×Addr)}{A:Around}{outer:List Env}{s:Shared}{H:Hp}{E:XK}{us:List Value}{vs fvs:List V}
def Nn(S:Iv N ps fr scope)(C:GF base clos scope fr fvs)(L:A.handled=none)(g:aD P w K mg base A outer s H)(Z:vs.length=ps.length)(r:ae vs us)(G:h'.Ns s⁻¹ (λx=>(ps.zip us).reverse.lookup x))(D:SameBut s⁻¹ (s.heap.push {cls:=.type "frame",data:=.dict #[]}) h'):hA (aR CX P w K mg base N qual scope f cd clos A outer s H E) [] (GG N vs fvs) H {s with heap:=h',toks:=tk}:=by
 let I:∀b o,s.heap.get? b<*o->h'.get? b<*o:=λb o e=>D.extBut b o (ne_of_lt (lt_size e)) (mJ _ e);let k:∀b:Addr,b∉(aR CX P w K mg base N qual scope f cd clos A outer s H E).ex:=λb z=>absurd (show b∈([]:List Addr)from z) (!1);let j:∀c v,base.IsCell c v->h'.IsCell c v:=λc v M=>by let⟨o,F,L⟩:=M;show(o,I c o (g.bs c o F).1,L)
 let X:us.length=ps.length:=by rw[<-r.length];show Z
 let O:=S.fit;let ab:=C.len;refine((g.mod,S.kind,6,Nat.le_refl _,λy z c n d=>C.inj y z c n d,λy l=>?_,λy c h=>absurd (show false=true from h) Bool.false_ne_true,λ_=>L,Around.frames_deeper g.frames,.inr (1,1),λb z=>absurd z (k b),g.bs,g.bsz,λb _ _=>k b,λb z=>absurd z (k b),g.funs,g.frf),
  rfl,g.bare,Un.kept I,(_,G,λi y v n d h3=>?_),λy c h=>?_,g.hok.fresh (Nat.le_refl _),λy c h=>?_,λp hp=>absurd (show p∈([]:List (Addr×Obj))from hp) (!1),g.hok.kept I,3)
 .let l:scope.names.lookup y<*.cell\/scope.names.lookup y<*.free:=l;rcases l with l|l
  .exact absurd rfl (S.nocell _ (PySem.mem_of_lookup l))
  .exact C.has _ (PySem.mem_of_lookup l) rfl
 .let n:N[i]?<*y:=n;let hi:i<N.length:=(j0 n).1;unfold GG at d;by_cases t:i<vs.length
  .let ha:vs[i]?<*v:=by
    rw[getElem?_append_left (by simpa using t),lv]at d;cases e:vs[i]? with
    |none=>rw[e]at d;cases d
    |some a=>rw[e]at d;cases d;rfl
   let⟨u,Y,Q⟩:=r.get ha;let hp:ps[i]?<*y:=by
    rw[<-S.pre,List.getElem?_take_of_lt (!6)];show n
   let B:ps.Nodup:=by rw[<-S.pre];show S.nd.sublist (List.take_sublist _ _)
   show(u,Q,.inl (S.par y (pa hp),oS B hp Y))
  .rw [getElem?_append_right (by simpa using t)]at d;rw[ix]at d;by_cases m:i-vs.length<N.length-vs.length-fvs.length
   .rw [getElem?_append_left (by simpa using m),List.getElem?_replicate,if_pos m]at d;cases d
   .rw [getElem?_append_right (by simpa using m),length_replicate,lv]at d;let ej:i-vs.length-(N.length-vs.length-fvs.length)=i-(N.length-fr.length):=by lia
    rw[ej]at d;cases e:fvs[i-(N.length-fr.length)]? with
    |none=>rw[e]at d;cases d
    |some a=>
     rw[e]at d;cases d;let hf:fr[i-(N.length-fr.length)]?<*y:=by
      let q:(N.drop (N.length-fr.length))[i-(N.length-fr.length)]?<*y:=by
       rw[getElem?_drop,show N.length-fr.length+(i-(N.length-fr.length))=i by omega];show n
      rw[S.suf]at q;show q
     let⟨W,c,u,U,T,R⟩:=C.val _ _ _ hf e;show(u,R,.inr (.inr W,c,U,j c _ T))
 .obtain ⟨v,z⟩:=C.cell y c h;show(v,j c v z)
 .obtain ⟨v,o,F,_⟩:=C.cell y c h;show(g.bs c o F).2
 .unfold GG;change _=N.length;simp only[j_,ix,length_replicate];lia
def eF(ho:base.get? f<*o)(hd:o.data=.func (PySem.W.fnX name qual d g scope clos .none .none doc pm none (.ref j) T))(O:base.CodeRec (.ref j) qual)(S:Iv N ps fr scope)(C:GF base clos scope fr fvs)(len:∀vs H Q E,U vs H Q E->vs.length=ps.length)(i:∀(A:Around)(outer:List Env)(s:Shared)(H:Hp)(vs:List V)(Q:VK)(E:XK),ag k (A.deeper (envX qual scope s⁻¹ f (.ref j) clos))->U vs H Q E->
   ∃t,wo (aR kd P w K mg base N qual scope f (.ref j) clos A outer s H E).nox g t/\t {nx:=λ_ H'=>Q .non H',rt:=Q} (GG N vs fvs) H):aa P w K mg base kd (k+1) f (PySem.W.fnX name qual d g scope clos .none .none doc pm none (.ref j) T) ps U:=by
 refine(len,λA outer s H Z us vs Q E G B hb r m=>?_);let Y:=len _ _ _ _ m;let F:s.heap.NoLimit:=B.mod.nolimit.keeps λb o e=>(B.bs b o e).1;let ab:us.length=ps.length:=by rw[<-r.length];show Y
 let h:∀y∈ps.zip us,scope.names.lookup y.1<*.local:=λR hy=>by let⟨n,v⟩:=R;show S.par n (of_mem_zip hy).1
 let x:s.heap.CodeRec (.ref j) qual:=by
  let⟨c,X,ws,t,e1,e2,e3,e4⟩:=O;show(c,X,ws,t,e1,(B.bs c X e2).1,e3,e4)
 refine codeAny_call_function G.depth (B.bs f o ho).1 hd S.co S.gen rfl x (hb _ _ _ _ ?_);refine wpAny_newFunctionEnv (closure:=clos) (around:=none) S.nocell h (λh' L p=>?_) S.kind;let M:∀b o,s.heap.get? b<*o->h'.get? b<*o:=λb o e=>p.extBut b o (ne_of_lt (lt_size e)) (mJ _ e);refine(F.keeps M,codeAny_func ?_);let⟨t,ht,hq⟩:=i A outer s H vs Q E (G.deeper _) m;let I:hA (aR kd P w K mg base N qual scope f (.ref j) clos A outer s H E) [] (GG N vs fvs) H {s with heap:=h',toks:=s.toks+(ps.zip us).length}:=Nn S C G.hd B Y r L p;refine wpAny_mono (ht.nox [] _ (GG N vs fvs) H _ I hq) (λfl s' l=>?_) λe s' l=>l;let z:∀{a:St}{H':Hp}{v:V}{u:Value},hA (aR kd P w K mg base N qual scope f (.ref j) clos A outer s H E) [] a H' s'->ad v u->Q v H'->CE outer P w H s Q u s':=
  λ{a H' v u}J D q=>(v,H',J.os,J.bare,J.base,J.hok,D,q)
 cases fl with
 |ret u=>
  let⟨v,a,H',J,D,q⟩:=l;show z J D q
 |next=>
  let⟨a,H',J,q⟩:=l;show z (v:=V.non) (u:=Value.none) J rfl q
 |brk=>
  let⟨_,_,_,q⟩:=l;show False.elim q
 |cont=>
  let⟨_,_,_,q⟩:=l;show False.elim q
end
abbrev mj(i:Nat)(f:Addr)(sp:Sp)(t:TA):TE:=λσ H Q=>σ[i]?=some (some (.ref f))/\t σ H λvs H1=>sp vs H1 Q E0
def fO{X:Cx}{k i:Nat}{f:Addr}{u b:FuncData}{d:Value}{p pos:Pos}(F:aa X.prog X.w X.K X.mg X.base kd k f u ps B)(G:ag k X.A)(o:X.base.get? f<*(d,n,.func b,m))(N:vC X.K u ps [])(E:PE X (.Name x p) (bP i))(O:PA X (e::c) t)(M:(starEach (e::c) X.env=(false,eval e X.env,)::starEach c X.env)>>>4)(g:((backTo pos (starEach c X.env)).any (·.1)=false)>>>4):PE X (.Call (.Name x p) (e::c) [] pos) (mj i f B t):=by
 intro a s l H Q I h;refine wpAny_Call_Name_kw (kl (E a s l H (λv j=>v=.ref f/\j=H) I (_,h.1,6)) λP C L=>?_);let⟨v,j,z,D,rfl,rfl⟩:=L;obtain rfl:P=.ref f:=D;refine PySem.W.callWith_F (d,n,b,m,(z.bs f _ o).1) (kl (O pos a C l j _ z h.2) λR s2⟨vs,S,y,r,q⟩=>((d,n,b,m,(y.bs f _ o).1),3)) M g;show dF F G N .nil ci y r (by rw[append_nil];show q)
def dg(q:Pos)(r:List Value)(l:List Value)(h:TriplesOk l):codeAmong q (l++r)=(codeAmong q l).or (codeAmong q r):=by
 induction l using TriplesOk.induct with
 |case1=>simp[codeAmong]
 |case2 a t b u c rest d=>
  let h:TriplesOk rest:=h;simp only[cons_append,codeAmong];split
  .rfl
  .exact d h
 |case3 l f e=>
  exfalso;unfold TriplesOk at h;split at h
  .exact f rfl
  .exact e _ _ _ _ _ _ rfl
  .exact h
def No(x y:Int)(t u:Tok)(c:Value)(l:List Value)(h:TriplesOk l):TriplesOk (l++[.int x t,.int y u,c]):=by
 induction l using TriplesOk.induct with
 |case1=>show True.intro
 |case2 a t b u c rest d=>show d h
 |case3 l f e=>
  exfalso;unfold TriplesOk at h;split at h
  .exact f rfl
  .exact e _ _ _ _ _ _ rfl
  .exact h
abbrev l'(c:Addr)(q:Str):HO:=.ext λh=>h.CodeRec (.ref c) q
abbrev uM(f:Addr)(name qual:Str)(params:Arguments)(body:List Stmt)(scope:Scope)(clos:List (Str×Addr))(c:Addr):HO:=.ext λh=>∃doc pm ctv,h.get? f<*fnMade name qual params body scope clos doc pm c ctv
inductive uG(H:Hp)(P0:Addr)(sites:List (Pos×Str)):Prop
 |mk (ps:_) (_:H P0<*.tbl ps) (_:TriplesOk ps.toList) (_:∀q∈sites,codeAmong q.1 ps.toList=none\/∃c,codeAmong q.1 ps.toList=some (.ref c)/\H c<*(l' c q.2))
abbrev vP(P0:Addr)(H H':Hp):Prop:=∀b o,b≠P0->H b<*o->H' b<*o
structure HJ(h:Heap)(mg:Str->Option Value):Prop where
 ex:∃bm o,mg "__builtins__"=some (.ref bm)/\bm≠builtinsNs/\bm≠mainGlobals/\h.get? bm=some o/\o.cls=.type "module"/\o.dict=some builtinsNs/\o.data=.plain
abbrev rP(X:Cx)(P0:Addr)(sites:List (Pos×Str))(i:Nat)(name qual:Str)(params:Arguments)(body:List Stmt)(sc:Scope):TS:=λD σ H=>uG H P0 sites/\
 ∀(clos:List (Str×Addr))(f c:Addr)(H1:Hp),(∀y a,clos.lookup y<*a->X.env.cells.lookup y<*a)->(∀y∈sc.names,y.2=.free->∃a,clos.lookup y.1<*a)->H f=none->f≠c->vP P0 H H1->uG H1 P0 sites->
  H1 c<*l' c qual->H1 f<*uM f name qual params body sc clos c->D.nx (σ.set i (some (.ref f))) H1
def c9(x:h.CodeRec (.ref c) q):uz P w H h c (l' c q):=by
 let⟨g,a,vs,t,e,b,f,d⟩:=id x;cases e;refine(x,(a,b),λj i y k=>?_);let⟨g,a,vs,t,e,b,f,d⟩:=y;cases e;show(_,a,vs,t,1,k _ b,f,d)
def jJ{P:Program}{w:World}(x:h.get? f<*fnMade name qual a i b g doc pm c l):uz P w H h f (uM f name qual a i b g c):=
 ((doc,pm,l,x),(_,x),λ_ _ j k=>by let⟨d,p,v,e⟩:=j;show(d,p,v,k _ e))
def Kp{X:Cx}{d:Arguments}{g:List Stmt}{sc:Scope}(hN:X.N.Nodup)(hi:X.N[i]?<*name)(hx:Hy X.env.scope name)(G:X.env.code=.ref c)(hC:CodeHd X.base c P0)(hB:HJ X.base X.mg)(ai:(pos,qual,)∈sites)(R:∀q∈sites,q.1.line=pos.line->q.1.col=pos.col->q.2=qual)(hq:(qualnameIn X.env name name=qual)>>>4)(b2:(d.defaults=[])>>>4)(bo:(d.kw_defaults=[])>>>4)(ha:(annTrees d none X.env=[])>>>4)(az:((sc.names.all λy=>y.2 != .free||X.env.scope.names.lookup y.1==some .cell)=true)>>>4)(hf:(X.fn name=true\/X.env.scope.names.lookup name<*.local)>>>8):PS X (.FunctionDef name d g [] none [] sc none name pos) (rP X P0 sites i name qual d g sc):=by
 intro B s σ H D I h;let⟨⟨ps,hP,ht,M⟩,h⟩:=h;let b0:∀y∈sc.names,y.2=.free->X.env.kindOf y.1<*.cell:=λy hy e=>by
  let q:=all_eq_true.mp az y hy;rw[e]at q;simpa[Env.kindOf]using q
 let⟨m,L,Y,Z⟩:=Ly (env:=X.env) (sc:=sc) λy hy e=>I.ok.has y.1 (.inl (b0 y hy e));let aU:s.heap.get? P0<*tabObj ps:=I.hok P0 _ hP;let ab:P0<s⁻¹:=I.hok.lt hP;let U:s.heap.BuiltinsAt X.mg P0:=by
  let⟨bm,o,e1,e2,e3,e4,e5,e6,e7⟩:=hB.ex;refine(bm,o,e1,e2,e3,λz=>?_,(I.bs bm o e4).1,e5,e6,e7);let n:=(I.bs bm o e4).2;rw[z,hP]at n;cases n
 let ap:s.heap.Ns mainGlobals X.mg:=I.mod.glob.keeps I.bk;let bt:mainGlobals≠P0:=λz=>by
  let⟨o,es,ep,e,hd,_⟩:=ap;rw[z,aU]at e;cases e;cases hd
 let a9:=hC.keeps I.bk;refine PySem.W.nestDef_K b2 bo ha ?_;rw[hq];let bb:∀{f:Addr}{s1:Shared}{Q:Hp},hA X B σ Q s1->D.nx (σ.set i (some (.ref f))) Q->wpAny (model X.prog X.w) X.A (storeName X.env name (.ref f)) (λ_ bc=>SP X B D .next bc) X.xe s1:=λ{f s1 Q}I1 q=>
  vI I1 hN hi hx (v:=.ref f) rfl (λs' I'=>(_,Q,I',q)) hf
 let be:∀{b:Addr}{u:HO},H b<*u->b<s⁻¹:=λe=>I.hok.lt e;rcases M _ ai with bl|⟨c0,a4,a5⟩
 .refine PySem.W.makeFunction_K (mg:=X.mg) L I.ok.glob ap G a9 aU ht bl bt U λj r doc h' tk bf as a3 aZ bg=>?_;let b3:P0≠j:=ne_of_lt (lt_of_lt_of_le ab as);let C:s⁻¹<h'.objs.size:=lt_of_le_of_lt as a3;let a8:P0≠h'.objs.size:=ne_of_lt (lt_trans ab C);let aM:j≠h'.objs.size:=ne_of_lt a3;generalize b1:h'.objs.size=f at a8 aM C⊢;let kp:∀b o,b≠P0->s.heap.get? b<*o->(h'.push (fnMade name qual d g sc m doc ((X.mg "__name__").getD .none) j r)).get? b<*o:=λb o k e=>mJ _ (bf b o k e);let a1:(h'.push (fnMade name qual d g sc m doc ((X.mg "__name__").getD .none) j r)).get? f<*fnMade name qual d g sc m doc ((X.mg "__name__").getD .none) j r:=by rw[<-b1];show get?_push_size _ rfl
  let a2:(h'.push (fnMade name qual d g sc m doc ((X.mg "__name__").getD .none) j r)).CodeRec (.ref j) qual:=by
   let⟨c2,oc,vs,t,e,e1,e2,e3⟩:=aZ;show(c2,oc,vs,t,e,mJ _ e1,e2,e3)
  let T:(h'.push (fnMade name qual d g sc m doc ((X.mg "__name__").getD .none) j r)).get? P0<*tabObj (ps++#[rawInt pos.line,rawInt pos.col,.ref j]):=mJ _ bg;generalize h'.push (fnMade name qual d g sc m doc ((X.mg "__name__").getD .none) j r)=hh at kp a1 a2 T⊢;generalize an:ps++#[rawInt pos.line,rawInt pos.col,.ref j]=ps' at T;let aV:∀{b:Addr},b<s⁻¹->b≠j/\b≠f:=λk=>(ne_of_lt (lt_of_lt_of_le k as),ne_of_lt (lt_trans k C));let P:∀{b:Addr},b<s⁻¹->b≠P0->upd (upd (upd H P0 (.tbl ps')) j (l' j qual)) f (uM f name qual d g sc m j) b=H b:=λk U=>by
   rw[b_ (aV k).2,b_ (aV k).1,b_ U]
  let ac:∀{b:Addr},b≠P0->b≠j->b≠f->upd (upd (upd H P0 (.tbl ps')) j (l' j qual)) f (uM f name qual d g sc m j) b=H b:=λh1 h2 h3=>by
   rw[b_ h3,b_ h2,b_ h1]
  let F:upd (upd (upd H P0 (.tbl ps')) j (l' j qual)) f (uM f name qual d g sc m j) P0<*.tbl ps':=by rw[b_ a8,b_ b3,a_]
  let E:upd (upd (upd H P0 (.tbl ps')) j (l' j qual)) f (uM f name qual d g sc m j) j<*l' j qual:=by rw[b_ aM,a_]
  let O:upd (upd (upd H P0 (.tbl ps')) j (l' j qual)) f (uM f name qual d g sc m j) f<*uM f name qual d g sc m j:=a_;generalize upd (upd (upd H P0 (.tbl ps')) j (l' j qual)) f (uM f name qual d g sc m j)=Q at P ac F E O;let nP:∀{b:Addr},H b=none->b≠P0:=λn z=>by rw[z,hP]at n;cases n
  let x:∀{b:Addr}{u:HO},H b<*u->b≠P0->Q b<*u:=λe k=>by rw[P (be e) k];show e
  let p:∀{b:Addr}{u:HO},H b<*u->(∀ps,u≠.tbl ps)->Q b<*u:=λe hu=>x e λz=>by
   rw[z,hP]at e;cases e;show hu _ rfl
  let un:Un X.fs [] H Q s.heap hh:=by
   refine(λb o e n _ _=>kp b o (nP n) e,λb o e n _ _=>(o.slots,kp b o (nP n) e),λb o e n _=>by rw[P (lt_size e) (nP n)];show n,λb o e _=>?_,λb xs e=>p e (λ_ z=>nomatch z),λb o u e=>p e (λ_ z=>nomatch z),λb qs e=>?_)
   .by_cases k:b=P0
    .rw [k];show(_,T)
    .exact (o,kp b o k e)
   .by_cases k:b=P0
    .rw [k,hP]at e;cases e;rw[k];show(_,by rw[F,an])
    .exact (#[],by rw[x e k];simp)
  let a0:uK X.prog X.w Q hh:=λa o e=>by
   by_cases a6:a=f
   .rw [a6]at e⊢;rw[O]at e;cases e;show jJ a1
   by_cases a7:a=j
   .rw [a7]at e⊢;rw[E]at e;cases e;show c9 a2
   by_cases aT:a=P0
   .rw [aT]at e⊢;rw[F]at e;cases e;show T
   rw[ac aT a7 a6]at e;refine(I.hok a o e).stay (λb u k q=>kp b u (λz=>?_) q) (λb q=>p q (λ_ z=>nomatch z)) λb xs q=>p q (λ_ z=>nomatch z);rcases k with k|k
   .exact aT (k▸z)
   .rw [z,hP]at k;cases k
  let I1:hA X B σ Q {s with heap:=hh,toks:=tk}:=I.un un a0;refine bb I1 (h m f j Q Y Z (I.hok.fresh (Nat.le_of_lt C)) (Ne.symm aM) (λb o k e=>x e k) (ps',F,3,λq S=>?_) E O)
  .rw [<-an,toList_append];show No _ _ _ _ _ _ ht
  .rw [<-an,toList_append,dg _ _ _ ht];rcases M q S with hn|⟨c1,h1,h2⟩
   .rw [hn,Option.none_or];by_cases l:q.1.line=pos.line/\q.1.col=pos.col
    .refine .inr (j,9)
     .change codeAmong q.1 [rawInt pos.line,rawInt pos.col,.ref j]=_;simp[codeAmong,rawInt,l.1,l.2]
     .rw [R q S l.1 l.2];show E
    .refine .inl ?_;change codeAmong q.1 [rawInt pos.line,rawInt pos.col,.ref j]=_;simp only[codeAmong,rawInt];rw[if_neg];intro z;simp at z;show l (!6,!6)
   .rw [h1,Option.some_or];show .inr (c1,1,p h2 (λ_ z=>nomatch z))
 .refine PySem.W.makeFunction_hit (mg:=X.mg) L I.ok.glob ap G a9 aU ht a4 U λr doc h' tk hk hsz=>?_;let I1:hA X B σ (upd H h'.objs.size (uM h'.objs.size name qual d g sc m c0)) {s with heap:=h'.push (fnMade name qual d g sc m doc ((X.mg "__name__").getD .none) c0 r),toks:=tk}:=
   I.laid (λb u e=>mJ _ (hk b u e)) hsz (jJ (get?_push_size _ rfl))
  let aF:H h'.objs.size=none:=I.hok.fresh hsz;let kH:∀{b:Addr}{u:HO},H b<*u->upd H h'.objs.size (uM h'.objs.size name qual d g sc m c0) b<*u:=λe=>by rw[b_ (f' e aF)];show e
  refine bb I1 (h m _ c0 _ Y Z aF (Ne.symm (f' a5 aF)) (λb o _ e=>kH e) (ps,kH hP,ht,λq S=>?_) (kH a5) a_);rcases M q S with hn|⟨c1,h1,h2⟩
  .exact .inl hn
  .exact .inr (c1,h1,kH h2)
abbrev ut(U:List Addr)(H:Hp):Hp:=λb=>if b∈U then none else H b
abbrev aN(U:List Addr)(H H':Hp):Hp:=λb=>if b∈U then H b else H' b
def K4(h:b∈U):ut U H b=none:=if_pos h
def wD(h:b∉U):ut U H b=H b:=if_neg h
def Kq(h:b∈U):aN U H H' b=H b:=if_pos h
def Ih(h:b∉U):aN U H H' b=H' b:=if_neg h
def Mod.keeps{K:Frag}(M:Mod K mg h)(k:∀b o,h.get? b<*o->h'.get? b<*o):Mod K mg h':=
 (M.kin.keeps k,M.glob.keeps k,let⟨c,a,b⟩:=M.blt;(c,a.keeps k,b),M.nolimit.keeps k)
section
variable{P:Program}{w:World}{K:Frag}{mg:Str->Option Value}{base:Heap}{A:Around}{outer:List Env}{s:Shared}{H:Hp}{U:List Addr}
def lN(f:aD P w K mg base A outer s H)(m:∀u∈U,∃i,H u<*.ext i):∃c,aD P w K mg c A outer s (ut U H)/\(∀b o,base.get? b<*o->c.get? b<*o)/\∀b o,s.heap.get? b<*o->b∉vf outer->ut U H b=none->c.get? b<*o:=by
 let h:∀b o,s.heap.get? b<*o->b∉vf outer->ut U H b=none->(hideAll s.heap (IQ s.heap (ut U H)++vf outer)).get? b<*o:=λb o e t r=>PySem.W.hideAll_get _ e λl=>by
  rcases mem_append.mp l with z|z
  .let q:((ut U H) b).isSome=true:=(mem_filter.mp z).2;rw[r]at q;cases q
  .exact t z
 let g:∀b,H b=none->b∉U:=λb n z=>by
  let⟨i,e⟩:=m b z;rw[n]at e;cases e
 let sub:∀b o,base.get? b<*o->(hideAll s.heap (IQ s.heap (ut U H)++vf outer)).get? b<*o:=λb o e=>by
  let⟨k,n⟩:=f.bs b o e;refine h b o k (λz=>?_) (by rw[wD (g b n)];show n);have:=(f.funs.mem z).1;rw[e]at this;cases this
 let d:∀{b:Addr}{u:HO},H b<*u->(∀i,u≠.ext i)->ut U H b<*u:=λ{b u}e p=>by
  rw[wD λz=>?_]
  .exact e
  .obtain ⟨i,e'⟩:=m b z;rw[e]at e';show p i (Option.some.inj e')
 refine(hideAll s.heap (IQ s.heap (ut U H)++vf outer),(f.frames,f.mod.keeps sub,λb o e=>?_,le_of_eq (PySem.W.hideAll_size _ _),Nd f.funs λb j=>mem_append_right _ j,λb j=>?_,λa o e=>?_,f.bare),sub,h)
 .let k:=PySem.W.of_hideAll _ e;refine(k,3);cases q:ut U H b with
  |none=>rfl
  |some u=>
   let l:b∈IQ s.heap (ut U H)++vf outer:=mem_append_left _ (mem_filter.mpr (mem_range.mpr (lt_size k),by simp[q]));rw[PySem.W.hideAll_none _ l]at e;cases e
 .rw [wD (g b (f.frf b j))];show f.frf b j
 .let v:a∉U:=λz=>by rw[K4 z]at e;cases e
  rw[wD v]at e;show(f.hok a o e).stay (λ_ _ _ q=>q) (λb q=>d q (λ_ z=>nomatch z)) λb xs q=>d q (λ_ z=>nomatch z)
def bT(E:aD P w K mg base A outer s H)(C:∀u∈U,∃k,H u<*.ext k)(h:CE outer P w (ut U H) s (λv G=>(∀u∈U,G u=none)->Q v (aN U H G)) u s'):CE outer P w H s Q u s':=by
 let⟨v,H',os,y,j,D,r,q⟩:=h;let d:∀b,H b=none->b∉U:=λb n z=>by
  let⟨k,e⟩:=C b z;rw[n]at e;cases e
 let m:∀b∈U,b∉vf outer:=λb c z=>d b (E.frf b z) c;let f:∀b∈U,∃o,s.heap.get? b=some o/\s'.heap.get? b=some o/\H' b=none:=λb c=>by
  let⟨k,e⟩:=C b c;let⟨_,⟨o,t⟩,_⟩:=E.hok b _ e;show(o,t,j.keep b o t (K4 c) (m b c) (!1),j.free b o t (K4 c) (!1))
 let g:∀{b:Addr}{x:HO},H b<*x->(∀k,x≠.ext k)->b∉U:=λ{b x}e l z=>by
  let⟨k,e'⟩:=C b z;rw[e]at e';show l k (Option.some.inj e')
 let i:∀{b:Addr}{x:HO},H' b<*x->aN U H H' b<*x:=λ{b x}e=>by
  rw[Ih λz=>?_]
  .exact e
  .obtain ⟨_,_,_,n⟩:=f b z;rw[e]at n;cases n
 refine(v,aN U H H',os,y,(λb o e n c l=>?_,λb o e n c l=>?_,λb o e n l=>?_,j.there,λb xs e=>?_,λb o x e=>?_,λb ps e=>?_),λa o e=>?_,r,q λb c=>(f b c).choose_spec.2.2)
 .exact j.keep b o e (by rw[wD (d b n)];show n) c l
 .exact j.slot b o e (by rw[wD (d b n)];show n) c l
 .rw [Ih (d b n)];show j.free b o e (by rw[wD (d b n)];show n) l
 .let c:=g e (λ_ z=>nomatch z);rw[Ih c];show j.tups b xs (by rw[wD c];show e)
 .let c:=g e (λ_ z=>nomatch z);rw[Ih c];show j.frzs b o x (by rw[wD c];show e)
 .let c:=g e (λ_ z=>nomatch z);rw[Ih c];show j.tbls b ps (by rw[wD c];show e)
 .by_cases B:a∈U
  .rw [Kq B]at e;let⟨k,e'⟩:=C a B;rw[e']at e;cases e;let⟨o,t,p,_⟩:=f a B;let⟨I,_,F⟩:=E.hok a _ e';show(F _ _ I (λL z=>by rw[t]at z;cases z;show p),(o,p),F)
  .rw [Ih B]at e;show(D a o e).stay (λ_ _ _ z=>z) (λb z=>i z) λb xs z=>i z
end
structure Jq(X:Cx)(U:List Addr)(σ:St)(H:Hp)(base':Heap):Prop where
 sub:∀b o,X.base.get? b<*o->base'.get? b<*o
 mod:Mod X.K X.mg base'
 ext:∀u φ,u∈U->H u<*.ext φ->φ base'
 inj:∀y z c,X.env.cells.lookup y<*c->X.env.cells.lookup z<*c->y=z
 cell:∀y c,X.env.cells.lookup y<*c->∃v,base'.IsCell c v
 val:∀(i:Nat)(y:Str)(v:V),X.N[i]?<*y->σ[i]?<*some v->X.env.scope.names.lookup y<*.cell->∃c u,X.env.cells.lookup y=some c/\base'.IsCell c (some u)/\ad v u
abbrev rK(X:Cx)(f:Addr)(fd:FuncData)(ps:List Str)(dvs:List V)(t:TA):TE:=λσ H Q=>t σ H λvs H1=>∃U:List Addr,(∀u∈U,∃φ,H1 u<*.ext φ)/\∀base':Heap,Jq X U σ H1 base'->
 ∃(k:Nat)(sp:Sp),ag k X.A/\aa X.prog X.w X.K X.mg base' kd k f fd ps sp/\sp (vs++dvs) (ut U H1) (λv H2=>(∀u∈U,H2 u=none)->Q v (aN U H1 H2)) E0
def i8{k:St}(d:hA X t k j s)(N:∀u∈U,∃r,j u<*.ext r)(n:∀y,X.fn y=true):∃a,aD X.prog X.w X.K X.mg a X.A X.stack s (ut U j)/\Jq X U k j a:=by
 let⟨a,D,h,g⟩:=lN d.env0 N;let b:∀y c v,X.env.cells.lookup y<*c->s.heap.IsCell c v->a.IsCell c v:=λy c v f q=>by
  let⟨o,x,p⟩:=q;let B:=d.freeC y c f;refine(o,g c o x (λz=>?_) ?_,p)
  .rcases mem_cons.mp (d.stkSub c z)with z|z
   .exact d.cne y c f z
   .obtain ⟨_,Q,l,_⟩:=d.ok.funs.mem z;show absurd (lt_size l) (Nat.not_lt.mpr (d.ok.cab y c (n y) f))
  .unfold ut;split
   .rfl
   .exact B
 let W:Jq X U k j a:=by
  refine(h,D.mod,λu r L e=>?_,d.ok.inj,λy c f=>?_,λi y v P O C=>?_)
  .obtain ⟨G,⟨o,x⟩,F⟩:=d.hok u _ e;refine F _ _ G λH z=>g u H z (λy=>?_) (K4 L);rw[d.stkFree u y]at e;cases e
  .obtain ⟨v,z⟩:=d.cell y c f;show(v,b y c v f z)
  .obtain ⟨m,B,M⟩:=d.loc;let⟨u,E,lk⟩:=M i y v P O (.inr (.inl C));rcases lk with⟨I,_⟩|⟨_,c,f,z⟩
   .have:X.env.scope.names.lookup y<*.local:=I;rw[C]at this;cases this
   .exact (c,u,f,b y c _ f z,E)
 show(a,D,W)
def dO{X:Cx}{f:Addr}{p pos:Pos}(G:Gl X x)(C:X.mg x<*.ref f)(E:keepIn X.K (.ref f)=true)(N:vC X.K R ps ds)(M:ae dvs ds)(O:PA X (e::j) t)(m:∀y,X.fn y=true)(n:((x==("__debug__":Str))=false)>>>0)(L:(starEach (e::j) X.env=(false,eval e X.env,)::starEach j X.env)>>>4)(l:((backTo pos (starEach j X.env)).any (·.1)=false)>>>4):PE X (.Call (.Name x p) (e::j) [] pos) (rK X f R ps dvs t):=by
 intro c s z H Q I h;refine wpAny_Call_Name_kw (vE I G C ?_ n);refine callWith_K (h₀:=X.base) I.ok.mod.kin E (kl (O pos c s z H _ I h) λb o⟨vs,T,i,r,q⟩=>(i.kIn,3)) L l;let⟨U,w,q⟩:=q;let⟨a,S,W⟩:=i8 i w m;let⟨k,Y,B,F,d⟩:=q a W;let v:ae (vs++dvs) (b++ds):=r.append M;let D:(b++ds).length=ps.length:=by rw[<-v.length];show F.len _ _ _ _ d
 refine wpAny_call (codeAny_mono (F.run X.A X.stack o (ut U T) (b,[]) (b++ds) (vs++dvs) _ E0 B S (N o b i.kIn D) v d) λr s' g=>?_);cases r with
 |error e=>show False.elim g
 |ok P=>
  cases P with
  |ret u=>show i.after (bT i.env0 w g)
  |next=>show False.elim g
  |brk=>show False.elim g
  |cont=>show False.elim g
abbrev wE(ts:List Addr)(K:Frag):Frag:=K.filter λq=>!ts.contains q.1
def Iw{ts:List Addr}{a:Addr}(d:ts.contains a=false):∀{K:Frag},(wE ts K).lookup a=K.lookup a
 |[]=>rfl
 |(b,x)::r=>by
  unfold wE;rw[List.filter_cons];by_cases e:a=b
  .subst e;rw[if_pos (by simpa using d),lookup_cons,lookup_cons];simp
  .let c:(a==b)=false:=beq_eq_false_iff_ne.mpr e;split
   .rw [lookup_cons,lookup_cons,c];show Iw (K:=r) d
   .rw [lookup_cons,c];show Iw (K:=r) d
def K5{ts:List Addr}{a:Addr}{o:Obj}:∀{K:Frag},(wE ts K).lookup a<*o->ts.contains a=false
 |[],e=>by cases e
 |(b,x)::r,e=>by
  unfold wE at e;rw[List.filter_cons]at e;split at e
  .rename_i d;rw[lookup_cons]at e;by_cases c:a=b
   .subst c;simpa using d
   .rw [beq_eq_false_iff_ne.mpr c]at e;show K5 (K:=r) e
  .exact K5 (K:=r) e
def LM{K:Frag}(e:K.lookup a<*o)(b:ts.contains a=false):(wE ts K).lookup a<*o:=(Iw b).trans e
def Np{K:Frag}(e:nsIn K a x=r)(b:ts.contains a=false):nsIn (wE ts K) a x=r:=by
 unfold nsIn at e⊢;rw[Iw b];show e
def LO{K:Frag}(e:codeIn K (.ref c) x=true)(a:ts.contains c=false):codeIn (wE ts K) (.ref c) x=true:=by
 unfold codeIn at e⊢;dsimp only at e⊢;rw[Iw a];show e
abbrev eQ(K:Frag)(c P:Addr):Bool:=match K.lookup c with
 | some ⟨.type n,_,.fields vs,_⟩=>n=="code"&&c != P&&(match (vs[11]?:Option Value),(vs[18]?:Option Value),(vs[7]?:Option Value),(vs[9]?:Option Value),(vs[10]?:Option Value)with
   |some (.ref Q),some (.str _ _),some (.int _ _),some (.bool _),some (.int _ _)=>Q==P
   | _,_,_,_,_=>false)
 |_=>false
def iT{K:Frag}(X:K.In h)(e:eQ K c P=true):CodeHd h c P:=by
 unfold eQ at e;split at e
 .rename_i n B vs A l;let g:=X _ _ l;rw[and_eq_true,and_eq_true]at e;let⟨⟨y,w⟩,d⟩:=e;split at d
  .rename_i Q s t i u b j v f r q p o;let m:Q=P:=eq_of_beq d;subst m;let a:∀{k:Nat}{x:Value},vs[k]?<*x->vs.getD k .none=x:=λ{k x}z=>by
    rw[Array.getD_eq_getD_getElem?,z];rfl
   show(_,vs,s,t,i,u,b,j,v,g,by rw[eq_of_beq y],1,f,a f,a r,a q,a p,a o,by simpa using w)
  .cases d
 .cases e
structure qe(K:Frag)(q:Addr×Addr):Prop where
 code:eQ K q.1 q.2=true
 tab:K.lookup q.2<*(tabObj #[])
abbrev dn(K:Frag)(tabs:List (Addr×Addr)):Sp:=λvs H Q _=>∃(a:Addr)(ns:List Int),vs=[.ref a]/\i4 K H a (ns.map V.int)/\ns.length≤63/\(∀q∈tabs,H q.2<*(.tbl #[]))/\∀H',Q (.bl true) H'
def gQ(x:CodeHd h c P)(k:∀o,o.cls=.type "code"->h.get? c<*o->h'.get? c<*o):CodeHd h' c P:=by
 let⟨o,vs,d,l,a,j,f,b,i,e,g,r⟩:=x;show(o,vs,d,l,a,j,f,b,i,k o g e,g,r)
def kM{P:Program}{w:World}{K:Frag}(KX:K.In c.heap)(hT:∀q∈tabs,qe K q)(T:c.heap.Ns mainGlobals mg)(hB:HJ c.heap mg)(i:c.heap.Ns builtinsNs mb)(ai:∀x:Str,x≠"__name__"->mb x=bootBuiltins x)(W:c.heap.NoLimit)(hg:c.gens=#[])(N:c.heap.get? a<*{cls:=.type "list",data:=.seq vs.toArray})(hi:IntsAre vs ns)(hl:ns.length≤63)(hr:ag k callerA)(F:∀base:Heap,(wE (tabs.map (·.2)) K).In base->base.Ns mainGlobals mg->HJ base mg->(∀q∈tabs,CodeHd base q.1 q.2)->aa P w (wE (tabs.map (·.2)) K) mg base kd k fa fd [x] (dn (wE (tabs.map (·.2)) K) tabs))(M:∀(s:Shared)(u:Value),BindsTo s fd ([u],[]) [(x,u,)]):codeAny (model P w) callerA (.call (.ref fa) ([.ref a],[])) (λr s'=>r=.ok (.ret (.bool true))/\OldK c.heap s'.heap/\s'.os=c.os/\AllBare s'.gens) c:=by
 let rv:=bU hi;let R:=hi.length;let U:ns.length≤sizeLine:=Nat.le_trans hl (by rw[sizeLine_eq];decide);let j:∀q∈tabs,c.heap.get? q.2<*(tabObj #[]):=λq g=>KX _ _ (hT q g).tab;let hd:∀q∈tabs,CodeHd c.heap q.1 q.2:=λq g=>iT KX (hT q g).code;let B:∀{b:Addr},(tabs.map (·.2)).contains b=true->∃q∈tabs,q.2=b:=λ{b}i=>by
  rw[List.contains_iff_mem]at i;let⟨q,g,e⟩:=mem_map.mp i;show(q,g,e)
 let t:∀{q:Addr×Addr},q∈tabs->(tabs.map (·.2)).contains q.2=true:=λ{q}g=>by
  rw[List.contains_iff_mem];show List.mem_map_of_mem g
 let aT:(tabs.map (·.2)).contains a=false:=by
  cases z:(tabs.map (·.2)).contains a with
  |false=>rfl
  |true=>
   let⟨q,g,e⟩:=B z;let p:=j q g;rw[e,N]at p;cases p
 let I:∀H:Hp,i4 (wE (tabs.map (·.2)) K) H a (ns.map V.int)->uK P w H c.heap->(∀b,H b=none\/(b=a/\K.lookup a=none/\H b<*.frz {cls:=.type "list",data:=.seq vs.toArray} (.lst (ns.map V.int)))\/((tabs.map (·.2)).contains b=true/\H b<*(.tbl #[])))->
   (∀q∈tabs,H q.2<*(.tbl #[]))->
   codeAny (model P w) callerA (.call (.ref fa) ([.ref a],[])) (λr s'=>r=.ok (.ret (.bool true))/\OldK c.heap s'.heap/\s'.os=c.os/\AllBare s'.gens) c:=by
  intro H hS S hO ap;let f:∀{b:Addr}{o:Obj},c.heap.get? b<*o->H b=none->(bD c.heap H).get? b<*o:=λe n=>nS e n;let freeOf:∀{b:Addr}{o:Obj},c.heap.get? b<*o->b≠a->o≠tabObj #[]->H b=none:=λ{b o}e L ac=>by
   rcases hO b with z|⟨z,_⟩|⟨z,_⟩
   .exact z
   .exact absurd z L
   .obtain ⟨q,g,G⟩:=B z;let p:=j q g;rw[G,e]at p;show absurd (Option.some.inj p) ac
  let A:∀{b:Addr}{m:Str->Option Value},c.heap.Ns b m->(bD c.heap H).Ns b m:=λ{b m}an=>by let⟨o,es,ep,e,d,r⟩:=an;show(o,es,ep,f e (freeOf e (λz=>by rw[z,N]at e;cases e;cases d) (λz=>by rw[z]at d;cases d)),d,r)
  let Y:(wE (tabs.map (·.2)) K).In (bD c.heap H):=λb o e=>by
   let hn:=K5 e;let p:=KX b o ((Iw hn).symm.trans e);refine f p ?_;rcases hO b with z|⟨z,Q,_⟩|⟨z,_⟩
   .exact z
   .rw [Iw hn,z,Q]at e;cases e
   .rw [hn]at z;cases z
  let az:HJ (bD c.heap H) mg:=by
   let⟨bm,o,p,G,e3,O,e5,e6,e7⟩:=hB.ex;show(bm,o,p,G,e3,f O (freeOf O (λz=>by rw[z,N]at O;cases O;cases e7) (λz=>by rw[z]at e7;cases e7)),e5,e6,e7)
  let as:∀q∈tabs,CodeHd (bD c.heap H) q.1 q.2:=λq g=>gQ (hd q g) λo X e=>f e (freeOf e (λz=>by rw[z,N]at e;cases e;injection X with X;show absurd X (!0)) (λz=>by rw[z]at X;cases X));let hM:Mod (wE (tabs.map (·.2)) K) mg (bD c.heap H):=(Y,A T,(mb,A i,ai),let⟨mc,h1,h2⟩:=W;(mc,A h1,h2));let e0:aD P w (wE (tabs.map (·.2)) K) mg (bD c.heap H) callerA [] c H:=(1,hM,λb o e=>pq e,le_of_eq (kU _ _),trivial,λb i=>absurd (show b∈([]:List Addr)from i) (!1),S,.of_eq hg);refine codeAny_mono ((F _ Y (A T) az as).run callerA [] c H ([.ref a],[]) [.ref a] [.ref a] (λv _=>v=.bl true) (λ_ _ _=>False) hr e0 (M c (.ref a)) (.cons rfl .nil) (a,ns,1,hS,hl,ap,λ_=>rfl)) λr s' h=>?_;cases r with
  |error e=>show False.elim h
  |ok fl=>
   cases fl with
   |next=>show False.elim h
   |brk=>show False.elim h
   |cont=>show False.elim h
   |ret u=>
    let⟨v,H',os,Z,un,E,r',q⟩:=h;let q':v=.bl true:=q;subst q';obtain rfl:u=Value.bool true:=r';refine(1,(λb o e=>?_,λb o e=>un.there b o e (!1)),os,Z);rcases hO b with z|⟨z1,_,z⟩|⟨z1,z⟩
    .exact .inl (un.keep b o e z (by intro y;show absurd (show b∈([]:List Addr)from y) (!1)) (!1))
    .obtain ⟨p,_⟩:=S b _ z;let⟨G,_⟩:=E b _ (un.frzs b _ _ z);rw[e]at p;cases p;show .inl G
    .obtain ⟨q,g,G⟩:=B z1;let⟨D,z3⟩:=un.tbls b _ z;let e3:s'.heap.get? b<*{cls:=.none,data:=.fields (#[]++D)}:=E b _ z3;let O:=j q g;rw[G,e]at O;cases O;refine .inr (.inl (3,1,#[],D,1,e3));have:=((hd q g).tab (j q g)).isCodeTable;rw[G]at this;show this
 let ab:∀{H:Hp}{b:Addr},(tabs.map (·.2)).contains b=true->uz P w H c.heap b (.tbl #[]):=λ{H b}z=>by
  let⟨q,g,e⟩:=B z;let p:=j q g;rw[e]at p;show p
 cases hk:K.lookup a with
 |some o=>
  let e:=KX a o hk;rw[N]at e;cases e;refine I (λb=>if (tabs.map (·.2)).contains b=true then some (.tbl #[])else none) (.inr (_,vs.toArray,_,(Iw aT).trans hk,6,1,by rw[size_toArray,R];show U,by simpa using rv)) (λb u z=>?_) (λb=>?_) (λq g=>if_pos (t g))
  .by_cases i:(tabs.map (·.2)).contains b=true
   .let C:=(if_pos i).symm.trans z;cases C;show ab i
   .let C:=(if_neg i).symm.trans z;cases C
  .by_cases i:(tabs.map (·.2)).contains b=true
   .exact .inr (.inr (i,if_pos i))
   .exact .inl (if_neg i)
 |none=>
  refine I (λb=>if b=a then some (.frz {cls:=.type "list",data:=.seq vs.toArray} (.lst (ns.map V.int)))else if (tabs.map (·.2)).contains b=true then some (.tbl #[])else none) (.inl (.inr ({cls:=.type "list",data:=.seq vs.toArray},if_pos rfl))) (λb u z=>?_) (λb=>?_) (λq g=>?_)
  .by_cases i:b=a
   .let C:=(if_pos i).symm.trans z;cases C;subst i;show(N,by rw[ix];show U,vs,_,rv,N)
   .let C:=(if_neg i).symm.trans z;by_cases l:(tabs.map (·.2)).contains b=true
    .let Q:=(if_pos l).symm.trans C;cases Q;show ab l
    .let Q:=(if_neg l).symm.trans C;cases Q
  .by_cases i:b=a
   .exact .inr (.inl (i,hk,if_pos i))
   .by_cases l:(tabs.map (·.2)).contains b=true
    .exact .inr (.inr (l,(if_neg i).trans (if_pos l)))
    .exact .inl ((if_neg i).trans (if_neg l))
  .let L:q.2≠a:=λz=>by
    have:=t g;rw[z,aT]at this;cases this
   show(if_neg L).trans (if_pos (t g))
def Ix{l:PySem.W.OpenLaw}{K:Params->Frag}(I:l.most<*63)(r:d.params.defaults=[])(H:ag k callerA)(O:∀p,∀q∈tabs,qe (K p) q)(F:∀(w:World)(mg:Str->Option Value)(fa:Addr)(h:Heap),(wE (tabs.map (·.2)) (K w.params)).In h->h.Ns mainGlobals mg->mg d.name<*.ref fa->
   ∃v:FuncData,(∀(s:Shared)(u:Value),BindsTo s v ([u],[]) [(x,u,)])/\∀base:Heap,(wE (tabs.map (·.2)) (K w.params)).In base->base.Ns mainGlobals mg->HJ base mg->(∀q∈tabs,CodeHd base q.1 q.2)->
    aa l.prog w (wE (tabs.map (·.2)) (K w.params)) mg base kd k fa v [x] (dn (wE (tabs.map (·.2)) (K w.params)) tabs)):PySem.W.WalkO q loose XP (λw h=>(K w.params).In h) l.row.toRowW d [] (λf vs=>PySem.call f vs):=by
 refine Att.FD I r λw B c mg Z fa o pm cd doc a vs ns G Y ho C M n j i m L=>?_;let D:(K w.params).In c.heap:=Y;let X:(wE (tabs.map (·.2)) (K w.params)).In c.heap:=λb o e=>D b o ((Iw (K5 e)).symm.trans e);let⟨v,N,P⟩:=F w mg fa _ X G.T.g n;let⟨bm,E,U,S,A,R,Q,y⟩:=G.T.bmain;let t:bm≠mainGlobals:=λz=>by
  let⟨o,es,ep,e,C,_⟩:=G.T.g;rw[z,e]at A;cases A;rw[C]at y;cases y
 show kM D (O w.params) G.T.g (bm,E,U,S,t,A,R,Q,y) G.T.b G.T.builtins G.T.nolimit L j i m H P N
inductive Sd where
 |tx (x:Str) (k:Tok)|tp (a:Addr)|ls (a:Addr)
namespace Sd
abbrev vu:Sd->Value
 |.tx x t=>.str x t
 |.tp a=>.ref a
 |.ls a=>.ref a
abbrev pl:Sd->Addr->Nat->Heap->Prop
 |.tx x t,it,i,h=>ZP.GQ x t it i h
 |.tp a,it,i,h=>h.IsTupleIter it a i
 |.ls a,it,i,h=>h.IsListIter it a i
abbrev it0:Sd->Obj
 |.tx x t=>ZP.HE x t
 |.tp a=>ZP.IY a
 |.ls a=>{cls:=.type "list_iterator",data:=.fields #[.ref a,.int 0 0]}
abbrev hp:Sd->Array Value->Heap->Prop
 |.tx _ _,_,_=>True
 |.tp a,its,h=>h.IsTuple a its
 |.ls a,its,h=>h.IsList a its
abbrev has:Sd->Hp->List V->Prop
 |.tx x _,_,xs=>xs=x.cps.toList.map λc=>V.str ⟨#[c]⟩
 |.tp a,H,xs=>H a<*.tup xs
 |.ls a,H,xs=>H a<*.lst xs
end Sd
def nO{d:Sd}(e:h.get? it<*d.it0):d.pl it 0 h:=by
 cases d with
 |tx x t=>show(_,e,6)
 |tp a=>show(_,e,6)
 |ls a=>show(_,e,6)
def gn(d:Sd):d.it0.isFreed=false:=by cases d<;>rfl
namespace ZP
abbrev bv(h:Heap)(o1 o2:Obj):Heap:=
 ((((h.push o1).push o2).push {cls:=.type "tuple",data:=.seq #[.ref h.objs.size,.ref (h.objs.size+1)]}).push {cls:=.type "tuple",data:=.seq #[.none,.none]}).push
  {cls:=.type "zip",data:=.fields #[.none,.bool false,.bool false,.ref (h.objs.size+2),.ref (h.objs.size+3)]}
section
variable{prog:Program}{w:World}{A:Around}{E:Value->Shared->Prop}{s:Shared}
def bA(c:s.heap.IsList a b)(h:Q (.ref s⁻¹) {s with heap:=s.heap.push (Sd.ls a).it0}):wpAny (model prog w) A (pyIter (.ref a)) Q E s:=wpAny_pyIter_list c h
def aY(h:Q (.ref s⁻¹) {s with heap:=s.heap.push (Sd.tx x t).it0}):wpAny (model prog w) A (pyIter (.str x t)) Q E s:=kQ h
def eB(c:s.heap.IsTuple a b)(h:Q (.ref s⁻¹) {s with heap:=s.heap.push (Sd.tp a).it0}):wpAny (model prog w) A (pyIter (.ref a)) Q E s:=nK c h
end
instance vA(d1 d2:Sd):Prop:=∀xs ys:Array Value,Meets (Builtin.«zip.__new__» ([.type "zip",d1.vu,d2.vu],[])) (λ_ R s=>d1.hp xs s.heap/\d2.hp ys s.heap/\R (.ok (.ret (.ref (s⁻¹+4)))) {s with heap:=bv s.heap d1.it0 d2.it0})
def Iy(x:Str)(t:Tok)(b:Addr):vA (.tx x t) (.tp b):=λxs ys=>.of_wp λprog w A R s h=>by
 let⟨hp,g,d,f,os⟩:=s;let⟨i,a,h⟩:=h;let c:=sub_zip;let a:(hp.push (Sd.tx x t).it0).IsTuple b ys:=IsTup.keeps a λo e=>mJ _ e;change wpAny _ _ (Builtin.«zip.__new__» ([.type "zip",.str x t,.ref b],[])) _ _ _
 wp_walk using aY,eB a
 refine(0,3);simp only[bv]at h;simpa[size_push,Builtin.SmallTypes.ownedTupleFields,add_assoc]using h
def Iz(x:Str)(t:Tok)(b:Addr):vA (.tx x t) (.ls b):=λxs ys=>.of_wp λprog w A R s h=>by
 let⟨hp,g,d,e,os⟩:=s;let⟨f,a,h⟩:=h;let c:=sub_zip;let a:(hp.push (Sd.tx x t).it0).IsList b ys:=Heap.IsList.push a _;change wpAny _ _ (Builtin.«zip.__new__» ([.type "zip",.str x t,.ref b],[])) _ _ _
 wp_walk using aY,bA a
 refine(0,3);simp only[bv]at h;simpa[size_push,Builtin.SmallTypes.ownedTupleFields,add_assoc]using h
def GT(a b:Addr):vA (.ls a) (.ls b):=λxs ys=>.of_wp λprog w A R s h=>by
 let⟨hp,g,d,i,os⟩:=s;let⟨e,c,h⟩:=h;let f:=sub_zip;let e:hp.IsList a xs:=e;let c:(hp.push (Sd.ls a).it0).IsList b ys:=Heap.IsList.push c _;change wpAny _ _ (Builtin.«zip.__new__» ([.type "zip",.ref a,.ref b],[])) _ _ _
 wp_walk using bA e,bA c
 refine(0,3);simp only[bv]at h;simpa[size_push,Builtin.SmallTypes.ownedTupleFields,add_assoc]using h
section
variable{prog:Program}{w:World}{A:Around}{E:Value->Shared->Prop}{s:Shared}
def wO(M:vA d1 d2)(j:d1.hp xs s.heap)(i:d2.hp ys s.heap)(h:∀h',IsZip h' (s⁻¹+4) (s⁻¹+2) (s⁻¹+3) .none->IsPair h' (s⁻¹+2) (.ref s⁻¹) (.ref (s⁻¹+1))->IsPair h' (s⁻¹+3) .none .none->
   d1.pl s⁻¹ 0 h'->d2.pl (s⁻¹+1) 0 h'->(∀c o,s.heap.get? c<*o->h'.get? c<*o)->Q (.ref (s⁻¹+4)) {s with heap:=h'}):wpAny (model prog w) A (call (.type "zip") [d1.vu,d2.vu]) Q E s:=by
 refine callType_new F.called_zip (!0) (F.typeCall_zip_2 _ _) (F.newCall_zip_2 _ _) (λb=>F.args_object_init_3 b _ _) F.entry_zip_new (M xs ys) (j,i,3);let a:∀(g:Heap)(o:Obj)(n:Nat),g.objs.size=n->o.isFreed=false->(g.push o).get? n<*o:=λg o n e f=>by rw[<-e];show get?_push_size g f
 let d:IsZip (bv s.heap d1.it0 d2.it0) (s⁻¹+4) (s⁻¹+2) (s⁻¹+3) .none:=a _ _ _ (by simp[size_push]) rfl;show((_,d,1),h _ d (mJ _ (mJ _ (a _ _ _ (by simp[size_push]) rfl))) (mJ _ (a _ _ _ (by simp[size_push]) rfl))
  (nO (mJ _ (mJ _ (mJ _ (mJ _ (a _ _ _ rfl (gn _))))))) (nO (mJ _ (mJ _ (mJ _ (a _ _ _ (by simp[size_push]) (gn _))))))
  λc o e=>mJ _ (mJ _ (mJ _ (mJ _ (mJ _ e)))))
end
end ZP
abbrev G3(d1 d2:Sd):It:=⟨λi H=>∃xs ys a b,d1.has H xs/\d2.has H ys/\xs[i]?=some a/\ys[i]?<*b,λi H v H'=>∃p xs ys a b,d1.has H xs/\d2.has H ys/\xs[i]?=some a/\ys[i]?=some b/\v=.ref p/\H p=none/\H'=upd H p (.tup [a,b]),
 λi H=>∃xs ys,d1.has H xs/\d2.has H ys/\xs.length=ys.length/\i=xs.length⟩
def dL{d:Sd}(x:d.pl it i h):∃o,h.get? it=some o/\∀v,o.data≠.cell v:=by
 cases d with
 |tx y t=>let⟨o,e,_,b⟩:=x;show(o,e,λv q=>by rw[b]at q;cases q)
 |tp a=>let⟨o,e,_,b⟩:=x;show(o,e,λv q=>by rw[b]at q;cases q)
 |ls a=>let⟨o,e,_,b⟩:=x;show(o,e,λv q=>by rw[b]at q;cases q)
def K6{d:Sd}(x:d.pl it i h)(k:∀o,h.get? it<*o->h'.get? it<*o):d.pl it i h':=by
 cases d with
 |tx y t=>let⟨o,e,r⟩:=x;show(o,k o e,r)
 |tp a=>let⟨o,e,r⟩:=x;show(o,k o e,r)
 |ls a=>let⟨o,e,r⟩:=x;show(o,k o e,r)
def jk{g:St}{d:Sd}(I:hA X f g H s)(h:d.has H xs):∃b,d.hp b s.heap:=by
 cases d with
 |tx y t=>show(#[],True.intro)
 |tp a=>
  let⟨b,_,p,_⟩:=I.tuple (nj.of (show H a=_ from h));show(_,p)
 |ls a=>
  let⟨b,_,⟨o,n,e,c,_,i⟩,_⟩:=I.list (i4.of (show H a=_ from h));show(b.toArray,o,e,c,n,i)
def K7{X:Cx}{L:St}{d:Sd}(I:hA X G L H s)(F:A.handled=none)(h:d.has H xs)(l:H it=none)(hp:d.pl it i s.heap):∃f P S,Draws X.prog X.w A it f xs.length P S/\(∀c∈f,c=it\/∃u,H c<*u)/\S i s.heap/\(∀j g,S j g->d.pl it j g)/\∀j v x,P j v->xs[j]?<*x->ad x v:=by
 cases d with
 |tx y t=>
  let h:xs=y.cps.toList.map λc=>V.str ⟨#[c]⟩:=h;refine([it],λi v=>∃c u,y.cps[i]?=some c/\v=.str ⟨#[c]⟩ u,ZP.GQ y t it,?_,λc B=>.inl (t5 B),hp,λj g z=>z,λj v x k q=>?_)
  .let e:xs.length=y.cps.size:=by rw[h];simp
   rw[e];show ZP.draws F it y t
  .obtain ⟨c,u,N,rfl⟩:=k;rw[h,lv,getElem?_toList,N]at q;cases q;show(u,1)
 |tp a=>
  let⟨b,r,p,_⟩:=I.tuple (nj.of (show H a=_ from h));let D:s.heap.IsTuple a b.toArray:=p;let m:a≠it:=λz=>by rw[<-z,show H a=_ from h]at l;cases l
  let e:xs.length=b.toArray.size:=by rw[r.length];simp
  refine([it,a],λi v=>b.toArray[i]?<*v,λi h=>h.IsTupleIter it a i/\h.IsTuple a b.toArray,by rw[e];show iP F it a m b.toArray,λc B=>?_,(hp,D),λj g z=>z.1,λj v x k q=>?_)
  .rcases mem_cons.mp B with z|z
   .exact .inl z
   .rw [t5 z];show .inr (_,h)
  .obtain ⟨u,E,C⟩:=r.get q;let k:b.toArray[j]?<*v:=k;rw[getElem?_toArray,E]at k;cases k;show C
 |ls a=>
  let⟨b,r,⟨o,n,M,Q,_,O⟩,_⟩:=I.list (i4.of (show H a=_ from h));let D:s.heap.IsList a b.toArray:=(o,M,Q,n,O);let m:a≠it:=λz=>by rw[<-z,show H a=_ from h]at l;cases l
  let e:xs.length=b.toArray.size:=by rw[r.length];simp
  refine([it,a],λi v=>b.toArray[i]?<*v,λi h=>h.IsListIter it a i/\h.IsList a b.toArray,by rw[e];show Draws.list F it a m b.toArray,λc B=>?_,(hp,D),λj g z=>z.1,λj v x k q=>?_)
  .rcases mem_cons.mp B with z|z
   .exact .inl z
   .rw [t5 z];show .inr (_,h)
  .obtain ⟨u,E,C⟩:=r.get q;let k:b.toArray[j]?<*v:=k;rw[getElem?_toArray,E]at k;cases k;show C
def bV{K:Frag}(d1 d2:Sd)(z TI TO i1 i2:Addr)(M:ZipApart z TI TO i1 i2 TI TI):bS P w K (.Tuple es kt pt) (G3 d1 d2) [z,TI,TO,i1,i2] z (λi h=>IsZip h z TI TO .none/\IsPair h TI (.ref i1) (.ref i2)/\(∃a b,IsPair h TO a b)/\d1.pl i1 i h/\d2.pl i2 i h)  where
 mem:=by simp
 obj:=λi h G c j=>by
  let⟨hz,f,⟨a,b,d⟩,t,s2⟩:=G;simp only[mem_cons,not_mem_nil,or_false]at j;rcases j with rfl|rfl|rfl|rfl|rfl
  .exact (_,hz,λv q=>by cases q)
  .exact (_,f,λv q=>by cases q)
  .exact (_,d,λv q=>by cases q)
  .exact dL t
  .exact dL s2
 keep:=λi h h'⟨hz,f,⟨a,b,d⟩,t,s2⟩k=>
  (k z (!1) _ hz,k TI (!1) _ f,(a,b,k TO (!1) _ d),K6 t (k i1 (!1)),K6 s2 (k i2 (!1)))
 item:=by
  rintro X hP hw hK j i N s σ H E I n⟨hz,f,⟨a,b,d⟩,t,s2⟩⟨xs,ys,U,R,r,p,C,B⟩;subst hP hw hK;let l1:i<xs.length:=(j0 C).1;let l2:i<ys.length:=(j0 B).1;let⟨f1,P1,S1,D1,m1,y,b1,r1⟩:=K7 (A:=X.A.in1) I (I.ok.hd j) r (n i1 (!1)).1 t;let⟨f2,P2,S2,D2,Z,x,b2,r2⟩:=K7 (A:=X.A.in1) I (I.ok.hd j) p (n i2 (!1)).1 s2;let m:∀{c:Addr}{u:HO},H c<*u->c∉[z,TO,i1,i2]:=λ{c u}e O=>by
   have:c∈[z,TI,TO,i1,i2]:=by simp at O⊢;rcases O with q|q|q|q<;>simp[q]
   rw[(n c this).1]at e;cases e
  let Q:s.TypeIs (.ref z) "zip":=(_,hz,1);unfold pyNext;refine g_ (wpAny_attempt (wpAny_callSpecial?_slot (name:=Str.ofString "__next__") Q F.slot_zip_next (wpAny_call_entry F.slot_zip_next Q F.entry_zip_next (ZP.IW D1 D2
   (λc j=>(m1 c j).imp id λac=>by let⟨u,e⟩:=ac;show m e) (λc j=>(Z c j).imp id λD=>by let⟨u,e⟩:=D;show m e)
   M hz f d y x l1 l2 λv1 v2 g W p1 p2 gz as an g1 g2 Y gk=>j3 (0,3)) (F.args_zip_next_1 _))))
  let ra:=r1 i v1 U p1 C;let rb:=r2 i v2 R p2 B;refine wpAny_letOwnedTupleGo_zip (s:={s with heap:=g,toks:=W}) gz λg' ai gs=>?_;let L:∀b o,b≠z->g.get? b<*o->g'.get? b<*o:=λb o l e=>(gs.2 b l).trans e;let nz:s⁻¹≠z:=ne_of_gt (lt_size hz);let tup:uz X.prog X.w (upd H s⁻¹ (.tup [U,R])) g' s⁻¹ (.tup [U,R]):=
   (kA (by change 2≤16777216;decide),[v1,v2],.cons ra (.cons rb .nil),(_,L _ _ nz Y,1,(0),1))
  refine(.ref s⁻¹,_,I.turnedNew (S:=[z,TO,i1,i2]) (h':=g') (t':=W) (λb o l e=>L b o (λq=>l (by simp[q])) (gk b o l e)) (λb l=>n b (by simp at l⊢;rcases l with q|q|q|q<;>simp[q])) tup,1,
   (_,xs,ys,U,R,r,p,C,B,1,I.hok.fresh (Nat.le_refl _),1),(ai,L _ _ M.TIz as,(7,L _ _ M.TOz an),K6 (b1 _ _ g1) λo e=>L _ o M.i1z e,K6 (b2 _ _ g2) λo e=>L _ o M.i2z e),λb l=>?_)
  let lt:b<s⁻¹:=by
   let⟨o1,e1,_⟩:=dL t;let⟨o2,e2,_⟩:=dL s2;simp only[mem_cons,not_mem_nil,or_false]at l;rcases l with rfl|rfl|rfl|rfl|rfl
   .exact lt_size hz
   .exact lt_size f
   .exact lt_size d
   .exact lt_size e1
   .exact lt_size e2
  rw[b_ (ne_of_lt lt)];show(n b l).1
 done:=by
  rintro X hP hw hK j i N s σ H E I n⟨hz,f,⟨a,b,d⟩,t,s2⟩⟨xs,ys,r,p,hl,hi⟩;subst hP hw hK;let⟨f1,P1,S1,D1,m1,y,b1,r1⟩:=K7 (A:=X.A.in1) I (I.ok.hd j) r (n i1 (!1)).1 t;let⟨f2,P2,S2,D2,Z,x,b2,r2⟩:=K7 (A:=X.A.in1) I (I.ok.hd j) p (n i2 (!1)).1 s2;let m:∀{c:Addr}{u:HO},H c<*u->c∉[z,TO,i1,i2]:=λ{c u}e O=>by
   have:c∈[z,TI,TO,i1,i2]:=by simp at O⊢;rcases O with q|q|q|q<;>simp[q]
   rw[(n c this).1]at e;cases e
  let Q:s.TypeIs (.ref z) "zip":=(_,hz,1);unfold pyNext;refine g_ (wpAny_attempt (wpAny_callSpecial?_slot (name:=Str.ofString "__next__") Q F.slot_zip_next (wpAny_call_entry F.slot_zip_next Q F.entry_zip_next (ZP.HD D1 D2
   (λc j=>(m1 c j).imp id λD=>by let⟨u,e⟩:=D;show m e) (λc j=>(Z c j).imp id λG=>by let⟨u,e⟩:=G;show m e)
   M hz f d y x (.inl hi) λg e W gk he=>?_) (F.args_zip_next_1 _))))
  let⟨o,ho,ab⟩:=he;refine g_ (wpAny_isInstance (s:={s with heap:=g,toks:=W}) (T:="StopIteration") (b:=true) (o,ho,ab) isSubtype_stop (j3 (1,3)));show I.turnedL (S:=[z,TO,i1,i2]) (λb o l e=>gk b o l e) λb l=>n b (by simp at l⊢;rcases l with q|q|q|q<;>simp[q])
 self:=λ_ _ _ _ _ st h=>wpAny_pyIter_zip st.1 h
abbrev tj(H:Hp)(v1 v2:V)(R:(Tok->Sd)->Sd->Prop):Prop:=
 (∃x b xs,v1=.str x/\v2=.ref b/\H b=some (.tup xs)/\R (.tx x) (.tp b))\/(∃x b xs,v1=.str x/\v2=.ref b/\H b=some (.lst xs)/\R (.tx x) (.ls b))\/∃a b xs ys,v1=.ref a/\v2=.ref b/\H a=some (.lst xs)/\H b=some (.lst ys)/\R (λ_=>.ls a) (.ls b)
abbrev qa(t:TA):TI:=λσ H R=>t σ H λvs H1=>∃v1 v2,vs=[v1,v2]/\tj H1 v1 v2 λd1 d2=>∀k,R (G3 (d1 k) d2) H1
def dN{N:List Expr}{F:Nat}{E:Pos}{p pos:Pos}(hg:Gl X "zip")(Z:X.mg "zip"=none)(ha:PA X [a,b] ta)(Y:(starEach [a,b] X.env=(false,eval a X.env,)::starEach [b] X.env)>>>4)(m:((backTo pos (starEach [b] X.env)).any (·.1)=false)>>>4):PI X (.Tuple N F E) (.Call (.Name "zip" p) [a,b] [] pos) (qa ta):=by
 intro e s C H R I h;refine wpAny_Call_Name_kw (pj I hg Z boot_zip (PyProof.Rows.callWith_type1 (kl (ha pos e s C H _ I h) λus d o=>?_) Y m));let⟨vs,l,j,O,v1,v2,ev,hz⟩:=o;subst ev;let⟨k,D,rfl,B,z⟩:=bn O;let r:∀(d1 d2:Sd)(xs ys:List V),ZP.vA d1 d2->k=d1.vu->D=d2.vu->d1.has l xs->d2.has l ys->R (G3 d1 d2) l->wpAny (model X.prog X.w) X.A (call (.type "zip") [k,D]) (λv s2=>wpAny (model X.prog X.w) X.A (pyIter v) (KG X e C (.Tuple N F E) R) X.xe s2) X.xe d:=by
  rintro d1 d2 xs ys M rfl rfl W U q;let⟨T,Q⟩:=jk j W;let⟨S,P⟩:=jk j U;refine ZP.wO M Q P λg L y u g1 g2 gk=>wpAny_pyIter_zip (s:={d with heap:=g}) L ?_;let ap:ZipApart (d⁻¹+4) (d⁻¹+2) (d⁻¹+3) d⁻¹ (d⁻¹+1) (d⁻¹+2) (d⁻¹+2):=by
   constructor<;>show JL (!6)
  refine(_,[d⁻¹+4,d⁻¹+2,d⁻¹+3,d⁻¹,d⁻¹+1],_,G3 d1 d2,l,1,j.kept (t':=d.toks) gk,bV d1 d2 _ _ _ _ _ ap,
   (L,y,(7,u),g1,g2),λc G=>?_,q)
  let f:d⁻¹≤c:=by
   simp only[mem_cons,not_mem_nil,or_false]at G;rcases G with rfl|rfl|rfl|rfl|rfl
   .exact le_add_right _ _
   .exact le_add_right _ _
   .exact le_add_right _ _
   .exact Nat.le_refl _
   .exact le_add_right _ _
  show j.fpOk f (j.hok.fresh f)
 rcases hz with⟨x,b,xs,rfl,rfl,i,q⟩|⟨x,b,xs,rfl,rfl,i,q⟩|⟨a,b,xs,ys,rfl,rfl,n,i,q⟩
 .obtain ⟨t,rfl⟩:=(show ∃t,k=Value.str x t from B);cases z;show r (.tx x t) (.tp b) _ _ (ZP.Iy x t b) rfl rfl rfl i (q t)
 .obtain ⟨t,rfl⟩:=(show ∃t,k=Value.str x t from B);cases z;show r (.tx x t) (.ls b) _ _ (ZP.Iz x t b) rfl rfl rfl i (q t)
 .cases B;cases z;show r (.ls a) (.ls b) _ _ (ZP.GT a b) rfl rfl n i (q 0)
def qj(ks:LN):(zs ks).map toNat=ks:=by
 unfold zs;rw[map_map];show(List.map_congr_left λn _=>toNat_natCast n).trans (List.map_id _)
abbrev sM:List Int->List vW
 |[]=>[]
 |x::ks=>[.inl x,.inr (RA.tx (ks.map toNat))]
abbrev ul(P:Program)(w:World)(h:Heap)(k:List Int)(a:Addr):Prop:=∃(x:Int)(ks:LN),k=x::zs ks/\IsTupleKey (JC P w) h [.inl x,.inr (RA.tx ks)] a
def pF(x:Int)(ks:LN):sM (x::zs ks)=[.inl x,.inr (RA.tx ks)]:=by
 show[_,Sum.inr (RA.tx ((zs ks).map toNat))]=_;rw[qj]
def jF:(x::zs ks=y::zs ls)↔([Sum.inl x,Sum.inr (RA.tx ks)]:List vW)=[.inl y,.inr (RA.tx ls)]:=by
 constructor
 .intro e;injection e with b a;rw[b,bj a]
 .intro e;injection e with b a;injection a with c _;rw[Sum.inl.inj b,RA.vM (Sum.inr.inj c)]
abbrev qy(P:Program)(w:World):HeapKind P w (List Int) where
 is:=ul P w
 hash:=λk=>tupleKeyHash (JC P w) (sM k)
 draws:=λ_=>3
 room:=λA=>A.units<cLine
 inj:=λ⟨x,ks,e1,h1⟩⟨y,ls,e2,h2⟩=>by rw[e1,e2];show jF.mpr (h1.inj h2)
 keeps:=λhZ1 ho hd hs=>by let⟨x,ks,e,h1⟩:=hZ1;show(x,ks,e,h1.keeps ho hd hs)
 pyHash:=λhu hZ2 h=>by
  let⟨x,ks,e,h1⟩:=hZ2
  subst e
  rw[pF]at h
  show wpAny_pyHash_tuple hu h1 h
 eqBool:=λ{A E s x y a b Q}hu hx hy h=>by
  let⟨x1,ks,rfl,h1⟩:=hx
  let⟨y1,ls,rfl,h2⟩:=hy
  refine wpAny_eqBool_tuple hu h1 h2 ?_
  rw[show decide (([Sum.inl x1,Sum.inr (RA.tx ks)]:List vW)=[.inl y1,.inr (RA.tx ls)])=decide (x1::zs ks=y1::zs ls) by rw[Bool.eq_iff_iff,decide_eq_true_eq,decide_eq_true_eq];show jF.symm]
  show h
 quiet:=λhZ0 h=>by let⟨x,ks,e,h1⟩:=hZ0;show wpAny_eqIsQuiet_tuple h1 h
abbrev uk(H:Hp)(k:List Int)(a:Addr):Prop:=∃(x:Int)(ks:LN),k=x::zs ks/\H a<*.tup [.int x,.str (RA.tx ks)]
abbrev NU(P:Program)(w:World):HF P w (List Int) where
 knd:=qy P w
 kin:=uk
 ok:=λ{H h k a}e ok=>by
  let⟨x,ks,rfl,e1⟩:=e
  let⟨_,its,r,o,h1,h2,n,h3⟩:=(show uz P w H h a (.tup [.int x,.str (RA.tx ks)])from ok a _ e1)
  let⟨u1,u2,rfl,r1,r2⟩:=bn r
  let⟨t1,rfl⟩:=(show ∃t,u1=Value.int x t from r1)
  let⟨t2,rfl⟩:=(show ∃t,u2=Value.str (RA.tx ks) t from r2)
  show(x,ks,1,o,_,n,h1,h2,h3,.cons (FA P w x t1) (.cons (fW P w _ t2) .nil))
 room:=λ{A}hu=>(by change A.in1.units<cLine;rw[Around.in1_units];lia,by change A.units<cLine;lia)
 stay:=λs hZ1=>by let⟨x,ks,e,h⟩:=hZ1;show(x,ks,e,s _ _ h)
inductive TK where
 |i|t|s
 deriving DecidableEq
abbrev dK(P:Program)(w:World):TK->HF P w (List Int)
 |.s=>NU P w
 |_=>d_v P w
def K8(k:Int)(t:Tok):Value.isInt k (.int k t)=true:=by simp[Value.isInt]
abbrev jW(P:Program)(w:World)(H:Hp)(d:Addr)(y:V)(r:Option V):Prop:=
 (∃kvs k,H d=some (uu (intKind P w) d kvs)/\y=.int k/\r=aw kvs k) \/
 ∃ti kvs k b,H d=some (vt (dK P w ti) d kvs)/\(∀x∈kvs,(dK P w ti).kin H x.1 x.2.1)/\y=.ref b/\(dK P w ti).kin H k b/\r=aq kvs k
abbrev qi(P:Program)(w:World)(H:Hp)(d:Addr)(y v:V)(H':Hp):Prop:=
 (∃kvs k,H d=some (uu (intKind P w) d kvs)/\y=.int k/\aw kvs k=none/\kvs.length<sizeLine/\H'=upd H d (uu (intKind P w) d (kvs++[(k,v,)]))) \/
 ∃ti kvs k b,H d=some (vt (dK P w ti) d kvs)/\(∀x∈kvs,(dK P w ti).kin H x.1 x.2.1)/\y=.ref b/\(dK P w ti).kin H k b/\aq kvs k=none/\kvs.length<sizeLine/\H'=upd H d (vt (dK P w ti) d (kvs++[(k,b,v,)]))
section
variable{X:Cx}
inductive oX(P:Program)(w:World)(x:V)(y:V)(H:Hp)(Q:VK):Prop
 |mk (d o:_) (_:y=.ref d) (_:jW P w H d x o) (_:Q (.bl (!o.isSome)) H)
def ku(m:X.A.units+64<cLine):uq X (compareOp .NotIn) (oX X.prog X.w):=by
 intro f s z H x y v u Q I c j h;let⟨d,o,rfl,g,q⟩:=h;cases j;rcases g with⟨kvs,k,e,rfl,rfl⟩|⟨i,kvs,k,b,e,n,rfl,l,rfl⟩
 .obtain ⟨t,rfl⟩:=(show ∃t,v=Value.int k t from c);let⟨ns,_,vs,a,p⟩:=GE I.hok e;refine wpAny_notIn_of (knd:=intKind X.prog X.w) (k:=k) (K8 k t) ns p.mapOf ?_;rw[<-KZ (a.val k)];show(.bl _,H,I.tok _,1,q)
 .cases c;show eE (D:=dK X.prog X.w i) m I e n l λs' r=>(.bl _,H,r,1,q)
def oq{f:St}(I:hA X c f H s)(g:jW X.prog X.w H d y o):s.TypeIs (.ref d) "dict":=by
 rcases g with⟨kvs,k,e,_⟩|⟨h,kvs,k,b,e,i,_⟩
 .obtain ⟨_,_,vs,_,a⟩:=GE I.hok e;show a.typeIs
 .obtain ⟨_,_,vs,_,a⟩:=bE (D:=dK X.prog X.w h) I.hok e i;show a.typeIs
inductive tX(P:Program)(w:World)(x:V)(y:V)(H:Hp)(Q:VK):Prop
 |mk (d v:_) (_:x=.ref d) (_:jW P w H d y (some v)) (_:Q v H)
def nI(C:X.A.units+64<cLine):Hz X (tX X.prog X.w):=by
 intro c f m s N H x y v u Q I r j h E;let⟨d,z,rfl,g,q⟩:=h;cases r;refine tail_any (ops:=[.ref d,u]) (oq I g) PySem.F.slot_dict_getitem.lookup ?_ E;rcases g with⟨kvs,k,e,rfl,l⟩|⟨p,kvs,k,b,e,G,rfl,B,l⟩
 .obtain ⟨t,rfl⟩:=(show ∃t,u=Value.int k t from j);let⟨ns,_,vs,i,L⟩:=GE I.hok e;let⟨n,hw,a⟩:=al.some_of (v:=z) (o:=valueAt vs k) (by rw[l];show i.val k);show wpAny_getItem_of (knd:=intKind X.prog X.w) (k:=k) (K8 k t) L.mapOf hw (z,H,I.tok _,a,q)
 .cases j;show nY (D:=dK X.prog X.w p) C I e G B l λn s' M a=>(z,H,M,a,q)
inductive sk(P:Program)(w:World)(o:V)(i:V)(v:V)(H:Hp)(Q:Hp->Prop):Prop
 |mk (d H':_) (_:o=.ref d) (_:qi P w H d i v H') (_:Q H')
def kf(B:X.A.units+64<cLine):pW X (sk X.prog X.w):=by
 intro n s L H o i v M z u Q I r m l h;let⟨d,H',rfl,g,q⟩:=h;cases r;rcases g with⟨kvs,k,e,rfl,f,j,rfl⟩|⟨p,kvs,k,b,e,E,rfl,y,f,j,rfl⟩
 .obtain ⟨t,rfl⟩:=(show ∃t,z=Value.int k t from m);let⟨ns,hz,vs,a,F⟩:=GE I.hok e;refine wpAny_setItem_pairs (knd:=intKind X.prog X.w) (k:=k) (hsz:=by rw[<-a.length];show hz) (K8 k t) F λh' c C=>(_,3,q);let x:=al.none_of (show al none (valueAt vs k) by rw[<-f];show a.val k);rw[JU x]at c;show Jp I (by rw[e];show True.intro) C (let⟨o,_,_,q,_⟩:=c;(o,q)) (va ns (by rw[j_];show j) (JT a l) c)
 .cases m;show nX (D:=dK X.prog X.w p) B I e E y f j l λs' G=>(_,G,q)
abbrev m8(P:Program)(w:World)(d:Addr):TK->HO
 |.i=>uu (intKind P w) d []
 |k=>vt (dK P w k) d []
def pz(h:Heap)(a:sysModules<h.objs.size)(k:TK):uz P w H (h.push {cls:=.type "dict",data:=.dict #[]}) h.objs.size (m8 P w h.objs.size k):=by
 let ns:(h.objs.size==sysModules)=false:=beq_eq_false_iff_ne.mpr (Ne.symm (ne_of_lt a));cases k with
 |i=>show va (knd:=intKind P w) ns (zero_le _) .nil (Heap.DictOf.new h)
 |t=>show gq (D:=dK P w .t) ns (zero_le _) .nil (Heap.DictOfH.new h)
 |s=>show gq (D:=dK P w .s) ns (zero_le _) .nil (Heap.DictOfH.new h)
def pA(h:k≠.i):m8 P w d k=vt (dK P w k) d []:=by
 cases k with
 |i=>show absurd rfl h
 |_=>rfl
abbrev rL(P:Program)(w:World)(tk tv:TE):TE:=λσ H Q=>∃ti:TK,∀p,H p=none->tk σ (upd H p (m8 P w p ti)) λx H1=>tv σ H1 λy H2=>H2 p=some (m8 P w p ti)/\
 ((ti=.i/\∃k,x=.int k/\Q (.ref p) (upd H2 p (uu (intKind P w) p [(k,y,)])))\/(ti≠.i/\∃b k,x=.ref b/\(dK P w ti).kin H2 k b/\Q (.ref p) (upd H2 p (vt (dK P w ti) p [(k,b,y,)]))))
def o8(O:X.A.units+64<cLine)(S:PE X k C)(N:PE X v tv):PE X (.Dict [some k] [v] pos) (rL X.prog X.w C tv):=by
 intro e s n H Q I h;let⟨f,h⟩:=h;let R:=I.hok.fresh (Nat.le_refl s⁻¹);let U:=I.laid (a:=s⁻¹) (o:=m8 X.prog X.w s⁻¹ f) (t':=s.toks) (λ_ _ q=>mJ {cls:=.type "dict",data:=.dict #[]} q) (Nat.le_refl _) (pz s.heap I.bigS f);let j:=zip_pairTrees [some k] [v] X.env pos rfl rfl;rw[arm_eval_Dict,j,dictDisplay_pairs (pairTrees [some k] [v] X.env pos) (!5) (by change 1<17;decide)];refine g_ (wpAny_standAt (g_ ?_));unfold subDict;refine g_ (wpAny_alloc (g_ (wpAny_holding ?_)));rw[if_pos (show(pairTrees [some k] [v] X.env pos).length≤15 by change 1≤15;decide)];refine g_ (pairTrees_cons_walk (kl (S e _ n _ _ U (h _ R)) λu E⟨x,W,T,B,G⟩=>kl (N e E n W _ T G) λr s2⟨y,Y,i,p,hp,g⟩=>pairTrees_nil_walk (wpAny_holding (g_ ?_))));rw[forIn_cons];rcases g with⟨rfl,k,rfl,g⟩|⟨P,b,k,rfl,L,g⟩
 .obtain ⟨t,rfl⟩:=(show ∃t,u=Value.int k t from B);let⟨ns,hz,vs,c,m⟩:=GE (knd:=intKind X.prog X.w) (kvs:=[]) i.hok hp;refine g_ (g_ (wpAny_dictSet_pairs (knd:=intKind X.prog X.w) (k:=k) (hsz:=by rw[<-c.length];show hz) (K8 k t) m λh' d l=>j3 ?_));dsimp only;rw[forIn_nil];refine j3 (j3 (j3 (j3 (.ref s⁻¹,_,3,1,g))));let F:=al.none_of (show al none (valueAt vs k)from c.val k);rw[JU F]at d;show Jp i (by rw[hp];show True.intro) l (let⟨o,_,_,q,_⟩:=d;(o,q)) (va ns (kA (by change 1≤16777216;decide)) (JT (kvs:=[]) c p) d)
 .cases B;rw[pA P]at hp;let⟨ns,hz,xs,c,m⟩:=bE (D:=dK X.prog X.w f) (kvs:=[]) i.hok hp (λx M=>by simp at M);refine g_ (g_ (wpAny_dictSet_heap (knd:=(dK X.prog X.w f).knd) (hsz:=by rw[<-Paired.length c];show hz) ((dK X.prog X.w f).room O).2 ((dK X.prog X.w f).ok L i.hok) m λh' d l=>j3 ?_));dsimp only;rw[forIn_nil];refine j3 (j3 (j3 (j3 (.ref s⁻¹,_,3,1,g))));show qb (D:=dK X.prog X.w f) (kvs:=[]) i hp ns (kA (by change 1≤16777216;decide)) c rfl p d l
end
end L2
namespace RA
open L2
abbrev lp:TK->Hp->LN->Addr->Prop
 |.s,H,k,b=>∃(x:Nat)(ks:LN),k=x::ks/\H b<*.tup [.int (x:Int),.str (tx ks)]
 |_,H,k,b=>H b<*.tup (c_ k)
abbrev uv(ti:TK)(H:Hp)(k:LN)(v:V):Prop:=if ti=.i then ∃n:Nat,k=[n]/\v=.int (n:Int)else ∃b,v=.ref b/\lp ti H k b
def lp.same(h:lp a H k b)(s:∀b xs,H b<*.tup xs->H' b<*.tup xs):lp a H' k b:=by
 cases a with
 |s=>
  let⟨x,ks,e,c⟩:=h;show(x,ks,e,s _ _ c)
 |_=>show s _ _ h
def eU(k:LN):(zs k).map V.int=c_ k:=by rw[zs,c_,map_map];rfl
def lp.kin(h:lp d H k b):(dK P w d).kin H (zs k) b:=by
 let a:∀{ks:LN}{c:Addr},H c<*.tup (c_ ks)->IX H (zs ks) c:=λe=>by unfold IX;rw[eU];show e
 cases d with
 |s=>
  let⟨x,ks,rfl,f⟩:=h;show((x:Int),ks,1,f)
 |_=>show a h
def uv.same(h:uv a H k v)(s:∀b xs,H b<*.tup xs->H' b<*.tup xs):uv a H' k v:=by
 unfold uv at h⊢;split
 .rename_i c;rw[if_pos c]at h;show h
 .rename_i c;rw[if_neg c]at h;let⟨b,e,d⟩:=h;show(b,e,d.same s)
abbrev Hq:LL->Nat->List (Int×V)
 |[],_=>[]
 |k::r,n=>(((k.headD 0:Nat):Int),.int (n:Int),)::Hq r (n+1)
def jD:∀(ts:LL)(n:Nat),(Hq ts n).length=ts.length
 |[],_=>rfl
 |k::r,n=>by rw[Hq,length_cons,length_cons,jD r]
def gh(k:LN):∀(ts:LL)(n:Nat),Hq (ts++[k]) n=Hq ts n++[(((k.headD 0:Nat):Int),.int ((n+ts.length:Nat):Int),)]
 |[],n=>rfl
 |t::r,n=>by
  rw[cons_append,Hq,gh k r (n+1),Hq,cons_append,length_cons,show n+1+r.length=n+(r.length+1) by lia]
abbrev BG(ts:LL)(k:LN):Option Nat:=if k∈ts then some (ts.idxOf k)else none
def bz(h:t≠k):BG (t::r) k=(BG r k).map (·+1):=by
 unfold BG;by_cases a:k∈r
 .rw [if_pos (mem_cons_of_mem _ a),if_pos a,idxOf_cons,show(t==k)=false from beq_eq_false_iff_ne.mpr h];rfl
 .rw [if_neg (λz=>(mem_cons.mp z).elim (λy=>h y.symm) a),if_neg a];rfl
def ef{m:Nat}:∀{ts:LL}{n:Nat},(∀t∈ts,∃a,t=[a])->aw (Hq ts n) (m:Int)=(BG ts [m]).map λ(i:Nat)=>V.int ((n+i:Nat):Int)
 |[],_,_=>rfl
 |t::r,n,h=>by
  let⟨a,rfl⟩:=h t (!1);by_cases e:a=m
  .subst e;rw[Hq,LA (k:=(a:Int)) (show((([a]:LN).headD 0:Nat):Int)=(a:Int)from rfl),BG,if_pos (!1),List.idxOf_cons_self];rfl
  .rw [Hq,KQ (λz=>e (Int.ofNat.inj z)),ef (n:=n+1) (λt b=>h t (by simp[b])),bz (λz=>e (by injection z))];cases BG r [m]with
   |none=>rfl
   |some i=>
    change some (V.int ((n+1+i:Nat):Int))<*V.int ((n+(i+1):Nat):Int);rw[show n+1+i=n+(i+1) by lia]
abbrev tf(P:Program)(w:World)(H:Hp)(d:Addr)(ti:TK)(ts:LL):Prop:=
 if ti=.i then H d=some (uu (intKind P w) d (Hq ts 0))/\∀t∈ts,∃a,t=[a]
 else ∃kvs:List (List Int×Addr×V),H d=some (vt (dK P w ti) d kvs)/\(∀x∈kvs,(dK P w ti).kin H x.1 x.2.1)/\kvs.length=ts.length/\∀(i:Nat)(k:LN)(x:List Int×Addr×V),ts[i]?<*k->kvs[i]?<*x->x.1=zs k/\x.2.2=.int (i:Int)
def jb:∀{n:Nat},kvs.length=ts.length->(∀(i:Nat)(k:LN)(x:List Int×Addr×V),ts[i]?<*k->kvs[i]?<*x->x.1=zs k/\x.2.2=.int ((n+i:Nat):Int))->aq kvs (zs k)=(BG ts k).map λ(i:Nat)=>V.int ((n+i:Nat):Int):=by
 induction kvs generalizing ts with
 |nil=>
  intro n a h;cases ts with
  |nil=>rfl
  |cons t r=>cases a
 |cons x xs f=>
  intro n a h;cases ts with
  |nil=>cases a
  |cons t r=>
   let⟨b,o⟩:=h 0 t x rfl rfl;by_cases e:t=k
   .subst e;rw[BG,if_pos (!1),List.idxOf_cons_self];simp[aq,find?_cons,b,o]
   .let e':¬ x.1=zs k:=λz=>e (bj (b.symm.trans z));let p:aq (x::xs) (zs k)=aq xs (zs k):=by simp[aq,find?_cons,e']
    rw[p,f (n:=n+1) (by simpa using a) (λi d c j g=>by
     let⟨m,l⟩:=h (i+1) d c j g;show(m,by rw[l,show n+(i+1)=n+1+i by lia])),bz e]
    cases BG r k with
    |none=>rfl
    |some i=>
     change some (V.int ((n+1+i:Nat):Int))<*V.int ((n+(i+1):Nat):Int);rw[show n+1+i=n+(i+1) by lia]
section
variable{P:Program}{w:World}{H:Hp}{d:Addr}{ti:TK}{ts:LL}{k:LN}{v:V}
def tf.get(h:tf P w H d ti ts)(e:uv ti H k v):jW P w H d v ((BG ts k).map λ(i:Nat)=>V.int (i:Int)):=by
 unfold tf at h;unfold uv at e;by_cases c:ti=.i
 .subst c;rw[if_pos rfl]at h e;let⟨n,rfl,rfl⟩:=e;refine .inl (7,h.1,1,3);rw[ef h.2];simp
 .rw [if_neg c]at h e;let⟨kvs,m,l,j,g⟩:=h;let⟨b,rfl,f⟩:=e;refine .inr (ti,kvs,zs k,b,m,l,1,f.kin,3);rw[jb (n:=0) j (λi k x a b=>by rw[Nat.zero_add];show g i k x a b)];simp
def tf.put(h:tf P w H d ti ts)(m:uv ti H k v)(E:k∉ts)(u:ts.length<sizeLine):∃f,qi P w H d v (.int (ts.length:Int)) (L2.upd H d f)/\tf P w (L2.upd H d f) d ti (ts++[k]):=by
 let p:BG ts k=none:=if_neg E;let F:∀b xs,H b<*.tup xs->∀s,H d<*.ext s->∀f,L2.upd H d f b<*.tup xs:=λb xs e s I f=>by
  rw[b_ (m3 e I (!5))];show e
 unfold tf at h;unfold uv at m;by_cases c:ti=.i
 .subst c;rw[if_pos rfl]at h m;let⟨n,rfl,rfl⟩:=m;refine(uu (intKind P w) d (Hq (ts++[[n]]) 0),.inl (7,h.1,1,3,by rw[jD];show u,3),3)
  .rw [ef h.2,p];rfl
  .rw [gh,Nat.zero_add];rfl
  .unfold tf;rw[if_pos rfl];refine(a_,λt D=>?_);rcases mem_append.mp D with z|z
   .exact h.2 t z
   .exact (n,t5 z)
 .rw [if_neg c]at h m;let⟨kvs,B,A,l,y⟩:=h;let⟨b,rfl,G⟩:=m;let q:(dK P w ti).kin H (zs k) b:=G.kin;let o:∀f b xs,H b<*.tup xs->L2.upd H d f b<*.tup xs:=λf b xs e=>F b xs e _ B f;refine(vt (dK P w ti) d (kvs++[(zs k,b,.int (ts.length:Int),)]),.inr (ti,kvs,zs k,b,B,A,1,q,3,by rw[l];show u,1),3)
  .rw [jb (n:=0) l (λi k x a b=>by rw[Nat.zero_add];show y i k x a b),p];rfl
  .unfold tf;rw[if_neg c];refine(_,a_,λx g=>?_,by rw[j_,j_,l];rfl,λi C x j g=>?_)
   .rcases mem_append.mp g with z|z
    .exact (dK P w ti).stay (o _) (A x z)
    .rw [t5 z];show(dK P w ti).stay (o _) q
   .by_cases r:i<ts.length
    .rw [getElem?_append_left r]at j;rw[getElem?_append_left (by rw[l];show r)]at g;show y i C x j g
    .rw [getElem?_append_right (le_of_not_lt r)]at j;rw[getElem?_append_right (by rw[l];show le_of_not_lt r),l]at g;let hz:i-ts.length=0:=by
      have:=(j0 j).1;simp at this;omega
     rw[hz]at j g;cases j;cases g;show(1,by rw[show i=ts.length by lia])
def tf.same(h:tf P w H d ti ts)(s:∀b o,H b<*o->(b=d\/∃xs,o=.tup xs)->H' b<*o):tf P w H' d ti ts:=by
 unfold tf at h⊢;by_cases c:ti=.i
 .subst c;rw[if_pos rfl]at h⊢;show(s _ _ h.1 (.inl rfl),h.2)
 .rw [if_neg c]at h⊢;let⟨kvs,l,j,g,f⟩:=h;show(kvs,s _ _ l (.inl rfl),λx a=>(dK P w ti).stay (λb xs e=>s _ _ e (.inr (_,rfl))) (j x a),g,f)
end
end RA
namespace L2
open PySem.Spec PyProof.Rows
namespace ZP
abbrev eW(T:Addr)(b:Bool)(TI TO:Addr):Obj:={cls:=.type "zip",dict:=none,data:=.fields #[rawInt T,.bool b,.bool false,.ref TI,.ref TO],slots:=#[]}
section
variable{prog:Program}{w:World}{A:Around}{E:Value->Shared->Prop}{s:Shared}{z TI TO i1 i2 T:Addr}{f1 f2:List Addr}{n1 n2 k:Nat}{P1 P2:Nat->Value->Prop}{S1 S2:Nat->Heap->Prop}{b1:Bool}{oT:Obj}
def js(hz:s.heap.get? z<*eW T b1 TI TO)(a:s.heap.get? T<*oT)(h:∀h',h'.get? z<*eW T true TI TO->SameBut z s.heap h'->Q false {s with heap:=h'}):wpAny (model prog w) A (Builtin.SmallTypes.ownedTupleIsFree (.ref z)) Q E s:=by
 unfold Builtin.SmallTypes.ownedTupleIsFree;refine g_ (wpAny_field hz rfl (x:=rawInt T) rfl ?_);change wpAny _ _ (loadIfAlive ((T:Int).toNat)>>=_) _ _ _;rw[toNat_natCast];refine g_ (PySem.W.kdx_alive a ?_);refine wpAny_ite_false (!1) (g_ (wpAny_field hz rfl (x:=.bool b1) rfl ?_));cases b1 with
 |true=>show wpAny_ite_false (!0) (j3 (h _ hz (1,λ_ _=>rfl)))
 |false=>show wpAny_ite_true (!0) (g_ (wpAny_setField_rec hz (!1) λh' e c=>j3 (h h' e c)))
def rG{Q:Value->Shared->Prop}(I:Draws prog w A i1 f1 n1 P1 S1)(H:Draws prog w A i2 f2 n2 P2 S2)(X:∀c∈f1,c=i1\/c∉[z,TO,i1,i2])(W:∀c∈f2,c=i2\/c∉[z,TO,i1,i2])(b:ZipApart z TI TO i1 i2 TI TI)(hz:s.heap.get? z<*eW T b1 TI TO)(Y:s.heap.get? T<*oT)(i:IsPair s.heap TI (.ref i1) (.ref i2))(h1:S1 k s.heap)(h2:S2 k s.heap)(l1:k<n1)(l2:k<n2)(Z:∀x y h' N,P1 k x->P2 k y->h'.get? z<*eW T true TI TO->IsPair h' TI (.ref i1) (.ref i2)->S1 (k+1) h'->S2 (k+1) h'->IsPair h' s⁻¹ x y->
   (∀c o,c∉[z,TO,i1,i2]->s.heap.get? c<*o->h'.get? c<*o)->Q (.ref s⁻¹) {s with heap:=h',toks:=N}):wpAny (model prog w) A (Builtin.«zip.__next__» ([.ref z],[])) (λD s'=>∃v,D=.done (.ret v)/\Q v s') E s:=by
 unfold Builtin.«zip.__next__»;refine g_ (wpAny_of_eq (a:=(Value.ref z,[],)) rfl (g_ (wpAny_field hz rfl (x:=.bool false) rfl (g_ (wpAny_field hz rfl (x:=.ref TI) rfl (g_ (wpAny_seqItems i rfl (wpAny_ite_false (!1) (g_ (js hz Y λg1 M F=>wpAny_ite_false (!0) ?_))))))))));dsimp only;let B:aE [z,TO,i1,i2] s.heap g1:=.one F (!1);let l:∀{j:Nat}{g g':Heap},(∀c o,c∉[z,TO,i1,i2]->g.get? c<*o->g'.get? c<*o)->S1 j g->(∀o,g.get? i1<*o->g'.get? i1<*o)->S1 j g':=λk st e=>I.frame _ _ _ st λc h=>by
  rcases X c h with rfl|C
  .exact e
  .exact λo q=>k c o C q
 let G:∀{j:Nat}{g g':Heap},(∀c o,c∉[z,TO,i1,i2]->g.get? c<*o->g'.get? c<*o)->S2 j g->(∀o,g.get? i2<*o->g'.get? i2<*o)->S2 j g':=λk st e=>H.frame _ _ _ st λc h=>by
  rcases W c h with rfl|C
  .exact e
  .exact λo q=>k c o C q
 rw[<-Array.forIn_toList];change wpAny _ _ (forIn [Value.ref i1,.ref i2] _ _>>=_) _ _ _;simp only[forIn_cons,forIn_nil];refine g_ (g_ (g_ (wpAny_holding (g_ (m:=Builtin.SmallTypes.nextOf (.ref i1)) (I.item k _ _ _ l1 (l B.2 h1 λo e=>(F.2 i1 b.i1z).trans e) λx g2 t2 U d1 p=>j3 ?_)))));dsimp only;refine j3 (g_ (g_ (wpAny_holding (g_ (m:=Builtin.SmallTypes.nextOf (.ref i2)) (H.item k _ _ _ l2 (G (B.trans (.one p (!1))).2 h2 λo e=>(p.2 i2 b.i12.symm).trans ((F.2 i2 b.i2z).trans e)) λy d O R d2 n=>j3 ?_)))));dsimp only;refine j3 (j3 (g_ (wpAny_newTuple (hsz:=kA (by change 2≤16777216;decide)) (j3 (0,3)))));let u:aE [z,TO,i1,i2] s.heap d:=(B.trans (.one p (!1))).trans (.one n (!1));let L:d.get? z<*eW T true TI TO:=(n.2 z b.i2z.symm).trans ((p.2 z b.i1z.symm).trans M);let r:IsPair d TI (.ref i1) (.ref i2):=u.2 TI _ (by simp[b.TIz,b.TITO,b.TIi1,b.TIi2]) i;let P:d.objs.size=s⁻¹:=u.1;let t:S1 (k+1) d:=l (aE.one (S:=[z,TO,i1,i2]) n (!1)).2 d1 λo e=>(n.2 i1 b.i12).trans e;let f:IsPair (d.push {cls:=.type "tuple",data:=.seq #[x,y]}) d.objs.size x y:=get?_push_size _ rfl;change Q (.ref d.objs.size) _;rw[P]at f⊢;show Z x y _ O U R (mJ _ L) (mJ _ r) (I.frame _ _ _ t λc _ o e=>mJ _ e) (H.frame _ _ _ d2 λc _ o e=>mJ _ e) f λc o h e=>mJ _ (u.2 c o h e)
def rh(g:Draws prog w A i1 f1 n1 P1 S1)(l:∀c∈f1,c=i1\/c∉[z,TO,i1,i2])(C:ZipApart z TI TO i1 i2 TI TI)(hz:s.heap.get? z<*eW T b1 TI TO)(t:s.heap.get? T<*oT)(d:IsPair s.heap TI (.ref i1) (.ref i2))(v:S1 n1 s.heap)(u:∀h' e i,(∀c o,c∉[z,TO,i1,i2]->s.heap.get? c<*o->h'.get? c<*o)->(∃o,h'.get? e=some o/\o.cls=.type "StopIteration")->E (.ref e) {s with heap:=h',toks:=i}):wpAny (model prog w) A (Builtin.«zip.__next__» ([.ref z],[])) Q E s:=by
 unfold Builtin.«zip.__next__»;refine g_ (wpAny_of_eq (a:=(Value.ref z,[],)) rfl (g_ (wpAny_field hz rfl (x:=.bool false) rfl (g_ (wpAny_field hz rfl (x:=.ref TI) rfl (g_ (wpAny_seqItems d rfl (wpAny_ite_false (!1) (g_ (js hz t λB D f=>wpAny_ite_false (!0) ?_))))))))));dsimp only;rw[<-Array.forIn_toList];change wpAny _ _ (forIn [Value.ref i1,.ref i2] _ _>>=_) _ _ _;simp only[forIn_cons,forIn_nil];let j:S1 n1 B:=g.frame _ _ _ v λc b o e=>by
  rcases l c b with rfl|n
  .exact (f.2 _ C.i1z).trans e
  .exact (f.2 c λq=>n (by simp[q])).trans e
 refine g_ (g_ (g_ (wpAny_holding (g_ (m:=Builtin.SmallTypes.nextOf (.ref i1)) (g.done _ _ _ j λy e h p=>?_)))));show u y e s.toks (λc o b q=>h c o (λr=>b (by simp[r])) ((f.2 c λr=>b (by simp[r])).trans q)) p
end
section
variable{prog:Program}{w:World}{A:Around}{R:Result->Shared->Prop}{z TI TO i1 i2 S:Addr}{f1 f2:List Addr}{n:Nat}{P1 P2:Nat->Value->Prop}{S1 S2:Nat->Heap->Prop}
structure LZ(h0:Heap)(z TI TO i1 i2 S:Addr)(P1 P2:Nat->Value->Prop)(S1 S2:Nat->Heap->Prop)(k:Nat)(h:Heap)(acc:Array Value):Prop where
 zip:(k=0/\IsZip h z TI TO .none/\∃a b,IsPair h TO a b)\/(0<k/\∃b1 T oT,h.get? z=some (eW T b1 TI TO)/\h.get? T=some oT/\h0.objs.size≤T)
 ti:IsPair h TI (.ref i1) (.ref i2)
 s1:S1 k h
 s2:S2 k h
 sz:h0.objs.size≤h.objs.size
 len:acc.size=k
 items:∀(j:Nat)(v:Value),acc[j]?<*v->∃t x y,v=.ref t/\P1 j x/\P2 j y/\IsPair h t x y/\h0.objs.size≤t
 inj:∀(i j:Nat)(t:Addr),acc[i]?<*.ref t->acc[j]?<*.ref t->i=j
 keep:∀c o,c∉[z,TO,i1,i2,S]->h0.get? c<*o->h.get? c<*o
def K9(d:s.TypeIs (.ref z) "zip")(h:wpAny (model prog w) A.in1 (Builtin.«zip.__next__» ([.ref z],[])) (λa s'=>∃v,a=.done (.ret v)/\Q (some v) s') (λe s'=>∃o e',e=.ref e'/\s'.heap.get? e'=some o/\o.cls=.type "StopIteration"/\Q none s') s):wpAny (model prog w) A (pyNext (.ref z)) Q E s:=by
 unfold pyNext;refine g_ (wpAny_attempt (wpAny_callSpecial?_slot (name:=Str.ofString "__next__") d F.slot_zip_next (wpAny_call_entry F.slot_zip_next d F.entry_zip_next (wpAny_mono h (λa s' c=>?_) λe s' c=>?_) (F.args_zip_next_1 _))))
 .obtain ⟨v,rfl,q⟩:=c;show(v,1,j3 q)
 .obtain ⟨o,e',rfl,f,g,q⟩:=c;show g_ (wpAny_isInstance (T:="StopIteration") (b:=true) (o,f,g) isSubtype_stop (j3 q))
def lK(D1:Draws prog w A.in1.in1 i1 f1 n P1 S1)(D2:Draws prog w A.in1.in1 i2 f2 n P2 S2)(ap:ZipApart z TI TO i1 i2 TI TI)(hn:n≤1000000)(m1:∀c∈f1,c=i1\/c∉[z,TO,i1,i2,S])(m2:∀c∈f2,c=i2\/c∉[z,TO,i1,i2,S])(lt:∀c∈[z,TI,TO,i1,i2,S],c<h0.objs.size)(hS:S∉[z,TI,TO,i1,i2])(M:Value)(base:Shared)(hR:∀h C g c,LZ h0 z TI TO i1 i2 S P1 P2 S1 S2 n h g->h.get? S<*{cls:=.type "list",dict:=none,data:=.seq g c,slots:=#[]}->∀h',(∀c o,c∉[z,TO,i1,i2]->h.get? c<*o->h'.get? c<*o)->R (.ok (.ret M)) {base with heap:=h',toks:=C}):∀(m k:Nat)(h:Heap)(C:Nat)(g:Array Value)(c:Nat),n-k=m->k≤n->LZ h0 z TI TO i1 i2 S P1 P2 S1 S2 k h g->h.get? S<*{cls:=.type "list",dict:=none,data:=.seq g c,slots:=#[]}->
   codeAny (model prog w) A (.builtin "list.extend.loop" ([.ref S,.ref z,M],[])) R {base with heap:=h,toks:=C}:=by
 let N:∀c∈f1,c=i1\/c∉[z,TO,i1,i2]:=λc l=>(m1 c l).imp id λq z=>q (by simp at z⊢;rcases z with y|y|y|y<;>simp[y]);let P:∀c∈f2,c=i2\/c∉[z,TO,i1,i2]:=λc l=>(m2 c l).imp id λq z=>q (by simp at z⊢;rcases z with y|y|y|y<;>simp[y]);let as:S≠z:=λq=>hS (by simp[q]);let aF:S≠TI:=λq=>hS (by simp[q]);let az:S≠TO:=λq=>hS (by simp[q]);let aT:S≠i1:=λq=>hS (by simp[q]);let aM:S≠i2:=λq=>hS (by simp[q]);let a0:S∉[z,TO,i1,i2]:=by simp[as,az,aT,aM]
 let H:S<h0.objs.size:=lt S (!1);intro m;induction m with
 |zero=>
  intro k h C g c I hk L W;let e:k=n:=by lia
  subst e;refine codeAny_builtin F.entry_extend_loop ?_;rw[Around.under_plainId F.plain_extend_loop _];change wpAny _ A.in1 (pyNext (.ref z)>>=_) _ _ _;let D:∀h' e d,(∀c o,c∉[z,TO,i1,i2]->h.get? c<*o->h'.get? c<*o)->(∃o,h'.get? e=some o/\o.cls=.type "StopIteration")->
    ∃o e',(Value.ref e)=.ref e'/\({base with heap:=h',toks:=d}:Shared).heap.get? e'=some o/\o.cls=.type "StopIteration"/\wpAny (model prog w) A.in1 (ret M) (λD s'=>match D with|.done f=>R (.ok f) s'|.again c'=>c'.quiet=true/\codeAny (model prog w) A c' R s') (λe s'=>R (.error e) s') {base with heap:=h',toks:=d}:=λh' e d u⟨o,ho,l⟩=>
   (o,e,1,ho,l,j3 (hR h d g c L W h' u))
  rcases L.zip with⟨Q,hz,a,b,U⟩|⟨Q,b1,T,Y,hz,hT,_⟩
  .refine g_ (K9 (s:={base with heap:=h,toks:=C}) (_,hz,1) (HD (s:={base with heap:=h,toks:=C}) D1 D2 N P ap hz L.ti U L.s1 L.s2 (.inl rfl) λh' e d u he=>D h' e d u he))
  .refine g_ (K9 (s:={base with heap:=h,toks:=C}) (_,hz,1) (rh (s:={base with heap:=h,toks:=C}) D1 N ap hz hT L.ti L.s1 λh' e d u he=>D h' e d u he))
 |succ m ih=>
  intro k h C g c I hk L W;let E:k<n:=by lia
  refine codeAny_builtin F.entry_extend_loop ?_;rw[Around.under_plainId F.plain_extend_loop _];change wpAny _ A.in1 (pyNext (.ref z)>>=_) _ _ _;let go:∀x y h' d(zs:∃b1 T Y,h'.get? z=some (eW T b1 TI TO)/\h'.get? T=some Y/\h0.objs.size≤T),P1 k x->P2 k y->IsPair h' TI (.ref i1) (.ref i2)->S1 (k+1) h'->S2 (k+1) h'->IsPair h' h.objs.size x y->(∀c o,c∉[z,TO,i1,i2]->h.get? c<*o->h'.get? c<*o)->
    wpAny (model prog w) A.in1 (Builtin.List.listUpdate (.ref S) (·.push (.ref h.objs.size))>>=λ_=>again (.builtin "list.extend.loop" ([.ref S,.ref z,M],[]))) (λD s'=>match D with|.done f=>R (.ok f) s'|.again c'=>c'.quiet=true/\codeAny (model prog w) A c' R s') (λe s'=>R (.error e) s') {base with heap:=h',toks:=d}:=by
   intro x y h' d zs p1 Z ti aZ aV p u;let aU:=u S _ a0 W;refine g_ ?_;change wpAny _ A.in1 (updateSeq S (·.push (.ref h.objs.size))) _ _ _;let B:g.size=k:=L.len;refine wpAny_updateSeq (s:={base with heap:=h',toks:=d}) aU rfl (j3 (plainId_quiet F.plain_extend_loop _,3)) (by rw[B,sizeLine_eq];omega) (by show(g.push _).size≤sizeLine+1;rw[Array.size_push,B,sizeLine_eq];lia);let O:∀c o,c≠S->h'.get? c<*o->(h'.update S (mapSeq (·.push (.ref h.objs.size)))).get? c<*o:=λc o l e=>(Heap.get?_update_other _ _ (Ne.symm l)).trans e;let ac:h.objs.size≠S:=ne_of_gt (lt_of_lt_of_le H L.sz);let ai:h.objs.size<h'.objs.size:=lt_size p;let a2:∀c∈f1,c≠S:=λc l q=>by
    rcases m1 c l with r|r
    .exact aT (q.symm.trans r)
    .exact r (by simp[q])
   let a1:∀c∈f2,c≠S:=λc l q=>by
    rcases m2 c l with r|r
    .exact aM (q.symm.trans r)
    .exact r (by simp[q])
   refine ih (k+1) _ d (g.push (.ref h.objs.size)) _ (!6) E (3,O TI _ (Ne.symm aF) ti,D1.frame _ _ _ aZ λc l o e=>O c o (a2 c l) e,D2.frame _ _ _ aV λc l o e=>O c o (a1 c l) e,3,by rw[Array.size_push,B],λj v G=>?_,λi j t hi G=>?_,λc o l e=>?_) (Heap.get?_update_self _ aU rfl)
   .obtain ⟨b1,T,Y,e1,e2,e3⟩:=zs;show .inr (Nat.succ_pos k,b1,T,Y,O z _ (Ne.symm as) e1,O T _ (ne_of_gt (lt_of_lt_of_le H e3)) e2,e3)
   .rw [size_update];show Nat.le_trans L.sz (Nat.le_of_lt ai)
   .rw [Array.getElem?_push]at G;split at G
    .rename_i ej;cases G;rw[B]at ej;rw[ej];show(_,x,y,1,p1,Z,O _ _ ac p,L.sz)
    .obtain ⟨t,x',y',rfl,q1,q2,q3,q4⟩:=L.items j v G;refine(t,x',y',1,q1,q2,O t _ (ne_of_gt (lt_of_lt_of_le H q4)) (u t _ (λI=>?_) q3),q4);show absurd (lt t (by simp at I⊢;rcases I with y|y|y|y<;>simp[y])) (Nat.not_lt.mpr q4)
   .let ab:∀(a:Nat),g[a]?<*.ref h.objs.size->False:=λa e=>by
     let⟨t,x',y',e1,_,_,q3,_⟩:=L.items a _ e;cases e1;show absurd (lt_size q3) (lt_irrefl _)
    rw[Array.getElem?_push]at hi G;split at hi
    .rename_i ei;cases hi;split at G
     .rename_i ej;lia
     .exact (ab _ G).elim
    .split at G
     .cases G;show(ab _ hi).elim
     .exact L.inj i j t hi G
   .let hcS:c≠S:=λq=>l (by simp[q]);show O c o hcS (u c o (λI=>l (by simp at I⊢;rcases I with y|y|y|y<;>simp[y])) (L.keep c o l e))
  rcases L.zip with⟨Q,hz,a,b,U⟩|⟨Q,b1,T,Y,hz,hT,an⟩
  .refine g_ (K9 (s:={base with heap:=h,toks:=C}) (_,hz,1) (IW (s:={base with heap:=h,toks:=C}) D1 D2 N P ap hz L.ti U L.s1 L.s2 E E λx y h' d p1 Z gz X a3 g1 g2 p u=>?_));show go x y h' d (false,h.objs.size,_,gz,p,L.sz) p1 Z X g1 g2 p u
  .refine g_ (K9 (s:={base with heap:=h,toks:=C}) (_,hz,1) (rG (s:={base with heap:=h,toks:=C}) D1 D2 N P ap hz hT L.ti L.s1 L.s2 E E λx y h' d p1 Z gz X g1 g2 p u=>?_));refine go x y h' d (true,T,Y,gz,u T _ (λI=>?_) hT,an) p1 Z X g1 g2 p u;show absurd (lt T (by simp at I⊢;rcases I with y|y|y|y<;>simp[y])) (Nat.not_lt.mpr an)
end
section
variable{prog:Program}{w:World}{A:Around}{E:Value->Shared->Prop}{z TI TO i1 i2:Addr}{f1 f2:List Addr}{n:Nat}{P1 P2:Nat->Value->Prop}{S1 S2:Nat->Heap->Prop}
def gZ:typeLookup (.type "zip") "__len__"=pure none:=by rw[typeLookup_type,builtinLookup_eq_fast];kernel_rfl
def eV:typeLookup (.type "zip") "__length_hint__"=pure none:=by rw[typeLookup_type,builtinLookup_eq_fast];kernel_rfl
def HK(D1:Draws prog w A.in1.in1.in1 i1 f1 n P1 S1)(D2:Draws prog w A.in1.in1.in1 i2 f2 n P2 S2)(ap:ZipApart z TI TO i1 i2 TI TI)(hn:n≤1000000)(m1:∀c∈f1,c=i1\/(c∉[z,TO,i1,i2]/\c<s⁻¹))(m2:∀c∈f2,c=i2\/(c∉[z,TO,i1,i2]/\c<s⁻¹))(hz:IsZip s.heap z TI TO .none)(U:IsPair s.heap TI (.ref i1) (.ref i2))(T:IsPair s.heap TO a b)(N:S1 0 s.heap)(h2:S2 0 s.heap)(l1:i1<s⁻¹)(l2:i2<s⁻¹)(hQ:∀h' Z(k:Array Value)c,(∀b o,b∉[z,TO,i1,i2]->s.heap.get? b<*o->h'.get? b<*o)->h'.get? s⁻¹<*{cls:=.type "list",dict:=none,data:=.seq k c,slots:=#[]}->k.size=n->
   (∀(j:Nat)(v:Value),k[j]?<*v->∃t x y,v=.ref t/\P1 j x/\P2 j y/\IsPair h' t x y/\s⁻¹<t)->(∀(i j:Nat)(t:Addr),k[i]?<*.ref t->k[j]?<*.ref t->i=j)->Q (.ref s⁻¹) {s with heap:=h',toks:=Z}):wpAny (model prog w) A (call (.type "list") [.ref z]) Q E s:=by
 refine callType_codes (Q₁:=λP u=>P=.ref s⁻¹/\u={s with heap:=s.heap.push {cls:=.type "list",data:=.seq #[]} }) F.called_list (F.typeCall_list_1 _) F.entry_list_init
  (code_list_new _ (1,1)) λP u R=>?_
 let⟨rfl,rfl⟩:=R;let Y:(s.heap.push {cls:=.type "list",data:=.seq #[]}).get? s⁻¹<*{cls:=.type "list",data:=.seq #[]}:=get?_push_size _ rfl;refine((_,Y,1),F.args_list_init_2 _ _,3);let m:z<s⁻¹:=lt_size hz;let G:TI<s⁻¹:=lt_size U;let p:TO<s⁻¹:=lt_size T;let d:∀c,c<s⁻¹->c≠s⁻¹:=λc g=>ne_of_lt g;generalize I:s⁻¹=S at *;change wpAny _ _ (do let ab <-Builtin.List.listItems (.ref S);Builtin.List.listUpdate (.ref S) (λ_=>#[]);letGo ab.toList.reverse;Builtin.List.listExtendWith (.ref S) (.ref z) .none) _ _ _;refine g_ ?_;unfold Builtin.List.listItems;refine g_ (wpAny_seqItems Y rfl (j3 ?_));change wpAny _ _ (updateSeq S (λ_=>#[])>>=λ_=>letGo (#[]:Array Value).toList.reverse>>=λ_=>Builtin.List.listExtendWith (.ref S) (.ref z) .none) _ _ _;refine g_ (wpAny_updateSeq Y rfl ?_);let M:=Heap.get?_update_self (mapSeq (λ_=>(#[]:Array Value))) Y rfl;let D:∀b o,b≠S->s.heap.get? b<*o->((s.heap.push {cls:=.type "list",data:=.seq #[]}).update S (mapSeq (λ_=>(#[]:Array Value)))).get? b<*o:=
  λb o l e=>(Heap.get?_update_other _ _ (Ne.symm l)).trans (mJ _ e)
 let B:((s.heap.push {cls:=.type "list",data:=.seq #[]}).update S (mapSeq (λ_=>(#[]:Array Value)))).objs.size=S+1:=by rw[size_update,size_push,I]
 refine g_ (wpAny_letGo ?_);generalize (s.heap.push {cls:=.type "list",data:=.seq #[]}).update S (mapSeq (λ_=>(#[]:Array Value)))=h0 at M D B;let zz:IsZip h0 z TI TO .none:=D z _ (d z m) hz;let hT:({s with heap:=h0}:Shared).TypeIs (.ref z) "zip":=(_,zz,1);let H:S≠z:=Ne.symm (d z m);unfold Builtin.List.listExtendWith;refine g_ (wpAny_typeOf hT ?_);let e1:Builtin.List.listSameRef (.ref S) (.ref z)=false:=by simp[Builtin.List.listSameRef,H]
 let e2:(Value.type "zip"==Value.type "list")=false:=by decide
 let e3:(Value.type "zip"==Value.type "tuple")=false:=by decide
 simp only[e1,e2,e3,Bool.or_false,false_eq_true,if_false];refine g_ (wpAny_pyIter_zip (s:={s with heap:=h0}) zz ?_);refine g_ (wpAny_holding ?_);unfold Builtin.List.listLengthHint;refine g_ (wpAny_specialOf hT gZ ?_);change wpAny _ _ (specialOf (Value.ref z) (Str.ofString "__length_hint__")>>=_) _ _ _;refine g_ (wpAny_specialOf hT eV ?_);refine j3 ?_;change wpAny _ _ (rule "list.extend.makes-room" >>= λ_=>Builtin.List.listTouch (.ref S)>>=λ_=>again (.builtin "list.extend.loop" ([.ref S,.ref z,.none],[]))) _ _ _;refine g_ (wpAny_rule ?_);refine g_ ?_;change wpAny _ _ (updateSeq S (·.push .none)>>=λ_=>updateSeq S (·.pop)) _ _ _;refine g_ (wpAny_updateSeq (s:={s with heap:=h0}) M rfl ?_);let X:=Heap.get?_update_self (mapSeq (·.push Value.none)) M rfl;refine wpAny_updateSeq (hz:=by seq_fits) X rfl ?_;let W:=Heap.get?_update_self (mapSeq (·.pop)) X rfl;let f:∀b o,b≠S->s.heap.get? b<*o->((h0.update S (mapSeq (·.push Value.none))).update S (mapSeq (·.pop))).get? b<*o:=
  λb o l e=>(Heap.get?_update_other _ _ (Ne.symm l)).trans ((Heap.get?_update_other _ _ (Ne.symm l)).trans (D b o l e))
 let r:((h0.update S (mapSeq (·.push Value.none))).update S (mapSeq (·.pop))).objs.size=S+1:=by rw[size_update,size_update];show B
 generalize ((h0.update S (mapSeq (·.push Value.none))).update S (mapSeq (·.pop)))=h1' at W f r;let az:∀c∈f1,c<S:=λc g=>(m1 c g).elim (λq=>q▸l1) λq=>q.2;let as:∀c∈f2,c<S:=λc g=>(m2 c g).elim (λq=>q▸l2) λq=>q.2;let O:∀c:Addr,c∉[z,TO,i1,i2]->c<S->c∉[z,TO,i1,i2,S]:=λc N h2 C=>by
  simp at C N;rcases C with y|y|y|y|y
  .exact N.1 y
  .exact N.2.1 y
  .exact N.2.2.1 y
  .exact N.2.2.2 y
  .exact absurd h2 (by rw[y];show lt_irrefl _)
 refine j3 (plainId_quiet F.plain_extend_loop _,lK (S:=S) (h0:=h1') (n:=n) (base:=s) D1 D2 ap hn (λc g=>(m1 c g).imp id λq=>O c q.1 q.2) (λc g=>(m2 c g).imp id λq=>O c q.1 q.2) (λc g=>?_) ?_ .none ?_ n 0 h1' _ #[] _ (!6) (zero_le _)
  (.inl (1,f z _ (d z m) hz,a,b,f TO _ (d TO p) T),f TI _ (d TI G) U,D1.frame _ _ _ N λc g o e=>f c o (d c (az c g)) e,D2.frame _ _ _ h2 λc g o e=>f c o (d c (as c g)) e,Nat.le_refl _,1,λj v hj=>by simp at hj,λi j t hi=>by simp at hi,λc o _ e=>e) W)
 .rw [r];simp only[mem_cons,not_mem_nil,or_false]at g;rcases g with y|y|y|y|y|y
  .rw [y];show lt_succ_of_lt m
  .rw [y];show lt_succ_of_lt G
  .rw [y];show lt_succ_of_lt p
  .rw [y];show lt_succ_of_lt l1
  .rw [y];show lt_succ_of_lt l2
  .rw [y];show lt_succ_self _
 .simp [H,Ne.symm (d TI G),Ne.symm (d TO p),Ne.symm (d i1 l1),Ne.symm (d i2 l2)]
 .intro h Z k c L ai h' kp;let an:S∉[z,TO,i1,i2]:=by simp[H,Ne.symm (d TO p),Ne.symm (d i1 l1),Ne.symm (d i2 l2)]
  refine(1,hQ h' Z k c (λb o l e=>kp b o l (L.keep b o (λC=>?_) (f b o (d b (by rw[<-I];show lt_size e)) e))) (kp S _ an ai) L.len (λj v hj=>?_) L.inj)
  .simp at C l;rcases C with y|y|y|y|y
   .exact l.1 y
   .exact l.2.1 y
   .exact l.2.2.1 y
   .exact l.2.2.2 y
   .exact absurd (lt_size e) (by rw[I,y];show lt_irrefl _)
  .obtain ⟨t,x,y,rfl,p1,p2,q,q2⟩:=L.items j v hj;rw[r]at q2;refine(t,x,y,1,p1,p2,kp t _ (λC=>?_) q,q2);let ac:t<S:=by
    simp at C;rcases C with y|y|y|y
    .rw [y];show m
    .rw [y];show p
    .rw [y];show l1
    .rw [y];show l2
   show absurd (lt_of_lt_of_le ac (le_succ S)) (Nat.not_lt.mpr q2)
end
end ZP
section
variable{X:Cx}{pins:List (Addr×Obj)}{σ:St}{H H':Hp}{s:Shared}{h':Heap}
def hA.many(I:hA X pins σ H s)(k:∀b o,s.heap.get? b<*o->h'.get? b<*o)(a:∀b,b<s⁻¹->H' b=H b)(f:∀b o,s⁻¹≤b->H' b<*o->uz X.prog X.w H' h' b o):hA X pins σ H' {s with heap:=h',toks:=t'}:=by
 let d:∀{b:Addr}{u:HO},H b<*u->H' b<*u:=λ{b u}e=>by rw[a b (I.hok.lt e)];show e
 refine I.un (H':=H') (λb o e _ _ _=>k b o e,λb o e _ _ _=>(o.slots,k b o e),λb o e n _=>by rw[a b (lt_size e)];show n,λb o e _=>(o,k b o e),λb xs e=>d e,λb o u e=>d e,λb ps e=>(#[],by rw[d e];simp)) λb o e=>?_;by_cases h:s⁻¹≤b
 .exact f b o h e
 .let g:b<s⁻¹:=Nat.lt_of_not_le h;rw[a b g]at e;show(I.hok b o e).stay (λc u _ q=>k c u q) (λc q=>d q) λc xs q=>d q
end
abbrev kE(ts:List Addr)(xs ys:List V)(b:Addr):Option HO:=((ts.zip (xs.zip ys)).lookup b).map λq=>HO.tup [q.1,q.2]
def Nq{f:Type}{b:Addr}{v:f}:∀{ts:List Addr}{vs:List f}{i:Nat},ts.Nodup->ts[i]?<*b->vs[i]?<*v->(ts.zip vs).lookup b<*v
 |[],_,_,_,h,_=>by simp at h
 |_::_,[],_,_,_,h=>by simp at h
 |t::ts,w::vs,0,d,a,c=>by
  simp at a c;subst a c;simp[lookup_cons]
 |t::ts,w::vs,i+1,d,a,c=>by
  let e:b≠t:=λz=>(nodup_cons.mp d).1 (by rw[<-z];show pa (by simpa using a));rw[List.zip_cons_cons,lookup_cons,beq_eq_false_iff_ne.mpr e];show Nq (i:=i) (nodup_cons.mp d).2 (by simpa using a) (by simpa using c)
def Nr{b:Type}:∀{l:List b},(∀(i j:Nat)(t:b),l[i]?<*t->l[j]?<*t->i=j)->l.Nodup
 |[],_=>List.nodup_nil
 |a::r,h=>by
  rw[nodup_cons];refine(λc=>?_,Nr λi j t f e=>?_)
  .obtain ⟨j,d⟩:=mem_iff_getElem?.mp c;have:=h 0 (j+1) a rfl (by simpa using d);lia
  .have:=h (i+1) (j+1) t (by simpa using f) (by simpa using e);lia
def cG{a:Type}{b:Addr}{v:a}:∀{l:List (Addr×a)},l.lookup b<*v->(b,v,)∈l
 |[],e=>by cases e
 |(c,x)::r,e=>by
  rw[lookup_cons]at e;by_cases d:b=c
  .subst d;simp at e;simp[e]
  .rw [beq_eq_false_iff_ne.mpr d]at e;show mem_cons_of_mem _ (cG e)
inductive j9(Q:VK)(vs:List V)(H1:Hp):Prop
 |mk (a b xs ys:_) (_:vs=[.ref a,.ref b]) (_:H1 a<*.lst xs) (_:H1 b<*.lst ys) (_:xs.length=ys.length) (_:xs.length≤1000000) (_:∀(l:Addr)(ts:List Addr)(H2:Hp),ts.length=xs.length->ts.Nodup->H1 l=none->b' H1 H2->H2 l<*.lst (ts.map V.ref)->(∀(i:Nat)(t:Addr)(x y:V),ts[i]?<*t->xs[i]?<*x->ys[i]?<*y->H2 t<*.tup [x,y])->Q (.ref l) H2)
abbrev me(ta:TA):TE:=λσ H Q=>ta σ H (j9 Q)
def ip{p M pos f:Pos}(hc:X.calm=true)(be:Gl X "list")(a9:X.mg "list"=none)(bc:Gl X "zip")(a8:X.mg "zip"=none)(ha:PA X [a,b] ta)(hs:(starEach [.Call (.Name "zip" M) [a,b] [] f] X.env=[(false,eval (.Call (.Name "zip" M) [a,b] [] f) X.env,)])>>>4)(a3:(starEach [a,b] X.env=(false,eval a X.env,)::starEach [b] X.env)>>>4)(as:((backTo f (starEach [b] X.env)).any (·.1)=false)>>>4):PE X (.Call (.Name "list" p) [.Call (.Name "zip" M) [a,b] [] f] [] pos) (me ta):=by
 intro an s σ H Q I h;refine wpAny_Call_Name_kw (pj I be a9 boot_list ?_);refine PyProof.Rows.callWith_type1 (e:=.Call (.Name "zip" M) [a,b] [] f) (rest:=[]) ?_ hs rfl;rw[hs];change wpAny _ _ (spliced ((false,eval (.Call (.Name "zip" M) [a,b] [] f) X.env,)::backTo pos [])) _ _ s;refine Calls.spliced_cons (wpAny_Call_Name_kw (pj I bc a8 boot_zip (PyProof.Rows.callWith_type1 (kl (ha f an s σ H _ I h) λus d bf=>?_) a3 as)));let⟨vs,H1,I1,r1,Y,W,xs,ys,ev,a5,a4,hl,az,q⟩:=bf;subst ev;let⟨u1,u2,rfl,e1,e2⟩:=bn r1;cases e1;cases e2;let⟨D,rx,⟨ox,nx,aT,bs,_,bm⟩,_⟩:=I1.list (i4.of a5);let⟨C,ry,⟨oy,ny,aM,bo,_,bl⟩,_⟩:=I1.list (i4.of a4);let px:d.heap.IsList Y D.toArray:=(ox,aT,bs,nx,bm);let py:d.heap.IsList W C.toArray:=(oy,aM,bo,ny,bl);let hh:X.A.handled=none:=I1.ok.hd hc;let ac:Y<d⁻¹:=lt_size aT;let ab:W<d⁻¹:=lt_size aM;refine ZP.wO (d1:=.ls Y) (d2:=.ls W) (xs:=D.toArray) (ys:=C.toArray) (ZP.GT Y W) px py λg gz bk bg g1 g2 gk=>?_;let aF:d⁻¹+5≤g.objs.size:=lt_size gz;refine Calls.spliced_nil ?_;let ap:ZipApart (d⁻¹+4) (d⁻¹+2) (d⁻¹+3) d⁻¹ (d⁻¹+1) (d⁻¹+2) (d⁻¹+2):=by
  constructor<;>show JL (!6)
 let ex:D.toArray.size=xs.length:=by rw[rx.length];simp
 let ey:C.toArray.size=xs.length:=by rw[hl,ry.length];simp
 let a0:g.IsList Y D.toArray:=px.at λo e=>gk Y o e;let aZ:g.IsList W C.toArray:=py.at λo e=>gk W o e;let D1:=Draws.list (prog:=X.prog) (w:=X.w) (A:=X.A.in1.in1.in1) hh d⁻¹ Y (ne_of_lt ac) D.toArray;let D2:=Draws.list (prog:=X.prog) (w:=X.w) (A:=X.A.in1.in1.in1) hh (d⁻¹+1) W (ne_of_lt (lt_succ_of_lt ab)) C.toArray;rw[ex]at D1;rw[ey]at D2;let E:∀c:Addr,c<d⁻¹->c∉[d⁻¹+4,d⁻¹+3,d⁻¹,d⁻¹+1]:=λc k hm=>by
  let k:(c:Nat)<d⁻¹:=k;simp only[mem_cons,not_mem_nil,or_false]at hm;rcases hm with y|y|y|y
  .exact absurd k (by rw[y];show Nat.not_lt.mpr (le_add_right _ _))
  .exact absurd k (by rw[y];show Nat.not_lt.mpr (le_add_right _ _))
  .exact absurd k (by rw[y];show lt_irrefl _)
  .exact absurd k (by rw[y];show Nat.not_lt.mpr (le_add_right _ _))
 refine ZP.HK (s:={d with heap:=g}) (n:=xs.length) D1 D2 ap az (λc k=>?_) (λc k=>?_) gz bk bg (g1,a0) (g2,aZ) (lt_of_lt_of_le (!6) aF) (lt_of_lt_of_le (!6) aF) λh' tk U c kp hS hsz G a1=>?_
 .rcases mem_cons.mp k with z|z
  .exact .inl z
  .rw [t5 z];show .inr (E Y ac,lt_of_lt_of_le ac (by change d⁻¹≤g.objs.size;lia))
 .rcases mem_cons.mp k with z|z
  .exact .inl z
  .rw [t5 z];show .inr (E W ab,lt_of_lt_of_le ab (by change d⁻¹≤g.objs.size;lia))
 let hS:h'.get? g.objs.size<*{cls:=.type "list",dict:=none,data:=.seq U c,slots:=#[]}:=hS;obtain⟨ts,R⟩:∃ts:List Addr,U.toList=ts.map Value.ref:=by
  have:∀(l:List Value),(∀v∈l,∃t:Addr,v=.ref t)->∃ts:List Addr,l=ts.map Value.ref:=by
   intro l;induction l with
   |nil=>show λ_=>([],1)
   |cons v r ih=>
    intro hv;let⟨t,rfl⟩:=hv v (!1);let⟨ts,rfl⟩:=ih λv a2=>hv v (by simp[a2]);show(t::ts,1)
  refine this U.toList λv hv=>?_;let⟨j,hj⟩:=mem_iff_getElem?.mp hv;rw[getElem?_toList]at hj;let⟨t,_,_,e,_⟩:=G j v hj;show(t,e)
 let O:ts.length=xs.length:=by rw[<-hsz,<-length_toList,R,ix]
 let P:∀{i:Nat}{t:Addr},ts[i]?<*t->U[i]?<*.ref t:=λ{i t}e=>by rw[<-getElem?_toList,R,lv,e];rfl
 let Z:ts.Nodup:=Nr λi j t T N=>a1 i j t (P T) (P N);let B:∀{i:Nat}{t:Addr}{x y:V},ts[i]?<*t->xs[i]?<*x->ys[i]?<*y->g.objs.size<t/\∃u v,ad x u/\ad y v/\IsPair h' t u v:=λ{i t x y}ht hx hy=>by
  let⟨t',u,v,e,p1,M,pr,S⟩:=G i _ (P ht);cases e;let p1:D.toArray[i]?<*u:=p1;let M:C.toArray[i]?<*v:=M;let⟨u',hu,ru⟩:=rx.get hx;let⟨v',hv,rv⟩:=ry.get hy;rw[getElem?_toArray,hu]at p1;rw[getElem?_toArray,hv]at M;cases p1;cases M;show(S,7,ru,rv,pr)
 let L:∀{i:Nat},i<xs.length->∃t x y,ts[i]?=some t/\xs[i]?=some x/\ys[i]?<*y:=λ{i}hi=>(ts[i],xs[i],ys[i],hH _,hH _,hH _);let aV:∀t∈ts,g.objs.size<t:=λt ht=>by
  let⟨i,hi⟩:=mem_iff_getElem?.mp ht;let bb:i<xs.length:=by rw[<-O];show(j0 hi).1
  let⟨t',x,y,T,N,h3⟩:=L bb;rw[hi]at T;cases T;show(B hi N h3).1
 letI H2:Hp:=λb=>if b<d⁻¹ then H1 b else if b=g.objs.size then some (.lst (ts.map V.ref))else kE ts xs ys b
 let gS:¬ g.objs.size<d⁻¹:=by lia
 let m:∀b,b<d⁻¹->H2 b=H1 b:=λb hb=>if_pos hb;let ai:H2 g.objs.size<*.lst (ts.map V.ref):=(if_neg gS).trans (if_pos rfl);let aU:∀(i:Nat)(t:Addr)(x y:V),ts[i]?<*t->xs[i]?<*x->ys[i]?<*y->H2 t<*.tup [x,y]:=λi t x y T N h3=>by
  let S:=(B T N h3).1;let a7:¬ t<d⁻¹:=λz=>absurd (lt_trans S z) gS;let a6:t≠g.objs.size:=ne_of_gt S;show(if t<d⁻¹ then H1 t else if t=g.objs.size then some (.lst (ts.map V.ref))else kE ts xs ys t)=_;rw[if_neg a7,if_neg a6,kE,Nq Z T (v:=(x,y,)) (by rw[getElem?_zip_eq_some];show(N,h3))];rfl
 let F:∀b o,d.heap.get? b<*o->h'.get? b<*o:=λb o e=>kp b o (E b (lt_size e)) (gk b o e);refine(.ref g.objs.size,H2,3,1,q g.objs.size ts H2 O Z (I1.hok.fresh (!6)) (λb o e=>by rw[m b (I1.hok.lt e)];show e) ai aU);let J:=I1.many (H':=H2) (h':=h') (t':=tk) F m λb o hb e=>?_
 .exact J
 .by_cases hbg:b=g.objs.size
  .subst hbg;rw[ai]at e;cases e;refine(by rw[ix,O,sizeLine_eq];omega,ts.map Value.ref,c,9)
   .clear R O P Z B L aV H2 m ai aU;induction ts with
    |nil=>show .nil
    |cons t r ih=>show .cons rfl ih
   .rw [<-R];simpa using hS
  .let e':kE ts xs ys b<*o:=by
    let e:(if b<d⁻¹ then H1 b else if b=g.objs.size then some (.lst (ts.map V.ref))else kE ts xs ys b)<*o:=e;rw[if_neg (Nat.not_lt.mpr hb),if_neg hbg]at e;show e
   unfold kE at e';cases hlk:(ts.zip (xs.zip ys)).lookup b with
   |none=>rw[hlk]at e';cases e'
   |some q2=>
    rw[hlk]at e';cases e';let⟨i,hi⟩:=mem_iff_getElem?.mp (cG hlk);rw[getElem?_zip_eq_some]at hi;let⟨T,N⟩:=hi;rw[getElem?_zip_eq_some]at N;let⟨_,u,v,ru,rv,pr⟩:=B T N.1 N.2;show(kA (by change 2≤16777216;decide),[u,v],.cons ru (.cons rv .nil),(_,pr,1,(0),1))
def gt{d:Sd}(a:d.has H xs)(b:d.has H ys):xs=ys:=by
 cases d with
 |tx x k=>show(show xs=_ from a).trans (show ys=_ from b).symm
 |tp c=>
  let a:H c=_:=a;let b:H c=_:=b;rw[a]at b;cases b;rfl
 |ls c=>
  let a:H c=_:=a;let b:H c=_:=b;rw[a]at b;cases b;rfl
def bF{g:TG}{r:TS}{D:aO}(w:xs.length=ys.length)(c:Nat->St->Hp->Prop)(h0:c 0 b H)(z:∀i b H,c i b H->d1.has H xs/\d2.has H ys)(u:∀i x y p b H,xs[i]?<*x->ys[i]?<*y->H p=none->c i b H->g (.ref p) b (upd H p (.tup [x,y])) λd o=>r {D with nx:=c (i+1),ct:=c (i+1),bk:=D.nx} d o)(A:∀b H,c xs.length b H->D.nx b H):∃W:Nat->Nat->St->Hp->Prop,(∃m,W 0 m b H)/\∀i m b H,W i m b H->
   ((G3 d1 d2).stop i H/\D.nx b H)\/((G3 d1 d2).go i H/\∃N:St->Hp->Prop,(∀f H',N f H'->∃s,s<m/\W (i+1) s f H')/\∀v H',(G3 d1 d2).yld i H v H'->g v b H' λd o=>r {D with nx:=N,ct:=N,bk:=D.nx} d o):=by
 refine(λi m b H=>m=xs.length-i/\i≤xs.length/\c i b H,(xs.length,!1,zero_le _,h0),3);rintro i m b H⟨rfl,I,p⟩;let⟨n,l⟩:=z i b H p;by_cases k:i<xs.length
 .refine .inr ((xs,ys,xs[i],ys[i]'(!6),n,l,hH _,hH _),c (i+1),λf H' t=>(xs.length-(i+1),!6,1,k,t),λv H' q=>?_);let⟨a,j,h,x,y,G,F,E,C,rfl,B,rfl⟩:=q;have:=gt G n;have:=gt F l;subst j h;show u i x y a b H E C B p
 .let e:i=xs.length:=by lia
  subst e;show .inl ((xs,ys,n,l,w,1),A b H p)
def oN(h:H a<*.tup xs\/H a<*.lst xs)(b:∀d2:Sd,(∀H':Hp,H' a=H a->d2.has H' xs)->R (.tx x) d2):tj H (.str x) (.ref a) R:=by
 rcases h with h|h
 .exact .inl (x,a,xs,6,h,b (.tp a) λH' e=>show H' a=_ from e.trans h)
 .exact .inr (.inl (x,a,xs,6,h,b (.ls a) λH' e=>show H' a=_ from e.trans h))
structure lE(K:Frag)(x qual:Str)(st:Stmt)(f:Addr)(fd:FuncData):Prop where
 ex:∃(oc:Value)(od:Option Addr)(dV kV doc pm:Value)(an:Option Addr)(cdv ct:Value)(osl:Array (Option Value)),
  fd=fnOf x qual (r_ st) (pf st) (i_ st) dV kV doc pm an cdv ct/\K.lookup f=some (oc,od,.func fd,osl)/\codeIn K cdv qual=true
 kp:keepIn K (.ref f)=true
def lE.ok{P:Program}{w:World}{K:Frag}{st:Stmt}(F:lE K x qual st f j)(S:oj N ps (i_ st))(len:∀vs H Q E,e vs H Q E->vs.length=ps.length)(b:∀(cdv:Value)(A:Around)(a:List Env)(s:Shared)(H:Hp)(vs:List V)(Q:VK)(E:XK),ag k (A.deeper (envOfC qual (i_ st) s⁻¹ f cdv))->e vs H Q E->
   ∃t,wo (eM kd P w K mg base N qual (i_ st) f cdv A a s H E).nox (pf st) t/\t {nx:=λ_ H'=>Q .non H',rt:=Q} (start N vs) H):aa P w K mg base kd (k+1) f j ps e:=by
 let⟨m,l,n,kV,doc,pm,an,cdv,ct,g,rfl,lk,d⟩:=F.ex;refine oh lk d S len λA a s H vs Q E i c=>?_;let⟨t,h,q⟩:=b cdv A a s H vs Q E i c;show(t,h.nox,q)
def bd{P:Program}{w:World}{K:Frag}{mg:Str->Option Value}{base:Heap}{st:Stmt}{i g kV doc pm ct:Value}(lk:K.lookup f<*(i,j,.func (fnOf x qual (r_ st) (pf st) (i_ st) g kV doc pm an (.ref c) ct),h))(d:codeIn K (.ref c) qual=true)(S:oj N ps (i_ st))(len:∀vs H Q E,e vs H Q E->vs.length=ps.length)(b:∀(A:Around)(a:List Env)(s:Shared)(H:Hp)(vs:List V)(Q:VK)(E:XK),ag k (A.deeper (envOfC qual (i_ st) s⁻¹ f (.ref c)))->e vs H Q E->
   ∃t,wo (eM kd P w K mg base N qual (i_ st) f (.ref c) A a s H E) (pf st) t/\t {nx:=λ_ H'=>Q .non H',rt:=Q} (start N vs) H):aa P w K mg base kd (k+1) f (fnOf x qual (r_ st) (pf st) (i_ st) g kV doc pm an (.ref c) ct) ps e:=oh lk d S len b
section
variable{prog:Program}{w:World}{A:Around}{E:Value->Shared->Prop}{s:Shared}
end
end L2
namespace RA
open L2
structure Jc(H:Hp)(cW wk:Addr)(L:LN)(t wd y m:Addr):Prop where
 ex:∃dx,H wk<*.ins cW dx [("letters",.str (tx L),),("things",.ref t,),("words",.ref wd,),("ways",.ref y,),("marks",.ref m,)]
abbrev d_(ws:LL):List V:=ws.map λw=>V.str (tx w)
abbrev wF(ti:TK)(H:Hp)(ks:LL)(vs:List V):Prop:=vs.length=ks.length/\∀(i:Nat)(k:LN)(v:V),ks[i]?<*k->vs[i]?<*v->uv ti H k v
def wF.same(h:wF c H ks vs)(s:∀b xs,H b<*.tup xs->H' b<*.tup xs):wF c H' ks vs:=(h.1,λi k v a b=>(h.2 i k v a b).same s)
def wF.snoc(h:wF d H ks vs)(g:uv d H k v):wF d H (ks++[k]) (vs++[v]):=by
 refine(by rw[j_,j_,h.1];rfl,λi f e a b=>?_);by_cases c:i<ks.length
 .rw [getElem?_append_left c]at a;rw[getElem?_append_left (by rw[h.1];show c)]at b;show h.2 i f e a b
 .rw [getElem?_append_right (le_of_not_lt c)]at a;rw[getElem?_append_right (by rw[h.1];show le_of_not_lt c),h.1]at b;let hz:i-ks.length=0:=by
   have:=(j0 a).1;simp at this;omega
  rw[hz]at a b;cases a;cases b;show g
abbrev bM(H:Hp)(rows:List Addr)(R:LL):Prop:=rows.length=R.length/\∀(i:Nat)(a:Addr)(r:LN),rows[i]?<*a->R[i]?<*r->H a<*.lst (c_ r)
structure FH(g:LN->Nat->LN)(nL:Nat)(ks:LL)(R:LL):Prop where
 row:∀(r:Nat)(row:LN)(k:LN),R[r]?<*row->ks[r]?<*k->row.length=nL/\∀(q x:Nat),row[q]?<*x->ks[x]?<*g k q
inductive K_(ti:TK)(L:LN)(g:LN->Nat->LN)(U:LL)(Rest:Hp->Prop)(vs:List V)(H:Hp)(Q:VK)(_E:XK):Prop
 |mk (k v:_) (_:vs=[v]) (_:uv ti H k v) (_:k∈U) (_:Rest H) (_:∀gs xs H',b' H H'->(H' gs<*.tup xs\/((H gs=none\/∀H0:Hp,b' H0 H->Rest H0->H0 gs≠none)/\H' gs<*.lst xs))->xs.length=L.length->(∀(q:Nat)(x:V),xs[q]?<*x->uv ti H' (g k q) x)->Q (.ref gs) H')
inductive dk(ti:TK)(mk:LN->Bool)(U:LL)(Rest:Hp->Prop)(vs:List V)(H:Hp)(Q:VK)(_E:XK):Prop
 |mk (k v:_) (_:vs=[v]) (_:uv ti H k v) (_:k∈U) (_:Rest H) (_:∀H',b' H H'->Q (.bl (mk k)) H')
abbrev bu:Option Nat->V
 |none=>.non
 |some n=>.int (n:Int)
inductive ml(cW:Addr)(vs:List V)(H:Hp)(Q:VK)(_E:XK):Prop
 |mk (x dx L v:_) (_:vs=[.ref x,.str (tx L),v]) (_:H x<*.ins cW dx []) (_:∀t wd y m H',t≠wd->t≠y->t≠m->wd≠y->wd≠m->y≠m->H t=none->H wd=none->H y=none->H m=none->(∀b o,b≠x->H b<*o->H' b<*o)->Jc H' cW x L t wd y m->H' t<*.lst [v]->H' wd<*.lst [.str (tx [])]->H' y<*.lst []->H' m<*.lst []->Q .non H')
inductive K'(cW:Addr)(ti:TK)(L:LN)(g:LN->Nat->LN)(mk:LN->Bool)(U:LL)(Rest:Hp->Prop)(fg fm:Addr)(vs:List V)(H:Hp)(Q:VK)(_E:XK):Prop
 | mk (s:LN) (sv:V) (most:Option Nat) (_:vs=[.str (tx L),sv,.ref fg,.ref fm,bu most]) (_:vN L) (_:uv ti H s sv) (_:s∈U) (_:(∀k∈U,∀q,q<L.length->g k q∈U)) (_:U.length≤100000) (_:Rest H) (_:∀(wk t wd y m:Addr)(ks:LL)(vks:List V)(ws:LL)(rows:List Addr)(R:LL)(B:List Bool)(H':Hp),b' H H'->Jc H' cW wk L t wd y m->H' t<*.lst vks->wF ti H' ks vks->H' wd<*.lst (d_ ws)->H' y<*.lst (rows.map V.ref)->bM H' rows R->H' m<*.lst (B.map V.bl)->
  Bf g L s ks ws R.length 0->FH g L.length ks R->B.length=R.length->(∀(r:Nat)(k:LN)(b:Bool),ks[r]?<*k->B[r]?<*b->b=mk k)->(∀k∈ks,k∈U)->ks.length≤U.length->(R.length=ks.length\/∃n,most=some n/\n<ks.length)->Q (.ref wk) H')
def IA(h:n≤100000):n<sizeLine:=by rw[sizeLine_eq];omega
def sN{A B:Prop}(h:A):if (!decide (V.int n=V.non))=true then A else B:=by
 rw[decide_eq_false (λz=>by cases z)];show am h
structure WI(P:Program)(w:World)(H0 H:Hp)(cW:Addr)(ti:TK)(L:LN)(wk t wd y m d:Addr)(ks:LL)(vks:List V)(ws:LL)(rows:List Addr)(R:LL)(B:List Bool):Prop where
 sm:b' H0 H
 obj:Jc H cW wk L t wd y m
 ht:H t<*.lst vks
 th:wF ti H ks vks
 hw:H wd<*.lst (d_ ws)
 hy:H y<*.lst (rows.map V.ref)
 wr:bM H rows R
 hm:H m<*.lst (B.map V.bl)
 rm:tf P w H d ti ks
 n1:H0 t=none
 n2:H0 wd=none
 n3:H0 y=none
 n4:H0 m=none
 n5:H0 d=none
 d1:t≠wd
 d2:t≠y
 d3:t≠m
 d4:wd≠y
 d5:wd≠m
 d6:y≠m
 e1:d≠t
 e2:d≠wd
 e3:d≠y
 e4:d≠m
 e5:d≠wk
 nr:∀a∈rows,a≠t/\a≠wd/\a≠y/\a≠m/\a≠d
section
variable{P:Program}{w:World}{H0 H:Hp}{cW:Addr}{ti:TK}{L:LN}{wk t wd y m d:Addr}{ks:LL}{vks:List V}{ws:LL}{rows:List Addr}{R:LL}{B:List Bool}
def WI.any(h:WI P w H0 H cW ti L wk t wd y m d ks vks ws rows R B)(s:b' H H'):WI P w H0 H' cW ti L wk t wd y m d ks vks ws rows R B:=
 {h with
  sm:=h.sm.trans s
  obj:=let⟨dx,e⟩:=h.obj.ex;(dx,s _ _ e)
  ht:=s _ _ h.ht
  th:=h.th.same λb xs e=>s _ _ e
  hw:=s _ _ h.hw
  hy:=s _ _ h.hy
  wr:=(h.wr.1,λi a r f c=>s _ _ (h.wr.2 i a r f c))
  hm:=s _ _ h.hm
  rm:=h.rm.same λb o e _=>s _ _ e}
def WI.beside(h:WI P w H0 H cW ti L wk t wd y m d ks vks ws rows R B)(j:H a<*.lst xs)(h0:H0 a=none)(x:a≠t)(v:a≠wd)(s:a≠y)(q:a≠m)(p:a≠d)(n:a∉rows):WI P w H0 (upd H a o) cW ti L wk t wd y m d ks vks ws rows R B:=by
 let f:∀{b:Addr}{u:HO},H b<*u->b≠a->upd H a o b<*u:=λe g=>by rw[b_ g];show e
 let c:∀b zs,H b<*.tup zs->upd H a o b<*.tup zs:=λb zs e=>f e (m3 e j (!5));show {h with
  sm:=b'.set h.sm h0
  obj:=let⟨dx,e⟩:=h.obj.ex;(dx,f e (m3 e j (!5)))
  ht:=f h.ht (Ne.symm x)
  th:=h.th.same c
  hw:=f h.hw (Ne.symm v)
  hy:=f h.hy (Ne.symm s)
  wr:=(h.wr.1,λi b r k l=>f (h.wr.2 i b r k l) λz=>n (by rw[<-z];show pa k))
  hm:=f h.hm (Ne.symm q)
  rm:=h.rm.same λb u e g=>by
   rcases g with rfl|⟨zs,rfl⟩
   .exact f e (Ne.symm p)
   .exact c b zs e}
def WI.new(h:WI P w H0 H cW ti L wk t wd y m d ks vks ws rows R B)(D:uv ti H k v)(A:tf P w (upd H d o) d ti (ks++[k])):WI P w H0 (upd (upd (upd H d o) t (.lst (vks++[v]))) wd (.lst (d_ ws++[.str (tx a)]))) cW ti L wk t wd y m d (ks++[k]) (vks++[v]) (ws++[a]) rows R B:=by
 let p:∃x,H d<*.ext x:=by
  let j:=h.rm;unfold tf at j;by_cases c:ti=.i
  .rw [if_pos c]at j;show(_,j.1)
  .rw [if_neg c]at j;let⟨kvs,e,_⟩:=j;show(_,e)
 let⟨x,p⟩:=p;let n:∀{b:Addr}{u:HO},H b<*u->b≠d->b≠t->b≠wd->upd (upd (upd H d o) t (.lst (vks++[v]))) wd (.lst (d_ ws++[.str (tx a)])) b<*u:=λe l q F=>by rw[b_ F,b_ q,b_ l];show e
 let g:∀b zs,H b<*.tup zs->upd (upd (upd H d o) t (.lst (vks++[v]))) wd (.lst (d_ ws++[.str (tx a)])) b<*.tup zs:=λb zs e=>n e (m3 e p (!5)) (m3 e h.ht (!5)) (m3 e h.hw (!5));let G:=h.obj.ex;let⟨dx,s⟩:=G;show {h with
  sm:=b'.set (b'.set (b'.set h.sm h.n5) h.n1) h.n2
  obj:=(dx,n s (Ne.symm h.e5) (m3 s h.ht (!5)) (m3 s h.hw (!5)))
  ht:=by rw[b_ h.d1,a_]
  th:=(h.th.same g).snoc (D.same g)
  hw:=by rw[a_,d_,d_,map_append];rfl
  hy:=n h.hy (Ne.symm h.e3) (Ne.symm h.d2) (Ne.symm h.d4)
  wr:=(h.wr.1,λi b r l q=>n (h.wr.2 i b r l q) (h.nr b (pa l)).2.2.2.2 (h.nr b (pa l)).1 (h.nr b (pa l)).2.1)
  hm:=n h.hm (Ne.symm h.e4) (Ne.symm h.d3) (Ne.symm h.d5)
  rm:=A.same λb u e E=>by
   rcases E with rfl|⟨zs,rfl⟩
   .rw [b_ h.e2,b_ h.e1];show e
   .let hbd:b≠d:=λz=>by
     rw[z,a_]at e;let f:=A;unfold tf at f;by_cases c:ti=.i
     .rw [if_pos c,a_]at f;rw[e]at f;cases f.1
     .rw [if_neg c]at f;let⟨kvs,C,_⟩:=f;rw[a_,e]at C;cases C
    rw[b_ hbd]at e;show g b zs e}
def WI.row(h:WI P w H0 H cW ti L wk t wd y m d ks vks ws rows R B)(q:H a<*.lst (c_ r))(C:a≠t)(A:a≠wd)(o:a≠y)(x:a≠m)(v:a≠d):WI P w H0 (upd H y (.lst (rows.map V.ref++[.ref a]))) cW ti L wk t wd y m d ks vks ws (rows++[a]) (R++[r]) B:=by
 let f:∀{b:Addr}{u:HO},H b<*u->b≠y->upd H y (.lst (rows.map V.ref++[.ref a])) b<*u:=λe j=>by rw[b_ j];show e
 let c:∀b zs,H b<*.tup zs->upd H y (.lst (rows.map V.ref++[.ref a])) b<*.tup zs:=λb zs e=>f e (m3 e h.hy (!5));let s:=h.obj.ex;let⟨dx,n⟩:=s;show {h with
  sm:=b'.set h.sm h.n3
  obj:=(dx,f n (m3 n h.hy (!5)))
  ht:=f h.ht h.d2
  th:=h.th.same c
  hw:=f h.hw h.d4
  hy:=by rw[a_,map_append];rfl
  wr:=by
   refine(by rw[j_,j_,h.wr.1];rfl,λi b p g k=>?_);by_cases l:i<rows.length
   .rw [getElem?_append_left l]at g;rw[getElem?_append_left (by rw[<-h.wr.1];show l)]at k;show f (h.wr.2 i b p g k) (h.nr b (pa g)).2.2.1
   .rw [getElem?_append_right (le_of_not_lt l)]at g;rw[getElem?_append_right (by rw[<-h.wr.1];show le_of_not_lt l),<-h.wr.1]at k;let hz:i-rows.length=0:=by
     have:=(j0 g).1;simp at this;omega
    rw[hz]at g k;cases g;cases k;show f q o
  hm:=f h.hm (Ne.symm h.d6)
  rm:=h.rm.same λb u e j=>by
   rcases j with rfl|⟨zs,rfl⟩
   .exact f e h.e3
   .exact c b zs e
  nr:=λb j=>by
   rcases mem_append.mp j with z|z
   .exact h.nr b z
   .rw [t5 z];show(C,A,o,x,v)}
def WI.mark(h:WI P w H0 H cW ti L wk t wd y m d ks vks ws rows R B):WI P w H0 (upd H m (.lst (B.map V.bl++[.bl b]))) cW ti L wk t wd y m d ks vks ws rows R (B++[b]):=by
 let f:∀{c:Addr}{u:HO},H c<*u->c≠m->upd H m (.lst (B.map V.bl++[.bl b])) c<*u:=λe g=>by rw[b_ g];show e
 let a:∀c zs,H c<*.tup zs->upd H m (.lst (B.map V.bl++[.bl b])) c<*.tup zs:=λc zs e=>f e (m3 e h.hm (!5));let n:=h.obj.ex;let⟨dx,k⟩:=n;show {h with
  sm:=b'.set h.sm h.n4
  obj:=(dx,f k (m3 k h.hm (!5)))
  ht:=f h.ht h.d3
  th:=h.th.same a
  hw:=f h.hw h.d5
  hy:=f h.hy h.d6
  wr:=(h.wr.1,λi c r j l=>f (h.wr.2 i c r j l) (h.nr c (pa j)).2.2.2.1)
  hm:=by rw[a_,map_append];rfl
  rm:=h.rm.same λc u e g=>by
   rcases g with rfl|⟨zs,rfl⟩
   .exact f e h.e4
   .exact a c zs e}
end
def IB(l:LN)(x:Nat):c_ (l++[x])=c_ l++[V.int (x:Int)]:=by simp[c_]
def Jr{a:Type}{l:List a}{x y:a}{i:Nat}(h:l[i]?<*y):(l++[x])[i]?<*y:=by
 rw[getElem?_append_left (j0 h).1];show h
def LP{a:Type}{l:List a}{x y:a}(b:i<l.length)(h:(l++[x])[i]?<*y):l[i]?<*y:=by
 rw[getElem?_append_left b]at h;show h
def Hr{a:Type}{l:List a}{x y:a}(e:(l++[x])[i]?<*y):l[i]?<*y\/(i=l.length/\y=x):=by
 by_cases b:i<l.length
 .rw [getElem?_append_left b]at e;show .inl e
 .rw [getElem?_append_right (!6)]at e;have:i-l.length=0:=by
   have:=(j0 e).1;simp at this;omega
  rw[this]at e;show .inr (!6,(Option.some.inj e).symm)
def bx(h:k∈ts):BG ts k=some (ts.idxOf k)/\ts[ts.idxOf k]?<*k:=(if_pos h,by rw[hH (idxOf_lt_length_of_mem h),getElem_idxOf])
structure FI(g:LN->Nat->LN)(L s0:LN)(mk:LN->Bool)(U ks ws R:LL)(B:List Bool)(q:Nat):Prop where
 bf:Bf g L s0 ks ws R.length q
 le:R.length≤ks.length
 ways:FH g L.length ks R
 bl:B.length=R.length
 mks:∀(r:Nat)(k:LN)(b:Bool),ks[r]?<*k->B[r]?<*b->b=mk k
 sub:∀k∈ks,k∈U
 left:vO U ks+ks.length≤U.length
 wl:∀a∈ws,a.length≤ks.length
abbrev Ht(g:LN->Nat->LN)(ks:LL)(n:Nat)(r:LN)(q:Nat):Prop:=r.length=q/\∀(q' x:Nat)(k:LN),ks[n]?<*k->r[q']?<*x->ks[x]?<*g k q'
section
variable{g:LN->Nat->LN}{L s0:LN}{mk:LN->Bool}{U ks ws R:LL}{B:List Bool}{q n:Nat}{r a k0:LN}
def FI.start(c:s0∈U):FI g L s0 mk U [s0] [[]] [] [] 0 where
 bf:=Bf.start g L s0
 le:=zero_le _
 ways:=⟨λr d k h=>by simp at h⟩
 bl:=rfl
 mks:=λr k b _ h=>by simp at h
 sub:=λk e=>by rw[t5 e];show c
 left:=by
  let i:=cL (U:=U) (ts:=[]) c (!1);let j:vO U ([]:LL)≤U.length:=List.countP_le_length;simp at i⊢;lia
 wl:=λa f=>by rw[t5 f];show zero_le _
def FI.old(h:FI g L s0 mk U ks ws R B q)(b:L.Nodup)(e:ks[R.length]?<*k0)(f:ws[R.length]?<*a)(c:q<L.length)(d:g k0 q∈ks):FI g L s0 mk U ks ws R B (q+1):=
 {h with bf:=h.bf.old b e f c d}
def FI.new(h:FI g L s0 mk U ks ws R B q)(m:L.Nodup)(f:ks[R.length]?<*k0)(j:ws[R.length]?<*a)(s:q<L.length)(i:g k0 q∉ks)(l:g k0 q∈U):FI g L s0 mk U (ks++[g k0 q]) (ws++[a++[L.getD q 0]]) R B (q+1) where
 bf:=h.bf.new m f j s i
 le:=by rw[j_];show Nat.le_trans h.le (le_add_right _ _)
 ways:=⟨λr e k d c=>by
  let p:r<ks.length:=lt_of_lt_of_le (j0 d).1 h.le;let⟨v,u⟩:=h.ways.row r e k d (LP p c);show(v,λq x o=>Jr (u q x o))⟩
 bl:=h.bl
 mks:=λr k b d c=>h.mks r k b (LP (lt_of_lt_of_le (by rw[<-h.bl];show(j0 c).1) h.le) d) c
 sub:=λk f=>by
  rcases mem_append.mp f with z|z
  .exact h.sub k z
  .rw [t5 z];show l
 left:=by
  let d:=cL (U:=U) (ts:=ks) l i;let c:=h.left;rw[j_];change vO U (ks++[g k0 q])+(ks.length+1)≤U.length;lia
 wl:=λb t=>by
  rw[j_];rcases mem_append.mp t with z|z
  .exact Nat.le_trans (h.wl b z) (le_add_right _ _)
  .rw [t5 z,j_];show Nat.add_le_add_right (h.wl a (pa j)) 1
def FI.next(h:FI g L s0 mk U ks ws R B L.length)(j:ks[R.length]?<*k0)(f:Ht g ks R.length r L.length):FI g L s0 mk U ks ws (R++[r]) (B++[mk k0]) 0 where
 bf:=by rw[j_];show h.bf.next
 le:=by rw[j_];show(j0 j).1
 ways:=⟨λi e k c d=>by
  rcases Hr c with z|⟨rfl,rfl⟩
  .exact h.ways.row i e k z d
  .exact (f.1,λq x l=>f.2 q x k d l)⟩
 bl:=by rw[j_,j_,h.bl];rfl
 mks:=λi k b c d=>by
  rcases Hr d with z|⟨rfl,rfl⟩
  .exact h.mks i k b c z
  .rw [h.bl,j]at c;cases c;rfl
 sub:=h.sub
 left:=h.left
 wl:=h.wl
def Ht.nil:Ht g ks n [] 0:=(1,λq x k _ h=>by simp at h)
def Ht.grow(h:Ht g ks n r q)(c:n<ks.length):Ht g (ks++[x]) n r q:=(h.1,λb y k e d=>Jr (h.2 b y k (LP c e) d))
def Ht.snoc(h:Ht g ks n r q)(e:ks[n]?<*k0)(d:g k0 q∈ks):Ht g ks n (r++[ks.idxOf (g k0 q)]) (q+1):=by
 refine(by rw[j_,h.1];rfl,λc x k b f=>?_);rcases Hr f with z|⟨rfl,rfl⟩
 .exact h.2 c x k b z
 .rw [e]at b;cases b;rw[h.1];show(bx d).2
end
end RA
namespace L2
open PySem.Spec PyProof.Rows
abbrev G4(H:Hp)(a:Addr)(xs:List V):Prop:=H a<*.tup xs\/H a<*.lst xs
def G4.same(h:G4 H a xs)(t:∀b xs,H b<*.tup xs->H' b<*.tup xs)(l:∀b xs,H b<*.lst xs->H' b<*.lst xs):G4 H' a xs:=h.imp (t _ _) (l _ _)
def G4.one(h:G4 H a xs)(g:G4 H a ys):xs=ys:=by
 rcases h with h|h<;>rcases g with g|g<;>rw[h]at g<;>cases g<;>rfl
def G4.ne(h:G4 H a xs):H a≠none:=λz=>by
 rcases h with h|h<;>rw[z]at h<;>cases h
inductive rIxV(x:V)(y:V)(H:Hp)(Q:VK):Prop
 |mk (p:Addr) (xs:List V) (i:Int) (z:V) (_:x=.ref p) (_:y=.int i) (_:G4 H p xs) (_:ux xs i<*z) (_:Q z H)
def nH:Hz X rIxV:=by
 intro a b c s e H x y v u Q I g f h j;obtain⟨p,xs,i,z,m,l,d|d,k,q⟩:=h
 .exact em a b c s e H x y v u Q I g f (p,xs,i,z,m,l,nj.of d,k,q) j
 .exact eA a b c s e H x y v u Q I g f (p,xs,i,z,m,l,i4.of d,k,q) j
end L2
namespace RA
open L2
inductive FJ(H:Hp)(m:Addr)(L:LN)(W:LL)(B:List Bool):Prop
 |mk (wy mk:Addr) (rows:List Addr) (_:H m<*.tup [.str (tx L),.ref wy,.ref mk]) (_:G4 H wy (rows.map V.ref)) (_:G4 H mk (B.map V.bl)) (_:rows.length=W.length) (_:∀(i:Nat)(r:Addr),rows[i]?<*r->∃ws,W[i]?=some ws/\G4 H r (c_ ws))
section
variable{H H':Hp}{m:Addr}{L:LN}{W:LL}{B:List Bool}
def p'.g(h:p' H m L W B):FJ H m L W B:=by
 let⟨b,mk,a,k,j,f,d,c⟩:=h;show(b,mk,a,k,.inl j,.inl f,d,λi r e=>(c i r e).imp λws z=>(z.1,.inl z.2))
def FJ.keep(h:FJ H m L W B)(t:∀b xs,H b<*.tup xs->H' b<*.tup xs)(l:∀b xs,H b<*.lst xs->H' b<*.lst xs):FJ H' m L W B:=by
 let⟨c,mk,a,k,j,g,f,d⟩:=h;show(c,mk,a,t _ _ k,j.same t l,g.same t l,f,λi r e=>(d i r e).imp λws z=>(z.1,z.2.same t l))
def FJ.same(h:FJ H m L W B)(s:b' H H'):FJ H' m L W B:=h.keep (λb xs e=>s _ _ e) λb xs e=>s _ _ e
def FJ.row{f mk:Addr}{a:List Addr}{n:Nat}(l:H m<*.tup [.str (tx L),.ref f,.ref mk])(k:G4 H f (a.map V.ref))(g:a[n]?<*r):∀d:Hp,b' d H->FJ d m L W B->d r≠none:=by
 intro d s h;let⟨i,j,c,q,p,v,u,o⟩:=h;have:=s _ _ q;rw[l]at this;cases this;let e:=(p.same (λb xs e=>s _ _ e) λb xs e=>s _ _ e).one k;let t:c=a:=(List.map_inj_right λ_ _ z=>V.ref.inj z).mp e;rw[<-t]at g;let⟨ws,_,z⟩:=o _ _ g;show z.ne
end
abbrev gW(W:LL)(k:LN)(q:Nat):LN:=[(W.getD (k.headD 0) []).getD q 0]
abbrev uW(W:LL):LL:=(List.range W.length).map λn=>[n]
abbrev mkW(B:List Bool)(k:LN):Bool:=B.getD (k.headD 0) false
def hY:[n]∈uW W↔n<W.length:=by
 unfold uW;rw[mem_map];constructor
 .rintro⟨m,a,e⟩;injection e with e;rw[<-e];show mem_range.mp a
 .exact λh=>(n,mem_range.mpr h,1)
def lQ(W:LL):(uW W).length=W.length:=by rw[uW,ix,length_range]
def dh(h:k∈uW W):∃n,k=[n]/\n<W.length:=by
 unfold uW at h;let⟨n,a,e⟩:=mem_map.mp h;show(n,e.symm,mem_range.mp a)
def rF(f:hF L W B):∀k∈uW W,∀q,q<L.length->gW W k q∈uW W:=λk d q a=>by
 let⟨n,rfl,b⟩:=dh d;refine hY.mpr ?_;show(W.getD n []).getD q 0<W.length;let e:W.getD n []=W[n]:=by rw[mu,hH b];rfl
 rw[e];let⟨c,g⟩:=f.row W[n] (getElem_mem b);let h:W[n].getD q 0=W[n][q]'(by rw[c];show a):=by rw[mu,hH (by rw[c];show a)];rfl
 rw[h];show g _ (getElem_mem _)
def Kr(r:Nat):∀(m:Nat)(w:LN),w.length=m->aA (gW W) L [r] w=[run L W r w]:=by
 intro m;induction m with
 |zero=>
  intro w hw;rw[length_eq_zero_iff.mp hw];rfl
 |succ m a=>
  intro w hw;obtain⟨c,v,rfl⟩:∃c v,w=v++[c]:=(w.getLast (by intro z;rw[z]at hw;cases hw),w.dropLast,(dropLast_concat_getLast _).symm);rw[Ko,a v (by simpa using hw),Ia];rfl
def p'.tups(h:p' H m L W B)(s:∀b xs,H b<*.tup xs->H' b<*.tup xs):p' H' m L W B:=by
 let⟨d,mk,c,l,k,j,g,f⟩:=h;show(d,mk,c,s _ _ l,s _ _ k,s _ _ j,g,λi r e=>let⟨ws,a,b⟩:=f i r e;(ws,a,s _ _ b))
def Ks(s:vP P0 H H')(a:uG H P0 sites):∀b xs,H b<*.tup xs->H' b<*.tup xs:=λb xs e=>s b _ (λz=>by
 let⟨ps,c,_⟩:=a;rw[z,c]at e;cases e) e
def Lb(a:vP P0 H g)(b:vP P0 g f):vP P0 H f:=λc o d e=>b c o d (a c o d e)
def fB(s:b' H H'):vP P0 H H':=λb o _ e=>s b o e
inductive Lc(cW P0:Addr)(sites:List (Pos×Str))(vs:List V)(H:Hp)(Q:VK)(_E:XK):Prop
 | mk (m:Addr) (L:LN) (W:LL) (B:List Bool) (_:vs=[.ref m]) (_:FJ H m L W B) (_:hF L W B) (_:uG H P0 sites) (_:∀(wk t wd y md:Addr)(ks:LL)(vks:List V)(ws:LL)(rows:List Addr)(R:LL)(Bm:List Bool)(H':Hp),vP P0 H H'->uG H' P0 sites->Jc H' cW wk L t wd y md->H' t<*.lst vks->wF .i H' ks vks->H' wd<*.lst (d_ ws)->H' y<*.lst (rows.map V.ref)->bM H' rows R->H' md<*.lst (Bm.map V.bl)->
  Bf (gW W) L [0] ks ws ks.length 0->FH (gW W) L.length ks R->R.length=ks.length->Bm.length=R.length->(∀(r:Nat)(k:LN)(b:Bool),ks[r]?<*k->Bm[r]?<*b->b=mkW B k)->(∀k∈ks,k∈uW W)->ks.length≤W.length->Q (.ref wk) H')
structure pZ(H:Hp)(l:Addr)(rs:LN)(ws:LL):Prop where
 ex:∃ts:List Addr,H l=some (.lst (ts.map V.ref))/\ts.length=rs.length/\ws.length=rs.length/\∀(i:Nat)(t:Addr)(r:Nat)(w:LN),ts[i]?<*t->rs[i]?<*r->ws[i]?<*w->H t<*.tup [.int (r:Int),.str (tx w)]
inductive mn(P0:Addr)(sites:List (Pos×Str))(vs:List V)(H:Hp)(Q:VK)(_E:XK):Prop
 |mk (m:Addr) (L:LN) (W:LL) (B:List Bool) (_:vs=[.ref m]) (_:p' H m L W B) (_:hF L W B) (_:uG H P0 sites) (_:∀(l:Addr)(rs:LN)(ws:LL)(H':Hp),vP P0 H H'->uG H' P0 sites->H l=none->pZ H' l rs ws->Bf (gW W) L [0] (rs.map λn=>[n]) ws rs.length 0->(∀r∈rs,r<W.length)->rs.length≤W.length->Q (.ref l) H')
def pZ.at(h:pZ H l a ws):∃xs:List V,H l=some (.lst xs)/\xs.length=a.length/\ws.length=a.length/\∀(i:Nat)(x:V),xs[i]?<*x->∃(t:Addr)(r:Nat)(w:LN),x=.ref t/\a[i]?=some r/\ws[i]?=some w/\H t<*.tup [.int (r:Int),.str (tx w)]:=by
 let⟨ts,g,c,f,d⟩:=h.ex;refine(_,g,by rw[ix,c],f,λi x e=>?_);rw[lv]at e;let⟨t,b,rfl⟩:=uJ e;let j:i<a.length:=by rw[<-c];show(j0 b).1
 show(t,a[i],ws[i]'(!6),1,hH _,hH _,d i t _ _ b (hH _) (hH _))
def jv:∀{l:LN},(l.map λn=>[n]).Nodup->l.Nodup
 |[],_=>List.nodup_nil
 |x::l,h=>by
  rw[map_cons,nodup_cons]at h;rw[nodup_cons];show(λa=>h.1 (mem_map.mpr (x,a,1)),jv h.2)
def Ld:TriplesOk (#[]:Array Value).toList:=trivial
def Js(h:uG H P0 sites)(s:b' H H'):uG H' P0 sites:=by
 let⟨ps,c,e,d⟩:=h;show(ps,s _ _ c,e,λx b=>(d x b).imp id λa=>by let⟨i,g,f⟩:=a;show(i,g,s _ _ f))
def oF{c:Type}[DecidableEq c]{g:c->Nat->c}{L:LN}{s:c}{ts:List c}{ws:LL}{n k:Nat}(i:Bf g L s ts ws n k):∀(m j:Nat)(b:LN),j<m->ws[j]?<*b->b.length≤j:=by
 intro m;induction m with
 |zero=>show λj b h=>absurd h (not_lt_zero j)
 |succ m l=>
  intro j b t e;rcases i.par j b e with rfl|⟨p,q,a,d,u,f,_⟩
  .exact zero_le _
  let r:a.length<b.length:=by rw[f,j_];show lt_succ_self _
  let hp:p<j:=by
   rcases lt_trichotomy p j with z|z|z
   .exact z
   .rw [z,e]at d;cases d;lia
   .let o:=i.srt j p b a z e d;have:=JW o;lia
  have:=l p a (!6) d;rw[f,j_];change a.length+1≤j;lia
def gR{a:Type}[DecidableEq a]{g:a->Nat->a}{L:LN}{s:a}{ts:List a}{ws:LL}{n k N:Nat}(b:Bf g L s ts ws n k)(c:ws.length≤N)(i:Nat)(w:LN)(e:ws[i]?<*w):w.length≤N:=by
 let f:=oF b (i+1) i w (lt_succ_self i) e;let d:=(j0 e).1;lia
end RA
namespace L2
open PySem.Spec PyProof.Rows
abbrev pY(a:Addr):It:=⟨λi H=>∃xs x,H a=some (.lst xs)/\xs[i]?<*x,λi H v H'=>∃p x xs,H a=some (.lst xs)/\xs[i]?=some x/\v=.ref p/\H p=none/\H'=upd H p (.tup [.int (i:Int),x]),λi H=>∃xs,H a=some (.lst xs)/\i=xs.length⟩
def ib{K:Frag}(a e it:Addr)(r:e≠it):bS P w K (.Tuple es kt pt) (pY a) [e,it] e (λi h=>(∃f,IsEnum h e it i f)/\h.IsListIter it a i)  where
 mem:=by simp
 obj:=λi h ac c C=>by
  let⟨⟨f,j⟩,⟨N,m,_,d1⟩⟩:=ac;simp only[mem_cons,not_mem_nil,or_false]at C;rcases C with rfl|rfl
  .exact (_,j,λv q=>by cases q)
  .exact (N,m,λv q=>by rw[d1]at q;cases q)
 keep:=λi h h' ab k=>by let⟨⟨f,j⟩,⟨N,m,r1⟩⟩:=ab;show((f,k e (!1) _ j),(N,k it (!1) _ m,r1))
 item:=by
  rintro X hP hw hK C i D s σ H E I Q⟨⟨f,j⟩,y⟩hg;subst hP hw hK;let⟨xs,x,O,hx⟩:=hg;let⟨d,U,p,hz⟩:=I.list (i4.of O);let⟨u,hu,ru⟩:=U.get hx;let B:s.heap.IsList a d.toArray:=p.isList;let Y:i<d.toArray.size:=by
   have:=(j0 hu).1;simpa using this
  let t:a≠it:=by
   let⟨o,m,M,_⟩:=B;let⟨o2,G,L,_⟩:=y;rintro rfl;rw[m]at G;cases G;rw[M]at L;show absurd L (!0)
  let Z:e≠a:=by
   let⟨o,m,M,_⟩:=B;rintro rfl;let F:s.heap.get? e<*_:=j;rw[m]at F;cases F;show absurd (show Value.type "enumerate"=Value.type "list" from M) (!0)
  refine wpAny_pyNext_enum_itemD (Draws.list (prog:=X.prog) (w:=X.w) (A:=X.A.in1) (I.ok.hd C) it a t d.toArray) j (y,B) Y r (by simp[r,Z]) λv g T pv ho st W hsz gk=>(0,3);let ev:v=u:=by
   have:d.toArray[i]?<*v:=pv;rw[getElem?_toArray,hu]at this;show(Option.some.inj this).symm
  subst ev;refine wpAny_letOwnedTupleGo_enum (s:={s with heap:=g,toks:=T+1}) ho λg' ge gs=>?_;let R:∀b o,b≠e->g.get? b<*o->g'.get? b<*o:=λb o l q=>(gs.2 b l).trans q;let ne:s⁻¹≠e:=ne_of_gt (lt_size j);let tup:uz X.prog X.w (upd H s⁻¹ (.tup [.int (i:Int),x])) g' s⁻¹ (.tup [.int (i:Int),x]):=
   (kA (by change 2≤16777216;decide),[.int i T,v],.cons (_,rfl) (.cons ru .nil),(_,R _ _ ne W,1,(0),1))
  refine(.ref s⁻¹,_,I.turnedNew (S:=[e,it]) (h':=g') (t':=T+1) (λb o l q=>R b o (λz=>l (by simp[z])) (gk b o (λz=>l (by simp[z])) (λz=>l (by simp[z])) q)) Q tup,1,
   (_,x,xs,O,hx,1,I.hok.fresh (Nat.le_refl _),1),((_,by rw[Int.natCast_succ];show ge),st.1.at λo q=>R _ o (λz=>r z.symm) q),λb l=>?_)
  let lt:b<s⁻¹:=by
   let⟨N,m,_⟩:=y;simp only[mem_cons,not_mem_nil,or_false]at l;rcases l with rfl|rfl
   .exact lt_size j
   .exact lt_size m
  rw[b_ (ne_of_lt lt)];show(Q b l).1
 done:=by
  rintro X hP hw hK C i D s σ H E I Q⟨⟨f,j⟩,y⟩n;subst hP hw hK;let⟨xs,O,rfl⟩:=n;let⟨d,U,p,hz⟩:=I.list (i4.of O);let B:s.heap.IsList a d.toArray:=p.isList;let t:a≠it:=by
   let⟨o,m,M,_⟩:=B;let⟨o2,G,L,_⟩:=y;rintro rfl;rw[m]at G;cases G;rw[M]at L;show absurd L (!0)
  let hsz:xs.length=d.toArray.size:=by rw[U.length];simp
  refine wpAny_pyNext_enum_endD (Draws.list (prog:=X.prog) (w:=X.w) (A:=X.A.in1) (I.ok.hd C) it a t d.toArray) j (by rw[<-hsz];show y,B) λg gs=>(1,3);show I.turnedL (S:=[e,it]) (λb o l q=>gs b o (λz=>l (by simp[z])) q) Q
 self:=λ_ _ _ _ _ st h=>by
  let⟨⟨f,j⟩,_⟩:=st;show wpAny_pyIter_enum j h
inductive pI(R:It->Hp->Prop)(vs:List V)(H1:Hp):Prop
 |mk (a xs:_) (_:vs=[.ref a]) (_:((H1 a=some (.tup xs)/\R (pX a) H1)\/(H1 a=some (.lst xs)/\R (pY a) H1)))
abbrev iK(t:TA):TI:=λσ H R=>t σ H (pI R)
def LQ{G:List Expr}{B:Nat}{A:Pos}{p pos:Pos}(E:Gl X "enumerate")(D:X.mg "enumerate"=none)(F:PA X [a] ta)(C:(starEach [a] X.env=(false,eval a X.env,)::starEach [] X.env)>>>4)(m:((backTo pos (starEach [] X.env)).any (·.1)=false)>>>4):PI X (.Tuple G B A) (.Call (.Name "enumerate" p) [a] [] pos) (iK ta):=by
 intro e s v H R I h;refine wpAny_Call_Name_kw (pj I E D PyProof.Rows.boot_enumerate (PyProof.Rows.callWith_type1 (kl (F pos e s v H _ I h) λL d z=>?_) C m));let⟨vs,r,f,y,b,xs,rfl,z⟩:=z;let⟨M,rfl,x⟩:=GC y;cases x;let u:∀c∈[d⁻¹+1,d⁻¹],aJ X e r c:=λc t=>by
  let j:d⁻¹≤c:=by
   simp only[mem_cons,not_mem_nil,or_false]at t;rcases t with rfl|rfl
   .exact le_add_right _ _
   .exact Nat.le_refl _
  show f.fpOk j (f.hok.fresh j)
 rcases z with⟨l,q⟩|⟨l,q⟩
 .obtain ⟨i,w,k,hz⟩:=f.tuple (nj.of l);refine iU (show d.heap.IsTuple b i.toArray from k) λg ge o n=>wpAny_pyIter_enum (s:={d with heap:=g}) ge ?_;show(_,[d⁻¹+1,d⁻¹],_,pX b,r,1,f.kept (t':=d.toks) n,ia b _ _ (JL (!6)),((_,ge),o),u,q)
 .obtain ⟨i,w,k,hz⟩:=f.list (i4.of l);refine call_enumerate_list k.isList λg ge o N n=>wpAny_pyIter_enum (s:={d with heap:=g}) ge ?_;show(_,[d⁻¹+1,d⁻¹],_,pY b,r,1,f.kept (t':=d.toks) n,ib b _ _ (JL (!6)),((_,ge),o),u,q)
def gP{K:Frag}{k:St}(j:H c<*.lst xs)(d:Addr->Nat->List V->Hp->Prop)(hz:xs.length≤sizeLine)(h0:∀D,H D=none->d D 0 [] (upd H D (.lst [])))(q:∀(D:Addr)(i:Nat)(x:V)(ys:List V)(H' e:Hp)(f:VK),H D=none->xs[i]?<*x->b' H H'->H' D<*.lst ys->d D i ys H'->b' H' e->
   (∀y g,g D<*.lst ys->b' H (upd g D (.lst (ys++[y])))->d D (i+1) (ys++[y]) (upd g D (.lst (ys++[y])))->f y g)->o (some (.int (i:Int))::some x::k) e f)(r:∀D ys H',H D=none->b' H H'->H' D<*.lst ys->d D xs.length ys H'->Q (.ref D) H'):i6 K (pY c) o k H Q:=by
 refine Ni (n:=xs.length) (λi a b=>a=.int (i:Int)/\xs[i]?<*b) d hz (λi m s h=>(xs,xs[i],s _ _ j,hH h)) ?_ (λm s=>(xs,s _ _ j,1)) h0 ?_ r
 .rintro i m x e s h⟨p,y,zs,l,A,z,w,v⟩;rw[s _ _ j]at l;cases l;show(p,_,y,z,(1,A),w,v)
 .rintro D i a b ys H' e f u I⟨rfl,t⟩G F E C B;show q D i b ys H' e f u t G F E C B
end L2
namespace RA
open L2
def gO{e:St}(l:∀R:List V->Hp->Prop,R [.ref c] H->t e H R)(m:o=.lst xs\/o=.tup xs)(b:H c<*o)(a:Addr->Nat->List V->Hp->Prop)(hz:xs.length≤sizeLine)(h0:∀D,H D=none->a D 0 [] (L2.upd H D (.lst [])))(f:∀(D:Addr)(i:Nat)(x:V)(ys:List V)(H' j:Hp)(h:VK),H D=none->xs[i]?<*x->b' H H'->H' D<*.lst ys->a D i ys H'->b' H' j->
   (∀y d,d D<*.lst ys->b' H (L2.upd d D (.lst (ys++[y])))->a D (i+1) (ys++[y]) (L2.upd d D (.lst (ys++[y])))->h y d)->k (some (.int (i:Int))::some x::e) j h)(g:∀D ys H',H D=none->b' H H'->H' D<*.lst ys->a D xs.length ys H'->Q (.ref D) H'):mh K (iK t) k e H Q:=by
 refine l _ (c,xs,1,3);rcases m with rfl|rfl
 .exact .inr (b,gP (K:=K) b a hz h0 f g)
 .exact .inl (b,iS (K:=K) b a hz h0 f g)
end RA
namespace L2
open PySem.Spec PyProof.Rows
section
variable{X:Cx}
def da(y:X.calm=true):Hg X (.builtin "max") (λxs H Q=>∃(a:Addr)(ns:List Int),xs=[V.ref a]/\H a=some (.lst (ns.map V.int))/\0<ns.length/\∀M∈ns,(∀x∈ns,x≤M)->Q (.int M) H):=by
 intro f s C H xs D Q I r h;let⟨a,ns,rfl,z,i,q⟩:=h;let⟨E,rfl,o⟩:=GC r;cases o;let⟨c,n,p,hz⟩:=I.list (i4.of z);let m:=gp n;let k:s.heap.IsList a c.toArray:=p.isList;let⟨xs,e⟩:=m.allInts.items;let b:ns=xs.toList.map (·.1):=by rw[<-m.numsOf,<-nums_intItems,<-e]
 let hsz:0<xs.size:=by
  rw[b,ix,length_toList]at i;show i
 rw[e]at k;refine max_intList (I.ok.hd y) k hsz λv h' F u w=>?_;let⟨t,rfl⟩:=intItems_at u;let⟨G,A⟩:=argBest_gt (numAt xs) (xs.size-1);refine(.int _,H,I.kept w,(t,1),q _ ?_ λx g=>?_)
 .rw [b,numAt_eq];show PySem.getD_mem (by rw[ix,length_toList];lia)
 .rw [b]at g;let⟨j,l⟩:=mem_iff_getElem?.mp g;let d:=(j0 l).1;rw[ix,length_toList]at d;have:=A j (!6);let B:numAt xs j=x:=by
   rw[numAt_eq,mu,l];rfl
  rw[<-B];show this
inductive rIndexI(x:V)(vs:List V)(H:Hp)(Q:VK):Prop
 |mk (l:Addr) (ns:List Int) (n:Int) (_:x=.ref l) (_:vs=[.int n]) (_:H l<*.lst (ns.map V.int)) (_:n∈ns) (_:Q (.int (ns.idxOf n:Nat)) H)
def kI:KL X "list.index" rIndexI:=by
 intro G s Z H x vs v us Q I O P h;let⟨l,d,f,rfl,rfl,M,U,q⟩:=h;cases O;let⟨u,rfl,R⟩:=P.one;let⟨N,rfl⟩:=(show ∃t,u=Value.int f t from R);let⟨z,k,n,r,hl,e⟩:=I.lstM M;let g:k.length=d.length:=by rw[<-r.length,ix]
 let w:d.idxOf f<d.length:=idxOf_lt_length_of_mem U;let p:∀(j:Nat)(C:j<k.toArray.size),∃(o:j<d.length)(t:Tok),k.toArray[j]=.int d[j] t:=λj C=>by
  let o:j<d.length:=by simpa[g]using C
  refine(o,3);let⟨a,Y,S⟩:=r.get (i:=j) (x:=.int d[j]) (by rw[lv,hH o];rfl);let⟨t,rfl⟩:=(show ∃t,a=Value.int d[j] t from S);let⟨_,q⟩:=j0 Y;show(t,by simpa using q)
 let D:((d.idxOf f:Nat):Int)<2^63-1:=by
  let W:(d.map V.int).length≤sizeLine:=(I.lst M).choose_spec.choose_spec.2.2;rw[ix,sizeLine_eq]at W;lia
 refine call_meets F.slot_list_index (_,e,1) F.entry_list_index (F.args_list_index_2 _ _) (SeqAt.list_indexAt l k.toArray n none #[] (.int f N) (λy=>match y with|.int b _=>b==f|_=>false) (d.idxOf f) (by simpa[g]using w) D ?_ ?_) (e,3,(.int _,H,I.tok _,(_,rfl),q))
 .obtain ⟨o,t,B⟩:=p (d.idxOf f) (by simpa[g]using w);rw[B];show(d[d.idxOf f]==f)=true;rw[getElem_idxOf o];show beq_self_eq_true f
 .intro m E L;let⟨o,t,B⟩:=p m E;rw[B];show(d[m]==f)=false;by_cases A:d[m]=f
  .have:=RA.JO (l:=d) (c:=f) (i:=m) (by rw[hH o,A]);lia
  .exact beq_eq_false_iff_ne.mpr A
 .intro y T;let⟨j,C,rfl⟩:=Array.mem_iff_getElem.mp T;let⟨o,t,B⟩:=p j C;rw[B];show SeqAt.EqAt.int_int _ _ _ _
def jq(K:Frag)(a:PE X e ta)(b:attributeBase e f X.env (eval e X.env)=eval e X.env)(c:(X.K=K)>>>4):PE X (.Attribute e f pos) (rS K ta f):=by
 subst c;show vm a b
def cg{c a:Pos}(K:Frag)(i:PE X o to)(j:PA X [e] t)(k:(X.K=K)>>>4)(f:(attributeBase o "index" X.env (eval o X.env)=eval o X.env)>>>4)(g:(((backTo a (starEach [e] X.env)).all (λx=>!x.1)&&(backToKw a (keywordEach [] X.env)).all (λx=>x.1.isSome)
   && decide ([e].length+([]:List Keyword).length+(if ([]:List Keyword).isEmpty then 0 else 1)<30))=true)>>>4)(d:((c.endLine==a.line)=true)>>>4)(h:(starEach [e] X.env=(false,eval e X.env,)::starEach [] X.env)>>>4)(b:((backTo a (starEach [] X.env)).any (·.1)=false)>>>4):PE X (.Call (.Attribute o "index" c) [e] [] a) (wg K "list" rIndexI to t):=by
 subst k;show Hl plainAttrs_list slot_list_index type_list_index kI i j f g d h b
end
end L2
namespace RA
open L2
abbrev qf(H:Hp)(rows:List Addr)(W:LL):Prop:=∀(i:Nat)(r:Addr),rows[i]?<*r->∃ws,W[i]?=some ws/\∃o,(o=.lst (c_ ws)\/o=.tup (c_ ws))/\H r<*o
def nh:∀{ns:LN},0<ns.length->∃M∈ns,∀x∈ns,x≤M
 |[],h=>by simp at h
 |[a],_=>(a,!1,λx c=>by rw[t5 c];show Nat.le_refl _)
 |a::b::r,_=>by
  let⟨M,e,d⟩:=nh (ns:=b::r) (!1);by_cases h:a≤M
  .exact (M,mem_cons_of_mem _ e,λx c=>by
    rcases mem_cons.mp c with rfl|z
    .exact h
    .exact d x z)
  .exact (a,!1,λx c=>by
    rcases mem_cons.mp c with rfl|z
    .exact Nat.le_refl _
    .have:=d x z;lia)
def lH(n:Nat):∀(l:LN),(zs l).idxOf (n:Int)=l.idxOf n
 |[]=>rfl
 |x::l=>by
  show((x:Int)::zs l).idxOf (n:Int)=_;rw[idxOf_cons,idxOf_cons,lH n l];by_cases h:x=n
  .rw [h];simp
  .rw [beq_eq_false_iff_ne.mpr h,beq_eq_false_iff_ne.mpr (λe=>h (Int.ofNat_inj.mp e))]
def mz(h:BF H c W):qf H c W:=λi r e=>let⟨ws,a,b⟩:=h i r e;(ws,a,_,.inr rfl,b)
end RA
namespace RA
section
variable{κ:Type}[DecidableEq κ]
def Le:∀(ks b:List κ),∃r,ay b ks=b++r
 |[],b=>([],(append_nil b).symm)
 |a::ks,b=>by
  change ∃r,ay (if a∈b then b else b++[a]) ks=b++r;by_cases h:a∈b
  .rw [if_pos h];show Le ks b
  .rw [if_neg h];let⟨r,e⟩:=Le ks (b++[a]);show([a]++r,by rw[e,append_assoc])
def eJ:∀(ks b:List κ),b.Nodup->(ay b ks).Nodup
 |[],_,h=>h
 |a::ks,b,h=>by
  show(ay (if a∈b then b else b++[a]) ks).Nodup;by_cases c:a∈b
  .rw [if_pos c];show eJ ks b h
  .rw [if_neg c];refine eJ ks _ ?_;rw[nodup_append];refine(h,!1,λx d y f e=>?_);rw[t5 f]at e;rw[e]at d;show c d
def oo(ks:List κ):(q5 ks).Nodup:=eJ ks [] List.nodup_nil
def m5{ks:List κ}(h:0<ks.length):(ak ks).getD 0 0=0:=by
 cases ks with
 |nil=>simp at h
 |cons k ks=>
  rw[Kh (k:=k) rfl];let⟨r,e⟩:=Le ks [k];have:q5 (k::ks)=[k]++r:=by
   change ay (if k∈[]then[]else[]++[k]) ks=_;rw[if_neg (!1)];show e
  rw[this];simp
def cC{ks:List κ}{M j:Nat}(h:M∈ak ks)(e:j≤M):j∈ak ks:=by
 let⟨k,d,rfl⟩:=mem_map.mp h;let a:j<(q5 ks).length:=lt_of_le_of_lt e (idxOf_lt_length_of_mem (mem_dis.mpr d));let c:(q5 ks)[j]∈ks:=mem_dis.mp (getElem_mem a);refine mem_map.mpr ((q5 ks)[j],c,3);let b:=oo ks;let f:(q5 ks).idxOf (q5 ks)[j]<(q5 ks).length:=idxOf_lt_length_of_mem (getElem_mem a);show(getElem_inj b).mp (getElem_idxOf f)
end
section
variable{L:LN}{W:LL}{B:List Bool}{k:Nat}
def tq(h:hF L W B):(Rd W B k).getD 0 0=0:=by
 cases k with
 |zero=>show m5 (by rw[h.bl];show h.n1)
 |succ k=>show m5 (by rw[GS];show h.n1)
def pU(h:M∈Rd W B k)(a:j≤M):j∈Rd W B k:=by
 cases k with
 |zero=>show cC h a
 |succ k=>show cC h a
end
abbrev vD(R:LL)(lots:LN)(m:Nat):LL:=(List.range m).map λj=>(R.getD (lots.idxOf j) []).map λg=>lots.getD g 0
abbrev Hu(Bm:List Bool)(lots:LN)(m:Nat):List Bool:=(List.range m).map λj=>Bm.getD (lots.idxOf j) false
def cR(h:j<m):(vD R a m).getD j []=(R.getD (a.idxOf j) []).map λg=>a.getD g 0:=by
 rw[vD,mu,lv,getElem?_range h];rfl
def k8(h:j<m):(Hu Bm a m).getD j false=Bm.getD (a.idxOf j) false:=by
 rw[Hu,mu,lv,getElem?_range h];rfl
structure aS(lots:LN)(m:Nat):Prop where
 pos:0<m
 lt:∀x∈lots,x<m
 has:∀j<m,j∈lots
section
variable{L:LN}{R:LL}{Bm:List Bool}{k m:Nat}
def kY{l:LN}(h:i<l.length):l.getD i 0∈l:=by
 rw[mu,hH h];show getElem_mem h
def HL(c:aS (Rd R Bm k) m)(b:hF L R Bm)(d:j<m):(Rd R Bm k).idxOf j<R.length/\jj R Bm k ((Rd R Bm k).idxOf j)=j:=by
 let a:=idxOf_lt_length_of_mem (c.has j d);refine(by rw[GZ b]at a;show a,3);rw[jj,mu,hH a];show getElem_idxOf a
def iF(c:aS (Rd R Bm k) m)(a:hF L R Bm)(b:r<R.length):jj R Bm k r<m:=c.lt _ (kY (by rw[GZ a];show b))
def kZ(b:aS (Rd R Bm k) m)(a:hF L R Bm):hF L (vD R (Rd R Bm k) m) (Hu Bm (Rd R Bm k) m) where
 lt:=a.lt
 n1:=by rw[vD,ix,length_range];show b.pos
 n60:=by
  rw[vD,ix,length_range];let d:=gU a (b.has (m-1) (by have:=b.pos;omega));have:=a.n60;lia
 bl:=by rw[Hu,vD,ix,ix]
 row:=λws h=>by
  rw[vD]at h;let⟨j,c,rfl⟩:=mem_map.mp h;let c:=mem_range.mp c;let⟨d,i⟩:=Gu a (HL b a c).1;refine(by rw[ix];show d,λx e=>?_);let⟨g,f,rfl⟩:=mem_map.mp e;rw[vD,ix,length_range];show iF b a (i g f)
def n9(b:aS (Rd R Bm k) m)(a:hF L R Bm):(vD R (Rd R Bm k) m).length≤R.length:=by
 rw[vD,ix,length_range];let c:=gU a (b.has (m-1) (by have:=b.pos;omega));lia
def n8(d:aS (Rd R Bm k) m)(a:hF L R Bm)(st:Rd R Bm (k+1)=Rd R Bm k)(b:r<R.length)(i:c∈L):uR L (vD R (Rd R Bm k) m) (jj R Bm k r) c=jj R Bm k (uR L R r c):=by
 let g:L.idxOf c<L.length:=idxOf_lt_length_of_mem i;let f:=iF d a b;let⟨h,j⟩:=HL d a f;let p:jj R Bm (k+1) ((Rd R Bm k).idxOf (jj R Bm k r))=jj R Bm (k+1) r:=by
  show(Rd R Bm (k+1)).getD _ 0=(Rd R Bm (k+1)).getD _ 0;rw[st];show j
 let o:=((Hm a h b).mp p).2 _ g;unfold uR;rw[cR f];let e:L.idxOf c<(R.getD ((Rd R Bm k).idxOf (jj R Bm k r)) []).length:=by rw[(Gu a h).1];show g
 rw[mu,lv,hH e];show(Rd R Bm k).getD _ 0=_;let n:goal R ((Rd R Bm k).idxOf (jj R Bm k r)) (L.idxOf c)=(R.getD ((Rd R Bm k).idxOf (jj R Bm k r)) [])[L.idxOf c]:=by
  rw[goal,mu (l:=R.getD _ []),hH e];rfl
 rw[<-n];show o
def Kt(e:aS (Rd R Bm k) m)(a:hF L R Bm)(st:Rd R Bm (k+1)=Rd R Bm k):∀{w:LN}{r:Nat},r<R.length->(∀c∈w,c∈L)->run L (vD R (Rd R Bm k) m) (jj R Bm k r) w=jj R Bm k (run L R r w)
 |[],_,_,_=>rfl
 |c::w,r,b,hw=>by
  let f:c∈L:=hw c (!1);change run L (vD R (Rd R Bm k) m) (uR L (vD R (Rd R Bm k) m) (jj R Bm k r) c) w=jj R Bm k (run L R (uR L R r c) w);rw[n8 e a st b f];show Kt e a st (Gv a b (idxOf_lt_length_of_mem f)) λd g=>hw d (by simp[g])
def LR(c:aS (Rd R Bm k) m)(a:hF L R Bm)(b:r<R.length):(Hu Bm (Rd R Bm k) m).getD (jj R Bm k r) false=Bm.getD r false:=by
 let d:=iF c a b;let⟨e,f⟩:=HL c a d;rw[k8 d];show(KU a e b).mp (LC a e b (zero_le k) f)
def iM(b:aS (Rd R Bm k) m)(a:hF L R Bm)(st:Rd R Bm (k+1)=Rd R Bm k)(hw:∀c∈w,c∈L):(Hu Bm (Rd R Bm k) m).getD (run L (vD R (Rd R Bm k) m) 0 w) false=Bm.getD (run L R 0 w) false:=by
 let e:jj R Bm k 0=0:=tq a;have:=Kt b a st a.n1 hw;rw[e]at this;rw[this];show LR b a (ur a a.n1 hw)
end
section
variable{L:LN}{W:LL}{B:List Bool}{ks ws R:LL}{Bm:List Bool}
def j6(b:hF L W B)(l:Bf (gW W) L [0] ks ws ks.length 0)(a:FH (gW W) L.length ks R)(c:R.length=ks.length)(bl:Bm.length=R.length)(le:ks.length≤W.length):hF L R Bm where
 lt:=b.lt
 n1:=by rw[c];show(j0 l.t0).1
 n60:=by rw[c];show Nat.le_trans le b.n60
 bl:=bl
 row:=λr g=>by
  let⟨i,e⟩:=mem_iff_getElem?.mp g;let d:i<ks.length:=by rw[<-c];show(j0 e).1
  let⟨k,j⟩:=a.row i r _ e (hH d);refine(k,λx f=>?_);let⟨q,h⟩:=mem_iff_getElem?.mp f;rw[c];show(j0 (j q x h)).1
def LS(k:hF L W B)(q:Bf (gW W) L [0] ks ws ks.length 0)(a:FH (gW W) L.length ks R)(j:R.length=ks.length):∀(n:Nat)(w:LN),w.length=n->(∀c∈w,c∈L)->ks[run L R 0 w]?<*[run L W 0 w]:=by
 intro n;induction n with
 |zero=>
  intro w hw _;rw[length_eq_zero_iff.mp hw];show q.t0
 |succ n h=>
  intro w hw f;obtain⟨c,v,rfl⟩:∃c v,w=v++[c]:=(w.getLast (by intro z;rw[z]at hw;cases hw),w.dropLast,(dropLast_concat_getLast _).symm);let g:=h v (by simpa using hw) λx i=>f x (by simp[i]);let b:L.idxOf c<L.length:=idxOf_lt_length_of_mem (f c (!1));let e:run L R 0 v<R.length:=by rw[j];show(j0 g).1
  let⟨d,p⟩:=a.row _ _ _ (hH e) g;let o:=p (L.idxOf c) _ (hH (by rw[d];show b));rw[Ia,Ia];let m:uR L R (run L R 0 v) c=R[run L R 0 v][L.idxOf c]'(by rw[d];show b):=by
   unfold uR;rw[mu (l:=R),hH e];show(R[run L R 0 v]).getD _ 0=_;rw[mu,hH (by rw[d];show b)];rfl
  rw[m];show o
def g9(e:hF L W B)(i:Bf (gW W) L [0] ks ws ks.length 0)(a:FH (gW W) L.length ks R)(g:R.length=ks.length)(bl:Bm.length=R.length)(d:∀(r:Nat)(k:LN)(b:Bool),ks[r]?<*k->Bm[r]?<*b->b=mkW B k)(hw:∀c∈w,c∈L):Bm.getD (run L R 0 w) false=B.getD (run L W 0 w) false:=by
 let h:=LS e i a g _ w rfl hw;let f:run L R 0 w<Bm.length:=by rw[bl,g];show(j0 h).1
 rw[mu,hH f];show d _ _ _ h (hH f)
end
inductive wm(L:LN)(W:LL)(B:List Bool)(W':LL)(B':List Bool):Prop
 |mk (ks ws R:LL) (Bm:List Bool) (k m:Nat) (_:Bf (gW W) L [0] ks ws ks.length 0) (_:FH (gW W) L.length ks R) (_:R.length=ks.length) (_:Bm.length=R.length) (_:(∀(r:Nat)(k:LN)(b:Bool),ks[r]?<*k->Bm[r]?<*b->b=mkW B k)) (_:(∀k∈ks,k∈uW W)) (_:ks.length≤W.length) (_:hF L R Bm) (_:Rd R Bm (k+1)=Rd R Bm k) (_:aS (Rd R Bm k) m) (_:W'=vD R (Rd R Bm k) m) (_:B'=Hu Bm (Rd R Bm k) m)
def wm.mach(h:wm L W B W' B'):hF L W' B':=by
 let⟨ks,ws,R,Bm,k,m,_,_,_,_,_,_,_,a,_,b,rfl,rfl⟩:=h;show kZ b a
def wm.len(h:wm L W B W' B'):W'.length≤W.length:=by
 let⟨ks,ws,R,Bm,k,m,_,_,c,_,_,_,le,a,_,b,rfl,rfl⟩:=h;have:=n9 b a;lia
def wm.takes(h:wm L W B W' B')(b:hF L W B)(hw:∀c∈w,c∈L):B'.getD (run L W' 0 w) false=B.getD (run L W 0 w) false:=by
 let⟨ks,ws,R,Bm,k,m,i,a,g,bl,d,_,le,e,st,f,rfl,rfl⟩:=h;rw[iM f e st hw];show g9 b i a g bl d hw
section
variable{κ:Type}[DecidableEq κ]
def gF:∀(a b c:List κ),ay c (a++b)=ay (ay c a) b
 |[],_,_=>rfl
 |x::a,b,c=>gF a b _
def Nt{ks:List κ}{i j:Nat}(o:i<ks.length)(e:j<(ak ks).getD i 0):∃i1,i1<i/\(ak ks).getD i1 0=j:=by
 let d:ks[i]?<*ks[i]:=hH o;rw[Kh d]at e;let⟨r,l⟩:=Le (ks.drop (i+1)) (q5 (ks.take (i+1)));let f:q5 ks=q5 (ks.take (i+1))++r:=by
  have:=gF (ks.take (i+1)) (ks.drop (i+1)) [];rw[take_append_drop]at this;show this.trans l
 let m:ks[i]∈ks.take (i+1):=by
  rw[mem_iff_getElem?];show(i,by rw[List.getElem?_take,if_pos (lt_succ_self i)];show d)
 let b:ks[i]∈q5 (ks.take (i+1)):=mem_dis.mpr m;rw[f,vF b]at e;let n:=idxOf_lt_length_of_mem b;let a:j<(q5 (ks.take (i+1))).length:=lt_trans e n;let⟨i1,c⟩:=mem_iff_getElem?.mp (mem_dis.mp (getElem_mem a));let q:i1<i+1:=by
  have:=(j0 c).1;rw[length_take]at this;lia
 rw[List.getElem?_take,if_pos q]at c;let k:=oo (ks.take (i+1));let g:(q5 (ks.take (i+1))).idxOf (q5 (ks.take (i+1)))[j]=j:=by
  let p:(q5 (ks.take (i+1))).idxOf (q5 (ks.take (i+1)))[j]<(q5 (ks.take (i+1))).length:=idxOf_lt_length_of_mem (getElem_mem a);show(getElem_inj k).mp (getElem_idxOf p)
 let t:(q5 ks).idxOf (q5 (ks.take (i+1)))[j]=j:=by
  rw[f,vF (getElem_mem a)];show g
 refine(i1,3,by rw[Kh c];show t);by_cases h:i1=i
 .rw [h,d]at c;let s:=Option.some.inj c;rw[<-s]at g;lia
 .lia
end
section
variable{L:LN}{R:LL}{Bm:List Bool}{k m:Nat}
def oJ(a:hF L R Bm)(c:i<R.length)(b:j<jj R Bm k i):∃i1,i1<i/\jj R Bm k i1=j:=by
 cases k with
 |zero=>show Nt (by rw[a.bl];show c) b
 |succ k=>show Nt (by rw[GS];show c) b
def pL(g:aS (Rd R Bm k) m)(c:hF L R Bm)(d:a<b)(h:b<m):(Rd R Bm k).idxOf a<(Rd R Bm k).idxOf b:=by
 let⟨n,l⟩:=HL g c h;let⟨i1,j,f⟩:=oJ c n (by rw[l];show d);refine lt_of_le_of_lt (JO (i:=i1) ?_) j;let e:i1<(Rd R Bm k).length:=by rw[GZ c];omega
 rw[hH e];rw[jj,mu,hH e]at f;show congrArg some f
def sX(a:hF L R Bm)(c:i<R.length):(Rd R Bm k).idxOf (jj R Bm k i)≤i:=by
 let b:i<(Rd R Bm k).length:=by rw[GZ a];show c
 refine JO ?_;rw[jj,mu,hH b];rfl
def LU(a:hF L R Bm):∀(k:Nat){r s:Nat},r<R.length->s<R.length->(∀u:LN,(∀c∈u,c∈L)->Bm.getD (run L R r u) false=Bm.getD (run L R s u) false)->jj R Bm k r=jj R Bm k s
 |0,r,s,d,b,h=>(KU a d b).mpr (h [] λc g=>by simp at g)
 | k+1,r,s,d,b,h=>(Hm a d b).mpr (LU a k d b h,λi f=>LU a k (Gv a d f) (Gv a b f) λu j=>by
   let e:=h (L[i]::u) λc g=>by
    rcases mem_cons.mp g with rfl|z
    .exact getElem_mem f
    .exact j c z
   rw[rf,rf,JQ,JQ,Ke a.lt.nd f]at e;show e)
end
def wm.unlike(h:wm L W B W' B')(n:r<W'.length)(l:s<W'.length)(e:∀u:LN,(∀c∈u,c∈L)->B'.getD (run L W' r u) false=B'.getD (run L W' s u) false):r=s:=by
 let⟨ks,ws,R,Bm,k,m,t,i,q,bl,p,_,le,a,st,b,rfl,rfl⟩:=h;rw[vD,ix,length_range]at n l;let⟨g,j⟩:=HL b a n;let⟨f,s2⟩:=HL b a l;have:=LU a k g f λu d=>by
  let o:=e u d;rw[<-j,<-s2,Kt b a st g d,Kt b a st f d,LR b a (ur a g d),LR b a (ur a f d)]at o;show o
 rw[j,s2]at this;show this
section
variable{L:LN}{W:LL}{B:List Bool}{ks ws R:LL}
def d7{b:Type}{l:List b}(c:l.Nodup){i j:Nat}{a:b}(e:l[i]?<*a)(d:l[j]?<*a):i=j:=by
 let⟨k,g⟩:=j0 e;let⟨h,f⟩:=j0 d;show(getElem_inj c).mp (g.trans f.symm)
def jY(d:hF L W B)(b:Bf (gW W) L [0] ks ws ks.length 0)(a:FH (gW W) L.length ks R)(g:R.length=ks.length)(hw:ws[i]?<*w):(∀c∈w,c∈L)/\run L R 0 w=i:=by
 let e:i<ks.length:=by rw[b.len];show(j0 hw).1
 let⟨l1,l2⟩:=b.lead i ks[i] w (hH e) hw;refine(l1,3);let f:=LS d b a g _ w rfl l1;rw[Kr 0 _ w rfl]at l2;rw[l2]at f;show d7 b.nd f (hH e)
def hX(d:hF L W B)(e:Bf (gW W) L [0] ks ws ks.length 0)(a:FH (gW W) L.length ks R)(m:R.length=ks.length)(hw:ws[i]?<*w)(f:∀c∈v,c∈L)(l:run L R 0 v=i):o4 L v w=false:=by
 let⟨j,b,k,h,n⟩:=e.told d.lt.nd v _ rfl f;rw[Kr 0 _ v rfl]at k;let g:=LS d e a m _ v rfl f;rw[l]at g;have:j=i:=d7 e.nd k g;rw[this,hw]at h;cases h;show n
end
structure i5(L:LN)(W':LL)(v:Nat->LN):Prop where
 over:∀j,j<W'.length->(∀c∈v j,c∈L)/\run L W' 0 (v j)=j
 lt:∀i j,i<j->j<W'.length->o4 L (v i) (v j)=true
 least:∀u:LN,(∀c∈u,c∈L)->o4 L u (v (run L W' 0 u))=false
def wm.firsts(h:wm L W B W' B')(p:hF L W B):∃v,i5 L W' v:=by
 let⟨ks,ws,R,Bm,k,m,q,d,x,bl,E,_,le,a,st,n,rfl,rfl⟩:=h;let f:(vD R (Rd R Bm k) m).length=m:=by rw[vD,ix,length_range]
 let s:ws.length=R.length:=by rw[x,q.len]
 let b:∀{i:Nat},i<R.length->ws[i]?<*ws.getD i []:=λ{i}F=>by
  rw[mu,hH (by rw[s];show F)];rfl
 let l0:jj R Bm k 0=0:=tq a;let C:∀{u:LN},(∀c∈u,c∈L)->run L (vD R (Rd R Bm k) m) 0 u=jj R Bm k (run L R 0 u):=λ{u}l=>by
  have:=Kt n a st a.n1 l;rw[l0]at this;show this
 refine(λj=>ws.getD ((Rd R Bm k).idxOf j) [],(λj g=>?_,λi j w g=>?_,λu l=>?_))
 .rw [f]at g;let⟨I,H⟩:=HL n a g;let⟨A,D⟩:=jY p q d x (b I);refine(A,3);rw[C A,D];show H
 .rw [f]at g;let o:=pL n a w g;show q.srt _ _ _ _ o (b (lt_trans o (HL n a g).1)) (b (HL n a g).1)
 .rw [C l];let r:=ur a a.n1 l;let t:=sX (k:=k) a r;let y:=hX p q d x (b r) l rfl;rcases Nat.lt_or_eq_of_le t with z|z
  .let G:=q.srt _ _ _ _ z (b (lt_trans z r)) (b r);cases e:o4 L u (ws.getD ((Rd R Bm k).idxOf (jj R Bm k (run L R 0 u))) [])with
   |false=>rfl
   |true=>rw[wC e G]at y;cases y
  .change o4 L u (ws.getD ((Rd R Bm k).idxOf (jj R Bm k (run L R 0 u))) [])=false;rw[z];show y
def GH{c:LN}(s:∀(i j a b:Nat),i<j->c[i]?<*a->c[j]?<*b->a<b)(f:∀r∈c,r<m)(d:∀j<m,j∈c):c.length=m/\∀(i r:Nat),c[i]?<*r->r=i:=by
 let ge:∀(i r:Nat),c[i]?<*r->i≤r:=by
  intro i;induction i with
  |zero=>show λr _=>zero_le r
  |succ i g=>
   intro r e;let k:i<c.length:=lt_trans (lt_succ_self i) (j0 e).1;let q:=g _ (hH k);let o:=s i (i+1) _ _ (lt_succ_self i) (hH k) e;lia
 let l:∀(n i r:Nat),i<n->c[i]?<*r->r=i:=by
  intro n;induction n with
  |zero=>show λi r h=>absurd h (not_lt_zero i)
  |succ n g=>
   intro i r k e;let q:=ge i r e;let t:=f r (pa e);let⟨p,hp⟩:=mem_iff_getElem?.mp (d i (!2));let o:=ge p i hp;rcases lt_trichotomy p i with z|z|z
   .have:=g p i (!6) hp;lia
   .rw [z,e]at hp;show Option.some.inj hp
   .lia
 refine(3,λi r e=>l (i+1) i r (lt_succ_self i) e);rcases lt_trichotomy c.length m with z|z|z
 .obtain ⟨p,hp⟩:=mem_iff_getElem?.mp (d c.length z);let q:=(j0 hp).1;have:=l (p+1) p _ (lt_succ_self p) hp;lia
 .exact z
 .let e:=hH z;have:=l (m+1) m _ (lt_succ_self m) e;let o:=f _ (getElem_mem z);lia
def i5.order(f:i5 L W' v)(N:hF L W' B'){d:LN}(s:Bf (gW W') L [0] (d.map λn=>[n]) ws d.length 0)(k:∀r∈d,r<W'.length):d.length=W'.length/\∀(i r:Nat),d[i]?<*r->r=i:=by
 let E:d.Nodup:=jv s.nd;let o:ws.length=d.length:=by have:=s.len;rw[ix]at this;show this.symm
 let h:∀u:LN,(∀c∈u,c∈L)->∃(j:Nat)(b:LN),d[j]?=some (run L W' 0 u)/\ws[j]?=some b/\o4 L u b=false:=λu I=>by
  let⟨j,b,e,y,x⟩:=Bf.told (ts:=d.map λn=>[n]) (by rw[ix];show s) N.lt.nd u _ rfl I;rw[Kr 0 _ u rfl,lv]at e;let⟨r,Q,C⟩:=uJ e;injection C with C;show(j,b,by rw[Q,C],y,x)
 let g:∀(i r:Nat)(w:LN),d[i]?<*r->ws[i]?<*w->w=v r:=λi r w e y=>by
  let⟨l1,l2⟩:=s.lead i [r] w (by rw[lv,e];rfl) y;rw[Kr 0 _ w rfl]at l2;injection l2 with l2;let M:=k r (pa e);let⟨t,A⟩:=f.over r M;let l:=f.least w l1;rw[l2]at l;let⟨j,b,x,H,G⟩:=h (v r) t;rw[A]at x;let m:=d7 E x e;rw[m,y]at H;cases H;rcases K3 l1 t with z|z|z
  .rw [z]at l;cases l
  .exact z
  .rw [z]at G;cases G
 refine GH (λi j a b B q D=>?_) k λj m=>?_
 .let F:i<ws.length:=by rw[o];show(j0 q).1
  let m:j<ws.length:=by rw[o];show(j0 D).1
  let l:=s.srt i j _ _ B (hH F) (hH m);rw[g i a _ q (hH F),g j b _ D (hH m)]at l;rcases lt_trichotomy a b with z|z|z
  .exact z
  .rw [z]at q;have:=d7 E q D;lia
  .let P:=f.lt b a z (k a (pa q));let O:=Kn P;rw[O]at l;cases l
 .obtain ⟨t,A⟩:=f.over j m;let⟨p,b,e,_⟩:=h (v j) t;rw[A]at e;show pa e
def uS(L:LN)(W:LL)(r:Nat)(a b:LN):run L W r (a++b)=run L W (run L W r a) b:=by
 unfold run;rw[List.foldl_append]
section
variable{L:LN}{W1 W2:LL}{B1 B2:List Bool}{v1 v2:Nat->LN}
end
end RA
namespace L2
open PySem.Spec PyProof.Rows
section
variable{X:Cx}{pins:List (Addr×Obj)}{σ:St}{H:Hp}{s:Shared}
end
end L2
namespace RA
open L2
section
variable{X:Cx}{pins:List (Addr×Obj)}{σ:St}{H:Hp}{s:Shared}
end
end RA
namespace L2
open PySem.Spec PyProof.Rows
def i9:∀{xs:List V}{c:List Value},xs.length=c.length->(∀(i:Nat)(x:V)(u:Value),xs[i]?<*x->c[i]?<*u->ad x u)->ae xs c
 |[],[],_,_=>.nil
 |[],_::_,h,_=>by simp at h
 |_::_,[],h,_=>by simp at h
 |x::xs,u::c,h,k=>.cons (k 0 x u rfl rfl) (i9 (by simpa using h) λi y v a b=>k (i+1) y v (by simpa using a) (by simpa using b))
inductive ka(Q:VK)(vs:List V)(H1:Hp):Prop
 |mk (n:Nat) (_:vs=[.int (n:Int)]) (_:n≤2100) (_:∀l,H1 l=none->Q (.ref l) (upd H1 l (.lst (RA.c_ (List.range n)))))
abbrev mf(ta:TA):TE:=λσ H Q=>ta σ H (ka Q)
def dQ{p j pos d:Pos}(S:X.calm=true)(A:Gl X "list")(y:X.mg "list"=none)(z:Gl X "range")(v:X.mg "range"=none)(T:PA X [a] ta)(D:(starEach [.Call (.Name "range" j) [a] [] d] X.env=[(false,eval (.Call (.Name "range" j) [a] [] d) X.env,)])>>>4)(r:(starEach [a] X.env=[(false,eval a X.env,)])>>>4):PE X (.Call (.Name "list" p) [.Call (.Name "range" j) [a] [] d] [] pos) (mf ta):=by
 intro g s E H Q I h;refine wpAny_Call_Name_kw (pj I A y boot_list ?_);refine PyProof.Rows.callWith_type1 (e:=.Call (.Name "range" j) [a] [] d) (rest:=[]) ?_ D rfl;rw[D];change wpAny _ _ (spliced ((false,eval (.Call (.Name "range" j) [a] [] d) X.env,)::backTo pos [])) _ _ s;refine Calls.spliced_cons (wpAny_Call_Name_kw (pj I z v PyProof.Rows.boot_range (PyProof.Rows.callWith_type1 (kl (T d g s E H _ I h) λZ s1 B=>?_) r rfl)));let⟨vs,H1,C,L,n,U,P,q⟩:=B;subst U;let⟨u1,rfl,t,rfl⟩:=GC L;refine call_range_1 ?_;refine Calls.spliced_nil ?_;let hsz:Builtin.Range.rangeSize 0 (n:Int) 1=(n:Int):=by rw[rangeSize_one];split<;>lia
 refine call_list_range (C.ok.hd S) (IsRange.new ..) (small_one (!6) (!6) (!6) (!6)) hsz (!6) λh' F k c M e f=>?_;obtain⟨l,rfl⟩:∃l:List Value,k=l.toArray:=(k.toList,Array.toArray_toList.symm);let N:ae (RA.c_ (List.range n)) l:=by
  refine i9 (by rw[RA.f_,length_range,<-f.1,size_toArray]) λi x u m O=>?_;let R:i<n:=by have:=(j0 m).1;rwa [RA.f_,length_range]at this
  rw[RA.c_,lv,getElem?_range R]at m;cases m;let⟨G,rfl⟩:=f.2 i u (by rw[getElem?_toArray];show O);show(G,!1)
 let Y:=C.laid (t':=F) (h':=h') (λb o W=>M b o (mJ _ W)) (by rw[size_push];show le_succ _) (show uz X.prog X.w _ h' _ (.lst (RA.c_ (List.range n)))from(by rw[RA.f_,length_range];show kA (Nat.le_trans P (!0)),l,c,N,e));show(.ref _,_,Y,1,q _ (C.hok.fresh (by rw[size_push];show le_succ _)))
def lc{xs:List V}(h:t≤xs.length):vo xs (some (t:Int)) none=xs.drop t:=by
 unfold vo;rw[HT.FC,HT.sIx_nat,min_eq_left h,take_of_length_le (by rw[length_drop];show Nat.le_refl _)]
def qN:uq X (binaryOp .BitOr) (λx y H Q=>∃i j,x=.int i/\y=.int j/\Q (.int (Builtin.bitOr i j)) H):=by
 intro a s d H x y v u Q I c b h;let⟨i,j,rfl,rfl,q⟩:=h;let⟨t,rfl⟩:=(show ∃t,v=Value.int i t from c);let⟨e,rfl⟩:=(show ∃t,u=Value.int j t from b);show or_int (.int _,H,I.tok _,(_,rfl),q)
def fe(h:d a H λv b=>GP (IZ λ_ _ R=>R v b) c e a b Q):GP (IZ d) c e a H Q:=h
end L2
namespace RA
section
variable{L:LN}{W:LL}{B:List Bool}{ls:LN}{W2:LL}{B2:List Bool}
end
section
variable{κ:Type}[DecidableEq κ]{g:κ->Nat->κ}{L:LN}{s:κ}{ts ts':List κ}{ws ws':LL}
end
abbrev gA(W:LL)(k:LN)(q:Nat):LN:=k.map λr=>(W.getD r []).getD q 0
abbrev tups(n:Nat):Nat->LL
 |0=>[[]]
 |k+1=>(tups n k).flatMap λt=>(List.range n).map λx=>x::t
def c_X{n:Nat}:∀{k:Nat}{t:LN},t∈tups n k↔t.length=k/\∀x∈t,x<n
 |0,t=>by
  rw[tups,mem_singleton];constructor
  .rintro rfl;show(1,λx d=>by simp at d)
  .exact λh=>length_eq_zero_iff.mp h.1
 |k+1,t=>by
  rw[tups,mem_flatMap];constructor
  .rintro⟨u,e,f⟩;let⟨x,d,rfl⟩:=mem_map.mp f;let⟨b,a⟩:=c_X.mp e;refine(by rw[length_cons,b],λy c=>?_);rcases mem_cons.mp c with z|z
   .rw [z];show mem_range.mp d
   .exact a y z
  .rintro⟨b,a⟩;cases t with
   |nil=>simp at b
   |cons x u=>show(u,c_X.mpr (by simpa using b,λy c=>a y (mem_cons_of_mem _ c)),mem_map.mpr (x,mem_range.mpr (a x mem_cons_self),1))
def ff(n:Nat):∀l:LL,(l.map λ_=>n).sum=l.length*n
 |[]=>by simp
 |x::l=>by rw[map_cons,List.sum_cons,ff n l,length_cons,succ_mul,Nat.add_comm]
def LV(n:Nat):∀k:Nat,(tups n k).length=n^k
 |0=>rfl
 |k+1=>by
  rw[tups,List.length_flatMap];simp only[ix,length_range];rw[ff,LV n k,Nat.pow_succ]
def rd(h:hF L W B)(g:k∈tups W.length n)(b:q<L.length):gA W k q∈tups W.length n:=by
 let⟨j,i⟩:=c_X.mp g;refine c_X.mpr (by rw[gA,ix,j],λx d=>?_);let⟨r,f,rfl⟩:=mem_map.mp d;let a:=i r f;let e:W.getD r []=W[r]:=by rw[mu,hH a];rfl
 rw[e];let⟨c,l⟩:=h.row W[r] (getElem_mem a);let m:W[r].getD q 0=W[r][q]'(by rw[c];show b):=by rw[mu,hH (by rw[c];show b)];rfl
 rw[m];show l _ (getElem_mem _)
section
variable{L:LN}{W ks ws R:LL}{B:List Bool}
end
end RA
namespace RA
open L2
def JX(l:LN):(c_ l).all HZ=true:=by
 rw[c_,List.all_map,all_eq_true];show λ_ _=>rfl
def nZ{a:Type}(l:List a)(x:a):(l++[x])[l.length]?<*x:=by simp
def jn(h:d c<*.lst (a.map V.ref))(l:BF d a W)(m:a.length=W.length)(g:d tp=none):L2.upd (L2.upd d tp (.tup (c_ ws))) c (.lst (a.map V.ref++[.ref tp])) c=some (.lst ((a++[tp]).map V.ref))/\BF (L2.upd (L2.upd d tp (.tup (c_ ws))) c (.lst (a.map V.ref++[.ref tp]))) (a++[tp]) (W++[ws])/\∀b o,d b<*o->b≠c->L2.upd (L2.upd d tp (.tup (c_ ws))) c (.lst (a.map V.ref++[.ref tp])) b<*o:=by
 let f:tp≠c:=(f' h g).symm;let k:∀b o,d b<*o->b≠c->L2.upd (L2.upd d tp (.tup (c_ ws))) c (.lst (a.map V.ref++[.ref tp])) b<*o:=λb o e n=>by
  rw[b_ n,b_ (f' e g)];show e
 refine(by rw[a_,map_append];rfl,λi r e=>?_,k);rcases Hr e with z|⟨rfl,rfl⟩
 .obtain ⟨v,p,j⟩:=l i r z;show(v,Jr p,k r _ j (m3 j h (by intro y;cases y)))
 .refine (ws,by rw[m];show nZ W ws,3);rw[b_ f,a_]
def qR(h:vN L):∃N:Nat,ux [V.int 2,.int 4,.int 8] (((tx L).length:Nat)-1:Int)=some (.int (N:Int))/\1≤N/\N≤8/\∀i,i<N->∀b∈([1,2,4]:LN).take L.length,∃r:Nat,PySem.Builtin.bitOr (i:Int) (b:Int)=(r:Int)/\r<N:=by
 let o:=h.lo;let n:=h.hi;let key:∀k∈([1,2,3]:LN),∃N∈([2,4,8]:LN),([2,4,8]:LN)[k-1]?=some N/\∀i∈List.range N,∀b∈([1,2,4]:LN).take k,∃r∈List.range N,PySem.Builtin.bitOr ((i:Nat):Int) ((b:Nat):Int)=((r:Nat):Int):=by decide +kernel
 let⟨N,d,e,l⟩:=key L.length (by simp;lia);refine(N,9,3,λi j b a=>?_)
 .rw [nb];let c:((L.length:Nat):Int)-1=((L.length-1:Nat):Int):=by lia
  rw[c];let f:ux (c_ [2,4,8]) ((L.length-1:Nat):Int)<*.int (([2,4,8].getD (L.length-1) 0:Nat):Int):=wN (by simp;omega);rw[mu,e]at f;show f
 .simp at d;lia
 .simp at d;lia
 .obtain ⟨r,g,m⟩:=l i (mem_range.mpr j) b a;show(r,m,mem_range.mp g)
end RA
namespace L2
open PySem.Spec PyProof.Rows
section
variable{X:Cx}
instance sK(P:Program)(w:World):PySem.KeyKind P w Str:=PySem.strKind P w
inductive oW(P:Program)(w:World)(x:V)(y:V)(H:Hp)(Q:VK):Prop
 |mk (d k kvs:_) (_:y=.ref d) (_:x=.str k) (_:H d<*uu (sK P w) d kvs) (_:Q (.bl (!(aw kvs k).isSome)) H)
def cr:uq X (compareOp .NotIn) (oW X.prog X.w):=by
 intro b s i H x y v u Q I f c h;let⟨d,k,kvs,rfl,rfl,e,q⟩:=h;cases c;let⟨t,rfl⟩:=(show ∃t,v=Value.str k t from f);let⟨ns,_,vs,a,g⟩:=GE I.hok e;refine wpAny_notIn_of (knd:=sK X.prog X.w) (k:=k) (strKind_is _ _ k t) ns g.mapOf ?_;rw[<-KZ (a.val k)];show(.bl _,H,I.tok _,1,q)
inductive tW(P:Program)(w:World)(x:V)(y:V)(H:Hp)(Q:VK):Prop
 |mk (d k kvs v:_) (_:x=.ref d) (_:y=.str k) (_:H d<*uu (sK P w) d kvs) (_:aw kvs k<*v) (_:Q v H)
def FK:Hz X (tW X.prog X.w):=by
 intro a b g s p H x y v u Q I m j h n;let⟨d,k,kvs,z,rfl,rfl,e,l,q⟩:=h;cases m;let⟨t,rfl⟩:=(show ∃t,u=Value.str k t from j);let⟨ns,_,vs,f,i⟩:=GE I.hok e;refine tail_any (ops:=[.ref d,_]) i.typeIs PySem.F.slot_dict_getitem.lookup ?_ n;let⟨r,hw,c⟩:=al.some_of (v:=z) (o:=valueAt vs k) (by rw[<-l];show f.val k);show wpAny_getItem_of (knd:=sK X.prog X.w) (k:=k) (strKind_is _ _ k t) i.mapOf hw (z,H,I.tok _,c,q)
inductive sj(P:Program)(w:World)(o:V)(i:V)(v:V)(H:Hp)(Q:Hp->Prop):Prop
 |mk (d k kvs:_) (_:o=.ref d) (_:i=.str k) (_:H d<*uu (sK P w) d kvs) (_:aw kvs k=none) (_:kvs.length<sizeLine) (_:Q (upd H d (uu (sK P w) d (kvs++[(k,v,)]))))
def G5:pW X (sj X.prog X.w):=by
 intro c s y H o i v z m u Q I g j f h;let⟨d,k,kvs,rfl,rfl,e,p,r,q⟩:=h;cases g;let⟨t,rfl⟩:=(show ∃t,m=Value.str k t from j);let⟨ns,hz,vs,a,x⟩:=GE I.hok e;refine wpAny_setItem_pairs (knd:=sK X.prog X.w) (k:=k) (hsz:=by rw[<-a.length];show hz) (strKind_is _ _ k t) x λh' b n=>(_,3,q);let l:=al.none_of (show al none (valueAt vs k) by rw[<-p];show a.val k);rw[JU l]at b;show Jp I (by rw[e];show True.intro) n (let⟨o,_,_,q,_⟩:=b;(o,q)) (va ns (by rw[j_];show r) (JT a f) b)
def jt(h:Heap)(a:sysModules<h.objs.size):uz P w H (h.push {cls:=.type "dict",data:=.dict #[]}) h.objs.size (uu (sK P w) h.objs.size []):=
 va (knd:=sK P w) (beq_eq_false_iff_ne.mpr (Ne.symm (ne_of_lt a))) (zero_le _) .nil (Heap.DictOf.new h)
abbrev rJ(P:Program)(w:World)(tk tv:TE):TE:=λσ H Q=>∀p,H p=none->tk σ (upd H p (uu (sK P w) p [])) λx H1=>tv σ H1 λy H2=>H2 p=some (uu (sK P w) p [])/\∃k,x=.str k/\Q (.ref p) (upd H2 p (uu (sK P w) p [(k,y,)]))
def o7(E:PE X k i)(B:PE X v tv):PE X (.Dict [some k] [v] pos) (rJ X.prog X.w i tv):=by
 intro b s f H Q I h;let D:=I.hok.fresh (Nat.le_refl s⁻¹);let M:=I.laid (a:=s⁻¹) (o:=uu (sK X.prog X.w) s⁻¹ []) (t':=s.toks) (λ_ _ q=>mJ {cls:=.type "dict",data:=.dict #[]} q) (Nat.le_refl _) (jt s.heap I.bigS);let e:=zip_pairTrees [some k] [v] X.env pos rfl rfl;rw[arm_eval_Dict,e,dictDisplay_pairs (pairTrees [some k] [v] X.env pos) (!5) (by change 1<17;decide)];refine g_ (wpAny_standAt (g_ ?_));unfold subDict;refine g_ (wpAny_alloc (g_ (wpAny_holding ?_)));rw[if_pos (show(pairTrees [some k] [v] X.env pos).length≤15 by change 1≤15;decide)];refine g_ (pairTrees_cons_walk (kl (E b _ f _ _ M (h _ D)) λu j⟨x,N,L,m,A⟩=>kl (B b j f N _ L A) λr s2⟨y,O,g,l,hp,k,F,p⟩=>pairTrees_nil_walk (wpAny_holding (g_ ?_))));rw[forIn_cons];subst F;let⟨t,rfl⟩:=(show ∃t,u=Value.str k t from m);let⟨ns,hz,vs,c,G⟩:=GE (knd:=sK X.prog X.w) (kvs:=[]) g.hok hp;refine g_ (g_ (wpAny_dictSet_pairs (knd:=sK X.prog X.w) (k:=k) (hsz:=by rw[<-c.length];show hz) (strKind_is _ _ k t) G λh' d C=>j3 ?_));dsimp only;rw[forIn_nil];refine j3 (j3 (j3 (j3 (.ref s⁻¹,_,3,1,p))));let n:=al.none_of (show al none (valueAt vs k)from c.val k);rw[JU n]at d;show Jp g (by rw[hp];show True.intro) C (let⟨o,_,_,q,_⟩:=d;(o,q)) (va ns (kA (by change 1≤16777216;decide)) (JT (kvs:=[]) c l) d)
end
end L2
namespace RA
open L2
abbrev FL:LL->Nat->List (Str×V)
 |[],_=>[]
 |k::r,n=>(tx k,.int (n:Int),)::FL r (n+1)
def jC:∀(ts:LL)(n:Nat),(FL ts n).length=ts.length
 |[],_=>rfl
 |k::r,n=>by rw[FL,length_cons,length_cons,jC r]
def gg(k:LN):∀(ts:LL)(n:Nat),FL (ts++[k]) n=FL ts n++[(tx k,.int ((n+ts.length:Nat):Int),)]
 |[],n=>rfl
 |t::r,n=>by
  rw[cons_append,FL,gg k r (n+1),FL,cons_append,length_cons,show n+1+r.length=n+(r.length+1) by lia]
def aW{m:LN}:∀{ts:LL}{n:Nat},aw (FL ts n) (tx m)=(BG ts m).map λ(i:Nat)=>V.int ((n+i:Nat):Int)
 |[],_=>rfl
 |t::r,n=>by
  by_cases e:t=m
  .subst e;rw[FL,LA (k:=tx t) rfl,BG,if_pos (!1),List.idxOf_cons_self];rfl
  .rw [FL,KQ (λz=>e (vM z)),aW (n:=n+1),bz e];cases BG r m with
   |none=>rfl
   |some i=>
    change some (V.int ((n+1+i:Nat):Int))<*V.int ((n+(i+1):Nat):Int);rw[show n+1+i=n+(i+1) by lia]
end RA
namespace RA
open PySem.StrLaws Builtin Builtin.Str L2
def ic(x:Str):Txt.slice x (some (-((s+1:Nat):Int))) none=tx (x.cps.toList.drop (x.cps.toList.length-(s+1))):=by
 let c:x.length=x.cps.toList.length:=by simp[Str.length]
 let d:Txt.slice x (some (-((s+1:Nat):Int))) none=Txt.slice x (some ((x.cps.toList.length-(s+1):Nat):Int)) none:=by
  let e:strSliceIndices (some (-((s+1:Nat):Int))) none 1 x.length=strSliceIndices (some ((x.cps.toList.length-(s+1):Nat):Int)) none 1 x.length:=by
   let a:(-((s+1:Nat):Int))<0:=by lia
   let b:¬ (((x.cps.toList.length-(s+1):Nat):Int)<0):=by lia
   rw[c];let m:max 0 (min (-((s+1:Nat):Int)+((x.cps.toList.length:Nat):Int)) ((x.cps.toList.length:Nat):Int))=max 0 (min ((x.cps.toList.length-(s+1):Nat):Int) ((x.cps.toList.length:Nat):Int)):=by lia
   unfold strSliceIndices;simp only[a,b,if_true,if_false];rw[if_pos (show(1:Int)>0 by decide),m];rfl
  unfold Txt.slice;rw[e]
 rw[d,KO x (!6) (!6),toNat_natCast]
def fR{d:Type}[DecidableEq d]:∀{a b:List d},a.Nodup->(∀c∈a,c∈b)->a.length≤b.length
 |[],_,_,_=>zero_le _
 |x::a,b,h,k=>by
  rw[nodup_cons]at h;let e:x∈b:=k x mem_cons_self;have:=fR (a:=a) (b:=b.erase x) h.2 λc f=>(List.mem_erase_of_ne (λz:c=x=>h.1 (by rw[<-z];show f))).mpr (k c (mem_cons_of_mem _ f));rw[List.length_erase_of_mem e]at this;have:=List.length_pos_of_mem e;rw[length_cons];lia
abbrev vQ(L:LN):Nat->LL
 |0=>[[]]
 |s+1=>[]::L.flatMap λc=>(vQ L s).map (c::·)
def Nu{L:LN}:∀{s:Nat}{w:LN},w.length≤s->(∀c∈w,c∈L)->w∈vQ L s
 |0,[],_,_=>by simp[vQ]
 |s+1,[],_,_=>by simp[vQ]
 |s+1,c::w,h,hw=>by
  refine mem_cons_of_mem _ (mem_flatMap.mpr (c,hw c (!1),mem_map.mpr (w,Nu (by simpa using h) (λd a=>hw d (by simp[a])),1)))
def JY(L:LN)(s:Nat):(vQ L (s+1)).length=1+L.length*(vQ L s).length:=by
 let h:∀(l:LL)(L:LN),(L.flatMap λc=>l.map (c::·)).length=L.length*l.length:=λl L=>by
  induction L with
  |nil=>simp
  |cons c r a=>rw[List.flatMap_cons,j_,a,ix,length_cons,succ_mul,Nat.add_comm]
 rw[vQ,length_cons,h,Nat.add_comm]
def jX(k:1≤L.length)(j:L.length≤3)(i:(L.length=1/\s≤6)\/(L.length=2/\s≤2)\/(L.length=3/\s≤1)):(vQ L s).length≤7:=by
 let z:(vQ L 0).length=1:=rfl;let a:(vQ L 1).length=1+L.length*(vQ L 0).length:=JY L 0;let b:(vQ L 2).length=1+L.length*(vQ L 1).length:=JY L 1;let f:(vQ L 3).length=1+L.length*(vQ L 2).length:=JY L 2;let d:(vQ L 4).length=1+L.length*(vQ L 3).length:=JY L 3;let c:(vQ L 5).length=1+L.length*(vQ L 4).length:=JY L 4;let g:(vQ L 6).length=1+L.length*(vQ L 5).length:=JY L 5;rcases i with⟨e,h⟩|⟨e,h⟩|⟨e,h⟩
 .rw [e,z]at a;rw[e,a]at b;rw[e,b]at f;rw[e,f]at d;rw[e,d]at c;rw[e,c]at g;have:s=0\/s=1\/s=2\/s=3\/s=4\/s=5\/s=6:=by clear a b f d c g z;lia
  rcases this with rfl|rfl|rfl|rfl|rfl|rfl|rfl
  .rw [z];decide
  .rw [a];decide
  .rw [b];decide
  .rw [f];decide
  .rw [d];decide
  .rw [c];decide
  .rw [g];decide
 .rw [e,z]at a;rw[e,a]at b;have:s=0\/s=1\/s=2:=by clear a b f d c g z;lia
  rcases this with rfl|rfl|rfl
  .rw [z];decide
  .rw [a];decide
  .rw [b];decide
 .rw [e,z]at a;have:s=0\/s=1:=by clear a b f d c g z;lia
  rcases this with rfl|rfl
  .rw [z];decide
  .rw [a];decide
end RA
namespace L2
open PySem.Spec PyProof.Rows
def HM(h:xs.length=ys.length):((List.range xs.length).all λj=>HA ((RA.c_ xs).getD j .non) ((RA.c_ ys).getD j .non))=decide (xs=ys):=by
 rw[Bool.eq_iff_iff,all_eq_true,decide_eq_true_eq];let a:∀{l:LN}{j:Nat}(b:j<l.length),(RA.c_ l).getD j .non=.int ((l[j]:Nat):Int):=λ{l j}b=>by
  rw[mu,RA.c_,lv,hH b];rfl
 constructor
 .intro z;refine List.ext_getElem h λj c d=>?_;let e:=z j (mem_range.mpr c);rw[a c,a d]at e;show Int.ofNat.inj (eq_of_beq e)
 .rintro rfl j b;rw[a (mem_range.mp b)];show beq_self_eq_true _
def IC{t:St}(I:hA X r t H s)(hp:nj X.K H p (RA.c_ xs))(B:nj X.K H q (RA.c_ ys))(C:xs.length=ys.length)(y:A.units<cLine):SeqAt.RcAt A s (.ref p) (.ref q) (decide (xs=ys)):=by
 let⟨d,o,k,x⟩:=I.tuple hp;let⟨c,n,h,w⟩:=I.tuple B;let l1:(RA.c_ xs).length=d.length:=o.length;let l2:(RA.c_ ys).length=c.length:=n.length;rw[RA.f_]at l1 l2;let z:=SeqAt.RcAt.tuples (A:=A) (e:=λj=>HA ((RA.c_ xs).getD j .non) ((RA.c_ ys).getD j .non)) k h y λj E D=>by
  let g:j<(RA.c_ xs).length:=by rw[RA.f_,l1];simpa using E
  let f:j<(RA.c_ ys).length:=by rw[RA.f_,l2];simpa using D
  let⟨a,G,v⟩:=o.get (i:=j) (hH g);let⟨b,F,u⟩:=n.get (i:=j) (hH f);let e:=HB (A:=A.in1) (s:=s) v u (all_eq_true.mp (RA.JX xs) _ (getElem_mem g)) (all_eq_true.mp (RA.JX ys) _ (getElem_mem f));let⟨_,m⟩:=j0 G;let⟨_,l⟩:=j0 F;simp only[List.getElem_toArray,m,l,mu,hH g,hH f,Option.getD_some];show e
 let m:min d.toArray.size c.toArray.size=xs.length:=by simp;lia
 let l:(d.toArray.size==c.toArray.size)=true:=by simp;lia
 rw[m,l,HM C,Bool.and_true]at z;show z
def LW(h:RA.c_ a=RA.c_ b):a=b:=List.map_inj_right (λ_ _ z=>Int.ofNat.inj (V.int.inj z)) |>.mp h
inductive o0(K:Frag)(x:V)(vs:List V)(H:Hp)(Q:VK):Prop
 |mk (l b:Addr) (xs:List V) (ks:LL) (k:LN) (_:x=.ref l) (_:vs=[.ref b]) (_:H l<*.lst xs) (_:RA.wF .t H ks xs) (_:(∀k'∈ks,k'.length=k.length)) (_:H b<*.tup (RA.c_ k)) (_:k∈ks) (_:Q (.int (ks.idxOf k:Nat)) H)
def kG(hu:X.A.units+64<cLine):Ka X "list.index" (o0 X.K):=by
 intro S s σ H x vs v us Q I Y Z h;let⟨l,b,xs,ks,k,rfl,rfl,W,D,R,U,hm,q⟩:=h;cases Y;let⟨u,rfl,ru⟩:=Z.one;cases ru;let⟨z,f,n,r,hl,e⟩:=I.lstM W;let o:xs.length=ks.length:=D.1;let d:f.length=ks.length:=by rw[<-r.length,o]
 let G:ks.idxOf k<ks.length:=idxOf_lt_length_of_mem hm;let B:∀(j:Nat)(M:j<f.toArray.size),∃(g:j<ks.length)(a:Addr),f.toArray[j]=.ref a/\H a<*.tup (RA.c_ ks[j]):=λj M=>by
  let g:j<ks.length:=by simpa[d]using M
  let T:j<xs.length:=by rw[o];show g
  let N:=D.2 j _ _ (hH g) (hH T);unfold RA.uv at N;rw[if_neg (!0)]at N;let⟨a,t,c⟩:=N;let c:H a<*.tup (RA.c_ ks[j]):=c;let⟨w,ew,C⟩:=r.get (i:=j) (hH T);rw[t]at C;cases C;let⟨_,q⟩:=j0 ew;show(g,a,by simpa using q,c)
 let O:((ks.idxOf k:Nat):Int)<2^63-1:=by
  let h9:xs.length≤sizeLine:=(I.lst W).choose_spec.choose_spec.2.2;rw[o,sizeLine_eq]at h9;lia
 refine call_meets slot_list_index (_,e,1) PySem.F.entry_list_index (PySem.F.args_list_index_2 _ _) (SeqAt.list_indexAt l f.toArray n none #[] (.ref b) (λy=>match y with|.ref a=>(match H a with|some (.tup zs)=>decide (zs=RA.c_ k)|_=>false)|_=>false) (ks.idxOf k) (by simpa[d]using G) O ?_ ?_) (e,3,(.int _,H,I.tok _,(_,rfl),q))
 .obtain ⟨g,a,t,c⟩:=B (ks.idxOf k) (by simpa[d]using G);rw[t];dsimp only;rw[c];dsimp only;rw[getElem_idxOf g];show decide_eq_true rfl
 .intro m P E;let⟨g,a,t,c⟩:=B m P;rw[t];dsimp only;rw[c];dsimp only;refine decide_eq_false λz=>?_;let y:=List.not_of_lt_findIdx (xs:=ks) (p:=(·==k)) E;rw[LW z]at y;simp at y
 .intro y hy;let⟨j,M,rfl⟩:=Array.mem_iff_getElem.mp hy;let⟨g,a,t,c⟩:=B j M;rw[t];dsimp only;rw[c];dsimp only;let ed:decide (RA.c_ ks[j]=RA.c_ k)=decide (ks[j]=k):=decide_eq_decide.mpr (LW,λz=>by rw[z]);rw[ed];by_cases L:a=b
  .subst L;rw[U]at c;rw[decide_eq_true (LW (HO.tup.inj (Option.some.inj c)).symm)];show SeqAt.EqAt.same _
  .exact SeqAt.EqAt.of_refs L (IC I (nj.of c) (nj.of U) (R _ (getElem_mem g)) (by change X.A.units+1<cLine;lia))
inductive rCatV(x:V)(y:V)(H:Hp)(Q:VK):Prop
 |mk (a b xs ys:_) (_:x=.ref a) (_:y=.ref b) (_:H a<*.tup xs) (_:H b<*.tup ys) (_:xs.length+ys.length≤sizeLine) (_:∀p H',b' H H'->H' p<*.tup (xs++ys)->Q (.ref p) H')
def dY:uq X (binaryOp .Add) rCatV:=by
 intro c s G H x y v u Q I t r h;let⟨a,b,xs,ys,rfl,rfl,m,l,hz,q⟩:=h;by_cases w:xs=[]
 .subst w;cases t;cases r;let⟨k,M,O,_⟩:=I.tuple (nj.of m);let⟨d,S,N,_⟩:=I.tuple (nj.of l);let⟨⟨cls,R,D,L⟩,A,C,n,B⟩:=id O;let⟨⟨E,o,data2,j⟩,f,i,P,g⟩:=id N;simp only at C B i g;subst C B i g;show concat_meets (_,A,1) (_,f,1) noFill_tuple_add seq_tuple_add PySem.F.slot_tuple_add PySem.F.entry_tuple_add (PySem.F.args_tuple_add_2 _ _)
   (tuple_addW0 a b k.toArray d.toArray n P R o L j (by simpa using M.nil_iff.mpr rfl)) (A,f,(.ref b,H,I,1,q b H (λ_ _ e=>e) l))
 .refine pk c s G H _ _ v u Q I t r (a,b,xs,ys,6,nj.of m,nj.of l,w,hz,λz=>?_,λz p hp=>?_)
  .subst z;show q a H (λ_ _ e=>e) (by rw[append_nil];show m)
  .exact q p _ (b'.upd hp) a_
end L2
namespace RA
def sIx_nat(n d k:Nat):HT.sIx n d (some (k:Int))=min k n:=by
 unfold HT.sIx;dsimp only;rw[if_neg (!6),toNat_natCast]
open PySem L2
abbrev GU(ts:LL)(s:Nat):LL:=ts.flatMap λt=>(List.range s).map λm=>t++[m]
structure ID(ts:LL)(S:LN):Prop where
 mem:∀t,t∈ts↔t.length=S.length/\∀k,k<S.length->t.getD k 0<S.getD k 0
def ID.nil:ID [[]] []:=⟨λt=>by
 rw[mem_singleton];show(λe=>by rw[e];show(1,λk a=>absurd a (not_lt_zero _)),λh=>length_eq_zero_iff.mp h.1)⟩
def kK:t∈GU ts s↔∃a∈ts,∃m,m<s/\t=a++[m]:=by
 unfold GU;rw[mem_flatMap];constructor
 .rintro⟨a,h0,h⟩;let⟨m,b,rfl⟩:=mem_map.mp h;show(a,h0,m,mem_range.mp b,1)
 .rintro⟨a,h0,m,b,rfl⟩;show(a,h0,mem_map.mpr (m,mem_range.mpr b,1))
def IE{a b:LN}(h:k<a.length):(a++b).getD k 0=a.getD k 0:=by
 rw[mu,mu,getElem?_append_left h]
def IF:(a++m::b).getD a.length 0=m:=by
 rw[mu,getElem?_append_right (Nat.le_refl _),sub_self];rfl
def ID.next(h:ID ts S)(s:Nat):ID (GU ts s) (S++[s]):=⟨λt=>by
 rw[kK,j_];constructor
 .rintro⟨f,h0,m,g,rfl⟩;let⟨e,c⟩:=(h.mem f).mp h0;refine(by rw[j_,e];rfl,λk b=>?_);by_cases z:k<S.length
  .rw [IE (by rw[e];show z),IE z];show c k z
  .have:k=S.length:=by simp at b;lia
   subst this;rw[IF,show S.length=f.length from e.symm,IF];show g
 .rintro⟨e,c⟩;let a:t≠[]:=λz=>by rw[z]at e;simp at e
  let d:t=t.dropLast++[t.getLast a]:=(dropLast_concat_getLast a).symm;let dl:t.dropLast.length=S.length:=by rw[List.length_dropLast,e];simp
  refine(t.dropLast,(h.mem _).mpr (dl,λk b=>?_),t.getLast a,3,d)
  .have:=c k (by simp;lia);rw[d,IE (by rw[dl];show b),IE b]at this;show this
  .have:=c S.length (!1);rw[d,IF,<-dl,IF]at this;show this⟩
def LX(ts:LL)(s:Nat):(GU ts s).length=ts.length*s:=by
 unfold GU;induction ts with
 |nil=>simp
 |cons t r a=>rw[List.flatMap_cons,j_,a,ix,length_range,length_cons,succ_mul,Nat.add_comm]
def ID.put(h:ID ts S)(i:t∈ts)(o:k<S.length)(l:m<S.getD k 0):t.take k++[m]++t.drop (k+1)∈ts:=by
 let⟨e,f⟩:=(h.mem t).mp i;let c:(t.take k).length=k:=by rw[length_take];lia
 refine(h.mem _).mpr (3,λj d=>?_)
 .rw [j_,j_,c,length_drop,e];simp;lia
 .by_cases g:j<k
  .rw [append_assoc,IE (by rw[c];show g)];have:(t.take k).getD j 0=t.getD j 0:=by rw[mu,mu,List.getElem?_take_of_lt g]
   rw[this];show f j d
  .by_cases n:j=k
   .subst n;have:=IF (a:=t.take j) (b:=t.drop (j+1)) (m:=m);rw[c]at this;rw[append_assoc];show(t.take j++m::t.drop (j+1)).getD j 0<_;rw[this];show l
   .let l1:(t.take k++[m]).length=k+1:=by rw[j_,c];rfl
    have:(t.take k++[m]++t.drop (k+1)).getD j 0=t.getD j 0:=by
     rw[mu,mu,getElem?_append_right (by rw[l1];lia),l1,getElem?_drop,show k+1+(j-(k+1))=j by lia]
    rw[this];show f j d
end RA
namespace L2
open PySem.Spec PyProof.Rows
section
variable{X:Cx}{elt iter:Expr}{x y:Str}{px py pt pos:Pos}{kt:Nat}{sc:Scope}{wi:TI}{te:TE}{tt:TT}{ifs:List Expr}
abbrev JZ(K:Frag)(wi:TI)(tt:TT)(te:TE):TE:=λσ H Q=>wi σ H λJ H1=>∀D,H1 D=none->∃W:Nat->Nat->List V->Hp->Prop,
 (∃m,W 0 m [] (upd H1 D (.lst [])))/\∀i m ys H2,W i m ys H2->H2 D=some (.lst ys)/\((J.stop i H2/\Q (.ref D) H2)\/(J.go i H2/\ys.length<sizeLine/\∀x H3,J.yld i H2 x H3->
  ∃p a b,x=.ref p/\nj K H3 p [a,b]/\tt (some a::some b::σ) H3 λbo H4=>if bo=true then te (some a::some b::σ) H4 λy H5=>H5 D=some (.lst ys)/\∃m',m'<m/\W (i+1) m' (ys++[y]) (upd H5 D (.lst (ys++[y])))else ∃m',m'<m/\W (i+1) m' ys H4))
def iG{st:Shared}(Z:Nat->Shared->Prop)(O:∀k t,Z k t->wpAny (model pg d) B (pyNext q) (λr p=>match r with
   |none=>Rf (.ok .next) p
   | some u=>wpAny (model pg d) B (letOwnedTupleGo n q u) (λ_ C=>wpAny (model pg d) B (assign n g u) (λ_ A=>
     wpAny (model pg d) B (forIn ifs true λc r=>if r=true then do let ok <-isTrue c g (eval c g);pure (ForInStep.yield ok)else pure (ForInStep.yield r)) (λi o=>
      if i=true then wpAny (model pg d) B (eval elt g) (λz w=>wpAny (model pg d) B (call (.builtin "list.append") [D,z]) (λ_ v=>∃j,j<k/\Z j v) (notedBy (model pg d) B g λe s'=>Rf (.error e) s') w) (notedBy (model pg d) B g λe s'=>Rf (.error e) s') o
      else ∃j,j<k/\Z j o) (notedBy (model pg d) B g λe s'=>Rf (.error e) s') A) (notedBy (model pg d) B g λe s'=>Rf (.error e) s') C) (notedBy (model pg d) B g λe s'=>Rf (.error e) s') p) (notedBy (model pg d) B g λe s'=>Rf (.error e) s') t)(k:Nat)(hz:Z k st):codeAny (model pg d) B (.compLoop (.ListComp elt [(n,iter,ifs,(0))] sc pos) 0 q D g) Rf st:=by
 let b:∀{s:Type}{x:Sem s}{F E:s->Shared->Prop}{N:Value->Shared->Prop}{t:Shared},wpAny (model pg d) B x F N t->(∀a t',F a t'->E a t')->wpAny (model pg d) B x E N t:=λh f=>wpAny_mono h f λ_ _ z=>z;refine codeAny_loop rfl Z (λk t G=>?_) k hz;change wpAny _ B ((compTurn (.ListComp elt [(n,iter,ifs,(0))] sc pos) 0 q D g).onRaise λx=>do noteFrame x g;theTreesLotGoes x) _ _ t;refine wpAny_noted ?_;rw[compTurn_list];refine g_ (wpAny_standAt (g_ (b (O k t G) λr p m=>?_)));match r,m with
 |none,m=>show j3 m
 |some u,m=>
  refine g_ (b m λ_ C M=>g_ (b M λ_ A L=>g_ (b L λi o l=>?_)));match i,l with
  |false,l=>show j3 (1,l)
  |true,l=>show g_ (g_ (b l λz w I=>g_ (b I λ_ v H=>j3 (j3 (1,H)))))
end
section
variable{X:Cx}{elt iter tg:Expr}{x y:Str}{px py pt pos:Pos}{kt:Nat}{sc:Scope}{wi:TI}{te:TE}{tt:TT}{ifs:List Expr}
instance oM(sc:Scope)(fnx:Str->Bool):Prop:=∀{M:Model}{A:Around}{E:Value->Shared->Prop}{s:Shared}{g:Addr}{cl:List (Str×Addr)}{qual:Str}{func:Option Addr}{code:Value}{outer:Env}{bl:Addr}{Q:Env->Shared->Prop},
  (∀h' cl',h'.Ns s⁻¹ (λ_=>none)->(∀b o,s.heap.get? b<*o->h'.get? b<*o)->(∀y c,List.lookup y cl'<*c->fnx y=false/\cl.lookup y<*c\/fnx y=true/\s⁻¹<c/\∃v o,h'.get? c=some o/\o.data=.cell v)->(∀y c,fnx y=false->cl.lookup y<*c->List.lookup y cl'<*c)->(∀y,fnx y=true->∃c,List.lookup y cl'<*c)->
   Q (newEnv sc s⁻¹ g cl' qual func code (some outer) bl) {s with heap:=h'})->wpAny M A (newFunctionEnv sc g cl [] qual func code (some outer) bl) Q E s
def sy{fnx:Str->Bool}{ns:List Str}{gx:V->Hp->List V->Prop}(L:List Str)(hc:X.calm=true)(cn:(ns++L).Nodup)(hi:PI X tg iter wi)(a:∀(cl:List (Str×Addr))(C:Addr)(G:List Addr)(s:Shared)(H:Hp),Iu {j4 X x sc cl C G s H with N:=ns++L,fn:=fnx} ifs tt/\PE {j4 X x sc cl C G s H with N:=ns++L,fn:=fnx} elt te)(cb:∀(cl:List (Str×Addr))(C:Addr)(G:List Addr)(s0:Shared)(H0:Hp)(B:List (Addr×Obj))(s:Shared)(M:St)(os:List (Option V))(H:Hp)(y:V)(u:Value)(vs:List V),os.length=ns.length->gx y H vs->hA {j4 X x sc cl C G s0 H0 with N:=ns++L,fn:=fnx} B (os++M) H s->ad y u->wpAny (model X.prog X.w) X.A (assign tg (compEnvC sc cl C X.env) u) (λ_ s'=>hA {j4 X x sc cl C G s0 H0 with N:=ns++L,fn:=fnx} B (vs.map some++M) H s') (λ_ _=>False) s)(ap:sc.kind=.function)(az:∀y∈sc.names,y.2=.local->sc.names.lookup y.1<*.local)(be:oM sc fnx)(as:∀y∈sc.names,y.2=.cell->fnx y.1=true)(a1:∀y,fnx y=true->y=x/\y∈ns/\sc.names.lookup y<*.cell)(a2:(sc.names.all λy=>y.2 != .free||X.env.scope.names.lookup y.1==some .cell||X.env.scope.names.lookup y.1==some .free)=true)(cd:(L.all λy=>sc.names.lookup y != some .local)=true)(ce:L.length=X.N.length)(b6:((L.zip X.N).all λy=>y.1==y.2||sc.names.lookup y.1==none)=true)(hs:∀x,foldedSetIterable iter X.env x=pure x){M:St}{Q:VK}(I:hA X B M H s)(h:wi M H R)(hR:∀J H1,R J H1->∀D,H1 D=none->∃W:Nat->Nat->List V->Hp->Prop,(∃m,W 0 m [] (upd H1 D (.lst [])))/\∀i m ys E,W i m ys E->E D=some (.lst ys)/\((J.stop i E/\Q (.ref D) E)\/(J.go i E/\ys.length<sizeLine/\∀x H3,J.yld i E x H3->
   ∃vs,vs.length=ns.length/\gx x H3 vs/\tt (vs.map some++M) H3 λbo H4=>if bo=true then te (vs.map some++M) H4 λy H5=>H5 D=some (.lst ys)/\∃m',m'<m/\W (i+1) m' (ys++[y]) (upd H5 D (.lst (ys++[y])))else ∃m',m'<m/\W (i+1) m' ys H4)))(cs:∀{s2 s4:Shared}{E H3:Hp}{G:List Addr}{cl:List (Str×Addr)}{D C:Addr}{os:List (Option V)},hA X B M E s2->(∀b∈G,aJ X B E b)->(∀b o,s2.heap.get? b<*o->b≠C)->s2⁻¹≤C->hA {j4 X x sc cl C G s2 E with N:=ns++L,fn:=fnx} [] (os++M) H3 s4->Q (.ref D) H3->compPost (model X.prog X.w) X.A X.xe use QQ (.ref D) C (.ok .next) s4):wpAny (model X.prog X.w) X.A (comprehension (.ListComp elt [(tg,iter,ifs,(0))] sc pos) sc X.env p (newList []) false (eval iter X.env) use) QQ X.xe s:=by
 let bl:∀y∈sc.names,y.2=.free->(X.env.kindOf y.1<*.cell\/X.env.kindOf y.1<*.free):=λy Z e=>by
  let q:=all_eq_true.mp a2 y Z;rw[e]at q;simpa[Env.kindOf]using q
 let bf:∀y∈L,sc.names.lookup y≠some .local:=λy Z e=>by
  let q:=all_eq_true.mp cd y Z;rw[e]at q;simp at q
 let⟨cl,a3,k,aU⟩:=Ly (env:=X.env) (sc:=sc) λy Z e=>I.ok.has y.1 (bl y Z e);refine wpAny_comprehension_free rfl hs a3 ap az (kl (hi B s M H _ I h) λv s1 h1=>kl h1 λcz s2 h2=>?_);let⟨it,G,tn,J,E,e,g,T,aZ,f2,hW⟩:=h2;subst e

 refine wpAny_newObj_type ?_;refine be λP ac F j lk bb b5=>?_;dsimp only at F j lk⊢;generalize a4:s2.heap.push {cls:=.type "list",dict:=none,data:=.seq ([]:List Value).toArray}=Ha at F j lk⊢;let hC:Ha.objs.size=s2⁻¹+1:=by rw[<-a4,size_push]
 let t:s2⁻¹≤Ha.objs.size:=by rw[hC];show le_succ _
 let b4:∀b o,s2.heap.get? b<*o->b≠Ha.objs.size:=λb o e=>ne_of_lt (lt_of_lt_of_le (lt_size e) t);let Y:∀b o,s2.heap.get? b<*o->P.get? b<*o:=λb o e=>j b o (a4▸mJ _ e);let bm:P.get? s2⁻¹<*{cls:=.type "list",dict:=none,data:=.seq ([]:List Value).toArray}:=j _ _ (a4▸get?_push_size _ rfl);let a7:∀{y:Str}{c:Addr},cl.lookup y<*c->c<s2⁻¹:=λ{y c}e=>by
  let⟨v,o,ho,_⟩:=g.cell y c (k y c e);show lt_size ho
 let a6:∀{y:Str},sc.names.lookup y<*.free\/y∈L->fnx y=false:=λ{y}Z=>by
  cases q:fnx y with
  |false=>rfl
  |true=>
   let⟨_,z,w⟩:=a1 y q;rcases Z with e|e
   .rw [e]at w;cases w
   .exact absurd e ((nodup_append.mp cn).2.2 y z y · rfl)
 generalize ab:s2⁻¹=D at *;generalize cI:Ha.objs.size=C at *;let bt:E D=none:=g.hok.fresh (le_of_eq ab);let co:E C=none:=g.hok.fresh (!6);let⟨W,⟨m0,w0⟩,a8⟩:=hR _ _ hW D bt;let U:∀b∈G,b<D:=λb a=>by
  let⟨o,e,_⟩:=T.obj _ _ aZ b a;rw[<-ab];show lt_size e
 let b1:∀{b},b∈G->∀{y c},List.lookup y ac<*c->c≠b:=λ{b}a{y c}e=>by
  rcases lk y c e with⟨_,w⟩|⟨_,w,_⟩
  .exact (f2 b a).2.2.2.2.1 y c (k y c w)
  .exact ne_of_gt (lt_trans (U b a) (lt_of_le_of_lt t w))
 let aV:∀{y},sc.names.lookup y<*.free->∃c,List.lookup y ac<*c:=λ{y}e=>by
  let⟨c,aF⟩:=aU _ (PySem.mem_of_lookup e) rfl;show(c,bb y c (a6 (.inl e)) aF)
 letI X':Cx:={j4 X x sc ac C G s2 E with N:=ns++L,fn:=fnx}
 let aM:∀b∈G,b∉vf X.stack:=λb a z=>by
  rcases mem_cons.mp (g.stkSub b z)with e|e
  .exact (f2 b a).2.1 e
  .exact (f2 b a).2.2.1 e
 let b3:X'.Ok:=by
  refine(g.ok.mod,ap,g.ok.glob,g.ok.blt,3,λy z c e1 e2=>?_,λy Z=>?_,λy c e e2=>?_,g.ok.hd,g.ok.frames,.inl rfl,λb a=>(3,λy c e=>?_),g.bs,
   Nat.le_trans g.ok.bsz g.sz,λb o e a=>?_,aM,g.stack,g.stkFree)
  .change s2⁻¹≤C;lia
  .rcases lk y c e1 with⟨_,w1⟩|⟨z1,w1,_⟩<;>rcases lk z c e2 with⟨_,w2⟩|⟨z2,w2,_⟩
   .exact g.ok.inj y z c (k y c w1) (k z c w2)
   .exact absurd (lt_of_le_of_lt t w2) (Nat.lt_asymm (a7 w1))
   .exact absurd (lt_of_le_of_lt t w1) (Nat.lt_asymm (a7 w2))
   .rw [(a1 y z1).1,(a1 z z2).1]
  .rcases Z with Z|Z
   .rcases nq (show(relabel sc X.env).names.lookup y<*.cell from Z)with e|⟨_,e,_⟩
    .exact b5 y (as _ (PySem.mem_of_lookup e) rfl)
    .exact aV e
   .rcases nq (show(relabel sc X.env).names.lookup y<*.free from Z)with e|⟨e,_⟩
    .exact aV e
    .cases e
  .rcases lk y c e2 with⟨w,_⟩|⟨_,w,_⟩
   .rw [show fnx y=true from e]at w;cases w
   .exact ab▸Nat.le_of_lt (lt_of_le_of_lt t w)
  .exact ne_of_lt (lt_of_lt_of_le (U b a) (by lia:D≤C))
  .exact b1 a e
  .rcases (f2 b a).2.2.2.1 with z|z
   .exact g.ok.noex b o e z
   .exact absurd (lt_of_lt_of_le (lt_of_lt_of_le (lt_size e) g.ok.bsz) z) (lt_irrefl _)
 let I4:∀tk,hA X' [] (replicate ns.length none++M) (upd E D (.lst [])) {s2 with heap:=P,toks:=tk}:=λtk=>by
  refine(b3,1,g.bare,Un.laid Y (le_of_eq ab) bt,(_,F,λi O v e1 e2 e3=>?_),λy c e=>?_,3,λy c e=>?_,λp hp=>?_,g.hok.laid Y (le_of_eq ab) ?_,3)
  .let e1:(ns++L)[i]?<*O:=e1;by_cases bk:i<ns.length
   .rw [getElem?_append_left (by rw[length_replicate];show bk),List.getElem?_replicate,if_pos bk]at e2;cases e2
   .rw [getElem?_append_right (by rw[length_replicate];lia),length_replicate]at e2;rw[getElem?_append_right (!6)]at e1;let e0:=e1;generalize i-ns.length=i at e0 e1 e2;let e3:J8 (relabel sc X.env) O:=e3;let a0:O∈L:=pa e0;let S:sc.names.lookup O=some .free/\(relabel sc X.env).names.lookup O≠some .local:=by
     rcases e3 with e|e|e
     .rcases nq e with q|⟨q,_⟩
      .exact absurd q (bf O a0)
      .cases q
     .rcases nq e with q|⟨_,q,_⟩
      .exact absurd ((a6 (.inr a0)).symm.trans (as _ (PySem.mem_of_lookup q) rfl)) Bool.false_ne_true
      .exact (q,by rw[e];decide)
     .rcases nq e with q|⟨q,_⟩
      .exact (q,by rw[e];decide)
      .cases q
    let e1:X.N[i]?<*O:=by
     let hi:i<L.length:=(j0 e0).1;let hi2:i<X.N.length:=by lia
     let hm:(O,X.N[i],)∈L.zip X.N:=by
      let hz:(L.zip X.N)[i]?<*(O,X.N[i],):=by
       rw[getElem?_zip_eq_some];show(e0,hH hi2)
      show pa hz
     let q:=all_eq_true.mp b6 _ hm;rcases Bool.or_eq_true_iff.mp q with q|q
     .have:O=X.N[i]:=eq_of_beq q;rw[hH hi2,<-this]
     .let q2:sc.names.lookup O=none:=by simpa using q
      rw[S.1]at q2;cases q2
    let kc:X.env.kindOf O<*.cell\/X.env.kindOf O<*.free:=bl _ (PySem.mem_of_lookup S.1) rfl;let⟨m,hn,hl⟩:=g.loc;let⟨u,ru,lk⟩:=hl i O v e1 e2 (.inr kc);rcases lk with⟨q,_⟩|⟨_,c,cj,⟨o,ho,hd⟩⟩
    .rcases kc with z|z<;>(rw[z]at q;cases q)
    .obtain ⟨c',aF⟩:=aU _ (PySem.mem_of_lookup S.1) rfl;let e4:=k _ _ aF;rw[cj]at e4;cases e4;refine(u,ru,.inr (3,c,bb _ _ (a6 (.inr a0)) aF,(o,Y c o ho,hd)));rcases e3 with e|e|e
     .exact absurd e S.2
     .exact .inl e
     .exact .inr e
  .rcases lk y c e with⟨_,w⟩|⟨_,_,v,o,w⟩
   .obtain ⟨v,o,ho,hd⟩:=g.cell y c (k y c w);show(v,o,Y c o ho,hd)
   .exact (v,o,w)
  .change upd E D (.lst []) C=none;rw[b_ (JL (!6))];show co
  .change upd E D (.lst []) c=none;rcases lk y c e with⟨_,w⟩|⟨_,w,_⟩
   .rw [b_ (ne_of_lt (a7 w))];show g.freeC y c (k y c w)
   .rw [b_ (ne_of_gt (lt_of_le_of_lt t w))];show g.hok.fresh (ab▸Nat.le_of_lt (lt_of_le_of_lt t w))
  .exact absurd (show p∈([]:List (Addr×Obj))from hp) (!1)
  .exact (zero_le _,[],(0),.nil,bm)
  .change (replicate ns.length none++M).length=(ns++L).length;rw[j_,j_,length_replicate,g.len,ce]
 let⟨cu,cw⟩:=a ac C G s2 E;let a5:∀{an:List (Addr×Obj)}{H':Hp},(∀b∈G,H' b=none)->(∀p∈an,p.1∉G)->∀b∈G,aJ X' an H' b:=λhn hp b a=>by
  refine(hn b a,3,aM b a,.inl a,λy c e=>b1 a e,λp q z=>?_)
  .exact ne_of_lt (lt_of_lt_of_le (U b a) (by lia:D≤C))
  .rcases mem_append.mp q with q|q
   .exact absurd (show p∈([]:List (Addr×Obj))from q) (!1)
   .exact hp p q (by rw[z];show a)
 let aT:∀tk,codeAny (model X.prog X.w) X.A (.compLoop (.ListComp elt [(tg,iter,ifs,(0))] sc pos) 0 (.ref it) (.ref D) (compEnvC sc ac C X.env)) (compPost (model X.prog X.w) X.A X.xe use QQ (.ref D) C) {s2 with heap:=P,toks:=tk}:=λtk=>by
  refine iG (λn s'=>∃i ys os H',os.length=ns.length/\hA X' [] (os++M) H' s'/\tn i s'.heap/\(∀b∈G,H' b=none)/\W i n ys H') ?_ m0 ((0),[],7,length_replicate,I4 tk,T.keep _ _ _ aZ λb a o e=>Y b o e,λb a=>?_,w0)
  .rintro n s3⟨i,ys,os,H3,cc,I3,a9,b0,w3⟩;let⟨cB,ct⟩:=a8 i n ys H3 w3;rcases ct with⟨stop,qn⟩|⟨go,bg,step⟩
   .refine wpAny_mono (T.done X' rfl rfl rfl hc i [] s3 _ H3 (λ_ _=>False) I3 (a5 b0 (!1)) a9 stop) (λr s4 l=>?_) λ_ _ f=>f.elim;let⟨hr,cy⟩:=l;subst hr;show cs g f2 b4 (!6) cy qn
   .refine wpAny_mono (T.item X' rfl rfl rfl hc i [] s3 _ H3 (λ_ _=>False) I3 (a5 b0 (!1)) a9 go) (λr s4 l=>?_) λ_ _ f=>f.elim;let⟨u,hr,h4⟩:=l;subst hr;refine wpAny_mono h4 (λ_ s5 l=>?_) λ_ _ f=>f.elim;let⟨z,H5,I5,r5,y5,ai,cq⟩:=l;let cx:=I5.pinned (a5 cq (!1)) (T.obj _ _ ai);let⟨vs,bc,ch,ca⟩:=step z _ y5;refine wpAny_mono (cb ac C G s2 E _ s5 M os H5 z u vs cc ch cx r5) (λ_ s6 I6=>?_) λ_ _ f=>f.elim;refine wpAny_mono (cu _ s6 _ _ _ I6 ca) (λb2 s7 l=>?_) λ_ _ f=>f.elim;let⟨H7,I7,q7⟩:=l;cases b2 with
    |false=>
     let⟨m',hm,w8⟩:=q7;refine(m',hm,i+1,ys,7,by rw[ix];show bc,I7.unpinned,T.keep _ _ _ ai λb a o e=>(I7.pin (b,o,) (mem_append_right _ (mem_append_right _ (JI a e)))).1,λb a=>?_,w8);let⟨o,e,d⟩:=T.obj _ _ ai b a;show(I7.pin (b,o,) (mem_append_right _ (mem_append_right _ (JI a e)))).2.1
    |true=>
    refine wpAny_mono (cw _ s7 _ _ _ I7 q7) (λz s8 l=>?_) λ_ _ f=>f.elim;let⟨yv,H8,I8,r8,cp,q8⟩:=l;refine wpAny_mono (cE (X:=X') _ s8 _ H8 (.ref D) [yv] (.ref D) [z] (λ_ H9=>H9=upd H8 D (.lst (ys++[yv]))) I8 rfl (.cons r8 .nil) (D,ys,yv,6,cp,bg,1)) (λ_ s9 l=>?_) λ_ _ f=>f.elim;let⟨_,H9,I9,_,e9⟩:=l;subst e9;let⟨m',hm,w8⟩:=q8;refine(m',hm,i+1,7,_,by rw[ix];show bc,I9.unpinned,T.keep _ _ _ ai λb a o e=>(I9.pin (b,o,) (mem_append_right _ (mem_append_right _ (JI a e)))).1,λb a=>?_,w8);let⟨o,e,d⟩:=T.obj _ _ ai b a;show(I9.pin (b,o,) (mem_append_right _ (mem_append_right _ (JI a e)))).2.1
  .change upd E D (.lst []) b=none;rw[b_ (ne_of_lt (U b a))];show(f2 b a).1
 show codeAny_compStart_list (aT _) (T.self _ _ _ _ _ (T.keep _ _ _ aZ λb a o e=>Y b o e) (aT _))
def Lf{fnx:Str->Bool}{B m:St}(P:hA X f B t s2)(l:∀b∈G,aJ X f t b)(g:∀b o,s2.heap.get? b<*o->b≠C)(a:hA {j4 X x sc R C G s2 t with N:=N,fn:=fnx} [] m h E)(L:Q (.ref D) h):compPost (model X.prog X.w) X.A X.xe none (EP X f B Q) (.ref D) C (.ok .next) E:=by
 let⟨O,r,_⟩:=a.loc;refine(O,r,λh' d=>?_);let F:∀b u,h b<*u->b≠C:=λb u e z=>by rw[z]at e;rw[show h C=none from a.free]at e;cases e
 let j:uK X.prog X.w h h':=λb u e=>(a.hok b u e).stay (λc v s q=>d.extBut c v (by
  rcases s with z|z
  .rw [z];show F b u e
  .exact F c _ z) q) (λ_ q=>q) λ_ _ q=>q
 let H:Un (vf X.stack) G t h s2.heap h':=
  (λb o e i p n=>d.extBut b o (g b o e) (a.base.keep b o e i p n),λb o e i p n=>by
    let⟨I,q⟩:=a.base.slot b o e i p n;show(I,d.extBut b _ (g b o e) q),a.base.free,λb o e i=>by
    let⟨M,q⟩:=a.base.there b o e i;show(M,d.extBut b _ (g b o e) q),a.base.tups,a.base.frzs,a.base.tbls)
 show(.ref D,h,P.call' (s':={E with heap:=h'}) a.os H j a.bare λb k=>((l b k).2.2.2.1,(l b k).2.1,(l b k).2.2.2.2.1,(l b k).2.2.2.2.2),1,L)
def Ku(d:sc.kind=.function)(f:∀y∈sc.names,y.2≠.cell):oM sc λ_=>false:=λ{_ _ _ s _ j _ _ _ _ _ _}i=>by
 refine wpAny_newFunctionEnv f (λy h=>absurd h (!1)) (λg c a=>i g j c (λb o e=>a.extBut b o (ne_of_lt (lt_size e)) (mJ _ e)) (λ_ _ e=>.inl (1,e)) (λ_ _ _ e=>e) λ_ e=>nomatch e) d
def fS{P:Str->Prop}:∀y,(λ_=>false:Str->Bool) y=true->P y:=λ_ e=>nomatch e
def Lg(h:(x::k).Nodup)(n:Hy (relabel sc X.env) x)(t:fnx x=true\/(relabel sc X.env).names.lookup x<*.local)(b:List (Str×Addr))(C:Addr)(j:List Addr)(e:Shared)(l:Hp)(a:List (Addr×Obj))(s:Shared)(d:St)(os:List (Option V))(H:Hp)(y:V)(u:Value)(vs:List V)(p:os.length=1)(q:vs=[y])(I:hA {j4 X x sc b C j e l with N:=[x]++k,fn:=fnx} a (os++d) H s)(r:ad y u):wpAny (model X.prog X.w) X.A (assign (.Name x px) (compEnvC sc b C X.env) u) (λ_ s'=>hA {j4 X x sc b C j e l with N:=[x]++k,fn:=fnx} a (vs.map some++d) H s') (λ_ _=>False) s:=by
 let⟨o,rfl⟩:=List.length_eq_one_iff.mp p;refine wpAny_mono (KF (X:={j4 X x sc b C j e l with N:=[x]++k,fn:=fnx}) (i:=0) (pos:=px) h rfl n t _ s _ H y u (λc H'=>c=some y::d/\H'=H) I r (1,1)) (λ_ D g=>?_) λ_ _ f=>f;let⟨m,E,B,z,v⟩:=g;subst z v q;show B
def Lh{g:St}{Q:VK}{J:It}{W:Nat->Nat->List V->Hp->Prop}(h:∀i m ys a,W i m ys a->a D=some (.lst ys)/\((J.stop i a/\Q (.ref D) a)\/(J.go i a/\ys.length<sizeLine/\∀x d,J.yld i a x d->tt (some x::g) d λj f=>if j=true then te (some x::g) f λy e=>e D=some (.lst ys)/\∃c,c<m/\W (i+1) c (ys++[y]) (upd e D (.lst (ys++[y])))else ∃c,c<m/\W (i+1) c ys f))):∀i m ys a,W i m ys a->a D=some (.lst ys)/\((J.stop i a/\Q (.ref D) a)\/(J.go i a/\ys.length<sizeLine/\∀x d,J.yld i a x d->∃vs:List V,vs.length=1/\vs=[x]/\tt (vs.map some++g) d λj f=>if j=true then te (vs.map some++g) f λy e=>e D=some (.lst ys)/\∃c,c<m/\W (i+1) c (ys++[y]) (upd e D (.lst (ys++[y])))else ∃c,c<m/\W (i+1) c ys f)):=
 λi m ys a w=>(h i m ys a w).imp id λb=>b.imp id λb=>(b.1,b.2.1,λx d k=>([x],6,b.2.2 x d k))
def wH(f:List Str)(A:X.calm=true)(i:(x::f).Nodup)(z:PI X (.Name x px) iter wi)(B:∀(u:List (Str×Addr))(C:Addr)(t:List Addr)(s:Shared)(H:Hp),Iu {j4 X x sc u C t s H with N:=x::f} ifs tt/\PE {j4 X x sc u C t s H with N:=x::f} elt te)(p:(sc.names.lookup x<*.local)>>>4)(a:(sc.kind=.function)>>>4)(c:(∀y∈sc.names,y.2=.local->sc.names.lookup y.1<*.local)>>>3)(b:(∀y∈sc.names,y.2≠.cell)>>>3)(d:((sc.names.all λy=>y.2 != .free||X.env.scope.names.lookup y.1==some .cell)=true)>>>4)(l:((f.all λy=>sc.names.lookup y != some .local)=true)>>>4)(n:(f.length=X.N.length)>>>4)(k:(((f.zip X.N).all λy=>y.1==y.2||sc.names.lookup y.1==none)=true)>>>4)(w:(∀x,foldedSetIterable iter X.env x=pure x)>>>7):PE X (.ListComp elt [(.Name x px,iter,ifs,(0))] sc pos) (GP wi tt te):=by
 intro o s M H Q I h;rw[eval_ListComp];refine sy (fnx:=λ_=>false) (ns:=[x]) (gx:=λy _ vs=>vs=[y]) f A i z B (Lg i (.inl (lookup_relabel_local p)) (.inr (lookup_relabel_local p))) a c (Ku a b) (λy h e=>absurd e (b y h)) fS (all_eq_true.mpr λy v=>by rw[all_eq_true.mp d y v];rfl) l n k w I h (λJ O r D E=>?_) λL F j _ G q=>Lf L F j G q;let⟨W,m,g⟩:=r D E;show(W,m,Lh g)
def kn(f:List Str)(z:X.calm=true)(i:(x::f).Nodup)(w:PI X (.Name x px) iter wi)(A:∀(u:List (Str×Addr))(C:Addr)(t:List Addr)(s:Shared)(H:Hp),Iu {j4 X x sc u C t s H with N:=x::f} ifs tt/\PE {j4 X x sc u C t s H with N:=x::f} elt te)(p:(sc.names.lookup x<*.local)>>>4)(a:(sc.kind=.function)>>>4)(c:(∀y∈sc.names,y.2=.local->sc.names.lookup y.1<*.local)>>>3)(b:(∀y∈sc.names,y.2≠.cell)>>>3)(d:((sc.names.all λy=>y.2 != .free||X.env.scope.names.lookup y.1==some .cell||X.env.scope.names.lookup y.1==some .free)=true)>>>4)(l:((f.all λy=>sc.names.lookup y != some .local)=true)>>>4)(n:(f.length=X.N.length)>>>4)(k:(((f.zip X.N).all λy=>y.1==y.2||sc.names.lookup y.1==none)=true)>>>4)(v:(∀x,foldedSetIterable iter X.env x=pure x)>>>7):PE X (.ListComp elt [(.Name x px,iter,ifs,(0))] sc pos) (GP wi tt te):=by
 intro o s L H Q I h;rw[eval_ListComp];refine sy (fnx:=λ_=>false) (ns:=[x]) (gx:=λy _ vs=>vs=[y]) f z i w A (Lg i (.inl (lookup_relabel_local p)) (.inr (lookup_relabel_local p))) a c (Ku a b) (λy h e=>absurd e (b y h)) fS d l n k v I h (λJ M r D B=>?_) λG E j _ F q=>Lf G E j F q;let⟨W,m,g⟩:=r D B;show(W,m,Lh g)
def jh{N:List Str}{j:Nat}{y:Str}{R Q:St}(hN:X.N.Nodup)(hj:X.N[j]?<*y)(U:Hy X.env.scope y)(Z:X.fn y=true\/X.env.scope.names.lookup y<*.local)(M:hA X h R H2 s2)(P:∀b∈fp,aJ X h H2 b)(n:∀b o,s2.heap.get? b<*o->b≠C)(ai:s2⁻¹≤C)(d:hA {j4 X x sc cl C fp s2 H2 with N:=N} [] Q l O)(qn:uY j (.ref D) R l DD.nx):compPost (model X.prog X.w) X.A X.xe (some (assign (.Name y py) X.env)) (λ_ s'=>SP X h DD .next s') (.ref D) C (.ok .next) O:=by
 let⟨mC,I,_⟩:=d.loc;let nC:∀b u,l b<*u->b≠C:=λb u e z=>by rw[z]at e;rw[show l C=none from d.free]at e;cases e
 let un:Un (vf X.stack) fp H2 l s2.heap O.heap:=
  (λb o e i G s=>d.base.keep b o e i G s,λb o e i G s=>d.base.slot b o e i G s,d.base.free,λb o e i=>d.base.there b o e i,d.base.tups,d.base.frzs,d.base.tbls)
 let I5:hA X h R l O:=M.call' (s':=O) d.os un d.hok d.bare λb E=>((P b E).2.2.2.1,(P b E).2.1,(P b E).2.2.2.2.1,(P b E).2.2.2.2.2);let⟨oC,ap,an,Y,_⟩:=id I;let t:∃o,s2.heap.get? X.env.locals<*o:=by let⟨m,⟨o,es,ep,z,_⟩,_⟩:=M.loc;show(o,z)
 let F:X.env.locals≠C:=by let⟨o,z⟩:=t;show n _ o z
 let g:∀y c,X.env.cells.lookup y<*c->c≠C:=λy c e=>by let⟨v,o,r,_⟩:=M.cell y c e;show n c o r
 dsimp only[compPost];refine wpAny_assign_Name (bX I5 hN hj U (v:=.ref D) rfl (λT I6 W=>?_) Z);let⟨a,sb,ha⟩:=W;let L:C≠a:=by
  rcases ha with z|z
  .rw [z];show Ne.symm F
  .exact Ne.symm (g _ _ z)
 let H:T.heap.get? C<*oC:=(sb.2 C L).trans Y;refine(mC,I.sameBut sb L,λk f=>?_);let ac:C<k.objs.size:=by rw[f.1];show lt_size H
 let B:uK X.prog X.w l k:=λb u e=>(I6.hok b u e).stay (λc v ab q=>f.extBut c v (by
  rcases ab with z|z
  .rw [z];show nC b u e
  .exact nC c _ z) q) (λ_ q=>q) λ_ _ q=>q
 let S:Un (vf X.stack) [C] l l T.heap k:=
  (λb o e i G s=>f.extBut b o (λz=>s (by simp[z])) e,λb o e i G s=>(o.slots,f.extBut b o (λz=>s (by simp[z])) e),λb o e i _=>i,λb o e i=>(o,f.extBut b o (λz=>i (by simp[z])) e),λ_ _ q=>q,λ_ _ _ q=>q,λb ps q=>(#[],by rw[Array.append_empty];show q))
 refine(_,l,I6.call' (s':={T with heap:=k}) rfl S B I6.bare (λb E=>?_),qn);let eb:b=C:=by simpa using E
 subst eb;refine(.inr (Nat.le_trans M.sz (!2)),Ne.symm F,g,λp hp z=>?_);let⟨z1,_⟩:=M.pin p hp;show n p.1 p.2 z1 z
def LY(g:List Str){py d:Pos}(U:X.calm=true)(Z:X.N.Nodup)(k:(x::g).Nodup)(S:X.N[j]?<*y)(p:Hy X.env.scope y)(T:PI X (.Name x px) iter wi)(Y:∀(L:List (Str×Addr))(C:Addr)(G:List Addr)(s:Shared)(H:Hp),Iu {j4 X x sc L C G s H with N:=x::g} ifs tt/\PE {j4 X x sc L C G s H with N:=x::g} elt te)(F:(sc.names.lookup x<*.local)>>>4)(a:(sc.kind=.function)>>>4)(c:(∀y∈sc.names,y.2=.local->sc.names.lookup y.1<*.local)>>>3)(b:(∀y∈sc.names,y.2≠.cell)>>>3)(f:((sc.names.all λy=>y.2 != .free||X.env.scope.names.lookup y.1==some .cell)=true)>>>4)(t:((g.all λy=>sc.names.lookup y != some .local)=true)>>>4)(w:(g.length=X.N.length)>>>4)(o:(((g.zip X.N).all λy=>y.1==y.2||sc.names.lookup y.1==none)=true)>>>4)(R:(∀x,foldedSetIterable iter X.env x=pure x)>>>7)(q:(swapsWith (.ListComp elt [(.Name x px,iter,ifs,(0))] sc pos) (some (.Name y py)) d.line X.env=pure true)>>>4)(z:(X.fn y=true\/X.env.scope.names.lookup y<*.local)>>>8):PS X (.Assign [.Name y py] (.ListComp elt [(.Name x px,iter,ifs,(0))] sc pos) d) (ar (GP wi tt te) (uY j)):=by
 intro E s B H M I h;refine wx q λ_=>sy (fnx:=λ_=>false) (Q:=λv l=>uY j v B l M.nx) (ns:=[x]) (gx:=λy _ vs=>vs=[y]) g U k T Y (Lg k (.inl (lookup_relabel_local F)) (.inr (lookup_relabel_local F))) a c (Ku a b) (λy h e=>absurd e (b y h)) fS (all_eq_true.mpr λy P=>by rw[all_eq_true.mp f y P];rfl) t w o R I h (λJ l r D hD=>?_) λI2 f2 n u A O=>jh Z S p z I2 f2 n u A O;let⟨W,m,i⟩:=r D hD;show(W,m,Lh (Q:=λv l=>uY j v B l M.nx) i)
def eY(L:X.calm=true)(g:(x::y::t).Nodup)(F:sc.names.lookup x<*.local)(E:sc.names.lookup y<*.local)(j:List (Str×Addr))(C:Addr)(q:List Addr)(m:Shared)(z:Hp)(c:List (Addr×Obj))(s:Shared)(l:St)(os:List (Option V))(H:Hp)(v:V)(u:Value)(vs:List V)(G:os.length=2)(I:∃p a b,v=.ref p/\nj X.K H p [a,b]/\vs=[a,b])(S:hA {j4 X x sc j C q m z with N:=[x,y]++t} c (os++l) H s)(D:ad v u):wpAny (model X.prog X.w) X.A (assign (.Tuple [.Name x px,.Name y py] kt pt) (compEnvC sc j C X.env) u) (λ_ s'=>hA {j4 X x sc j C q m z with N:=[x,y]++t} c (vs.map some++l) H s') (λ_ _=>False) s:=by
 obtain⟨o,h,rfl⟩:∃o h,os=[o,h]:=match os,G with|[o,h],_=>(o,h,1)
 let⟨p,Q,P,rfl,hp,rfl⟩:=I;let e:(relabel sc X.env).names.lookup x<*.local:=lookup_relabel_local F;let d:(relabel sc X.env).names.lookup y<*.local:=lookup_relabel_local E;let r:PG {j4 X x sc j C q m z with N:=[x,y]++t} (.Tuple [.Name x px,.Name y py] kt pt) (sW X.K 2 (n6 (uY 0) (n6 (uY 1) gNil))):=br L (HS (KF (i:=0) g rfl (.inl e) (.inr e)) (HS (KF (i:=1) g rfl (.inl d) (.inr d)) J_));refine wpAny_mono (r _ s _ H (.ref p) u (λk H'=>k=some Q::some P::l/\H'=H) S D (p,0,hp,1,8,2,6)) (λ_ T n=>?_) λ_ _ f=>f;let⟨B,U,R,O,M⟩:=n;subst O M;show R

def Kv(j:List Str)(A:X.calm=true)(l:(x::y::j).Nodup)(S:PI X (.Tuple [.Name x px,.Name y py] kt pt) iter wi)(T:∀(E:List (Str×Addr))(C:Addr)(B:List Addr)(s:Shared)(H:Hp),Iu {j4 X x sc E C B s H with N:=x::y::j} ifs tt/\PE {j4 X x sc E C B s H with N:=x::y::j} elt te)(O:(sc.names.lookup x<*.local)>>>4)(M:(sc.names.lookup y<*.local)>>>4)(c:(sc.kind=.function)>>>4)(f:(∀y∈sc.names,y.2=.local->sc.names.lookup y.1<*.local)>>>3)(d:(∀y∈sc.names,y.2≠.cell)>>>3)(g:((sc.names.all λy=>y.2 != .free||X.env.scope.names.lookup y.1==some .cell||X.env.scope.names.lookup y.1==some .free)=true)>>>4)(t:((j.all λy=>sc.names.lookup y != some .local)=true)>>>4)(u:(j.length=X.N.length)>>>4)(o:(((j.zip X.N).all λy=>y.1==y.2||sc.names.lookup y.1==none)=true)>>>4)(R:(∀x,foldedSetIterable iter X.env x=pure x)>>>7):PE X (.ListComp elt [(.Tuple [.Name x px,.Name y py] kt pt,iter,ifs,(0))] sc pos) (JZ X.K wi tt te):=by
 intro z s σ H Q I h;rw[eval_ListComp];refine sy (fnx:=λ_=>false) (ns:=[x,y]) (gx:=λv H vs=>∃p a b,v=.ref p/\nj X.K H p [a,b]/\vs=[a,b]) j A l S T (eY A l O M) c f (Ku c d) (λy h e=>absurd e (d y h)) fS g t u o R I h (λJ H1 r D U=>?_) λI2 Y n _ Z q=>Lf I2 Y n Z q
 .obtain ⟨W,m,k⟩:=r D U;show(W,m,λi m ys H2 w=>(k i m ys H2 w).imp id λb=>b.imp id λb=>(b.1,b.2.1,λv H3 L=>by
   let⟨p,G,F,e,hp,P⟩:=b.2.2 v H3 L;show([G,F],1,(p,G,F,e,hp,1),P)))
def dJ(l:List Str){q g:Pos}(P:X.calm=true)(hN:X.N.Nodup)(t:(x::y::l).Nodup)(hj:X.N[j]?<*n)(A:Hy X.env.scope n)(hi:PI X (.Tuple [.Name x px,.Name y py] kt pt) iter wi)(hb:∀(S:List (Str×Addr))(C:Addr)(R:List Addr)(s:Shared)(H:Hp),Iu {j4 X x sc S C R s H with N:=x::y::l} ifs tt/\PE {j4 X x sc S C R s H with N:=x::y::l} elt te)(hx:(sc.names.lookup x<*.local)>>>4)(hy:(sc.names.lookup y<*.local)>>>4)(c:(sc.kind=.function)>>>4)(f:(∀y∈sc.names,y.2=.local->sc.names.lookup y.1<*.local)>>>3)(d:(∀y∈sc.names,y.2≠.cell)>>>3)(k:((sc.names.all λy=>y.2 != .free||X.env.scope.names.lookup y.1==some .cell||X.env.scope.names.lookup y.1==some .free)=true)>>>4)(E:((l.all λy=>sc.names.lookup y != some .local)=true)>>>4)(G:(l.length=X.N.length)>>>4)(z:(((l.zip X.N).all λy=>y.1==y.2||sc.names.lookup y.1==none)=true)>>>4)(hs:(∀x,foldedSetIterable iter X.env x=pure x)>>>7)(B:(swapsWith (.ListComp elt [(.Tuple [.Name x px,.Name y py] kt pt,iter,ifs,(0))] sc pos) (some (.Name n q)) g.line X.env=pure true)>>>4)(L:(X.fn n=true\/X.env.scope.names.lookup n<*.local)>>>8):PS X (.Assign [.Name n q] (.ListComp elt [(.Tuple [.Name x px,.Name y py] kt pt,iter,ifs,(0))] sc pos) g) (ar (JZ X.K wi tt te) (uY j)):=by
 intro O s Z H DD I h;refine wx B λ_=>sy (fnx:=λ_=>false) (Q:=λv Y=>uY j v Z Y DD.nx) (ns:=[x,y]) (gx:=λv H vs=>∃p a b,v=.ref p/\nj X.K H p [a,b]/\vs=[a,b]) l P t hi hb (eY P t hx hy) c f (Ku c d) (λy h e=>absurd e (d y h)) fS k E G z hs I h (λJ Y r D hD=>?_) λI2 f2 u F M qn=>jh hN hj A L I2 f2 u F M qn;let⟨W,m,o⟩:=r D hD;show(W,m,λi m ys H2 w=>(o i m ys H2 w).imp id λb=>b.imp id λb=>(b.1,b.2.1,λv H3 yl=>by
  let⟨p,U,T,e,hp,ht⟩:=b.2.2 v H3 yl;show([U,T],1,(p,U,T,e,hp,1),ht)))
def Nv{env:Env}:∀{a:List (Str×NameKind)}{x:Str},a.lookup x<*.cell->
  (a.map λ(n,k)=>if (k==NameKind.free&&env.scope.kind==.function&&env.kindOf n==some .cell)then(n,NameKind.cell,)else(n,k,)).lookup x<*.cell
 |[],_,h=>by simp at h
 |(n,k)::r,x,h=>by
  rw[map_cons];by_cases z:x=n
  .subst z;rw[List.lookup_cons_self]at h;cases h;change List.lookup x ((x,NameKind.cell,)::_)=_;show List.lookup_cons_self
  .let zb:(x==n)=false:=beq_eq_false_iff_ne.mpr z;let c:r.lookup x<*.cell:=by simpa only[List.lookup,zb]using h
   let b:=Nv (env:=env) c;dsimp only;split
   .simp only[List.lookup,zb];show b
   .simp only[List.lookup,zb];show b
def m7(g:∀n d,cellsFrom n sc.names d=(x,n,)::d)(f:∀h:Heap,pushCells h sc.names=h.push {cls:=.type "cell",data:=.cell none}):oM sc λy=>y==x:=λ{_ _ _ s _ d _ _ _ a _ _}i=>by
 unfold newFunctionEnv;rw[show(some a).isSome=true from rfl,if_pos rfl];refine g_ (wpAny_alloc (g_ (wpAny_layCells _ (λ_ k _=>by cases q:k==NameKind.cell<;>simp only[q]<;>rfl) _ _ _ _ ?_)));rw[g,f];let e:({s with heap:=s.heap.push {cls:=.type "dict",data:=.dict #[]} }:Shared).heap.objs.size=s⁻¹+1:=size_push ..;rw[e];refine g_ ?_;rw[forIn_nil];refine j3 (j3 (i _ ((x,s⁻¹+1,)::d) ?_ (λb o z=>mJ _ (mJ _ z)) (λy c e=>?_) (λy c z e=>?_) λy z=>(s⁻¹+1,by cases eq_of_beq z;show List.lookup_cons_self)))
 .exact (Heap.Ns.new s.heap (.type "dict")).keeps λb o z=>mJ _ z
 .cases z:y==x<;>simp only[List.lookup,z]at e
  .exact .inl (z,e)
  .cases e;have:=get?_push_size (s.heap.push {cls:=.type "dict",data:=.dict #[]}) (o:={cls:=.type "cell",data:=.cell none}) rfl;rw[size_push]at this;show .inr (z,lt_succ_self _,none,_,this,1)
 .simp only[List.lookup,z];show e
def mK(f:List Str)(F:X.calm=true)(i:(x::f).Nodup)(E:PI X (.Name x px) iter wi)(G:∀(j:List (Str×Addr))(C:Addr)(z:List Addr)(s:Shared)(H:Hp),Iu {j4 X x sc j C z s H with N:=x::f,fn:=λy=>y==x} ifs tt/\PE {j4 X x sc j C z s H with N:=x::f,fn:=λy=>y==x} elt te)(w:(sc.names.lookup x<*.cell)>>>4)(u:(∀n j,cellsFrom n sc.names j=(x,n,)::j)>>>7)(o:(∀h:Heap,pushCells h sc.names=h.push {cls:=.type "cell",data:=.cell none})>>>7)(b:(sc.kind=.function)>>>4)(a:(∀y∈sc.names,y.2=.local->sc.names.lookup y.1<*.local)>>>3)(d:(∀y∈sc.names,y.2=.cell->y.1=x)>>>3)(c:((sc.names.all λy=>y.2 != .free||X.env.scope.names.lookup y.1==some .cell)=true)>>>4)(p:((f.all λy=>sc.names.lookup y != some .local)=true)>>>4)(t:(f.length=X.N.length)>>>4)(l:(((f.zip X.N).all λy=>y.1==y.2||sc.names.lookup y.1==none)=true)>>>4)(B:(∀x,foldedSetIterable iter X.env x=pure x)>>>7):PE X (.ListComp elt [(.Name x px,iter,ifs,(0))] sc pos) (GP wi tt te):=by
 intro v s R H Q I h;rw[eval_ListComp];refine sy (fnx:=λy=>y==x) (ns:=[x]) (gx:=λy _ vs=>vs=[y]) f F i E G (Lg i (.inr (Nv w)) (.inl (beq_self_eq_true x))) b a (m7 u o) (λy h e=>beq_iff_eq.mpr (d y h e)) (λy e=>by cases eq_of_beq e;show(1,mem_cons_self,w)) (all_eq_true.mpr λy A=>by rw[all_eq_true.mp c y A];rfl) p t l B I h (λJ S r D L=>?_) λP M k _ O q=>Lf P M k O q;let⟨W,m,g⟩:=r D L;show(W,m,Lh g)
end
section
variable{X:Cx}{elt iter:Expr}{x y:Str}{px py pt pos:Pos}{kt:Nat}{sc:Scope}{wi:TI}{te:TE}
def mL(e:List Str)(p:X.calm=true)(i:(x::y::e).Nodup)(o:PI X (.Tuple [.Name x px,.Name y py] kt pt) iter wi)(q:∀(k:List (Str×Addr))(C:Addr)(j:List Addr)(s:Shared)(H:Hp),PE {j4 X x sc k C j s H with N:=x::y::e} elt te)(m:(sc.names.lookup x<*.local)>>>4)(l:(sc.names.lookup y<*.local)>>>4)(b:(sc.kind=.function)>>>4)(a:(∀y∈sc.names,y.2=.local->sc.names.lookup y.1<*.local)>>>3)(d:(∀y∈sc.names,y.2≠.cell)>>>3)(c:((sc.names.all λy=>y.2 != .free||X.env.scope.names.lookup y.1==some .cell||X.env.scope.names.lookup y.1==some .free)=true)>>>4)(g:((e.all λy=>sc.names.lookup y != some .local)=true)>>>4)(h:(e.length=X.N.length)>>>4)(f:(((e.zip X.N).all λy=>y.1==y.2||sc.names.lookup y.1==none)=true)>>>4)(n:(∀x,foldedSetIterable iter X.env x=pure x)>>>7):PE X (.ListComp elt [(.Tuple [.Name x px,.Name y py] kt pt,iter,[],(0))] sc pos) (mh X.K wi te):=Kv e p i o (λk C j s H=>(vi,q k C j s H)) m l b a d c g h f n
end
def Li{K:Frag}{J:It}{C:TT}{E:TE}{r:St}{Q:VK}(G:Nat->V->V->Prop)(o:Addr->Nat->List V->Hp->Prop)(hz:n≤sizeLine)(M:∀i d,b' H d->i<n->J.go i d)(L:∀i d x j,b' H d->i<n->J.yld i d x j->∃p a b,x=.ref p/\G i a b/\d p=none/\j=upd d p (.tup [a,b]))(I:∀d,b' H d->J.stop n d)(h0:∀D,H D=none->o D 0 [] (upd H D (.lst [])))(N:∀(D:Addr)(i:Nat)(a b:V)(ys:List V)(H' j:Hp)(F:VK)(R2:Hp->Prop),H D=none->i<n->G i a b->b' H H'->H' D<*.lst ys->o D i ys H'->b' H' j->
   (∀y k,k D<*.lst ys->b' H (upd k D (.lst (ys++[y])))->o D (i+1) (ys++[y]) (upd k D (.lst (ys++[y])))->F y k)->(∀h,b' H h->h D<*.lst ys->o D (i+1) ys h->R2 h)->
   C (some a::some b::r) j λc h=>if c=true then E (some a::some b::r) h F else R2 h)(O:∀D ys H',H D=none->b' H H'->H' D<*.lst ys->o D n ys H'->Q (.ref D) H'):∀D,H D=none->∃W:Nat->Nat->List V->Hp->Prop,
   (∃m,W 0 m [] (upd H D (.lst [])))/\∀i m ys d,W i m ys d->d D=some (.lst ys)/\((J.stop i d/\Q (.ref D) d)\/(J.go i d/\ys.length<sizeLine/\∀x j,J.yld i d x j->
    ∃p a b,x=.ref p/\nj K j p [a,b]/\C (some a::some b::r) j λR h=>if R=true then E (some a::some b::r) h λy k=>k D=some (.lst ys)/\∃q,q<m/\W (i+1) q (ys++[y]) (upd k D (.lst (ys++[y])))else ∃q,q<m/\W (i+1) q ys h)):=by
 intro D s;refine(λi m ys d=>m=n-i/\i≤n/\ys.length≤i/\b' H d/\d D=some (.lst ys)/\o D i ys d,(n,!1,zero_le _,!1,b'.upd s,a_,h0 D s),3);rintro i m ys d⟨rfl,P,u,g,l,hp⟩;refine(l,3);by_cases f:i<n
 .refine .inr (M i d g f,lt_of_le_of_lt u (lt_of_lt_of_le f hz),λx j t=>?_);let⟨p,a,b,rfl,w,v,rfl⟩:=L i d x j g f t;show(p,a,b,1,nj.of a_,N D i a b ys d _ _ _ s f w g l hp (b'.upd v) (λy k B A z=>(B,n-(i+1),sub_succ_lt_self _ _ f,1,f,by rw[j_];show succ_le_succ u,A,a_,z)) (λh B A z=>(n-(i+1),sub_succ_lt_self _ _ f,1,f,Nat.le_succ_of_le u,B,A,z)))
 .let e:i=n:=le_antisymm P (le_of_not_lt f);subst e;show .inl (I d g,O D ys d s g l hp)
end L2
namespace RA
open L2
def cP(u:LN):∀vs:LL,Hk (.str (tx u)) (d_ vs)=decide (u∈vs)
 |[]=>rfl
 |v::r=>by
  show((tx v==tx u)||Hk (.str (tx u)) (d_ r))=_;rw[cP u r,Bool.eq_iff_iff,Bool.or_eq_true,beq_iff_eq,decide_eq_true_eq,decide_eq_true_eq,mem_cons];show or_congr (λz=>(vM z).symm,λz=>by rw[z]) Iff.rfl
def g0(vs:LL):(d_ vs).all HZ=true:=by
 rw[d_,List.all_map,all_eq_true];show λ_ _=>rfl
section
variable{L:LN}{W:LL}{B:List Bool}{ks ws:LL}
end
def Nw{K:Frag}{l:St}(E:∀R:List V->Hp->Prop,R [.ref c] H->t l H R)(G:o=.lst xs\/o=.tup xs)(j:H c<*o)(e:Addr->Nat->List V->Hp->Prop)(hz:xs.length≤sizeLine)(h0:∀D,H D=none->e D 0 [] (L2.upd H D (.lst [])))(F:∀(D:Addr)(i:Nat)(x:V)(ys:List V)(H' g:Hp)(k:VK)(R2:Hp->Prop),H D=none->xs[i]?<*x->b' H H'->H' D<*.lst ys->e D i ys H'->b' H' g->
   (∀y f,f D<*.lst ys->b' H (L2.upd f D (.lst (ys++[y])))->e D (i+1) (ys++[y]) (L2.upd f D (.lst (ys++[y])))->k y f)->(∀d,b' H d->d D<*.lst ys->e D (i+1) ys d->R2 d)->
   A (some (.int (i:Int))::some x::l) g λc d=>if c=true then B (some (.int (i:Int))::some x::l) d k else R2 d)(C:∀D ys H',H D=none->b' H H'->H' D<*.lst ys->e D xs.length ys H'->Q (.ref D) H'):JZ K (iK t) A B l H Q:=by
 let m:∀(D:Addr)(i:Nat)(a b:V)(ys:List V)(H' g:Hp)(k:VK)(R2:Hp->Prop),H D=none->i<xs.length->(a=.int (i:Int)/\xs[i]?<*b)->b' H H'->H' D<*.lst ys->e D i ys H'->b' H' g->
   (∀y f,f D<*.lst ys->b' H (L2.upd f D (.lst (ys++[y])))->e D (i+1) (ys++[y]) (L2.upd f D (.lst (ys++[y])))->k y f)->(∀d,b' H d->d D<*.lst ys->e D (i+1) ys d->R2 d)->
   A (some a::some b::l) g λc d=>if c=true then B (some a::some b::l) d k else R2 d:=by
  rintro D i a b ys H' g k R2 L _⟨rfl,I⟩T S P O N M;show F D i b ys H' g k R2 L I T S P O N M
 refine E _ (c,xs,1,3);rcases G with rfl|rfl
 .refine .inr (j,Li (K:=K) (n:=xs.length) (λi a b=>a=.int (i:Int)/\xs[i]?<*b) e hz (λi r s h=>(xs,xs[i],s _ _ j,hH h)) ?_ (λr s=>(xs,s _ _ j,1)) h0 m C);rintro i r x g s h⟨p,y,zs,q,z,w,v,u⟩;rw[s _ _ j]at q;cases q;show(p,_,y,w,(1,z),v,u)
 .refine .inl (j,Li (K:=K) (n:=xs.length) (λi a b=>a=.int (i:Int)/\xs[i]?<*b) e hz (λi r s h=>(xs,xs[i],s _ _ j,hH h)) ?_ (λr s=>(xs,s _ _ j,1)) h0 m C);rintro i r x g s h⟨p,y,zs,q,z,w,v,u⟩;rw[s _ _ j]at q;cases q;show(p,_,y,w,(1,z),v,u)
end RA
namespace L2
end L2
namespace L2
open PySem.Spec PyProof.Rows
abbrev uH(f:Addr)(qual:Str)(params:Arguments)(body:Expr)(scope:Scope)(clos:List (Str×Addr))(c:Addr):HO:=.ext λh=>∃pm ctv,h.get? f<*kla_obj "<lambda>" qual params body scope clos pm c ctv
def gf{P:Program}{w:World}(x:h.get? f<*kla_obj "<lambda>" qual a g b d pm c j):uz P w H h f (uH f qual a g b d c):=
 ((pm,j,x),(_,x),λ_ _ i k=>by let⟨p,v,e⟩:=i;show(p,v,k _ e))
abbrev tL(X:Cx)(P0:Addr)(sites:List (Pos×Str))(qual:Str)(params:Arguments)(body:Expr)(sc:Scope):TE:=λ_ H Q=>uG H P0 sites/\
 ∀(clos:List (Str×Addr))(f c:Addr)(H1:Hp),(∀y a,clos.lookup y<*a->X.env.cells.lookup y<*a)->(∀y∈sc.names,y.2=.free->∃a,clos.lookup y.1<*a)->H f=none->f≠c->vP P0 H H1->uG H1 P0 sites->
  H1 c<*l' c qual->H1 f<*uH f qual params body sc clos c->Q (.ref f) H1
def mI{X:Cx}{d:Arguments}{g:Expr}{sc:Scope}(C:X.env.code=.ref c)(hC:CodeHd X.base c P0)(hB:HJ X.base X.mg)(Z:(pos,qual,)∈sites)(M:∀q∈sites,q.1.line=pos.line->q.1.col=pos.col->q.2=qual)(hq:(X.env.qual++"<lambda>"=qual)>>>4)(a2:(defaultsOf d X.env=([],[],))>>>4)(an:((sc.names.all λy=>y.2 != .free||X.env.scope.names.lookup y.1==some .cell)=true)>>>4):PE X (.Lambda d g sc pos) (tL X P0 sites qual d g sc):=by
 intro v s σ H Q I h;let⟨⟨ps,U,ht,E⟩,h⟩:=h;let bg:∀y∈sc.names,y.2=.free->X.env.kindOf y.1<*.cell:=λy hy e=>by
  let q:=all_eq_true.mp an y hy;rw[e]at q;simpa[Env.kindOf]using q
 let⟨l,D,R,S⟩:=Ly (env:=X.env) (sc:=sc) λy hy e=>I.ok.has y.1 (.inl (bg y hy e));let aF:s.heap.get? P0<*tabObj ps:=I.hok P0 _ U;let T:P0<s⁻¹:=I.hok.lt U;let P:s.heap.BuiltinsAt X.mg P0:=by
  let⟨bm,o,e1,e2,e3,e4,e5,e6,e7⟩:=hB.ex;refine(bm,o,e1,e2,e3,λz=>?_,(I.bs bm o e4).1,e5,e6,e7);let n:=(I.bs bm o e4).2;rw[z,U]at n;cases n
 let ac:s.heap.Ns mainGlobals X.mg:=I.mod.glob.keeps I.bk;let bf:mainGlobals≠P0:=λz=>by
  let⟨o,es,ep,e,hd,_⟩:=ac;rw[z,aF]at e;cases e;cases hd
 let a7:=hC.keeps I.bk;refine PySem.W.kla_eval a2 ?_;rw[hq];let a8:∀{f:Addr}{s1:Shared}{L:Hp},hA X v σ L s1->Q (.ref f) L->EP X v σ Q (.ref f) s1:=λ{f s1 L}I1 q=>(.ref f,L,I1,1,q);let a9:∀{b:Addr}{u:HO},H b<*u->b<s⁻¹:=λe=>I.hok.lt e;rcases E _ Z with be|⟨c0,a1,a3⟩
 .refine PySem.W.kla_makeFunction (mg:=X.mg) D I.ok.glob ac C a7 aF ht be bf P λi p h' tk bb ai a0 aT bc=>?_;let bo:P0≠i:=ne_of_lt (lt_of_lt_of_le T ai);let x:s⁻¹<h'.objs.size:=lt_of_le_of_lt ai a0;let a6:P0≠h'.objs.size:=ne_of_lt (lt_trans T x);let as:i≠h'.objs.size:=ne_of_lt a0;generalize bl:h'.objs.size=f at a6 as x⊢;let kp:∀b o,b≠P0->s.heap.get? b<*o->(h'.push (kla_obj "<lambda>" qual d g sc l ((X.mg "__name__").getD .none) i p)).get? b<*o:=λb o j e=>mJ _ (bb b o j e);let aV:(h'.push (kla_obj "<lambda>" qual d g sc l ((X.mg "__name__").getD .none) i p)).get? f<*kla_obj "<lambda>" qual d g sc l ((X.mg "__name__").getD .none) i p:=by rw[<-bl];show get?_push_size _ rfl
  let aZ:(h'.push (kla_obj "<lambda>" qual d g sc l ((X.mg "__name__").getD .none) i p)).CodeRec (.ref i) qual:=by
   let⟨c2,oc,vs,t,e,e1,e2,e3⟩:=aT;show(c2,oc,vs,t,e,mJ _ e1,e2,e3)
  let O:(h'.push (kla_obj "<lambda>" qual d g sc l ((X.mg "__name__").getD .none) i p)).get? P0<*tabObj (ps++#[rawInt pos.line,rawInt pos.col,.ref i]):=mJ _ bc;generalize h'.push (kla_obj "<lambda>" qual d g sc l ((X.mg "__name__").getD .none) i p)=hh at kp aV aZ O⊢;generalize ab:ps++#[rawInt pos.line,rawInt pos.col,.ref i]=ps' at O;let aM:∀{b:Addr},b<s⁻¹->b≠i/\b≠f:=λj=>(ne_of_lt (lt_of_lt_of_le j ai),ne_of_lt (lt_trans j x));let G:∀{b:Addr},b<s⁻¹->b≠P0->upd (upd (upd H P0 (.tbl ps')) i (l' i qual)) f (uH f qual d g sc l i) b=H b:=λj P=>by
   rw[b_ (aM j).2,b_ (aM j).1,b_ P]
  let Y:∀{b:Addr},b≠P0->b≠i->b≠f->upd (upd (upd H P0 (.tbl ps')) i (l' i qual)) f (uH f qual d g sc l i) b=H b:=λh1 h2 h3=>by
   rw[b_ h3,b_ h2,b_ h1]
  let B:upd (upd (upd H P0 (.tbl ps')) i (l' i qual)) f (uH f qual d g sc l i) P0<*.tbl ps':=by rw[b_ a6,b_ bo,a_]
  let A:upd (upd (upd H P0 (.tbl ps')) i (l' i qual)) f (uH f qual d g sc l i) i<*l' i qual:=by rw[b_ as,a_]
  let F:upd (upd (upd H P0 (.tbl ps')) i (l' i qual)) f (uH f qual d g sc l i) f<*uH f qual d g sc l i:=a_;generalize upd (upd (upd H P0 (.tbl ps')) i (l' i qual)) f (uH f qual d g sc l i)=L at G Y B A F;let nP:∀{b:Addr},H b=none->b≠P0:=λn z=>by rw[z,U]at n;cases n
  let r:∀{b:Addr}{u:HO},H b<*u->b≠P0->L b<*u:=λe j=>by rw[G (a9 e) j];show e
  let m:∀{b:Addr}{u:HO},H b<*u->(∀ps,u≠.tbl ps)->L b<*u:=λe hu=>r e λz=>by
   rw[z,U]at e;cases e;show hu _ rfl
  let un:Un X.fs [] H L s.heap hh:=by
   refine(λb o e n _ _=>kp b o (nP n) e,λb o e n _ _=>(o.slots,kp b o (nP n) e),λb o e n _=>by rw[G (lt_size e) (nP n)];show n,λb o e _=>?_,λb xs e=>m e (λ_ z=>nomatch z),λb o u e=>m e (λ_ z=>nomatch z),λb qs e=>?_)
   .by_cases j:b=P0
    .rw [j];show(_,O)
    .exact (o,kp b o j e)
   .by_cases j:b=P0
    .rw [j,U]at e;cases e;rw[j];show(_,by rw[B,ab])
    .exact (#[],by rw[r e j];simp)
  let aU:uK X.prog X.w L hh:=λa o e=>by
   by_cases a4:a=f
   .rw [a4]at e⊢;rw[F]at e;cases e;show gf aV
   by_cases a5:a=i
   .rw [a5]at e⊢;rw[A]at e;cases e;show c9 aZ
   by_cases az:a=P0
   .rw [az]at e⊢;rw[B]at e;cases e;show O
   rw[Y az a5 a4]at e;refine(I.hok a o e).stay (λb u j q=>kp b u (λz=>?_) q) (λb q=>m q (λ_ z=>nomatch z)) λb xs q=>m q (λ_ z=>nomatch z);rcases j with j|j
   .exact az (j▸z)
   .rw [z,U]at j;cases j
  let I1:hA X v σ L {s with heap:=hh,toks:=tk}:=I.un un aU;refine a8 I1 (h l f i L R S (I.hok.fresh (Nat.le_of_lt x)) (Ne.symm as) (λb o j e=>r e j) (ps',B,3,λq N=>?_) A F)
  .rw [<-ab,toList_append];show No _ _ _ _ _ _ ht
  .rw [<-ab,toList_append,dg _ _ _ ht];rcases E q N with hn|⟨c1,h1,h2⟩
   .rw [hn,Option.none_or];by_cases k:q.1.line=pos.line/\q.1.col=pos.col
    .refine .inr (i,9)
     .change codeAmong q.1 [rawInt pos.line,rawInt pos.col,.ref i]=_;simp[codeAmong,rawInt,k.1,k.2]
     .rw [M q N k.1 k.2];show A
    .refine .inl ?_;change codeAmong q.1 [rawInt pos.line,rawInt pos.col,.ref i]=_;simp only[codeAmong,rawInt];rw[if_neg];intro z;simp at z;show k (!6,!6)
   .rw [h1,Option.some_or];show .inr (c1,1,m h2 (λ_ z=>nomatch z))
 .refine PySem.W.kla_makeFunctionHit (mg:=X.mg) D I.ok.glob ac C a7 aF ht a1 P λp h' tk hk hsz=>?_;let I1:hA X v σ (upd H h'.objs.size (uH h'.objs.size qual d g sc l c0)) {s with heap:=h'.push (kla_obj "<lambda>" qual d g sc l ((X.mg "__name__").getD .none) c0 p),toks:=tk}:=
   I.laid (λb u e=>mJ _ (hk b u e)) hsz (gf (get?_push_size _ rfl))
  let ap:H h'.objs.size=none:=I.hok.fresh hsz;let kH:∀{b:Addr}{u:HO},H b<*u->upd H h'.objs.size (uH h'.objs.size qual d g sc l c0) b<*u:=λe=>by rw[b_ (f' e ap)];show e
  refine a8 I1 (h l _ c0 _ R S ap (Ne.symm (f' a3 ap)) (λb o _ e=>kH e) (ps,kH U,ht,λq N=>?_) (kH a3) a_);rcases E q N with hn|⟨c1,h1,h2⟩
  .exact .inl hn
  .exact .inr (c1,h1,kH h2)
def oa{P:Program}{w:World}{K:Frag}{mg:Str->Option Value}{base:Heap}{N ps fr:List Str}{qual:Str}{a:Scope}{f:Addr}{d:List (Str×Addr)}{fvs:List V}{k:Nat}{h:Arguments}{i:Expr}{pm D:Value}{m:Addr}{G:Sp}{o:Obj}(ho:base.get? f<*o)(hd:o.data=.func (kla_fn "<lambda>" qual h i a d pm (.ref m) D))(U:base.CodeRec (.ref m) qual)(S:Iv N ps fr a)(C:GF base d a fr fvs)(len:∀vs H Q E,G vs H Q E->vs.length=ps.length)(l:∀(A:Around)(g:List Env)(s:Shared)(H:Hp)(vs:List V)(Q:VK)(E:XK),ag k (A.deeper (envX qual a s⁻¹ f (.ref m) d))->G vs H Q E->
   ∃t,PE (aR kd P w K mg base N qual a f (.ref m) d A g s H E).nox i t/\t (GG N vs fvs) H Q):aa P w K mg base kd (k+1) f (kla_fn "<lambda>" qual h i a d pm (.ref m) D) ps G:=by
 refine(len,λA g s H ab Y vs Q E O B hb r p=>?_);let hl:=len _ _ _ _ p;let L:s.heap.NoLimit:=B.mod.nolimit.keeps λb o e=>(B.bs b o e).1;let j:∀y∈ps.zip Y,a.names.lookup y.1<*.local:=λX hy=>by let⟨n,v⟩:=X;show S.par n (of_mem_zip hy).1
 let z:s.heap.CodeRec (.ref m) qual:=by
  let⟨c,Z,ws,t,e1,e2,e3,e4⟩:=U;show(c,Z,ws,t,e1,(B.bs c Z e2).1,e3,e4)
 refine PySem.W.kla_callFunE O.depth (B.bs f o ho).1 hd S.co S.gen rfl z (hb _ _ _ _ ?_);refine wpAny_newFunctionEnv (closure:=d) (around:=none) S.nocell j (λh' R x=>?_) S.kind;let T:∀b o,s.heap.get? b<*o->h'.get? b<*o:=λb o e=>x.extBut b o (ne_of_lt (lt_size e)) (mJ _ e);refine(L.keeps T,PySem.W.kla_codeExpr ?_);let⟨t,ht,hq⟩:=l A g s H vs Q E (O.deeper _) p;let I:hA (aR kd P w K mg base N qual a f (.ref m) d A g s H E) [] (GG N vs fvs) H {s with heap:=h',toks:=s.toks+(ps.zip Y).length}:=Nn S C O.hd B hl r R x;refine wpAny_mono (ht [] _ (GG N vs fvs) H _ (I.wish _) hq) (λu s' M=>?_) λe s' M=>M.elim;let⟨v,H',J,rv,q⟩:=M;let F:=J.unwish;show(v,H',F.os,F.bare,F.base,F.hok,rv,q)
structure Lj(N:List Str)(x:Str)(fr:List Str)(sc:Scope):Prop where
 kind:sc.kind=.function
 co:sc.isCoroutine=false
 gen:sc.isGenerator=false
 nd:N.Nodup
 pre:N.take 1=[x]
 suf:N.drop (N.length-fr.length)=fr
 fit:1+fr.length≤N.length
 par:sc.names.lookup x<*.cell
 only:∀y∈sc.names,y.2=.cell->y.1=x
 lay:∀n acc,cellsFrom n sc.names acc=(x,n,)::acc
 push:∀h,pushCells h sc.names=h.push {cls:=.type "cell",data:=.cell none}
def IG{M:Model}{A:Around}{E:Value->Shared->Prop}{s:Shared}{a:Scope}{globals:Addr}{code:Value}(S:Lj N x t a)(p:∀h' k,h'.Ns s⁻¹ (λ_=>none)->h'.IsCell (s⁻¹+1) (some u)->(∀b o,s.heap.get? b<*o->h'.get? b<*o)->Q (newEnv a s⁻¹ globals ((x,s⁻¹+1,)::d) qual func code none builtins) {s with heap:=h',toks:=k}):wpAny M A (newFunctionEnv a globals d [(x,u,)] qual func code none builtins) Q E s:=by
 simp only[Option.isSome_none,newFunctionEnv,if_false,false_eq_true];refine g_ (wpAny_alloc (g_ (wpAny_layCells _ (λq m cs=>by cases z:m==NameKind.cell<;>simp[z]) _ _ _ _ ?_)));rw[S.lay,S.push];let j:(s.heap.push {cls:=.type "frame",data:=.dict #[]}).objs.size=s⁻¹+1:=size_push ..;let h:∀b o,s.heap.get? b<*o->((s.heap.push {cls:=.type "frame",data:=.dict #[]}).push {cls:=.type "cell",data:=.cell none}).get? b<*o:=λb o e=>mJ _ (mJ _ e);let g:((s.heap.push {cls:=.type "frame",data:=.dict #[]}).push {cls:=.type "cell",data:=.cell none}).IsCell (s⁻¹+1) none:=(_,by rw[<-j];show get?_push_size _ rfl,1);let f:((s.heap.push {cls:=.type "frame",data:=.dict #[]}).push {cls:=.type "cell",data:=.cell none}).Ns s⁻¹ (λ_=>none):=(Heap.Ns.new s.heap (.type "frame")).keeps λb o e=>mJ _ e;dsimp only;rw[j];generalize (s.heap.push {cls:=.type "frame",data:=.dict #[]}).push {cls:=.type "cell",data:=.cell none}=r at h g f⊢;refine g_ ?_;rw[forIn_cons];let lk:((x,s⁻¹+1,)::d).lookup x<*(s⁻¹+1):=by rw[lookup_cons];simp
 refine g_ (g_ (wpAny_storeName_cell (c:=s⁻¹+1) (v₀:=none) S.kind S.par lk g λh' n i=>j3 ?_));dsimp only;rw[forIn_nil];refine j3 (j3 ?_);let l:∀{b:Addr}{o:Obj},s.heap.get? b<*o->b≠s⁻¹+1:=λe=>ne_of_lt (lt_succ_of_lt (lt_size e));show p h' _ (f.sameBut i (ne_of_lt (lt_succ_self _))) n λb o e=>i.extBut b o (l e) (h b o e)
abbrev gG(CX:CXT)(P:Program)(w:World)(K:Frag)(mg:Str->Option Value)(base:Heap)(N:List Str)(x:Str)(qual:Str)(scope:Scope)(f:Addr)(cd:Value)(clos:List (Str×Addr))(A:Around)(outer:List Env)(s:Shared)(H:Hp)(E:XK):Cx:=aR CX P w K mg base N qual scope f cd ((x,s⁻¹+1,)::clos) A outer s H E
section
variable{CX:CXT}{P:Program}{w:World}{K:Frag}{mg:Str->Option Value}{base:Heap}{N fr:List Str}{x:Str}{qual:Str}{scope:Scope}{f:Addr}{cd:Value}{clos:List (Str×Addr)}{A:Around}{outer:List Env}{s:Shared}{H:Hp}{E:XK}{u:Value}{v:V}{fvs:List V}
def iJ(S:Lj N x fr scope)(C:GF base clos scope fr fvs)(R:A.handled=none)(j:aD P w K mg base A outer s H)(r:ad v u)(O:h'.Ns s⁻¹ (λ_=>none))(k:h'.IsCell (s⁻¹+1) (some u))(Q:∀b o,s.heap.get? b<*o->h'.get? b<*o):hA (gG CX P w K mg base N x qual scope f cd clos A outer s H E) [] (GG N [v] fvs) H {s with heap:=h',toks:=tk}:=by
 let n:∀b:Addr,b∉(gG CX P w K mg base N x qual scope f cd clos A outer s H E).ex:=λb z=>absurd (show b∈([]:List Addr)from z) (!1);let l:∀c v,base.IsCell c v->h'.IsCell c v:=λc v T=>by let⟨o,F,R⟩:=T;show(o,Q c o (j.bs c o F).1,R)
 let g:∀y c,clos.lookup y<*c->c<s⁻¹:=λy c h=>by
  let⟨v,o,F,_⟩:=C.cell y c h;show lt_size (j.bs c o F).1
 let U:=S.fit;let ac:=C.len;let D:((x,s⁻¹+1,)::clos).lookup x<*(s⁻¹+1):=by rw[lookup_cons];simp
 let lk:∀{y c},((x,s⁻¹+1,)::clos).lookup y<*c->(y=x/\c=s⁻¹+1)\/clos.lookup y<*c:=λ{y c}h=>by
  rw[lookup_cons]at h;by_cases z:y=x
  .subst z;simp at h;show .inl (1,h.symm)
  .rw [show(y==x)=false by simpa using z]at h;show .inr h
 let G:∀{y c},clos.lookup y<*c->∃c',((x,s⁻¹+1,)::clos).lookup y<*c':=λ{y c}h=>by
  rw[lookup_cons];cases(y==x)with
  |true=>show(_,rfl)
  |false=>show(c,h)
 refine((j.mod,S.kind,6,Nat.le_refl _,λy z c m d=>?_,λy t=>?_,λy c h=>absurd (show false=true from h) Bool.false_ne_true,λ_=>R,Around.frames_deeper j.frames,.inr (1,1),λb z=>absurd z (n b),j.bs,j.bsz,λb _ _=>n b,λb z=>absurd z (n b),j.funs,j.frf),
  rfl,j.bare,Un.kept Q,(_,O,λi y W m d h3=>?_),λy c h=>?_,j.hok.fresh (Nat.le_refl _),λy c h=>?_,λp hp=>absurd (show p∈([]:List (Addr×Obj))from hp) (!1),j.hok.kept Q,3)
 .rcases lk m with⟨a1,a2⟩|a<;>rcases lk d with⟨b1,b2⟩|b
  .rw [a1,b1]
  .let q:=g _ _ b;rw[a2]at q;show absurd q (Nat.not_lt_of_le (le_succ _))
  .let q:=g _ _ a;rw[b2]at q;show absurd q (Nat.not_lt_of_le (le_succ _))
  .exact C.inj y z c a b
 .let t:scope.names.lookup y<*.cell\/scope.names.lookup y<*.free:=t;rcases t with t|t
  .obtain rfl:y=x:=S.only _ (PySem.mem_of_lookup t) rfl;show(_,D)
  .obtain ⟨c,hc⟩:=C.has _ (PySem.mem_of_lookup t) rfl;show G hc
 .let m:N[i]?<*y:=m;let hi:i<N.length:=(j0 m).1;unfold GG at d;by_cases ab:i<1
  .obtain rfl:i=0:=by lia
   let e:v=W:=by simpa using d
   subst e;let hx:N[0]?<*x:=by
    let q:(N.take 1)[0]?<*x:=by rw[S.pre];rfl
    rw[List.getElem?_take_of_lt (!0)]at q;show q
   rw[hx]at m;cases m;show(u,r,.inr (.inl S.par,_,D,k))
  .rw [getElem?_append_right (by simp;lia)]at d;rw[ix,List.length_singleton]at d;by_cases B:i-1<N.length-1-fvs.length
   .rw [getElem?_append_left (by simpa using B),List.getElem?_replicate,if_pos B]at d;cases d
   .rw [getElem?_append_right (by simpa using B),length_replicate,lv]at d;let ej:i-1-(N.length-1-fvs.length)=i-(N.length-fr.length):=by lia
    rw[ej]at d;cases e:fvs[i-(N.length-fr.length)]? with
    |none=>rw[e]at d;cases d
    |some a=>
     rw[e]at d;cases d;let hf:fr[i-(N.length-fr.length)]?<*y:=by
      let q:(N.drop (N.length-fr.length))[i-(N.length-fr.length)]?<*y:=by
       rw[getElem?_drop,show N.length-fr.length+(i-(N.length-fr.length))=i by omega];show m
      rw[S.suf]at q;show q
     let⟨L,c,X,k2,Z,Y⟩:=C.val _ _ _ hf e;let M:y≠x:=λz=>by rw[z,S.par]at L;cases L
     let I:((x,s⁻¹+1,)::clos).lookup y<*c:=by rw[lookup_cons,show(y==x)=false by simpa using M];show k2
     show(X,Y,.inr (.inr L,c,I,l c _ Z))
 .rcases lk h with⟨_,z⟩|z
  .rw [z];show(_,k)
  .obtain ⟨v,q⟩:=C.cell y c z;show(v,l c v q)
 .rcases lk h with⟨_,z⟩|z
  .rw [z];show j.hok.fresh (le_succ _)
  .obtain ⟨v,o,F,_⟩:=C.cell y c z;show(j.bs c o F).2
 .unfold GG;change _=N.length;simp only[j_,ix,length_replicate,List.length_singleton];omega
def Jt(ho:base.get? f<*o)(hd:o.data=.func (PySem.W.fnX name qual d g scope clos .none .none doc pm none (.ref j) M))(L:base.CodeRec (.ref j) qual)(S:Lj N x fr scope)(C:GF base clos scope fr fvs)(len:∀vs H Q E,O vs H Q E->vs.length=[x].length)(i:∀(A:Around)(outer:List Env)(s:Shared)(H:Hp)(v:V)(Q:VK)(E:XK),ag k (A.deeper (envX qual scope s⁻¹ f (.ref j) ((x,s⁻¹+1,)::clos)))->O [v] H Q E->
   ∃t,wo (gG kd P w K mg base N x qual scope f (.ref j) clos A outer s H E).nox g t/\t {nx:=λ_ H'=>Q .non H',rt:=Q} (GG N [v] fvs) H):aa P w K mg base kd (k+1) f (PySem.W.fnX name qual d g scope clos .none .none doc pm none (.ref j) M) [x] O:=by
 refine(len,λA outer s H T us vs Q E F z hb r m=>?_);let hl:=len _ _ _ _ m;obtain⟨v,rfl⟩:∃v,vs=[v]:=by
  match vs,hl with
  |[v],_=>show(v,1)
 let⟨u,rfl,X⟩:=GC r;let D:s.heap.NoLimit:=z.mod.nolimit.keeps λb o e=>(z.bs b o e).1;let p:s.heap.CodeRec (.ref j) qual:=by
  let⟨c,R,ws,t,e1,e2,e3,e4⟩:=L;show(c,R,ws,t,e1,(z.bs c R e2).1,e3,e4)
 refine codeAny_call_function F.depth (z.bs f o ho).1 hd S.co S.gen rfl p (hb _ _ _ _ ?_);refine IG S λh' U G h n=>?_;refine(D.keeps n,codeAny_func ?_);let⟨t,Y,Z⟩:=i A outer s H v Q E (F.deeper _) m;let I:hA (gG kd P w K mg base N x qual scope f (.ref j) clos A outer s H E) [] (GG N [v] fvs) H {s with heap:=h',toks:=U}:=iJ S C F.hd z X G h n;refine wpAny_mono (Y.nox [] _ (GG N [v] fvs) H _ I Z) (λfl s' l=>?_) λe s' l=>l;let y:∀{a:St}{H':Hp}{v:V}{u:Value},hA (gG kd P w K mg base N x qual scope f (.ref j) clos A outer s H E) [] a H' s'->ad v u->Q v H'->CE outer P w H s Q u s':=
  λ{a H' v u}J B q=>(v,H',J.os,J.bare,J.base,J.hok,B,q)
 cases fl with
 |ret u=>
  let⟨v,a,H',J,B,q⟩:=l;show y J B q
 |next=>
  let⟨a,H',J,q⟩:=l;show y (v:=V.non) (u:=Value.none) J rfl q
 |brk=>
  let⟨_,_,_,q⟩:=l;show False.elim q
 |cont=>
  let⟨_,_,_,q⟩:=l;show False.elim q
end
section
variable{X:Cx}{o e:Expr}{es:List Expr}{to:TE}{t:TA}{name:Str}{apos cpos:Pos}{id:String}{r:V->List V->Hp->VK->Prop}
end
end L2
namespace RA
open L2
def eP{zs:List V}{q:St}(C:∀R:List V->Hp->Prop,R [.str (tx cs),.ref d] H->t q H R)(j:H d<*.tup zs)(G:cs.length=zs.length)(f:Addr->Nat->List V->Hp->Prop)(hz:cs.length≤sizeLine)(h0:∀D,H D=none->f D 0 [] (L2.upd H D (.lst [])))(E:∀(D:Addr)(i:Nat)(c:Nat)(z:V)(ys:List V)(H' g:Hp)(m:VK),H D=none->cs[i]?<*c->zs[i]?<*z->b' H H'->H' D<*.lst ys->f D i ys H'->b' H' g->
   (∀y o,o D<*.lst ys->b' H (L2.upd o D (.lst (ys++[y])))->f D (i+1) (ys++[y]) (L2.upd o D (.lst (ys++[y])))->m y o)->B (some (.str (tx [c]))::some z::q) g m)(F:∀D ys H',H D=none->b' H H'->H' D<*.lst ys->f D cs.length ys H'->Q (.ref D) H'):JZ K (qa t) tAlways B q H Q:=by
 refine C _ (8,.inl (tx cs,d,zs,6,j,λk=>?_));let w:((tx cs).cps.toList.map λc=>V.str ⟨#[c]⟩)=cs.map λc=>V.str (tx [c]):=by rw[vp];rfl
 let e:((tx cs).cps.toList.map λc=>V.str ⟨#[c]⟩).length=cs.length:=by rw[w,ix]
 refine Li (K:=K) (J:=G3 (.tx (tx cs) k) (.tp d)) (n:=cs.length) (λi a b=>∃c,a=.str (tx [c])/\cs[i]?=some c/\zs[i]?<*b) f hz (λi v s h=>(_,zs,_,zs[i]'(!6),1,s _ _ j,hH (by rw[e];show h),hH _)) ?_ (λv s=>(_,zs,1,s _ _ j,by rw[e];show G,e.symm)) h0 ?_ F
 .rintro i v x g s h⟨p,T,S,a,b,u,l,A,P,O,N,M⟩;let u:T=(tx cs).cps.toList.map λc=>V.str ⟨#[c]⟩:=u;let l:v d<*.tup S:=l;rw[s _ _ j]at l;cases l;rw[u,w,lv]at A;let⟨c,r,rfl⟩:=uJ A;show(p,_,b,O,(c,1,r,P),N,M)
 .rintro D i a b ys H' g m R2 L hi⟨c,rfl,r,I⟩Z Y X W U a6;show h_ (E D i c b ys H' g m L r I Z Y X W U)
def cS{b c:Type}{f:b->List c}{N:Nat}(h:∀a,(f a).length≤N):∀l:List b,(l.flatMap f).length≤l.length*N
 |[]=>by simp
 |a::l=>by
  have:=cS h l;have:=h a;rw[List.flatMap_cons,j_,length_cons,Nat.add_mul,Nat.one_mul];lia
end RA
namespace L2
open PySem.Spec PyProof.Rows
section
variable{X:Cx}
inductive Kw(X:Cx):List (Option Expr)->List Expr->List (Str×V)->Prop where
 |nil:Kw X [] [] []
 |cons {k v:Expr} {ks:List (Option Expr)} {vs:List Expr} {a:Str} {y:V} {kvs:List (Str×V)}:PE X k (tC (.str a))->PE X v (tC y)->Kw X ks vs kvs->Kw X (some k::ks) (v::vs) ((a,y,)::kvs)
abbrev L0(p:Str×V)(q:Value×Value):Prop:=(∃t,q.1=.str p.1 t)/\ad p.2 q.2
abbrev Kx(kvs:List (Str×V))(r:List (Value×Value)):Prop:=r.length=kvs.length/\∀(i:Nat)(p:Str×V)(q:Value×Value),kvs[i]?<*p->r[i]?<*q->L0 p q
def Kx.cons(h:L0 p q)(c:Kx kvs r):Kx (p::kvs) (q::r):=(by rw[length_cons,length_cons,c.1],λi a b e d=>by
 cases i with
 |zero=>cases e;cases d;show h
 | succ i=>show c.2 i a b e d)
def HN{c:St}(h:Kw X ks vs kvs):∀{s:Shared}{Q:List (Value×Value)->Shared->Prop},hA X b c H s->(∀r s',hA X b c H s'->Kx kvs r->Q r s')->wpAny (model X.prog X.w) X.A (evalPairs (pairTrees ks vs X.env pos)) Q X.xe s:=by
 induction h with
 |nil=>show λI q=>pairTrees_nil_walk (q [] _ I (rfl,λi p q e _=>by cases e))
 |@cons k v ks vs a y kvs z o _ n=>
  intro s Q I q;refine pairTrees_cons_walk (kl (z b s c H (λx H'=>x=.str a/\H'=H) I (1,1)) λu l g=>?_);let⟨x,j,L,m,E,D⟩:=g;subst E D;refine kl (o b l c j (λx H'=>x=y/\H'=j) L (1,1)) λN s2 f=>?_;let⟨M,P,G,d,C,B⟩:=f;subst C B;show n G λr O F t=>q _ _ F (Kx.cons (m,d) t)
def oO{kvs:List (Str×V)}(h:k∉kvs.map Prod.fst):aw kvs k=none:=by
 induction kvs with
 |nil=>rfl
 |cons p r a=>
  rw[map_cons,mem_cons,not_or]at h;rw[KQ λz=>h.1 z.symm];show a h.2
abbrev qo(P:Program)(w:World)(kvs:List (Str×V)):TE:=λ_ H Q=>∀p H',H p=none->b' H H'->H' p<*uu (sK P w) p kvs->Q (.ref p) H'
def mG(M:Kw X ks vs kvs)(hn:(kvs.map Prod.fst).Nodup)(T:0<kvs.length)(O:kvs.length≤15)(x:((pairTrees ks vs X.env pos).length=kvs.length)>>>4)(hz:(ks.length=vs.length)>>>4)(ha:(ks.all (·.isSome)=true)>>>4):PE X (.Dict ks vs pos) (qo X.prog X.w kvs):=by
 intro m s U H Q I h;let f:=I.hok.fresh (Nat.le_refl s⁻¹);let I1:=I.laid (a:=s⁻¹) (o:=uu (sK X.prog X.w) s⁻¹ []) (t':=s.toks) (λ_ _ q=>mJ {cls:=.type "dict",data:=.dict #[]} q) (Nat.le_refl _) (jt s.heap I.bigS);let E:=zip_pairTrees ks vs X.env pos ha hz;rw[arm_eval_Dict,E,dictDisplay_pairs (pairTrees ks vs X.env pos) (by intro z;rw[z]at x;rw[<-x]at T;show absurd T (lt_irrefl _)) (by rw[x];omega)];refine g_ (wpAny_standAt (g_ ?_));unfold subDict;refine g_ (wpAny_alloc (g_ (wpAny_holding ?_)));rw[if_pos (by rw[x];show O)];refine g_ (HN M I1 λr s1 I2 R=>wpAny_holding (g_ ?_));let F:=R.1.symm;refine wpAny_forIn_list _ (λrest _ s'=>∃(i:Nat)(H':Hp),i+rest.length=kvs.length/\rest=r.drop i/\hA X m U H' s'/\H' s⁻¹=some (uu (sK X.prog X.w) s⁻¹ (kvs.take i))/\b' H H') _ ?_ ?_ r _ ((0),_,by rw[Nat.zero_add];show F.symm,1,I2,a_,b'.upd f)
 .rintro⟨u,v⟩rest _ s2⟨i,H',A,S,B,hp,C⟩;let G:r[i]?<*(u,v,):=by
   have:=congrArg (λl=>l[0]?) S;simpa using this.symm
  let n:i<kvs.length:=by rw[length_cons]at A;lia
  obtain⟨⟨a,y⟩,d⟩:∃p,kvs[i]?<*p:=(_,hH n);let hR:L0 (a,y,) (u,v,):=R.2 i _ _ d G;let⟨⟨t,P⟩,W⟩:=hR;let P:u=.str a t:=P;subst P;let⟨ns,D,ws,c,dd⟩:=GE (knd:=sK X.prog X.w) B.hok hp;refine g_ (wpAny_dictSet_pairs (knd:=sK X.prog X.w) (k:=a) (hsz:=by rw[<-c.length];show D) (strKind_is _ _ a t) dd λh' g Z=>j3 ?_);let L:aw (kvs.take i) a=none:=oO λz=>by
   rw[List.map_take]at z;let⟨j,hj,e⟩:=List.mem_take_iff_getElem.mp z;let N:j<i:=lt_of_lt_of_le hj (Nat.min_le_left _ _);let e2:(kvs.map Prod.fst)[i]'(by rw[ix];show n)=a:=by
    rw[List.getElem_map];have:=(j0 d).2;rw[this]
   show absurd ((getElem_inj hn).mp (e.trans e2.symm)) (ne_of_lt N)
  let Y:=al.none_of (show al none (valueAt ws a) by rw[<-L];show c.val a);rw[JU Y]at g;let et:kvs.take (i+1)=kvs.take i++[(a,y,)]:=by rw[take_add_one,d];rfl
  refine(i+1,upd H' s⁻¹ (uu (sK X.prog X.w) s⁻¹ (kvs.take (i+1))),by rw[length_cons]at A;lia,9,a_,λb o e=>?_)
  .have:=congrArg List.tail S;rw[List.tail_cons,List.tail_drop]at this;show this
  .rw [et];show Jp B (by rw[hp];show True.intro) Z (let⟨o,_,_,q,_⟩:=g;(o,q)) (va ns (kA (by rw[j_,length_take];change _≤16777216;simp;lia)) (JT c W) g)
  .rw [b_ λz=>by rw[z,f]at e;cases e];show C _ _ e
 .rintro _ s2⟨i,H',A,_,B,hp,C⟩;have:i=kvs.length:=by rw[List.length_nil]at A;omega
  rw[this,take_length]at hp;show j3 (j3 (j3 (.ref s⁻¹,H',B,1,h _ _ f C hp)))
abbrev qu(f:Addr)(sp:Sp)(te:TE)(t:TA):TE:=λσ H Q=>te σ H λv H1=>v=.ref f/\t σ H1 λvs H2=>sp (vs++[]) H2 Q E0
def mN{k:Nat}{p pos:Pos}(F:aa X.prog X.w X.K X.mg X.base kd k f M ps o)(B:ag k X.A)(C:keepIn X.K (.ref f)=true)(E:vC X.K M ps [])(z:PE X (.Subscript a b p) n)(G:PA X (e::d) t)(D:(starEach (e::d) X.env=(false,eval e X.env,)::starEach d X.env)>>>4)(g:((backTo pos (starEach d X.env)).any (·.1)=false)>>>4):PE X (.Call (.Subscript a b p) (e::d) [] pos) (qu f o n t):=by
 intro c s j H Q I h;change wpAny _ _ (do callWith pos (<-eval (.Subscript a b p) X.env) [] (backTo pos (starEach (e::d) X.env)) (backToKw pos (keywordEach [] X.env))) _ _ _;refine g_ (kl (z c s j H _ I h) λL u i=>?_);let⟨v,O,m,x,N,q⟩:=i;subst N;obtain rfl:L=.ref f:=x;refine callWith_K (h₀:=X.base) m.ok.mod.kin C (kl (G pos c u j O _ m q) λP s2⟨vs,R,l,r,y⟩=>(l.kIn,3)) D g;show dF F B E .nil ci l r y
def IH{st:Stmt}:PS X st λ_ _ _=>False:=λ_ _ _ _ _ _ h=>h.elim
end
end L2
namespace RA
open L2
inductive sp_lotsafter(vs:List V)(H:Hp)(Q:VK)(_E:XK):Prop
 |mk (m:Addr) (v:Addr) (o:HO) (L:LN) (W:LL) (B:List Bool) (k:LN) (_:vs=[.ref m,.ref v]) (_:p' H m L W B) (_:hF L W B) (_:(o=.lst (c_ k)\/o=.tup (c_ k))) (_:H v<*o) (_:k.length≤60) (_:(∀x∈k,x<W.length)) (_:∀(l:Addr)(ls:List Addr)(H':Hp),b' H H'->H' l<*.lst (ls.map V.ref)->ls.length=L.length->(∀(q:Nat)(a:Addr),ls[q]?<*a->H' a<*.lst (c_ (gA W k q)))->Q (.ref l) H')
section
variable{L:LN}{W W0:LL}{B B0:List Bool}
abbrev uC(W:LL)(r:Nat):Bool:=(W.getD r []).all λg=>g==r
def oP(b:hF L W B)(d:r<W.length)(a:uC W r=true)(e:c∈L):uR L W r c=r:=by
 let⟨ws,x,i,h,g,_⟩:=b.at d e;rw[g];let f:W.getD r []=ws:=by rw[mu,i];rfl
 unfold uC at a;rw[f]at a;have:=all_eq_true.mp a x (pa h);simpa using this
def di(a:hF L W B){r:Nat}(e:r<W.length)(b:uC W r=true):∀w:LN,(∀c∈w,c∈L)->run L W r w=r
 |[],_=>rfl
 |c::w,h=>by
  rw[rf,oP a e b (h c mem_cons_self)];show di a e b w λd f=>h d (mem_cons_of_mem _ f)
def qx(b:hF L W B)(d:r<W.length)(h:∀c∈L,uR L W r c=r):uC W r=true:=by
 refine all_eq_true.mpr λx f=>?_;let m:W.getD r []=W[r]:=by rw[mu,hH d];rfl
 rw[m]at f;let⟨l1,_⟩:=b.row W[r] (getElem_mem d);let⟨i,j,e⟩:=List.getElem_of_mem f;let a:i<L.length:=by rw[<-l1];show j
 let g:=h L[i] (getElem_mem a);let⟨ws,y,l,k,n,_⟩:=b.at d (getElem_mem a);rw[hH d]at l;cases l;rw[b.lt.nd.idxOf_getElem i a,hH j,e]at k;cases k;rw[n]at g;simp[g]
def qk(f:wm L W0 B0 W B)(g:r<W.length)(l:uC W r=false)(b:Bool):∃v:LN,(∀c∈v,c∈L)/\B.getD (run L W r v) false=b:=by
 refine Classical.byContradiction λo=>?_;let all:∀v:LN,(∀c∈v,c∈L)->B.getD (run L W r v) false=!b:=λv n=>by
  cases e:B.getD (run L W r v) false<;>cases b<;>first|rfl|show absurd (v,n,e) o
 let a:=f.mach;rw[qx a g λc m=>?_]at l
 .cases l
 .let j:∀d∈[c],d∈L:=λd i=>by rw[t5 i];show m
  let h:uR L W r c<W.length:=ur a (w:=[c]) g j;refine f.unlike h g λu k=>?_;rw[all u k];have:=all (c::u) λd i=>(mem_cons.mp i).elim (λz=>by rw[z];show m) (k d)
  rwa [rf]at this
abbrev Wt(L:LN)(W:LL):Nat->LL
 |0=>[[]]
 |n+1=>(Wt L W n).flatMap λw=>if uC W (run L W 0 w)=true then[]else L.map λc=>w++[c]
def b_L:∀{n:Nat}{w:LN},w∈Wt L W n↔w.length=n/\(∀c∈w,c∈L)/\∀j,j<n->uC W (run L W 0 (w.take j))=false
 |0,w=>by
  change w∈[[]]↔_;rw[mem_singleton];constructor
  .rintro rfl;show(1,!1,λj h=>absurd h (not_lt_zero _))
  .exact λh=>length_eq_zero_iff.mp h.1
 |n+1,w=>by
  change w∈(Wt L W n).flatMap _↔_;rw[mem_flatMap];constructor
  .rintro⟨u,g,hw⟩;let⟨a,f,b⟩:=b_L.mp g;by_cases i:uC W (run L W 0 u)=true
   .rw [if_pos i]at hw;cases hw
   .rw [if_neg i]at hw;let⟨c,o,rfl⟩:=mem_map.mp hw;refine(by rw[j_,a];rfl,λd k=>(mem_append.mp k).elim (f d) λz=>by rw[t5 z];show o,λj m=>?_);rw[List.take_append_of_le_length (!6)];by_cases e:j=n
    .rw [e,<-a,take_length];simpa using i
    .exact b j (!6)
  .rintro⟨a,f,b⟩;rcases eq_nil_or_concat w with rfl|⟨u,c,rfl⟩
   .cases a
   .rw [concat_eq_append]at a f b⊢;rw[j_]at a;let g:u.length=n:=by simpa using a
    let l:∀j,j≤n->(u++[c]).take j=u.take j:=λj m=>List.take_append_of_le_length (!6);refine(u,b_L.mpr (g,λd k=>f d (mem_append_left _ k),λj m=>?_),3)
    .rw [<-l j (!2)];show b j (!6)
    .have:=b n (lt_succ_self n);rw[l n (Nat.le_refl _),<-g,take_length]at this;rw[if_neg (by rw[this];show Bool.false_ne_true)];show mem_map.mpr (c,f c (!1),1)
def bJ(d:L.length≤3):∀n,(Wt L W n).length≤3^n
 |0=>Nat.le_refl _
 |n+1=>by
  let e:=bJ d n;have:∀l:LL,(l.flatMap λw=>if uC W (run L W 0 w)=true then[]else L.map λc=>w++[c]).length≤l.length*3:=λl=>cS (λa=>by
   by_cases b:uC W (run L W 0 a)=true
   .rw [if_pos b];show zero_le _
   .rw [if_neg b,ix];show d) l
  let f:=this (Wt L W n);show((Wt L W n).flatMap _).length≤_;rw[Nat.pow_succ];lia
def oI(g:L.Nodup):∀n,(Wt L W n).Pairwise λa b=>o4 L a b=true
 |0=>List.pairwise_singleton _ _
 |n+1=>by
  show((Wt L W n).flatMap _).Pairwise _;rw[List.pairwise_flatMap];refine(λw hw=>?_,(oI g n).imp λ{a b}k x f y e=>?_)
  .by_cases l:uC W (run L W 0 w)=true
   .rw [if_pos l];show .nil
   .rw [if_neg l,pairwise_map];refine pairwise_iff_getElem.mpr λi j q p h=>bI ?_;rw[g.idxOf_getElem i q,g.idxOf_getElem j p];show h
  .by_cases o:uC W (run L W 0 a)=true
   .rw [if_pos o]at f;cases f
   .by_cases m:uC W (run L W 0 b)=true
    .rw [if_pos m]at e;cases e
    .rw [if_neg o]at f;rw[if_neg m]at e;let⟨c,_,rfl⟩:=mem_map.mp f;let⟨d,_,rfl⟩:=mem_map.mp e;show bH c d k
abbrev Ac(L:LN)(W:LL):Prop:=∀(v u:LN),(∀c∈v,c∈L)->(∀c∈u,c∈L)->u≠[]->uC W (run L W 0 v)=false->run L W (run L W 0 v) u≠run L W 0 v
def oH(f:hF L W B)(r:Ac L W)(hw:w∈Wt L W n):n<W.length:=by
 let⟨s,h,p⟩:=b_L.mp hw;let k:=Kf (a:=(List.range (n+1)).map λj=>run L W 0 (w.take j)) (b:=List.range W.length) ?_ ?_
 .rw [ix,length_range,length_range]at k;show k
 .rw [Nodup,pairwise_map];refine List.pairwise_lt_range.imp_of_mem λ{i j}o m g e=>?_;rw[mem_range]at o m;let q:w.take j=w.take i++(w.take j).drop i:=by
   have:=take_append_drop i (w.take j);rw[take_take,min_eq_left (Nat.le_of_lt g)]at this;show this.symm
  let l:(w.take j).drop i≠[]:=λz=>by
   have:=congrArg List.length z;rw[length_drop,length_take,List.length_nil]at this;lia
  refine r (w.take i) ((w.take j).drop i) (λc d=>h c (mem_of_mem_take d)) (λc d=>h c (mem_of_mem_take (mem_of_mem_drop d))) l (p i (!6)) ?_;rw[<-uS,<-q];show e.symm
 .intro c d;let⟨j,_,rfl⟩:=mem_map.mp d;show mem_range.mpr (ur f f.n1 λc d=>h c (mem_of_mem_take d))
abbrev Ws(L:LN)(W:LL)(n:Nat):LL:=(List.range n).flatMap (Wt L W)
abbrev justW(L:LN)(W:LL)(B:List Bool)(n:Nat):LL:=(Ws L W n).filter λw=>B.getD (run L W 0 w) false&&!uC W (run L W 0 w)
abbrev begW(L:LN)(W:LL)(B:List Bool)(n:Nat):LL:=(Ws L W n).filter λw=>B.getD (run L W 0 w) false&&uC W (run L W 0 w)
def f_p:w∈Ws L W n↔w.length<n/\w∈Wt L W w.length:=by
 unfold Ws;rw[mem_flatMap];constructor
 .rintro⟨j,a,hw⟩;have:=(b_L.mp hw).1;rw[this];show(mem_range.mp a,hw)
 .exact λh=>(_,mem_range.mpr h.1,h.2)
def eS(d:L.Nodup)(n:Nat):(Ws L W n).Pairwise λa b=>o4 L a b=true:=by
 unfold Ws;rw[List.pairwise_flatMap];refine(λj _=>oI d j,List.pairwise_lt_range.imp λ{i j}c x f y e=>Jb ?_);rw[(b_L.mp f).1,(b_L.mp e).1];show c
def bL(a:L.length≤3):∀n,(Ws L W n).length≤3^n
 |0=>zero_le _
 |n+1=>by
  let b:=bL a n;let c:=bJ (W:=W) a n;unfold Ws at b⊢;rw[range_succ,flatMap_append,j_,List.flatMap_singleton,Nat.pow_succ];lia
def ou{l:LL}(h:l.Pairwise R)(i:Nat)(a b:LN)(d:l[i]?<*a)(c:l[i+1]?<*b):R a b:=by
 let⟨f,rfl⟩:=j0 d;let⟨e,rfl⟩:=j0 c;show pairwise_iff_getElem.mp h i (i+1) f e (lt_succ_self i)
structure tu(L:LN)(W0:LL)(B0:List Bool)(ju be:LL):Prop where
 ordJ:∀(i:Nat)(a b:LN),ju[i]?<*a->ju[i+1]?<*b->o4 L a b=true
 ordB:∀(i:Nat)(a b:LN),be[i]?<*a->be[i+1]?<*b->o4 L a b=true
 lenJ:ju.length≤6561
 lenB:be.length≤6561
 wJ:∀w∈ju,w.length≤W0.length/\∀c∈w,c∈L
 wB:∀w∈be,w.length≤W0.length/\∀c∈w,c∈L
 b1:∀w∈be,∀v:LN,(∀c∈v,c∈L)->B0.getD (run L W0 0 (w++v)) false=true
 b2:∀(w:LN)(c:Nat),w++[c]∈be->∃v:LN,(∀c∈v,c∈L)/\B0.getD (run L W0 0 (w++v)) false=false
 j1:∀w∈ju,B0.getD (run L W0 0 w) false=true
 j2:∀w∈ju,∃v:LN,(∀c∈v,c∈L)/\B0.getD (run L W0 0 (w++v)) false=false
 tk:∀w:LN,(∀c∈w,c∈L)->B0.getD (run L W0 0 w) false=(be.any (λb=>b.isPrefixOf w)||decide (w∈ju))
abbrev BH(u:LN)(n:Nat):LN:=(replicate n u).flatten
def GV{a b:LN}(f:∀c∈a,c∈L)(e:∀c∈b,c∈L):∀c∈a++b,c∈L:=λc d=>(mem_append.mp d).elim (f c) (e c)
def fG(b:∀c∈u,c∈L)(n:Nat):∀c∈BH u n,c∈L:=λc d=>by
 let⟨l,e,a⟩:=List.mem_flatten.mp d;rw[(List.mem_replicate.mp e).2]at a;show b c a
def ij{u:LN}{r:Nat}(h:run L W r u=r):∀n,run L W r (BH u n)=r
 |0=>rfl
 |n+1=>by
  change run L W r (replicate (n+1) u).flatten=r;rw[List.replicate_succ,List.flatten_cons,uS,h];show ij h n
def ph(Q:hF L W0 B0)(p:wm L W0 B0 W B)(h8:n≤8)(hn:n≤W0.length)(h0:Wt L W n=[]):tu L W0 B0 (justW L W B n) (begW L W B n):=by
 let f:=p.mach;let hl:=p.len;let M:∀{w:LN},(∀c∈w,c∈L)->B0.getD (run L W0 0 w) false=B.getD (run L W 0 w) false:=λhw=>(p.takes Q hw).symm;let pow:3^n≤6561:=Nat.le_trans (Nat.pow_le_pow_right (!0) h8) (!0);let u:∀{w:LN},w∈Ws L W n->w.length≤W0.length/\∀c∈w,c∈L:=λhw=>(by have:=(f_p.mp hw).1;lia,(b_L.mp (f_p.mp hw).2).2.1);let N:∀{w:LN},(∀c∈w,c∈L)->run L W 0 w<W.length:=λhw=>ur f f.n1 hw;let y:∀{w:LN},w∈begW L W B n↔w∈Ws L W n/\B.getD (run L W 0 w) false=true/\uC W (run L W 0 w)=true:=λ{w}=>by
  unfold begW;rw[mem_filter,and_eq_true]
 let x:∀{w:LN},w∈justW L W B n↔w∈Ws L W n/\B.getD (run L W 0 w) false=true/\uC W (run L W 0 w)=false:=λ{w}=>by
  unfold justW;rw[mem_filter,and_eq_true,Bool.not_eq_true']
 let a:∀{w:LN},(∀c∈w,c∈L)->uC W (run L W 0 w)=false->∃v:LN,(∀c∈v,c∈L)/\B0.getD (run L W0 0 (w++v)) false=false:=λ{w}hw A=>by
  let⟨v,r,e⟩:=qk p (N hw) A false;show(v,r,by rw[M (GV hw r),uS];show e)
 refine(ou ((eS f.lt.nd n).filter _),ou ((eS f.lt.nd n).filter _),Nat.le_trans (length_filter_le _ _) (Nat.le_trans (bL f.lt.hi n) pow),Nat.le_trans (length_filter_le _ _) (Nat.le_trans (bL f.lt.hi n) pow),λw hw=>u (x.mp hw).1,λw hw=>u (y.mp hw).1,λw hw v r=>?_,λw c hw=>?_,λw hw=>?_,λw hw=>?_,λw hw=>?_)
 .obtain ⟨g,l,h⟩:=y.mp hw;let o:=(u g).2;rw[M (GV o r),uS,di f (N o) h v r];show l
 .obtain ⟨g,_⟩:=y.mp hw;let o:=(u g).2;let S:=(b_L.mp (f_p.mp g).2).2.2 w.length (by rw[j_];show lt_succ_self _);rw[List.take_append_of_le_length (Nat.le_refl _),take_length]at S;show a (λd hd=>o d (mem_append_left _ hd)) S
 .obtain ⟨g,l,_⟩:=x.mp hw;rw[M (u g).2];show l
 .obtain ⟨g,_,h⟩:=x.mp hw;show a (u g).2 h
 .let short:∀{m:Nat}{v:LN},v∈Wt L W m->m<n:=λ{m v}r=>by
   refine Nat.lt_of_not_le λZ=>?_;let⟨g,l,h⟩:=b_L.mp r;have:v.take n∈Wt L W n:=b_L.mpr (by rw[length_take];lia,λc H=>l c (mem_of_mem_take H),λj G=>by
    rw[take_take,min_eq_left (!2)];show h j (!2))
   rw[h0]at this;cases this
  rw[M hw];by_cases hex:∃j,j≤w.length/\uC W (run L W 0 (w.take j))=true
  .
   obtain⟨j,G,A,q⟩:∃j,j≤w.length/\uC W (run L W 0 (w.take j))=true/\∀i,i<j->uC W (run L W 0 (w.take i))=false:=by
    let⟨j,g,l⟩:=hex;induction j using Nat.strongRecOn with
    |_ j X=>
     by_cases R:∃i,i<j/\uC W (run L W 0 (w.take i))=true
     .obtain ⟨i,C,hsi⟩:=R;show X i C (!6) hsi
     .exact (j,g,l,λi C=>by
       cases e:uC W (run L W 0 (w.take i))with
       |false=>rfl
       | true=>show absurd (i,C,e) R)
   let F:∀c∈w.take j,c∈L:=λc H=>hw c (mem_of_mem_take H);let k:(w.take j).length=j:=by rw[length_take];lia
   let E:w.take j∈Wt L W j:=b_L.mpr (k,F,λi C=>by
    rw[take_take,min_eq_left (Nat.le_of_lt C)];show q i C)
   let P:w.take j∈Ws L W n:=f_p.mpr (by rw[k];show short E,by rw[k];show E);let T:run L W 0 w=run L W 0 (w.take j):=by
    let e:=uS L W 0 (w.take j) (w.drop j);rw[take_append_drop]at e;rw[e,di f (N F) A _ λc H=>hw c (mem_of_mem_drop H)]
   let U:w∉justW L W B n:=λz=>by
    let⟨g,_,h⟩:=x.mp z;rw[T,A]at h;cases h
   let t:(begW L W B n).any (λb=>b.isPrefixOf w)=B.getD (run L W 0 w) false:=by
    rw[T];cases e:B.getD (run L W 0 (w.take j)) false with
    |true=>show List.any_eq_true.mpr (_,y.mpr (P,e,A),List.isPrefixOf_iff_prefix.mpr (List.take_prefix j w))
    |false=>
     refine List.any_eq_false.mpr λb t hp=>?_;let⟨g,l,h⟩:=y.mp t;let hp:=List.isPrefixOf_iff_prefix.mp hp;let I:b=w.take b.length:=(List.prefix_iff_eq_take.mp hp);let ab:=hp.length_le;let Y:=(b_L.mp (f_p.mp g).2).2.2;rcases lt_trichotomy b.length j with z|z|z
     .have:=q _ z;rw[<-I,h]at this;cases this
     .rw [I,z,e]at l;cases l
     .have:=Y j z;rw[I,take_take,min_eq_left (Nat.le_of_lt z),A]at this;cases this
   rw[t,decide_eq_false U,Bool.or_false]
  .let s:∀j,j≤w.length->uC W (run L W 0 (w.take j))=false:=λj G=>by
    cases e:uC W (run L W 0 (w.take j))with
    |false=>rfl
    |true=>show absurd (j,G,e) hex
   let D:w∈Wt L W w.length:=b_L.mpr (1,hw,λj G=>s j (Nat.le_of_lt G));let O:uC W (run L W 0 w)=false:=by have:=s w.length (Nat.le_refl _);rwa [take_length]at this
   let t:(begW L W B n).any (λb=>b.isPrefixOf w)=false:=List.any_eq_false.mpr λb t hp=>by
    let⟨g,l,h⟩:=y.mp t;let hp:=List.isPrefixOf_iff_prefix.mp hp;let I:b=w.take b.length:=(List.prefix_iff_eq_take.mp hp);have:=s b.length hp.length_le;rw[<-I,h]at this;cases this
   rw[t,Bool.false_or];cases e:B.getD (run L W 0 w) false with
   |true=>show(decide_eq_true (x.mpr (f_p.mpr (short D,D),e,O))).symm
   |false=>show(decide_eq_false λz=>by rw[(x.mp z).2.1]at e;cases e).symm
end
def sO{c A B:Prop}[Decidable c](b:¬ c->A)(a:c->B):if (!decide c)=true then A else B:=by
 by_cases h:c
 .rw [decide_eq_true h];show a h
 .rw [decide_eq_false h];show b h
def L3(a:Nat):∀S:LN,Hk (.int (a:Int)) (c_ S)=decide (a∈S)
 |[]=>rfl
 |x::S=>by
  show(HA (.int ((x:Nat):Int)) (.int (a:Int))||Hk (.int (a:Int)) (c_ S))=_;rw[L3 a S,Bool.eq_iff_iff,Bool.or_eq_true,decide_eq_true_eq,decide_eq_true_eq,mem_cons];show or_congr (λz=>(Int.ofNat.inj (eq_of_beq z)).symm,λz=>by rw[z];show beq_self_eq_true _) Iff.rfl
section
variable{L:LN}{W W0:LL}{B B0:List Bool}{r:Nat}{ks ws R:LL}{Bm:List Bool}
end
section
variable{L:LN}{W W0:LL}{B B0:List Bool}
end
section
variable{L:LN}{W W0:LL}{B B0:List Bool}
end
section
variable{L:LN}{W:LL}{f:LN->List V}{H H':Hp}
end
section
variable{L:LN}{W W0:LL}{B B0:List Bool}
def mX(a:hF L W B)(b:r<W.length)(f:c∈L):uR L W r c<W.length:=ur a (w:=[c]) b λd e=>by rw[t5 e];show f
end
section
variable{L:LN}{W:LL}{B:List Bool}
abbrev pK(W:LL)(B:List Bool)(k i:Nat):Bool:=(List.range i).all λj=>!(jj W B k j==jj W B k i)
def fstR_iff:pK W B k i=true↔∀j,j<i->jj W B k j≠jj W B k i:=by
 unfold pK;rw[all_eq_true];constructor
 .intro h j a e;have:=h j (mem_range.mpr a);rw[e]at this;simp at this
 .intro h j a;rw[Bool.not_eq_true',beq_eq_false_iff_ne];show h j (mem_range.mp a)
abbrev pS(W:LL)(B:List Bool)(k:Nat):Nat:=(List.range W.length).countP (pK W B k)
def pR(k:Nat):pS W B k≤W.length:=by
 have:=List.countP_le_length (p:=pK W B k) (l:=List.range W.length)
 rwa [length_range]at this
def Lk{P:Nat->Prop}(h:P n):∃m,m≤n/\P m/\∀j,j<m->¬ P j:=by
 induction n using Nat.strongRecOn with
 |_ n d=>
  by_cases c:∃j,j<n/\P j
  .obtain ⟨j,b,a⟩:=c;let⟨m,g,f,e⟩:=d j b a;show(m,!6,f,e)
  .exact (n,Nat.le_refl _,h,λj b a=>c (j,b,a))
def pQ(I:hF L W B)(E:x<W.length)(D:y<W.length)(e:jj W B k x=jj W B k y)(t:jj W B (k+1) x≠jj W B (k+1) y):pS W B k<pS W B (k+1):=by
 let d:∀{a b:Nat},a<W.length->b<W.length->jj W B (k+1) a=jj W B (k+1) b->jj W B k a=jj W B k b:=λH G h=>((Hm I H G).mp h).1;refine Ki (λi s h=>?_) ?_
 .let s:=mem_range.mp s;rw[fstR_iff]at h⊢;show λj r z=>h j r (d (!2) s z)
 .
  let⟨m,M,f,u⟩:=Lk (P:=λi=>jj W B k i=jj W B k x) (n:=x) rfl;let F:m<W.length:=by omega
  obtain⟨z,C,o,l⟩:∃z,z<W.length/\jj W B k z=jj W B k m/\jj W B (k+1) z≠jj W B (k+1) m:=by
   by_cases h:jj W B (k+1) x=jj W B (k+1) m
   .exact (y,D,by rw[f,e],λw=>t (h.trans w.symm))
   .exact (x,E,f.symm,h)
  let⟨i,i1,⟨i2,g⟩,A⟩:=Lk (P:=λi=>jj W B k i=jj W B k m/\jj W B (k+1) i≠jj W B (k+1) m) (n:=z) (o,l);let c:i<W.length:=by omega
  refine(i,mem_range.mpr c,fstR_iff.mpr λj r w=>?_,eq_false_iff.mpr λw=>?_)
  .let p:j<W.length:=by omega
   show A j r ((d p c w).trans i2,λv=>g (w.symm.trans v))
  .let hmi:m<i:=by
    rcases lt_trichotomy m i with q|q|q
    .exact q
    .rw [q]at g;show absurd rfl g
    .exact absurd (i2.trans f) (u i q)
   show fstR_iff.mp w m hmi i2.symm
def vR(a:hF L W B){j:Nat}(h:∀x y,x<W.length->y<W.length->jj W B j x=jj W B j y->jj W B (j+1) x=jj W B (j+1) y):∀(d:Nat){x y:Nat},x<W.length->y<W.length->jj W B j x=jj W B j y->jj W B (j+d) x=jj W B (j+d) y
 |0,_,_,_,_,e=>e
 |d+1,x,y,c,b,e=>by
  refine(Hm a c b).mpr (vR a h d c b e,λq f=>?_);show vR a h d (Gv a c f) (Gv a b f) (((Hm a c b).mp (h x y c b e)).2 q f)
def kh(b:hF L W B)(h:∀j,j<k->∃x y,x<W.length/\y<W.length/\jj W B j x=jj W B j y/\jj W B (j+1) x≠jj W B (j+1) y):k<W.length:=by
 have:∀j,j≤k->j+1≤pS W B j:=λj=>by
  induction j with
  |zero=>
   intro _;let d:0<W.length:=by have:=b.n1;lia
   show List.countP_pos_iff.mpr ((0),mem_range.mpr d,fstR_iff.mpr λj a=>absurd a (not_lt_zero _))
  |succ j f=>
   intro a;let⟨x,y,i,g,e,c⟩:=h j a;have:=pQ b i g e c;have:=f (!6);lia
 let m:=this k (Nat.le_refl _);let l:=pR (W:=W) (B:=B) k;lia
def mO(h:bO L W B r s (some w))(a:hF L W B)(d:r<W.length)(c:s<W.length):w.length<W.length:=by
 rcases h with⟨b,_⟩|⟨k,b,g,f⟩
 .cases b
 .cases b;let⟨i1,_⟩:=dG a d c g f;rw[i1];refine kh a λj o=>Classical.byContradiction λn=>?_;let st:=vR a (j:=j) (λx y m l e=>Classical.byContradiction λi=>n (x,y,m,l,e,i)) (k-j) d c (f j o);rw[show j+(k-j)=k by lia]at st;show g st
end
def fC:∀(n:Nat)(z:LN),z.length=n->((List.range n).map λi=>n-1-i).filterMap (λj=>z[j]?)=z.reverse
 |0,z,h=>by
  obtain rfl:z=[]:=length_eq_zero_iff.mp h;rfl
 |n+1,z,h=>by
  obtain⟨ys,c,rfl⟩:∃ys c,z=ys++[c]:=(z.dropLast,z.getLast (by intro e;rw[e]at h;simp at h),(dropLast_concat_getLast _).symm);let b:ys.length=n:=by simpa using h
  rw[List.range_succ_eq_map,map_cons,map_map];let h0:(ys++[c])[n+1-1-0]?<*c:=by rw[Nat.add_sub_cancel,Nat.sub_zero,<-b];simp
  rw[filterMap_cons,h0,List.reverse_append];change c::_=c::ys.reverse;rw[<-fC n ys b];congr 1;rw[List.filterMap_map,List.filterMap_map];let key:∀(l:LN),(∀i∈l,i<n)->l.filterMap ((λj=>(ys++[c])[j]?)∘((λi=>n+1-1-i)∘Nat.succ))=l.filterMap ((λj=>ys[j]?)∘λi=>n-1-i):=by
   intro l;induction l with
   |nil=>intro _;rfl
   |cons i l d=>
    intro a;let g:i<n:=a i (!1);let e:(ys++[c])[n+1-1-(i+1)]?=ys[n-1-i]?:=by
     rw[show n+1-1-(i+1)=n-1-i by lia,getElem?_append_left (!2)]
    rw[filterMap_cons,filterMap_cons];rw[show((λj=>(ys++[c])[j]?)∘((λi=>n+1-1-i)∘Nat.succ)) i=((λj=>ys[j]?)∘λi=>n-1-i) i from e,d (λj f=>a j (by simp[f]))]
  show key (List.range n) (λi a=>mem_range.mp a)
section
variable{L:LN}{W:LL}{B:List Bool}
end
section
variable{L:LN}{W:LL}{B:List Bool}
end
section
variable{L:LN}{W W0:LL}{B B0:List Bool}
end
def gN{l:Type}{ns:List l}(g:l->V)(P:l->Nat->Prop)(m:∀R:VK,R (.ref a) H->s q H R)(C:o=.lst (ns.map g)\/o=.tup (ns.map g))(E:H a<*o)(hz:ns.length≤1000)(n:∀x∈ns,∀(H':Hp)(k:VK),b' H H'->(∀y:Nat,P x y->k (.int (y:Int)) H')->t (some (g x)::q) H' k)(B:∀D ws H',b' H H'->H' D<*.lst (c_ ws)->ws.length=ns.length->(∀(i:Nat)x y,ns[i]?<*x->ws[i]?<*y->P x y)->H D=none->Q (.ref D) H'):GP (IZ s) tAlways t q H Q:=by
 refine HH (a:=a) m C E (λD i ys H'=>∃ws:LN,ys=c_ ws/\ws.length=i/\∀(i:Nat)x y,ns[i]?<*x->ws[i]?<*y->P x y) (by rw[ix];show kA (!2)) (λD h=>([],6,λi x y _ e=>by simp at e)) ?_ ?_
 .rintro D i x ys H' k R2 h r b c⟨ws,rfl,f,hp⟩w G;rw[lv]at r;let⟨x,d,rfl⟩:=uJ r;refine h_ (n x (pa d) H' k b λy A=>w _ H' c (b'.set b h) (ws++[y],(IB _ _).symm,by rw[j_,f];rfl,λj u v p F=>?_));rcases Hr F with z|⟨rfl,rfl⟩
  .exact hp j u v p z
  .rw [f,d]at p;cases p;show A
 .rintro D ys H' h b c⟨ws,rfl,f,hp⟩;rw[ix]at f;show B D ws H' b c f hp h
def gM{c:Type}{ns:List c}(g:c->V)(f:c->Nat)(d:∀R:VK,R (.ref a) H->m k H R)(r:o=.lst (ns.map g)\/o=.tup (ns.map g))(u:H a<*o)(hz:ns.length≤1000)(j:∀x∈ns,∀(H':Hp)(b:VK),b' H H'->b (.int ((f x:Nat):Int)) H'->n (some (g x)::k) H' b)(q:∀D H',b' H H'->H' D<*.lst (c_ (ns.map f))->H D=none->Q (.ref D) H'):GP (IZ m) tAlways n k H Q:=
 gN g (λx y=>y=f x) d r u hz (λx p H' b s h=>j x p H' b s (h _ rfl)) λD ws H' s e t hp v=>q D H' s (by
  rw[show ns.map f=ws from List.ext_getElem (by rw[ix,t]) λi l w=>by
   rw[List.getElem_map];show(hp i _ _ (hH (by rw[ix]at l;show l)) (hH w)).symm]
  show e) v
def Ll{o:HO}(d:∀R:VK,R (.ref a) H->k g H R)(p:o=.lst (c_ ns)\/o=.tup (c_ ns))(q:H a<*o)(hz:ns.length≤3)(f:∀x∈ns,∀(H':Hp)(b:VK),(∀y:Nat,y<n->b (.int (y:Int)) H')->l (some (.int (x:Int))::g) H' b)(m:∀D ws H',b' H H'->H' D<*.lst (c_ ws)->ws.length=ns.length->(∀x∈ws,x<n)->Q (.ref D) H'):GP (IZ k) tAlways l g H Q:=
 gN _ (λ_ y=>y<n) d p q (Nat.le_trans hz (!0)) (λx c H' b _=>f x c H' b) λD ws H' s e h hp _=>m D ws H' s e h λx c=>by
  let⟨i,j⟩:=mem_iff_getElem?.mp c;show hp i _ x (hH (by rw[<-h];show(j0 j).1)) j
def c6{n:Nat}(f:Nat->Nat)(k:∀R:List V->Hp->Prop,R [.int (n:Int)] H->t g H R)(m:n≤2100)(e:∀j,j<n->∀(H':Hp)(d:VK),b' H H'->d (.int ((f j:Nat):Int)) H'->h (some (.int (j:Int))::g) H' d)(l:∀D H',b' H H'->H' D<*.lst (c_ ((List.range n).map f))->H D=none->Q (.ref D) H'):GP (jH t) tAlways h g H Q:=by
 refine Km (n:=n) k m (λD j ys H'=>ys=c_ ((List.range j).map f)) (λD c=>rfl) ?_ ?_
 .intro D j ys H' d R2 c o a b hp i p;rw[Int.zero_add];refine h_ (e j o H' d a (i _ H' b (b'.set a c) ?_));rw[hp,range_succ,map_append,List.map_singleton,IB]
 .intro D ys H' c a b hp;subst hp;show l D H' a b c
def uw(m:s h=none)(y:b' s r)(C:r h<*.lst (a.map V.ref))(f:a.length=i)(g:W.length=i)(d:BF r a W)(B:∀ws∈W,ws.length=l/\∀x∈ws,x<n)(c:b' r H')(k:ws.length=l)(j:∀x∈ws,x<n)(p:H' tp=none):let q:=L2.upd (L2.upd H' tp (.tup (c_ ws))) h (.lst (a.map V.ref++[.ref tp]))
  L2.A6 (b' s q) (q h<*.lst ((a++[tp]).map V.ref)) ((a++[tp]).length=i+1) ((W++[ws]).length=i+1) (BF q (a++[tp]) (W++[ws])) (∀v∈W++[ws],v.length=l/\∀x∈v,x<n):=by
 let⟨w,u,t⟩:=jn (ws:=ws) (c _ _ C) (d.same c) (by rw[f,g]) p;show(λb o e=>t b o (c _ _ (y b o e)) (f' e m),w,by rw[j_,f];rfl,by rw[j_,g];rfl,u,λv A=>(mem_append.mp A).elim (B v) λz=>by rw[t5 z];show(k,j))
abbrev bQ:Nat->LL
 |0=>[[]]
 |n+1=>bQ n++(bQ n).map (·++[n])
def fh:∀n,(bQ n).length=2^n
 |0=>rfl
 |n+1=>by
  rw[bQ,j_,ix,fh n,Nat.pow_succ];lia
def fi(h:n≤8):(bQ n).length≤256:=by
 rw[fh];show Nat.pow_le_pow_right (!0) h
def Lm(p:Nat->Bool):∀n,(List.range n).filter p∈bQ n
 |0=>by simp[bQ]
 |n+1=>by
  rw[range_succ,filter_append,bQ];cases h:p n with
  |false=>
   rw[List.filter_cons_of_neg (by simp[h]),filter_nil,append_nil];show mem_append_left _ (Lm p n)
  |true=>
   rw[List.filter_cons_of_pos h,filter_nil];show mem_append_right _ (mem_map.mpr (_,Lm p n,1))
abbrev aI(W:LL)(S:LN)(j:Nat):LN:=(List.range W.length).filter λr=>S.contains (goal W r j)
abbrev vB(W:LL)(B:List Bool):LN:=(List.range W.length).filter λr=>B.getD r false
abbrev nV(S:LN):Bool:=S.contains 0
section
variable{L:LN}{W:LL}{B:List Bool}{g:LN->Nat->LN}{s:LN}{mk:LN->Bool}{ks ws R:LL}{Bm:List Bool}
def hV(j:vN L)(m:Bf g L s ks ws ks.length 0)(a:FH g L.length ks R)(b:R.length=ks.length)(bl:Bm.length=R.length)(le:ks.length≤2100):hF L R Bm where
 lt:=j
 n1:=by rw[b];show(j0 m.t0).1
 n60:=by rw[b];show le
 bl:=bl
 row:=λr f=>by
  let⟨i,d⟩:=mem_iff_getElem?.mp f;let c:i<ks.length:=by rw[<-b];show(j0 d).1
  let⟨l,k⟩:=a.row i r _ d (hH c);refine(l,λx e=>?_);let⟨q,h⟩:=mem_iff_getElem?.mp e;rw[b];show(j0 (k q x h)).1
def Ny(v:LN)(c:Nat):aA g L s (v++[c])=g (aA g L s v) (L.idxOf c):=by
 unfold aA;rw[List.foldl_append];rfl
def jZ(q:Bf g L s ks ws ks.length 0)(a:FH g L.length ks R)(k:R.length=ks.length):∀(n:Nat)(w:LN),w.length=n->(∀c∈w,c∈L)->ks[run L R 0 w]?<*aA g L s w:=by
 intro n;induction n with
 |zero=>
  intro w hw _;rw[length_eq_zero_iff.mp hw];show q.t0
 |succ n i=>
  intro w hw f;obtain⟨c,v,rfl⟩:∃c v,w=v++[c]:=(w.getLast (by intro z;rw[z]at hw;cases hw),w.dropLast,(dropLast_concat_getLast _).symm);let h:=i v (by simpa using hw) λx j=>f x (by simp[j]);let b:L.idxOf c<L.length:=idxOf_lt_length_of_mem (f c (!1));let e:run L R 0 v<R.length:=by rw[k];show(j0 h).1
  let⟨d,p⟩:=a.row _ _ _ (hH e) h;let o:=p (L.idxOf c) _ (hH (by rw[d];show b));rw[Ia,Ny];let m:uR L R (run L R 0 v) c=R[run L R 0 v][L.idxOf c]'(by rw[d];show b):=by
   unfold uR;rw[mu (l:=R),hH e];show(R[run L R 0 v]).getD _ 0=_;rw[mu,hH (by rw[d];show b)];rfl
  rw[m];show o
def eX(i:Bf g L s ks ws ks.length 0)(a:FH g L.length ks R)(f:R.length=ks.length)(bl:Bm.length=R.length)(d:∀(r:Nat)(k:LN)(b:Bool),ks[r]?<*k->Bm[r]?<*b->b=mk k)(hw:∀c∈w,c∈L):Bm.getD (run L R 0 w) false=mk (aA g L s w):=by
 let h:=jZ i a f _ w rfl hw;let e:run L R 0 w<Bm.length:=by rw[bl,f];show(j0 h).1
 rw[mu,hH e];show d _ _ _ h (hH e)
def lS(e:hF L W B):∀(u:LN),(∀c∈u,c∈L)->∀r,r<W.length->((aA (aI W) L (vB W B) u).contains r=B.getD (run L W r u.reverse) false):=by
 intro u f;obtain⟨n,b⟩:∃n,u.length=n:=(_,rfl);induction n generalizing u with
 |zero=>
  intro r a;rw[length_eq_zero_iff.mp b];show(vB W B).contains r=_;unfold vB;rw[Bool.eq_iff_iff,List.contains_iff_mem,mem_filter,mem_range];show(λz=>z.2,λz=>(a,z))
 |succ n h=>
  intro r a;obtain⟨c,v,rfl⟩:∃c v,u=v++[c]:=(u.getLast (by intro z;rw[z]at b;cases b),u.dropLast,(dropLast_concat_getLast _).symm);let j:c∈L:=f c (!1);let d:goal W r (L.idxOf c)<W.length:=Gv e a (idxOf_lt_length_of_mem j);rw[Ny,List.reverse_append];change _=B.getD (run L W (uR L W r c) v.reverse) false;rw[<-h v (λx i=>f x (by simp[i])) (by simpa using b) _ (by rw[JQ];show d),JQ];unfold aI;rw[Bool.eq_iff_iff,List.contains_iff_mem,mem_filter,mem_range];show(λz=>z.2,λz=>(a,z))
def hZ(a:hF L W B)(b:∀c∈u,c∈L):nV (aA (aI W) L (vB W B) u)=B.getD (run L W 0 u.reverse) false:=lS a u b 0 a.n1
end
def bB(a:Nat):∀S:LN,Hk (.int (a:Int)) (c_ S)=S.contains a
 |[]=>rfl
 |x::S=>by
  let e:Hk (.int (a:Int)) (c_ (x::S))=(((x:Int)==(a:Int))||Hk (.int (a:Int)) (c_ S)):=rfl;rw[e,bB a S,List.contains_cons];congr 1;rw[Bool.eq_iff_iff,beq_iff_eq,beq_iff_eq];constructor
  .intro z;show(Int.ofNat_inj.mp z).symm
  .intro z;rw[z]
def t_:(List.range (i+1)).filter p=(List.range i).filter p++(if p i then[i]else[]):=by
 rw[range_succ,filter_append];cases h:p i with
 |false=>rw[List.filter_cons_of_neg (by simp[h]),filter_nil];rfl
 |true=>rw[List.filter_cons_of_pos h,filter_nil];rfl
end RA
namespace L2
open PySem.Spec PyProof.Rows
section
variable{X:Cx}{elt iter:Expr}{x:Str}{px pos:Pos}{ifs:List Expr}{sc:Scope}{wi:TI}{tt:TT}{te:TE}
end
section
variable{X:Cx}
end
def lm(c:List Bool):(List.range c.length).all (λi=>c.getD i false)=c.all id:=by
 rw[Bool.eq_iff_iff,all_eq_true,all_eq_true];constructor
 .intro h b d;let⟨i,a,rfl⟩:=List.mem_iff_getElem.mp d;have:=h i (mem_range.mpr a)
  rwa [mu,hH a]at this
 .intro h i a;let a:=mem_range.mp a;rw[mu,hH a];show h _ (getElem_mem a)
def lh(G:X.calm=true):Hg X (.builtin "all") (λxs H Q=>∃(a:Addr)(c:List Bool),xs=[V.ref a]/\H a=some (.lst (c.map V.bl))/\Q (.bl (c.all id)) H):=by
 intro l s O H xs P Q I r h;let⟨a,c,rfl,z,q⟩:=h;let⟨R,rfl,E⟩:=GC r;cases E;let⟨d,k,p,hz⟩:=I.list (i4.of z);let t:s.heap.IsList a d.toArray:=p.isList;let j:a<s⁻¹:=I.hok.lt z;let n:d.toArray.size=c.length:=by
  let L:=k.length;rw[ix]at L;simp;lia
 refine call_all_walk (wpAny_pyIter_list t ?_);refine(s⁻¹,7,7,_,λi=>c.getD i false,1,Walks.list (prog:=X.prog) (w:=X.w) (A:=X.A.in1) (I.ok.hd G) s⁻¹ a (ne_of_lt j) d.toArray,((_,get?_push_size _ rfl,6),t.at λo e=>mJ _ e),3,λh' C F=>?_)
 .intro i v s' N E' m g;let u:i<c.length:=by rw[<-n];show(Array.getElem?_eq_some_iff.mp m).1
  let⟨y,M,D⟩:=k.get (i:=i) (x:=.bl c[i]) (by rw[lv,hH u];rfl);have:v=y:=by
   let f:d.toArray[i]?<*v:=m;rw[getElem?_toArray,M]at f;show(Option.some.inj f).symm
  subst this;cases D;let e:c.getD i false=c[i]:=by rw[mu,hH u];rfl
  let g:N (c.getD i false) s':=g;rw[e]at g;show wpAny_truthy_bool g
 .rw [n,lm];show(.bl (c.all id),H,I.kept (t':=C) λb o B=>F b o (by simp;show ne_of_lt (lt_size B)) (mJ _ B),1,q)
abbrev L1(P:Program)(w:World)(K:Frag)(mg:Str->Option Value)(base:Heap)(x:Str)(k:Nat)(ps:List Str)(sp:Sp):Prop:=
 ∃(f:Addr)(fd:FuncData),mg x=some (.ref f)/\keepIn K (.ref f)=true/\vC K fd ps [.none]/\aa P w K mg base kd k f fd ps sp
def qH{p pos:Pos}(D:L1 X.prog X.w X.K X.mg X.base x k ps d)(g:ag k X.A)(j:PA X (e::a) t)(h:Gl X x>>>4)(c:((x==("__debug__":Str))=false)>>>0)(i:(starEach (e::a) X.env=(false,eval e X.env,)::starEach a X.env)>>>4)(b:((backTo pos (starEach a X.env)).any (·.1)=false)>>>4):PE X (.Call (.Name x p) (e::a) [] pos) (vY d [.non] E0 t):=by
 let⟨f,o,n,m,l,F⟩:=D;show jr F g h n m l (.cons rfl .nil) ci j c i b
def fN{X:Cx}{k i:Nat}{p pos:Pos}(F:aa X.prog X.w X.K X.mg X.base kd k f L ps m)(y:ag k X.A)(B:keepIn X.K (.ref f)=true)(D:vC X.K L ps [])(u:PE X (.Name x p) (bP i))(E:PA X (e::b) t)(C:(starEach (e::b) X.env=(false,eval e X.env,)::starEach b X.env)>>>4)(c:((backTo pos (starEach b X.env)).any (·.1)=false)>>>4):PE X (.Call (.Name x p) (e::b) [] pos) (mj i f m t):=by
 intro a s g H Q I h;refine wpAny_Call_Name_kw (kl (u a s g H (λv d=>v=.ref f/\d=H) I (_,h.1,6)) λG n z=>?_);let⟨v,d,l,o,rfl,rfl⟩:=z;obtain rfl:G=.ref f:=o;refine callWith_K (h₀:=X.base) l.ok.mod.kin B (kl (E pos a n g d _ l h.2) λM s2⟨vs,N,j,r,q⟩=>(j.kIn,3)) C c;show dF F y D .nil ci j r (by rw[append_nil];show q)
section
variable{P:Program}{w:World}{A:Around}{E:Value->Shared->Prop}{h:Heap}{g:Array GenState}{d:Drawn}{t:Nat}{os:OsState}
variable{nm q:Str}{C N:Addr}{bs bm:List Value}{hdct:Bool}{sn:List Str}{sub:List Value}{ab:Bool}{col:Option Bool}{dd:Option Addr}{k0 k1 k2 k3 k5:Option Value}
end
section
variable{prog:Program}{w:World}{A:Around}{E:Value->Shared->Prop}{s:Shared}{K:Frag}{x C dx:Addr}{a0:Value}{name:Str}{v:Value}{mA:Str->Option Value}
end
section
variable{X:Cx}{pins:List (Addr×Obj)}{σ:St}{H:Hp}{s:Shared}{a C dx:Addr}{fs:List (Str×V)}{f:Str}{y:V}{u:Value}{A:Around}{E:Value->Shared->Prop}
end
section
variable{X:Cx}{CX:CXT}{k:Nat}{f C:Addr}{fd:FuncData}{ps:List Str}{sp:Sp}{E E':XK}{x:Str}{np cpos pos:Pos}{e0:Expr}{es:List Expr}{t:TA}
end
section
variable{X:Cx}{pins:List (Addr×Obj)}{σ:St}{H:Hp}{s:Shared}{x y fx:Str}{R:Addr}{j k:Nat}{np hpos pos p cp yp ap:Pos}{b0:Stmt}{suite:List Stmt}{ts:TS}{D:aO}{ps:List Str}{sp:Sp}{e:Expr}{es:List Expr}{t:TA}
end
section
variable{X:Cx}{elt iter:Expr}{x:Str}{px pos:Pos}{ifs:List Expr}{sc:Scope}{wi:TI}{tt:TT}{te:TE}
end
def iq(K:Frag)(a:(X.K=K)>>>4):uq X (compareOp .In) (Lx K false):=by
 subst a;show KJ
namespace ZP
def II(a b:Addr):vA (.tp a) (.tp b):=λxs ys=>.of_wp λprog w A R s h=>by
 let⟨hp,g,d,j,os⟩:=s;let⟨f,c,h⟩:=h;let i:=sub_zip;let f:hp.IsTuple a xs:=f;let c:(hp.push (Sd.tp a).it0).IsTuple b ys:=IsTup.keeps c λo e=>mJ _ e;change wpAny _ _ (Builtin.«zip.__new__» ([.type "zip",.ref a,.ref b],[])) _ _ _
 wp_walk using eB f,eB c
 refine(0,3);simp only[bv]at h;simpa[size_push,Builtin.SmallTypes.ownedTupleFields,add_assoc]using h
end ZP
abbrev Gw(H H':Hp):Prop:=∀b o,(∀ps,o≠.tbl ps)->H b<*o->H' b<*o
def Gw.of(s:b' H H'):Gw H H':=λb o _ e=>s b o e
def Gw.trans(a:Gw H d)(b:Gw d H'):Gw H H':=λx o c e=>b x o c (a x o c e)
def Gw.ofX(s:vP P0 H H')(c:uG H P0 sites):Gw H H':=λb o a e=>s b o (λz=>by
 let⟨ps,d,_⟩:=c;rw[z,d]at e;cases e;show a _ rfl) e
def Gw.tup(s:Gw H H'):∀b xs,H b<*.tup xs->H' b<*.tup xs:=λb xs e=>s b _ (λ_ z=>nomatch z) e
def Gw.lst(s:Gw H H')(e:H b<*.lst xs):H' b<*.lst xs:=s b _ (λ_ z=>nomatch z) e
end L2
namespace L2
open RA
abbrev rD(ts:List (Addr×List (Pos×Str)))(H:Hp):Prop:=∀p∈ts,uG H p.1 p.2
structure KT(ts:List (Addr×List (Pos×Str)))(H H':Hp):Prop where
 sm:Gw H H'
 tb:rD ts H->rD ts H'
section
variable{ts:List (Addr×List (Pos×Str))}{H H1 H':Hp}
def KT.of(s:b' H H'):KT ts H H':=(Gw.of s,λh p hp=>Js (h p hp) s)
def KT.trans(a:KT ts H H1)(b:KT ts H1 H'):KT ts H H':=(a.sm.trans b.sm,λh=>b.tb (a.tb h))
def tH(s:vP P0 H H')(i:uG H P0 sites)(g:P1≠P0)(h:uG H P1 sites'):uG H' P1 sites':=by
 let⟨d,b,_⟩:=i;let⟨ps,j,f,a⟩:=h;refine(ps,s _ _ g j,f,λx e=>(a x e).imp id λ⟨l,k,c⟩=>(l,k,s _ _ (λz=>?_) c));rw[z,b]at c;cases c
def KT.ofX(c:(ts.map Prod.fst).Nodup)(d:(P,sites,)∈ts)(s:vP P H H')(h:uG H P sites)(h':uG H' P sites):KT ts H H':=by
 refine(Gw.ofX s h,λa p hp=>?_);by_cases e:p.1=P
 .have:p=(P,sites,):=by
   let⟨i,g,rfl⟩:=List.getElem_of_mem hp;let⟨j,f,b⟩:=List.getElem_of_mem d;let k:(ts.map Prod.fst)[i]'(by rw[ix];show g)=(ts.map Prod.fst)[j]'(by rw[ix];show f):=by
    rw[List.getElem_map,List.getElem_map,b];show e
   have:=(getElem_inj c).mp k;subst this;show b
  rw[this];show h'
 .exact tH s h e (a p hp)
def KT.mach(k:KT ts H H')(h:p' H m L W B):p' H' m L W B:=h.tups k.sm.tup
end
def rX(s:Gw H H')(h:i4 K H a xs):i4 K H' a xs:=by
 rcases h with(h|⟨o,h⟩)|h
 .exact .inl (.inl (s.lst h))
 .exact .inl (.inr (o,s _ _ (λ_ z=>nomatch z) h))
 .exact .inr h
end L2
namespace L2
open PySem.Spec PyProof.Rows RA
def Nx(z:LN)(a:Tok):(if (((some ((-1:Int),a,):Option (Int×Tok)).map (·.1)).getD 1==1&&(slicePicked (tx z) none none (some (-1,a,))).length==(tx z).length)=true then tx z else⟨((slicePicked (tx z) none none (some (-1,a,))).filterMap ((tx z).cps[·]?)).toArray⟩)=tx z.reverse:=by
 rw[if_neg (!1)];let e:slicePicked (tx z) none none (some (-1,a,))=(List.range z.length).map λi=>z.length-1-i:=by
  unfold slicePicked Builtin.Str.strSliceIndices sliceRange;simp only[Option.map_none,Option.map_some,Option.getD_some,nb];let b:¬ ((-1:Int)>0):=by decide
  rw[if_neg b,if_neg b,if_neg b];by_cases h0:z.length=0
  .rw [h0];rfl
  .rw [if_pos (!6),show((((z.length:Nat):Int)-1 - -1 - -1-1)/(- -1)).toNat=z.length by simp];refine List.map_congr_left λi c=>?_;have:=mem_range.mp c;lia
 rw[e];let d:((List.range z.length).map λi=>z.length-1-i).filterMap ((tx z).cps[·]?)=z.reverse:=by
  rw[<-fC z.length z rfl];congr 1;funext j;show JM z j
 rw[d];rfl
section
variable{X:Cx}{pos:Pos}{e:Expr}{te:TE}
abbrev rM(te:TE)(ts:TO):TE:=λσ H Q=>te σ H λx H1=>ts σ H1 λst H2=>∃z:LN,x=.str (tx z)/\st=some (-1)/\z.length≤16777216/\Q (.str (tx z.reverse)) H2
def o9{st:Expr}(C:PE X e te)(B:PO X (some st) ts):PE X (.Subscript e (.Slice none none (some st) y) pos) (rM te ts):=by
 intro a s d H Q I h;refine Subscript_ (kl (C a s d H _ I h) λv n j=>?_);let⟨x,N,M,o,p⟩:=j;refine wpAny_Slice ?_;rw[evalPart_none];refine j3 (j3 (kl (B a n d N _ M p) λvu c g=>?_));let⟨u,m,L,r,z,D,E,hz,q⟩:=g;subst D E;let⟨t,rfl⟩:=o;cases r with
 |int i f=>
 let G:hA X a d m {c with heap:=c.heap.push {cls:=.type "slice",data:=.fields #[.none,.none,.int (-1) f]} }:=L.kept (t':=c.toks) λb O z=>mJ _ z;change wpAny (model X.prog X.w) X.A (subscriptTail e (.Slice none none (some st) y) (.str (tx z) t) (.ref c⁻¹)) (EP X a d Q) X.xe {c with heap:=c.heap.push {cls:=.type "slice",data:=.fields #[.none,.none,.int (-1) f]} };refine tail_any (ops:=[.str (tx z) t,.ref c⁻¹]) (typeIs_str _ _ _) PySem.F.slot_str_getitem.lookup ?_ (by with_unfolding_all rfl);refine wpAny_getItem_str_slice (l:=none) (u:=none) (st:=some (-1,f,)) (_,get?_push_size _ rfl,6) rfl (post_val_or_str (3,λt' k=>?_))
 .rw [Nx,nb,length_reverse];show kA hz
 .rw [Nx];show(.str _,m,G.tok k,(t',1),q)
end
end L2
namespace RA
open L2
section
variable{L:LN}{W T R:LL}{B BT BR:List Bool}
abbrev Jd(L:LN)(W:LL):Prop:=∀p q,p<q->q<W.length->∀u:LN,(∀c∈u,c∈L)->u≠[]->¬ ((run L W p u=p/\run L W q u=q)\/(run L W p u=q/\run L W q u=p))
abbrev Mg(L:LN)(W:LL)(k p q:Nat):Prop:=∀w:LN,w.length=k->(∀c∈w,c∈L)->run L W p w=run L W q w
def qg(h:Mg L W k p q):Mg L W (k+1) p q:=λw a hw=>by
 rcases eq_nil_or_concat w with rfl|⟨u,c,rfl⟩
 .cases a
 .rw [concat_eq_append]at a hw⊢;rw[j_]at a;rw[Ia,Ia,h u (Nat.succ.inj a) λd b=>hw d (mem_append_left _ b)]
def jV{k p q:Nat}(h:Mg L W k p q):∀d,Mg L W (k+d) p q
 |0=>h
 |d+1=>qg (jV h d)
def qh(h:Mg L W k p q)(a:k≤m):Mg L W m p q:=by
 rw[show m=k+(m-k)from(Nat.add_sub_cancel' a).symm];show jV h _
def jU(a:hF L W B){k:Nat}(h:∀p q,p<W.length->q<W.length->Mg L W (k+1) p q->Mg L W k p q):∀(d:Nat){p q:Nat},p<W.length->q<W.length->Mg L W (k+d) p q->Mg L W k p q
 |0,_,_,_,_,e=>e
 |d+1,p,q,hp,i,e=>h p q hp i λw j hw=>by
  cases w with
  |nil=>cases j
  |cons c w=>
   let g:=hw c mem_cons_self;rw[rf,rf];refine jU a h d (mX a hp g) (mX a i g) (λv l f=>?_) w (Nat.succ.inj j) λx b=>hw x (mem_cons_of_mem _ b);have:=e (c::v) (by rw[length_cons,l];rfl) λx b=>(mem_cons.mp b).elim (λz=>by rw[z];show g) (f x)
   rwa [rf,rf]at this
abbrev ck(n a b:Nat):Nat:=if a<b then a*n+b else b*n+a
def kr(p:a<n)(o:b<n)(m:c<n)(l:d<n)(e:ck n a b=ck n c d):(a=c/\b=d)\/(a=d/\b=c):=by
 let key:∀{x y z w:Nat},y<n->w<n->x*n+y=z*n+w->x=z/\y=w:=λ{x y z w}k hw h=>by
  let q:0<n:=by lia
  let g:=congrArg (· / n) h;let f:=congrArg (· % n) h;simp only[mul_comm _ n,Nat.mul_add_div q,Nat.div_eq_of_lt k,Nat.div_eq_of_lt hw,Nat.mul_add_mod,Nat.mod_eq_of_lt k,Nat.mod_eq_of_lt hw,Nat.add_zero]at g f;show(g,f)
 unfold ck at e;by_cases g:a<b<;>by_cases f:c<d<;>simp only[g,f,if_true,if_false]at e
 .exact .inl (key o l e)
 .exact .inr (key o m e)
 .obtain ⟨j,i⟩:=key p l e;show .inr (i,j)
 .obtain ⟨j,i⟩:=key p m e;show .inl (i,j)
def mR(d:a<n)(c:b<n):ck n a b<n*n:=by
 let key:∀{x y:Nat},x<n->y<n->x*n+y<n*n:=λ{x y}e f=>by
  have:=Nat.mul_le_mul_right n (show x+1≤n from e);rw[succ_mul]at this;lia
 unfold ck;by_cases h:a<b
 .rw [if_pos h];show key d c
 .rw [if_neg h];show key c d
def rA(d:hF L W B)(A:Jd L W)(hp:p<W.length)(o:q<W.length):Mg L W (W.length*W.length) p q:=λw F hw=>by
 refine Classical.byContradiction λr=>?_;let k:∀{j:Nat},∀c∈w.take j,c∈L:=λc m=>hw c (mem_of_mem_take m);let s:∀{i j:Nat},i≤j->w.take j=w.take i++(w.take j).drop i:=λ{i j}f=>by
  have:=take_append_drop i (w.take j);rw[take_take,min_eq_left f]at this;show this.symm
 let g:∀j,j≤w.length->run L W p (w.take j)≠run L W q (w.take j):=λj E e=>r (by
  rw[<-take_append_drop j w,uS,uS,e])
 let D:=Kf (a:=(List.range (w.length+1)).map λj=>ck W.length (run L W p (w.take j)) (run L W q (w.take j))) (b:=List.range (W.length*W.length)) ?_ ?_
 .rw [ix,length_range,length_range,F]at D;show absurd D (Nat.not_succ_le_self _)
 .rw [Nodup,pairwise_map];refine List.pairwise_lt_range.imp_of_mem λ{i j}G E f e=>?_;rw[mem_range]at G E;let C:(w.take j).drop i≠[]:=λz=>by
   have:=congrArg List.length z;rw[length_drop,length_take,List.length_nil]at this;lia
  let l:∀c∈(w.take j).drop i,c∈L:=λc m=>hw c (mem_of_mem_take (mem_of_mem_drop m));let v:=ur d hp (k (j:=i));let u:=ur d o (k (j:=i));let n:=kr v u (ur d hp (k (j:=j))) (ur d o (k (j:=j))) e;rw[s (Nat.le_of_lt f),uS,uS]at n;let t:=g i (!6);generalize run L W p (w.take i)=x at v n t;generalize run L W q (w.take i)=y at u n t;rcases Nat.lt_or_gt_of_ne t with z|z
  .exact A x y z u _ l C (n.imp (λh=>(h.1.symm,h.2.symm)) λh=>(h.2.symm,h.1.symm))
  .exact A y x z v _ l C (n.imp (λh=>(h.2.symm,h.1.symm)) λh=>(h.1.symm,h.2.symm))
 .intro c m;let⟨j,_,rfl⟩:=mem_map.mp m;show mem_range.mpr (mR (ur d hp k) (ur d o k))
abbrev gu(E:Nat->Nat->Prop)(r:Nat):Bool:=@decide (∀j,j<r->¬ E j r) (Classical.propDecidable _)
def d_a:gu E r=true↔∀j,j<r->¬ E j r:=@decide_eq_true_iff _ (Classical.propDecidable _)
def re(p:∀a,E a a)(o:∀{a b},E a b->E b a)(g:∀{a b c},E a b->E b c->E a c)(k:∀{a b},E' a b->E' b a)(d:∀{a b c},E' a b->E' b c->E' a c)(sub:∀{a b},E a b->E' a b)(C:x<n)(A:y<n)(h':E' x y)(h:¬ E x y):(List.range n).countP (gu E')<(List.range n).countP (gu E):=by
 refine Ki (λr _ s=>d_a.mpr λj f e=>d_a.mp s j f (sub e)) ?_;let⟨a,F,m,v⟩:=Lk (P:=λi=>E i x) (n:=x) (p x);let⟨b,D,l,u⟩:=Lk (P:=λi=>E i y) (n:=y) (p y);let q:E' a b:=d (sub m) (d h' (sub (o l)));let fa:gu E a=true:=d_a.mpr λj f e=>v j f (g e m);let t:gu E b=true:=d_a.mpr λj f e=>u j f (g e l);rcases lt_trichotomy a b with z|z|z
 .exact (b,mem_range.mpr (!2),t,eq_false_iff.mpr λw=>d_a.mp w a z q)
 .exact absurd (g (o m) (z▸l)) h
 .exact (a,mem_range.mpr (!2),fa,eq_false_iff.mpr λw=>d_a.mp w b z (k q))
def sF(d:hF L W B)(u:Jd L W)(hp:p<W.length)(f:q<W.length)(hw:∀c∈w,c∈L)(e:W.length≤w.length+1):run L W p w=run L W q w:=by
 let A:0<W.length:=by have:=d.n1;lia
 refine Classical.byContradiction λg=>?_;let v:∀k,k<W.length->∃p q,p<W.length/\q<W.length/\Mg L W (k+1) p q/\¬ Mg L W k p q:=λk t=>Classical.byContradiction λG=>by
  let st:=jU d (k:=k) (λp q hp f h=>Classical.byContradiction λz=>G (p,q,hp,f,h,z)) (W.length*W.length) hp f (qh (rA d u hp f) (Nat.le_add_left _ _));show g (qh st (show k≤w.length by lia) w rfl hw)
 let I:∀k,k≤W.length->(List.range W.length).countP (gu (Mg L W k))+k≤W.length:=λk=>by
  induction k with
  |zero=>
   intro _;have:=List.countP_le_length (p:=gu (Mg L W 0)) (l:=List.range W.length)
   rwa [length_range]at this
  |succ k C=>
   intro t;let⟨x,y,F,D,o,i⟩:=v k t;let s:∀{m a b:Nat},Mg L W m a b->Mg L W m b a:=λh w e hw=>(h w e hw).symm;let r:∀{m a b c:Nat},Mg L W m a b->Mg L W m b c->Mg L W m a c:=λo i w e hw=>(o w e hw).trans (i w e hw);have:=re (n:=W.length) (E:=Mg L W k) (E':=Mg L W (k+1)) (λ_ _ _ _=>rfl) s r s r qg F D o i;have:=C (!6);lia
 let c0:=I W.length (Nat.le_refl _);have:0<(List.range W.length).countP (gu (Mg L W W.length)):=List.countP_pos_iff.mpr ((0),mem_range.mpr A,d_a.mpr λj H=>absurd H (not_lt_zero _));lia
def jf(a:hF L W B)(r:Jd L W)(t:hF L T BT)(f:wm L T BT R BR)(e:∀u:LN,(∀c∈u,c∈L)->BT.getD (run L T 0 u) false=B.getD (run L W 0 u.reverse) false)(d:∀c∈u,c∈L)(s:W.length≤u.length+1):uC R (run L R 0 u)=true:=by
 let b:=f.mach;let j:0<W.length:=by have:=a.n1;lia
 let i:=ur b (show 0<R.length by have:=b.n1;lia) d;cases k:uC R (run L R 0 u)with
 |true=>rfl
 |false=>
  let val:∀v:LN,(∀c∈v,c∈L)->BR.getD (run L R (run L R 0 u) v) false=B.getD (run L W 0 u.reverse) false:=λv g=>by
   let q:∀c∈u.reverse,c∈L:=λc h=>d c (mem_reverse.mp h);let n:∀c∈v.reverse,c∈L:=λc h=>g c (mem_reverse.mp h);rw[<-uS,f.takes t (GV d g),e _ (GV d g),List.reverse_append,uS,sF a r (ur a j n) j q (by rw[length_reverse];show s)]
  let⟨p,x,m⟩:=qk f i k true;let⟨o,w,l⟩:=qk f i k false;rw[val p x]at m;rw[val o w,m]at l;cases l
def rz(a:hF L W B)(b:Jd L W)(f:hF L T BT)(g:wm L T BT R BR)(e:∀u:LN,(∀c∈u,c∈L)->BT.getD (run L T 0 u) false=B.getD (run L W 0 u.reverse) false):Wt L R W.length=[]:=by
 let j:0<W.length:=by have:=a.n1;lia
 refine List.eq_nil_iff_forall_not_mem.mpr λw hw=>?_;let⟨k,i,h⟩:=b_L.mp hw;have:=h (W.length-1) (!6);rw[jf a b f g e (λc d=>i c (mem_of_mem_take d)) (by rw[length_take];lia)]at this;cases this
def rE(b:hF L W B)(d:Jd L W)(k:hF L T BT)(l:wm L T BT R BR)(e:∀u:LN,(∀c∈u,c∈L)->BT.getD (run L T 0 u) false=B.getD (run L W 0 u.reverse) false):Ac L R:=λv u f g a h j=>by
 let i:1≤u.length:=by
  cases u with
  |nil=>show absurd rfl a
  |cons _ _=>show succ_le_succ (zero_le _)
 have:=jf b d k l e (u:=v++BH u W.length) (GV f (fG g _)) (by
  rw[j_,show(BH u W.length).length=W.length*u.length from by rw[BH,List.length_flatten,List.map_replicate,List.sum_replicate_nat]];have:=Nat.mul_le_mul_left W.length i;lia)
 rw[uS,ij j,h]at this;cases this
end
section
variable{L:LN}{W W0 T:LL}{B B0 BT:List Bool}
def qP(h:∀p q,p<q->q<W.length->∀u:LN,(∀c∈u,c∈L)->u≠[]->¬ (run L W p u=p/\run L W q u=q)):Jd L W:=λp q a i u d b z=>by
 rcases z with z|⟨g,f⟩
 .exact h p q a i u d b z
 .refine h p q a i (u++u) (GV d d) (λe=>b (List.append_eq_nil_iff.mp e).1) (3,3)
  .rw [uS,g,f]
  .rw [uS,f,g]
structure p8(L:LN)(W0:LL)(B0:List Bool)(x y u z:LN):Prop where
 cx:∀c∈x,c∈L
 cy:∀c∈y,c∈L
 cu:∀c∈u,c∈L
 cz:∀c∈z,c∈L
 lx:x.length≤60
 ly:y.length≤60
 lu:u.length≤60
 lz:z.length≤60
 ne:u≠[]
 yes:∀n,B0.getD (run L W0 0 (x++BH u n++z)) false=true
 no:∀n,B0.getD (run L W0 0 (y++BH u n++z)) false=false
def jQ(a:hF L W0 B0)(b:wm L W0 B0 W B)(h:∀c∈x,c∈L)(g:∀c∈y,c∈L)(i:∀c∈u,c∈L)(f:∀c∈z,c∈L)(p:x.length≤60)(o:y.length≤60)(q:u.length≤60)(m:z.length≤60)(l:u≠[])(t:run L W (run L W 0 x) u=run L W 0 x)(s:run L W (run L W 0 y) u=run L W 0 y)(j:B.getD (run L W 0 (x++z)) false=true)(k:B.getD (run L W 0 (y++z)) false=false):p8 L W0 B0 x y u z:=by
 let d:∀{v:LN},(∀c∈v,c∈L)->run L W (run L W 0 v) u=run L W 0 v->∀n,B0.getD (run L W0 0 (v++BH u n++z)) false=B.getD (run L W 0 (v++z)) false:=λ{v}r e n=>by
  rw[<-b.takes a (GV (GV r (fG i n)) f),uS,uS,ij e,uS]
 show(h,g,i,f,p,o,q,m,l,λn=>(d h t n).trans j,λn=>(d g s n).trans k)
abbrev d_v(n a b:Nat):Nat:=a*(n-1)+if b<a then b else b-1
def L4(e:a<n)(d:b<n)(c:a≠b):(if b<a then b else b-1)<n-1:=by
 by_cases h:b<a
 .rw [if_pos h];lia
 .rw [if_neg h];lia
def kq(c:a<n)(e:b<n)(d:a≠b):d_v n a b<n*(n-1):=by
 let g:=L4 c e d;let f:=Nat.mul_le_mul_right (n-1) (show a+1≤n from c);rw[succ_mul]at f;unfold d_v;lia
def ko(q:a<n)(p:b<n)(o:c<n)(m:d<n)(k:a≠b)(j:c≠d)(e:d_v n a b=d_v n c d):a=c/\b=d:=by
 let g:=L4 q p k;let f:=L4 o m j;let l:0<n-1:=by lia
 unfold d_v at e;let i:=congrArg (· / (n-1)) e;let h:=congrArg (· % (n-1)) e;simp only[mul_comm _ (n-1),Nat.mul_add_div l,Nat.div_eq_of_lt g,Nat.div_eq_of_lt f,Nat.mul_add_mod,Nat.mod_eq_of_lt g,Nat.mod_eq_of_lt f,Nat.add_zero]at i h;subst i;refine(1,3);by_cases x:b<a<;>by_cases y:d<a<;>simp only[x,y,if_true,if_false]at h<;>omega
def mQ(f:hF L W B)(n:W.length≤8)(hp:p<W.length)(l:q<W.length)(hw:∀c∈w,c∈L)(o:run L W p w≠run L W q w)(first:∀v:LN,(∀c∈v,c∈L)->run L W p v=run L W p w->run L W q v=run L W q w->w.length≤v.length):w.length+1≤56:=by
 let g:∀{j:Nat},∀c∈w.take j,c∈L:=λc k=>hw c (mem_of_mem_take k);let d:∀{j:Nat},run L W p (w.take j)≠run L W q (w.take j):=λ{j}e=>o (by
  rw[<-take_append_drop j w,uS,uS,e])
 let h:=Kf (a:=(List.range (w.length+1)).map λj=>d_v W.length (run L W p (w.take j)) (run L W q (w.take j))) (b:=List.range (W.length*(W.length-1))) ?_ ?_
 .rw [ix,length_range,length_range]at h;show Nat.le_trans h (Nat.le_trans (Nat.mul_le_mul n (Nat.sub_le_sub_right n 1)) (!0))
 .rw [Nodup,pairwise_map];refine List.pairwise_lt_range.imp_of_mem λ{i j}u s t e=>?_;rw[mem_range]at u s;let⟨y,x⟩:=ko (ur f hp (g (j:=i))) (ur f l (g (j:=i))) (ur f hp (g (j:=j))) (ur f l (g (j:=j))) d d e;let m:∀{r:Nat},run L W r (w.take i)=run L W r (w.take j)->run L W r (w.take i++w.drop j)=run L W r w:=λ{r}h=>by
   let e:=uS L W r (w.take j) (w.drop j);rw[take_append_drop]at e;rw[uS,h,e]
  have:=first (w.take i++w.drop j) (GV g λc k=>hw c (mem_of_mem_drop k)) (m y) (m x)
  rw[j_,length_take,length_drop]at this;lia
 .intro c k;let⟨j,_,rfl⟩:=mem_map.mp k;show mem_range.mpr (kq (ur f hp g) (ur f l g) d)
structure pV(L:LN)(W0:LL)(B0:List Bool)(ju en:LL):Prop where
 ordJ:∀(i:Nat)(a b:LN),ju[i]?<*a->ju[i+1]?<*b->o4 L a b=true
 ordB:∀(i:Nat)(a b:LN),en[i]?<*a->en[i+1]?<*b->o4 L a b=true
 lenJ:ju.length≤6561
 lenB:en.length≤6561
 wJ:∀w∈ju,w.length≤W0.length/\∀c∈w,c∈L
 wB:∀w∈en,w.length≤W0.length/\∀c∈w,c∈L
 e1:∀w∈en,∀v:LN,(∀c∈v,c∈L)->B0.getD (run L W0 0 (v++w)) false=true
 e2:∀(c:Nat)(w:LN),c::w∈en->∃v:LN,(∀c∈v,c∈L)/\B0.getD (run L W0 0 (v++w)) false=false
 j1:∀w∈ju,B0.getD (run L W0 0 w) false=true
 j2:∀w∈ju,∃v:LN,(∀c∈v,c∈L)/\B0.getD (run L W0 0 (v++w)) false=false
 tk:∀w:LN,(∀c∈w,c∈L)->B0.getD (run L W0 0 w) false=(en.any (λb=>b.isSuffixOf w)||decide (w∈ju))
def mP(h:tu L T BT ju' be')(e:∀u:LN,(∀c∈u,c∈L)->BT.getD (run L T 0 u) false=B0.getD (run L W0 0 u.reverse) false)(E:∀w∈ju',w.length≤W0.length)(q:∀w∈be',w.length≤W0.length)(m:o.Perm (ju'.map reverse))(n:r.Perm (be'.map reverse))(C:∀(i:Nat)(a b:LN),o[i]?<*a->o[i+1]?<*b->o4 L a b=true)(D:∀(i:Nat)(a b:LN),r[i]?<*a->r[i+1]?<*b->o4 L a b=true):pV L W0 B0 o r:=by
 let f:∀{l s:LL},l.Perm (s.map reverse)->∀{w:LN},w∈l↔w.reverse∈s:=λ{l s}p{w}=>by
  rw[p.mem_iff,mem_map];show(λ⟨x,H,G⟩=>by rw[<-G,reverse_reverse];show H,λh=>(_,h,reverse_reverse w))
 let g:∀{v:LN},(∀c∈v,c∈L)->∀c∈v.reverse,c∈L:=λh c k=>h c (mem_reverse.mp k);let y:∀{w:LN},w∈o->∀c∈w,c∈L:=λ{w}hw c k=>(h.wJ _ ((f m).mp hw)).2 c (mem_reverse.mpr k);let z:∀{w:LN},w∈r->∀c∈w,c∈L:=λ{w}hw c k=>(h.wB _ ((f n).mp hw)).2 c (mem_reverse.mpr k);let A:∀{w v:LN},(∀c∈w,c∈L)->(∀c∈v,c∈L)->BT.getD (run L T 0 (w.reverse++v)) false=B0.getD (run L W0 0 (v.reverse++w)) false:=λ{w v}hw j=>by
  rw[e _ (GV (g hw) j),List.reverse_append,reverse_reverse]
 refine(C,D,by rw[m.length_eq,ix];show h.lenJ,by rw[n.length_eq,ix];show h.lenB,λw hw=>(3,y hw),λw hw=>(3,z hw),λw hw v j=>?_,λc w hw=>?_,λw hw=>?_,λw hw=>?_,λw hw=>?_)
 .rw [<-length_reverse];show E _ ((f m).mp hw)
 .rw [<-length_reverse];show q _ ((f n).mp hw)
 .have:=h.b1 _ ((f n).mp hw) v.reverse (g j)
  rwa [A (z hw) (g j),reverse_reverse]at this
 .let k:=z hw;let q:=(f n).mp hw;rw[List.reverse_cons]at q;let⟨v,j,t⟩:=h.b2 _ _ q;show(v.reverse,g j,by rw[<-A (λd F=>k d (mem_cons_of_mem _ F)) j];show t)
 .have:=h.j1 _ ((f m).mp hw)
  rwa [e _ (g (y hw)),reverse_reverse]at this
 .obtain ⟨v,j,t⟩:=h.j2 _ ((f m).mp hw);show(v.reverse,g j,by rw[<-A (y hw) j];show t)
 .have:=h.tk w.reverse (g hw);rw[e _ (g hw),reverse_reverse]at this;rw[this,n.any_eq,List.any_map];let M:decide (w.reverse∈ju')=decide (w∈o):=decide_eq_decide.mpr (f m).symm;let I:(be'.any λb=>b.isPrefixOf w.reverse)=be'.any ((λb=>b.isSuffixOf w)∘reverse):=by
   congr 1;funext b;change _=List.isSuffixOf b.reverse w;rw[List.isSuffixOf,reverse_reverse]
  rw[M,I]
end
end RA
namespace TS
open PyProof.Rows L2
@[reducible]def Kd:=Value×Value
abbrev Sg(a:Array Kd)(i j:Nat):Prop:=∀p q,i≤p->p≤q->q<j->K a p≤K a q
abbrev vb:Bool->Kd->Array Kd->Nat->Nat->Nat->StateT SortSt Sem (Option Nat):=sortPriv% PySem.Builtin.gallop
abbrev By(left:Bool)(k:Int)(a:Array Kd)(i:Nat):Bool:=if left then decide (K a i<k)else !decide (k<K a i)
section
variable{prog:Program}{w:World}{A:Around}{E:Value->Shared->Prop}{s:Shared}{st:SortSt}
def fY{x y:Kd}(c:kindOf st=oneType')(b:∃n t,x.1=.int n t)(a:∃n t,y.1=.int n t)(h:Q (some (decide (numOf x.1<numOf y.1))) st):wpS (model prog w) A E s (lt' x y) Q st:=by
 let⟨n,t,b⟩:=b;let⟨m,u,a⟩:=a;rw[b,a]at h;rw[lt'_eq];refine wpS_bind (wpS_get ?_);rw[c,keyLt'_oneType,b,a];show wpS_bind (wpS_lift (wpAny_attempt (oneLt_int (1,wpS_pure h))))
def vS{a:Array Kd}{Q:Kd->SortSt->Prop}(b:i<a.size)(h:Q a[i] st):wpS (model prog w) A E s (elem' a i) Q st:=by
 rw[elem'_eq,getElem?_pos a i b];show wpS_pure h
def m_{a:Array Kd}(b:i<a.size):K a i=numOf a[i].1:=by unfold K;rw[getElem?_pos a i b]
def GW{a:Array Kd}(h:IntKeys a)(b:i<a.size):∃n t,a[i].1=.int n t:=h _ (!1)
def p7(c:Sg a b (b+n))(d:i≤j)(e:j<n)(h:By left k a (b+j)=true):By left k a (b+i)=true:=by
 have:=c (b+i) (b+j) (!6) (!6) (!6);unfold By at *;cases left<;>simp at * <;> lia
def Ky{key:Kd}{a:Array Kd}(d:kindOf st=oneType')(f:IntKeys a)(c:∃n t,key.1=.int n t)(b:i<a.size)(h:Q (some (By left (numOf key.1) a i)) st):wpS (model prog w) A E s (do let x <-elem' a i;if left then lt' x key else return (<-lt' key x).map (!·)) Q st:=by
 refine wpS_bind (vS b ?_);let e:=m_ b;unfold By at h;rw[e]at h;cases left
 .exact wpS_bind (fY d c (GW f b) (wpS_pure h))
 .exact fY d (GW f b) c h
def oE{B:Nat->Bool}{n lo a:Nat}(q:∀i j,i≤j->j<n->B j=true->B i=true)(y:lo≤a)(v:a≤n)(r:∀i,i<lo->B i=true)(u:∀i,a≤i->i<n->B i=false)(h:∀l k,k≤n->(∀i,i<k->B i=true)->(∀i,k≤i->i<n->B i=false)->Q (none,l,k,) st)(C:∀x lo a(R:ForInStep (Option (Option Nat)×Nat×Nat)->SortSt->Prop),lo≥a->R (.done (none,lo,a,)) st->wpS (model prog w) A E s (f x (none,lo,a,)) R st)(z:∀x lo a(R:ForInStep (Option (Option Nat)×Nat×Nat)->SortSt->Prop),lo<a->a≤n->(B (lo+(a-lo)/2)=true->R (.yield (none,lo+(a-lo)/2+1,a,)) st)->(B (lo+(a-lo)/2)=false->R (.yield (none,lo,lo+(a-lo)/2,)) st)->wpS (model prog w) A E s (f x (none,lo,a,)) R st):wpS (model prog w) A E s (forIn [0:n] (none,lo,a,) f) Q st:=by
 refine wpS_forRange (I:=λx c d=>d=st/\E2 λlo a=>A6 (c=(none,lo,a,)) (lo≤a) (a≤n) (a-lo≤n-x) (∀i,i<lo->B i=true) (∀i,a≤i->i<n->B i=false)) ?_ ?_ (1,lo,a,1,y,v,!6,r,u)
 .rintro x c d _ G⟨rfl,lo,a,rfl,F,g,D,o,m⟩;by_cases p:lo≥a
  .have:lo=a:=by lia
   subst this;show C x _ _ _ p (h lo lo g o m)
  .refine z x lo a _ (!6) g (λb=>(1,8,!6,g,!6,λi t=>?_,m)) (λb=>(1,8,5,!6,o,λi hi1 hi2=>?_))
   .exact q i _ (!6) (!6) b
   .cases e:B i with
    |false=>rfl
    |true=>rw[q _ i hi1 hi2 e]at b;cases b
 .rintro c d⟨rfl,lo,a,rfl,F,g,D,o,m⟩;have:lo=a:=by lia
  subst this;show h lo lo g o m
def J0{a:Array Kd}(C:kindOf st=oneType')(D:IntKeys a)(u:∃n t,key.1=.int n t)(W:base+n≤a.size)(S:Sg a base (base+n))(U:hint<n)(h:∀k,k≤n->(∀i,i<k->By left (numOf key.1) a (base+i)=true)->(∀i,k≤i->i<n->By left (numOf key.1) a (base+i)=false)->Q (some k) st):wpS (model prog w) A E s (vb left key a base n hint) Q st:=by
 let v:∀i j,i≤j->j<n->By left (numOf key.1) a (base+j)=true->By left (numOf key.1) a (base+i)=true:=λi j=>p7 S;let M:∀i j,i≤j->j<n->By left (numOf key.1) a (base+i)=false->By left (numOf key.1) a (base+j)=false:=λi j x y z=>by
  cases e:By left (numOf key.1) a (base+j)with
  |false=>rfl
  |true=>rw[v i j x y e]at z;cases z
 refine wpS_bind (Ky C D u (!6) ?_);cases N:By left (numOf key.1) a (base+hint)with
 |true=>
  dsimp only;rw[if_pos rfl];refine wpS_bind (wpS_mono (wpS_forRange (I:=λx c b=>b=st/\E2 λl o=>A5 (c=(none,l,o,)) (l<o) (x+1≤o) (hint+l<n) (By left (numOf key.1) a (base+(hint+l))=true))
   (Q:=λc b=>b=st/\E2 λl o=>A5 (c=(none,l,o,)) (l<o) (hint+l<n) (By left (numOf key.1) a (base+(hint+l))=true) (o<n-hint->By left (numOf key.1) a (base+(hint+o))=false)) ?_ ?_ (1,(0),(1),1,5,U,N)) ?_)
  .rintro x c b _ P⟨rfl,l,o,rfl,g,p,f,m⟩;dsimp only;by_cases d:o≥n-hint
   .rw [if_pos d];show wpS_pure (1,l,o,1,g,f,m,λz=>!6)
   .rw [if_neg d];refine wpS_bind (Ky C D u (!6) ?_);dsimp only;cases e:By left (numOf key.1) a (base+(hint+o))with
    |true=>show wpS_pure (1,o,2*o+1,1,5,!6,e)
    |false=>show wpS_pure (1,l,o,1,g,f,m,λ_=>e)
  .rintro c b⟨rfl,l,o,rfl,g,p,f,m⟩;rw[zero_max]at p;show(1,l,o,1,g,f,m,λz=>!6)
  rintro c b⟨rfl,l,o,rfl,g,p,f,m⟩;dsimp only;refine wpS_bind (oE (B:=λi=>By left (numOf key.1) a (base+i)) v (!2) (!6) (λi q=>v i _ (!6) p f) (λi O L=>M (hint+o) i (!6) L (m (!6))) (λl k g p f=>wpS_pure (h k g p f)) (λx lo q R d r=>?_) λx lo q R H T G F=>?_);all_goals dsimp only
  .rw [if_pos d];show wpS_pure r
  .rw [if_neg (!6)];refine wpS_bind (Ky C D u (!6) ?_);dsimp only;cases e:By left (numOf key.1) a (base+(lo+(q-lo)/2))with
   |true=>show wpS_pure (G e)
   |false=>show wpS_pure (F e)
 |false=>
  dsimp only;rw[if_neg (!0)];refine wpS_bind (wpS_mono (wpS_forRange (I:=λx c b=>b=st/\E2 λl o=>A5 (c=(none,l,o,)) (l<o) (x+1≤o) (l≤hint) (By left (numOf key.1) a (base+(hint-l))=false))
   (Q:=λc b=>b=st/\E2 λl o=>A5 (c=(none,l,o,)) (l<o) (l≤hint) (By left (numOf key.1) a (base+(hint-l))=false) (o≤hint->By left (numOf key.1) a (base+(hint-o))=true)) ?_ ?_ (1,(0),(1),1,5,!6,N)) ?_)
  .rintro x c b _ P⟨rfl,l,o,rfl,g,p,f,m⟩;dsimp only;by_cases d:o≥hint+1
   .rw [if_pos d];show wpS_pure (1,l,o,1,g,f,m,λz=>!6)
   .rw [if_neg d];refine wpS_bind (Ky C D u (!6) ?_);dsimp only;cases e:By left (numOf key.1) a (base+(hint-o))with
    |false=>show wpS_pure (1,o,2*o+1,1,5,!6,e)
    |true=>show wpS_pure (1,l,o,1,g,f,m,λ_=>e)
  .rintro c b⟨rfl,l,o,rfl,g,p,f,m⟩;rw[zero_max]at p;show(1,l,o,1,g,f,m,λz=>!6)
  rintro c b⟨rfl,l,o,rfl,g,p,f,m⟩;dsimp only;refine wpS_bind (oE (B:=λi=>By left (numOf key.1) a (base+i)) v (!2) (!6) (λi q=>v i (hint-o) (!6) (!6) (m (!6))) (λi O L=>M _ i O L f) (λl k g p f=>wpS_pure (h k g p f)) (λx lo q R d r=>?_) λx lo q R H T G F=>?_);all_goals dsimp only
  .rw [if_pos d];show wpS_pure r
  .rw [if_neg (!6)];refine wpS_bind (Ky C D u (!6) ?_);dsimp only;cases e:By left (numOf key.1) a (base+(lo+(q-lo)/2))with
   |true=>show wpS_pure (G e)
   |false=>show wpS_pure (F e)
end
instance key(p:Kd):Int:=numOf p.1
structure J(r:Kd->Kd->Prop)(A B o:List Kd)(i j:Nat):Prop where
 perm:o.Perm (A.take i++B.take j)
 srt:o.Pairwise r
 ra:∀p∈o,∀q∈A.drop i,r p q
 rb:∀p∈o,∀q∈B.drop j,r p q
section
variable{r:Kd->Kd->Prop}{A B o:List Kd}{i j k:Nat}
def J.symm(h:J r A B o i j):J r B A o j i:=(h.perm.trans List.perm_append_comm,h.srt,h.rb,h.ra)
def J.add(h:J r A B o i j)(f:A.Pairwise r)(d:∀p∈(A.drop i).take k,∀q∈B.drop j,r p q):J r A B (o++(A.drop i).take k) (i+k) j:=by
 let c:=f.sublist (List.drop_sublist i A);let e:(A.drop i).take k++(A.drop i).drop k=A.drop i:=take_append_drop k _;let hp:((A.drop i).take k++(A.drop i).drop k).Pairwise r:=by rw[e];show c
 rw[List.pairwise_append]at hp;let l:(A.drop i).drop k=A.drop (i+k):=by rw[List.drop_drop]
 let g:A.take (i+k)=A.take i++(A.drop i).take k:=List.take_add;refine(9,λp a q b=>?_,λp a q b=>?_)
 .rw [g,append_assoc];show(h.perm.append_right _).trans (by rw[append_assoc];show List.Perm.append_left _ List.perm_append_comm)
 .rw [List.pairwise_append];show(h.srt,hp.1,λp a q b=>h.ra p a q (mem_of_mem_take b))
 .rcases mem_append.mp a with z|z
  .exact h.ra p z q (mem_of_mem_drop (by rw[<-List.drop_drop]at b;show b))
  .exact hp.2.2 p z q (by rw[l];show b)
 .rcases mem_append.mp a with z|z
  .exact h.rb p z q b
  .exact d p z q b
def J.fin(h:J r A B o i j)(g:A.Pairwise r)(f:B.Pairwise r)(d:∀p∈A.drop i,∀q∈B.drop j,r p q):(o++A.drop i++B.drop j).Perm (A++B)/\(o++A.drop i++B.drop j).Pairwise r:=by
 let c:=h.add (k:=A.length) g λp hp q a=>d p (mem_of_mem_take hp) q a;let e:(A.drop i).take A.length=A.drop i:=take_of_length_le (by rw[length_drop];lia);rw[e]at c;let b:=c.symm.add (k:=B.length) f λp hp q a=>by
  rw[List.drop_eq_nil_of_le (!6)]at a;cases a
 let l:(B.drop j).take B.length=B.drop j:=take_of_length_le (by rw[length_drop];lia);rw[l]at b;refine(b.perm.trans ?_,b.srt);rw[take_of_length_le (!6),take_of_length_le (!6)];show List.perm_append_comm
def J.one(h:J r A B o i j)(d:A.Pairwise r)(b:i<A.length)(c:∀q∈B.drop j,r A[i] q):J r A B (o++[A[i]]) (i+1) j:=by
 let e:(A.drop i).take 1=[A[i]]:=by rw[drop_eq_getElem_cons b];rfl
 have:=h.add (k:=1) d (by rw[e];intro p hp q a;rw[t5 hp];show c q a)
 rwa [e]at this
end
abbrev HP:Array Kd->Array Kd->StateT SortSt Sem (Array Kd):=sortPriv% PySem.Builtin.mergeLo
abbrev le(p q:Kd):Prop:=key p≤key q
instance Pw(a:Array Kd):Prop:=a.toList.Pairwise le
def Kz{a:Array Kd}{P:Kd->Prop}(h:∀t,(b:i+t<a.size)->P a[i+t]):∀p∈a.toList.drop i,P p:=λp hp=>by
 let⟨t,b,rfl⟩:=List.mem_iff_getElem.mp hp;rw[length_drop,length_toList]at b;rw[List.getElem_drop,getElem_toList];show h t (!6)
def d9{a:Array Kd}{P:Kd->Prop}(h:∀t,t<k->(b:i+t<a.size)->P a[i+t]):∀p∈(a.toList.drop i).take k,P p:=λp hp=>by
 let⟨t,b,rfl⟩:=List.mem_iff_getElem.mp hp;rw[length_take,length_drop,length_toList]at b;rw[List.getElem_take,List.getElem_drop,getElem_toList];show h t (!6) (!6)
def Hv(h:Pw a)(i j:Nat)(d:j≤a.size):Sg a i j:=λp q _ b c=>by
 rcases Nat.lt_or_eq_of_le b with z|z
 .rw [m_ (!6),m_ (!2),<-getElem_toList,<-getElem_toList];show pairwise_iff_getElem.mp h p q (by rw[length_toList];lia) (by rw[length_toList];omega) z
 .rw [z];show Int.le_refl _
abbrev vT(a b o:Array Kd):Prop:=o.toList.Perm (a.toList++b.toList)/\o.toList.Pairwise le
instance Ja(a b o:Array Kd)(i j:Nat):Prop:=J le a.toList b.toList o.toList i j
section
variable{a b o:Array Kd}{i j k:Nat}
def Ln:(a.extract i).toList=a.toList.drop i:=by
 rw[toList_extract,extract_eq_take_drop];show take_of_length_le (by rw[length_drop,length_toList];lia)
def Ja.done(h:Ja a b o i j)(e:Pw a)(d:Pw b)(f:j=b.size\/i=a.size):vT a b (o++a.extract i++b.extract j):=by
 have:=h.fin e d λp hp q c=>by
  rcases f with z|z
  .rw [List.drop_eq_nil_of_le (by rw[length_toList];lia)]at c;cases c
  .rw [List.drop_eq_nil_of_le (by rw[length_toList];lia)]at hp;cases hp
 unfold vT;rw[toList_append,toList_append,Ln,Ln];show this
def Ja.last(h:Ja a b o i j)(d:Pw a)(c:Pw b)(m:i+1=a.size)(g:∀q∈b.toList,key q≤key a[a.size-1]):vT a b (o++b.extract j++a.extract i):=by
 have:=h.symm.fin c d λp hp q f=>Kz (P:=λq=>le p q) (λt l=>by
  let e:a[i+t]=a[a.size-1]:=by congr 1;lia
  unfold le;rw[e];show g p (mem_of_mem_drop hp)) q f
 unfold vT;rw[toList_append,toList_append,Ln,Ln];show(this.1.trans List.perm_append_comm,this.2)
def Ja.pushB(h:Ja a b o i j)(d:Pw b)(f:j<b.size)(g:∀t,(c:i+t<a.size)->key b[j]≤key a[i+t]):Ja a b (o.push b[j]) i (j+1):=by
 have:=h.symm.one d (by rw[length_toList];show f) λq e=>Kz (P:=λq=>le b.toList[j] q) (λt c=>by rw[getElem_toList];show g t c) q e;rw[getElem_toList]at this;change J le _ _ (o.push b[j]).toList _ _;rw[toList_push];show this.symm
def Ja.pushA(h:Ja a b o i j)(d:Pw a)(f:i<a.size)(g:∀t,(c:j+t<b.size)->key a[i]≤key b[j+t]):Ja a b (o.push a[i]) (i+1) j:=by
 have:=h.one d (by rw[length_toList];show f) λq e=>Kz (P:=λq=>le a.toList[i] q) (λt c=>by rw[getElem_toList];show g t c) q e;rw[getElem_toList]at this;change J le _ _ (o.push a[i]).toList _ _;rw[toList_push];show this
def Ja.extA(h:Ja a b o i j)(d:Pw a)(f:∀t,t<k->(m:i+t<a.size)->∀u,(c:j+u<b.size)->key a[i+t]≤key b[j+u]):Ja a b (o++a.extract i (i+k)) (i+k) j:=by
 have:=h.add (k:=k) d λp hp q e=>d9 (P:=λp=>le p q) (λt l g=>Kz (P:=λq=>le a[i+t] q) (λu c=>f t l g u c) q e) p hp;change J le _ _ (o++a.extract i (i+k)).toList _ _;rw[toList_append,toList_extract,extract_eq_take_drop,Nat.add_sub_cancel_left];show this
def Ja.extB(h:Ja a b o i j)(d:Pw b)(f:∀t,t<k->(m:j+t<b.size)->∀u,(c:i+u<a.size)->key b[j+t]≤key a[i+u]):Ja a b (o++b.extract j (j+k)) i (j+k):=by
 have:=h.symm.add (k:=k) d λp hp q e=>d9 (P:=λp=>le p q) (λt l g=>Kz (P:=λq=>le b[j+t] q) (λu c=>f t l g u c) q e) p hp;change J le _ _ (o++b.extract j (j+k)).toList _ _;rw[toList_append,toList_extract,extract_eq_take_drop,Nat.add_sub_cancel_left];show this.symm
end
section
variable{prog:Program}{w:World}{A:Around}{E:Value->Shared->Prop}{s:Shared}{st:SortSt}
def Hw{a:Type}{c:Prop}[Decidable c]{t e:StateT SortSt Sem a}{Q:a->SortSt->Prop}(h:c)(k:wpS (model prog w) A E s t Q st):wpS (model prog w) A E s (if c then t else e) Q st:=by rw[if_pos h];show k
def Hx{a:Type}{c:Prop}[Decidable c]{t e:StateT SortSt Sem a}{Q:a->SortSt->Prop}(h:¬ c)(k:wpS (model prog w) A E s e Q st):wpS (model prog w) A E s (if c then t else e) Q st:=by rw[if_neg h];show k
def Ju(h:Q ⟨⟩ st):wpS (model prog w) A E s (liftM (rule r):StateT SortSt Sem PUnit) Q st:=wpS_lift (wpAny_rule (1,h))
abbrev Gs(st st':SortSt):Prop:=∃g,st'=SortSt.mk' (kindOf st) (arrOf st) (pendingOf st) g (failedOf st)
def Gs.refl:Gs st st:=(gallopOf st,1)
def Gs.set(h:Gs st a):Gs st (SortSt.mk' (kindOf a) (arrOf a) (pendingOf a) g (failedOf a)):=by
 let⟨g',rfl⟩:=h;show(g,1)
def Gs.kind(h:Gs st a)(b:kindOf st=oneType'):kindOf a=oneType':=by
 let⟨g',rfl⟩:=h;show b
abbrev du:Nat->StateT SortSt Sem Unit:=sortPriv% PySem.Builtin.setMinGallop
def ji(c:Gs st b)(h:∀a,Gs st a->Q ⟨⟩ a):wpS (model prog w) A E s (du g) Q b:=wpS_modify (h _ c.set)
@[reducible]def Ls:=Option (Array Kd)×Array Kd×Nat×Nat×Nat×Nat×Nat
abbrev lo3(a b:Array Kd)(g ac bc i j:Nat)(o:Array Kd):StateT SortSt Sem (ForInStep Ls):=do
 let e <-elem' a i
 if (i+1+1==a.size)=true then pure (.done (some (o.push e++b.extract j b.size++a.extract (i+1) a.size),o.push e,i+1,j,g,ac,bc,))
 else if (decide (ac<7)&&decide (bc<7))=true then pure (.done (none,o.push e,i+1,j,g,ac,bc,))else pure (.yield (none,o.push e,i+1,j,g,ac,bc,))
abbrev L5(a b:Array Kd)(g ac bc i j:Nat)(o:Array Kd):StateT SortSt Sem (ForInStep Ls):=do
 let e <-elem' b j
 if (j+1==b.size)=true then pure (.done (some (o.push e++a.extract i a.size++b.extract (j+1) b.size),o.push e,i,j+1,g,ac,bc,))
 else do
  let f <-elem' a i
  let x <-vb true f b (j+1) (b.size-(j+1)) 0
  match x with
  |some k=>
   if k>0 then
    if (j+1+k==b.size)=true then pure (.done (some (o.push e++b.extract (j+1) (j+1+k)++a.extract i a.size++b.extract (j+1+k) b.size),o.push e++b.extract (j+1) (j+1+k),i,j+1+k,g,ac,k,))
    else lo3 a b g ac k i (j+1+k) (o.push e++b.extract (j+1) (j+1+k))
   else lo3 a b g ac k i (j+1) (o.push e)
  |_=>pure (.done (some (o.push e++a.extract i a.size++b.extract (j+1) b.size),o.push e,i,j+1,g,ac,bc,))
abbrev NV(a b:Array Kd)(g ac bc i j:Nat)(o:Array Kd):StateT SortSt Sem (ForInStep Ls):=do
 du g
 let e <-elem' b j
 let x <-vb false e a i (a.size-i) 0
 match x with
 |some k=>
  if k>0 then
   if (i+k+1==a.size)=true then pure (.done (some (o++a.extract i (i+k)++b.extract j b.size++a.extract (i+k) a.size),o++a.extract i (i+k),i+k,j,g,k,bc,))
   else if (i+k==a.size)=true then pure (.done (some (o++a.extract i (i+k)++a.extract (i+k) a.size++b.extract j b.size),o++a.extract i (i+k),i+k,j,g,k,bc,))
   else L5 a b g k bc (i+k) j (o++a.extract i (i+k))
  else L5 a b g k bc i j o
 |_=>pure (.done (some (o++a.extract i a.size++b.extract j b.size),o,i,j,g,ac,bc,))
section
variable{a b o:Array Kd}{i j g ac bc:Nat}{Q:ForInStep Ls->SortSt->Prop}
def nt(f:Pw a)(k:Pw b)(v:0<a.size)(u:∀q∈b.toList,key q≤key a[a.size-1])(n:Ja a b o i j)(d:i<a.size)(y:i+1<a.size)(p:∀t,(x:j+t<b.size)->key a[i]≤key b[j+t])(m:∀r c,vT a b r->Q (.done (some r,c,)) st)(l:∀o,Ja a b o (i+1) j->i+1+1<a.size->Q (.done (none,o,i+1,j,g,ac,bc,)) st/\Q (.yield (none,o,i+1,j,g,ac,bc,)) st):wpS (model prog w) A E s (lo3 a b g ac bc i j o) Q st:=by
 refine wpS_bind (vS d ?_);let h:=n.pushA f d p;by_cases e:i+1+1=a.size
 .rw [if_pos (by simpa using e)];show wpS_pure (m _ _ (h.last f k e u))
 rw[if_neg (by simpa using e)];let q:=l _ h (!6);split
 .exact wpS_pure q.1
 .exact wpS_pure q.2
def nu(T:kindOf st=oneType')(R:IntKeys a)(P:IntKeys b)(n:Pw a)(e:Pw b)(H:0<a.size)(y:∀q∈b.toList,key q≤key a[a.size-1])(f:Ja a b o i j)(N:i+1<a.size)(M:j<b.size)(U:∀t,(C:i+t<a.size)->key b[j]≤key a[i+t])(v:∀r c,vT a b r->Q (.done (some r,c,)) st)(G:∀o i2 f bc,Ja a b o i2 f->i2+1<a.size->f<b.size->i+j<i2+f->Q (.done (none,o,i2,f,g,ac,bc,)) st/\Q (.yield (none,o,i2,f,g,ac,bc,)) st):wpS (model prog w) A E s (L5 a b g ac bc i j o) Q st:=by
 let d:i<a.size:=by lia
 refine wpS_bind (vS M ?_);let I:=f.pushB e M U;by_cases F:j+1=b.size
 .rw [if_pos (by simpa using F)];show wpS_pure (v _ _ (I.done n e (.inl F)))
 rw[if_neg (by simpa using F)];refine wpS_bind (vS d (wpS_bind (J0 T P (GW R d) (!6) (Hv e _ _ (!6)) (!6) λm _ B S=>?_)));dsimp only;let O:∀t,(C:j+1+m+t<b.size)->key a[i]≤key b[j+1+m+t]:=λt C=>by
  have:=S (m+t) (!6) (!6);unfold By at this;rw[if_pos rfl,<-add_assoc,m_ C]at this;show Int.not_lt.mp (by simpa using this)
 let x:=I.extB (k:=m) e λt y W u L=>by
  let p:=B t y;unfold By at p;rw[if_pos rfl,m_ W]at p;let q:=Hv n 0 a.size (Nat.le_refl _) i (i+u) (zero_le _) (le_add_right _ u) L;rw[m_ d,m_ L]at q;show Int.le_trans (Int.le_of_lt (by simpa using p)) q
 rcases Nat.eq_zero_or_pos m with l|l
 .subst l;rw[if_neg (!0)];rw[show ∀o:Array Kd,o++b.extract (j+1) (j+1+0)=o from λo=>by simp;lia]at x;show nt n e H y x d N O v λo z h=>G o _ _ _ z h (!6) (!6)
 rw[if_pos l];by_cases D:j+1+m=b.size
 .rw [if_pos (by simpa using D)];show wpS_pure (v _ _ (x.done n e (.inl D)))
 rw[if_neg (by simpa using D)];show nt n e H y x d N O v λo z h=>G o _ _ _ z h (!6) (!6)
def Jv(W:kindOf st=oneType')(G:IntKeys a)(F:IntKeys b)(v:Pw a)(y:Pw b)(N:0<a.size)(C:∀q∈b.toList,key q≤key a[a.size-1])(T:Ja a b o i j)(X:i+1<a.size)(B:j<b.size)(L:Gs st H)(x:∀d,Gs st d->∀r c,vT a b r->Q (.done (some r,c,)) d)(D:∀d,Gs st d->∀o i2 e ac bc,Ja a b o i2 e->i2+1<a.size->e<b.size->i+j<i2+e->Q (.done (none,o,i2,e,g,ac,bc,)) d/\Q (.yield (none,o,i2,e,g,ac,bc,)) d):wpS (model prog w) A E s (NV a b g ac bc i j o) Q H:=by
 refine wpS_bind (ji L λd m=>?_);let f:=m.kind W;refine wpS_bind (vS B (wpS_bind (J0 f G (GW F B) (!6) (Hv v _ _ (!6)) (!6) λk _ S R=>?_)));dsimp only;let P:∀t,(O:i+k+t<a.size)->key b[j]≤key a[i+k+t]:=λt O=>by
  have:=R (k+t) (!6) (!6);unfold By at this;rw[if_neg (!0),<-add_assoc,m_ O]at this;show Int.le_of_lt (by simpa using this)
 let e:=T.extA (k:=k) v λt C I u U=>by
  let p:=S t C;unfold By at p;rw[if_neg (!0),m_ I]at p;let q:=Hv y 0 b.size (Nat.le_refl _) j (j+u) (zero_le _) (!6) (!6);rw[m_ B,m_ U]at q;show Int.le_trans (Int.not_lt.mp (by simpa using p)) q
 let x:=x d m;let D:=D d m;rcases Nat.eq_zero_or_pos k with l|l
 .subst l;rw[if_neg (!0)];rw[show o++a.extract i (i+0)=o by simp;lia]at e;show nu f G F v y N C e X B P x λo i2 e bc=>D o i2 e _ bc
 rw[if_pos l];by_cases M:i+k+1=a.size
 .rw [if_pos (by simpa using M)];show wpS_pure (x _ _ (e.last v y M C))
 rw[if_neg (by simpa using M)];by_cases n:i+k=a.size
 .rw [if_pos (by simpa using n)];show wpS_pure (x _ _ (e.done v y (.inr n)))
 rw[if_neg (by simpa using n)];show nu f G F v y N C e (!6) B P x λo i2 e bc z h I Y=>D o i2 e _ bc z h I (!6)
end
def iA{a b:Array Kd}(hk:kindOf st=oneType')(Y:IntKeys a)(X:IntKeys b)(D:Pw a)(B:Pw b)(na:0<a.size)(Z:0<b.size)(h0:key b[0]≤key a[0])(L:∀q∈b.toList,key q≤key a[a.size-1])(h:∀(o:Array Kd)(d:SortSt),vT a b o->Gs st d->Q o d):wpS (model prog w) A E s (HP a b) Q st:=by
 let ga:=Hv D;let gb:=Hv B;refine wpS_bind (Ju (wpS_bind (vS Z ?_)));let R:Ja a b #[b[0]] 0 1:=by
  have:Ja a b #[] 0 0:=(!1,!1,!1,!1);show this.pushB B Z λt O=>by
   have:=ga 0 a.size (Nat.le_refl _) 0 (0+t) (Nat.le_refl _) (!6) (!6);rw[m_ na,m_ O]at this;show Int.le_trans h0 this
 (try dsimp -zeta only)
 by_cases W:1=b.size
 .refine Hw (by simpa using W) ?_;show wpS_pure (h _ _ (R.done D B (.inl W)) Gs.refl)
 refine Hx (by simpa using W) ?_;by_cases U:0+1=a.size
 .refine Hw (by simpa using U) ?_;show wpS_pure (h _ _ (R.last D B U L) Gs.refl)
 refine Hx (by simpa using U) ?_;refine wpS_bind (wpS_get (wpS_bind (wpS_mono (wpS_forRange (I:=λx c d=>Gs st d/\E4 λo i j g=>A5 (c=(none,o,i,j,g,)) (Ja a b o i j) (i+1<a.size) (j<b.size) (x+1≤i+j)) (Q:=λc d=>Gs st d/\E2 λr C=>c=(some r,C,)/\vT a b r) ?_ ?_ (Gs.refl,_,(0),(1),0,R,5,!6)) ?_)))
 .rintro x c p _ hx⟨n,o,i,j,g,rfl,f,m,e,hp⟩
  (try dsimp -zeta only)
  let S:=n.kind hk;refine wpS_bind (wpS_mono (wpS_forRange (I:=λy c d=>d=p/\E5 λo i j l k=>A5 (c=(none,o,i,j,l,k,)) (Ja a b o i j) (i+1<a.size) (j<b.size) (x+1+y≤i+j))
   (Q:=λc d=>d=p/\((∃r C,c=(some r,C,)/\vT a b r)\/∃o i j l k,c=(none,o,i,j,l,k,)/\Ja a b o i j/\i+1<a.size/\j<b.size/\x+2≤i+j)) ?_ ?_ (1,o,i,j,(0),(0),1,f,m,e,!6)) ?_)
  .rintro y c N _ hy⟨rfl,o,i,j,l,k,rfl,f,m,e,hp⟩
   (try dsimp -zeta only)
   refine wpS_bind (vS e (wpS_bind (vS (!6) (wpS_bind (fY S (GW X e) (GW Y (!6)) ?_)))))
   (try dsimp -zeta only)
   by_cases v:key b[j]<key a[i]
   .refine Hw (by simpa using v) ?_;refine wpS_bind (vS e ?_);let F:=f.pushB B e λt O=>by
     have:=ga 0 a.size (Nat.le_refl _) i (i+t) (zero_le _) (!6) (!6);rw[m_ (!6),m_ O]at this;show Int.le_of_lt (Int.lt_of_lt_of_le v this)
    by_cases H:j+1=b.size
    .refine Hw (by simpa using H) ?_;show wpS_pure (1,.inl (8,F.done D B (.inl H)))
    refine Hx (by simpa using H) ?_;split
    .exact wpS_pure (1,.inr (7,7,0,F,m,5))
    .exact wpS_pure (1,7,7,0,F,m,5)
   .refine Hx (by simpa using v) ?_;refine wpS_bind (vS (!6) ?_);let F:=f.pushA D (!6) λt O=>by
     have:=gb 0 b.size (Nat.le_refl _) j (j+t) (zero_le _) (!6) (!6);rw[m_ e,m_ O]at this;show Int.le_trans (Int.not_lt.mp v) this
    by_cases H:i+1+1=a.size
    .refine Hw (by simpa using H) ?_;show wpS_pure (1,.inl (8,F.last D B H L))
    refine Hx (by simpa using H) ?_;split
    .exact wpS_pure (1,.inr (7,7,0,F,!6,e,!6))
    .exact wpS_pure (1,7,7,0,F,!6,e,!6)
  .rintro c N⟨rfl,o,i,j,l,k,rfl,f,m,e,hp⟩;rw[zero_max]at hp;lia
  rintro c N⟨rfl,⟨r,C,rfl,G⟩|⟨o,i,j,l,k,rfl,f,m,e,hp⟩⟩
  .exact wpS_pure (n,r,0,G)
  (try dsimp -zeta only)
  refine wpS_bind (Ju (wpS_bind (wpS_mono (wpS_forRange (I:=λy c d=>Gs st d/\E6 λo i j g l k=>A5 (c=(none,o,i,j,g,l,k,)) (Ja a b o i j) (i+1<a.size) (j<b.size) (x+2+y≤i+j))
   (Q:=λc d=>Gs st d/\((∃r C,c=(some r,C,)/\vT a b r)\/∃o i j g l k,c=(none,o,i,j,g,l,k,)/\Ja a b o i j/\i+1<a.size/\j<b.size/\x+2≤i+j)) ?_ ?_ (n,o,i,j,_,l,k,1,f,m,e,!6)) ?_)))
  .rintro y c M _ hy⟨u,o,i,j,g,l,k,rfl,f,m,e,hp⟩
   (try dsimp -zeta only)
   rcases Nat.lt_or_ge 1 g with T|T;refine Hw (T) ?_
   rotate_left
   refine Hx (Nat.not_lt.mpr T) ?_;all_goals show Jv hk Y X D B na L f m e u (λP z r c G=>(z,.inl (r,c,1,G))) λP z o i j l k f L h2 h3=>((z,.inr (7,7,8,f,L,h2,!6)),(z,7,7,8,f,L,h2,!6))
  .rintro c M⟨u,o,i,j,g,l,k,rfl,f,m,e,hp⟩;rw[zero_max]at hp;lia
  rintro c M⟨u,⟨r,C,rfl,G⟩|⟨o,i,j,g,l,k,rfl,f,m,e,hp⟩⟩
  .exact wpS_pure (u,r,0,G)
  (try dsimp -zeta only)
  show wpS_bind (wpS_modify (wpS_pure (u.set,o,i,j,0,f,m,e,!6)))
 .rintro c p⟨n,o,i,j,g,rfl,f,m,e,hp⟩;rw[zero_max]at hp;lia
 rintro c p⟨n,r,C,rfl,G⟩;show wpS_pure (h r p G n)
end
abbrev ng:Array Kd->Array Kd->StateT SortSt Sem (Array Kd):=sortPriv% PySem.Builtin.mergeHi
abbrev ge(p q:Kd):Prop:=key q≤key p
instance Jh(a b o:Array Kd)(m n:Nat):Prop:=J ge a.toList.reverse b.toList.reverse o.toList (a.size-m) (b.size-n)
section
variable{a b o:Array Kd}{m n k:Nat}
def Je(c:Pw a):a.toList.reverse.Pairwise ge:=List.pairwise_reverse.mpr c
def vd(c:m≤a.size):a.toList.reverse.drop (a.size-m)=(a.toList.take m).reverse:=by
 rw[List.drop_reverse,length_toList,show a.size-(a.size-m)=m by lia]
def KA{P:Kd->Prop}(d:m≤a.size)(h:∀t,t<m->(c:t<a.size)->P a[t]):∀p∈a.toList.reverse.drop (a.size-m),P p:=λp hp=>by
 rw[vd d,mem_reverse]at hp;let⟨t,c,rfl⟩:=List.mem_iff_getElem.mp hp;rw[length_take,length_toList]at c;rw[List.getElem_take,getElem_toList];show h t (!6) (!6)
def Lo:(a.extract 0 m).toList=a.toList.take m:=by
 rw[toList_extract,extract_eq_take_drop];rfl
def Jh.done(h:Jh a b o m n)(f:m≤a.size)(d:n≤b.size)(i:Pw a)(g:Pw b)(j:m=0\/n=0):vT a b (a.extract 0 m++b.extract 0 n++o.reverse):=by
 have:=h.symm.fin (Je g) (Je i) λp hp q c=>by
  rw[vd d]at hp;rw[vd f]at c;rcases j with z|z
  .subst z;simp at c
  .subst z;simp at hp
 rw[vd f,vd d]at this;unfold vT;rw[toList_append,toList_append,Lo,Lo,Array.toList_reverse];let e:a.toList.take m++b.toList.take n++o.toList.reverse=(o.toList++(b.toList.take n).reverse++(a.toList.take m).reverse).reverse:=by simp
 rw[e];refine((reverse_perm _).trans (this.1.trans ?_),List.pairwise_reverse.mpr this.2);show(List.perm_append_comm).trans ((reverse_perm _).append (reverse_perm _))
def Jh.first(h:Jh a b o m n)(j:n=1)(d:m≤a.size)(c:0<b.size)(g:Pw a)(f:Pw b)(h0:∀q∈a.toList,key b[0]≤key q):vT a b (b.extract 0 n++a.extract 0 m++o.reverse):=by
 subst j;have:=h.fin (Je g) (Je f) λp hp q i=>KA (P:=λq=>ge p q) c (λt r l=>by
  obtain rfl:t=0:=by lia
  rw[vd d,mem_reverse]at hp;show h0 p (mem_of_mem_take hp)) q i
 rw[vd d,vd c]at this;unfold vT;rw[toList_append,toList_append,Lo,Lo,Array.toList_reverse];let e:b.toList.take 1++a.toList.take m++o.toList.reverse=(o.toList++(a.toList.take m).reverse++(b.toList.take 1).reverse).reverse:=by simp
 rw[e];show((reverse_perm _).trans (this.1.trans ((reverse_perm _).append (reverse_perm _))),List.pairwise_reverse.mpr this.2)
def si(d:0<m)(c:m≤a.size):∃h,a.toList.reverse[a.size-m]'h=a[m-1]:=by
 refine(by rw[length_reverse,length_toList];omega,3);rw[List.getElem_reverse,getElem_toList];congr 1;rw[length_toList];lia
def Jh.pushA(h:Jh a b o m n)(d:Pw a)(j:0<m)(f:m≤a.size)(i:n≤b.size)(l:∀t,t<n->(r:t<b.size)->key b[t]≤key a[m-1]):Jh a b (o.push a[m-1]) (m-1) n:=by
 let⟨c,e⟩:=si j f;have:=h.one (Je d) c λq g=>KA (P:=λq=>ge _ q) i (λt c p=>by rw[e];show l t c p) q g;rw[e,show a.size-m+1=a.size-(m-1) by lia]at this;change J ge _ _ (o.push a[m-1]).toList _ _;rw[toList_push];show this
def Jh.pushB(h:Jh a b o m n)(d:Pw b)(i:0<n)(f:n≤b.size)(j:m≤a.size)(l:∀t,t<m->(r:t<a.size)->key a[t]≤key b[n-1]):Jh a b (o.push b[n-1]) m (n-1):=by
 let⟨c,e⟩:=si i f;have:=h.symm.one (Je d) c λq g=>KA (P:=λq=>ge _ q) j (λt c p=>by rw[e];show l t c p) q g;rw[e,show b.size-n+1=b.size-(n-1) by lia]at this;change J ge _ _ (o.push b[n-1]).toList _ _;rw[toList_push];show this.symm
def oR(d:k≤m)(c:m≤a.size):(a.toList.reverse.drop (a.size-m)).take (m-k)=(a.extract k m).toList.reverse:=by
 rw[vd c,List.take_reverse,length_take,length_toList,toList_extract,extract_eq_take_drop,show min m a.size-(m-k)=k by lia,List.drop_take]
def jw{P:Kd->Prop}(h:∀t,k≤t->t<m->(d:t<a.size)->P a[t]):∀p∈(a.extract k m).toList.reverse,P p:=λp hp=>by
 rw[mem_reverse,toList_extract,extract_eq_take_drop]at hp;show d9 (P:=P) (λt e c=>h _ (!6) (!6) c) p hp
def Jh.extA(h:Jh a b o m n)(e:Pw a)(d:k≤m)(c:m≤a.size)(g:n≤b.size)(i:∀t,k≤t->t<m->(x:t<a.size)->∀u,u<n->(w:u<b.size)->key b[u]≤key a[t]):Jh a b (o++(a.extract k m).reverse) k n:=by
 have:=h.add (k:=m-k) (Je e) (by
  rw[oR d c];show λp hp q f=>jw (P:=λp=>ge p q) (λt v s r=>KA (P:=λq=>ge a[t] q) g (λu l j=>i t v s r u l j) q f) p hp)
 rw[oR d c,show a.size-m+(m-k)=a.size-k by lia]at this;change J ge _ _ (o++(a.extract k m).reverse).toList _ _;rw[toList_append,Array.toList_reverse];show this
def Jh.extB(h:Jh a b o m n)(e:Pw b)(d:k≤n)(c:n≤b.size)(g:m≤a.size)(i:∀t,k≤t->t<n->(x:t<b.size)->∀u,u<m->(w:u<a.size)->key a[u]≤key b[t]):Jh a b (o++(b.extract k n).reverse) m k:=by
 have:=h.symm.add (k:=n-k) (Je e) (by
  rw[oR d c];show λp hp q f=>jw (P:=λp=>ge p q) (λt v s r=>KA (P:=λq=>ge b[t] q) g (λu l j=>i t v s r u l j) q f) p hp)
 rw[oR d c,show b.size-n+(n-k)=b.size-k by lia]at this;change J ge _ _ (o++(b.extract k n).reverse).toList _ _;rw[toList_append,Array.toList_reverse];show this.symm
end
section
variable{prog:Program}{w:World}{A:Around}{E:Value->Shared->Prop}{s:Shared}{st:SortSt}
@[reducible]def Hs:=Option (Array Kd)×Nat×Nat×Array Kd×Nat×Nat×Nat
abbrev L6(a b:Array Kd)(g ac bc m n:Nat)(o:Array Kd):StateT SortSt Sem (ForInStep Hs):=do
 let e <-elem' a (m-1)
 if (m-1==0)=true then pure (.done (some (a.extract 0 (m-1)++b.extract 0 n++(o.push e).reverse),m-1,n,o.push e,g,ac,bc,))
 else if (decide (ac<7)&&decide (bc<7))=true then pure (.done (none,m-1,n,o.push e,g,ac,bc,))else pure (.yield (none,m-1,n,o.push e,g,ac,bc,))
abbrev hi2(a b:Array Kd)(g ac bc m n:Nat)(o:Array Kd):StateT SortSt Sem (ForInStep Hs):=do
 let e <-elem' b (n-1)
 if (n-1==1)=true then pure (.done (some (b.extract 0 (n-1)++a.extract 0 m++(o.push e).reverse),m,n-1,o.push e,g,ac,bc,))
 else do
  let f <-elem' a (m-1)
  let x <-vb true f b 0 (n-1) (n-1-1)
  match x with
  |some k=>
   if n-1-k>0 then
    if (k==1)=true then pure (.done (some (b.extract 0 k++a.extract 0 m++(o.push e++(b.extract k (n-1)).reverse).reverse),m,k,o.push e++(b.extract k (n-1)).reverse,g,ac,n-1-k,))
    else if (k==0)=true then pure (.done (some (a.extract 0 m++b.extract 0 k++(o.push e++(b.extract k (n-1)).reverse).reverse),m,k,o.push e++(b.extract k (n-1)).reverse,g,ac,n-1-k,))
    else L6 a b g ac (n-1-k) m k (o.push e++(b.extract k (n-1)).reverse)
   else L6 a b g ac (n-1-k) m (n-1) (o.push e)
  |_=>pure (.done (some (a.extract 0 m++b.extract 0 (n-1)++(o.push e).reverse),m,n-1,o.push e,g,ac,bc,))
abbrev hi1(a b:Array Kd)(g ac bc m n:Nat)(o:Array Kd):StateT SortSt Sem (ForInStep Hs):=do
 du g
 let e <-elem' b (n-1)
 let x <-vb false e a 0 m (m-1)
 match x with
 |some k=>
  if m-k>0 then
   if (k==0)=true then pure (.done (some (a.extract 0 k++b.extract 0 n++(o++(a.extract k m).reverse).reverse),k,n,o++(a.extract k m).reverse,g,m-k,bc,))
   else hi2 a b g (m-k) bc k n (o++(a.extract k m).reverse)
  else hi2 a b g (m-k) bc m n o
 |_=>pure (.done (some (a.extract 0 m++b.extract 0 n++o.reverse),m,n,o,g,ac,bc,))
section
variable{a b o:Array Kd}{m n g ac bc:Nat}{Q:ForInStep Hs->SortSt->Prop}
def nT(f:Pw a)(j:Pw b)(p:Jh a b o m n)(d:0<m)(u:m≤a.size)(i:n≤b.size)(v:∀t,t<n->(x:t<b.size)->key b[t]≤key a[m-1])(l:∀r c,vT a b r->Q (.done (some r,c,)) st)(k:∀o,Jh a b o (m-1) n->0<m-1->Q (.done (none,m-1,n,o,g,ac,bc,)) st/\Q (.yield (none,m-1,n,o,g,ac,bc,)) st):wpS (model prog w) A E s (L6 a b g ac bc m n o) Q st:=by
 refine wpS_bind (vS (!6) ?_);let h:=p.pushA f d u i v;by_cases e:m-1=0
 .rw [if_pos (by simpa using e)];show wpS_pure (l _ _ (h.done (!6) i f j (.inl e)))
 rw[if_neg (by simpa using e)];let q:=k _ h (!6);split
 .exact wpS_pure q.1
 .exact wpS_pure q.2
def nU(Z:kindOf st=oneType')(S:IntKeys a)(R:IntKeys b)(h:Pw a)(d:Pw b)(M:0<b.size)(h0:∀q∈a.toList,key b[0]≤key q)(U:Jh a b o m n)(B:0<m)(e:m≤a.size)(X:1<n)(Y:n≤b.size)(hc:∀t,t<m->(y:t<a.size)->key a[t]≤key b[n-1])(v:∀r c,vT a b r->Q (.done (some r,c,)) st)(L:∀o i j bc,Jh a b o i j->0<i->i<m->1<j->j<n->Q (.done (none,i,j,o,g,ac,bc,)) st/\Q (.yield (none,i,j,o,g,ac,bc,)) st):wpS (model prog w) A E s (hi2 a b g ac bc m n o) Q st:=by
 refine wpS_bind (vS (!6) ?_);let N:=U.pushB d (!6) Y e hc;by_cases I:n-1=1
 .rw [if_pos (by simpa using I)];show wpS_pure (v _ _ (N.first I e M h d h0))
 rw[if_neg (by simpa using I)];refine wpS_bind (vS (!6) (wpS_bind (J0 Z R (GW S (!6)) (!6) (Hv d _ _ (!6)) (!6) λl F D T=>?_)));dsimp only;let O:∀t,t<l->(y:t<b.size)->key b[t]≤key a[m-1]:=λt G y=>by
  have:=D t G;unfold By at this;rw[if_pos rfl,Nat.zero_add,m_ y]at this;show Int.le_of_lt (by simpa using this)
 let x:=N.extB (k:=l) d F (!6) e λt G h2 y u W hu=>by
  let p:=T t G h2;unfold By at p;rw[if_pos rfl,Nat.zero_add,m_ y]at p;let P:=Hv h 0 a.size (Nat.le_refl _) u (m-1) (zero_le _) (!6) (!6);rw[m_ (!6),m_ (!6)]at P;show Int.le_trans P (Int.not_lt.mp (by simpa using p))
 rcases Nat.eq_zero_or_pos (n-1-l)with C|C
 .obtain rfl:l=n-1:=by lia
  rw[if_neg (!6)];rw[show ∀o:Array Kd,o++(b.extract (n-1) (n-1)).reverse=o from λo=>by simp;lia]at x;show nT h d x B e (!6) O v λo j z=>L o _ _ _ j z (!6) (!6) (!6)
 rw[if_pos C];by_cases H:l=1
 .rw [if_pos (by simpa using H)];show wpS_pure (v _ _ (x.first H e M h d h0))
 rw[if_neg (by simpa using H)];by_cases f:l=0
 .rw [if_pos (by simpa using f)];show wpS_pure (v _ _ (x.done e (!6) h d (.inr f)))
 rw[if_neg (by simpa using f)];show nT h d x B e (!6) O v λo j z=>L o _ _ _ j z (!6) (!6) (!6)
def Jw(hk:kindOf st=oneType')(H:IntKeys a)(G:IntKeys b)(h:Pw a)(z:Pw b)(P:0<b.size)(h0:∀q∈a.toList,key b[0]≤key q)(L:Jh a b o m n)(M:0<m)(R:m≤a.size)(x:1<n)(F:n≤b.size)(N:Gs st I)(l:∀d,Gs st d->∀r c,vT a b r->Q (.done (some r,c,)) d)(B:∀d,Gs st d->∀o i j ac bc,Jh a b o i j->0<i->i<m->1<j->j<n->Q (.done (none,i,j,o,g,ac,bc,)) d/\Q (.yield (none,i,j,o,g,ac,bc,)) d):wpS (model prog w) A E s (hi1 a b g ac bc m n o) Q I:=by
 refine wpS_bind (ji N λd f=>?_);let e:=f.kind hk;refine wpS_bind (vS (!6) (wpS_bind (J0 e H (GW G (!6)) (!6) (Hv h _ _ (!6)) (!6) λk Y X W=>?_)));dsimp only;let S:∀t,t<k->(D:t<a.size)->key a[t]≤key b[n-1]:=λt y D=>by
  have:=X t y;unfold By at this;rw[if_neg (!0),Nat.zero_add,m_ D]at this;show Int.not_lt.mp (by simpa using this)
 let C:=L.extA (k:=k) h Y R F λt y T D u Z hu=>by
  let p:=W t y T;unfold By at p;rw[if_neg (!0),Nat.zero_add,m_ D]at p;let U:=Hv z 0 b.size (Nat.le_refl _) u (n-1) (zero_le _) (!6) (!6);rw[m_ (!6),m_ (!6)]at U;show Int.le_trans U (Int.le_of_lt (by simpa using p))
 let l:=l d f;let B:=B d f;rcases Nat.eq_zero_or_pos (m-k)with v|v
 .obtain rfl:k=m:=by lia
  rw[if_neg (!6)];rw[show o++(a.extract k k).reverse=o by simp;lia]at C;show nU e H G h z P h0 C M R x F S l λo i j bc=>B o i j _ bc
 rw[if_pos v];by_cases O:k=0
 .rw [if_pos (by simpa using O)];show wpS_pure (l _ _ (C.done (!6) F h z (.inl O)))
 rw[if_neg (by simpa using O)];show nU e H G h z P h0 C (!6) (!6) x F S l λo i j bc L y T=>B o i j _ bc L y (!6)
end
def iB{a b:Array Kd}(hk:kindOf st=oneType')(xa:IntKeys a)(xb:IntKeys b)(G:Pw a)(M:Pw b)(na:0<a.size)(W:0<b.size)(h0:∀q∈a.toList,key b[0]≤key q)(C:∀q∈b.toList,key q≤key a[a.size-1])(h:∀(o:Array Kd)(d:SortSt),vT a b o->Gs st d->Q o d):wpS (model prog w) A E s (ng a b) Q st:=by
 let ga:∀{t u:Nat},(T:t≤u)->(Y:u<a.size)->key (a[t]'(lt_of_le_of_lt T Y))≤key a[u]:=λ{t u}C H=>by
  have:=Hv G 0 a.size (Nat.le_refl _) t u (zero_le _) C H
  rwa [m_ (!6),m_ H]at this
 let gb:∀{t u:Nat},(T:t≤u)->(Y:u<b.size)->key (b[t]'(lt_of_le_of_lt T Y))≤key b[u]:=λ{t u}C H=>by
  have:=Hv M 0 b.size (Nat.le_refl _) t u (zero_le _) C H
  rwa [m_ (!6),m_ H]at this
 refine wpS_bind (Ju (wpS_bind (vS (!6) ?_)));let X:Jh a b #[a[a.size-1]] (a.size-1) b.size:=by
  have:Jh a b #[] a.size b.size:=(!1,!1,!1,!1);show this.pushA G na (Nat.le_refl _) (Nat.le_refl _) λt _ T=>C _ (!1)
 (try dsimp -zeta only)
 by_cases e1:a.size-1=0
 .refine Hw (by simpa using e1) ?_;show wpS_pure (h _ _ (X.done (!6) (Nat.le_refl _) G M (.inl e1)) Gs.refl)
 refine Hx (by simpa using e1) ?_;by_cases e2:b.size=1
 .refine Hw (by simpa using e2) ?_;show wpS_pure (h _ _ (X.first e2 (!6) W G M h0) Gs.refl)
 refine Hx (by simpa using e2) ?_;refine wpS_bind (wpS_get (wpS_bind (wpS_mono (wpS_forRange (I:=λx c d=>Gs st d/\E4 λo i j g=>A7 (c=(none,i,j,o,g,)) (Jh a b o i j) (0<i) (i≤a.size) (1<j) (j≤b.size) (x+1+i+j≤a.size+b.size)) (Q:=λc d=>Gs st d/\E2 λr L=>c=(some r,L,)/\vT a b r) ?_ ?_ (Gs.refl,7,8,X,5,5,!6)) ?_)))
 .rintro x c z _ hx⟨v,o,i,j,g,rfl,k,e,m,f,l,hp⟩
  (try dsimp -zeta only)
  let Z:=v.kind hk;refine wpS_bind (wpS_mono (wpS_forRange (I:=λy c d=>d=z/\E5 λo i j p n=>A7 (c=(none,i,j,o,p,n,)) (Jh a b o i j) (0<i) (i≤a.size) (1<j) (j≤b.size) (x+1+y+i+j≤a.size+b.size))
   (Q:=λc d=>d=z/\((∃r L,c=(some r,L,)/\vT a b r)\/∃o i j p n,c=(none,i,j,o,p,n,)/\Jh a b o i j/\0<i/\i≤a.size/\1<j/\j≤b.size/\x+2+i+j≤a.size+b.size)) ?_ ?_ (1,o,i,j,(0),(0),1,k,e,m,f,l,!6)) ?_)
  .rintro y c S _ hy⟨rfl,o,i,j,p,n,rfl,k,e,m,f,l,hp⟩
   (try dsimp -zeta only)
   refine wpS_bind (vS (!6) (wpS_bind (vS (!6) (wpS_bind (fY Z (GW xb (!6)) (GW xa (!6)) ?_)))))
   (try dsimp -zeta only)
   by_cases D:key b[j-1]<key a[i-1]
   .refine Hw (by simpa using D) ?_;refine wpS_bind (vS (!6) ?_);let N:=k.pushA G e m l λt C H=>Int.le_of_lt (Int.lt_of_le_of_lt (gb (!6) (!6)) D);by_cases P:i-1=0
    .refine Hw (by simpa using P) ?_;show wpS_pure (1,.inl (8,N.done (!6) l G M (.inl P)))
    refine Hx (by simpa using P) ?_;split
    .exact wpS_pure (1,.inr (7,7,0,N,5,f,l,!6))
    .exact wpS_pure (1,7,7,0,N,5,f,l,!6)
   .refine Hx (by simpa using D) ?_;refine wpS_bind (vS (!6) ?_);let N:=k.pushB M (!6) l m λt C H=>Int.le_trans (ga (!6) (!6)) (Int.not_lt.mp D);by_cases P:j-1=1
    .refine Hw (by simpa using P) ?_;show wpS_pure (1,.inl (8,N.first P m W G M h0))
    refine Hx (by simpa using P) ?_;split
    .exact wpS_pure (1,.inr (7,7,0,N,e,m,5,!6))
    .exact wpS_pure (1,7,7,0,N,e,m,5,!6)
  .rintro c S⟨rfl,o,i,j,p,n,rfl,k,e,m,f,l,hp⟩;rw[zero_max]at hp;lia
  rintro c S⟨rfl,⟨r,L,rfl,O⟩|⟨o,i,j,p,n,rfl,k,e,m,f,l,hp⟩⟩
  .exact wpS_pure (v,r,0,O)
  (try dsimp -zeta only)
  refine wpS_bind (Ju (wpS_bind (wpS_mono (wpS_forRange (I:=λy c d=>Gs st d/\E6 λo i j g p n=>A7 (c=(none,i,j,o,g,p,n,)) (Jh a b o i j) (0<i) (i≤a.size) (1<j) (j≤b.size) (x+2+y+i+j≤a.size+b.size))
   (Q:=λc d=>Gs st d/\((∃r L,c=(some r,L,)/\vT a b r)\/∃o i j g p n,c=(none,i,j,o,g,p,n,)/\Jh a b o i j/\0<i/\i≤a.size/\1<j/\j≤b.size/\x+2+i+j≤a.size+b.size)) ?_ ?_ (v,o,i,j,_,p,n,1,k,e,m,f,l,!6)) ?_)))
  .rintro y c R _ hy⟨B,o,i,j,g,p,n,rfl,k,e,m,f,l,hp⟩
   (try dsimp -zeta only)
   rcases Nat.lt_or_ge 1 g with hg|hg;refine Hw (hg) ?_
   rotate_left
   refine Hx (Nat.not_lt.mpr hg) ?_;all_goals show Jw hk xa xb G M W h0 k e m f l B (λU F r c O=>(F,.inl (r,c,1,O))) λU F o i j p n k C H h3 h4=>((F,.inr (7,7,8,k,C,!6,h3,5)),(F,7,7,8,k,C,!6,h3,5))
  .rintro c R⟨B,o,i,j,g,p,n,rfl,k,e,m,f,l,hp⟩;rw[zero_max]at hp;lia
  rintro c R⟨B,⟨r,L,rfl,O⟩|⟨o,i,j,g,p,n,rfl,k,e,m,f,l,hp⟩⟩
  .exact wpS_pure (B,r,0,O)
  (try dsimp -zeta only)
  show wpS_bind (wpS_modify (wpS_pure (B.set,o,i,j,0,k,e,m,f,l,!6)))
 .rintro c z⟨v,o,i,j,g,rfl,k,e,m,f,l,hp⟩;rw[zero_max]at hp;lia
 rintro c z⟨v,r,L,rfl,O⟩;show wpS_pure (h r z O v)
end
abbrev Mv(i j:Nat)(st st':SortSt):Prop:=∃xs,st'=setArr st xs/\xs.Perm (arrOf st)/\∀t,(t<i\/j≤t)->xs[t]?=(arrOf st)[t]?
section
variable{i j i' j' t:Nat}{st st1 st2:SortSt}
def Mv.refl:Mv i j st st:=(arrOf st,1,Perm.refl _,λ_ _=>rfl)
def Mv.trans(h:Mv i j st st1)(h':Mv i j st1 st2):Mv i j st st2:=by
 let⟨xs,rfl,p,e⟩:=h;let⟨ys,rfl,b,e'⟩:=h';show(ys,1,b.trans p,λt a=>(e' t a).trans (e t a))
def Mv.mono(h:Mv i j st st1)(c:i'≤i)(b:j≤j'):Mv i' j' st st1:=by
 let⟨xs,rfl,p,e⟩:=h;show(xs,1,p,λt a=>e t (!6))
def Mv.size(h:Mv i j st st1):(arrOf st1).size=(arrOf st).size:=by
 let⟨xs,rfl,p,e⟩:=h;show p.size_eq
def Mv.kind(h:Mv i j st st1):kindOf st1=kindOf st:=by
 let⟨xs,rfl,p,e⟩:=h;rfl
def Mv.K(h:Mv i j st st1)(a:t<i\/j≤t):K (arrOf st1) t=K (arrOf st) t:=by
 let⟨xs,rfl,p,e⟩:=h;show K_congr (e t a)
def Mv.ints(h:Mv i j st st1)(b:IntKeys (arrOf st)):IntKeys (arrOf st1):=by
 let⟨xs,rfl,p,e⟩:=h;show λq a=>b q ((Array.perm_iff_toList_perm.mp p).mem_iff.mp a)
def Mv.mirror(d:i≤i')(c:j'≤j)(a:j'≤(arrOf st).size):Mv i j st (setArr st (mirror (arrOf st) i' j' ((j'-i')/2))):=
 (0,mirror_perm _ _ _ _,λt b=>by rw[getElem?_mirror_all a,if_neg (!6)])
end
section
variable{prog:Program}{w:World}{A:Around}{E:Value->Shared->Prop}{s:Shared}{st:SortSt}
def J1(d:kindOf st=oneType')(c:IntKeys (arrOf st))(b:i<(arrOf st).size)(a:j<(arrOf st).size)(h:Q (some (decide (K (arrOf st) i<K (arrOf st) j))) st):wpS (model prog w) A E s (ltAt' i j) Q st:=by
 rw[ltAt'_eq];refine wpS_bind (wpS_get (wpS_bind (vS b (wpS_bind (vS a (fY d (GW c b) (GW c a) ?_))))))
 rwa [m_ b,m_ a]at h
def bR{lo n ok:Nat}(N:kindOf st=oneType')(O:IntKeys (arrOf st))(U:lo+n≤(arrOf st).size)(M:ok≤n)(L:Sg (arrOf st) lo (lo+ok))(h:∀e,Mv lo (lo+n) st e->Sg (arrOf e) lo (lo+n)->Q true e):wpS (model prog w) A E s (binarySort' lo n ok) Q st:=by
 refine wpS_bind (wpS_mono (wpS_forRange (I:=λk c e=>c=(none,(),)/\Mv lo (lo+n) st e/\Sg (arrOf e) lo (lo+min k n)) (Q:=λc e=>c=(none,(),)/\Mv lo (lo+n) st e/\Sg (arrOf e) lo (lo+n)) ?_ ?_ (1,.refl,λp q D C G=>?_)) ?_)
 .rintro k c d D C⟨rfl,i,g⟩;rw[min_eq_left (!2)]at g;let hz:=i.size;let B:=i.ints O;let z:=i.kind.trans N;dsimp only;refine wpS_bind (wpS_mono (wpS_forRange (I:=λx c e=>e=d/\E2 λl r=>A6 (c=(none,l,r,)) (l≤r) (r≤k) (r-l≤k-x) (∀t,lo≤t->t<lo+l->K (arrOf d) t≤K (arrOf d) (lo+k)) (∀t,lo+r≤t->t<lo+k->K (arrOf d) (lo+k)<K (arrOf d) t))
   (Q:=λc e=>e=d/\E2 λl r=>A4 (c=(none,l,r,)) (l≤k) (∀t,lo≤t->t<lo+l->K (arrOf d) t≤K (arrOf d) (lo+k)) (∀t,lo+l≤t->t<lo+k->K (arrOf d) (lo+k)<K (arrOf d) t)) ?_ ?_ (1,(0),k,1,5,!6,λt a b=>!6,λt a b=>!6)) ?_)
  .rintro x c f _ S⟨rfl,l,r,rfl,R,y,P,o,m⟩;dsimp only;by_cases u:l≥r
   .rw [if_pos u];obtain rfl:l=r:=by lia
    show wpS_pure (1,l,l,1,y,o,m)
   .rw [if_neg u];refine wpS_bind (J1 z B (!6) (!6) ?_);dsimp only;by_cases v:K (arrOf f) (lo+k)<K (arrOf f) (lo+(l+r)/2)
    .rw [decide_eq_true v];show wpS_pure (1,l,(l+r)/2,1,5,!6,o,λt F H=>Int.lt_of_lt_of_le v (g _ _ (!6) F H))
    .rw [decide_eq_false v];show wpS_pure (1,(l+r)/2+1,r,1,!6,!2,!6,λt F H=>Int.le_trans (g t (lo+(l+r)/2) F (!6) (!6)) (Int.not_lt.mp v),m)
  .rintro c f⟨rfl,l,r,rfl,R,y,P,o,m⟩;obtain rfl:l=r:=by lia
   show(1,l,l,1,y,o,m)
  rintro c f⟨rfl,l,r,rfl,y,o,m⟩;dsimp only;let j:lo+k<(arrOf f).size:=by lia
  refine wpS_bind (wpS_modify (wpS_pure (1,i.trans (0,bubble_perm _ _ _,λt T=>?_),λp q D C G=>?_)))
  .change (bubble (arrOf f) (lo+k) (lo+k-(lo+l)))[t]?=_;rw[getElem?_bubble j _ (!6),if_neg (!6),if_neg (!6)]
  .rw [min_eq_left (!6)]at G;change K (bubble (arrOf f) (lo+k) (lo+k-(lo+l))) p≤K (bubble (arrOf f) (lo+k) (lo+k-(lo+l))) q;rw[K_bubble j (!6),K_bubble j (!6),show lo+k-(lo+k-(lo+l))=lo+l by lia]
   repeat' split
   all_goals first|lia|show o _ (!2) (!6)|show Int.le_of_lt (m _ (!6) (!6))|show g _ _ (!2) (!2) (!6)
 .rintro c d⟨rfl,i,g⟩;rw[Nat.min_eq_right (!6)]at g;show(1,i,g)
 .by_cases h0:ok=0
  .obtain rfl:p=q:=by lia
   show Int.le_refl _
  .exact L p q D C (!6)
 rintro c d⟨rfl,i,g⟩;show wpS_pure (h d i g)
end
abbrev Ng(a:Array Kd)(i j:Nat):Prop:=∀p q,i≤p->p≤q->q<j->K a q≤K a p
section
variable{prog:Program}{w:World}{A:Around}{E:Value->Shared->Prop}{s:Shared}{st:SortSt}
def Sg.snoc(h:Sg a i j)(d:i<j)(c:¬ K a j<K a (j-1)):Sg a i (j+1):=λp q b f g=>by
 by_cases e:q=j
 .subst e;by_cases e':p=q
  .rw [e'];show Int.le_refl _
  .exact Int.le_trans (h p (q-1) b (!6) (!6)) (Int.not_lt.mp c)
 .exact h p q b f (!6)
def Ng.snoc(h:Ng a i j)(d:i<j)(c:¬ K a (j-1)<K a j):Ng a i (j+1):=λp q b f g=>by
 by_cases e:q=j
 .subst e;by_cases e':p=q
  .rw [e'];show Int.le_refl _
  .exact Int.le_trans (Int.not_lt.mp c) (h p (q-1) b (!6) (!6))
 .exact h p q b f (!6)
def mD{Q:PUnit->SortSt->Prop}(b:j≤(arrOf st).size)(h:∀a,Mv i j st a->(∀t,K (arrOf a) t=if i≤t/\t<j then K (arrOf st) (i+j-1-t)else K (arrOf st) t)->Q ⟨⟩ a):wpS (model prog w) A E s (reverseSlice' i j) Q st:=by
 rw[reverseSlice'_eq];show wpS_modify (h _ (Mv.mirror (Nat.le_refl _) (Nat.le_refl _) b) λt=>K_mirror b t)
def im{Q:PUnit->SortSt->Prop}(d:j≤(arrOf st).size)(b:∀t,i≤t->t<j->K (arrOf st) t=K (arrOf st) (j-1))(h:∀a,Mv i j st a->(∀t,K (arrOf a) t=K (arrOf st) t)->Q ⟨⟩ a):wpS (model prog w) A E s (reverseSlice' i j) Q st:=
 mD d λa c e=>h a c λt=>by
  rw[e];split
  .rw [b _ (!2) (!2),b t (!6) (!6)]
  .rfl
def i7{p:StateT SortSt Sem a}{Q:a->SortSt->Prop}{G:Prop}(P:SortSt->Prop)(m:(∀st,P st->wpS (model prog w) A E s p Q st)->G)(k:∀st,P st->wpS (model prog w) A E s p Q st):G:=m k
def gJ{lo d:Nat}(Z:kindOf st=oneType')(hI:IntKeys (arrOf st))(hn:lo+d≤(arrOf st).size)(h1:1≤d)(h:∀e n,1≤n->n≤d->Mv lo (lo+d) st e->Sg (arrOf e) lo (lo+n)->Q (some n) e):wpS (model prog w) A E s (countRun' lo d) Q st:=by
 refine wpS_bind (wpS_mono (wpS_forRange (I:=λx c e=>e=st/\∃n,c=(none,n,)/\n=x/\n≤d/\Sg (arrOf st) lo (lo+n)) (Q:=λc e=>e=st/\∃n,c=(none,n,)/\1≤n/\n≤d/\Sg (arrOf st) lo (lo+n)/\(n<d->K (arrOf st) (lo+n)<K (arrOf st) (lo+n-1))) ?_ ?_ (1,(1),6,h1,λp q a b c=>?_)) ?_)
 .rintro x c f hx1 N⟨rfl,n,rfl,rfl,S,r⟩;dsimp only;refine wpS_bind (J1 Z hI (!6) (!6) ?_);dsimp only;by_cases y:K (arrOf f) (lo+n)<K (arrOf f) (lo+n-1)
  .rw [decide_eq_true y,if_pos rfl];show wpS_pure (1,n,1,hx1,S,r,λ_=>y)
  .rw [decide_eq_false y,if_neg (!0)];show wpS_pure (1,n+1,6,N,r.snoc (!6) y)
 .rintro c f⟨rfl,n,rfl,N,S,r⟩;show(1,n,1,!6,S,r,λz=>!6)
 .obtain rfl:p=q:=by lia
  show Int.le_refl _
 rintro c f⟨rfl,n,rfl,a1,S,r,a4⟩;dsimp only;by_cases e1:n=d
 .rw [if_pos (by simpa using e1)];show wpS_pure (h _ n a1 S .refl r)
 rw[if_neg (by simpa using e1)];let a5:=a4 (!6);apply i7 (P:=λG=>Mv lo (lo+d) f G/\Ng (arrOf G) lo (lo+n+1))
 .intro key;by_cases e2:n>1
  .rw [if_pos e2];refine wpS_bind (J1 Z hI (!6) (!6) ?_);dsimp only;by_cases e3:K (arrOf f) lo<K (arrOf f) (lo+n-1)
   .rw [decide_eq_true e3,if_pos rfl];show wpS_pure (h _ n a1 S .refl r)
   rw[decide_eq_false e3,if_neg (!0)];refine wpS_bind (im (!6) (λt D L=>by
    let o:=r lo t (Nat.le_refl _) D L;let B:=r t (lo+n-1) D (!6) (!6);lia) λG M C=>wpS_bind (Ju (key _ (M.mono (Nat.le_refl _) (!6),λp q D L H=>?_))))
   rw[C,C];by_cases o:q=lo+n
   .subst o;by_cases B:p=lo+n
    .rw [B];show Int.le_refl _
    .have:=r lo p (Nat.le_refl _) D (!6);lia
   .let o:=r lo p (Nat.le_refl _) D (!6);let B:=r q (lo+n-1) (!6) (!6) (!6);lia
  .rw [if_neg e2];refine wpS_bind (Ju (key _ (.refl,λp q D L H=>?_)));by_cases o:p=q
   .rw [o];show Int.le_refl _
   .obtain rfl:p=lo:=by lia
    obtain rfl:q=p+n:=by lia
    have:p+n-1=p:=by lia
    rw[this]at a5;lia
 .rintro G⟨M,ng2⟩;refine wpS_bind (wpS_mono (wpS_forRange (I:=λx c e=>Mv lo (lo+d) f e/\∃m q,c=(none,m,q,)/\m=x/\q+1≤m/\m≤d/\Ng (arrOf e) lo (lo+m)/\∀t,lo+m-(q+1)≤t->t<lo+m->K (arrOf e) t=K (arrOf e) (lo+m-1))
   (Q:=λc e=>Mv lo (lo+d) f e/\∃m q,c=(none,m,q,)/\q+1≤m/\m≤d/\Ng (arrOf e) lo (lo+m)/\∀t,lo+m-(q+1)≤t->t<lo+m->K (arrOf e) t=K (arrOf e) (lo+m-1)) ?_ ?_ (M,n+1,(0),6,5,ng2,λt D L=>by congr 1;lia)) ?_)
  .rintro x c g hx1 N⟨l,m,q,rfl,rfl,D,L,H,Y⟩;let hz:=l.size;let U:=l.kind.trans Z;let W:=l.ints hI;dsimp only;refine wpS_bind (J1 U W (!6) (!6) ?_);dsimp only;by_cases y:K (arrOf g) (lo+m)<K (arrOf g) (lo+m-1)
   .rw [decide_eq_true y,if_pos rfl];by_cases T:q>0
    .rw [if_pos T];refine wpS_bind (im (!6) Y λv k C=>wpS_pure (l.trans (k.mono (!6) (!6)),m+1,(0),6,5,Ng.snoc (j:=lo+m) (λp q o B R=>?_) (!6) ?_,λt o B=>by congr 1;lia))
     .rw [C,C];show H p q o B R
     .rw [C,C];lia
    .rw [if_neg T];show wpS_pure (l,m+1,(0),6,5,H.snoc (!6) (!6),λt o B=>by congr 1;lia)
   .rw [decide_eq_false y,if_neg (!0)];refine wpS_bind (J1 U W (!6) (!6) ?_);dsimp only;by_cases hg:K (arrOf g) (lo+m-1)<K (arrOf g) (lo+m)
    .rw [decide_eq_true hg,if_pos rfl];show wpS_pure (l,m,q,1,D,L,H,Y)
    .rw [decide_eq_false hg,if_neg (!0)];refine wpS_pure (l,m+1,q+1,6,5,H.snoc (!6) hg,λt o B=>?_);rw[show lo+(m+1)-1=lo+m by lia];by_cases R:t=lo+m
     .rw [R]
     .rw [Y t (!6) (!6)];lia
  .rintro c g⟨l,m,q,rfl,N,b⟩;show(l,m,q,1,b)
  rintro c g⟨l,m,q,rfl,D,L,H,Y⟩;let hz:=l.size;dsimp only;apply i7 (P:=λv=>Mv lo (lo+d) f v/\Ng (arrOf v) lo (lo+m))
  .intro key;by_cases T:q>0
   .rw [if_pos T];refine wpS_bind (im (!6) Y λv k C=>key _ (l.trans (k.mono (!6) (!6)),λp q o B R=>?_));rw[C,C];show H p q o B R
   .rw [if_neg T];show key _ (l,H)
  .rintro v⟨k,ng4⟩;let ap:=k.size;refine wpS_bind (mD (!6) λu i X=>?_);let i:=k.trans (i.mono (i':=lo) (j':=lo+d) (Nat.le_refl _) (!6));let an:=i.size;let ac:=i.kind.trans Z;let ai:=i.ints hI;let ab:Sg (arrOf u) lo (lo+m):=λp q o B R=>by
    rw[X,X,if_pos (!6),if_pos (!6)];show ng4 _ _ (!6) (!6) (!6)
   refine wpS_bind (wpS_mono (wpS_forRange (I:=λx c e=>e=u/\∃n,c=(none,n,)/\n=x/\n≤d/\Sg (arrOf u) lo (lo+n)) (Q:=λc e=>e=u/\∃n,c=(none,n,)/\1≤n/\n≤d/\Sg (arrOf u) lo (lo+n)) ?_ ?_ (1,m,6,L,ab)) ?_)
   .rintro x c F hx1 N⟨rfl,n,rfl,rfl,d2,O⟩;dsimp only;refine wpS_bind (J1 ac ai (!6) (!6) ?_);dsimp only;by_cases y:K (arrOf F) (lo+n)<K (arrOf F) (lo+n-1)
    .rw [decide_eq_true y,if_pos rfl];show wpS_pure (1,n,1,!6,d2,O)
    .rw [decide_eq_false y,if_neg (!0)];show wpS_pure (1,n+1,6,N,O.snoc (!6) y)
   .rintro c F⟨rfl,n,rfl,N,d2,O⟩;show(1,n,1,!6,d2,O)
   rintro c F⟨rfl,n,rfl,d1,d2,O⟩;show wpS_pure (h _ n d1 d2 i O)
end
def jB:∀(l:List Kd)(a:Array Kd)(s k t:Nat),s+k+l.length≤a.size->
  ((l.zipIdx k).foldl (λa(p:Kd×Nat)=>a.setIfInBounds (s+p.2) p.1) a)[t]?=if s+k≤t/\t<s+k+l.length then l[t-(s+k)]? else a[t]?
 |[],a,s,k,t,_=>by
  rw[if_neg (!1)];rfl
 |x::l,a,s,k,t,h=>by
  rw[List.zipIdx_cons,List.foldl_cons,jB l _ s (k+1) t (by rw[Array.size_setIfInBounds];simp at h;lia)];simp only[length_cons]at h⊢;by_cases c:t=s+k
  .subst c;rw[if_neg (!6),if_pos (!6),sub_self,Array.getElem?_setIfInBounds_self_of_lt (!6)];rfl
  .by_cases b:s+k≤t/\t<s+k+(l.length+1)
   .rw [if_pos (!6),if_pos b,show t-(s+k)=t-(s+(k+1))+1 by lia,List.getElem?_cons_succ]
   .rw [if_neg (!6),if_neg b,Array.getElem?_setIfInBounds_ne (!6)]
def nB{a b:Array Kd}(h:s+l.length≤a.size)(f:∀t,b[t]?=if s≤t/\t<s+l.length then l[t-s]? else a[t]?):b.toList=a.toList.take s++l++a.toList.drop (s+l.length):=by
 let c:a.toList.length=a.size:=length_toList;refine List.ext_getElem? λt=>?_;rw[getElem?_toList,f,append_assoc,List.getElem?_append,length_take,c,min_eq_left (!6)];by_cases d:t<s
 .rw [if_neg (!6),if_pos d,List.getElem?_take,if_pos d,getElem?_toList]
 .rw [if_neg d,List.getElem?_append];by_cases e:t-s<l.length
  .rw [if_pos (!6),if_pos e]
  .rw [if_neg (!6),if_neg e,getElem?_drop,getElem?_toList];congr 1;lia
def ms(a:Array Kd)(f:s≤m)(d:m≤e):a.toList=a.toList.take s++((a.extract s m).toList++(a.extract m e).toList)++a.toList.drop e:=by
 rw[toList_extract,toList_extract,extract_eq_take_drop,extract_eq_take_drop];let c:(a.toList.drop s).take (m-s)++(a.toList.drop m).take (e-m)=(a.toList.drop s).take (e-s):=by
  rw[show e-s=(m-s)+(e-m) by lia,List.take_add,List.drop_drop,show s+(m-s)=m by lia]
 rw[c];let b:a.toList.take s++(a.toList.drop s).take (e-s)=a.toList.take e:=by rw[<-List.take_add,show s+(e-s)=e by lia]
 rw[b,take_append_drop]
def nA{l:List Kd}{a b:Array Kd}(g:s≤m)(f:m≤e)(h:e≤a.size)(c:l.Perm ((a.extract s m).toList++(a.extract m e).toList))(d:∀t,b[t]?=if s≤t/\t<s+l.length then l[t-s]? else a[t]?):b.Perm a/\s+l.length=e:=by
 let hz:s+l.length=e:=by
  rw[c.length_eq,j_,length_toList,length_toList,size_extract,size_extract];lia
 refine(Array.perm_iff_toList_perm.mpr ?_,hz);rw[nB (!6) d,hz]
 conv=>rhs;rw[ms a g f]
 show(c.append_left _).append_right _
def oi(h:Sg a i j)(d:j≤a.size):(a.extract i j).toList.Pairwise le:=by
 rw[pairwise_iff_getElem];intro p q hp b c;rw[getElem_toList,getElem_toList,getElem_extract,getElem_extract];rw[length_toList,size_extract]at b;have:=h (i+p) (i+q) (!6) (!6) (!6)
 rwa [m_ (!6),m_ (!6)]at this
def Lp{a:Array Kd}(h:IntKeys a):IntKeys (a.extract i j):=λp hp=>by
 rw[toList_extract,extract_eq_take_drop]at hp;show h p (mem_of_mem_drop (mem_of_mem_take hp))
def bh{a:Array Kd}(c:j≤a.size)(hp:p∈(a.extract i j).toList):∃t,i≤t/\t<j/\key p=K a t:=by
 let⟨t,b,rfl⟩:=List.mem_iff_getElem.mp hp;rw[length_toList,size_extract]at b;refine(i+t,5,3);change numOf _=_;rw[m_ (!6),getElem_toList,getElem_extract]
end TS
namespace TS
open PyProof.Rows
abbrev Mp(i j:Nat)(p:Array (Nat×Nat×Nat))(st st':SortSt):Prop:=∃xs g,st'=SortSt.mk' (kindOf st) xs p g (failedOf st)/\xs.Perm (arrOf st)/\∀t,(t<i\/j≤t)->xs[t]?=(arrOf st)[t]?
section
variable{prog:Program}{w:World}{A:Around}{E:Value->Shared->Prop}{s:Shared}{st:SortSt}
def qz(h:Q ⟨⟩ a):wpS (model prog w) A E s (set a:StateT SortSt Sem PUnit) Q st:=by
 unfold wpS;rw[StateT.run_set];show j3 (1,h)
def iC(hk:kindOf st=oneType')(L:IntKeys (arrOf st))(hf:failedOf st=none)(h1:(pendingOf st)[i]?<*(d,D,Z,))(h2:(pendingOf st)[i+1]?<*(c,v,pb,))(ac:c=d+D)(ha:1≤D)(hb:1≤v)(hz:c+v≤(arrOf st).size)(N:Sg (arrOf st) d c)(M:Sg (arrOf st) c (c+v))(h:∀f,Mp d (c+v) (((pendingOf st).setIfInBounds i (d,D+v,Z,)).eraseIdxIfInBounds (i+1)) st f->Sg (arrOf f) d (c+v)->Q true f):wpS (model prog w) A E s (mergeAt' i) Q st:=by
 refine wpS_bind (wpS_get ?_);dsimp only;rw[h1,h2];dsimp only;let I:numOf (arrOf st)[c].1=K (arrOf st) c:=(m_ (!6)).symm;refine wpS_bind (qz (wpS_bind (vS (a:=arrOf st) (i:=c) (!6) (wpS_bind (J0 (a:=arrOf st) (by show hk) L (GW L (!6)) (!6) (by rw[<-ac];show N) (!6) λk q1 Y q3=>?_)))));let Y:∀t,d≤t->t<d+k->K (arrOf st) t≤K (arrOf st) c:=λt l j=>by
  have:=Y (t-d) (!6);unfold By at this;rw[if_neg (!0),show d+(t-d)=t by lia,I]at this;show Int.not_lt.mp (by simpa using this)
 let q3:∀t,d+k≤t->t<c->K (arrOf st) c≤K (arrOf st) t:=λt l j=>by
  have:=q3 (t-d) (!6) (!6);unfold By at this;rw[if_neg (!0),show d+(t-d)=t by lia,I]at this;show Int.le_of_lt (by simpa using this)
 let n:Mp d (c+v) (((pendingOf st).setIfInBounds i (d,D+v,Z,)).eraseIdxIfInBounds (i+1)) st (SortSt.mk' (kindOf st) (arrOf st) (((pendingOf st).setIfInBounds i (d,D+v,Z,)).eraseIdxIfInBounds (i+1)) (gallopOf st) (failedOf st)):=(8,Perm.refl _,λ_ _=>rfl);dsimp only;by_cases e1:D-k=0
 .rw [if_pos (by simpa using e1)];refine wpS_pure (h _ n λp q l j x=>?_);by_cases d1:q<c
  .exact N p q l j d1
  .by_cases d2:p<c
   .exact Int.le_trans (Y p l (!6)) (M c q (Nat.le_refl _) (!6) x)
   .exact M p q (!6) j x
 rw[if_neg (by simpa using e1)];let H:numOf ((arrOf st)[d+k+(D-k)-1]'(!6)).1=K (arrOf st) (c-1):=by
  rw[<-m_];congr 1;lia
 refine wpS_bind (vS (a:=arrOf st) (i:=d+k+(D-k)-1) (!6) (wpS_bind (J0 (a:=arrOf st) (by show hk) L (GW L (!6)) (!2) M (!6) λm r1 r2 X=>?_)));let r2:∀t,c≤t->t<c+m->K (arrOf st) t≤K (arrOf st) (c-1):=λt l j=>by
  have:=r2 (t-c) (!6);unfold By at this;rw[if_pos rfl,show c+(t-c)=t by lia,H]at this;show Int.le_of_lt (by simpa using this)
 let X:∀t,c+m≤t->t<c+v->K (arrOf st) (c-1)≤K (arrOf st) t:=λt l j=>by
  have:=X (t-c) (!6) (!6);unfold By at this;rw[if_pos rfl,show c+(t-c)=t by lia,H]at this;show Int.not_lt.mp (by simpa using this)
 dsimp only;by_cases e2:m=0
 .rw [if_pos (by simpa using e2)];refine wpS_pure (h _ n λp q l j x=>?_);by_cases d1:q<c
  .exact N p q l j d1
  .by_cases d2:p<c
   .exact Int.le_trans (N p (c-1) l (!6) (!6)) (X q (!6) x)
   .exact M p q (!6) j x
 rw[if_neg (by simpa using e2)];let zx:((arrOf st).extract (d+k) c).size=c-(d+k):=by rw[size_extract];lia
 let zy:((arrOf st).extract c (c+m)).size=m:=by rw[size_extract];lia
 let px:((arrOf st).extract (d+k) c).toList.Pairwise le:=oi (λp q l j x=>N p q (!6) j x) (!6);let py:((arrOf st).extract c (c+m)).toList.Pairwise le:=oi (λp q l j x=>M p q l j (!6)) (!6);let y0:∀r,key (((arrOf st).extract c (c+m))[0]'r)=K (arrOf st) c:=λr=>by
  change numOf _=_;rw[getElem_extract,<-m_ (!6)];rfl
 let xl:∀r,key (((arrOf st).extract (d+k) c)[((arrOf st).extract (d+k) c).size-1]'r)=K (arrOf st) (c-1):=λr=>by
  change numOf _=_;rw[getElem_extract,<-m_];congr 1;lia
 let hx:∀q∈((arrOf st).extract (d+k) c).toList,∀r,key (((arrOf st).extract c (c+m))[0]'r)≤key q:=λq B r=>by
  let⟨t,l,j,e⟩:=bh (!6) B;rw[y0,e];show q3 t l j
 let hy:∀q∈((arrOf st).extract c (c+m)).toList,∀r,key q≤key (((arrOf st).extract (d+k) c)[((arrOf st).extract (d+k) c).size-1]'r):=λq B r=>by
  let⟨t,l,j,e⟩:=bh (!6) B;rw[xl,e];show r2 t l j
 let W:∀(o:Array Kd)(f:SortSt),vT ((arrOf st).extract (d+k) c) ((arrOf st).extract c (c+m)) o->Gs (SortSt.mk' (kindOf st) (arrOf st) (((pendingOf st).setIfInBounds i (d,D+v,Z,)).eraseIdxIfInBounds (i+1)) (gallopOf st) (failedOf st)) f->Q true (SortSt.mk' (kindOf f) (o.toList.zipIdx.foldl (λa(p:Kd×Nat)=>a.setIfInBounds (d+k+p.2) p.1) (arrOf f)) (pendingOf f) (gallopOf f) (failedOf f))/\failedOf f=none:=λo f O U=>by
  let⟨g,rfl⟩:=U;refine(3,hf);let C:∀t,(o.toList.zipIdx.foldl (λa(p:Kd×Nat)=>a.setIfInBounds (d+k+p.2) p.1) (arrOf st))[t]?=if d+k≤t/\t<d+k+o.toList.length then o.toList[t-(d+k)]? else(arrOf st)[t]?:=λt=>by
   have:=jB o.toList (arrOf st) (d+k) 0 t (by
    rw[O.1.length_eq,j_,length_toList,length_toList,zx,zy];lia)
   simpa using this
  let⟨pm,ai⟩:=nA (m:=c) (e:=c+m) (!6) (!6) (!6) O.1 C;generalize o.toList.zipIdx.foldl (λa(p:Kd×Nat)=>a.setIfInBounds (d+k+p.2) p.1) (arrOf st)=ys at C pm;refine h _ (ys,g,1,pm,λt ht=>by rw[C,if_neg (!6)]) λp q l j x=>?_;change K ys p≤K ys q;let an:o.toList.length=c+m-(d+k):=by lia
  let y:∀t,(t<d+k\/c+m≤t)->K ys t=K (arrOf st) t:=λt ht=>K_congr (by rw[C,if_neg (!6)]);let R:∀t,d+k≤t->t<c+m->∃r,K ys t=key (o.toList[t-(d+k)]'r):=λt d1 d2=>(!6,by
   unfold K;rw[C,if_pos (!6),hH (!6)])
  let whence:∀t,d+k≤t->t<c+m->∃u,d+k≤u/\u<c+m/\K ys t=K (arrOf st) u:=λt d1 d2=>by
   let⟨r,e⟩:=R t d1 d2;rw[e];rcases mem_append.mp (O.1.mem_iff.mp (getElem_mem r))with z|z
   .obtain ⟨u,G,F,S⟩:=bh (!6) z;show(u,G,!6,S)
   .obtain ⟨u,G,F,S⟩:=bh (!6) z;show(u,!6,F,S)
  let T:∀t u,d≤t->t<d+k->d+k≤u->u<c+v->K (arrOf st) t≤K (arrOf st) u:=λt u d1 d2 P d4=>by
   by_cases d5:u<c
   .exact N t u d1 (!6) d5
   .exact Int.le_trans (Y t d1 d2) (M c u (Nat.le_refl _) (!6) d4)
  let ab:∀t u,d≤t->t<c+m->c+m≤u->u<c+v->K (arrOf st) t≤K (arrOf st) u:=λt u d1 d2 P d4=>by
   by_cases d5:t<c
   .exact Int.le_trans (N t (c-1) d1 (!6) (!6)) (X u P d4)
   .exact M t u (!6) (!6) d4
  by_cases d1:p<d+k
  .rw [y p (!6)];by_cases d2:q<d+k
   .rw [y q (!6)];show N p q l j (!6)
   .by_cases P:q<c+m
    .obtain ⟨u,G,F,S⟩:=whence q (!6) P;rw[S];show T p u l d1 G (!6)
    .rw [y q (!6)];show T p q l d1 (!6) x
  .by_cases d2:q<c+m
   .obtain ⟨hp,e⟩:=R p (!6) (!2);let⟨B,e'⟩:=R q (!6) d2;rw[e,e'];by_cases P:p=q
    .subst P;show Int.le_refl _
    .exact pairwise_iff_getElem.mp O.2 _ _ hp B (!6)
   .rw [y q (!6)];by_cases P:p<c+m
    .obtain ⟨u,G,F,S⟩:=whence p (!6) P;rw[S];show ab u q (!6) F (!6) x
    .rw [y p (!6)];show M p q (!6) j x
 by_cases e3:D-k≤m
 .rw [if_pos e3];refine wpS_bind (iA (a:=(arrOf st).extract (d+k) c) (b:=(arrOf st).extract c (c+m)) (by show hk) (Lp L) (Lp L) px py (!6) (!6) (hx _ (by rw[<-getElem_toList];show getElem_mem _) _) (λq B=>hy q B _) λo f O U=>?_);let⟨G,F⟩:=W o f O U;refine wpS_bind (wpS_modify (wpS_bind (wpS_get (wpS_pure ?_))));change Q (failedOf f).isNone _;rw[F];show G
 .rw [if_neg e3];refine wpS_bind (iB (a:=(arrOf st).extract (d+k) c) (b:=(arrOf st).extract c (c+m)) (by show hk) (Lp L) (Lp L) px py (!6) (!6) (λq B=>hx q B _) (λq B=>hy q B _) λo f O U=>?_);let⟨G,F⟩:=W o f O U;refine wpS_bind (wpS_modify (wpS_bind (wpS_get (wpS_pure ?_))));change Q (failedOf f).isNone _;rw[F];show G
end
end TS
namespace TS
open PyProof.Rows L2
abbrev Ch(a:Array Kd):List (Nat×Nat×Nat)->Nat->Nat->Prop
 |[],lo,hi=>lo=hi
 |(s,n,_)::l,lo,hi=>s=lo/\1≤n/\Sg a s (s+n)/\Ch a l (s+n) hi
section
variable{a a':Array Kd}
def Ch.app:∀{l1 l2:List (Nat×Nat×Nat)}{lo b:Nat},Ch a (l1++l2) lo b↔∃m,Ch a l1 lo m/\Ch a l2 m b
 |[],l2,lo,b=>(λh=>(lo,1,h),λ⟨m,e,h⟩=>by cases e;show h)
 | (s,n,w)::l1,l2,lo,b=>(λ⟨g,f,d,k⟩=>by
   let⟨m,j,i⟩:=Ch.app.mp k;show(m,(g,f,d,j),i),λc=>by let⟨m,⟨g,f,d,j⟩,i⟩:=c;show(g,f,d,Ch.app.mpr (m,j,i)))
def Ch.len:∀{l:List (Nat×Nat×Nat)}{lo b:Nat},Ch a l lo b->lo+l.length≤b
 |[],_,_,h=>by cases h;show Nat.le_refl _
 |(s,n,w)::l,lo,b,⟨f,e,d,c⟩=>by
  have:=c.len;rw[length_cons];lia
def Ch.same:∀{l:List (Nat×Nat×Nat)}{lo b:Nat},Ch a l lo b->(∀t,lo≤t->t<b->K a' t=K a t)->Ch a' l lo b
 |[],_,_,h,_=>h
 |(s,n,w)::l,lo,b,⟨g,f,d,c⟩,e=>by
  have:=c.len;show(g,f,λp q k j i=>by rw[e p (!6) (!6),e q (!6) (!6)];show d p q k j i,c.same λt d1 d2=>e t (!6) d2)
end
structure TB(a₀:Array Kd)(st:SortSt):Prop where
 perm:(arrOf st).Perm a₀
 kind:kindOf st=oneType'
 failed:failedOf st=none
 ik:IntKeys (arrOf st)
section
variable{a₀:Array Kd}{st st':SortSt}{i j:Nat}{p:Array (Nat×Nat×Nat)}
def TB.mv(h:TB a₀ st)(m:Mv i j st st'):TB a₀ st':=by
 let a:=m.ints h.ik;let⟨xs,rfl,p,e⟩:=m;show(p.trans h.perm,h.kind,h.failed,a)
def Mv.pend(m:Mv i j st st'):pendingOf st'=pendingOf st:=by
 let⟨xs,rfl,p,e⟩:=m;rfl
def TB.mp(h:TB a₀ st)(m:Mp i j p st st'):TB a₀ st':=by
 let⟨xs,g,rfl,pm,e⟩:=m;show(pm.trans h.perm,h.kind,h.failed,λq a=>h.ik q ((Array.perm_iff_toList_perm.mp pm).mem_iff.mp a))
def Mp.pend(m:Mp i j p st st'):pendingOf st'=p:=by
 let⟨xs,g,rfl,pm,e⟩:=m;rfl
def Mp.K(m:Mp i j p st st')(a:t<i\/j≤t):K (arrOf st') t=K (arrOf st) t:=by
 let⟨xs,g,rfl,pm,e⟩:=m;show K_congr (e t a)
def qm{l:List (Nat×Nat×Nat)}(h:i+1<l.length):∃l1 x y l2,l=l1++x::y::l2/\l1.length=i:=by
 refine(l.take i,l[i],l[i+1],l.drop (i+2),3,by rw[length_take];lia)
 conv=>lhs;rw[<-take_append_drop i l]
 rw[drop_eq_getElem_cons (!6),drop_eq_getElem_cons h]
end
section
variable{prog:Program}{w:World}{A:Around}{E:Value->Shared->Prop}{s:Shared}{st:SortSt}{a₀:Array Kd}
def cF(g:TB a₀ st)(r:Ch (arrOf st) (pendingOf st).toList 0 o)(hz:o≤(arrOf st).size)(hi2:i+1<(pendingOf st).size)(h:∀a,TB a₀ a->Ch (arrOf a) (pendingOf a).toList 0 o->(pendingOf a).size+1=(pendingOf st).size->(∀t,o≤t->K (arrOf a) t=K (arrOf st) t)->Q true a):wpS (model prog w) A E s (mergeAt' i) Q st:=by
 let⟨l1,⟨c,d,j⟩,⟨k,b,B⟩,l2,f,n⟩:=qm (l:=(pendingOf st).toList) (i:=i) (by rw[length_toList];show hi2);rw[f]at r;let⟨m,y,L⟩:=Ch.app.mp r;let⟨I,D,H,v,C,G,x⟩:=L;let M:=x.len;let N:=y.len;let q:(pendingOf st)[i]?<*(c,d,j,):=by rw[<-getElem?_toList,f,getElem?_append_right (!6),n,sub_self];rfl
 let p:(pendingOf st)[i+1]?<*(k,b,B,):=by rw[<-getElem?_toList,f,getElem?_append_right (!6),n,Nat.add_sub_cancel_left];rfl
 let u:(((pendingOf st).setIfInBounds i (c,d+b,j,)).eraseIdxIfInBounds (i+1)).toList=l1++(c,d+b,j,)::l2:=by
  let F:((pendingOf st).setIfInBounds i (c,d+b,j,)).size=(pendingOf st).size:=Array.size_setIfInBounds;unfold Array.eraseIdxIfInBounds;rw[dif_pos (by rw[F];show hi2),Array.toList_eraseIdx,Array.toList_setIfInBounds,f];subst n;simp[List.eraseIdx_append_of_length_le]
 refine iC g.kind g.ik g.failed q p v D C (!6) (by rw[v];show H) G λa e z=>h a (g.mp e) ?_ ?_ λt O=>e.K (.inr (!6))
 .rw [e.pend,u];refine Ch.app.mpr (m,y.same λt d1 d2=>e.K (.inl (!6)),I,!6,by rw[show c+(d+b)=k+b by lia];show z,3);rw[show c+(d+b)=k+b by lia];show x.same λt d1 d2=>e.K (.inr d1)
 .rw [e.pend,<-length_toList,u,<-length_toList,f];simp;lia
def Ch.push{p:Array (Nat×Nat×Nat)}{lo n k:Nat}(h:Ch a p.toList 0 lo)(b:1≤n)(g:Sg a lo (lo+n)):Ch a (p.push (lo,n,k,)).toList 0 (lo+n):=by
 rw[toList_push];show Ch.app.mpr (lo,h,1,b,g,1)
def Ch.power{p:Array (Nat×Nat×Nat)}{lo b k i:Nat}(h:Ch a p.toList lo b):Ch a (p.modify i λx=>(x.1,x.2.1,k,)).toList lo b:=by
 rw[Array.toList_modify];let d:∀(l:List (Nat×Nat×Nat))(i lo:Nat),Ch a l lo b->Ch a (l.modify i λx=>(x.1,x.2.1,k,)) lo b:=λl=>by
  induction l with
  |nil=>intro i lo h;rw[List.modify_nil];show h
  |cons x l c=>
   let⟨s,n,w⟩:=x;intro i lo h;cases i with
   |zero=>rw[List.modify_zero_cons];show h
   |succ i=>rw[List.modify_succ_cons];show(h.1,h.2.1,h.2.2.1,c i _ h.2.2.2)
 show d _ _ _ h
def NW(c:Bool)(h:1<n):(if c=true then n-2-1 else n-2)+1<n:=by
 cases c<;>simp<;>omega
def fu(tb:TB a₀ st)(hp:pendingOf st=#[])(h:∀a,(arrOf a).Perm a₀->failedOf a=none->SortedTo (arrOf a) a₀.size->Q () a):wpS (model prog w) A E s sortRuns' Q st:=by
 let hz:∀{a:SortSt},TB a₀ a->(arrOf a).size=a₀.size:=λt=>t.perm.size_eq;refine wpS_bind (wpS_get ?_);let es:=hz tb;dsimp only;rw[es];obtain⟨S,Z⟩:∃S,S=(sortPriv% PySem.Builtin.minRun) a₀.size a₀.size 0:=(_,rfl);rw[<-Z];refine wpS_bind (wpS_mono (wpS_forRange (I:=λx c a=>∃lo,A5 (c=(none,lo,)) (x≤lo) (lo≤a₀.size) (TB a₀ a) (Ch (arrOf a) (pendingOf a).toList 0 lo))
  (Q:=λc a=>c=(none,a₀.size,)/\TB a₀ a/\Ch (arrOf a) (pendingOf a).toList 0 a₀.size) ?_ ?_ ((0),1,Nat.le_refl _,zero_le _,tb,by rw[hp];rfl)) ?_)
 .rintro x c R _ hx⟨lo,rfl,a1,a2,g,l⟩;dsimp only;by_cases T:lo≥a₀.size
  .rw [if_pos T];obtain rfl:lo=a₀.size:=by lia
   show wpS_pure (1,g,l)
  rw[if_neg T];let z1:=hz g;refine wpS_bind (gJ g.kind g.ik (!6) (!6) λk n n1 n2 O D=>?_);let b:=g.mv O;let z2:=hz b;let i:Ch (arrOf k) (pendingOf k).toList 0 lo:=by
   rw[O.pend];show l.same λt _ d2=>O.K (.inl d2)
  dsimp only;by_cases hm:n<S;rw[if_pos hm];refine wpS_bind (Ju (wpS_bind (bR (n:=min (a₀.size-lo) S) b.kind b.ik (!6) (!6) D λj N C=>?_)));rw[if_neg (!0)];let f:=b.mv N;let B:Ch (arrOf j) (pendingOf j).toList 0 lo:=by
   rw[N.pend];show i.same λt _ d2=>N.K (.inl d2)
  obtain⟨o,u⟩:∃o,o=min (a₀.size-lo) S:=(_,rfl);rw[<-u];rw[<-u]at C;let M:1≤o:=by lia
  let L:lo+o≤a₀.size:=by lia
  rotate_left
  rw[if_neg hm];obtain⟨j,G⟩:∃j,j=k:=(_,rfl);obtain⟨o,u⟩:∃o,o=n:=(_,rfl);rw[<-G,<-u];rw[<-G]at b i D;rw[<-u]at D;let f:=b;let B:=i;let C:=D;let M:1≤o:=by lia
  let L:lo+o≤a₀.size:=by lia
  all_goals
   refine wpS_bind (wpS_get ?_);let z3:=hz f;cases hb:(pendingOf j).back? with
   |none=>
    dsimp only;show wpS_bind (wpS_modify (wpS_pure (lo+o,1,!6,L,(f.perm,f.kind,f.failed,f.ik),B.push M C)))
   |some e=>
    let⟨s1,k1,w1⟩:=e;dsimp only;refine wpS_bind (wpS_mono (wpS_forRange (I:=λx c a=>c=(none,(),)/\TB a₀ a/\Ch (arrOf a) (pendingOf a).toList 0 lo/\Sg (arrOf a) lo (lo+o))
     (Q:=λc a=>c=(none,(),)/\TB a₀ a/\Ch (arrOf a) (pendingOf a).toList 0 lo/\Sg (arrOf a) lo (lo+o)) ?_ (λ_ _ z=>z) (1,f,B,C)) ?_)
    .rintro y c m _ hy⟨rfl,d,v,r⟩;let z4:=hz d;refine wpS_bind (wpS_get ?_);by_cases H:(pendingOf m).size>1
     .rw [if_pos H,getElem?_pos (pendingOf m) ((pendingOf m).size-2) (!6)];dsimp only;split
      .exact wpS_pure (1,d,v,r)
      .refine wpS_bind (cF d v (!6) (by show(pendingOf m).size-2+1<(pendingOf m).size;lia) λac Y ab _ k5=>?_);rw[if_neg (!0)];show wpS_pure (1,Y,ab,λp q X c2 c3=>by rw[k5 p X,k5 q (!2)];show r p q X c2 c3)
     .rw [if_neg H];show wpS_pure (1,d,v,r)
    rintro c m⟨rfl,d,v,r⟩;dsimp only;show wpS_bind (wpS_modify (wpS_bind (wpS_modify (wpS_pure (lo+o,1,!6,L,(d.perm,d.kind,d.failed,d.ik),(v.power).push M r)))))
 .rintro c R⟨lo,rfl,a1,a2,g,l⟩;rw[zero_max]at a1;obtain rfl:lo=a₀.size:=by lia
  show(1,g,l)
 rintro c R⟨rfl,g,l⟩;dsimp only;let U:∀{a:SortSt},TB a₀ a->Ch (arrOf a) (pendingOf a).toList 0 a₀.size->(pendingOf a).size≤1->Q () a:=λ{a}P F H=>by
  refine h a P.perm P.failed λp q X c2=>?_;rw[<-length_toList]at H;match e:(pendingOf a).toList,H with
  |[],_=>
   rw[e]at F;have:0=a₀.size:=F;lia
  |[(s1,n1,w1)],_=>
   rw[e]at F;let⟨e1,e2,e3,e4⟩:=F;let e4:s1+n1=a₀.size:=e4;show e3 p q (!6) X (!6)
 refine wpS_bind (wpS_mono (wpS_forRange (I:=λx c a=>c=(none,(),)/\TB a₀ a/\Ch (arrOf a) (pendingOf a).toList 0 a₀.size/\((pendingOf a).size≤1\/(pendingOf a).size+x≤a₀.size))
  (Q:=λc a=>c=(none,(),)/\Q () a) ?_ ?_ (1,g,l,.inr (by have:=l.len;rw[length_toList]at this;lia))) ?_)
 .rintro x c k _ hx⟨rfl,b,i,H⟩;let z2:=hz b;refine wpS_bind (wpS_get ?_);by_cases W:(pendingOf k).size≤1
  .rw [if_pos W];show wpS_pure (1,U b i W)
  rw[if_neg W];refine wpS_bind (cF b i (!6) (NW _ (by show Nat.lt_of_not_le W)) λj f B ai _=>?_);rw[if_neg (!0)];show wpS_pure (1,f,B,.inr (!6))
 .rintro c k⟨rfl,b,i,H⟩;rw[zero_max]at H;show(1,U b i (!6))
 rintro c k⟨rfl,q⟩;show wpS_pure q
end
end TS
namespace TS
open PySem.W PyProof.Rows
section
variable{prog:Program}{w:World}{A:Around}{E:Value->Shared->Prop}{s:Shared}{q D kS n0:Addr}{vs:List Value}{ks:List Int}{I:Shared->Prop}
def jc{st:SortSt}(t:IntsAre keys.toList ks)(r:ks.length=vs.length)(hz:vs.length≤1000000)(hp:(arrOf st).Perm (keys.zip vs.toArray))(z:SortedTo (arrOf st) (arrOf st).size)(l:failedOf st=none)(v:s.heap.get? kS<*seqObj "list" keys e)(x:s.heap.get? D<*(seqObj "list" #[] B))(k:kS≠D)(y:I s)(a:∀(j:Shared)(h':Heap)(u:Nat)(it:Addr),I j->(it=kS\/it=D)->(∀b o,b≠it->j.heap.get? b<*o->h'.get? b<*o)->I {j with heap:=h',toks:=u})(h:∀s' g c,I s'->s'.heap.get? D<*seqObj "list" g c->KskOut false ks vs g.toList->P (.done (.ret .none)) s'):wpAny (model prog w) A (ksk_tail D false B (.ref kS) st) P E s:=by
 let d:∀{n:Nat},n≤1000000->n≤sizeLine:=λh=>by rw[sizeLine_eq];omega
 let hsz:keys.size=vs.length:=by
  have:=t.length;rw[length_toList]at this;lia
 let i:(arrOf st).size=vs.length:=by rw[hp.size_eq,Array.size_zip,hsz,size_toArray,Nat.min_self]
 unfold ksk_tail;let d1:=SameBut.update s.heap kS (mapSeq λ_=>(#[]:Array Value));refine g_ (listUpdate_at v rfl (g_ (wpAny_letGo ?_)) (by rw[hsz];show d hz) (zero_le _));let f:=(d1.2 D k.symm).trans x;let i1:I {s with heap:=s.heap.update kS (mapSeq λ_=>(#[]:Array Value))}:=a s _ s.toks kS y (.inl rfl) λb o m p=>(d1.2 b m).trans p;refine g_ (seqEpoch_at f rfl (g_ (listUpdate_at f rfl ?_ (zero_le _) (Nat.le_trans (le_of_eq (by show((arrOf st).map (·.2)).size=vs.length;rw[Array.size_map];show i)) (Nat.le_succ_of_le (d hz))))));rw[l];simp only[bne_self_eq_false,false_eq_true,if_false];let d2:=SameBut.update (s.heap.update kS (mapSeq λ_=>(#[]:Array Value))) D (mapSeq λ_=>(arrOf st).map (·.2));show j3 (h _ _ _ (a {s with heap:=s.heap.update kS (mapSeq λ_=>(#[]:Array Value))} _ s.toks D i1 (.inr rfl) λb o m p=>(d2.2 b m).trans p) (get?_update_seq f λ_=>(arrOf st).map (·.2)) (ksk_out (b:=false) t hp z))
def rj(m:IntsAre keys.toList ks)(f:ks.length=vs.length)(hz:vs.length≤1000000)(t:s.heap.get? kS<*seqObj "list" keys e)(u:s.heap.get? D<*(seqObj "list" #[] F))(l:kS≠D)(v:I s)(a:∀(n:Shared)(h':Heap)(x:Nat)(it:Addr),I n->(it=kS\/it=D)->(∀b o,b≠it->n.heap.get? b<*o->h'.get? b<*o)->I {n with heap:=h',toks:=x})(h:∀s' k c,I s'->s'.heap.get? D<*seqObj "list" k c->KskOut false ks vs k.toList->P (.done (.ret .none)) s'):wpAny (model prog w) A (ksk_end D false vs.toArray F (.ref kS) keys) P E s:=by
 let hsz:keys.size=vs.length:=by
  have:=m.length;rw[length_toList]at this;lia
 let p:(keys.zip vs.toArray).size=vs.length:=by rw[Array.size_zip,hsz,size_toArray,Nat.min_self]
 unfold ksk_end;dsimp only;rw[if_neg (!0)];by_cases g:vs.toArray.size<2
 .rw [if_pos g,if_pos g];refine g_ (j3 ?_);rw[StateT.run_pure];refine g_ (j3 ?_);refine jc (st:=SortSt.mk' general' (keys.zip vs.toArray) #[] 7 none) m f hz (Perm.refl _) (λi j B r=>?_) rfl t u l v a h;let r:j<(keys.zip vs.toArray).size:=r;rw[p]at r;rw[size_toArray]at g;obtain rfl:i=j:=by lia
  show Int.le_refl _
 .rw [if_neg g,if_neg g];rw[size_toArray]at g;rw[ksk_kind m (by rw[hsz];lia)];refine g_ (j3 (g_ (wpAny_mono (fu (a₀:=keys.zip vs.toArray) (st:=SortSt.mk' oneType' (keys.zip vs.toArray) #[] 7 none) (Q:=λ_ d=>(arrOf d).Perm (keys.zip vs.toArray)/\failedOf d=none/\SortedTo (arrOf d) (keys.zip vs.toArray).size) (Perm.refl _,6,ksk_intKeys m) rfl λd L H G=>(L,H,G)) ?_ λ_ _ z=>z)));rintro⟨⟨⟩,d⟩s'⟨rfl,hp,C,y⟩;show jc m f hz hp (by rw[hp.size_eq];show y) C t u l v a h
def oU(F:ks.length=vs.length)(hz:vs.length≤1000000)(R:s.heap.get? kS<*(seqObj "list" #[] 0))(S:s.heap.get? D<*(seqObj "list" #[] O))(C:kS≠D)(T:I s)(a:∀(d:Shared)(h':Heap)(Q:Nat)(it:Addr),I d->(it=kS\/it=D)->(∀b o,b≠it->d.heap.get? b<*o->h'.get? b<*o)->I {d with heap:=h',toks:=Q})(r:∀(i:Nat)(v:Value)(k:Int),vs[i]?<*v->ks[i]?<*k->∀(d:Shared)(H L:Obj),I d->d.heap.get? kS<*H->d.heap.get? D<*L->(∀x,H.data≠.cell x)->(∀x,L.data≠.cell x)->
   wpAny (model prog w) A (call (.ref q) [v]) (λu s2=>(∃t,u=.int k t)/\I s2/\s2.heap.get? kS=some H/\s2.heap.get? D<*L) (λ_ _=>False) d)(h:∀s' y c,I s'->s'.heap.get? D<*seqObj "list" y c->KskOut false ks vs y.toList->P (.done (.ret .none)) s'):wpAny (model prog w) A (ksk_rest D (.ref q) false vs.toArray O (.ref kS)) P E s:=by
 let f:∀{n:Nat},n≤1000000->n≤sizeLine:=λh=>by rw[sizeLine_eq];omega
 unfold ksk_rest;refine g_ (wpAny_rule ?_);rw[List.forIn_toArray];refine g_ (ksk_fold (λi s'=>∃m e,IntsAre m.toList (ks.take i)/\I s'/\s'.heap.get? kS=some (seqObj "list" m e)/\s'.heap.get? D<*(seqObj "list" #[] O)) vs 0 s (#[],(0),by simpa using IntsAre.nil,T,R,S) ?_ ?_)
 .rintro j x s' N⟨m,e,p,i1,nk1,l⟩;simp only[Nat.zero_add]at p⊢;let hj:j<vs.length:=(j0 N).1;obtain⟨k,G⟩:∃k,ks[j]?<*k:=(_,hH (!6));let U:m.size≤vs.length:=by
   have:=p.length;rw[length_toList,length_take]at this;lia
  refine g_ (wpAny_attempt (wpAny_mono (r j x k N G s' _ _ i1 nk1 l (λ_ z=>by cases z) (λ_ z=>by cases z)) (λv g W=>?_) λ_ _ Y=>Y.elim));let⟨⟨t,rfl⟩,i2,B,M⟩:=W;let d1:=SameBut.update g.heap kS (mapSeq (·.push (.int k t)));refine g_ (listUpdate_at B rfl (j3 (1,m.push (.int k t),_,3,a g _ g.toks kS i2 (.inl rfl) λb o X Z=>(d1.2 b X).trans Z,get?_update_seq B (·.push (.int k t)),(d1.2 D C.symm).trans M)) (f (!2)) (Nat.le_trans (le_of_eq (Array.size_push ..)) (succ_le_succ (f (!2)))));rw[toList_push,take_add_one,G];show ksk_snoc p
 .rintro s'⟨m,e,p,i1,nk1,l⟩;rw[Nat.zero_add,take_of_length_le (!6)]at p;show g_ (listItems_at nk1 rfl (rj p F hz nk1 l C i1 a h))
def G6(Y:s.heap.IsList l vs.toArray)(C:ks.length=vs.length)(hz:vs.length≤1000000)(X:I s)(f:∀(d:Shared)(h':Heap)(H:Nat),I d->(∀b o,d.heap.get? b<*o->h'.get? b<*o)->I {d with heap:=h',toks:=H})(e:∀(d:Shared)(h':Heap)(H:Nat)(it:Addr),I d->(it=s⁻¹+3\/it=s⁻¹+1)->(∀b o,b≠it->d.heap.get? b<*o->h'.get? b<*o)->I {d with heap:=h',toks:=H})(y:∀(i:Nat)(v:Value)(k:Int),vs[i]?<*v->ks[i]?<*k->∀(d:Shared)(L M:Obj),I d->d.heap.get? (s⁻¹+3)<*L->d.heap.get? (s⁻¹+1)<*M->(∀x,L.data≠.cell x)->(∀x,M.data≠.cell x)->
   wpAny (model prog w) A.in1.in1 (call (.ref q) [v]) (λu s2=>(∃t,u=.int k t)/\I s2/\s2.heap.get? (s⁻¹+3)=some L/\s2.heap.get? (s⁻¹+1)<*M) (λ_ _=>False) d)(h:∀s' g c,I s'->s'.heap.get? (s⁻¹+1)<*seqObj "list" g c->KskOut false ks vs g.toList->Q (.ref (s⁻¹+1)) s'):wpAny (model prog w) A (call (.builtin "sorted") [.ref l] [(Str.ofString "key",.ref q,)]) Q E s:=by
 let a:∀{n:Nat},n≤1000000->n≤sizeLine:=λh=>by rw[sizeLine_eq];omega
 refine call_function_entry_kw kind_sorted plain_sorted entry_sorted (ksk_s1 _ _) ?_;unfold Builtin.«sorted»;refine g_ (m:=checkCount "sorted" 1 1 _) (j3 ?_);refine g_ (collect_list Y (g_ (wpAny_newList ?_ (a hz))) (a hz));let d1:=SameBut.update (s.heap.push (seqObj "list" #[] 0)) s⁻¹ (mapSeq (·++vs.toArray));let G:((s.heap.push (seqObj "list" #[] 0)).update s⁻¹ (mapSeq (·++vs.toArray))).objs.size=s⁻¹+1:=by rw[size_update,size_push']
 let i1:I {s with heap:=(s.heap.push (seqObj "list" #[] 0)).update s⁻¹ (mapSeq (·++vs.toArray))}:=
  f s _ s.toks X λb o p=>(d1.2 b (ne_of_lt (lt_size p))).trans (mJ _ p)
 generalize (s.heap.push (seqObj "list" #[] 0)).update s⁻¹ (mapSeq (·++vs.toArray))=r at G i1;let i2:I {s with heap:=r.push (seqObj "list" vs.toArray 0)}:=f {s with heap:=r} _ s.toks i1 λb o p=>mJ _ p;let B:(r.push (seqObj "list" vs.toArray 0)).get? (s⁻¹+1)<*seqObj "list" vs.toArray 0:=by rw[<-G];show get?_push_size _ rfl
 let R:(r.push (seqObj "list" vs.toArray 0)).objs.size=s⁻¹+2:=by rw[size_push',G]
 change wpAny _ _ _ _ _ {s with heap:=r.push (seqObj "list" vs.toArray 0)};rw[G];generalize r.push (seqObj "list" vs.toArray 0)=F at i2 B R;refine g_ (wpAny_holding (wpAny_call_entry_kw slot_list_sort (_,B,1) entry_list_sort ?_ (ksk_l1 _ _)));change wpAny (model prog w) A.in1.in1 (ksk_tree (s⁻¹+1) (.ref q) false) _ _ _;unfold ksk_tree;let d2:=SameBut.update F (s⁻¹+1) (mapSeq λ_=>(#[]:Array Value));refine g_ (listItems_at B rfl (g_ (listUpdate_at B rfl ?_ (by rw[size_toArray];show a hz) (zero_le _))));let N:=get?_update_seq B λ_=>(#[]:Array Value);let T:I {s with heap:=F.update (s⁻¹+1) (mapSeq λ_=>(#[]:Array Value))}:=e {s with heap:=F} _ s.toks _ i2 (.inr rfl) λb o Z p=>(d2.2 b Z).trans p;let P:(F.update (s⁻¹+1) (mapSeq λ_=>(#[]:Array Value))).objs.size=s⁻¹+2:=by rw[size_update,R]
 refine g_ (seqEpoch_at N rfl (g_ (wpAny_newTuple (g_ (wpAny_newList ?_ (zero_le _))) (by change vs.length≤_;show a hz))));generalize F.update (s⁻¹+1) (mapSeq λ_=>(#[]:Array Value))=j at N T P;let O:(j.push (seqObj "tuple" vs.toArray 0)).objs.size=s⁻¹+3:=by rw[size_push',P]
 refine wpAny_holding ?_;let S:∀b o,j.get? b<*o->((j.push (seqObj "tuple" vs.toArray 0)).push (seqObj "list" #[] 0)).get? b<*o:=λb o p=>mJ _ (mJ _ p);let W:I {s with heap:=(j.push (seqObj "tuple" vs.toArray 0)).push (seqObj "list" #[] 0)}:=f {s with heap:=j} _ s.toks T S;let U:((j.push (seqObj "tuple" vs.toArray 0)).push (seqObj "list" #[] 0)).get? (s⁻¹+3)<*(seqObj "list" #[] 0):=by rw[<-O];show get?_push_size _ rfl
 change wpAny (model prog w) A.in1.in1 (ksk_rest (s⁻¹+1) (.ref q) false vs.toArray _ (.ref (j.push (seqObj "tuple" vs.toArray 0)).objs.size)) _ _ {s with heap:=(j.push (seqObj "tuple" vs.toArray 0)).push (seqObj "list" #[] 0)};rw[O];refine oU C hz U (S _ _ N) (λz=>absurd (Nat.add_left_cancel z) (!0)) W e y λs' g c a1 a2 a3=>(0,3);show j3 (0,h s' g c a1 a2 a3)
end
end TS
namespace L2
open PySem.Spec PyProof.Rows
def Paired.perm{R:k->j->Prop}{l2 c:List j}(p:c.Perm l2):∀{l1:List k},Paired R l1 l2->∃d,d.Perm l1/\Paired R d c:=by
 induction p with
 |nil=>show λr=>(_,.refl _,r)
 |cons x _ n=>
  intro l1 r;cases r with
  |cons a t=>
   let⟨m,h,f⟩:=n t;show(_,h.cons _,.cons a f)
 |swap x y l=>
  intro l1 r;cases r with
  |cons a t=>
   cases t with
   |cons b t=>show(_,.swap _ _ _,.cons b (.cons a t))
 |trans _ _ ih1 ih2=>
  intro l1 r;let⟨m,h,f⟩:=ih2 r;let⟨i,g,e⟩:=ih1 f;show(i,g.trans h,e)
def Paired.zipK:∀{ks:List Int}{xs:List V}{a:List Value},ae xs a->ks.length=a.length->Paired (λ(p:Int×V)(q:Int×Value)=>p.1=q.1/\ad p.2 q.2) (ks.zip xs) (ks.zip a)
 |[],_,_,_,_=>.nil
 |_::_,_,_,.cons r t,h=>.cons (1,r) (zipK t (Nat.succ.inj h))
def Paired.snds:∀{ps:List (Int×V)}{a:List (Int×Value)},Paired (λ(p:Int×V)(q:Int×Value)=>p.1=q.1/\ad p.2 q.2) ps a->ae (ps.map Prod.snd) (a.map Prod.snd)/\ps.map Prod.fst=a.map Prod.fst
 |_,_,.nil=>(.nil,1)
 |_,_,.cons r t=>(.cons r.2 (snds t).1,congr (congrArg List.cons r.1) (snds t).2)
abbrev ma(X:Cx)(ta tk:TA):TE:=λσ H Q=>ta σ H λvs H1=>tk σ H1 λzs H2=>∃(l q:Addr)(xs:List V)(ks:List Int)(U:List Addr),vs=[.ref l]/\zs=[.ref q]/\H2 l=some (.lst xs)/\ks.length=xs.length/\xs.length≤1000000/\(∀u∈U,∃φ,H2 u<*.ext φ)/\
 (∀(H3:Hp)(i:Nat)(x:V)(n:Int),b' H2 H3->xs[i]?<*x->ks[i]?<*n->∀base':Heap,Jq X U σ H3 base'->
  ∃(k:Nat)(fd:FuncData)(ps:List Str)(sp:Sp),ag (k+2) X.A/\aa X.prog X.w X.K X.mg base' kd k q fd ps sp/\vC X.K fd ps []/\sp [x] (ut U H3) (λv H4=>(∀u∈U,H4 u=none)->v=.int n/\b' H3 (aN U H3 H4)) E0)/\
 ∀(D:Addr)(H3:Hp)(ps:List (Int×V)),b' H2 H3->H3 D=none->ps.Perm (ks.zip xs)->ps.Pairwise (λp q=>p.1≤q.1)->Q (.ref D) (upd H3 D (.lst (ps.map Prod.snd)))
def mH{p pos O:Pos}(hg:Gl X x)(hm:X.mg x=none)(hv:bootBuiltins x<*.builtin "sorted")(he:PA X [e] ta)(hk:PK X [(some "key",ek,O)] tk)(aU:∀y,X.fn y=true)(hn:(x≠"__name__")>>>0)(aV:((x==("__debug__":Str))=false)>>>0)(h1:(starEach [e] X.env=[(false,eval e X.env,)])>>>4):PE X (.Call (.Name x p) [e] [(some "key",ek,O)] pos) (ma X ta tk):=by
 intro f s σ H Q I h;refine wpAny_Call_Name_kw (pj I hg hm hv ?_ hn aV);refine PyProof.Rows.callWith_kw (kl (he pos f s σ H _ I h) λus R⟨vs,H1,I1,r1,q1⟩=>kl (hk pos f R σ H1 _ I1 q1) λws s2 aZ=>?_) (by rw[h1];rfl) (by rw[h1];rfl);let⟨zs,H2,N,r2,q2⟩:=aZ;let⟨l,q,xs,ks,U,rfl,rfl,hl,C,hz,hU,ac,hq⟩:=q2;obtain⟨_,rfl⟩:∃z:Unit,us=[.ref l]:=((),by cases r1 with|cons a t=>cases t with|nil=>rw[show _=Value.ref l from a]);obtain⟨_,rfl⟩:∃z:Unit,ws=[.ref q]:=((),by cases r2 with|cons a t=>cases t with|nil=>rw[show _=Value.ref q from a]);let⟨_,aF,nn,rI,ai⟩:=N.hok l _ hl;let L:=rI.length;let E:∀j,(∀y c,X.env.cells.lookup y<*c->c≠s2⁻¹+j)/\(∀p∈X.pn++f,p.1≠s2⁻¹+j)/\X.env.locals≠s2⁻¹+j:=λj=>
  (λy c hc=>by
   let⟨v,o,ho,_⟩:=N.cell y c hc;show ne_of_lt (lt_of_lt_of_le (lt_size ho) (le_add_right _ _)),λp hp=>ne_of_lt (lt_of_lt_of_le (lt_size (N.pin p hp).1) (le_add_right _ _)),ne_of_lt (lt_of_lt_of_le N.lt (le_add_right _ _)))
 let Z:∀j,s2⁻¹+j∉vf X.stack:=λj z=>by
  rcases mem_cons.mp (N.stkSub _ z)with z|z
  .exact (E j).2.2 z.symm
  .exact N.nofs (le_add_right _ _) z
 let fr:∀j,H2 (s2⁻¹+j)=none:=λj=>N.hok.fresh (le_add_right _ _);let s0:∀j,X.s₀⁻¹≤s2⁻¹+j:=λj=>Nat.le_trans N.sz (le_add_right _ _);refine TS.G6 (vs:=aF) (ks:=ks) (I:=λs'=>∃d,hA X f σ d s'/\b' H2 d/\d (s2⁻¹+1)=none/\d (s2⁻¹+3)=none) (_,ai,1,0) (by rw[C,L]) (by rw[<-L];show hz) (H2,N,b'.refl _,fr 1,fr 3) ?_ ?_ ?_ ?_
 .rintro R h' tk⟨d,g,D,w,G⟩k;show(d,g.kept k,D,w,G)
 .rintro R h' tk it⟨d,g,D,w,G⟩ (rfl|rfl) k
  .exact (d,g.turned k G (E 3).2.2.symm (.inr (s0 3)) (E 3).1 (E 3).2.1,D,w,G)
  .exact (d,g.turned k w (E 1).2.2.symm (.inr (s0 1)) (E 1).1 (E 1).2.1,D,w,G)
 .rintro i v n hv hn R oK oD⟨d,g,D,w,G⟩gK gD _ _;obtain⟨x,hx,rx⟩:∃x,xs[i]?=some x/\ad x v:=by
   let hi:i<xs.length:=by rw[L];show(j0 hv).1
   let⟨u,e1,e2⟩:=rI.get (hH hi);rw[hv]at e1;cases e1;show(_,hH hi,e2)
  let an:∀u∈U,∃φ,d u<*.ext φ:=λu hu=>(hU u hu).imp λφ e=>D _ _ e;let⟨P,e0,W⟩:=i8 g an aU;let⟨k,fd,ps,sp,hr,F,M,ab⟩:=ac d i x n D hx hn P W;let hl:[v].length=ps.length:=F.len _ _ _ _ ab;refine wpAny_call (codeAny_mono (F.run X.A.in1.in1 X.stack R (ut U d) ([v],[]) [v] [x] _ E0 hr.in1.in1 e0.in1.in1 (M R [v] g.kIn hl) (.cons rx .nil) ab) λr s' B=>?_);cases r with
  |error e=>show False.elim B
  |ok fl=>
   cases fl with
   |ret u=>
    let⟨y,H4,os,ap,T,aM,ry,e,as⟩:=bT (Q:=λv H4=>v=.int n/\b' d H4) g.env0 an B;rw[e]at ry;let⟨y',H5,I5,_,eH⟩:=g.after (Q:=λ_ H5=>H5=H4) (y,H4,os,ap,T,aM,by rw[e];show ry,1);rw[eH]at I5;show(ry,(H4,I5,D.trans as,T.free _ _ gD w (!1),T.free _ _ gK G (!1)),T.keep _ _ gK G (Z 3) (!1),T.keep _ _ gD w (Z 1) (!1))
   |next=>show False.elim B
   |brk=>show False.elim B
   |cont=>show False.elim B
 .rintro s' az c⟨d,g,D,w,G⟩gD⟨qs,pm,eo,pw⟩;let⟨ps,Y,pr⟩:=Paired.perm pm (Paired.zipK rI (by rw[C,L]));let⟨v1,v2⟩:=Paired.snds pr;refine(.ref (s2⁻¹+1),_,3,1,hq (s2⁻¹+1) d ps D w Y ?_)
  .let aT:∀b u,d b<*u->b≠s2⁻¹+1:=λb u e=>f' e w;let S:∀{b:Addr}{u:HO},d b<*u->upd d (s2⁻¹+1) (.lst (ps.map Prod.snd)) b<*u:=λe=>by rw[b_ (aT _ _ e)];show e
   refine g.step (g':=s'.gens) (d':=s'.drawn) (t':=s'.toks) (h':=s'.heap) (ch:=[s2⁻¹+1]) (λb M=>?_) (λb o _ _ _ e _=>e) (λb o _ _ _ e _=>(o.slots,e)) (λb o M e n=>?_) (λb o _ e=>(o,e)) (λb xs e=>S e) (λb o u e=>S e) (λb ps e=>(#[],by rw[S e];simp)) (λm hm=>hm) (λb u e=>?_) g.bare
   .rw [t5 M];show(.inr (s0 1),(E 1).2.2.symm,(E 1).1,(E 1).2.1)
   .rw [b_ (λz=>M (by simp[z]))];show n
   .by_cases M:b=s2⁻¹+1
    .rw [M,a_]at e;cases e;rw[M];refine(3,az.toList,c,by rw[eo];show v1,gD);rw[ix,Y.length_eq,List.length_zip,C,Nat.min_self];show kA (Nat.le_trans hz (!0))
    .rw [b_ M]at e;show(g.hok b u e).stay (λ_ _ _ z=>z) (λc z=>S z) λc xs z=>S z
  .let e:(ps.map Prod.fst).Pairwise (·≤·):=by
    rw[v2,pairwise_map];show pw.imp λh=>by simpa using h
   rwa [pairwise_map]at e
namespace ZP
def IJ(x:Str)(t:Tok)(y:Str)(a:Tok):vA (.tx x t) (.tx y a):=λxs ys=>.of_wp λprog w A R s h=>by
 let⟨hp,g,d,c,os⟩:=s;let⟨f,e,h⟩:=h;let b:=sub_zip;change wpAny _ _ (Builtin.«zip.__new__» ([.type "zip",.str x t,.str y a],[])) _ _ _
 wp_walk using aY,aY
 refine(0,3);simp only[bv]at h;simpa[size_push,Builtin.SmallTypes.ownedTupleFields,add_assoc]using h
end ZP
def lL{X:Cx}{j:St}(e:hA X b j f a):∀(d1 d2:Sd)(xs ys:List V),ZP.vA d1 d2->n=d1.vu->m=d2.vu->d1.has f xs->d2.has f ys->R (G3 d1 d2) f->wpAny (model X.prog X.w) X.A (call (.type "zip") [n,m]) (λv s2=>wpAny (model X.prog X.w) X.A (pyIter v) (KG X b j (.Tuple F E D) R) X.xe s2) X.xe a:=by
 rintro d1 d2 xs ys M rfl rfl x u q;let⟨t,p⟩:=jk e x;let⟨r,o⟩:=jk e u;refine ZP.wO M p o λg l i h B z y=>wpAny_pyIter_zip (s:={a with heap:=g}) l ?_;let C:ZipApart (a⁻¹+4) (a⁻¹+2) (a⁻¹+3) a⁻¹ (a⁻¹+1) (a⁻¹+2) (a⁻¹+2):=by
  constructor<;>show JL (!6)
 refine(_,[a⁻¹+4,a⁻¹+2,a⁻¹+3,a⁻¹,a⁻¹+1],_,G3 d1 d2,f,1,e.kept (t':=a.toks) y,bV d1 d2 _ _ _ _ _ C,
  (l,i,(7,h),B,z),λc k=>?_,q)
 let d:a⁻¹≤c:=by
  simp only[mem_cons,not_mem_nil,or_false]at k;rcases k with rfl|rfl|rfl|rfl|rfl
  .exact le_add_right _ _
  .exact le_add_right _ _
  .exact le_add_right _ _
  .exact Nat.le_refl _
  .exact le_add_right _ _
 show e.fpOk d (e.hok.fresh d)
abbrev Jf(t:TA):TI:=λσ H R=>t σ H λvs H1=>(∃x y,vs=[.str x,.str y]/\∀k1 k2,R (G3 (.tx x k1) (.tx y k2)) H1)\/∃a b xs ys,vs=[.ref a,.ref b]/\H1 a=some (.tup xs)/\H1 b=some (.tup ys)/\R (G3 (.tp a) (.tp b)) H1
def jp{A:List Expr}{o:Nat}{n:Pos}{p pos:Pos}(u:Gl X "zip")(t:X.mg "zip"=none)(v:PA X [a,b] ta)(r:(starEach [a,b] X.env=(false,eval a X.env,)::starEach [b] X.env)>>>4)(f:((backTo pos (starEach [b] X.env)).any (·.1)=false)>>>4):PI X (.Tuple A o n) (.Call (.Name "zip" p) [a,b] [] pos) (Jf ta):=by
 intro c s k H R I h;refine wpAny_Call_Name_kw (pj I u t boot_zip (PyProof.Rows.callWith_type1 (kl (v pos c s k H _ I h) λD E g=>?_) r f));let⟨vs,F,j,i,hz⟩:=g;rcases hz with⟨x,y,rfl,q⟩|⟨a,b,xs,ys,rfl,z,w,q⟩
 .obtain ⟨m,l,rfl,⟨e,rfl⟩,d,rfl⟩:=bn i;show lL j (.tx x e) (.tx y d) _ _ (ZP.IJ x e y d) rfl rfl rfl rfl (q e d)
 .obtain ⟨m,l,rfl,C,B⟩:=bn i;cases C;cases B;show lL j (.tp a) (.tp b) _ _ (ZP.II a b) rfl rfl z w q
def eO{K:Frag}{xs zs:List V}{r:St}(v:∀R:List V->Hp->Prop,R [.ref c,.ref d] H->t r H R)(j:H c<*.tup xs)(g:H d<*.tup zs)(B:xs.length=zs.length)(e:Addr->Nat->List V->Hp->Prop)(hz:xs.length≤sizeLine)(h0:∀D,H D=none->e D 0 [] (L2.upd H D (.lst [])))(w:∀(D:Addr)(i:Nat)(x z:V)(ys:List V)(H' f:Hp)(m:VK),H D=none->xs[i]?<*x->zs[i]?<*z->b' H H'->H' D<*.lst ys->e D i ys H'->b' H' f->
   (∀y o,o D<*.lst ys->b' H (L2.upd o D (.lst (ys++[y])))->e D (i+1) (ys++[y]) (L2.upd o D (.lst (ys++[y])))->m y o)->u (some x::some z::r) f m)(A:∀D ys H',H D=none->b' H H'->H' D<*.lst ys->e D xs.length ys H'->Q (.ref D) H'):JZ K (Jf t) tAlways u r H Q:=by
 refine v _ (.inr (c,d,xs,zs,1,j,g,3));refine Li (K:=K) (J:=G3 (.tp c) (.tp d)) (n:=xs.length) (λi a b=>xs[i]?=some a/\zs[i]?<*b) e hz (λi q s h=>(xs,zs,xs[i],zs[i]'(!6),s _ _ j,s _ _ g,hH h,hH _)) ?_ (λq s=>(xs,zs,s _ _ j,s _ _ g,B,1)) h0 ?_ A
 .rintro i q x f s h⟨p,P,O,a,b,l,k,N,M,L,I,G⟩;let l:q c<*.tup P:=l;let k:q d<*.tup O:=k;rw[s _ _ j]at l;rw[s _ _ g]at k;cases l;cases k;show(p,a,b,L,(N,M),I,G)
 .rintro D i a b ys H' f m R2 F Y⟨E,C⟩X W U T S Z;show h_ (w D i a b ys H' f m F E C X W U T S)
end L2
namespace L2
open PySem.Spec PyProof.Rows RA
def ld{K:Frag}{Pf:LN->LL->Hp->Prop}(j:∀R:VK,(∀l b ws H,pZ H l b ws->b.length≤sizeLine->Pf b ws H->R (.ref l) H)->s q L R)(k:∀b ws H D H',ws.length=b.length->Pf b ws H->H D=none->b' H H'->H' D<*.lst (d_ ws)->Q (.ref D) H'):JZ K (IZ s) tAlways (bP 1) q L Q:=by
 refine j _ λl b ws H G hz u=>?_;let⟨xs,p,h,d,n⟩:=G.at
 refine(l,_,xs,1,.inl rfl,p,λJ v D o=>(λi m ys f=>m=xs.length-i/\i≤xs.length/\b' H f/\f D=some (.lst ys)/\ys=d_ (ws.take i),(0,zero_le _,b'.upd o,a_,1),3));rintro i m ys f⟨rfl,F,g,c,rfl⟩;let⟨A,z,y⟩:=v f (g _ _ p);refine(c,3);by_cases a:i<xs.length
 .refine .inr (A i a,by rw[d_,ix,length_take];lia,λx I B=>?_);let⟨rfl,C⟩:=z i x I a B;let⟨t,r,w,rfl,M,hw,E⟩:=n i x C;refine(t,8,nj.of (g _ _ E),h_ (0,c,_,sub_succ_lt_self _ _ a,1,a,b'.set g o,3));rw[FG hw,d_,d_,map_append];show(a_,1)
 .let e:i=xs.length:=le_antisymm F (le_of_not_lt a);subst e;refine .inl (y,k b ws H D f d u o g ?_);rw[c,h,<-d,take_length]
end L2
namespace RA
open L2
section
variable{L:LN}{W R:LL}{B:List Bool}{ks ws:LL}{s:LN}
def jm(L:LN)(W:LL):∀(w:LN)(s:LN),aA (gA W) L s w=s.map λr=>run L W r w
 |[],s=>(List.map_id' s).symm
 |c::w,s=>by
  change aA (gA W) L (gA W s (L.idxOf c)) w=_;rw[jm L W w];unfold gA;rw[map_map];rfl
def oG(r:L.Nodup)(k:Bf (gA W) L s ks ws ks.length 0)(g:FH (gA W) L.length ks R)(x:R.length=ks.length)(h:∀(i:Nat)(a:LN),R[i]?<*a->0∉a)(l:∀c∈u,c∈L)(q:u≠[]):aA (gA W) L s u≠s:=by
 intro e;rcases eq_nil_or_concat u with rfl|⟨v,c,rfl⟩
 .exact q rfl
 rw[concat_eq_append]at e l;let w:c∈L:=l c (!1);let⟨j,b,p,_,_⟩:=k.told r v _ rfl λd t=>l d (mem_append_left _ t);let m:=(j0 p).1;obtain⟨a,f⟩:∃a,R[j]?<*a:=(R[j]'(by rw[x];show m),hH _);let⟨l1,l2⟩:=g.row j a _ f p;let o:L.idxOf c<a.length:=by rw[l1];show idxOf_lt_length_of_mem w
 let n:=l2 (L.idxOf c) _ (hH o);let y:gA W (aA (gA W) L s v) (L.idxOf c)=s:=by
  rw[<-Ko (gA W),e]
 rw[y]at n;let h0:=(List.getElem?_inj (by show(j0 k.t0).1) k.nd).mp (k.t0.trans n.symm);show h j a f (by rw[h0];show getElem_mem o)
def li(l:L.Nodup)(j:Bf (gA W) L s ks ws ks.length 0)(d:FH (gA W) L.length ks R)(p:R.length=ks.length){i q:Nat}(m:ws[i]?<*u)(a:R[i]?<*e)(f:e[q]?<*0):(∀c∈u++[L.getD q 0],c∈L)/\aA (gA W) L s (u++[L.getD q 0])=s:=by
 let n:=(j0 a).1;obtain⟨k,g⟩:∃k,ks[i]?<*k:=(ks[i]'(by rw[<-p];show n),hH _);let⟨l1,l2⟩:=d.row i e k a g;let b:q<L.length:=by rw[<-l1];show(j0 f).1
 let⟨t,r⟩:=j.lead i k u g m;let h0:=l2 q 0 f;rw[j.t0]at h0;let h:L.getD q 0=L[q]:=by rw[mu,hH b];rfl
 refine(GV t λc o=>by rw[t5 o,h];show getElem_mem b,3);rw[Ko,r,h,l.idxOf_getElem q b,<-Option.some.inj h0]
def ue(g:hF L W B)(S:W.length≤8)(M:x<W.length)(I:y<W.length)(H:x≠y)(h:Bf (gA W) L [x,y] ks ws ks.length 0)(f:FH (gA W) L.length ks R)(C:R.length=ks.length){i q:Nat}(m:ws[i]?<*u)(a:R[i]?<*l)(O:l[q]?<*0):(∀c∈u++[L.getD q 0],c∈L)/\run L W x (u++[L.getD q 0])=x/\run L W y (u++[L.getD q 0])=y/\(u++[L.getD q 0]).length≤60:=by
 let w:=g.lt.nd;let⟨E,e⟩:=li w h f C m a O;rw[jm]at e;let t:run L W x (u++[L.getD q 0])=x:=(List.cons.inj e).1;let p:run L W y (u++[L.getD q 0])=y:=(List.cons.inj (List.cons.inj e).2).1;let U:∀c∈u,c∈L:=λc Q=>E c (mem_append_left _ Q);refine(E,t,p,3);have:=mQ g S M I U (λz=>H ?_) λv N G F=>?_
 .rw [j_];change u.length+1≤60;omega
 .rw [uS]at t p;rw[<-t,<-p,z]
 .let P:=(j0 a).1;obtain⟨k,n⟩:∃k,ks[i]?<*k:=(ks[i]'(by rw[<-C];show P),hH _);let⟨_,D⟩:=h.lead i k u n m;let⟨j,b,o,A,d⟩:=h.told w v _ rfl N;rw[jm]at o D;let T:[x,y].map (λr=>run L W r v)=k:=by
   rw[<-D];show[run L W x v,run L W y v]=[run L W x u,run L W y u];rw[G,F]
  rw[T]at o;have:=(List.getElem?_inj (by show(j0 n).1) h.nd).mp (n.trans o.symm);rw[<-this,m]at A;cases A;refine le_of_not_lt λz=>?_;rw[Jb z]at d;cases d
end
def pM(v:vN L):∀(n:Nat)(a b:LN),a.length=n->(∀c∈a,c∈L)->(∀c∈b,c∈L)->o4 L a b=true->val L 0 a<val L 0 b:=by
 intro n;induction n with
 |zero=>
  intro a b d i f e;obtain rfl:a=[]:=length_eq_zero_iff.mp d;rcases eq_nil_or_concat b with rfl|⟨p,c,rfl⟩
  .rw [eG]at e;cases e
  .rw [concat_eq_append]at f⊢;show(lP v (f c (!1))).1
 |succ n s=>
  intro a b d i f e;rcases eq_nil_or_concat b with rfl|⟨q,y,rfl⟩
  .rw [eG]at e;cases e
  rcases eq_nil_or_concat a with rfl|⟨p,x,rfl⟩
  .cases d
  rw[concat_eq_append]at i f e d⊢;rw[concat_eq_append]at e⊢;let hp:p.length=n:=by rw[j_]at d;show Nat.succ.inj d
  let u:x∈L:=i x (!1);let t:y∈L:=f y (!1);let r:=idxOf_lt_length_of_mem u;let o:=idxOf_lt_length_of_mem t;let m:∀c∈p,c∈L:=λc j=>i c (mem_append_left _ j);let l:∀c∈q,c∈L:=λc j=>f c (mem_append_left _ j);let g:o4 L (q++[y]) (p++[x])=true->False:=λz=>by rw[Kn e]at z;cases z
  rw[KP,KP];rcases K3 m l with z|rfl|z
  .let h:=s p q hp m l z;let k:(val L 0 p+1)*(L.length:Int)≤val L 0 q*(L.length:Int):=Int.mul_le_mul_of_nonneg_right h (Int.natCast_nonneg _);rw[Int.add_mul,Int.one_mul]at k;lia
  .rcases lt_trichotomy (L.idxOf x) (L.idxOf y)with z|z|z
   .lia
   .have:x=y:=by
     let w:=getElem_idxOf r;let k:=getElem_idxOf o;rw[<-w,<-k];simp only[z]
    rw[this]at e g;show(g e).elim
   .exact (g (bI z)).elim
  .exact (g (bH y x z)).elim
def Nz(n:vN L){e:LL}(j:∀u∈e,∀c∈u,c∈L)(m:e.Nodup)(h:e.Pairwise λa b=>val L 0 a≤val L 0 b)(i:Nat)(a b:LN)(d:e[i]?<*a)(f:e[i+1]?<*b):o4 L a b=true:=by
 let g:=pairwise_iff_getElem.mp h i (i+1) (j0 d).1 (j0 f).1 (lt_succ_self i);rw[(j0 d).2,(j0 f).2]at g;let l:=j a (pa d);let k:=j b (pa f);rcases K3 l k with z|z|z
 .exact z
 .rw [z]at d;have:=(List.getElem?_inj (by show(j0 d).1) m).mp (d.trans f.symm);lia
 .have:=pM n _ b a rfl k l z;lia
def cm{l:LL}(h:l.Pairwise λa b=>o4 L a b=true):l.Nodup:=h.imp λ{a b}z e=>by
 rw[e]at z;have:=Kn z;rw[z]at this;cases this
def b9{l:LL}(h:l.Nodup):(l.map reverse).Nodup:=List.Pairwise.map _ (λa b z e=>z (List.reverse_inj.mp e)) h
end RA
namespace L2
section
variable{X:Cx}{a b e e1 e2 e3 e4:Expr}{ta tb te t1 t2 t3 t4:TE}{pos p:Pos}{o:Expr}{x:Str}
def kb(h:PE X e te)(c:(starEach [e] X.env=(false,eval e X.env,)::starEach [] X.env)>>>4):PA X [e] (uA te tNil):=GX h wL c
def o5(f:PE X e1 t1)(d:PE X e2 t2)(c:(starEach [e1,e2] X.env=(false,eval e1 X.env,)::starEach [e2] X.env)>>>4)(s2:(starEach [e2] X.env=(false,eval e2 X.env,)::starEach [] X.env)>>>4):PA X [e1,e2] (uA t1 (uA t2 tNil)):=GX f (kb d s2) c
def s_(h:PE X e1 t1)(g:PE X e2 t2)(f:PE X e3 t3)(d:(starEach [e1,e2,e3] X.env=(false,eval e1 X.env,)::starEach [e2,e3] X.env)>>>4)(s2:(starEach [e2,e3] X.env=(false,eval e2 X.env,)::starEach [e3] X.env)>>>4)(c:(starEach [e3] X.env=(false,eval e3 X.env,)::starEach [] X.env)>>>4):PA X [e1,e2,e3] (uA t1 (uA t2 (uA t3 tNil))):=GX h (o5 g f s2 c) d
def ve(f:PE X a ta)(d:PE X b tb)(c:eT b>>>7):PE X (.Subscript a b pos) (Hh (kj X.K) ta tb):=u_ em f d c
def vG(f:PE X a ta)(d:PE X b tb)(c:eT b>>>7):PE X (.Subscript a b pos) (Hh (oZ X.K) ta tb):=u_ eA f d c
def ol(i:Nat){k:Int}{j}{c:Pos}(h:(X.N[i]?<*x)>>>4)(f:J8 X.env.scope x>>>8)(g:((x==("__debug__":Str))=false)>>>0)(d:((x==("__classdict__":Str))=false)>>>0):PE X (.Subscript (.Name x p) (.Constant (.int k) j c) pos) (Hh (kj X.K) (bP i) (tC (.int k))):=u_ em (pv i h f g d) e_ (λ_ _=>rfl)
def wI(f:X.mg "len"=none)(h:PE X e te)(g:(Gl X "len")>>>4)(d:(starEach [e] X.env=(false,eval e X.env,)::starEach [] X.env)>>>4)(c:((backTo pos (starEach [] X.env)).any (·.1)=false)>>>4):PE X (.Call (.Name "len" p) [e] [] pos) (vn (λxs H Q=>∃p ys,xs=[.ref p]/\(i4 X.K H p ys\/nj X.K H p ys)/\Q (.int ys.length) H) (uA te tNil)):=Gr JJ g f boot_len (kb h d) (!0) (!0) d c
def wK(f:X.mg "len"=none)(h:PE X e te)(g:(Gl X "len")>>>4)(d:(starEach [e] X.env=(false,eval e X.env,)::starEach [] X.env)>>>4)(c:((backTo pos (starEach [] X.env)).any (·.1)=false)>>>4):PE X (.Call (.Name "len" p) [e] [] pos) (vn (λxs H Q=>∃z,xs=[.str z]/\z.length≤sizeLine/\Q (.int z.length) H) (uA te tNil)):=Gr Nb g f boot_len (kb h d) (!0) (!0) d c
def J2(d:PE X a ta)(c:PE X b tb):PT X (.Compare a [.NotEq] [b] pos) (jd (Hh rNe ta tb)):=uZ ss d c (uV _)
def Jg(d:PE X a ta)(c:PE X b tb):PT X (.Compare a [.Eq] [b] pos) (jd (Hh rEq ta tb)):=uZ Ik d c (uV _)
def j5(i:Nat){c:Pos}(k:X.N.Nodup)(j:PE X e te)(g:(X.N[i]?<*x)>>>4)(d:Hy X.env.scope x>>>8)(f:(swapsWith e (some (.Name x c)) pos.line X.env=pure false)>>>4)(h:(X.fn x=true\/X.env.scope.names.lookup x<*.local)>>>8):PS X (.Assign [.Name x c] e pos) (ar te (uY i)):=qC k g d j f h
def uB(i:Nat)(g:X.N.Nodup)(d:(X.N[i]?<*x)>>>4)(c:Hy X.env.scope x>>>8)(f:(X.fn x=true\/X.env.scope.names.lookup x<*.local)>>>8):PG X (.Name x pos) (uY i):=KF g d c f
def v_{d c:Pos}(g:PE X o t1)(h:PE X e te)(k:(attributeBase o "append" X.env (eval o X.env)=eval o X.env)>>>4)(j:(((backTo c (starEach [e] X.env)).all (λx=>!x.1)&&(backToKw c (keywordEach [] X.env)).all (λx=>x.1.isSome)&&decide ([e].length+([]:List Keyword).length+(if ([]:List Keyword).isEmpty then 0 else 1)<30))=true)>>>4)(i:((d.endLine==c.line)=true)>>>4)(f:(starEach [e] X.env=(false,eval e X.env,)::starEach [] X.env)>>>4)(hp:((backTo c (starEach [] X.env)).any (·.1)=false)>>>4):PE X (.Call (.Attribute o "append" d) [e] [] c) (wg X.K "list" rAppend t1 (uA te tNil)):=Hl plainAttrs_list PySem.F.slot_list_append PySem.F.type_list_append cE g (kb h f) k j i f hp
def Lq{c:Pos}(j:X.mg "isinstance"=none)(k:X.mg n=none)(i:bootBuiltins n<*.type T)(h:PE X e te)(m:(Gl X "isinstance")>>>4)(l:Gl X n>>>4)(g:(n≠"__name__")>>>0)(f:((n==("__debug__":Str))=false)>>>0)(d:(starEach [e,.Name n c] X.env=(false,eval e X.env,)::starEach [.Name n c] X.env)>>>4)(s2:(starEach [.Name n c] X.env=(false,eval (.Name n c) X.env,)::starEach [] X.env)>>>4)(hp:((backTo pos (starEach [.Name n c] X.env)).any (·.1)=false)>>>4):PE X (.Call (.Name "isinstance" p) [e,.Name n c] [] pos) (vn (λxs H Q=>∃x t b,xs=[x,.ty T]/\av X.K H x t/\kitOne X.K t (.type T)=some b/\Q (.bl b) H) (uA te (uA (tC (.ty T)) tNil))):=Gr (oB (T:=T)) m j boot_isinstance (o5 h (KC (v:=.ty T) l k i rfl g f) d s2) (!0) (!0) d hp
section
variable{K:Frag}{H:Hp}{Q:VK}{c:Addr}{xs:List V}{v x0 x1 x2 x3:V}{i:Int}{l:List V}
def uX(d:H c<*.tup xs)(f:ux xs i<*v)(q:Q v H):kj K (.ref c) (.int i) H Q:=(c,_,2,nj.of d,f,q)
def uN(d:H c<*.lst xs)(f:ux xs i<*v)(q:Q v H):oZ K (.ref c) (.int i) H Q:=(c,_,2,i4.of d,f,q)
def n_(g:H c<*.tup xs)(h:ux xs i<*v)(q:Q v H)(f:(d[n]?<*some (.ref c))>>>4):Hh (kj K) (bP n) (tC (.int i)) d H Q:=(_,f,c,_,2,nj.of g,h,q)
def au:ux (x0::l) 0<*x0:=wu (j:=0) rfl
def ao:ux (x0::x1::l) 1<*x1:=wu (j:=1) rfl
def aC:ux (x0::x1::x2::l) 2<*x2:=wu (j:=2) rfl
def sY:ux (x0::x1::x2::x3::l) 3<*x3:=wu (j:=3) rfl
end
end
def pp{N P:List Str}{sc:Scope}(a:(sc.kind=.function)>>>4)(b:(sc.isCoroutine=false)>>>4)(c:(sc.isGenerator=false)>>>4)(d:N.Nodup>>>3)(e:(N.take P.length=P)>>>4)(f:(∀x∈P,sc.names.lookup x<*.local\/sc.names.lookup x<*.cell)>>>3)(g:(∀y∈sc.names,y.2≠.free)>>>3):oj N P sc:=(a,b,c,d,e,f,g)
abbrev rB(K:Frag)(x:Str)(st:Stmt)(f:Addr):Prop:=∃fd,n' K x x st f fd
def G7(e:K.lookup f<*(c,b,.func d,a)):keepIn K (.ref f)=true:=by
 unfold keepIn;dsimp only;rw[show List.lookup f K=_ from e]
def Ji{kV doc pm ct:Value}(l:K.lookup f<*(e,d,.func (fnOf x x (r_ st) (pf st) (i_ st) .none kV doc pm an (.ref b) ct),a))(c:codeIn K (.ref b) x=true):rB K x st f:=(_,JK l c (G7 l))
def L7{P:Program}{w:World}{K:Frag}{mg:Str->Option Value}{base h:Heap}(X:K.In h)(G:h.Ns mainGlobals mg){x:Str}{k:Nat}{ps:List Str}{d:Sp}{f:Addr}{c:FuncData}{st:Stmt}(a:nsIn K mainGlobals x<*some (.ref f))(F:n' K x x st f c)(b:vC K c ps [])(o:aa P w K mg base kd k f c ps d):Df P w K mg base x k ps d:=(f,c,mg_of X G a,F.kp,b,o)
def IK{b:Type}{l:List b}(h:l.length=1):∃a,l=[a]:=List.length_eq_one_iff.mp h
def L8{c:Type}{l:List c}(h:l.length=2):∃a b,l=[a,b]:=by
 cases l with
 |nil=>cases h
 |cons a t=>let⟨b,rfl⟩:=IK (Nat.succ.inj h);show(a,b,1)
def L9{d:Type}{l:List d}(h:l.length=3):∃a b c,l=[a,b,c]:=by
 cases l with
 |nil=>cases h
 |cons a t=>let⟨b,c,rfl⟩:=L8 (Nat.succ.inj h);show(a,b,c,1)
def L_{e:Type}{l:List e}(h:l.length=4):∃a b c d,l=[a,b,c,d]:=by
 cases l with
 |nil=>cases h
 |cons a t=>let⟨b,c,d,rfl⟩:=L9 (Nat.succ.inj h);show(a,b,c,d,1)
def NA{f:Type}{l:List f}(h:l.length=5):∃a b c d e,l=[a,b,c,d,e]:=by
 cases l with
 |nil=>cases h
 |cons a t=>let⟨b,c,d,e,rfl⟩:=L_ (Nat.succ.inj h);show(a,b,c,d,e,1)
def Gx(F:n' K x x st f c)(h:∀(kV doc pm:Value)(an:Option Addr)(cdv ct a:Value),bindArgs (fnOf x x (r_ st) (pf st) (i_ st) .none kV doc pm an cdv ct) ([a],[])=pure ([q0].zip [a])):vC K c [q0] []:=F.binds λ_ _ _ _ _ _ d b=>by let⟨_,rfl⟩:=IK b;show h _ _ _ _ _ _ _
def wc(F:n' K x x st f e)(h:∀(kV doc pm:Value)(an:Option Addr)(cdv ct b a:Value),bindArgs (fnOf x x (r_ st) (pf st) (i_ st) .none kV doc pm an cdv ct) ([b,a],[])=pure ([q0,c].zip [b,a])):vC K e [q0,c] []:=F.binds λ_ _ _ _ _ _ g d=>by let⟨_,_,rfl⟩:=L8 d;show h _ _ _ _ _ _ _ _
def GI(F:n' K x x st f i)(h:∀(kV doc pm:Value)(an:Option Addr)(cdv ct c b a:Value),bindArgs (fnOf x x (r_ st) (pf st) (i_ st) .none kV doc pm an cdv ct) ([c,b,a],[])=pure ([q0,e,d].zip [c,b,a])):vC K i [q0,e,d] []:=F.binds λ_ _ _ _ _ _ j g=>by let⟨_,_,_,rfl⟩:=L9 g;show h _ _ _ _ _ _ _ _ _
def NX(F:n' K x x st f k)(h:∀(kV doc pm:Value)(an:Option Addr)(cdv ct d c b a:Value),bindArgs (fnOf x x (r_ st) (pf st) (i_ st) .none kV doc pm an cdv ct) ([d,c,b,a],[])=pure ([q0,i,g,e].zip [d,c,b,a])):vC K k [q0,i,g,e] []:=F.binds λ_ _ _ _ _ _ l j=>by let⟨_,_,_,_,rfl⟩:=L_ j;show h _ _ _ _ _ _ _ _ _ _
def NY(F:n' K x x st f m)(h:∀(kV doc pm:Value)(an:Option Addr)(cdv ct e d c b a:Value),bindArgs (fnOf x x (r_ st) (pf st) (i_ st) .none kV doc pm an cdv ct) ([e,d,c,b,a],[])=pure ([q0,k,j,i,g].zip [e,d,c,b,a])):vC K m [q0,k,j,i,g] []:=F.binds λ_ _ _ _ _ _ n l=>by let⟨_,_,_,_,_,rfl⟩:=NA l;show h _ _ _ _ _ _ _ _ _ _ _
end L2
namespace L2
open PySem.Spec PyProof.Rows
def n'.okA{P:Program}{w:World}{K:Frag}{st:Stmt}(F:n' K x qual st f d)(S:oj N ps (i_ st))(b:∀(cdv:Value)(A:Around)(a:List Env)(s:Shared)(H:Hp)(vs:List V)(Q:VK)(E:XK),ag k (A.deeper (envOfC qual (i_ st) s⁻¹ f cdv))->c vs H Q E->
   ∃t,wo (eM kd P w K mg base N qual (i_ st) f cdv A a s H E).nox (pf st) t/\t {nx:=λ_ H'=>Q .non H',rt:=Q} (start N vs) H)(len:∀vs H Q E,c vs H Q E->vs.length=ps.length:=by intro _ _ _ _ h;first|(cases h;subst_vars;rfl)|((repeat let⟨_,h⟩:=h);subst_vars;rfl)):aa P w K mg base kd (k+1) f d ps c:=F.ok S len b
abbrev sg(K:Frag)(x:Str)(st:Stmt):Prop:=∃f,nsIn K mainGlobals x=some (some (.ref f))/\rB K x st f
section
variable{X:Cx}{elt iter tg:Expr}{x y:Str}{px py pt pos:Pos}{kt:Nat}{sc:Scope}{wi:TI}{te:TE}{tt:TT}{ifs:List Expr}
end
end L2
section
seal L2.PE L2.PS L2.wo L2.PA L2.PI L2.PG L2.PT L2.Iu L2.KE L2.PW L2.PK
namespace K52
open L2 RA
abbrev p_(i:Nat):Stmt:=PySem.Challenge.pw_roomalgebra_k52_by_last_signs.main.body.getD i (.Pass ((0),(0),(0),(0)))
instance Q0:Str:="machine"
instance Q3:Str:="letters"
instance Q4:Str:="rooms"
instance Q5:Str:="things"
instance Q6:Str:="words"
instance Q7:Str:="is_marked"
instance Q8:Str:="walk"
instance Q9:Str:="start"
instance Z0:Str:="goals_of"
instance Z1:Str:="ways"
instance Z2:Str:="marks"
instance Z3:Str:="word"
instance Z4:Str:="room"
instance vU:Stmt:=p_ 26
instance G8:Stmt:=p_ 27
instance L':Stmt:=p_ 29
instance qA:Stmt:=p_ 25
instance J3:Stmt:=pH qA 0
structure Jx(K:Frag)(mg:Str->Option Value)(cW fI:Addr)(fdI:FuncData):Prop where
 kW:mg "Walk"<*.ref cW
 cls:HX K cW
 mkW:Mk K cW fI
 na1:vJ K cW Q3
 na2:vJ K cW Q5
 na3:vJ K cW Q6
 na4:vJ K cW Z1
 na5:vJ K cW Z2
 ini:n' K "__init__" "Walk.__init__" J3 fI fdI
def mt:oj ["self",Q3,Q9] ["self",Q3,Q9] (i_ J3):=pp
def mW(p:Jx K mg l fI fdI):aa P w K mg base kd 1 fI fdI ["self",Q3,Q9] (ml l):=by
 refine p.ini.ok mt (λvs H Q E h=>?_) (λcdv A O s H vs Q E hr h=>?_)
 .obtain ⟨x,dx,L,v,rfl,_⟩:=h;rfl
 .obtain ⟨x,dx,L,v,rfl,W,q⟩:=h;refine(_,(h6 (bq (f:=Q3) (pv 0) (pv 1) rfl) (h6 (bq (f:=Q5) (pv 0) (uT (kb (pv 2))) rfl) (h6 (bq (f:=Q6) (pv 0) (uT (kb we)) rfl) (h6 (bq (f:=Z1) (pv 0) (uT wL) rfl) (iy (bq (f:=Z2) (pv 0) (uT wL) rfl)))))),3);refine(4,x,l,dx,0,W,p.cls,p.na1,!0,3);refine(0,kA (by change 1≤16777216;decide),λt D=>(0,x,l,dx,0,n7 a_ D,p.cls,p.na2,lt_of_le_of_lt (le_of_eq (show _=1 from rfl)) (!0),3));let c:t≠x:=λz=>by rw[z,a_]at D;cases D
  refine(kA (by change 1≤16777216;decide),λi d=>(0,x,l,dx,0,n7 a_ d,p.cls,p.na3,lt_of_le_of_lt (le_of_eq (show _=2 from rfl)) (!0),3));let u:i≠x:=λz=>by rw[z,a_]at d;cases d
  refine(zero_le _,λy r=>(0,x,l,dx,0,n7 a_ r,p.cls,p.na4,lt_of_le_of_lt (le_of_eq (show _=3 from rfl)) (!0),3));let B:y≠x:=λz=>by rw[z,a_]at r;cases r
  refine(zero_le _,λm k=>(0,x,l,dx,0,n7 a_ k,p.cls,p.na5,lt_of_le_of_lt (le_of_eq (show _=4 from rfl)) (!0),3));let C:m≠x:=λz=>by rw[z,a_]at k;cases k
  let j:t≠i:=λz=>by rw[<-z,b_ c,a_]at d;cases d
  let ty:t≠y:=λz=>by rw[<-z,b_ c,b_ j,b_ c,a_]at r;cases r
  let N:t≠m:=λz=>by rw[<-z,b_ c,b_ ty,b_ c,b_ j,b_ c,a_]at k;cases k
  let G:i≠y:=λz=>by rw[<-z,b_ u,a_]at r;cases r
  let M:i≠m:=λz=>by rw[<-z,b_ u,b_ G,b_ u,a_]at k;cases k
  let I:y≠m:=λz=>by rw[<-z,b_ B,a_]at k;cases k
  let R:∀b,b≠x->b≠m->b≠y->b≠i->b≠t->H b=upd (upd (upd (upd (upd (upd (upd (upd (upd H x (.ins l dx (aj Q3 (.str (tx L)) []))) t (.lst [v])) x (.ins l dx (aj Q5 (.ref t) (aj Q3 (.str (tx L)) [])))) i (.lst [.str (tx [])])) x (.ins l dx (aj Q6 (.ref i) (aj Q5 (.ref t) (aj Q3 (.str (tx L)) []))))) y (.lst [])) x (.ins l dx (aj Z1 (.ref y) (aj Q6 (.ref i) (aj Q5 (.ref t) (aj Q3 (.str (tx L)) [])))))) m (.lst [])) x (.ins l dx (aj Z2 (.ref m) (aj Z1 (.ref y) (aj Q6 (.ref i) (aj Q5 (.ref t) (aj Q3 (.str (tx L)) []))))))  b:=λb F h2 h3 Z Y=>by
   rw[b_ F,b_ h2,b_ F,b_ h3,b_ F,b_ Z,b_ F,b_ Y,b_ F]
  let g:∀{b:Addr}{o:HO},H b<*o->∀{a:Addr},H a=none->b≠a:=λ{b o}e{a}n=>f' e n;let U:H t=none:=by rw[b_ c]at D;show D
  let T:H i=none:=by rw[b_ u,b_ (Ne.symm j),b_ u]at d;show d
  let S:H y=none:=by rw[b_ B,b_ (Ne.symm G),b_ B,b_ (Ne.symm ty),b_ B]at r;show r
  let fm:H m=none:=by rw[b_ C,b_ (Ne.symm I),b_ C,b_ (Ne.symm M),b_ C,b_ (Ne.symm N),b_ C]at k;show k
  refine q t i y m _ j ty N G M I U T S fm (λb o X e=>?_) ⟨(dx,a_)⟩ ?_ ?_ ?_ ?_
  .rw [<-e];show(R b X (g e fm) (g e S) (g e T) (g e U)).symm
  .rw [b_ c,b_ N,b_ c,b_ ty,b_ c,b_ j,b_ c,a_]
  .rw [b_ u,b_ M,b_ u,b_ G,b_ u,a_,<-bG]
  .rw [b_ B,b_ I,b_ B,a_]
  .rw [b_ C,a_]
def b_K:oj [Q3,Q9,Z0,Q7,"most",Q8,Q4,Z4,"goals","row","letter","goal"] [Q3,Q9,Z0,Q7,"most"] (i_ vU):=pp
def Ma{P:Program}{w:World}{K:Frag}{mg:Str->Option Value}{base:Heap}{Y fI f fg fm:Addr}(F:lE K "walked" "walked" vU f fd)(O:Jx K mg Y fI fdI)(as:mg "len"=none)(cT:mg "zip"=none)(Fg:aa P w K mg base kd 4 fg fdg [gx] (K_ Z L g U aZ))(Fm:aa P w K mg base kd 4 fm fdm [mx] (dk Z mk U aZ))(ea:base.get? fg<*og)(d6:∃ch,og.data=.func ch)(d5:base.get? fm<*om)(d4:∃ch,om.data=.func ch)(bg:vC K fdg [gx] [])(bm:vC K fdm [mx] [])(b0:∀H H':Hp,b' H H'->aZ H->aZ H'):aa P w K mg base kd 5 f fd [Q3,Q9,Z0,Q7,"most"] (K' Y Z L g mk U aZ fg fm):=by
 let⟨oc,od,fb,sl⟩:=og;let⟨ch,rfl⟩:=d6;let⟨e8,e7,e0,e6⟩:=om;let⟨eN,rfl⟩:=d4;refine F.ok b_K (λvs H Q E h=>?_) (λcdv A d3 s H vs Q E hr h=>?_)
 .obtain ⟨s,sv,most,rfl,_⟩:=h;rfl
 .obtain ⟨s0,sv,most,rfl,hL,hsv,hsU,ep,hU,hR0,q⟩:=h;let eg:=hr.mono (j:=2) (!0);refine(_,(h6 (j5 5 b_K.nd (pc O.mkW (mW O) eg rfl O.kW (O.ini.binds (ps:=["self",Q3,Q9]) (λ_ _ _ _ _ _ us hl=>by let⟨_,_,_,rfl⟩:=L9 hl;rfl)) .nil ci (o5 (pv 0) (pv 1)))) (IV (j5 6 b_K.nd (o8 hr.units (pv 1) e_)) (h6 (JF PassesOwn.never (uZ Il (Gr JJ (!4) as boot_len (kb (vm (f:=Z1) (pv 5) rfl))) (Gr JJ (!4) as boot_len (kb (vm (f:=Q5) (pv 5) rfl))) (uV _)) (IV (ri ((dH (uZ dW (pv 4) JE (uV _)) (KD (uZ cA (Gr JJ (!4) as boot_len (kb (vm (f:=Q5) (pv 5) rfl))) (pv 4) (uV _)))).pt) (iy (fJ)) (sT)) (h6 (j5 7 b_K.nd (Gr JJ (!4) as boot_len (kb (vm (f:=Z1) (pv 5) rfl)))) (h6 (j5 8 b_K.nd (fO Fg hr ea bg (pv 2) (kb (vG (vm (f:=Q5) (pv 5) rfl) (pv 7))))) (h6 (j5 9 b_K.nd (uT wL)) (h6 (uL PassesOwn.never rfl (dN rfl cT (o5 (pv 0) (pv 8))) (br rfl (HS (uB 10 b_K.nd) (HS (uB 11 b_K.nd) J_))) (IV (ri (uZ (ku hr.units) (pv 11) (pv 6) (by with_unfolding_all rfl)) (h6 (GA (Gr JJ (!4) as boot_len (kb (vm (f:=Q5) (pv 5) rfl))) (Gz (pv 6) (pv 11) (kf hr.units))) (h6 (uU (v_ (vm (f:=Q5) (pv 5) rfl) (pv 11))) (iy (uU (v_ (vm (f:=Q6) (pv 5) rfl) (mB Im (vG (vm (f:=Q6) (pv 5) rfl) (pv 7)) (pv 10))))))) (sT)) (iy (uU (v_ (pv 9) (u_ (nI hr.units) (pv 6) (pv 11) (λ_ _=>rfl))))))) (h6 (uU (v_ (vm (f:=Z1) (pv 5) rfl) (pv 9))) (iy (uU (v_ (vm (f:=Z2) (pv 5) rfl) (fO Fm hr d5 bm (pv 3) (kb (vG (vm (f:=Q5) (pv 5) rfl) (pv 7)))))))))))))) (iy (k_ (pv 5)))))),3);let tn:∀{b:Addr}{o:HO},H b<*o->∀{c:Addr},H c=none->b≠c:=λ{b o}e{c}n=>f' e n;refine(4,λD dx cu ds fa=>(D,dx,L,sv,1,a_,λt wd y md H1 a1 a2 a3 a4 a5 a6 ft fw fy eC kp hW ht c1 hy dc=>(1,3)));let fr:∀{b:Addr},upd (upd H dx (.own D)) D (.ins Y dx []) b=none->H b=none:=λ{b}e=>by
   by_cases I:b=D
   .rw [I];show cu
   .rw [b_ I]at e;by_cases h2:b=dx
    .rw [h2];show ds
    .rw [b_ h2]at e;show e
  let s1:b' H H1:=λb o e=>kp b o (tn e cu) (by rw[b_ (tn e cu),b_ (tn e ds)];show e);let ai:uv Z H1 s0 sv:=hsv.same λb xs e=>s1 _ _ e;let aT:∀(d:Addr)(H2:Hp),H1 d=none->tf P w H2 d Z [s0]->(∀b o,H1 b<*o->H2 b<*o)->WI P w H H2 Y Z L D t wd y md d [s0] [sv] [[]] [] [] []:=λd H2 hd ee s2=>by
   let ne:∀{b:Addr}{o:HO},H1 b<*o->d≠b:=λ{b o}e z=>by rw[<-z,hd]at e;cases e
   let⟨N,ew⟩:=hW.ex;show(s1.trans s2,(N,s2 _ _ ew),s2 _ _ ht,(rfl,λi k v I h2=>by
    match i,I,h2 with
    |0,I,h2=>cases I;cases h2;show ai.same λb xs e=>s2 _ _ e
    | i+1,I,_=>simp at I),s2 _ _ c1,s2 _ _ hy,(1,λi a r I=>by simp at I),s2 _ _ dc,ee,fr ft,fr fw,fr fy,fr eC,Ho s1 hd,a1,a2,a3,a4,a5,a6,ne ht,ne c1,ne hy,ne dc,ne ew,λa ha=>by simp at ha)
  refine⟨λb5 H'=>∃d,b5=[some (.str (tx L)),some sv,some (.ref fg),some (.ref fm),some (bu most),some (.ref D),some (.ref d),none,none,none,none,none]/\WI P w H H' Y Z L D t wd y md d [s0] [sv] [[]] [] [] [],?_,?_⟩
  .refine (Z,λd hd=>(0,a_,3));let up:∀{ob cU:HO}(b:Addr)(o:HO),H1 b<*o->upd (upd H1 d ob) d cU b<*o:=λ{ob cU}b o e=>by
    rw[JD];show n7 e hd
   by_cases cc:Z=.i
   .rw [cc]at ai aT⊢;unfold uv at ai;rw[if_pos rfl]at ai;let⟨n,rfl,rfl⟩:=ai;refine .inl (1,0,d,1,aT d _ hd ?_ up);unfold tf;rw[if_pos rfl];show(a_,λt ht=>(n,t5 ht))
   .let hsv2:=ai;unfold uv at hsv2;rw[if_neg cc]at hsv2;let⟨b,rfl,hb⟩:=hsv2;let hT:∀{ob:HO},(dK P w Z).kin (upd H1 d ob) (zs s0) b:=λ{ob}=>(hb.same λb xs e=>n7 e hd).kin;refine .inr (cc,b,zs s0,1,hT,d,1,aT d _ hd ?_ up);unfold tf;rw[if_neg cc];refine(_,a_,λx hx=>?_,1,λi k x I h2=>?_)
    .rw [t5 hx,JD];show hT
    .match i,I,h2 with
     |0,I,h2=>cases I;cases h2;show(1,1)
     |i+1,I,_=>simp at I
  rintro e4 H2⟨d,rfl,ev⟩;let dw:∀{H':Hp}{ks:LL}{W:List V}{ws:LL}{C:List Addr}{R:LL}{B:List Bool},WI P w H H' Y Z L D t wd y md d ks W ws C R B->FI g L s0 mk U ks ws R B 0->(R.length=ks.length\/∃n,most=some n/\n<ks.length)->Q (.ref D) H':=λG hP he=>
   q D t wd y md _ _ _ _ _ _ _ G.sm G.obj G.ht G.th G.hw G.hy G.wr G.hm hP.bf hP.ways hP.bl hP.mks hP.sub (Nat.le_trans (Nat.le_add_left _ _) hP.left) he
  refine⟨λn b5 H'=>∃ks W ws C R B s7 s8 s9 a8 a7,n=U.length-List.length R/\b5=[some (.str (tx L)),some sv,some (.ref fg),some (.ref fm),some (bu most),some (.ref D),some (.ref d),s7,s8,s9,a8,a7]/\WI P w H H' Y Z L D t wd y md d ks W ws C R B/\FI g L s0 mk U ks ws R B 0,(_,[s0],[sv],[[]],[],[],[],none,none,none,none,none,6,ev,FI.start hsU),?_⟩;rintro n b5 H3⟨ks,W,ws,C,R,B,s7,s8,s9,a8,a7,rfl,rfl,G,hP⟩;let⟨N,ew⟩:=G.obj.ex;let cz:(C.map V.ref).length=R.length:=by rw[ix,G.wr.1]
  let cb:W.length=ks.length:=G.th.1;let eL:ks.length≤U.length:=Nat.le_trans (Nat.le_add_left _ _) hP.left;refine(0,D,Y,N,8,ew,O.cls,O.na4,1,y,0,.inl (i4.of G.hy),0,D,Y,N,8,ew,O.cls,O.na2,1,t,0,.inl (i4.of G.ht),2,0,aB (λan=>?_) (λan=>?_));case _=>
   rw[cz,cb]at an;let an:R.length<ks.length:=ofNat_lt.mp an;refine⟨λa9 H4=>∃ks W ws C R' B s7 s8 s9 a8 a7,R'.length=R.length+1/\a9=[some (.str (tx L)),some sv,some (.ref fg),some (.ref fm),some (bu most),some (.ref D),some (.ref d),s7,s8,s9,a8,a7]/\WI P w H H4 Y Z L D t wd y md d ks W ws C R' B/\FI g L s0 mk U ks ws R' B 0,?_,?_⟩
   .rintro a9 H4⟨m,l,S,ct,R',B',u7,u8,u9,u10,u11,hR',eb,hI',hP'⟩;show(U.length-R'.length,by rw[hR'];lia,m,l,S,ct,R',B',u7,u8,u9,u10,u11,1,eb,hI',hP')
   obtain⟨k0,cI⟩:∃k0,ks[R.length]?<*k0:=(ks[R.length],hH an);obtain⟨v0,c3⟩:∃v0,W[R.length]?<*v0:=(W[R.length]'(by rw[cb];show an),hH _);obtain⟨a0,eu⟩:∃a0,ws[R.length]?<*a0:=(ws[R.length]'(by rw[<-hP.bf.len];show an),hH _);let bo:k0∈U:=hP.sub k0 (pa cI);refine(λa9 H4=>a9=[some (.str (tx L)),some sv,some (.ref fg),some (.ref fm),some (bu most),some (.ref D),some (.ref d),s7,s8,s9,a8,a7]/\H4=H3,9)
   .cases most with
    |none=>show(0,1,0,aQ rfl (af (1,1)))
    |some M=>
     refine(0,1,0,sN (0,D,Y,N,8,ew,O.cls,O.na2,1,t,0,.inl (i4.of G.ht),0,2,0,3));rw[cb];show aB (λek=>(0,dw G hP (.inr (M,1,ofNat_lt.mp ek)))) (λ_=>(1,1))
   rintro a9 H4⟨rfl,rfl⟩;refine(0,D,Y,N,8,ew,O.cls,O.na4,1,y,0,.inl (i4.of G.hy),3);rw[cz];let es:ux W ((R.length:Nat):Int)<*v0:=wu c3;refine(1,0,D,Y,N,8,ew,O.cls,O.na2,1,0,uN G.ht es (k0,v0,1,G.th.2 _ _ _ cI c3,bo,b0 _ _ G.sm hR0,λgs xs H5 s5 dr c0 ec=>?_));let aM:=G.any s5;let bt:H5 gs<*.tup xs\/H5 gs<*.lst xs:=dr.imp id λz=>z.2;let b2:∀{b:Addr}{o:HO},H b=none->H4 b<*o->(∀zs,o≠.tup zs)->gs≠b:=λ{b o}er e ho z=>by
    rcases dr with I|⟨I|I,_⟩
    .rw [z,s5 _ _ e]at I;cases I;show ho _ rfl
    .rw [z,e]at I;cases I
    .exact I H G.sm hR0 (by rw[z];show er)
   obtain⟨e3,cZ⟩:∃φ,H4 d<*.ext φ:=by
    let X:=G.rm;unfold tf at X;by_cases c:Z=.i
    .rw [if_pos c]at X;show(_,X.1)
    .rw [if_neg c]at X;let⟨kvs,e,_⟩:=X;show(_,e)
   let g1:gs≠t:=b2 G.n1 G.ht (by intro zs z;cases z);let g2:gs≠wd:=b2 G.n2 G.hw (by intro zs z;cases z);let g3:gs≠y:=b2 G.n3 G.hy (by intro zs z;cases z);let g4:gs≠md:=b2 G.n4 G.hm (by intro zs z;cases z);let g5:gs≠d:=b2 G.n5 cZ (by intro zs z;cases z);refine(zero_le _,λrw T=>?_);let r1:rw≠t:=Ne.symm (f' aM.ht T);let r2:rw≠wd:=Ne.symm (f' aM.hw T);let r3:rw≠y:=Ne.symm (f' aM.hy T);let r4:rw≠md:=Ne.symm (f' aM.hm T);let r5:rw≠d:=Ne.symm (f' (s5 _ _ cZ) T);let r6:rw∉C:=λhm=>by
    let⟨i,hi⟩:=mem_iff_getElem?.mp hm;let ej:i<R.length:=by rw[<-aM.wr.1];show(j0 hi).1
    rw[aM.wr.2 i rw _ hi (hH ej)]at T;cases T
   let rg:gs≠rw:=λz=>by
    rw[<-z]at T;rcases bt with I|I<;>rw[T]at I<;>cases I
   let r0:H rw=none:=Ho aM.sm T;let ez:=aM.any (b'.upd (o:=.lst []) T);let dp:upd H5 rw (.lst []) gs<*.tup xs\/upd H5 rw (.lst []) gs<*.lst xs:=by rw[b_ rg];show bt
   refine(4,8,oN dp λd2 eo tk=>?_);let be:((tx L).cps.toList.map λc=>V.str ⟨#[c]⟩).length=xs.length:=by rw[ix,vp,c0]
   refine bF (xs:=(tx L).cps.toList.map λc=>V.str ⟨#[c]⟩) (ys:=xs) be (λq b4 H6=>E6 λm l S r ca b6=>A9 (b4=[some (.str (tx L)),some sv,some (.ref fg),some (.ref fm),some (bu most),some (.ref D),some (.ref d),some (.int ((R.length:Nat):Int)),some (.ref gs),some (.ref rw),ca,b6]) (WI P w H H6 Y Z L D t wd y md d m l S C R B) (FI g L s0 mk U m S R B q) (Ht g m R.length r q) (H6 rw<*.lst (c_ r)) (H6 gs=H5 gs) (∀(j:Nat)(x:V),xs[j]?<*x->uv Z H6 (g k0 j) x) (m[R.length]?<*k0) (S[R.length]?<*a0)) ?_ ?_ ?_ ?_
   .exact (ks,W,ws,[],a8,a7,1,ez,hP,Ht.nil,a_,b_ rg,λj x hx=>(ec j x hx).same λb zs e=>n7 e T,cI,eu)
   .rintro q b4 H6⟨m,l,S,r,ca,b6,rfl,hI',hP',hro,hrw',hgk,cd,ab,aF⟩;show(1,eo H6 (by rw[hgk,b_ rg]))
   .rintro q cx gx' p b4 H6 hc hg hp⟨m,l,S,r,ca,b6,rfl,hI',hP',hro,hrw',hgk,cd,ab,aF⟩;rw[vp,lv]at hc;cases hcq:L[q]? with
    |none=>rw[hcq]at hc;cases hc
    |some c=>
    rw[hcq]at hc;cases hc;let ce:q<L.length:=(j0 hcq).1;let eq:L.getD q 0=c:=by rw[mu,hcq];rfl
    let el:g k0 q∈U:=ep k0 bo q ce;let u:=hI'.any (b'.upd (o:=.tup [.str ⟨#[c]⟩,gx']) hp);let c4:uv Z H6 (g k0 q) gx':=cd q gx' hg;let aU:uv Z (upd H6 p (.tup [.str ⟨#[c]⟩,gx'])) (g k0 q) gx':=c4.same λb zs e=>n7 e hp;let cy:upd H6 p (.tup [.str ⟨#[c]⟩,gx']) rw<*.lst (c_ r):=n7 hrw' hp;let bs:upd H6 p (.tup [.str ⟨#[c]⟩,gx']) gs=H5 gs:=by
     have:gs≠p:=λz=>by
      rw[<-z,hgk]at hp;rcases bt with I|I<;>rw[hp]at I<;>cases I
     rw[b_ this];show hgk
    let bk:∀(j:Nat)(x:V),xs[j]?<*x->uv Z (upd H6 p (.tup [.str ⟨#[c]⟩,gx'])) (g k0 j) x:=λj x hx=>(cd j x hx).same λb zs e=>n7 e hp;let c8:upd H6 p (.tup [.str ⟨#[c]⟩,gx']) p<*.tup [.str ⟨#[c]⟩,gx']:=a_;generalize upd H6 p (.tup [.str ⟨#[c]⟩,gx'])=H7 at u aU cy bs bk c8;let cB:m.length≤U.length:=Nat.le_trans (Nat.le_add_left _ _) hP'.left;let ap:m.length≤100000:=Nat.le_trans cB hU;let cj:l.length=m.length:=u.th.1;refine(p,0,nj.of c8,1,8,2,3);refine⟨λcM H8=>∃az bc bb,cM=[some (.str (tx L)),some sv,some (.ref fg),some (.ref fm),some (bu most),some (.ref D),some (.ref d),some (.int ((R.length:Nat):Int)),some (.ref gs),some (.ref rw),some (.str ⟨#[c]⟩),some gx']/\WI P w H H8 Y Z L D t wd y md d az bc bb C R B/\FI g L s0 mk U az bb R B (q+1)/\Ht g az R.length r q/\
     H8 rw=some (.lst (c_ r))/\H8 gs=H5 gs/\(∀(j:Nat)(x:V),xs[j]?<*x->uv Z H8 (g k0 j) x)/\az[R.length]?=some k0/\bb[R.length]?=some a0/\g k0 q∈az,?_,?_⟩
    .refine (4,d,0,u.rm.get aU,0,3);by_cases hm:g k0 q∈m
     .rw [(bx hm).1];show af (m,l,S,1,u,hP'.old hL.nd ab aF ce hm,hro,cy,bs,bk,ab,aF,hm)
     .rw [show BG m (g k0 q)=none from if_neg hm];let⟨ob,co,c7⟩:=u.rm.put aU hm (IA ap);let⟨N,cJ⟩:=u.obj.ex;let b3:upd H7 d ob D=_:=(b_ (Ne.symm u.e5)).trans cJ;let c5:upd H7 d ob t=_:=(b_ (Ne.symm u.e1)).trans u.ht;let ed:upd H7 d ob wd=_:=(b_ (Ne.symm u.e2)).trans u.hw;let d0:D≠t:=m3 cJ u.ht (!5);let dT:upd (upd H7 d ob) t (.lst (l++[gx'])) D=_:=(b_ d0).trans b3;let cw:upd (upd H7 d ob) t (.lst (l++[gx'])) wd=_:=(b_ (Ne.symm u.d1)).trans ed;let dv:ux (d_ S) ((R.length:Nat):Int)<*.str (tx a0):=wu (by rw[d_,lv,aF];rfl);let e9:a0.length≤100000:=Nat.le_trans (hP'.wl a0 (pa aF)) ap;rw[<-cj]at co;refine am (0,D,Y,N,8,cJ,O.cls,O.na2,1,t,0,.inl (i4.of u.ht),4,d,0,co,3);refine(0,D,Y,N,8,b3,O.cls,O.na2,1,.inl (1,_,i4.of c5),0,t,2,c5,IA (by rw[cj];show ap),3);refine(0,D,Y,N,8,dT,O.cls,O.na3,1,.inl (1,_,i4.of cw),0,D,Y,N,8,dT,O.cls,O.na3,1,0,uN cw dv (0,2,3,wd,2,cw,IA (by rw[d_,ix,<-hP'.bf.len];show ap),3))
      .change (tx a0).length+1≤sizeLine;rw[nb];show kA (!6)
      let dt:tx a0++(⟨#[c]⟩:Str)=tx (a0++[c]):=by rw[<-H_];rfl
      let cs:=u.new (a:=a0++[c]) aU c7;let cq:=hP'.new hL.nd ab aF ce hm el;rw[eq]at cq;let kt:∀b zs,H7 b<*.tup zs->upd (upd (upd H7 d ob) t (.lst (l++[gx']))) wd (.lst (d_ S++[.str (tx (a0++[c]))])) b<*.tup zs:=λb zs e=>by
       obtain⟨φ,cV⟩:∃φ,H7 d<*.ext φ:=by
        let X:=u.rm;unfold tf at X;by_cases c:Z=.i
        .rw [if_pos c]at X;show(_,X.1)
        .rw [if_neg c]at X;let⟨kvs,e,_⟩:=X;show(_,e)
       rw[b_ (m3 e u.hw (!5)),b_ (m3 e u.ht (!5)),b_ (m3 e cV (!5))];show e
      refine(m++[g k0 q],l++[gx'],S++[a0++[c]],1,3,cq,hro.grow (j0 ab).1,9,λj x hx=>?_,Jr ab,Jr aF,!1)
      .rw [<-dt]at cs;show cs
      .rw [b_ r2,b_ r1,b_ r5];show cy
      .rw [b_ g2,b_ g1,b_ g5];show bs
      .refine (bk j x hx).same λb zs e=>?_;have:=kt b zs e;rw[<-dt]at this;show this
    rintro cM H8⟨az,bc,bb,rfl,ac,ey,cn,aV,en,cl,dm,et,dd⟩;let cp:=ac.rm.get (cl q gx' hg);rw[(bx dd).1]at cp;let ei:r.length≤100:=by rw[cn.1];show Nat.le_trans (Nat.le_of_lt ce) (Nat.le_trans hL.hi (!0))
    refine(0,.inl (1,_,i4.of aV),4,d,0,cp,rw,2,aV,IA (by rw[f_];show Nat.le_trans ei (!0)),3);refine(az,bc,bb,r++[az.idxOf (g k0 q)],8,ac.beside aV r0 r1 r2 r3 r4 r5 r6,ey,cn.snoc dm dd,9,λj x hx=>?_,dm,et)
    .rw [a_,IB]
    .rw [b_ rg];show en
    .exact (cl j x hx).same λb zs e=>by rw[b_ (m3 e aV (!5))];show e
   .rintro b4 H6⟨m,l,S,r,ca,b6,rfl,hI',hP',hro,hrw',hgk,cd,ab,aF⟩;rw[be,c0]at hP' hro;let⟨N,eH⟩:=hI'.obj.ex;let cB:m.length≤100000:=Nat.le_trans (Nat.le_trans (Nat.le_add_left _ _) hP'.left) hU;let b1:R.length≤100000:=Nat.le_trans hP'.le cB;let ac:=hI'.row hrw' r1 r2 r3 r4 r5;let⟨dV,b3⟩:=ac.obj.ex;obtain⟨v1,c2⟩:∃v1,l[R.length]?<*v1:=(l[R.length]'(by rw[hI'.th.1];show(j0 ab).1),hH _);refine(0,D,Y,N,8,eH,O.cls,O.na4,1,.inl (1,_,i4.of hI'.hy),0,y,2,hI'.hy,IA (by rw[ix,hI'.wr.1];show b1),3);refine(0,D,Y,dV,8,b3,O.cls,O.na5,1,.inl (1,_,i4.of ac.hm),1,0,D,Y,dV,8,b3,O.cls,O.na2,1,0,uN ac.ht (wu c2) (k0,v1,1,ac.th.2 _ _ _ ab c2,bo,b0 _ _ ac.sm hR0,λH9 s9=>(md,2,(ac.any s9).hm,IA (by rw[ix,hP'.bl];show b1),3)));show(m,l,S,C++[rw],R++[r],B++[mk k0],7,7,_,by rw[j_];rfl,1,(ac.any s9).mark,hP'.next ab hro)
  case _=>
   rw[cz,cb]at an;show(0,dw G hP (.inl (le_antisymm hP.le (le_of_not_lt λz=>an (ofNat_lt.mpr z)))))
instance G9:Stmt:=(pf G8).getD 0 (.Pass ((0),(0),(0),(0)))
instance G_:Stmt:=(pf G8).getD 1 (.Pass ((0),(0),(0),(0)))
instance q_g:Str:="walked_machine.<locals>.goals_of"
instance q_m:Str:="walked_machine.<locals>.is_marked"
abbrev fK(s:Stmt):Pos:=match s with
 |.FunctionDef _ _ _ _ _ _ _ _ _ p=>p
 |_=>((0),(0),(0),(0))
abbrev sites:List (Pos×Str):=[(fK G9,q_g,),(fK G_,q_m,)]
def tS:Iv [Z4,Q0] [Z4] [Q0] (i_ G9):=(6,1,!3,6,!0,!3,!3)
def tQ:Iv [Z4,Q0] [Z4] [Q0] (i_ G_):=(6,1,!3,6,!0,!3,!3)
section
variable{P:Program}{w:World}{K:Frag}{mg:Str->Option Value}{base:Heap}{f c m:Addr}{clos:List (Str×Addr)}{doc pm ctv:Value}{L:LN}{W:LL}{B:List Bool}
def t7(I:base.get? f<*fnMade Z0 q_g (r_ G9) (pf G9) (i_ G9) clos doc pm c ctv)(t:base.CodeRec (.ref c) q_g)(C:GF base clos (i_ G9) [Q0] [.ref m])(u:hF L W B):aa P w K mg base kd 1 f (PySem.W.fnX Z0 q_g (r_ G9) (pf G9) (i_ G9) clos .none .none doc pm none (.ref c) ctv) [Z4] (K_ .i L (gW W) (uW W) λH=>FJ H m L W B):=by
 refine eF (fvs:=[.ref m]) I rfl t tS C (λvs H Q E h=>?_) (λA l s H vs Q E Y h=>?_)
 .obtain ⟨k,v,rfl,_⟩:=h;rfl
 .obtain ⟨k,v,rfl,p,N,O,q⟩:=h;refine(_,(iy (k_ (u_ nH (ol 1) (pv 0) (λ_ _=>rfl)))),3);let⟨n,rfl,M⟩:=dh N;unfold uv at p;rw[if_pos rfl]at p;let⟨X,e,rfl⟩:=p;injection e with e;subst e;let⟨G,mk,a,D,y,Z,S,R⟩:=O;obtain⟨g,b⟩:∃g,a[n]?<*g:=(a[n]'(by rw[S];show M),hH _);let⟨ws,F,U⟩:=R _ _ b;let o:=u.row ws (pa F);refine(n_ D ao (0,G,_,2,y,vZ V.ref b,3));refine q g (c_ ws) H (b'.refl H) (U.imp id λe=>(.inr (FJ.row D y b),e)) (by rw[f_];show o.1) λj x d=>?_;unfold uv;rw[if_pos rfl];rw[c_,lv]at d;cases r:ws[j]? with
  |none=>rw[r]at d;cases d
  |some z=>
   rw[r]at d;cases d;refine(z,3,1);show[(W.getD n []).getD j 0]=[z];let T:W.getD n []=ws:=by
    rw[mu,F];rfl
   rw[T,mu,r];rfl
def tZ(l:base.get? f<*fnMade Q7 q_m (r_ G_) (pf G_) (i_ G_) clos doc pm c ctv)(d:base.CodeRec (.ref c) q_m)(C:GF base clos (i_ G_) [Q0] [.ref m])(g:hF L W B):aa P w K mg base kd 1 f (PySem.W.fnX Q7 q_m (r_ G_) (pf G_) (i_ G_) clos .none .none doc pm none (.ref c) ctv) [Z4] (dk .i (mkW B) (uW W) λH=>FJ H m L W B):=by
 refine eF (fvs:=[.ref m]) l rfl d tQ C (λvs H Q E h=>?_) (λA a s H vs Q E D h=>?_)
 .obtain ⟨k,v,rfl,_⟩:=h;rfl
 .obtain ⟨k,v,rfl,b,p,r,q⟩:=h;refine(_,(iy (k_ (u_ nH (ol 1) (pv 0) (λ_ _=>rfl)))),3);let⟨n,rfl,o⟩:=dh p;unfold uv at b;rw[if_pos rfl]at b;let⟨z,e,rfl⟩:=b;injection e with e;subst e;let⟨y,mk,j,x,I,u,G,F⟩:=r;let t:B[n]?<*B.getD n false:=by
   rw[mu,hH (by rw[g.bl];show o)];rfl
  show(n_ x aC (0,mk,_,2,u,vZ V.bl t,q H (b'.refl H)))
end
def nG{sites:List (Pos×Str)}(s:vP P H H')(a:uG H P sites)(e:H b<*.lst xs):H' b<*.lst xs:=by
 let⟨ps,c,_⟩:=a;show s _ _ (λz=>by rw[z,c]at e;cases e) e
def b_C:oj [Q0,Z0,Q7] [Q0] (i_ G8):=pp
def df{kV doc pm cdv ct e:Value}(lD:K.lookup h<*(e,j,.seq #[.none] m,i)):vC K (fnOf "walked" "walked" (r_ vU) (pf vU) (i_ vU) (.ref h) kV doc pm an cdv ct) [Q3,Q9,Z0,Q7,"most"] [.none]:=λs g l k=>by
 let f:g.length=4:=by simpa using k
 let⟨a,b,c,d,rfl⟩:=L_ f;show BindsTo.of_defaults rfl (l _ _ lD) rfl rfl rfl
def KB(j:Jq X U n H e)(sub:∀y a,b.lookup y<*a->X.env.cells.lookup y<*a)(has:∀y∈sc.names,y.2=.free->∃a,b.lookup y.1<*a)(r:X.N[0]?<*Q0)(g:n[0]?<*some (.ref m))(q:X.env.scope.names.lookup Q0<*.cell)(p:sc.names.lookup Q0<*.free)(o:((Q0:Str),NameKind.free,)∈sc.names):GF e b sc [Q0] [.ref m]:=by
 refine(λy z c d f=>j.inj y z c (sub y c d) (sub z c f),has,λy c h=>j.cell y c (sub y c h),1,λi y v d f=>?_);match i,d,f with
 |0,d,f=>
  cases d;cases f;let⟨a,k⟩:=has _ o rfl;let⟨c,u,w,t,s⟩:=j.val 0 Q0 (.ref m) r g q;let l:=sub _ _ k;rw[w]at l;cases l;show(p,_,u,k,t,s)
 |i+1,d,_=>simp at d
set_option maxHeartbeats 8000000 in
def mV{P:Program}{w:World}{oc kV doc pm ct aU Y v X g ac bk:Value}(lk:K.lookup f<*(oc,od,.func (fnOf "walked_machine" "walked_machine" (r_ G8) (pf G8) (i_ G8) .none kV doc pm an (.ref c) ct),cu))(b2:codeIn K (.ref c) "walked_machine"=true)(lw:K.lookup fw<*(aU,bg,.func (fnOf "walked" "walked" (r_ vU) (pf vU) (i_ vU) (.ref tD) Y v X an2 g ac),osl2))(cw:codeIn K g "walked"=true)(kw:keepIn K (.ref fw)=true)(mw:mg "walked"<*.ref fw)(lD:K.lookup tD<*(bk,cx,.seq #[.none] nD,co))(WT:Jx K mg cW fI fdI)(aF:mg "len"=none)(az:mg "zip"=none)(hC:CodeHd base c P0)(hB:HJ base mg):aa P w K mg base kd 6 f (fnOf "walked_machine" "walked_machine" (r_ G8) (pf G8) (i_ G8) .none kV doc pm an (.ref c) ct) [Q0] (Lc cW P0 sites):=by
 refine bd lk b2 b_C (λvs H Q E h=>?_) (λA be s H vs Q E hr h=>?_)
 .obtain ⟨m,L,W,B,rfl,_⟩:=h;rfl
 .obtain ⟨m,L,W,B,rfl,hM,j,hT,q⟩:=h;refine(_,(h6 (Kp (i:=1) (qual:=q_g) (c:=c) (P0:=P0) (sites:=sites) b_C.nd rfl (Or.inl rfl) rfl hC hB (!3) (!3)) (h6 (Kp (i:=2) (qual:=q_m) (c:=c) (P0:=P0) (sites:=sites) b_C.nd rfl (Or.inl rfl) rfl hC hB (!3) (!3)) (iy (k_ (dO (dvs:=[.non]) rfl mw kw (df (kV:=Y) (doc:=v) (pm:=X) (an:=an2) (cdv:=g) (ct:=ac) lD) (.cons rfl .nil) (GX (ol 0) (s_ e_ (pv 1) (pv 2))) (λ_=>rfl)))))),3);refine(hT,λap p k H1 aT a3 cJ cz s1 a5 a1 aZ=>(a5,λai D G F aM a2 cI cy s2 b5 a0 b1=>?_));let T:vP P0 H F:=Lb s1 s2;let a6:FJ F m L W B:=hM.keep (Ks T hT) λb xs e=>nG T hT e;let⟨cp,ca,_⟩:=id a5;let⟨bc,b6,bt,Z⟩:=id b5;let nP:∀{b:Addr}{I:Heap->Prop},H1 b<*.ext I->b≠P0:=λ{b I}e z=>by rw[z,ca]at e;cases e
  let N:F p<*uM p Z0 q_g (r_ G9) (pf G9) (i_ G9) ap k:=s2 p _ (nP aZ) aZ;let O:F k<*l' k q_g:=s2 k _ (nP a1) a1;let M:F D<*uM D Q7 q_m (r_ G_) (pf G_) (i_ G_) ai G:=b1;let cb:=a6;let⟨wy,mk,ce,h1,h2,h3,h4,h5⟩:=a6;let a4:∀u∈[p,D,k,G],∃I,F u<*.ext I:=λu hu=>by
   simp only[mem_cons,not_mem_nil,or_false]at hu;rcases hu with rfl|rfl|rfl|rfl
   .exact (_,N)
   .exact (_,M)
   .exact (_,O)
   .exact (_,a0)
  refine(n_ h1 au (4,[p,D,k,G],a4,λC Wd=>?_));let⟨cj,cs,cn,a8⟩:=Wd.ext p _ (!1) N;let⟨ch,cq,cl,a7⟩:=Wd.ext D _ (!1) M;let cd:C.CodeRec (.ref k) q_g:=Wd.ext k _ (!1) O;let cc:C.CodeRec (.ref G) q_m:=Wd.ext G _ (!1) a0;let C1:=KB (sc:=i_ G9) (m:=m) Wd aT a3 rfl rfl rfl rfl (!3);let C2:=KB (sc:=i_ G_) (m:=m) Wd aM a2 rfl rfl rfl rfl (!3);let Fw:lE K "walked" "walked" vU fw _:=((aU,bg,.ref tD,Y,v,X,an2,g,ac,osl2,1,lw,cw),kw);refine((5),K' cW .i L (gW W) (mkW B) (uW W) (λH=>FJ H m L W B) p D,hr,Ma Fw WT aF az ((t7 a8 cd C1 j).mono (!0)) ((tZ a7 cc C2 j).mono (!0)) a8 (_,rfl) a7 (_,rfl) (.all λus hl=>by let⟨_,rfl⟩:=IK hl;rfl) (.all λus hl=>by let⟨_,rfl⟩:=IK hl;rfl) (λ_ _ s h=>h.same s),3);let l:∀{b:Addr}{o:HO},F b<*o->(∀I,o≠.ext I)->b∉[p,D,k,G]:=λ{b o}e ho S=>by
   let⟨I,e2⟩:=a4 b S;rw[e]at e2;show ho I (Option.some.inj e2)
  let cB:=j.n60;refine([0],.int 0,none,1,j.lt,3,hY.mpr j.n1,rF j,by rw[lQ];omega,cb.keep (λb xs e=>by rw[wD (l e (λ_ z=>nomatch z))];show e) (λb xs e=>by rw[wD (l e (λ_ z=>nomatch z))];show e),λwk t wd y md ks a9 ws U R Bm H3 bb hW ht bs bo hy aV b0 bf as bl bm sub le he b4=>?_)
  .unfold uv;rw[if_pos rfl];show((0),6)
  let hR:R.length=ks.length:=by
   rcases he with z|⟨n,z,_⟩
   .exact z
   .cases z
  let d:∀{b:Addr}{o:HO},H3 b<*o->aN [p,D,k,G] F H3 b<*o:=λ{b o}e=>by
   rw[Ih λS=>?_]
   .exact e
   .rw [b4 b S]at e;cases e
  let ab:∀{b:Addr}{o:HO},F b<*o->aN [p,D,k,G] F H3 b<*o:=λ{b o}e=>by
   by_cases S:b∈[p,D,k,G]
   .rw [Kq S];show e
   .exact d (bb b o (by rw[wD S];show e))
  rw[hR]at bf;let⟨dx,ew⟩:=hW.ex;show q wk t wd y md ks a9 ws U R Bm _ (λb o S e=>ab (T b o S e)) (bc,ab b6,bt,λx hx=>(Z x hx).imp id λb3=>by let⟨c',e1,e2⟩:=b3;show(c',e1,ab e2)) (dx,d ew) (d ht) (bs.same λb xs e=>d e) (d bo) (d hy) (aV.1,λi a r e1 e2=>d (aV.2 i a r e1 e2)) (d b0) bf as hR bl bm sub (by rw[lQ]at le;show le)
def d_Q:oj [Q0,Q8] [Q0] (i_ L'):=pp
set_option maxHeartbeats 8000000 in
def sD(F:n' K "first_words" "first_words" L' f fd)(S:Jx K mg cW fI fdI)(d:mg "list"=none)(j:mg "zip"=none)(D:Df P w K mg base "walked_machine" 6 [Q0] (Lc cW P0 sites)):aa P w K mg base kd 7 f fd [Q0] (mn P0 sites):=by
 refine F.ok d_Q (λvs H Q E h=>?_) (λcdv A T s H vs Q E hr h=>?_)
 .obtain ⟨m,L,W,B,rfl,_⟩:=h;rfl
 .obtain ⟨m,L,W,B,rfl,hM,G,hT,q⟩:=h;refine(_,(h6 (j5 1 d_Q.nd (mr D hr (kb (pv 0)))) (iy (k_ (ip rfl rfl d rfl j (o5 (vm (f:=Q5) (pv 1) rfl) (vm (f:=Q6) (pv 1) rfl)))))),3);refine(0,m,L,W,B,1,hM.g,G,hT,λwk t wd y md ks b ws an R Bm H1 s1 C hW ht c U hy az aM O ai hR bl as sub le=>?_);let⟨dx,ew⟩:=hW.ex;let ap:=G.n60;refine(0,wk,cW,dx,8,ew,S.cls,S.na2,1,0,wk,cW,dx,8,ew,S.cls,S.na3,1,t,wd,b,d_ ws,1,ht,U,3,by rw[c.1];omega,λl ts H2 X aF hl s2 ab e=>?_)
  .rw [c.1,d_,ix];show O.len
  obtain⟨I,Y⟩:∃I:LN,ks=I.map λn=>[n]:=by
   refine(ks.map λk=>k.headD 0,3);rw[map_map];refine(List.map_id ks).symm.trans (List.map_congr_left λk hk=>?_);let⟨n,rfl,_⟩:=dh (sub k hk);rfl
  subst Y;rw[ix]at O le;let p:b.length=I.length:=by rw[c.1,ix]
  refine q l I ws H2 (Lb s1 (fB s2)) ?_ ?_ (ts,ab,by rw[X,p],by have:=O.len;rw[ix]at this;show this.symm,λi tt r wv e1 N e3=>?_) O (λr Z=>?_) le
  .obtain ⟨ps,M,h2,h3⟩:=C;show(ps,s2 _ _ M,h2,λx hx=>(h3 x hx).imp id λac=>by let⟨c',e1,N⟩:=ac;show(c',e1,s2 _ _ N))
  .cases z:H l with
   |none=>rfl
   |some o=>
    by_cases u:l=P0
    .obtain ⟨ps,M,_⟩:=C;rw[<-u,hl]at M;cases M
    .rw [s1 l o u z]at hl;cases hl
  .obtain ⟨v,hv⟩:∃v,b[i]?<*v:=(b[i]'(by rw[p];show(j0 N).1),hH _);let a:=c.2 i [r] v (by rw[lv,N];rfl) hv;unfold uv at a;rw[if_pos rfl]at a;let⟨n,e4,rfl⟩:=a;injection e4 with e4;subst e4;show e i tt _ _ e1 hv (by rw[d_,lv,e3];rfl)
  .exact hY.mp (sub [r] (mem_map.mpr (r,Z,1)))
inductive Mb(cW P1:Addr)(sitesR:List (Pos×Str))(vs:List V)(H:Hp)(Q:VK)(_E:XK):Prop
 | mk (m rl:Addr) (L:LN) (W:LL) (B:List Bool) (s:LN) (_:vs=[.ref m,.ref rl,.non]) (_:p' H m L W B) (_:hF L W B) (_:H rl<*.lst (c_ s)) (_:0<s.length) (_:s.length≤60) (_:(∀x∈s,x<W.length)) (_:W.length^s.length≤100000) (_:uG H P1 sitesR) (_:∀(wk t wd y md:Addr)(ks ws:LL)(rows:List Addr)(R:LL)(H':Hp),vP P1 H H'->uG H' P1 sitesR->Jc H' cW wk L t wd y md->H' wd<*.lst (d_ ws)->H' y<*.lst (rows.map V.ref)->bM H' rows R->
  Bf (gA W) L s ks ws ks.length 0->FH (gA W) L.length ks R->R.length=ks.length->ks.length≤W.length^s.length->Q (.ref wk) H')
instance GJ:Stmt:=p_ 35
instance aL:Stmt:=(pf GJ).getD 0 (.Pass ((0),(0),(0),(0)))
instance aK:Stmt:=(pf GJ).getD 1 (.Pass ((0),(0),(0),(0)))
instance q_rg:Str:="walked_rooms.<locals>.goals_of"
instance q_rm:Str:="walked_rooms.<locals>.is_marked"
abbrev sitesR:List (Pos×Str):=[(fK aL,q_rg,),(fK aK,q_rm,)]
def se:Iv ["state",Q0] ["state"] [Q0] (i_ aL):=(6,1,!3,6,!0,!3,!3)
def sd:Iv ["state",Q0] ["state"] [Q0] (i_ aK):=(6,1,!3,6,!0,!3,!3)
section
variable{P:Program}{w:World}{K:Frag}{mg:Str->Option Value}{base:Heap}{f c m:Addr}{clos:List (Str×Addr)}{doc pm ctv:Value}{L:LN}{W:LL}{B:List Bool}{n:Nat}
def sC(ho:base.get? f<*fnMade Z0 q_rg (r_ aL) (pf aL) (i_ aL) clos doc pm c ctv)(X:base.CodeRec (.ref c) q_rg)(C:GF base clos (i_ aL) [Q0] [.ref m])(I:hF L W B)(hn:n≤60)(y:mg "tuple"=none)(vw:Df P w K mg base "lots_after" 1 [Q0,Q4] sp_lotsafter):aa P w K mg base kd 2 f (PySem.W.fnX Z0 q_rg (r_ aL) (pf aL) (i_ aL) clos .none .none doc pm none (.ref c) ctv) ["state"] (K_ .t L (gA W) (tups W.length n) λH=>p' H m L W B):=by
 refine eF (fvs:=[.ref m]) ho rfl X se C (λvs H Q E h=>?_) (λA N s H vs Q E hr h=>?_)
 .obtain ⟨k,v,rfl,_⟩:=h;rfl
 .obtain ⟨k,v,rfl,O,hU,hM,q⟩:=h;refine(_,(iy (k_ (wH ["state",Q0] rfl (!0) (wA (mr vw hr (o5 (pv 1) (pv 0)))) (λcl C fp s' H'=>(vi,vK (Lz K) (!4) y boot_tuple (kb (pv 0))))))),3);unfold uv at O;rw[if_neg (!0)]at O;let⟨b,rfl,hb⟩:=O;let⟨U,T⟩:=c_X.mp hU;let Z:=I.lt.hi;dsimp only[aG];refine(4,m,b,_,L,W,B,k,1,hM,I,.inr rfl,hb,by rw[U];show hn,T,λl ls H1 s1 hl G S=>?_);refine(l,8,.inl rfl,hl,λJ ov=>LH ov hl (λD j ys H'=>∃ts:List Addr,A3 (ys=ts.map V.ref) (ts.length=j) (∀(i:Nat)(a:Addr),ts[i]?<*a->H' a<*.tup (c_ (gA W k i)))) (by rw[ix,G];show kA (Nat.le_trans Z (!0))) (λD M=>([],6,λi a e=>by simp at e)) ?_ ?_)
  .intro D j x ys H' R1 R2 M F g p hp k1 k2;let⟨ts,rfl,d,o⟩:=hp;rw[lv]at F;let⟨a,Y,rfl⟩:=uJ F;refine h_ (0,a,0,.inl (i4.of (g _ _ (S j a Y)),λt R=>?_));let r:=n7 (u:=.tup (c_ (gA W k j))) p R;refine k1 (.ref t) _ r (b'.set (g.trans (b'.upd R)) M) (ts++[t],by rw[map_append];rfl,by rw[j_,d];rfl,λi u e=>?_);rcases Hr e with z|⟨rfl,rfl⟩
   .exact i0 (n7 (o i u z) R) r (!5)
   .rw [d];show i0 a_ r (!5)
  .intro D ys H' M g p hp;let⟨ts,rfl,d,o⟩:=hp;rw[ix,G]at d;refine q D (ts.map V.ref) H' (s1.trans g) (.inr (.inl (Ho s1 M),p)) (by rw[ix,d]) λj x F=>?_;rw[lv]at F;let⟨a,Y,rfl⟩:=uJ F;unfold uv;rw[if_neg (!0)];show(a,1,o j a Y)
def sB(r:base.get? f<*fnMade Q7 q_rm (r_ aK) (pf aK) (i_ aK) clos doc pm c ctv)(l:base.CodeRec (.ref c) q_rm)(C:GF base clos (i_ aK) [Q0] [.ref m])(o:hF L W B)(u:0<n):aa P w K mg base kd 1 f (PySem.W.fnX Q7 q_rm (r_ aK) (pf aK) (i_ aK) clos .none .none doc pm none (.ref c) ctv) ["state"] (dk .t (mkW B) (tups W.length n) λH=>p' H m L W B):=by
 refine eF (fvs:=[.ref m]) r rfl l sd C (λvs H Q E h=>?_) (λA d s H vs Q E N h=>?_)
 .obtain ⟨k,v,rfl,_⟩:=h;rfl
 .obtain ⟨k,v,rfl,g,z,D,q⟩:=h;refine(_,(iy (k_ (ve (ol 1) (ol 0)))),3);unfold uv at g;rw[if_neg (!0)]at g;let⟨b,rfl,y⟩:=g;let⟨j,i⟩:=c_X.mp z;obtain⟨x,a,rfl⟩:∃x a,k=x::a:=match k,j with
   |[],h=>absurd h (ne_of_lt u)
   |x::a,_=>(x,a,1)
  let e:=i x mem_cons_self;let⟨M,mk,p,I,S,G,R,O⟩:=D;let F:B[x]?<*B.getD x false:=by
   rw[mu,hH (by rw[o.bl];show e)];rfl
  show(n_ I aC (n_ y au (uX G (vZ V.bl F) (q H (b'.refl H)))))
end
def c_f:oj [Q0,Q4,"most",Z0,Q7] [Q0,Q4,"most"] (i_ GJ):=pp
def iW{kV doc pm cdv ct f:Value}(lD:K.lookup h<*(f,j,.seq #[.none] m,i)):vC K (fnOf "walked" "walked" (r_ vU) (pf vU) (i_ vU) (.ref h) kV doc pm an cdv ct) [Q3,Q9,Z0,Q7,"most"] []:=λs l k g=>by
 rw[append_nil]at g⊢;let⟨a,b,c,d,e,rfl⟩:=NA g;show BindsTo.of_defaults rfl (k _ _ lD) rfl rfl rfl
def iV{kV doc pm cdv ct c:Value}(lD:K.lookup f<*(c,h,.seq #[.none] k,g)):vC K (fnOf "walked_rooms" "walked_rooms" (r_ GJ) (pf GJ) (i_ GJ) (.ref f) kV doc pm an cdv ct) [Q0,Q4,"most"] [.none]:=λs e j i=>by
 let d:e.length=2:=by simpa using i
 let⟨a,b,rfl⟩:=L8 d;show BindsTo.of_defaults rfl (j _ _ lD) rfl rfl rfl
set_option maxHeartbeats 8000000 in
def ky{P:Program}{w:World}{oc kV doc pm ct a4 ap F ai g aT b3:Value}(lk:K.lookup f<*(oc,od,.func (fnOf "walked_rooms" "walked_rooms" (r_ GJ) (pf GJ) (i_ GJ) (.ref tR) kV doc pm an (.ref c) ct),cZ))(cd:codeIn K (.ref c) "walked_rooms"=true)(lw:K.lookup fw<*(a4,b2,.func (fnOf "walked" "walked" (r_ vU) (pf vU) (i_ vU) (.ref tD) ap F ai an2 g aT),osl2))(cw:codeIn K g "walked"=true)(kw:keepIn K (.ref fw)=true)(mw:mg "walked"<*.ref fw)(lD:K.lookup tD<*(b3,c0,.seq #[.none] nD,cJ))(WT:Jx K mg cW fI fdI)(a1:mg "len"=none)(a0:mg "zip"=none)(O:mg "tuple"=none)(hC:CodeHd base c P0)(hB:HJ base mg)(DL:∀base:Heap,Df P w K mg base "lots_after" 1 [Q0,Q4] sp_lotsafter):aa P w K mg base kd 6 f (fnOf "walked_rooms" "walked_rooms" (r_ GJ) (pf GJ) (i_ GJ) (.ref tR) kV doc pm an (.ref c) ct) [Q0,Q4,"most"] (Mb cW P0 sitesR):=by
 refine bd lk cd c_f (λvs H Q E h=>?_) (λA b1 s H vs Q E hr h=>?_)
 .obtain ⟨m,rl,L,W,B,S,rfl,_⟩:=h;rfl
 .obtain ⟨m,rl,L,W,B,S,rfl,hM,M,az,cb,hs60,ca,a7,hT,q⟩:=h;refine(_,(h6 (Kp (i:=3) (qual:=q_rg) (c:=c) (P0:=P0) (sites:=sitesR) c_f.nd rfl (Or.inl rfl) rfl hC hB (!3) (!3)) (h6 (Kp (i:=4) (qual:=q_rm) (c:=c) (P0:=P0) (sites:=sitesR) c_f.nd rfl (Or.inl rfl) rfl hC hB (!3) (!3)) (iy (k_ (dO (dvs:=[]) rfl mw kw (iW (kV:=ap) (doc:=F) (pm:=ai) (an:=an2) (cdv:=g) (ct:=aT) lD) .nil (GX (ol 0) (GX (vK ww (!4) O boot_tuple (kb (pv 1))) (s_ (pv 3) (pv 4) (pv 2)))) (λ_=>rfl)))))),3);refine(hT,λaV l j H1 a3 be dd c4 s1 bk bb a8=>(bk,λaU D I G a2 bc dc c3 s2 cj a9 cc=>?_));let ab:vP P0 H G:=Lb s1 s2;let bm:p' G m L W B:=hM.tups (Ks ab hT);let⟨cT,co,_⟩:=id hT;let a6:G rl<*.lst (c_ S):=ab rl _ (λz=>by rw[z,co]at az;cases az) az;let⟨cM,cn,_⟩:=id bk;let⟨b0,cl,b6,aF⟩:=id cj;let nP:∀{b:Addr}{N:Heap->Prop},H1 b<*.ext N->b≠P0:=λ{b N}e z=>by rw[z,cn]at e;cases e
  let U:G l<*uM l Z0 q_rg (r_ aL) (pf aL) (i_ aL) aV j:=s2 l _ (nP a8) a8;let X:G j<*l' j q_rg:=s2 j _ (nP bb) bb;let T:G D<*uM D Q7 q_rm (r_ aK) (pf aK) (i_ aK) aU I:=cc;let cp:=bm;let⟨wy,mk,cu,h1,h2,h3,h4,h5⟩:=bm;refine(n_ h1 au (0,rl,0,.inl (i4.of a6,λZ b5=>?_)));let p:b' G (L2.upd G Z (.tup (c_ S))):=b'.upd b5;let as:L2.upd G Z (.tup (c_ S)) Z<*.tup (c_ S):=a_;generalize L2.upd G Z (.tup (c_ S))=H2' at p as;let bg:∀u∈[l,D,j,I],∃N,H2' u<*.ext N:=λu hu=>by
   simp only[mem_cons,not_mem_nil,or_false]at hu;rcases hu with rfl|rfl|rfl|rfl
   .exact (_,p _ _ U)
   .exact (_,p _ _ T)
   .exact (_,p _ _ X)
   .exact (_,p _ _ a9)
  refine(4,0,[l,D,j,I],bg,λd Wd=>?_);let⟨cy,cV,cB,bs⟩:=Wd.ext l _ (!1) (p _ _ U);let⟨cx,cU,cz,bo⟩:=Wd.ext D _ (!1) (p _ _ T);let cs:d.CodeRec (.ref j) q_rg:=Wd.ext j _ (!1) (p _ _ X);let cq:d.CodeRec (.ref I) q_rm:=Wd.ext I _ (!1) (p _ _ a9);let C1:=KB (sc:=i_ aL) (m:=m) Wd a3 be rfl rfl rfl rfl (!3);let C2:=KB (sc:=i_ aK) (m:=m) Wd a2 bc rfl rfl rfl rfl (!3);let Fw:lE K "walked" "walked" vU fw _:=((a4,b2,.ref tD,ap,F,ai,an2,g,aT,osl2,1,lw,cw),kw);refine((5),K' cW .t L (gA W) (mkW B) (tups W.length S.length) (λH=>p' H m L W B) l D,hr,Ma Fw WT a1 a0 ((sC bs cs C1 M hs60 O (DL d)).mono (!0)) ((sB bo cq C2 M cb).mono (!0)) bs (_,rfl) bo (_,rfl) (.all λus hl=>by let⟨_,rfl⟩:=IK hl;rfl) (.all λus hl=>by let⟨_,rfl⟩:=IK hl;rfl) (λ_ _ s h=>h.same s),3);let C:∀{b:Addr}{o:HO},H2' b<*o->(∀N,o≠.ext N)->b∉[l,D,j,I]:=λ{b o}e ho Y=>by
   let⟨N,e2⟩:=bg b Y;rw[e]at e2;show ho N (Option.some.inj e2)
  refine(S,.ref Z,none,1,M.lt,3,c_X.mpr (1,ca),λk hk q hq=>rd M hk hq,by rw[LV];show a7,(cp.same p).tups λb xs e=>by rw[wD (C e (λ_ z=>nomatch z))];show e,λwk t wd y md ks cI ws ac R Bm H3 bt hW ht c7 b4 hy a5 c8 bf aZ bl c5 sub le he ch=>?_)
  .unfold uv;rw[if_neg (!0)];show(Z,1,by change ut [l,D,j,I] H2' Z=_;rw[wD (C as (λ_ z=>nomatch z))];show as)
  let v:∀{b:Addr}{o:HO},H3 b<*o->aN [l,D,j,I] H2' H3 b<*o:=λ{b o}e=>by
   rw[Ih λY=>?_]
   .exact e
   .rw [ch b Y]at e;cases e
  let aM:∀{b:Addr}{o:HO},G b<*o->aN [l,D,j,I] H2' H3 b<*o:=λ{b o}e0=>by
   let e:=p _ _ e0;by_cases Y:b∈[l,D,j,I]
   .rw [Kq Y];show e
   .exact v (bt b o (by rw[wD Y];show e))
  let⟨dx,ew⟩:=hW.ex;let hR:R.length=ks.length:=by
   rcases he with z|⟨n,z,_⟩
   .exact z
   .cases z
  rw[hR]at bf;show q wk t wd y md ks ws ac R _ (λb o Y e=>aM (ab b o Y e)) (b0,aM cl,b6,λx hx=>(aF x hx).imp id λce=>by let⟨c',e1,e2⟩:=ce;show(c',e1,aM e2)) (dx,v ew) (v b4) (v hy) (a5.1,λi a r e1 e2=>v (a5.2 i a r e1 e2)) bf aZ hR (by rw[LV]at le;show le)
inductive sp_rinto(vs:List V)(H:Hp)(Q:VK)(_E:XK):Prop
 |mk (m st:Addr) (L:LN) (W:LL) (B:List Bool) (j:Nat) (S:LN) (_:vs=[.ref m,.int (j:Int),.ref st]) (_:p' H m L W B) (_:hF L W B) (_:j<L.length) (_:H st<*.tup (c_ S)) (_:∀p H',b' H H'->H' p<*.tup (c_ (aI W S j))->Q (.ref p) H')
inductive Mc(cW P1:Addr)(sites:List (Pos×Str))(vs:List V)(H:Hp)(Q:VK)(_E:XK):Prop
 | mk (m:Addr) (L:LN) (W:LL) (B:List Bool) (_:vs=[.ref m]) (_:p' H m L W B) (_:hF L W B) (_:W.length≤8) (_:uG H P1 sites) (_:∀(wk t wd y md:Addr)(ks:LL)(ws:LL)(rows:List Addr)(R:LL)(Bm:List Bool)(H':Hp),vP P1 H H'->uG H' P1 sites->Jc H' cW wk L t wd y md->H' wd<*.lst (d_ ws)->H' y<*.lst (rows.map V.ref)->bM H' rows R->H' md<*.lst (Bm.map V.bl)->
  Bf (aI W) L (vB W B) ks ws ks.length 0->FH (aI W) L.length ks R->R.length=ks.length->Bm.length=R.length->(∀(r:Nat)(k:LN)(b:Bool),ks[r]?<*k->Bm[r]?<*b->b=nV k)->ks.length≤256->Q (.ref wk) H')
instance G':Stmt:=p_ 36
instance aH:Stmt:=(pf G').getD 0 (.Pass ((0),(0),(0),(0)))
instance q_tg:Str:="walked_turned.<locals>.goals_of"
instance q_tl:Str:="walked_turned.<locals>.<lambda>"
instance pN:Expr:=match (pf G').getD 2 (.Pass ((0),(0),(0),(0)))with
 |.Return (some (.Call _ [_,_,_,l] _ _)) _=>l
 |_=>.Name "" ((0),(0),(0),(0))
instance nF:Arguments:=match pN with|.Lambda a _ _ _=>a|_=>([],[],none,[],[],none,[])
instance nE:Expr:=match pN with|.Lambda _ b _ _=>b|_=>.Name "" ((0),(0),(0),(0))
instance l_scope:Scope:=match pN with|.Lambda _ _ s _=>s|_=>i_ aH
instance sJ:Pos:=match pN with|.Lambda _ _ _ p=>p|_=>((0),(0),(0),(0))
abbrev sitesT:List (Pos×Str):=[(fK aH,q_tg,),(sJ,q_tl,)]
def r9:Lj ["state",Q0] "state" [Q0] (i_ aH):=(6,1,!3,6,!0,1,!3,λ_ _=>rfl,λ_=>rfl)
def rZ:Iv ["state"] ["state"] [] l_scope:=(6,1,!3,6,!0,!3,!3)
section
variable{P:Program}{w:World}{K:Frag}{mg:Str->Option Value}{base:Heap}{f c m:Addr}{clos:List (Str×Addr)}{doc pm ctv:Value}{L:LN}{W:LL}{B:List Bool}
def sx(ho:base.get? f<*fnMade Z0 q_tg (r_ aH) (pf aH) (i_ aH) clos doc pm c ctv)(S:base.CodeRec (.ref c) q_tg)(C:GF base clos (i_ aH) [Q0] [.ref m])(F:hF L W B)(y:mg "len"=none)(g:mg "range"=none)(Y:Df P w K mg base "rooms_into" 1 [Q0,"place",Q4] sp_rinto):aa P w K mg base kd 2 f (PySem.W.fnX Z0 q_tg (r_ aH) (pf aH) (i_ aH) clos .none .none doc pm none (.ref c) ctv) ["state"] (K_ .t L (aI W) (bQ W.length) λH=>p' H m L W B):=by
 refine Jt (fvs:=[.ref m]) ho rfl S r9 C (λvs H Q E h=>?_) (λA N s H v0 Q E hr h=>?_)
 .obtain ⟨k,v,rfl,_⟩:=h;rfl
 .obtain ⟨k,v,ev,O,hU,X,q⟩:=h;obtain rfl:v0=v:=by simpa using ev
  refine(_,(iy (k_ (kn ["state",Q0] rfl (!0) (Hf rfl g (kb (Gr Nb (!4) y boot_len (kb (ol 1))))) (λcl C fp s' H'=>(vi,(mr Y hr (s_ (pv 2) (pv 0) (pv 1)))))))),3);unfold uv at O;rw[if_neg (!0)]at O;let⟨b,rfl,hb⟩:=O;let G:=F.lt.hi;let hz:(tx L).length≤sizeLine:=kA (by rw[nb];show Nat.le_trans G (!0));let⟨wy,mk,T,h1,h2,h3,h4,h5⟩:=id X;dsimp only[aG];refine Km (n:=L.length) (λR h=>(n_ h1 au (0,hz,by rw[nb];show h))) (Nat.le_trans G (!0)) (λD j ys H'=>∃ts:List Addr,A3 (ys=ts.map V.ref) (ts.length=j) (∀(i:Nat)(a:Addr),ts[i]?<*a->H' a<*.tup (c_ (aI W k i)))) (λD I=>([],6,λi a e=>by simp at e)) ?_ ?_
  .intro D j ys H' R1 R2 I hj d p hp Z k2;let⟨ts,rfl,l,o⟩:=hp;refine h_ (4,0,m,b,L,W,B,j,k,3,X.same d,F,hj,d _ _ hb,λt H4 M ht=>?_)
   .rw [Int.zero_add];rfl
   let r:=M _ _ p;refine Z (.ref t) _ r (b'.set (d.trans M) I) (ts++[t],by rw[map_append];rfl,by rw[j_,l];rfl,λi u e=>?_);rcases Hr e with z|⟨rfl,rfl⟩
   .exact i0 (M _ _ (o i u z)) r (!5)
   .rw [l];show i0 ht r (!5)
  .intro D ys H' I d p hp;let⟨ts,rfl,l,o⟩:=hp;refine q D (ts.map V.ref) H' d (.inr (.inl I,p)) (by rw[ix,l]) λj x U=>?_;rw[lv]at U;let⟨a,ha,rfl⟩:=uJ U;unfold uv;rw[if_neg (!0)];show(a,1,o j a ha)
def sw(j:base.get? f<*kla_obj "<lambda>" q_tl nF nE l_scope clos pm c ctv)(i:base.CodeRec (.ref c) q_tl)(C:GF base clos l_scope [] [])(a:Hp->Prop)(U:LL):aa P w K mg base kd 1 f (kla_fn "<lambda>" q_tl nF nE l_scope clos pm (.ref c) ctv) ["state"] (dk .t nV U a):=by
 refine oa (fvs:=[]) j rfl i rZ C (λvs H Q E h=>?_) (λA d s H vs Q E n h=>?_)
 .obtain ⟨k,v,rfl,_⟩:=h;rfl
 .obtain ⟨k,v,rfl,g,o,p,q⟩:=h;refine(_,Hi KJ e_ (pv 0) (by with_unfolding_all rfl),3);unfold uv at g;rw[if_neg (!0)]at g;let⟨b,rfl,l⟩:=g;refine(0,b,0,.inr (nj.of l),1,JX _,3);let e:Hk (.int 0) (c_ k)=nV k:=bB 0 k;change Q (.bl (Hk (.int 0) (c_ k))) H;rw[e];show q H (b'.refl H)
end
def b_O:oj [Q0,Z0,Q9] [Q0] (i_ G'):=pp
def oA(g:Jq X U j H d)(sub:∀y a,b.lookup y<*a->X.env.cells.lookup y<*a)(has:∀y∈sc.names,y.2=.free->∃a,b.lookup y.1<*a):GF d b sc [] []:=
 (λy z c e f=>g.inj y z c (sub y c e) (sub z c f),has,λy c h=>g.cell y c (sub y c h),1,λi y v e f=>by simp at e)
set_option maxHeartbeats 8000000 in
def mU{P:Program}{w:World}{oc kV doc pm ct a6 aT I aM j aZ ca:Value}(lk:K.lookup f<*(oc,od,.func (fnOf "walked_turned" "walked_turned" (r_ G') (pf G') (i_ G') .none kV doc pm an (.ref c) ct),c4))(cj:codeIn K (.ref c) "walked_turned"=true)(lw:K.lookup fw<*(a6,b6,.func (fnOf "walked" "walked" (r_ vU) (pf vU) (i_ vU) (.ref tD) aT I aM an2 j aZ),osl2))(cw:codeIn K j "walked"=true)(kw:keepIn K (.ref fw)=true)(mw:mg "walked"<*.ref fw)(lD:K.lookup tD<*(ca,c5,.seq #[.none] nD,cU))(WT:Jx K mg cW fI fdI)(ab:mg "len"=none)(a2:mg "zip"=none)(a3:mg "tuple"=none)(N:mg "range"=none)(az:mg "enumerate"=none)(hC:CodeHd base c P1)(hB:HJ base mg)(DR:∀base:Heap,Df P w K mg base "rooms_into" 1 [Q0,"place",Q4] sp_rinto):aa P w K mg base kd 6 f (fnOf "walked_turned" "walked_turned" (r_ G') (pf G') (i_ G') .none kV doc pm an (.ref c) ct) [Q0] (Mc cW P1 sitesT):=by
 refine bd lk cj b_O (λvs H Q E h=>?_) (λA b5 s H vs Q E hr h=>?_)
 .obtain ⟨m,L,W,B,rfl,_⟩:=h;rfl
 .obtain ⟨m,L,W,B,rfl,hM,T,bo,hT,q⟩:=h;refine(_,(h6 (Kp (i:=1) (qual:=q_tg) (c:=c) (P0:=P1) (sites:=sitesT) b_O.nd rfl (Or.inl rfl) rfl hC hB (!3) (!3)) (h6 (j5 2 b_O.nd (vK ww (!4) a3 boot_tuple (kb (Kv [Q0,Z0,Q9] rfl (!0) (LQ rfl az (kb (ol 0))) (λcl C fp s' H'=>(dI (vh (pv 1)),pv 0)))))) (iy (k_ (dO (dvs:=[.non]) rfl mw kw (df (kV:=aT) (doc:=I) (pm:=aM) (an:=an2) (cdv:=j) (ct:=aZ) lD) (.cons rfl .nil) (GX (ol 0) (s_ (pv 2) (pv 1) (mI (qual:=q_tl) (c:=c) (P0:=P1) (sites:=sitesT) rfl hC hB (!3) (!3)))) (λ_=>rfl)))))),3);refine(hT,λa0 v p H1 a5 bm dp c8 s1 bt be bb=>?_);let b0:p' H1 m L W B:=hM.tups (Ks s1 hT);let⟨wy,mk,cB,h1,h2,h3,h4,h5⟩:=id b0;let bg:=T.bl;let a8:=T.n60;dsimp only[uY];dsimp only[tNext,ax,ar,vY,uA,wg,vn];refine Nw (c:=mk) (λR h=>(n_ h1 aC h)) (.inr rfl) h3 (λD i ys H'=>ys=c_ ((List.range i).filter λr=>B.getD r false)) (by rw[ix,bg];show kA (Nat.le_trans a8 (!0))) (λD hD=>rfl) ?_ ?_
  .intro D i x ys H' H3 R1 R2 hD hx O U hp g k1 k2;rw[lv]at hx;let⟨b,G,rfl⟩:=uJ hx;let eb:B.getD i false=b:=by rw[mu,G];rfl
   refine(4,3);cases b with
   |true=>
    refine am (0,k1 _ H3 (g _ _ U) (b'.set (O.trans g) hD) ?_);rw[hp,t_,eb];show(IB _ _).symm
   |false=>
    refine af (k2 H3 (O.trans g) (g _ _ U) ?_);rw[hp,t_,eb];simp
  intro D ys H2 hD O U hp;rw[ix,bg]at hp;subst hp;refine(D,0,.inl (i4.of U,λst ce=>?_));let s2:b' H1 (L2.upd H2 st (.tup (c_ ((List.range W.length).filter λr=>B.getD r false)))):=O.trans (b'.upd ce);let ai:L2.upd H2 st (.tup (c_ ((List.range W.length).filter λr=>B.getD r false))) st<*.tup (c_ (vB W B)):=a_;generalize L2.upd H2 st (.tup (c_ ((List.range W.length).filter λr=>B.getD r false)))=H3 at s2 ai;let S:=Js bt s2;refine(n_ (s2 _ _ h1) au (4,S,λcx X Y M a4 bk dm c7 s4 cp bc a9=>?_));let⟨cZ,cs,_⟩:=id bt;let⟨cV,dd,_⟩:=id S;let⟨b4,cq,cd,aU⟩:=id cp;let nP:∀{b:Addr}{Z:Heap->Prop},H1 b<*.ext Z->b≠P1:=λ{b Z}e z=>by rw[z,cs]at e;cases e
  let ap:M v<*uM v Z0 q_tg (r_ aH) (pf aH) (i_ aH) a0 p:=s4 v _ (nP bb) (s2 _ _ bb);let as:M p<*l' p q_tg:=s4 p _ (nP be) (s2 _ _ be);let cu:p' M m L W B:=(b0.same s2).tups (Ks s4 S);let ac:M st<*.tup (c_ (vB W B)):=Ks s4 S _ _ ai;let bs:∀u∈[v,X,p,Y],∃Z,M u<*.ext Z:=λu hu=>by
   simp only[mem_cons,not_mem_nil,or_false]at hu;rcases hu with rfl|rfl|rfl|rfl
   .exact (_,ap)
   .exact (_,a9)
   .exact (_,as)
   .exact (_,bc)
  refine([v,X,p,Y],bs,λd Wd=>?_);let⟨cI,c3,cM,b2⟩:=Wd.ext v _ (!1) ap;let⟨c0,cJ,b1⟩:=Wd.ext X _ (!1) a9;let cz:d.CodeRec (.ref p) q_tg:=Wd.ext p _ (!1) as;let cy:d.CodeRec (.ref Y) q_tl:=Wd.ext Y _ (!1) bc;let C1:=KB (sc:=i_ aH) (m:=m) Wd a5 bm rfl rfl rfl rfl (!3);let C2:=oA (sc:=l_scope) Wd a4 bk;let Fw:lE K "walked" "walked" vU fw _:=((a6,b6,.ref tD,aT,I,aM,an2,j,aZ,osl2,1,lw,cw),kw);refine((5),K' cW .t L (aI W) nV (bQ W.length) (λH=>p' H m L W B) v X,hr,Ma Fw WT ab a2 ((sx b2 cz C1 T ab N (DR d)).mono (!0)) ((sw b1 cy C2 _ _).mono (!0)) b2 (_,rfl) b1 (_,rfl) (.all λus hl=>by let⟨_,rfl⟩:=IK hl;rfl) (.all λus hl=>by let⟨_,rfl⟩:=IK hl;rfl) (λ_ _ s h=>h.same s),3);let F:∀{b:Addr}{o:HO},M b<*o->(∀Z,o≠.ext Z)->b∉[v,X,p,Y]:=λ{b o}e ho G=>by
   let⟨Z,e2⟩:=bs b G;rw[e]at e2;show ho Z (Option.some.inj e2)
  refine(vB W B,.ref st,none,1,T.lt,3,Lm _ _,λk hk q hq=>Lm _ _,Nat.le_trans (fi bo) (!0),cu.tups λb xs e=>by rw[wD (F e (λ_ z=>nomatch z))];show e,λwk t wd y md ks cT ws aF R Bm H5 b3 hW ht dc cc hy a7 ch bf a1 bl cb sub le he co=>?_)
  .unfold uv;rw[if_neg (!0)];show(st,1,by change ut [v,X,p,Y] M st=_;rw[wD (F ac (λ_ z=>nomatch z))];show ac)
  let hR:R.length=ks.length:=by
   rcases he with z|⟨n,z,_⟩
   .exact z
   .cases z
  let l:∀{b:Addr}{o:HO},H5 b<*o->aN [v,X,p,Y] M H5 b<*o:=λ{b o}e=>by
   rw[Ih λG=>?_]
   .exact e
   .rw [co b G]at e;cases e
  let aV:∀{b:Addr}{o:HO},M b<*o->aN [v,X,p,Y] M H5 b<*o:=λ{b o}e=>by
   by_cases G:b∈[v,X,p,Y]
   .rw [Kq G];show e
   .exact l (b3 b o (by rw[wD G];show e))
  rw[hR]at bf;let⟨dx,ew⟩:=hW.ex;show q wk t wd y md ks ws aF R Bm _ (λb o G e=>aV (s4 b o G (s2 _ _ (s1 b o G e)))) (b4,aV cq,cd,λx hx=>(aU x hx).imp id λcn=>by let⟨c',e1,e2⟩:=cn;show(c',e1,aV e2)) (dx,l ew) (l cc) (l hy) (a7.1,λi a r e1 e2=>l (a7.2 i a r e1 e2)) (l ch) bf a1 hR bl cb (Nat.le_trans le (fi bo))
inductive sp_numberof(vs:List V)(H:Hp)(Q:VK)(_E:XK):Prop
 |mk (L w:LN) (_:vs=[.str (tx L),.str (tx w)]) (_:vN L) (_:(∀c∈w,c∈L)) (_:Q (.int (val L 0 w)) H)
instance Hb:Stmt:=p_ 51
instance q_al:Str:="turned_about.<locals>.<lambda>"
instance pO:Expr:=match (pf Hb).getD 0 (.Pass ((0),(0),(0),(0)))with
 |.Return (some (.Call _ _ [⟨_,l,_⟩] _)) _=>l
 |_=>.Name "" ((0),(0),(0),(0))
instance jS:Arguments:=match pO with|.Lambda a _ _ _=>a|_=>([],[],none,[],[],none,[])
instance jR:Expr:=match pO with|.Lambda _ b _ _=>b|_=>.Name "" ((0),(0),(0),(0))
instance al_scope:Scope:=match pO with|.Lambda _ _ s _=>s|_=>i_ Hb
instance rp:Pos:=match pO with|.Lambda _ _ _ p=>p|_=>((0),(0),(0),(0))
abbrev sitesA:List (Pos×Str):=[(rp,q_al,)]
def sf:Iv [Z3,Q3] [Z3] [Q3] al_scope:=(6,1,!3,6,!0,!3,!3)
inductive p9(L:LN)(vs:List V)(H:Hp)(Q:VK)(_E:XK):Prop
 |mk (w:LN) (_:vs=[.str (tx w)]) (_:(∀c∈w,c∈L)) (_:Q (.int (val L 0 w)) H)
section
variable{P:Program}{w:World}{K:Frag}{mg:Str->Option Value}{base:Heap}{f c:Addr}{clos:List (Str×Addr)}{ctv:Value}{L:LN}
def sE(g:base.get? f<*kla_obj "<lambda>" q_al jS jR al_scope clos pm c ctv)(b:base.CodeRec (.ref c) q_al)(C:GF base clos al_scope [Q3] [.str (tx L)])(i:vN L)(d:Df P w K mg base "number_of" 3 [Q3,Z3] sp_numberof):aa P w K mg base kd 4 f (kla_fn "<lambda>" q_al jS jR al_scope clos pm (.ref c) ctv) [Z3] (p9 L):=by
 refine oa (fvs:=[.str (tx L)]) g rfl b sf C (λvs H Q E h=>?_) (λA a s H vs Q E e h=>?_)
 .obtain ⟨w,rfl,_⟩:=h;rfl
 .obtain ⟨w,rfl,hw,q⟩:=h;refine(_,(mr d e (o5 (pv 1) (pv 0))),3);show(4,L,w,1,i,hw,q)
end
inductive Md(P3:Addr)(sitesA:List (Pos×Str))(vs:List V)(H:Hp)(Q:VK)(_E:XK):Prop
 |mk (L:LN) (l:Addr) (ws:LL) (_:vs=[.str (tx L),.ref l]) (_:H l<*.lst (d_ ws)) (_:vN L) (_:(∀w∈ws,(∀c∈w,c∈L)/\w.length≤1000)) (_:ws.length≤100000) (_:uG H P3 sitesA) (_:∀(D:Addr)(us:LL)(H':Hp),vP P3 H H'->uG H' P3 sitesA->H' D<*.lst (d_ us)->us.Perm (ws.map reverse)->us.Pairwise (λa b=>val L 0 a≤val L 0 b)->Q (.ref D) H')
def NZ:oj [Q3,Q6] [Q3,Q6] (i_ Hb):=pp
def oz(j:Jq X U m H e)(sub:∀y a,b.lookup y<*a->X.env.cells.lookup y<*a)(has:∀y∈sc.names,y.2=.free->∃a,b.lookup y.1<*a)(q:X.N[0]?<*Q3)(g:m[0]?<*some v0)(p:X.env.scope.names.lookup Q3<*.cell)(o:sc.names.lookup Q3<*.free)(n:((Q3:Str),NameKind.free,)∈sc.names):GF e b sc [Q3] [v0]:=by
 refine(λy z c d f=>j.inj y z c (sub y c d) (sub z c f),has,λy c h=>j.cell y c (sub y c h),1,λi y v d f=>?_);match i,d,f with
 |0,d,f=>
  cases d;cases f;let⟨a,k⟩:=has _ n rfl;let⟨c,u,t,s,r⟩:=j.val 0 Q3 v0 q g p;let l:=sub _ _ k;rw[t]at l;cases l;show(o,_,u,k,s,r)
 |i+1,d,_=>simp at d
abbrev pE(L:LN)(w:LN):Int×V:=(val L 0 w,.str (tx w),)
def gj(L:LN):∀vs:LL,Paired (λw p=>p=pE L w) vs ((vs.map (val L 0)).zip (d_ vs))
 |[]=>.nil
 |_::vs=>.cons rfl (gj L vs)
def jE{L:LN}:∀{a:LL}{ps:List (Int×V)},Paired (λw p=>p=pE L w) a ps->ps=a.map (pE L)
 |_,_,.nil=>rfl
 |_,_,.cons r t=>congr (congrArg List.cons r) (jE t)
set_option maxHeartbeats 8000000 in
def kz{oc kV doc pm ct:Value}(lk:K.lookup f<*(oc,od,.func (fnOf "turned_about" "turned_about" (r_ Hb) (pf Hb) (i_ Hb) .none kV doc pm an (.ref c) ct),aF))(X:codeIn K (.ref c) "turned_about"=true)(k:mg "sorted"=none)(hC:CodeHd base c P3)(hB:HJ base mg)(DN:∀base:Heap,Df P w K mg base "number_of" 3 [Q3,Z3] sp_numberof):aa P w K mg base kd 7 f (fnOf "turned_about" "turned_about" (r_ Hb) (pf Hb) (i_ Hb) .none kV doc pm an (.ref c) ct) [Q3,Q6] (Md P3 sitesA):=by
 refine bd lk X NZ (λvs H Q E h=>?_) (λA T s H vs Q E hr h=>?_)
 .obtain ⟨L,l,ws,rfl,_⟩:=h;rfl
 .obtain ⟨L,l,ws,rfl,W,hL,r,hz,hT,q⟩:=h;refine(_,(iy (k_ (mH rfl k PyProof.Rows.boot_sorted (kb (wH [Q3,Q6] rfl (!0) (wA (pv 1)) (λcl C fp s' H'=>(vi,o9 (pv 0) (Hj (aP IS e_))))))
   (o6 (mI (qual:=q_al) (c:=c) (P0:=P3) (sites:=sitesA) rfl hC hB (!3) (!3)) qD) (λ_=>rfl)))),3)
  dsimp only[aG,ma,uA,tNil];refine HH (a:=l) (λR h=>(0,h)) (.inl rfl) W (λD j ys H'=>ys=d_ ((ws.take j).map reverse)) (by rw[d_,ix];show kA (!2)) (λD hD=>rfl) ?_ ?_
  .intro D j x ys H' R1 R2 hD p U ab hp k1 k2;rw[d_,lv]at p;let⟨u,g,rfl⟩:=uJ p;let aM:=(r u (pa g)).2;refine h_ (4,0,u,6,!2,k1 _ H' ab (b'.set U hD) ?_);rw[hp,FG g,map_append,d_,d_,map_append];rfl
  intro D ys H1 hD s1 M hp;rw[show(d_ ws).length=ws.length from ix ..,take_length]at hp;subst hp;let G:=Js hT s1;refine(G,λas N O H2 sub has fr ne s2 Z B z=>?_);let t:∀u∈ws.map reverse,∀c∈u,c∈L:=λu g c hc=>by
   let⟨v,hv,rfl⟩:=mem_map.mp g;show(r v hv).1 c (mem_reverse.mp hc)
  let y:(ws.map reverse).length≤1000000:=by rw[ix];lia
  generalize ws.map reverse=vs at M t y q;let Y:∀u∈[N,O],∃φ,H2 u<*.ext φ:=λu g=>by
   simp only[mem_cons,not_mem_nil,or_false]at g;rcases g with rfl|rfl
   .exact (_,z)
   .exact (_,B)
  refine(D,N,_,vs.map (val L 0),[N,O],6,nG s2 G M,by rw[d_,ix,ix],by rw[d_,ix];show y,Y,λH3 i x n m p hn d Wd=>?_,λD2 H3 ps m I pm pw=>?_)
  .rw [d_,lv]at p;let⟨u,g,rfl⟩:=uJ p;rw[lv,g]at hn;cases hn;let⟨az,ap,ac⟩:=Wd.ext N _ (!1) (m _ _ z);let ai:d.CodeRec (.ref O) q_al:=Wd.ext O _ (!1) (m _ _ B);let C1:=oz (sc:=al_scope) (v0:=.str (tx L)) Wd sub has rfl rfl rfl rfl (!3);refine((4),_,[Z3],p9 L,hr,sE ac ai C1 hL (DN d),.all λS W=>by let⟨_,rfl⟩:=IK W;rfl,u,rfl,t u (pa g),λaT=>(1,λb o e=>?_));by_cases F:b∈[N,O]
   .rw [Kq F];show e
   .rw [Ih F,wD F];show e
  .obtain ⟨S,pu,pr⟩:=Paired.perm pm (gj L vs);let e:=jE pr;subst e;rw[pairwise_map]at pw;let e2:(S.map (pE L)).map Prod.snd=d_ S:=by rw[map_map];rfl
   rw[e2];show q D2 S _ (λb o F e=>n7 (m _ _ (s2 b o F (s1 _ _ e))) I) (Js (Js Z m) (b'.upd I)) a_ pu pw
instance Me:Stmt:=p_ 103
instance Mf:Stmt:=p_ 104
instance Mh:Stmt:=p_ 106
instance Mi:Stmt:=p_ 107
instance Mj:Stmt:=p_ 108
instance Ml:Stmt:=p_ 110
instance Mm:Stmt:=p_ 109
instance Mn:Stmt:=p_ 111
instance Mo:Stmt:=p_ 112
instance Mq:Stmt:=p_ 113
instance Mr:Stmt:=p_ 114
instance Ms:Stmt:=p_ 115
instance Mt:Stmt:=p_ 119
instance Mu:Stmt:=p_ 8
instance Mw:Stmt:=p_ 22
instance Mx:Stmt:=p_ 23
instance My:Stmt:=p_ 11
instance Mz:Stmt:=p_ 20
instance dD:Stmt:=p_ 21
instance MA:Stmt:=p_ 14
instance MB:Stmt:=p_ 15
instance MC:Stmt:=p_ 13
instance MD:Stmt:=p_ 17
instance ME:Stmt:=p_ 30
instance MF:Stmt:=p_ 39
instance MG:Stmt:=p_ 16
instance MH:Stmt:=p_ 18
instance dE:Stmt:=p_ 31
instance MI:Stmt:=p_ 33
instance MJ:Stmt:=p_ 34
instance MK:Stmt:=p_ 37
instance ML:Stmt:=p_ 9
instance MM:Stmt:=p_ 10
instance MN:Stmt:=p_ 41
instance MO:Stmt:=p_ 52
instance MP:Stmt:=p_ 101
instance MQ:Stmt:=p_ 116
instance MR:Stmt:=p_ 117
instance MS:Stmt:=p_ 118
instance MT:Stmt:=p_ 48
instance MU:Stmt:=p_ 49
instance MV:Stmt:=p_ 50
instance MW:Stmt:=p_ 46
instance MX:Stmt:=p_ 44
instance ii:Stmt:=p_ 100
instance MY:Stmt:=p_ 123
instance MZ:Stmt:=p_ 121
instance M1:Stmt:=p_ 120
instance M2:Stmt:=p_ 124
instance M4:Stmt:=p_ 122
instance IL:Stmt:=p_ 125
structure Txt(K:Frag)(mg:Str->Option Value):Prop where
 len:mg "len"=none
 range:mg "range"=none
 isinst:mg "isinstance"=none
 int:mg "int"=none
 bool:mg "bool"=none
 tuple:mg "tuple"=none
 list:mg "list"=none
 str:mg "str"=none
 zip:mg "zip"=none
 max:mg "max"=none
 enumerate:mg "enumerate"=none
 all:mg "all"=none
 reversed:mg "reversed"=none
 sorted:mg "sorted"=none
inductive Jj(K:Frag)(vs:List V)(H:Hp)(Q:VK)(_E:XK):Prop
 |mk (a:Addr) (ns:List Int) (k:Int) (_:vs=[.ref a,.int k]) (_:i4 K H a (ns.map V.int)) (_:0≤k) (_:∀z,Q (.int z) H)
inductive sp_letters(vs:List V)(H:Hp)(Q:VK)(_E:XK):Prop
 |mk (c:Int) (_:vs=[.int c]) (_:∀L,vN L->Q (.str (tx L)) H)
inductive M5(K:Frag)(vs:List V)(H:Hp)(Q:VK)(_E:XK):Prop
 |mk (a:Addr) (ns:List Int) (p:Int) (n:Nat) (L:LN) (_:vs=[.ref a,.int p,.int (n:Int),.str (tx L)]) (_:i4 K H a (ns.map V.int)) (_:0≤p) (_:1≤n) (_:n≤60) (_:vN L) (_:∀(m:Addr)(W:LL)(B:List Bool)(H':Hp),b' H H'->p' H' m L W B->hF L W B->W.length=n->Q (.ref m) H')
inductive Lr(K:Frag)(vs:List V)(H:Hp)(Q:VK)(_E:XK):Prop
 |mk (a:Addr) (ns:List Int) (n:Nat) (_:vs=[.ref a,.int (n:Int)]) (_:i4 K H a (ns.map V.int)) (_:n≤60) (_:∀(t:Addr)(B:List Bool)(H':Hp),b' H H'->H' t<*.tup (B.map V.bl)->B.length=n->Q (.ref t) H')
inductive fo(K:Frag)(vs:List V)(H:Hp)(Q:VK)(_E:XK):Prop
 |mk (a:Addr) (ns:List Int) (L:LN) (st:Bool) (_:vs=[.ref a,.str (tx L),.bl st]) (_:i4 K H a (ns.map V.int)) (_:vN L) (_:∀(m:Addr)(W:LL)(B:List Bool)(H':Hp),b' H H'->p' H' m L W B->hF L W B->W.length≤8->Q (.ref m) H')
inductive Jy(K:Frag)(vs:List V)(H:Hp)(Q:VK)(_E:XK):Prop
 |mk (a:Addr) (ns:List Int) (L:LN) (_:vs=[.ref a,.str (tx L)]) (_:i4 K H a (ns.map V.int)) (_:vN L) (_:∀(m:Addr)(W:LL)(B:List Bool)(H':Hp),b' H H'->p' H' m L W B->hF L W B->W.length≤8->Q (.ref m) H')
def sG(h:vN L):∃C:Nat,ux [V.int 6,.int 2,.int 1] (((tx L).length:Nat)-1:Int)=some (.int (C:Int))/\1≤C/\((L.length=1/\C≤6)\/(L.length=2/\C≤2)\/(L.length=3/\C≤1)):=by
 let b:=h.lo;let a:=h.hi;rw[nb];have:L.length=1\/L.length=2\/L.length=3:=by lia
 rcases this with e|e|e
 .exact ((6),by rw[e];rfl,!0,.inl (e,Nat.le_refl _))
 .exact ((2),by rw[e];rfl,!0,.inr (.inl (e,Nat.le_refl _)))
 .exact ((1),by rw[e];rfl,!0,.inr (.inr (e,Nat.le_refl _)))
structure uO(P:Program)(w:World)(H H':Hp)(dd ll wa:Addr)(L:LN)(s at0:Nat)(ws:LL)(rows:List Addr)(W:LL):Prop where
 sm:b' H H'
 pd:H' dd<*uu (sK P w) dd (FL ws 0)
 lb:H' ll<*.lst (d_ ws)
 wy:H' wa<*.lst (rows.map V.ref)
 nd:ws.Nodup
 wd:∀v∈ws,v.length≤s/\∀c∈v,c∈L
 rl:rows.length=at0
 wl:W.length=at0
 ra:BF H' rows W
 rb:∀r∈W,r.length=L.length/\∀x∈r,x<ws.length
 le:at0≤ws.length
 ne:0<ws.length
 d0:H dd=none
 l0:H ll=none
 w0:H wa=none
 lw:ll≠wa
def b8(h:BF H a W)(s:∀b xs,H b<*.tup xs->H' b<*.tup xs):BF H' a W:=λi r e=>let⟨v,d,c⟩:=h i r e;(v,d,s _ _ c)
section
variable{P:Program}{w:World}{H H' H2:Hp}{dd ll wa rw:Addr}{L:LN}{s at0:Nat}{ws W:LL}{rows:List Addr}
def uO.keep(h:uO P w H H' dd ll wa L s at0 ws rows W)(k:b' H' H2):uO P w H H2 dd ll wa L s at0 ws rows W:={h with sm:=h.sm.trans k,pd:=k _ _ h.pd,lb:=k _ _ h.lb,wy:=k _ _ h.wy,ra:=h.ra.same k}
def uO.other(h:uO P w H H' dd ll wa L s at0 ws rows W)(h0:H rw=none)(a:H' rw<*.lst xs)(d:ll≠rw)(c:wa≠rw):uO P w H (L2.upd H' rw o) dd ll wa L s at0 ws rows W:=
 {h with sm:=b'.set h.sm h0,pd:=i0 h.pd a (by intro z;unfold uu at z;cases z),lb:=by rw[b_ d];show h.lb,wy:=by rw[b_ c];show h.wy,ra:=b8 h.ra λb ys e=>i0 e a (!5)}
def uO.add(h:uO P w H H' dd ll wa L s at0 ws rows W)(j:u∉ws)(k:u.length≤s)(l:∀c∈u,c∈L):uO P w H (L2.upd (L2.upd H' dd (uu (sK P w) dd (FL (ws++[u]) 0))) ll (.lst (d_ (ws++[u])))) dd ll wa L s at0 (ws++[u]) rows W:=by
 let dl:dd≠ll:=m3 h.pd h.lb (by intro z;unfold uu at z;cases z);let o:dd≠wa:=m3 h.pd h.wy (by intro z;unfold uu at z;cases z);let d:L2.upd H' dd (uu (sK P w) dd (FL (ws++[u]) 0)) ll<*.lst (d_ ws):=by rw[b_ (Ne.symm dl)];show h.lb
 refine {h with sm:=b'.set (b'.set h.sm h.d0) h.l0,pd:=by rw[b_ dl];show a_,lb:=a_,wy:=by rw[b_ (Ne.symm h.lw),b_ (Ne.symm o)];show h.wy,nd:=?_,wd:=λv i=>?_,ra:=b8 h.ra λb ys e=>i0 (i0 e h.pd (by intro z;unfold uu at z;cases z)) d (!5),rb:=λr f=>((h.rb r f).1,λx g=>?_),le:=?_,ne:=by rw[j_];show lt_of_lt_of_le h.ne (le_add_right _ _)}
 .rw [nodup_append];show(h.nd,!1,λa n b m z=>by rw[t5 m]at z;show j (z▸n))
 .rcases mem_append.mp i with z|z
  .exact h.wd v z
  .rw [t5 z];show(k,l)
 .rw [j_];show lt_of_lt_of_le ((h.rb r f).2 x g) (le_add_right _ _)
 .rw [j_];show Nat.le_trans h.le (le_add_right _ _)
def uO.few(h:uO P w H H' dd ll wa L s at0 ws rows W)(b:(vQ L s).length≤7):ws.length≤7:=Nat.le_trans (fR h.nd λv a=>Nu (h.wd v a).1 (h.wd v a).2) b
end
structure lr(H0 H':Hp)(rl tl:Addr)(rws:List Addr)(ts:LL)(S lows:LN)(vs:List V):Prop where
 sm:b' H0 H'
 r0:H0 rl=none
 hr:H' rl<*.lst (rws.map V.ref)
 rn:rws.length=S.length
 ll:lows.length=S.length
 rr:∀(i:Nat)(r:Addr),rws[i]?<*r->H' r<*.tup [.int ((lows.getD i 0:Nat):Int),.int ((S.getD i 0:Nat):Int)]
 lo:∀i,i<S.length->lows.getD i 0<S.getD i 0
 ht:H' tl<*.lst vs
 th:wF .t H' ts vs
 ta:ID ts S
 ne:1≤ts.length
 tr:tl≠rl
def lr.keep(h:lr j H' f d c ts S a vs)(k:b' H' g):lr j g f d c ts S a vs:=
 {h with sm:=h.sm.trans k,hr:=k _ _ h.hr,rr:=λi r e=>k _ _ (h.rr i r e),ht:=k _ _ h.ht,th:=h.th.same λb xs e=>k _ _ e}
def NB(e:H b<*.tup (c_ k)):uv .t H k (.ref b):=by
 unfold uv;rw[if_neg (!0)];show(b,1,e)
def rH(h:uv .t H k v):∃b,v=.ref b/\H b<*.tup (c_ k):=by
 unfold uv at h;rw[if_neg (!0)]at h;show h
def lq(c:wF .t H f xs)(d:wF .t H e ys):wF .t H (f++e) (xs++ys):=by
 refine(by rw[j_,j_,c.1,d.1],λi k v a b=>?_);by_cases z:i<xs.length
 .rw [getElem?_append_left (by rw[<-c.1];show z)]at a;rw[getElem?_append_left z]at b;show c.2 i k v a b
 .rw [getElem?_append_right (by rw[<-c.1];lia),<-c.1]at a;rw[getElem?_append_right (!6)]at b;show d.2 _ k v a b
def ud{k:Nat}(m:cc.length≤1000)(e:H' g<*.tup (c_ cc))(h:∀f d,b' H' d->d f<*.tup (c_ (cc++[k]))->j (.ref f) d)(a:Addr)(b:H' a=none):rCatV (.ref g) (.ref a) (L2.upd H' a (.tup [.int (0+(k:Int))])) j:=by
 let s:=b'.upd (o:=.tup [.int (0+(k:Int))]) b;refine(g,a,2,s _ _ e,a_,by rw[f_];show kA (by change cc.length+1≤16777216;lia),λp l i c=>h p l (s.trans i) ?_);rw[c,Int.zero_add,IB]
def ow{n:Nat}(u:∀R:List V->Hp->Prop,R [.int (n:Int)] H->t q H R)(x:n≤1000)(o:H A<*.tup (c_ cc))(m:∀(k:Nat)(H':Hp)(j:VK),(∀h g,b' H' g->g h<*.tup (c_ (cc++[k]))->j (.ref h) g)->H' A<*.tup (c_ cc)->r (some (.int (0+(k:Int)))::q) H' j)(w:∀D ys H',b' H H'->H' D<*.lst ys->ys.length=n->wF .t H' ((List.range n).map λk=>cc++[k]) ys->Q (.ref D) H'):GP (jH t) tAlways r q H Q:=by
 refine Km (n:=n) u (Nat.le_trans x (!0)) (λD k ys H'=>wF .t H' ((List.range k).map λk=>cc++[k]) ys) (λD p=>(1,λi k v a=>by simp at a)) ?_ ?_
 .intro D k ys H' j R2 p C c d hp s B;refine h_ (m k H' j (λh g l y=>?_) (c _ _ o));let f:=l _ _ d;refine s (.ref h) g f (b'.set (c.trans l) p) ?_;rw[range_succ,map_append,List.map_singleton];show((hp.same λb xs e=>l _ _ e).same λb xs e=>i0 e f (!5)).snoc (NB (i0 y f (!5)))
 .intro D ys H' p c d hp;show w D ys H' c d (by rw[hp.1,ix,length_range]) hp
inductive fq(K:Frag)(vs:List V)(H:Hp)(Q:VK)(_E:XK):Prop
 |mk (a:Addr) (ns:List Int) (L:LN) (k:Int) (_:vs=[.ref a,.str (tx L),.int k]) (_:i4 K H a (ns.map V.int)) (_:vN L) (_:∀(m:Addr)(W:LL)(B:List Bool)(H':Hp),b' H H'->p' H' m L W B->hF L W B->W.length≤8->Q (.ref m) H')
inductive sp_after(vs:List V)(H:Hp)(Q:VK)(_E:XK):Prop
 |mk (m:Addr) (L:LN) (W:LL) (B:List Bool) (r:Nat) (w:LN) (_:vs=[.ref m,.int (r:Int),.str (tx w)]) (_:p' H m L W B) (_:hF L W B) (_:r<W.length) (_:(∀c∈w,c∈L)) (_:Q (.int (run L W r w:Nat)) H)
inductive sp_isword(vs:List V)(H:Hp)(Q:VK)(_E:XK):Prop
 |mk (L w:LN) (_:vs=[.str (tx w),.str (tx L)]) (_:(∀c∈w,c∈L)) (_:w.length≤10000) (_:∀H',b' H H'->Q (.bl true) H')
inductive sp__law_earlier(vs:List V)(H:Hp)(Q:VK)(_E:XK):Prop
 |mk (L a b:LN) (_:vs=[.str (tx L),.str (tx a),.str (tx b)]) (_:vN L) (_:(∀c∈a,c∈L)) (_:(∀c∈b,c∈L)) (_:a.length≤5000) (_:b.length≤5000) (_:∀H',b' H H'->Q (.bl (o4 L a b)) H')
inductive sp_inord51(vs:List V)(H:Hp)(Q:VK)(_E:XK):Prop
 |mk (l:Addr) (L:LN) (vs0:LL) (_:vs=[.ref l,.str (tx L)]) (_:H l<*.lst (d_ vs0)) (_:vN L) (_:vs0.length≤10000) (_:(∀v∈vs0,v.length≤100/\∀c∈v,c∈L)) (_:(∀(i:Nat)(a b:LN),vs0[i]?<*a->vs0[i+1]?<*b->o4 L a b=true)) (_:∀H',b' H H'->Q (.bl true) H')
inductive sp_is_whole(vs:List V)(H:Hp)(Q:VK)(_E:XK):Prop
 |mk (i:Int) (_:vs=[.int i]) (_:Q (.bl true) H)
inductive sp_isroom(vs:List V)(H:Hp)(Q:VK)(_E:XK):Prop
 |mk (i n:Int) (_:vs=[.int i,.int n]) (_:0≤i) (_:i<n) (_:Q (.bl true) H)
inductive sp_needroom(vs:List V)(H:Hp)(Q:VK)(_E:XK):Prop
 |mk (m:Addr) (L:LN) (W:LL) (B:List Bool) (r:Nat) (_:vs=[.ref m,.int (r:Int)]) (_:p' H m L W B) (_:hF L W B) (_:r<W.length) (_:Q .non H)
inductive sp_needword(vs:List V)(H:Hp)(Q:VK)(_E:XK):Prop
 |mk (L w:LN) (_:vs=[.str (tx L),.str (tx w)]) (_:(∀c∈w,c∈L)) (_:Q .non H)
inductive sp_roomafter(vs:List V)(H:Hp)(Q:VK)(_E:XK):Prop
 |mk (m:Addr) (L:LN) (W:LL) (B:List Bool) (r:Nat) (w:LN) (_:vs=[.ref m,.int (r:Int),.str (tx w)]) (_:p' H m L W B) (_:hF L W B) (_:r<W.length) (_:(∀c∈w,c∈L)) (_:Q (.int (run L W r w:Nat)) H)
inductive sp_takes(vs:List V)(H:Hp)(Q:VK)(_E:XK):Prop
 |mk (m:Addr) (L:LN) (W:LL) (B:List Bool) (w:LN) (_:vs=[.ref m,.str (tx w)]) (_:p' H m L W B) (_:hF L W B) (_:(∀c∈w,c∈L)) (_:Q (.bl (B.getD (run L W 0 w) false)) H)
inductive sp_numbered(vs:List V)(H:Hp)(Q:VK)(_E:XK):Prop
 |mk (a:Addr) (o:HO) (xs:List V) (ks:List KS) (nest:Bool) (_:vs=[.ref a]) (_:(o=.lst xs\/o=.tup xs)) (_:H a<*o) (_:xs.length=ks.length) (_:ks.length≤2100) (_:(∀(i:Nat)(k:KS)(x:V),ks[i]?<*k->xs[i]?<*x->gX H k x/\K2 k=nest)) (_:∀p H',b' H H'->H' p<*.lst (c_ (ak ks))->Q (.ref p) H')
inductive sp_manyM(vs:List V)(H:Hp)(Q:VK)(_E:XK):Prop
 |mk (a:Addr) (ns:LN) (_:vs=[.ref a]) (_:H a<*.lst (c_ ns)) (_:0<ns.length) (_:∀M∈ns,(∀x∈ns,x≤M)->Q (.int ((M:Int)+1)) H)
inductive sp_roundsQ(vs:List V)(H:Hp)(Q:VK)(_E:XK):Prop
 |mk (wy mk:Addr) (rows:List Addr) (o om:HO) (L:LN) (W:LL) (B:List Bool) (_:vs=[.ref wy,.ref mk,.int ((W.length:Nat):Int)]) (_:(o=.lst (rows.map V.ref)\/o=.tup (rows.map V.ref))) (_:H wy<*o) (_:(om=.lst (B.map V.bl)\/om=.tup (B.map V.bl))) (_:H mk<*om) (_:rows.length=W.length) (_:qf H rows W) (_:hF L W B) (_:∀(p:Addr)(lots:List Addr)(k:Nat)(H':Hp),b' H H'->H' p<*.lst (lots.map V.ref)->lots.length=k+1->JV H' lots W B->Rd W B (k+1)=Rd W B k->k≤4410000->Q (.ref p) H')
inductive sp_pword(vs:List V)(H:Hp)(Q:VK)(_E:XK):Prop
 |mk (wy p:Addr) (rows lots:List Addr) (L:LN) (W:LL) (B:List Bool) (k r s:Nat) (_:vs=[.str (tx L),.ref wy,.ref p,.int (r:Int),.int (s:Int)]) (_:H wy<*.tup (rows.map V.ref)) (_:rows.length=W.length) (_:BF H rows W) (_:hF L W B) (_:H p<*.lst (lots.map V.ref)) (_:lots.length=k+1) (_:JV H lots W B) (_:Rd W B (k+1)=Rd W B k) (_:k≤4410000) (_:r<W.length) (_:s<W.length) (_:∀o H',b' H H'->bO L W B r s o->Q (oV o) H')
inductive sp_part56(vs:List V)(H:Hp)(Q:VK)(_E:XK):Prop
 |mk (m:Addr) (L:LN) (W:LL) (B:List Bool) (r s:Nat) (_:vs=[.ref m,.int (r:Int),.int (s:Int)]) (_:p' H m L W B) (_:hF L W B) (_:r<W.length) (_:s<W.length) (_:∀o H',b' H H'->bO L W B r s o->Q (oV o) H')
inductive sp_parted(vs:List V)(H:Hp)(Q:VK)(_E:XK):Prop
 |mk (m:Addr) (L:LN) (W:LL) (B:List Bool) (W0:LL) (B0:List Bool) (u v:LN) (_:vs=[.ref m,.str (tx u),.str (tx v)]) (_:p' H m L W B) (_:wm L W0 B0 W B) (_:W.length≤8) (_:(∀c∈u,c∈L)) (_:(∀c∈v,c∈L)) (_:u.length≤1000) (_:v.length≤1000) (_:run L W 0 u≠run L W 0 v) (_:∀(t:Addr)(x y z:LN)(H':Hp),b' H H'->H' t<*.tup [.str (tx x),.str (tx y),.str (tx z)]->((x=u/\y=v)\/(x=v/\y=u))->(∀c∈z,c∈L)->z.length≤8->B.getD (run L W 0 (x++z)) false=true->B.getD (run L W 0 (y++z)) false=false->Q (.ref t) H')
inductive sp_firstrooms(vs:List V)(H:Hp)(Q:VK)(_E:XK):Prop
 |mk (a:Addr) (ns:LN) (_:vs=[.ref a]) (_:H a<*.lst (c_ ns)) (_:0<ns.length) (_:ns.length≤2100) (_:(∀x∈ns,x<2100)) (_:(∀(M j:Nat),M∈ns->j≤M->j∈ns)) (_:∀(m:Nat)(p:Addr)(H':Hp),aS ns m->b' H H'->H p=none->H' p<*.lst (c_ ((List.range m).map λj=>ns.idxOf j))->Q (.ref p) H')
structure J4(K:Frag)(cW:Addr):Prop where
 cls:HX K cW
 na1:vJ K cW Q3
 na4:vJ K cW Z1
 na5:vJ K cW Z2
inductive bZ(cW:Addr)(vs:List V)(H:Hp)(Q:VK)(_E:XK):Prop
 |mk (wk t wd y md lo:Addr) (rows:List Addr) (L:LN) (R:LL) (Bm:List Bool) (k:Nat) (_:vs=[.ref wk,.ref lo]) (_:Jc H cW wk L t wd y md) (_:H y<*.lst (rows.map V.ref)) (_:bM H rows R) (_:H md<*.lst (Bm.map V.bl)) (_:hF L R Bm) (_:H lo<*.lst (c_ (Rd R Bm k))) (_:∀(m:Nat)(f:Addr)(H':Hp),aS (Rd R Bm k) m->b' H H'->H f=none->p' H' f L (vD R (Rd R Bm k) m) (Hu Bm (Rd R Bm k) m)->Q (.ref f) H')
inductive M6(P0:Addr)(sites:List (Pos×Str))(vs:List V)(H:Hp)(Q:VK)(_E:XK):Prop
 |mk (m:Addr) (L:LN) (W:LL) (B:List Bool) (_:vs=[.ref m]) (_:FJ H m L W B) (_:hF L W B) (_:uG H P0 sites) (_:∀(f:Addr)(W':LL)(B':List Bool)(H':Hp),vP P0 H H'->uG H' P0 sites->p' H' f L W' B'->wm L W B W' B'->Q (.ref f) H')
inductive fj(cW:Addr)(vs:List V)(H:Hp)(Q:VK)(_E:XK):Prop
 |mk (wk t wd y md:Addr) (L:LN) (ws:LL) (rows:List Addr) (R:LL) (_:vs=[.ref wk]) (_:Jc H cW wk L t wd y md) (_:H wd<*.lst (d_ ws)) (_:H y<*.lst (rows.map V.ref)) (_:bM H rows R) (_:ws.length=R.length) (_:vN L) (_:(∀r∈R,r.length=L.length)) (_:(∀w∈ws,w.length≤1000)) (_:(∀H',b' H H'->(∀(i:Nat)(r:LN),R[i]?<*r->0∉r)->Q .non H')) (_:∀(i q:Nat)(u r:LN)(H':Hp),b' H H'->ws[i]?<*u->R[i]?<*r->r[q]?<*0->Q (.str (tx (u++[L.getD q 0]))) H')
inductive sp_isletters(vs:List V)(H:Hp)(Q:VK)(_E:XK):Prop
 |mk (L:LN) (_:vs=[.str (tx L)]) (_:vN L) (_:Q (.bl true) H)
inductive sp_needletters(vs:List V)(H:Hp)(Q:VK)(_E:XK):Prop
 |mk (L:LN) (_:vs=[.str (tx L)]) (_:vN L) (_:Q .non H)
inductive sp_settled(vs:List V)(H:Hp)(Q:VK)(_E:XK):Prop
 |mk (m:Addr) (L:LN) (W:LL) (B:List Bool) (r:Nat) (_:vs=[.ref m,.int (r:Int)]) (_:p' H m L W B) (_:hF L W B) (_:r<W.length) (_:∀H',b' H H'->Q (.bl (uC W r)) H')
inductive fk(P:Program)(w:World)(vs:List V)(H:Hp)(Q:VK)(_E:XK):Prop
 |mk (d:Addr) (kvs:List (Str×V)) (k:Str) (v:V) (_:vs=[.ref d,.str k]) (_:H d<*uu (sK P w) d kvs) (_:aw kvs k<*v) (_:Q .non H)
abbrev fP(L:LN)(W:LL)(u:LN)(a:Nat):LN:=(List.range W.length).map λr=>run L W r (BH u a)
def jo(u:LN):∀a b:Nat,BH u (a+b)=BH u a++BH u b
 |0,b=>by rw[Nat.zero_add];rfl
 |a+1,b=>by
  have:=jo u a b;unfold BH at this⊢;rw[show a+1+b=(a+b)+1 by lia,List.replicate_succ,List.replicate_succ,List.flatten_cons,List.flatten_cons,this,append_assoc]
def Jz:(fP L W u a).length=W.length:=by rw[fP,ix,length_range]
def iO(h:r<W.length):(fP L W u a).getD r 0=run L W r (BH u a):=by
 rw[fP,mu,lv,getElem?_range h];rfl
def qc(b:hF L W B)(e:∀c∈u,c∈L)(a:Nat):∀x∈fP L W u a,x<W.length:=λx d=>by
 let⟨r,f,rfl⟩:=mem_map.mp d;show ur b (mem_range.mp f) (fG e a)
def jK(b:hF L W B)(d:∀c∈u,c∈L)(f a:Nat):(fP L W u f).map (λx=>(fP L W u a).getD x 0)=fP L W u (f+a):=by
 unfold fP;rw[map_map];refine List.map_congr_left λr e=>?_;show(fP L W u a).getD (run L W r (BH u f)) 0=run L W r (BH u (f+a));rw[iO (ur b (mem_range.mp e) (fG d f)),jo,uS]
inductive sp_lpow(vs:List V)(H:Hp)(Q:VK)(_E:XK):Prop
 |mk (m:Addr) (L:LN) (W:LL) (B:List Bool) (u:LN) (n:Nat) (_:vs=[.ref m,.str (tx u),.int (n:Int)]) (_:p' H m L W B) (_:hF L W B) (_:W.length≤60) (_:(∀c∈u,c∈L)) (_:∀(p:Addr)(H':Hp),b' H H'->H' p<*.lst (c_ (fP L W u n))->Q (.ref p) H')
inductive sp_ltold(vs:List V)(H:Hp)(Q:VK)(_E:XK):Prop
 |mk (t p:Addr) (b:Bool) (xs:List V) (y n:Int) (_:vs=[.ref t,.int y,.int n]) (_:H t<*.tup [.bl b,.ref p]) (_:H p<*.tup xs) (_:(xs.length:Int)=(if b=true then y else n)) (_:∀H',b' H H'->Q (.bl true) H')
inductive sp_lbw(vs:List V)(H:Hp)(Q:VK)(_E:XK):Prop
 |mk (p:Addr) (L:LN) (ws:LL) (_:vs=[.ref p,.str (tx L)]) (_:H p<*.tup (d_ ws)) (_:(∀w∈ws,(∀c∈w,c∈L)/\w.length≤60)) (_:∀H',b' H H'->Q (.bl true) H')
abbrev uI(P0 P1 P2 P3:Addr):List (Addr×List (Pos×Str)):=[(P0,sites,),(P1,sitesR,),(P2,sitesT,),(P3,sitesA,)]
structure Tb(P0 P1 P2 P3:Addr)(H:Hp):Prop where
 nd:((uI P0 P1 P2 P3).map Prod.fst).Nodup
 all:rD (uI P0 P1 P2 P3) H
section
variable{P0 P1 P2 P3:Addr}{H H1 H':Hp}
def Tb.t0(h:Tb P0 P1 P2 P3 H):uG H P0 sites:=h.all (P0,sites,) (by simp[uI])
def Tb.t1(h:Tb P0 P1 P2 P3 H):uG H P1 sitesR:=h.all (P1,sitesR,) (by simp[uI])
def Tb.t2(h:Tb P0 P1 P2 P3 H):uG H P2 sitesT:=h.all (P2,sitesT,) (by simp[uI])
def Tb.t3(h:Tb P0 P1 P2 P3 H):uG H P3 sitesA:=h.all (P3,sitesA,) (by simp[uI])
def Tb.kt(h:Tb P0 P1 P2 P3 H)(k:KT (uI P0 P1 P2 P3) H H'):Tb P0 P1 P2 P3 H':=(h.nd,k.tb h.all)
def Tb.x0(h:Tb P0 P1 P2 P3 H)(s:vP P0 H H')(t:uG H' P0 sites):KT (uI P0 P1 P2 P3) H H':=KT.ofX h.nd (by simp[uI]) s h.t0 t
def Tb.x1(h:Tb P0 P1 P2 P3 H)(s:vP P1 H H')(t:uG H' P1 sitesR):KT (uI P0 P1 P2 P3) H H':=KT.ofX h.nd (by simp[uI]) s h.t1 t
def Tb.x2(h:Tb P0 P1 P2 P3 H)(s:vP P2 H H')(t:uG H' P2 sitesT):KT (uI P0 P1 P2 P3) H H':=KT.ofX h.nd (by simp[uI]) s h.t2 t
def Tb.x3(h:Tb P0 P1 P2 P3 H)(s:vP P3 H H')(t:uG H' P3 sitesA):KT (uI P0 P1 P2 P3) H H':=KT.ofX h.nd (by simp[uI]) s h.t3 t
def KT.refl(ts:List (Addr×List (Pos×Str)))(H:Hp):KT ts H H:=KT.of (b'.refl H)
end
inductive dj(P0 P1 P2 P3:Addr)(vs:List V)(H:Hp)(Q:VK)(_E:XK):Prop
 |mk (m:Addr) (L:LN) (W:LL) (B:List Bool) (W0:LL) (B0:List Bool) (_:vs=[.ref m]) (_:p' H m L W B) (_:wm L W0 B0 W B) (_:hF L W0 B0) (_:W.length≤8) (_:Tb P0 P1 P2 P3 H) (_:(∀H',KT (uI P0 P1 P2 P3) H H'->Jd L W->Q .non H')) (_:∀(t:Addr)(x y u z:LN)(H':Hp),KT (uI P0 P1 P2 P3) H H'->H' t<*.tup [.str (tx x),.str (tx y),.str (tx u),.str (tx z)]->p8 L W0 B0 x y u z->Q (.ref t) H')
abbrev bK(L:LN)(W:LL)(H:Hp)(l:Addr)(ws:LL):Prop:=∃ts:List Addr,H l=some (.lst (ts.map V.ref))/\ts.length=ws.length/\∀(i:Nat)(t:Addr)(w:LN),ts[i]?<*t->ws[i]?<*w->H t<*.tup [.str (tx w),.int ((run L W 0 w:Nat):Int)]
def bK.keep(h:bK L W H l ws)(e:H' l=H l)(s:∀b xs,H b<*.tup xs->H' b<*.tup xs):bK L W H' l ws:=by
 let⟨ts,f,d,c⟩:=h;show(ts,e.trans f,d,λi t w a b=>s _ _ (c i t w a b))
def IM(e:H a<*.lst xs):∀b ys,H b<*.tup ys->L2.upd H a o b<*.tup ys:=λb ys h=>i0 h e (!5)
def vV(ws:LL)(w:LN):d_ (ws++[w])=d_ ws++[.str (tx w)]:=by
 rw[d_,d_,map_append];rfl
abbrev IN(L:LN)(W:LL)(w:LN):LL:=if uC W (run L W 0 w)=true then[]else L.map λc=>w++[c]
def cX{l:LL}(h:l[i]?<*w):(l.take (i+1)).filter f=(l.take i).filter f++if f w=true then[w]else[]:=by
 rw[FG h,filter_append,List.filter_cons,filter_nil]
abbrev J5(L:LN)(W:LL)(B:List Bool)(w:LN):Bool:=B.getD (run L W 0 w) false&&!uC W (run L W 0 w)
abbrev J6(L:LN)(W:LL)(B:List Bool)(w:LN):Bool:=B.getD (run L W 0 w) false&&uC W (run L W 0 w)
def iI(L:LN)(W:LL)(B:List Bool)(n:Nat):justW L W B (n+1)=justW L W B n++(Wt L W n).filter (J5 L W B):=by
 unfold justW Ws;rw[range_succ,flatMap_append,filter_append,List.flatMap_singleton];rfl
def Hc(L:LN)(W:LL)(B:List Bool)(n:Nat):begW L W B (n+1)=begW L W B n++(Wt L W n).filter (J6 L W B):=by
 unfold begW Ws;rw[range_succ,flatMap_append,filter_append,List.flatMap_singleton];rfl
inductive sp_paper1(vs:List V)(H:Hp)(Q:VK)(_E:XK):Prop
 |mk (m:Addr) (L:LN) (W:LL) (B:List Bool) (N:Nat) (_:vs=[.ref m]) (_:p' H m L W B) (_:hF L W B) (_:N≤8) (_:(∀(n:Nat)(w:LN),w∈Wt L W n->n<N)) (_:∀(t j b:Addr)(n:Nat)(H':Hp),b' H H'->n≤N->Wt L W n=[]->H' t<*.tup [.ref j,.ref b]->H' j<*.lst (d_ (justW L W B n))->H' b<*.lst (d_ (begW L W B n))->Q (.ref t) H')
inductive M7(P0 P1 P2 P3:Addr)(vs:List V)(H:Hp)(Q:VK)(_E:XK):Prop
 |mk (m:Addr) (L:LN) (W:LL) (B:List Bool) (W0:LL) (B0:List Bool) (_:vs=[.ref m]) (_:p' H m L W B) (_:wm L W0 B0 W B) (_:hF L W0 B0) (_:W0.length≤8) (_:Jd L W) (_:Tb P0 P1 P2 P3 H) (_:∀(t j b:Addr)(ju en:LL)(H':Hp),KT (uI P0 P1 P2 P3) H H'->H' t<*.tup [.ref j,.ref b]->H' j<*.lst (d_ ju)->H' b<*.lst (d_ en)->pV L W0 B0 ju en->Q (.ref t) H')
abbrev iZ(H:Hp)(t:Addr)(L:LN)(W0:LL)(B0:List Bool):Prop:=(∃(p j b:Addr)(ju en:LL),H t=some (.tup [.bl true,.ref p])/\H p=some (.tup [.ref j,.ref b])/\H j=some (.lst (d_ ju))/\H b=some (.lst (d_ en))/\pV L W0 B0 ju en) \/
 ∃(p:Addr)(x y u z:LN),H t=some (.tup [.bl false,.ref p])/\H p=some (.tup [.str (tx x),.str (tx y),.str (tx u),.str (tx z)])/\p8 L W0 B0 x y u z
inductive NC(mg:Str->Option Value)(P0 P1 P2 P3:Addr)(vs:List V)(H:Hp)(Q:VK)(_E:XK):Prop
 |mk (m fb fp:Addr) (L:LN) (W:LL) (B:List Bool) (W0:LL) (B0:List Bool) (_:vs=[.ref m,.ref fb,.ref fp]) (_:mg "bar_of_last"<*.ref fb) (_:mg "paper_of_last"<*.ref fp) (_:p' H m L W B) (_:wm L W0 B0 W B) (_:hF L W0 B0) (_:W0.length≤8) (_:Tb P0 P1 P2 P3 H) (_:∀(t:Addr)(H':Hp),KT (uI P0 P1 P2 P3) H H'->iZ H' t L W0 B0->Q (.ref t) H')
inductive jg(P0 P1 P2 P3:Addr)(vs:List V)(H:Hp)(Q:VK)(_E:XK):Prop
 |mk (m:Addr) (L:LN) (W:LL) (B:List Bool) (_:vs=[.ref m]) (_:p' H m L W B) (_:hF L W B) (_:W.length≤8) (_:Tb P0 P1 P2 P3 H) (_:∀(t:Addr)(H':Hp),KT (uI P0 P1 P2 P3) H H'->iZ H' t L W B->Q (.ref t) H')
inductive bY(P0 P1 P2 P3:Addr)(vs:List V)(H:Hp)(Q:VK)(_E:XK):Prop
 |mk (m:Addr) (L:LN) (W:LL) (B:List Bool) (_:vs=[.str (Str.ofString "last"),.ref m]) (_:p' H m L W B) (_:hF L W B) (_:W.length≤8) (_:Tb P0 P1 P2 P3 H) (_:∀(t:Addr)(H':Hp),KT (uI P0 P1 P2 P3) H H'->iZ H' t L W B->Q (.ref t) H')
def je(v w:LN)(h:v.length≤w.length):V.str (tx (w.drop (w.length-v.length)))=V.str (tx v)↔v.isSuffixOf w=true:=by
 rw[List.isSuffixOf_iff_suffix,List.suffix_iff_eq_drop];show(λz=>(vM (V.str.inj z)).symm,λz=>by rw[<-z])
def qw{v w:LN}(h:v.isSuffixOf w=true):v.length≤w.length:=(List.isSuffixOf_iff_suffix.mp h).length_le
inductive sp_lsaysL(vs:List V)(H:Hp)(Q:VK)(_E:XK):Prop
 |mk (p j b:Addr) (ju en:LL) (w:LN) (_:vs=[.ref p,.str (tx w)]) (_:H p<*.tup [.ref j,.ref b]) (_:H j<*.lst (d_ ju)) (_:H b<*.lst (d_ en)) (_:(∀v∈en,v.length≤1000)) (_:w.length≤1000) (_:Q (.bl (en.any (λb=>b.isSuffixOf w)||decide (w∈ju))) H)
inductive sp_allinL(vs:List V)(H:Hp)(Q:VK)(_E:XK):Prop
 |mk (m l:Addr) (L:LN) (W:LL) (B:List Bool) (xs w:LN) (_:vs=[.ref m,.ref l,.str (tx w)]) (_:p' H m L W B) (_:hF L W B) (_:H l<*.lst (c_ xs)) (_:(∀x∈xs,x<W.length)) (_:(∀c∈w,c∈L)) (_:∀b:Bool,(b=true↔∀x∈xs,B.getD (run L W x w) false=true)->Q (.bl b) H)
def ki{xs:LN}(h0:r∈xs)(f:∀x∈xs,∀q,q<L.length->goal W x q∈xs)(v:LN)(a:∀c∈v,c∈L):run L W r v∈xs:=by
 induction v generalizing r with
 |nil=>show h0
 |cons c v b=>show b (f r h0 _ (idxOf_lt_length_of_mem (a c mem_cons_self))) λd e=>a d (mem_cons_of_mem _ e)
inductive sp_reached(vs:List V)(H:Hp)(Q:VK)(_E:XK):Prop
 |mk (m:Addr) (L:LN) (W:LL) (B:List Bool) (_:vs=[.ref m]) (_:p' H m L W B) (_:hF L W B) (_:W.length≤60) (_:∀(l:Addr)(xs:LN)(H':Hp),b' H H'->H' l<*.lst (c_ xs)->(∀x,x∈xs↔∃v:LN,(∀c∈v,c∈L)/\run L W 0 v=x)->Q (.ref l) H')
inductive sp_lbar52(vs:List V)(H:Hp)(Q:VK)(_E:XK):Prop
 |mk (m t:Addr) (L:LN) (W:LL) (B:List Bool) (x y u z:LN) (n:Nat) (_:vs=[.ref m,.ref t,.int (n:Int)]) (_:p' H m L W B) (_:hF L W B) (_:W.length≤60) (_:H t<*.tup [.str (tx x),.str (tx y),.str (tx u),.str (tx z)]) (_:p8 L W B x y u z) (_:∀H',b' H H'->Q (.bl true) H')
inductive sp_lpap52(vs:List V)(H:Hp)(Q:VK)(_E:XK):Prop
 |mk (m p j b:Addr) (L:LN) (W:LL) (B:List Bool) (ju be:LL) (_:vs=[.ref m,.ref p]) (_:p' H m L W B) (_:hF L W B) (_:W.length≤60) (_:H p<*.tup [.ref j,.ref b]) (_:H j<*.lst (d_ ju)) (_:H b<*.lst (d_ be)) (_:pV L W B ju be) (_:∀H',b' H H'->Q (.bl true) H')
section
variable{P:Program}{w:World}{K:Frag}{mg:Str->Option Value}{base:Heap}{P0 cT cW P1 cT1 P2 cT2 P3 cT3:Addr}
def N0:oj ["_law_script","_law_k"] ["_law_script","_law_k"] (i_ Me):=pp
def N1(F:n' K "_law_cell_at" "_law_cell_at" Me f h)(T:Txt K mg):aa P w K mg base kd 1 f h ["_law_script","_law_k"] (Jj K):=by
 refine F.okA N0 ?_;rintro _ _ _ _ _ _ _ _ _⟨a,ns,k,rfl,d,h0,q⟩;refine(_,(h6 (ri (uZ Il (pv 1) (wI T.len (pv 0)) (uV _)) (iy (k_ (vG (pv 0) (pv 1)))) (sT)) (iy (k_ e_))),3);refine(4,a,0,.inl d,2,0,3);refine aB (λc=>?_) (λ_=>q 0);let⟨v,g,b⟩:=iX (xs:=ns.map V.int) h0 c;obtain⟨z,rfl⟩:∃z,v=V.int z:=by
  rw[lv]at b;cases e:ns[k.toNat]? with
  |none=>rw[e]at b;cases b
  |some z=>rw[e]at b;show(z,(Option.some.inj b).symm)
 show(4,a,_,2,d,g,q z)
def a_u:oj ["_law_cell","_law_left","_law_number","_law_many","_law_found","_law_k","_law_at"] ["_law_cell"] (i_ Mf):=pp
def N2(F:n' K "_law_letters" "_law_letters" Mf f C)(T:Txt K mg):aa P w K mg base kd 1 f C ["_law_cell"] sp_letters:=by
 refine F.okA a_u ?_;rintro _ _ _ _ H _ _ _ _⟨c,rfl,q⟩;refine(_,(h6 (j5 1 a_u.nd (we)) (h6 (j5 2 a_u.nd (mB Jm (pv 0) e_)) (h6 (j5 3 a_u.nd (mB iu e_ (mB Jm (pv 2) e_))) (h6 (j5 2 a_u.nd (mB J' (pv 2) e_)) (h6 (j5 4 a_u.nd (we)) (h6 (uL PassesOwn.never rfl (Hf rfl T.range (kb (pv 3))) (uB 5 a_u.nd) (h6 (j5 6 a_u.nd (mB Jm (pv 2) (wK T.len (pv 1)))) (h6 (j5 2 a_u.nd (mB J' (pv 2) (wK T.len (pv 1)))) (h6 (j5 4 a_u.nd (mB Im (pv 4) (u_ vL (pv 1) (pv 6) (λ_ _=>rfl)))) (iy (j5 1 a_u.nd (mB Im (HY bp (pv 1) Iq (Hj (pv 6))) (HY bp (pv 1) (Hj (mB iu (pv 6) e_)) Iq)))))))) (iy (k_ (pv 4))))))))),3);refine(0,2,(by show(0:Int)<46800;decide),0,2,(by show(0:Int)<3;decide),2,0,2,(!0,!0),4,5,3);let z:(1:Int)+c%46800%3≤3/\1≤(1:Int)+c%46800%3:=by lia
 generalize I:(1:Int)+c%46800%3=M at z⊢;refine IR (n:=M.toNat) (λi g H'=>E5 λf l n j p=>A7 (g=[some (.int c),some (.str (tx l)),some (.int n),some (.int M),some (.str (tx f)),j,p]) (H'=H) (0≤n) (f.length=i) (l.length+i=26) ((f++l).Nodup) (∀c∈f++l,97≤c/\c≤122)) ?_ ?_ ?_
 .refine ([],List.range' 97 26,c%46800/3,none,none,3,1,!6,6,!0,!0);show[some (V.int c),some (V.str _),some (V.int _),some (V.int _),some (V.str _),none,none]=_;rw[rq,bG]
 .rintro i g E G⟨f,l,n,j,p,rfl,rfl,r,t,B,h,az⟩;let hz:(tx l).length≤sizeLine:=kA (by rw[nb];lia);let s:((tx l).length:Int)=26-(i:Int):=by rw[nb];lia
  let b:(0:Int)<((tx l).length:Int):=by lia
  let d:=emod_nonneg n (show((tx l).length:Int)≠0 by lia);let y:=Int.emod_lt_of_pos n b;let k:0≤n/((tx l).length:Int):=Int.ediv_nonneg r (!6);let e:(n%((tx l).length:Int)).toNat<l.length:=by lia
  let⟨v,x,a⟩:=iX (xs:=(tx l).cps.toList) d (by rw[vp];lia);rw[vp]at a;let D:v=l[(n%((tx l).length:Int)).toNat]:=by
   rw[hH e]at a;show(Option.some.inj a).symm
  subst D;refine(4,0,hz,2,b,4,0,hz,2,(b,!6),4,0,_,2,hz,x,2,3,4,4,hz,4,2,4,hz,2,9)
  .refine kA ?_;rw[nb];change f.length+1≤_;lia
  .refine kA ?_;let N:=Txt.slice_le (tx l) none (some (n%((tx l).length:Int)));let L:=Txt.slice_le (tx l) (some ((n%((tx l).length:Int))+1)) none;let A:=nb l;lia
  .obtain ⟨d1,d2⟩:=on e h;refine(f++[l[(n%((tx l).length:Int)).toNat]],l.take (n%((tx l).length:Int)).toNat++l.drop ((n%((tx l).length:Int)).toNat+1),n/((tx l).length:Int),some (.int (0+(i:Int))),some (.int (n%((tx l).length:Int))),3,1,k,by rw[j_,t];rfl,3,d1,λc m=>az c (d2 c m))
   .let u:=mo (tx l) d;let o:=KO (tx l) (i:=(n%((tx l).length:Int))+1) (!6) (by rw[vp];lia);rw[vp]at u o;rw[show((n%((tx l).length:Int))+1).toNat=(n%((tx l).length:Int)).toNat+1 by lia]at o;show[some (V.int c),some (V.str (Txt.slice (tx l) none (some (n%((tx l).length:Int)))++Txt.slice (tx l) (some ((n%((tx l).length:Int))+1)) none)),some (V.int _),some (V.int M),some (V.str (tx f++⟨#[l[(n%((tx l).length:Int)).toNat]]⟩)),some _,some _]=_;rw[u,o,H_,show(⟨#[l[(n%((tx l).length:Int)).toNat]]⟩:Str)=tx [l[(n%((tx l).length:Int)).toNat]]from rfl,H_]
   .rw [j_,length_take,length_drop];lia
 .rintro g E⟨f,l,n,j,p,rfl,rfl,r,t,B,h,az⟩;refine(0,q f (5,(nodup_append.mp h).1,λc m=>az c (mem_append_left _ m)))
def a_y:oj ["_law_script","_law_at","_law_rooms","_law_letters_here","_law_ways","_law_marks_here","_law_number","_law_k","_law_rest","_law_row","_law_sign"] ["_law_script","_law_at","_law_rooms","_law_letters_here"] (i_ Mh):=pp
def N3(F:n' K "_law_machine" "_law_machine" Mh f fd)(T:Txt K mg)(y8:Df P w K mg base "_law_cell_at" 1 ["_law_script","_law_k"] (Jj K)):aa P w K mg base kd 2 f fd ["_law_script","_law_at","_law_rooms","_law_letters_here"] (M5 K):=by
 refine F.okA a_y ?_;rintro _ _ _ _ H _ _ _ hr⟨a,ns,p,n,L,rfl,hS,a3,a4,aZ,hL,q⟩;refine(_,(h6 (j5 4 a_y.nd (uT wL)) (h6 (j5 5 a_y.nd (uT wL)) (h6 (j5 6 a_y.nd (e_)) (h6 (uL PassesOwn.never rfl (Hf rfl T.range (kb (pv 2))) (uB 7 a_y.nd) (h6 (j5 6 a_y.nd (mB JN (mB uy (mB uy (mB Jn (pv 6) (pv 6)) (mB Jn e_ (mB wh (mr y8 hr (o5 (pv 0) (mB uy (pv 1) (pv 7)))) (mB GB e_ e_)))) (pv 7)) e_)) (h6 (j5 8 a_y.nd (pv 6)) (h6 (j5 9 a_y.nd (uT wL)) (h6 (uL PassesOwn.never rfl (Is (pv 3)) (uB 10 a_y.nd) (h6 (uU (v_ (pv 9) (mB JN (pv 8) (pv 2)))) (iy (j5 8 a_y.nd (mB mT (pv 8) (pv 2)))))) (h6 (uU (v_ (pv 4) (vK ww (!4) T.tuple boot_tuple (kb (pv 9))))) (iy (uU (v_ (pv 5) (Hi Ik (mB JN (pv 8) e_) e_ (uV _))))))))))) (iy (k_ (wf (s_ (pv 3) (vK ww (!4) T.tuple boot_tuple (kb (pv 4))) (vK ww (!4) T.tuple boot_tuple (kb (pv 5))))))))))),3);refine(zero_le _,λk Q=>(zero_le _,λmk t=>?_));let u:k≠mk:=f' a_ t;let Z:H mk=none:=by rw[b_ u.symm]at t;show t
 refine(4,5,3);refine IR (n:=(n:Int).toNat) (λi σ H'=>E8 λ(d:List Addr)(W:LL)(B:List Bool)(s:Int)(k0:Option V)(rest:Option V)(as:Option V)(M:Option V)=>NS (σ=[some (.ref a),some (.int p),some (.int (n:Int)),some (.str (tx L)),some (.ref k),some (.ref mk),some (.int s),k0,rest,as,M]) (b' H H') (H' k<*.lst (d.map V.ref)) (H' mk<*.lst (B.map V.bl)) (d.length=i) (W.length=i) (B.length=i) (0≤s) (s<2147483647) (BF H' d W) (∀ws∈W,ws.length=L.length/\∀x∈ws,x<n)) ?_ ?_ ?_
 .exact ([],[],[],(0),none,none,none,none,1,λb o e=>n7 (n7 e Q) t,n7 a_ t,a_,6,1,!0,!0,λi r e=>by simp at e,λws e=>by simp at e)
 .rintro i σ C hi⟨d,W,B,s,k0,rest0,row0,sg0,rfl,g,h1wa,h1mk,X,ai,hBl,aM,hn1',h,hW⟩;refine(4,2,.inl (!6,!6),4,0,2,a,ns,0,g.seq hS,!6,λz=>?_);refine(2,(!0,!0,!0),2,!0,2,.inl (!0,!0),2,0,2,2,!0,λl ab aT=>?_);refine(0,zero_le _,λrw A=>?_);let rwa:k≠rw:=f' h1wa A;let az:mk≠rw:=f' h1mk A;refine(4,IU (x:=tx L) (λj ap H2=>E3 λ(ws:LN)(rest:Int)(M:Option V)=>A5 (ap=[some (.ref a),some (.int p),some (.int (n:Int)),some (.str (tx L)),some (.ref k),some (.ref mk),some (.int l),some (.int (0+(i:Int))),some (.int rest),some (.ref rw),M]) (H2=upd C rw (.lst (c_ ws))) (ws.length=j) (∀x∈ws,x<n) (0≤rest)) ([],l,sg0,6,1,λx e=>by simp at e,ab) ?_ ?_)
  .rintro j c an H2 hc⟨ws,rest,M,rfl,rfl,y,G,Y⟩;let a5:j<4:=by
    have:=(Array.getElem?_eq_some_iff.mp hc).1;let e:(tx L).cps.size=L.length:=nb L;have:=hL.hi;lia
   refine(0,.inl (1,_,i4.of a_),4,2,!6,λr aV a0=>(rw,2,a_,3,4,2,(!6,!6),Y,λq2 aF=>?_))
   .unfold c_;rw[ix];show GO (!6)
   .refine (ws++[r.toNat],q2,some (.str ⟨#[c]⟩),1,3,by rw[j_,y];rfl,λx E=>?_,aF)
    .let e:((r.toNat:Nat):Int)=r:=by lia
     rw[JD];unfold c_;rw[map_append];change _=upd C rw (.lst (_++[V.int ((r.toNat:Nat):Int)]));rw[e]
    .rcases mem_append.mp E with E|E
     .exact G x E
     .rw [t5 E];lia
  .rintro an H2⟨ws,rest,M,rfl,rfl,y,G,Y⟩;rw[nb]at y;let a1:upd C rw (.lst (c_ ws)) k<*.lst (d.map V.ref):=by rw[b_ rwa];show h1wa
   let a2:upd C rw (.lst (c_ ws)) mk<*.lst (B.map V.bl):=by rw[b_ az];show h1mk
   refine(0,.inl (1,_,i4.of a1),0,rw,0,.inl (i4.of a_,λtp I=>?_));let N:k≠tp:=f' a1 I;let D:mk≠tp:=f' a2 I;refine(k,2,(by rw[b_ N];show a1),(by rw[ix];show GO (!6)),3);refine(0,.inl (1,_,i4.of (by rw[b_ u.symm,b_ D];show a2)),0,2,!0,λr3 _ _=>(1,mk,2,(by rw[b_ u.symm,b_ D];show a2),(by rw[ix];show GO (!6)),3));let hk:∀b o,C b<*o->b≠k->b≠mk->upd (upd (upd (upd C rw (.lst (c_ ws))) tp (.tup (c_ ws))) k (.lst (d.map V.ref++[.ref tp]))) mk (.lst (B.map V.bl++[.bl (decide (V.int r3=V.int 1))])) b<*o:=λb o e e1 e2=>by
    rw[b_ e2,b_ e1,b_ (f' (n7 e A) I),b_ (f' e A)];show e
   refine(d++[tp],W++[ws],B++[decide (V.int r3=V.int 1)],l,some (.int (0+(i:Int))),some (.int rest),some (.ref rw),M,1,λb o e=>?_,9,9,3,ab,aT,λj r e=>?_,λv R=>?_)
   .exact hk b o (g b o e) (f' e Q) (f' e Z)
   .rw [b_ u,a_,map_append];rfl
   .rw [a_,map_append];rfl
   .rw [j_,X];rfl
   .rw [j_,ai];rfl
   .rw [j_,hBl];rfl
   .by_cases hj:j<d.length
    .rw [getElem?_append_left hj]at e;let⟨v,e1,e2⟩:=h j r e;refine(v,by rw[getElem?_append_left (!6)];show e1,hk r _ e2 (m3 e2 h1wa (!5)) (m3 e2 h1mk (!5)))
    .rw [getElem?_append_right (!6)]at e;let aU:j-d.length=0:=by
      have:=(j0 e).1;simp at this;omega
     rw[aU]at e;let et:tp=r:=by simpa using e
     subst et;refine(ws,by rw[getElem?_append_right (!6),show j-W.length=0 by lia];rfl,3);rw[b_ D.symm,b_ N.symm,a_]
   .rcases mem_append.mp R with R|R
    .exact hW v R
    .rw [t5 R];show(y,G)
 .rintro σ C⟨d,W,B,s,k0,rest0,row0,sg0,rfl,g,h1wa,h1mk,X,ai,hBl,aM,hn1',h,hW⟩;refine(4,k,0,.inl (i4.of h1wa,λtw S=>(0,mk,0,.inl (i4.of (n7 h1mk S),λtm U=>(kA (by change 3≤16777216;decide),λm hm=>?_)))));let up:∀b o,C b<*o->upd (upd (upd C tw (.tup (d.map V.ref))) tm (.tup (B.map V.bl))) m (.tup [.str (tx L),.ref tw,.ref tm]) b<*o:=λb o e=>n7 (n7 (n7 e S) U) hm;let ac:W.length=n:=by lia
  show q m W B _ (λb o e=>up b o (g b o e)) (tw,tm,d,a_,n7 (n7 a_ U) hm,n7 a_ hm,!6,h.same up) (hL,5,!6,λws O=>((hW ws O).1,λx E=>by rw[ac];show(hW ws O).2 x E)) ac
def N4:oj ["_law_script","_law_rooms"] ["_law_script","_law_rooms"] (i_ Mi):=pp
def N5(F:n' K "_law_marks" "_law_marks" Mi f p)(T:Txt K mg)(i:Df P w K mg base "_law_cell_at" 1 ["_law_script","_law_k"] (Jj K)):aa P w K mg base kd 2 f p ["_law_script","_law_rooms"] (Lr K):=by
 refine F.okA N4 ?_;rintro _ _ _ _ _ _ _ _ m⟨a,ns,n,rfl,o,s,q⟩;refine(_,(iy (k_ (vK ww (!4) T.tuple boot_tuple (kb (wH ["_law_script","_law_rooms"] rfl (!0) (Hf rfl T.range (kb (pv 1))) (λv C u s' H'=>(vi,Hi Ik (mB wh (mr i m (o5 (pv 1) (mB uy e_ (pv 0)))) e_) e_ (uV _)))))))),3);dsimp only[aG,uA,vn,vY];refine Km (n:=n) (λR h=>(0,h)) (!2) (λD j ys H'=>∃B:List Bool,ys=B.map V.bl/\B.length=j) (λD e=>([],6)) ?_ ?_
 .intro D j ys H' x R2 e t b c hp l r;let⟨B,rfl,g⟩:=hp;show h_ (4,2,a,ns,0,b.seq o,!6,λz=>(2,!0,1,l _ H' c (b'.set b e) (B++[_],by rw[map_append];rfl,by rw[j_,g];rfl)))
 .intro D ys H' e b c hp;let⟨B,rfl,g⟩:=hp;show(D,0,.inl (i4.of c,λk d=>q k B _ (b.trans (b'.upd d)) a_ g))
def a_X:oj ["_law_script","_law_letters_here","_law_strict","_law_rooms","_law_drawn","_law_ends","_law_ways","_law_room"] ["_law_script","_law_letters_here","_law_strict"] (i_ Mj):=pp
def N6(F:n' K "_law_forward" "_law_forward" Mj f fd)(T:Txt K mg)(y8:Df P w K mg base "_law_cell_at" 1 ["_law_script","_law_k"] (Jj K))(yw:Df P w K mg base "_law_machine" 2 ["_law_script","_law_at","_law_rooms","_law_letters_here"] (M5 K)):aa P w K mg base kd 3 f fd ["_law_script","_law_letters_here","_law_strict"] (fo K):=by
 refine F.okA a_X ?_;rintro _ _ _ _ _ _ _ _ hr⟨a,ns,L,st,rfl,hS,S,q⟩;let A:=hr.mono (j:=1) (!0);refine(_,(h6 (j5 3 a_X.nd (mB uy e_ (mB wh (mr y8 A (o5 (pv 0) (e_))) e_))) (h6 (j5 4 a_X.nd (mr yw hr (GX (pv 0) (s_ (e_) (pv 3) (pv 1))))) (h6 (j5 5 a_X.nd (mB dU (mB dU (pv 3) e_) (mB wh (mB pi (mr y8 A (o5 (pv 0) (e_))) e_) e_))) (h6 (j5 6 a_X.nd (uT wL)) (h6 (uL PassesOwn.never rfl (Hf rfl T.range (kb (pv 3))) (uB 7 a_X.nd) (iy (ri (vX (vh (pv 2))) (iy (uU (v_ (pv 6) (vK ww (!4) T.tuple boot_tuple (kb (wH ["_law_script","_law_letters_here","_law_strict","_law_rooms","_law_drawn","_law_ends","_law_ways","_law_room"] rfl (!0) (wA (ve (ol 4) (pv 7))) (λcl C fp s' H'=>(vi,mB uy (pv 8) (mB JN (pv 0) (mB dU (pv 4) (pv 8))))))))))) (iy (ri (uZ Il (pv 7) (pv 5) (uV _)) (iy (uU (v_ (pv 6) (vK ww (!4) T.tuple boot_tuple (kb (wH ["_law_script","_law_letters_here","_law_strict","_law_rooms","_law_drawn","_law_ends","_law_ways","_law_room"] rfl (!0) (wA (ve (ol 4) (pv 7))) (λcl C fp s' H'=>(vi,mB uy (mB uy (pv 8) e_) (mB JN (pv 0) (mB dU (mB dU (pv 4) e_) (pv 8))))))))))) (iy (uU (v_ (pv 6) (vK ww (!4) T.tuple boot_tuple (kb (wH ["_law_script","_law_letters_here","_law_strict","_law_rooms","_law_drawn","_law_ends","_law_ways","_law_room"] rfl (!0) (wA (ve (ol 4) (pv 7))) (λcl C fp s' H'=>(vi,pv 8))))))))))))) (iy (k_ (wf (s_ (pv 1) (vK ww (!4) T.tuple boot_tuple (kb (pv 6))) (ol 4)))))))))),3);refine(0,a,ns,(3),1,hS,!0,λz0=>(2,!0,2,3));let⟨n,en,n1,n2⟩:=bi z0 1 6 (!0);let as:(1:Int)+z0%6=(n:Int):=en.symm;rw[as];refine(4,0,a,ns,(4),n,L,1,hS,!0,n1,!6,S,λdm W0 B0 H0 s0 ap E aF=>?_);let⟨wy,mk,ab,X,g2,g3,g4,g5⟩:=ap;refine(0,2,0,a,ns,(3),1,s0.seq hS,!0,λz1=>(2,(!0,!0),2,!0,2,3));let e0:0≤z1/6%2:=emod_nonneg _ (!0);generalize z1/6%2=ee at e0;refine(zero_le _,λI y=>?_);refine(4,5,3);refine IR (n:=(n:Int).toNat) (λi Y H'=>E3 λ(b:List Addr)(W:LL)(s7:Option V)=>Y=[some (.ref a),some (.str (tx L)),some (.bl st),some (.int (n:Int)),some (.ref dm),some (.int ((n:Int)-1-ee)),some (.ref I),s7]/\A6 (b' H0 H') (H' I<*.lst (b.map V.ref)) (b.length=i) (W.length=i) (BF H' b W) (∀ws∈W,ws.length=L.length/\∀x∈ws,x<n)) ([],[],none,1,b'.upd y,a_,6,λi r e=>by simp at e,λws e=>by simp at e) ?_ ?_
 .rintro i Y H1 hi⟨b,W,s7,rfl,k,v,z,B,c,M⟩;let ai:i<n:=by omega
  let Q:i<W0.length:=by lia
  let⟨ra,G,t⟩:=p'.row g4 (g5.same k) Q;let⟨N,gb⟩:=Gu E Q;let Z:(i:Int)=0+(i:Int):=(Int.zero_add _).symm;cases st with
  |false=>
   refine(4,am (0,.inl (1,_,i4.of v),3));dsimp only[aG,uY,tNext,ax,ar,vY,uA,wg,vn];refine Ll (λR h=>(n_ (k _ _ X) ao (0,uX (k _ _ g2) (Z▸vZ V.ref G) h))) (.inr rfl) t (by rw[N];show S.hi) (λx U H' R1 l=>?_) λD ws H' g u s p=>(D,0,.inl (i4.of u,λtp d=>(I,2,n7 (g _ _ v) d,by rw[ix];show GO (!6),b++[tp],W++[ws],0,uw y k v z B c M g (s.trans N) p d)));refine(4,4,2,2,!6,λr H A=>(2,3));let⟨x,rfl⟩:=Int.eq_ofNat_of_zero_le H;rw[show(0:Int)+(i:Int)+(x:Int)=((i+x:Nat):Int) by lia];show l _ (!6)
  |true=>
   refine(4,af (4,2,0,aB (λaz=>(0,.inl (1,_,i4.of v),3)) (λ_=>(0,.inl (1,_,i4.of v),3))))
   rotate_left
   .dsimp only[aG,uY,tNext,ax,ar,vY,uA,wg,vn];refine Ll (λR h=>(n_ (k _ _ X) ao (0,uX (k _ _ g2) (Z▸vZ V.ref G) h))) (.inr rfl) t (by rw[N];show S.hi) (λx U H' R1 l=>?_) λD ws H' g u s p=>(D,0,.inl (i4.of u,λtp d=>(I,2,n7 (g _ _ v) d,by rw[ix];show GO (!6),b++[tp],W++[ws],0,uw y k v z B c M g (s.trans N) p d)));refine(0,3);rw[Int.zero_add];show l _ ai
   dsimp only[aG,uY,tNext,ax,ar,vY,uA,wg,vn];refine Ll (λR h=>(n_ (k _ _ X) ao (0,uX (k _ _ g2) (Z▸vZ V.ref G) h))) (.inr rfl) t (by rw[N];show S.hi) (λx U H' R1 l=>?_) λD ws H' g u s p=>(D,0,.inl (i4.of u,λtp d=>(I,2,n7 (g _ _ v) d,by rw[ix];show GO (!6),b++[tp],W++[ws],0,uw y k v z B c M g (s.trans N) p d)));refine(0,2,4,2,0,2,2,!6,λr H A=>(2,3));let⟨x,rfl⟩:=Int.eq_ofNat_of_zero_le H;rw[show(0:Int)+(i:Int)+1+(x:Int)=((i+1+x:Nat):Int) by lia];show l _ (!6)
 .rintro Y H1⟨b,W,s7,rfl,k,v,z,B,c,M⟩;let an:W.length=n:=by lia
  refine(4,I,0,.inl (i4.of v,λtw ac=>?_));let s2:=b'.upd (o:=.tup (b.map V.ref)) ac;refine(n_ ((k.trans s2) _ _ X) aC (kA (by change 3≤16777216;decide),λm hm=>?_));let up:b' H1 (L2.upd (L2.upd H1 tw (.tup (b.map V.ref))) m (.tup [.str (tx L),.ref tw,.ref mk])):=s2.trans (b'.upd hm);show q m W B0 _ ((s0.trans k).trans up) (tw,mk,b,a_,n7 a_ hm,(k.trans up) _ _ g3,!6,c.same up) (S,5,by have:=E.bl;lia,λws O=>((M ws O).1,λx U=>by rw[an];show(M ws O).2 x U)) (!6)
def d_g:oj ["_law_script","_law_letters_here","_law_ways","_law_room"] ["_law_script","_law_letters_here"] (i_ Ml):=pp
def wP(F:n' K "_law_lots" "_law_lots" Ml f fd)(T:Txt K mg)(yy:Df P w K mg base "_law_marks" 2 ["_law_script","_law_rooms"] (Lr K)):aa P w K mg base kd 3 f fd ["_law_script","_law_letters_here"] (Jy K):=by
 refine F.okA d_g ?_;rintro _ _ _ _ H _ _ _ hr⟨a,ns,L,rfl,hS,M,q⟩;let hz:(tx L).length≤sizeLine:=kA (by rw[nb];show Nat.le_trans M.hi (!0));let b3:(3:Nat)≤sizeLine:=kA (by change 3≤16777216;decide);let A:=M.hi;refine(_,(h6 (j5 2 d_g.nd (uT wL)) (h6 (uL PassesOwn.never rfl (Hf rfl T.range (kb (vG (uT (s_ e_ e_ e_)) (mB dU (wK T.len (pv 1)) e_)))) (uB 3 d_g.nd) (iy (uU (v_ (pv 2) (vK ww (!4) T.tuple boot_tuple (kb (wH ["_law_script","_law_letters_here","_law_ways","_law_room"] rfl (!0) (wA (HY wM (uT (s_ e_ e_ e_)) Iq (Hj (wK T.len (pv 1))))) (λcl C fp s' H'=>(vi,mB qN (pv 4) (pv 0)))))))))) (iy (k_ (wf (s_ (pv 1) (vK ww (!4) T.tuple boot_tuple (kb (pv 2))) (mr yy hr (o5 (pv 0) (wI T.len (pv 2)))))))))),3);let⟨N,eN,n1,n2,hb⟩:=qR M;refine(zero_le _,λg s=>?_);refine(b3,λl1 d=>(4,hz,2,uN a_ eN (0,5,3)));let wl:g≠l1:=λz=>by rw[<-z,a_]at d;cases d
 let aF:H l1=none:=by rw[b_ (Ne.symm wl)]at d;show d
 refine IR (n:=(N:Int).toNat) (λi O H'=>E3 λ(b:List Addr)(W:LL)(l:Option V)=>O=[some (.ref a),some (.str (tx L)),some (.ref g),l]/\A6 (b' H H') (H' g<*.lst (b.map V.ref)) (b.length=i) (W.length=i) (BF H' b W) (∀ws∈W,ws.length=L.length/\∀x∈ws,x<N)) ([],[],none,1,(b'.upd s).trans (b'.upd d),n7 a_ d,6,λi r e=>by simp at e,λws e=>by simp at e) ?_ ?_
 .rintro i O E hi⟨b,W,l,rfl,G,j,v,y,c,I⟩;let ap:i<N:=by omega
  refine(0,.inl (1,_,i4.of j),3);dsimp only[aG,uY,tNext,ax,ar,vY,uA,wg,vn];refine fe (b3,λl2 an=>(4,hz,0,l2,0,i4.of a_,λl3 ai=>?_));let ec:vo [V.int 1,.int 2,.int 4] none (some ((tx L).length:Int))=c_ ([1,2,4].take L.length):=by
   rw[nb,LI (show L.length≤3 from A)];unfold c_;rw[List.map_take];rfl
  rw[ec];let S:=(b'.upd (o:=.lst [.int 1,.int 2,.int 4]) an).trans (b'.upd (o:=.lst (c_ ([1,2,4].take L.length))) ai);let e5:L2.upd (L2.upd E l2 (.lst [.int 1,.int 2,.int 4])) l3 (.lst (c_ ([1,2,4].take L.length))) l3<*.lst (c_ ([1,2,4].take L.length)):=a_;let bl:([1,2,4].take L.length).length=L.length:=by rw[length_take];change min L.length 3=_;lia
  generalize L2.upd (L2.upd E l2 (.lst [.int 1,.int 2,.int 4])) l3 (.lst (c_ ([1,2,4].take L.length)))=H5 at S e5;refine Ll (λR h=>h) (.inl rfl) e5 (by rw[bl];show A) (λx X H' R1 U=>?_) λD ws H' u az Z Y=>(D,0,.inl (i4.of az,λtp t=>(g,2,n7 ((S.trans u) _ _ j) t,by rw[ix];show GO (!6),b++[tp],W++[ws],0,uw s G j v y c I (S.trans u) (Z.trans bl) Y t)));let⟨r,er,rn⟩:=hb i ap x X;refine(4,2,3);rw[Int.zero_add,er];show U _ rn
 .rintro O E⟨b,W,l,rfl,G,j,v,y,c,I⟩;let as:W.length=N:=by lia
  refine(4,g,0,.inl (i4.of j,λk ab=>?_));let s2:=b'.upd (o:=.tup (b.map V.ref)) ab;let e2:L2.upd E k (.tup (b.map V.ref)) k<*.tup (b.map V.ref):=a_;generalize L2.upd E k (.tup (b.map V.ref))=H2 at s2 e2;refine(4,g,0,.inl (i4.of (s2 _ _ j)),a,ns,0,(G.trans s2).seq hS,by rw[ix];lia,λmk B H3 l ac hB=>(b3,λm hm=>?_));rw[ix]at hB;let Q:=l.trans (b'.upd (o:=.tup [.str (tx L),.ref k,.ref mk]) hm);show q m W B _ ((G.trans s2).trans Q) (k,mk,b,a_,Q _ _ e2,n7 ac hm,!6,c.same (s2.trans Q)) (M,5,!6,λws p=>((I ws p).1,λx X=>by rw[as];show(I ws p).2 x X)) (!6)
def a_C:oj ["_law_script","_law_letters_here","_law_size","_law_places","_law_labels","_law_ways","_law_at","_law_row","_law_sign","_law_label"] ["_law_script","_law_letters_here"] (i_ Mm):=pp
def N7(F:n' K "_law_memory" "_law_memory" Mm f fd)(T:Txt K mg)(y8:Df P w K mg base "_law_cell_at" 1 ["_law_script","_law_k"] (Jj K))(yy:Df P w K mg base "_law_marks" 2 ["_law_script","_law_rooms"] (Lr K)):aa P w K mg base kd 3 f fd ["_law_script","_law_letters_here"] (Jy K):=by
 refine F.okA a_C ?_;rintro _ _ _ s H _ _ _ X⟨a,ns,L,rfl,hS,hL,q⟩;let a5:=X.mono (j:=1) (!0);let bb:=hL.lo;let a0:=hL.hi;let hz:(tx L).length≤sizeLine:=kA (by rw[nb];show Nat.le_trans a0 (!0));let b1:(1:Nat)≤sizeLine:=kA (by change 1≤16777216;decide);let b3:(3:Nat)≤sizeLine:=kA (by change 3≤16777216;decide);refine(_,(h6 (j5 2 a_C.nd (mB uy e_ (mB wh (mr y8 a5 (o5 (pv 0) (e_))) (vG (uT (s_ e_ e_ e_)) (mB dU (wK T.len (pv 1)) e_))))) (IV (j5 3 a_C.nd (o7 we e_)) (h6 (j5 4 a_C.nd (uT (kb we))) (h6 (j5 5 a_C.nd (uT wL)) (h6 (j5 6 a_C.nd (e_)) (h6 (JF PassesOwn.never (uZ Il (pv 6) (wI T.len (pv 4)) (uV _)) (h6 (j5 7 a_C.nd (uT wL)) (h6 (uL PassesOwn.never rfl (Is (pv 1)) (uB 8 a_C.nd) (h6 (j5 9 a_C.nd (HY bp (mB Im (vG (pv 4) (pv 6)) (pv 8)) (Hj (aP IS (pv 2))) Iq)) (IV (ri (uZ cr (pv 9) (pv 3) (by with_unfolding_all rfl)) (h6 (GA (wI T.len (pv 4)) (Gz (pv 3) (pv 9) G5)) (iy (uU (v_ (pv 4) (pv 9))))) (sT)) (iy (uU (v_ (pv 7) (u_ FK (pv 3) (pv 9) (λ_ _=>rfl)))))))) (h6 (uU (v_ (pv 5) (vK ww (!4) T.tuple boot_tuple (kb (pv 7))))) (iy (j5 6 a_C.nd (mB uy (pv 6) e_))))))) (iy (k_ (wf (s_ (pv 1) (vK ww (!4) T.tuple boot_tuple (kb (pv 5))) (mr yy X (o5 (pv 0) (wI T.len (pv 5)))))))))))))),3);let⟨C,eC,c1,cs⟩:=sG hL;refine(0,a,ns,(3),1,hS,!0,λz0=>(b3,λl1 a8=>(4,hz,2,uN a_ eC (2,!6,2,3))));let sH:=b'.upd (o:=.lst [.int 6,.int 2,.int 1]) a8;generalize L2.upd H l1 (.lst [.int 6,.int 2,.int 1])=H9 at sH;let⟨n,en,n1,n2⟩:=bi z0 1 C (!6);let bc:(1:Int)+z0%(C:Int)=(n:Int):=en.symm;rw[bc];obtain⟨s,rfl⟩:∃s,n=s+1:=(n-1,!6);let hU:(vQ L (s+1)).length≤7:=jX bb a0 (!6);refine⟨λS H'=>∃p,S=[some (.ref a),some (.str (tx L)),some (.int ((s+1:Nat):Int)),some (.ref p),none,none,none,none,none,none]/\b' H H'/\H p=none/\H' p<*uu (sK P w) p (FL [[]] 0),?_,?_⟩
 .intro p Y;refine(a_,0,p,1,3,Ho sH Y,a_);rw[JD];show sH.trans (b'.upd Y)
 rintro bf H0⟨p,rfl,s0,Y,a6⟩;refine(b1,λA ai=>(zero_le _,λy D=>?_));let lw:A≠y:=λz=>by rw[<-z,a_]at D;cases D
 let as:H0 y=none:=by rw[b_ (Ne.symm lw)]at D;show D
 let M0:uO P w H (L2.upd (L2.upd H0 A (.lst [.str (tx [])])) y (.lst [])) p A y L (s+1) 0 [[]] [] []:=
  {sm:=s0.trans ((b'.upd ai).trans (b'.upd D)),pd:=n7 (n7 a6 ai) D,lb:=n7 a_ D,wy:=a_,nd:=by simp,wd:=λv hv=>by rw[t5 hv];show(zero_le _,!1),rl:=rfl,wl:=rfl,ra:=λi r e=>by simp at e,rb:=λr X=>by simp at X,le:=zero_le _,ne:=by decide,d0:=Y,l0:=Ho s0 ai,w0:=Ho s0 as,lw:=lw}
 refine⟨λk S H'=>∃(b:Nat)(ws W:LL)(g:List Addr)(s7 s8 s9:Option V),k=20-b/\S=[some (.ref a),some (.str (tx L)),some (.int ((s+1:Nat):Int)),some (.ref p),some (.ref A),some (.ref y),some (.int (b:Int)),s7,s8,s9]/\uO P w H H' p A y L (s+1) b ws g W,(_,(0),[[]],[],[],none,none,none,6,M0),?_⟩;rintro k S H1⟨b,ws,W,g,s7,s8,s9,rfl,rfl,M⟩;let bk:=M.few hU;refine(4,A,0,.inl (i4.of M.lb),2,0,aB (λR=>?_) (λR=>?_))
 .rw [d_,ix]at R;let aZ:b<ws.length:=ofNat_lt.mp R;obtain⟨v,hv⟩:∃v,ws[b]?<*v:=(ws[b],hH aZ);refine⟨λE H2=>∃(ws W:LL)(g:List Addr)(s7 s8 s9:Option V),E=[some (.ref a),some (.str (tx L)),some (.int ((s+1:Nat):Int)),some (.ref p),some (.ref A),some (.ref y),some (.int ((b+1:Nat):Int)),s7,s8,s9]/\uO P w H H2 p A y L (s+1) (b+1) ws g W,?_,?_⟩
  .rintro E H2⟨h,W2,rows2,u7,u8,u9,rfl,l⟩;show(20-(b+1),!6,b+1,h,W2,rows2,u7,u8,u9,6,l)
  refine(zero_le _,λrw I=>?_);let aT:H rw=none:=Ho M.sm I;let nl:A≠rw:=λz=>by rw[<-z,M.lb]at I;cases I
  let nw:y≠rw:=λz=>by rw[<-z,M.wy]at I;cases I
  refine(4,IU (x:=tx L) (λj E H2=>E4 λ(ws:LL)(N:LN)(s8:Option V)(s9:Option V)=>A6 (E=[some (.ref a),some (.str (tx L)),some (.int ((s+1:Nat):Int)),some (.ref p),some (.ref A),some (.ref y),some (.int (b:Int)),some (.ref rw),s8,s9]) (uO P w H H2 p A y L (s+1) b ws g W) (H2 rw<*.lst (c_ N)) (N.length=j) (∀x∈N,x<ws.length) (ws[b]?<*v)) (ws,[],8,M.keep (b'.upd I),a_,1,(λx hx=>by simp at hx),hv) ?_ ?_)
  .rintro j c E H2 hc⟨h,N,u8,u9,rfl,l,Q,ab,U,G⟩;let a1:=l.few hU;let a9:c∈L:=by
    have:=pa (show(tx L).cps.toList[j]?<*c by rw[getElem?_toList];show hc)
    rwa [vp]at this
   let hj:j<L.length:=by
    have:=(j0 (show(tx L).cps.toList[j]?<*c by rw[getElem?_toList];show hc)).1
    rwa [vp]at this
   let⟨vl,vc⟩:=l.wd v (pa G);let s7:s≤5:=by lia
   let gv:ux (d_ h) (b:Int)<*.str (tx v):=wu (by rw[d_,lv,G];rfl);let e1:(⟨#[c]⟩:Str)=tx [c]:=rfl;refine(4,uN l.lb gv (0,2,3,4,4,9))
   .rw [e1,nb,nb];show kA (by simp;lia)
   .rw [e1,H_,nb];show kA (by simp;lia)
   rw[e1,H_,ic,vp];let aM:((v++[c]).drop ((v++[c]).length-(s+1))).length≤s+1:=by rw[length_drop];lia
   let aF:∀d∈(v++[c]).drop ((v++[c]).length-(s+1)),d∈L:=λd hd=>(mem_append.mp (mem_of_mem_drop hd)).elim (vc d) λz=>by rw[t5 z];show a9
   generalize (v++[c]).drop ((v++[c]).length-(s+1))=u at aM aF;refine⟨λan H3=>∃t:LL,an=[some (.ref a),some (.str (tx L)),some (.int ((s+1:Nat):Int)),some (.ref p),some (.ref A),some (.ref y),some (.int (b:Int)),some (.ref rw),some (.str ⟨#[c]⟩),some (.str (tx u))]/\uO P w H H3 p A y L (s+1) b t g W/\H3 rw=some (.lst (c_ N))/\(∀x∈N,x<t.length)/\t[b]?=some v/\u∈t,?_,?_⟩
   .refine (4,p,2,l.pd,0,3);rw[aW];by_cases hm:u∈h
    .rw [(bx hm).1];show af (h,1,l,Q,U,G,hm)
    .rw [show BG h u=none from if_neg hm];refine am (0,A,0,.inl (i4.of l.lb),4,p,2,l.pd,by rw[aW,show BG h u=none from if_neg hm];rfl,by rw[jC];show GO (!2),3);let ek:FL h 0++[(tx u,V.int ((d_ h).length:Int),)]=FL (h++[u]) 0:=by rw[gg,Nat.zero_add,d_,ix]
     rw[ek];let dl:p≠A:=m3 l.pd l.lb (by intro z;unfold uu at z;cases z);let dr:rw≠p:=Ne.symm (m3 l.pd Q (by intro z;unfold uu at z;cases z));let ap:L2.upd H2 p (uu (sK P w) p (FL (h++[u]) 0)) A<*.lst (d_ h):=by rw[b_ (Ne.symm dl)];show l.lb
     refine(0,.inl (1,_,i4.of ap),0,A,2,ap,by rw[d_,ix];show GO (!2),3);let ew:d_ h++[V.str (tx u)]=d_ (h++[u]):=by rw[d_,d_,map_append];rfl
     rw[ew];show(h++[u],1,l.add hm aM aF,by rw[b_ (Ne.symm nl),b_ dr];show Q,λx hx=>by rw[j_];show lt_of_lt_of_le (U x hx) (le_add_right _ _),Jr G,!1)
   rintro an H3⟨t,rfl,Z,ac,aV,a3,az⟩;let be:=Z.few hU;let il:t.idxOf u<t.length:=idxOf_lt_length_of_mem az;refine(0,.inl (1,_,i4.of ac),4,p,_,2,Z.pd,by rw[aW,(bx az).1];rfl,rw,2,ac,by rw[f_];show GO (!6),t,N++[t.idxOf u],8,Z.other aT ac nl nw,3,by rw[j_,ab];rfl,λx hx=>?_,a3)
   .rw [a_,<-IB,Nat.zero_add]
   .rcases mem_append.mp hx with z|z
    .exact aV x z
    .rw [t5 z];show il
  .rintro E H2⟨h,N,u8,u9,rfl,l,Q,ab,U,G⟩;let a1:=l.few hU;let aU:N.length=L.length:=by rw[ab,nb]
   let a2:b<h.length:=(j0 G).1;let bg:=l.rl;refine(0,.inl (1,_,i4.of l.wy),0,rw,0,.inl (i4.of Q,λtp O=>?_));let Z:=l.keep (b'.upd (o:=.tup (c_ N)) O);let⟨u1,u2,u3⟩:=jn (ws:=N) l.wy l.ra (by rw[l.rl,l.wl]) O;let wt:tp≠y:=λz=>by rw[z,l.wy]at O;cases O
   refine(y,2,n7 l.wy O,by rw[ix,l.rl];show GO (!6),0,2,h,W++[N],g++[tp],7,0,3);show {Z with sm:=b'.set Z.sm l.w0,pd:=i0 Z.pd Z.wy (by intro z;unfold uu at z;cases z),lb:=by rw[b_ l.lw];show Z.lb,wy:=u1,rl:=by rw[j_,l.rl];rfl,wl:=by rw[j_,l.wl];rfl,ra:=u2,rb:=(λr X=>(mem_append.mp X).elim (l.rb r) λz=>by rw[t5 z];show(aU,U)),le:=a2}
 .rw [d_,ix]at R;let ea:b=ws.length:=le_antisymm M.le (le_of_not_lt λz=>R (ofNat_lt.mpr z));let n0:=M.ne;refine(4,y,0,.inl (i4.of M.wy,λtw a4=>?_));let s2:=b'.upd (o:=.tup (g.map V.ref)) a4;let e2:L2.upd H1 tw (.tup (g.map V.ref)) tw<*.tup (g.map V.ref):=a_;generalize L2.upd H1 tw (.tup (g.map V.ref))=H2 at s2 e2;let rl:=M.rl;let wl:=M.wl;refine(4,y,0,.inl (i4.of (s2 _ _ M.wy)),a,ns,0,(M.sm.trans s2).seq hS,by rw[ix];lia,λmk B H3 s3 a7 hB=>(b3,λm hm=>?_));rw[ix]at hB;let up:=s3.trans (b'.upd (o:=.tup [.str (tx L),.ref tw,.ref mk]) hm);show q m W B _ ((M.sm.trans s2).trans up) (tw,mk,g,a_,up _ _ e2,n7 a7 hm,!6,M.ra.same (s2.trans up)) (hL,5,!6,λr X=>((M.rb r X).1,λx hx=>by have:=(M.rb r X).2 x hx;lia)) (!6)
def a_h:oj ["_law_script","_law_letters_here","_law_number","_law_left","_law_rows","_law_tuples","_law_sign","_law_size","_law_low","_law_longer","_law_some","_law_ways","_law_row","_law_k","_law_many"] ["_law_script","_law_letters_here"] (i_ Mn):=pp
def N8(F:n' K "_law_tallied" "_law_tallied" Mn f fd)(T:Txt K mg)(y8:Df P w K mg base "_law_cell_at" 1 ["_law_script","_law_k"] (Jj K))(yy:Df P w K mg base "_law_marks" 2 ["_law_script","_law_rooms"] (Lr K)):aa P w K mg base kd 3 f fd ["_law_script","_law_letters_here"] (Jy K):=by
 refine F.okA a_h ?_;rintro _ _ _ _ H vs _ _ hr⟨a,ns,L,rfl,hS,hL,q⟩;let bl:=hr.mono (j:=1) (!0);let d1:=hL.lo;let dm:=hL.hi;let hz:(tx L).length≤sizeLine:=kA (by rw[nb];show Nat.le_trans dm (!0));let b1:(1:Nat)≤sizeLine:=kA (by change 1≤16777216;decide);let b2:(2:Nat)≤sizeLine:=kA (by change 2≤16777216;decide);let b3:(3:Nat)≤sizeLine:=kA (by change 3≤16777216;decide);refine(_,(h6 (j5 2 a_h.nd (mB wh (mr y8 bl (o5 (pv 0) (e_))) (mB GB e_ e_))) (h6 (j5 3 a_h.nd (e_)) (h6 (j5 4 a_h.nd (uT wL)) (h6 (j5 5 a_h.nd (uT (kb (wf wL)))) (h6 (uL PassesOwn.never rfl (Is (pv 1)) (uB 6 a_h.nd) (h6 (j5 7 a_h.nd (mB uy e_ (mB wh (pv 2) (pv 3)))) (h6 (j5 8 a_h.nd (mB JN (mB pi (pv 2) e_) (pv 7))) (h6 (j5 2 a_h.nd (mB pi (pv 2) e_)) (h6 (j5 3 a_h.nd (mB pi (pv 3) (pv 7))) (h6 (uU (v_ (pv 4) (wf (o5 (pv 8) (pv 7))))) (h6 (j5 9 a_h.nd (uT wL)) (h6 (uL PassesOwn.never rfl (HV (pv 5)) (uB 10 a_h.nd) (iy (j5 9 a_h.nd (mB ir (pv 9) (wH ["_law_script","_law_letters_here","_law_number","_law_left","_law_rows","_law_tuples","_law_sign","_law_size","_law_low","_law_longer","_law_some","_law_ways","_law_row","_law_k","?"] rfl (!0) (Hf rfl T.range (kb (pv 7))) (λcl C fp s' H'=>(vi,mB dY (pv 11) (wf (kb (pv 0)))))))))) (iy (j5 5 a_h.nd (pv 9))))))))))) (h6 (j5 11 a_h.nd (uT wL)) (h6 (uL PassesOwn.never rfl (HV (pv 5)) (uB 10 a_h.nd) (h6 (j5 12 a_h.nd (uT wL)) (h6 (uL PassesOwn.never rfl (Hf rfl T.range (kb (wK T.len (pv 1)))) (uB 13 a_h.nd) (h6 (j5 14 a_h.nd (mB uy (ve (pv 10) (pv 13)) e_)) (IV (ri (Jg (pv 14) (ve (vG (pv 4) (pv 13)) e_)) (iy (j5 14 a_h.nd (ve (vG (pv 4) (pv 13)) e_))) (sT)) (iy (uU (v_ (pv 12) (Hl plainAttrs_list slot_list_index type_list_index (kG hr.units) (pv 5) (kb (mB dY (mB dY (HY mq (pv 10) Iq (Hj (pv 13))) (wf (kb (pv 14)))) (HY mq (pv 10) (Hj (mB uy (pv 13) e_)) Iq)))))))))) (iy (uU (v_ (pv 11) (vK ww (!4) T.tuple boot_tuple (kb (pv 12))))))))) (iy (k_ (wf (s_ (pv 1) (vK ww (!4) T.tuple boot_tuple (kb (pv 11))) (mr yy hr (o5 (pv 0) (wI T.len (pv 11))))))))))))))),3);refine(0,a,ns,(3),1,hS,!0,λz0=>(2,(!0,!0,!0),2,!0,3));let b5:0≤z0%10^toNat 9:=emod_nonneg _ (!0);generalize z0%10^toNat 9=num0 at b5;refine(zero_le _,λG ai=>(zero_le _,λet bs=>(b1,λan Q=>?_)));let rt:G≠an:=λz=>by rw[<-z,n7 a_ bs]at Q;cases Q
 let I0:lr H (L2.upd (L2.upd (L2.upd H G (.lst [])) et (.tup [])) an (.lst [.ref et])) G an [] [[]] [] [] [.ref et]:=
  {sm:=((b'.upd ai).trans (b'.upd bs)).trans (b'.upd Q),r0:=ai,hr:=n7 (n7 a_ bs) Q,rn:=rfl,ll:=rfl,rr:=λi r e=>by simp at e,lo:=λi hi=>absurd hi (not_lt_zero _),ht:=a_,th:=(rfl,λi k v e1 e2=>by
    match i,e1,e2 with
    | 0,e1,e2=>cases e1;cases e2;show NB (n7 a_ Q)),ta:=ID.nil,ne:=by decide,tr:=Ne.symm rt}
 generalize L2.upd (L2.upd (L2.upd H G (.lst [])) et (.tup [])) an (.lst [.ref et])=H1 at I0;refine(4,IU (x:=tx L) (λj E H'=>∃(A:Int)(left:Nat)(U:Addr)(d:List Addr)(ts:LL)(S s:LN)(vs:List V)(s6 s7 s8 s9 Y:Option V),E=[some (.ref a),some (.str (tx L)),some (.int A),some (.int (left:Int)),some (.ref G),some (.ref U),s6,s7,s8,s9,Y,none,none,none,none]/\0≤A/\1≤left/\left≤8/\ts.length*left≤8/\S.length=j/\lr H H' G U d ts S s vs) (num0,(8),an,[],[[]],[],[],7,7,8,b5,!0,!0,!0,1,I0) ?_ ?_)
 .rintro j c cI H2 hc⟨A,left,U,d,ts,S,s,vs,s6,s7,s8,s9,Y,rfl,cu,a2,hl8,hpr,hSj,M⟩;let d0:j<3:=by
   have:=(j0 (show(tx L).cps.toList[j]?<*c by rw[getElem?_toList];show hc)).1;rw[vp]at this;lia
  let cJ:ts.length≤8:=Nat.le_trans (Nat.le_mul_of_pos_right _ a2) hpr;refine(4,2,!6,2,3);let⟨g,es,dT,dx⟩:=bi A 1 left a2;let dr:(1:Int)+A%(left:Int)=(g:Int):=es.symm;rw[dr];let dw:g≤left:=by lia
  refine(0,2,(!0,!0),0,2,!6,λr c4 bl=>?_);let⟨lw,rfl⟩:=Int.eq_ofNat_of_zero_le c4;let c0:lw<g:=ofNat_lt.mp bl;refine(0,2,(!0,!0),3);refine(4,2,(!6,!6),3);let ed:(left:Int)/(g:Int)=((left/g:Nat):Int):=(Int.natCast_ediv left g).symm;rw[ed];let ce:0≤A/64:=Int.ediv_nonneg cu (!0);generalize A/64=a4 at ce;let c2:1≤left/g:=(Nat.le_div_iff_mul_le (!6)).mpr (!6);let c1:left/g≤8:=Nat.le_trans (Nat.div_le_self _ _) hl8;let cZ:ts.length*g*(left/g)≤8:=by
   rw[Nat.mul_assoc];show Nat.le_trans (Nat.mul_le_mul_left _ (Nat.mul_div_le left g)) hpr
  refine(0,.inl (1,_,i4.of M.hr),4,b2,λtp aU=>?_);let O:=M.keep (b'.upd (o:=.tup [.int (lw:Int),.int (g:Int)]) aU);let e2:L2.upd H2 tp (.tup [.int (lw:Int),.int (g:Int)]) tp<*.tup [.int (lw:Int),.int (g:Int)]:=a_;generalize L2.upd H2 tp (.tup [.int (lw:Int),.int (g:Int)])=H3 at O e2;let rn:=O.rn;refine(G,2,O.hr,by rw[ix];show GO (!6),3);let ab:∀b xs,H3 b<*.tup xs->L2.upd H3 G (.lst (d.map V.ref++[.ref tp])) b<*.tup xs:=λb xs e=>i0 e O.hr (!5);let M3:lr H (L2.upd H3 G (.lst (d.map V.ref++[.ref tp]))) G U (d++[tp]) ts S s vs\/True:=.inr trivial;let s3:b' H (L2.upd H3 G (.lst (d.map V.ref++[.ref tp]))):=b'.set O.sm O.r0;let bk:L2.upd H3 G (.lst (d.map V.ref++[.ref tp])) G<*.lst ((d++[tp]).map V.ref):=by rw[a_,map_append];rfl
  let bg:L2.upd H3 G (.lst (d.map V.ref++[.ref tp])) U<*.lst vs:=by rw[b_ O.tr];show O.ht
  let aT:wF .t (L2.upd H3 G (.lst (d.map V.ref++[.ref tp]))) ts vs:=O.th.same ab;let cd:∀(i:Nat)(r:Addr),(d++[tp])[i]?<*r->L2.upd H3 G (.lst (d.map V.ref++[.ref tp])) r<*.tup [.int (((s++[lw]).getD i 0:Nat):Int),.int (((S++[g]).getD i 0:Nat):Int)]:=λi r e=>by
   rcases Hr e with z|⟨rfl,rfl⟩
   .let hi:i<S.length:=by rw[<-rn];show(j0 z).1
    rw[IE (by rw[O.ll];show hi),IE hi];show ab _ _ (O.rr i r z)
   .let x1:(s++[lw]).getD d.length 0=lw:=by rw[show d.length=s.length by rw[rn,O.ll]];show IF
    let x2:(S++[g]).getD d.length 0=g:=by rw[rn];show IF
    rw[x1,x2];show ab _ _ e2
  generalize L2.upd H3 G (.lst (d.map V.ref++[.ref tp]))=H4 at s3 bk bg aT cd;clear M3 ab;refine(zero_le _,λch a6=>?_);let cb:b' H4 (L2.upd H4 ch (.lst [])):=b'.upd a6;refine(0,U,1,(_,i4.of (cb _ _ bg)),HW (K:=K) (a:=U) (xs:=vs) (λi E H'=>E3 λ(lg:Addr)(u:List V)(Y:Option V)=>E=[some (.ref a),some (.str (tx L)),some (.int a4),some (.int ((left/g:Nat):Int)),some (.ref G),some (.ref U),some (.str ⟨#[c]⟩),some (.int (g:Int)),some (.int (lw:Int)),some (.ref lg),Y,none,none,none,none]/\A4 (b' H4 H') (H4 lg=none) (H' lg<*.lst u) (wF .t H' (GU (ts.take i) g) u)) (ch,[],0,cb,a6,a_,1,λi k v e=>by simp[GU]at e) ?_ ?_ ?_)
  .rintro i E H' hi⟨_,_,_,rfl,sm,_⟩;show i4.of (sm _ _ bg)
  .rintro i x E H5 hx⟨lg,u,u10,rfl,X,hlg4,bm,hth5⟩;let hi:i<ts.length:=by rw[<-aT.1];show(j0 hx).1
   obtain⟨t,ac⟩:∃t,ts[i]?<*t:=(ts[i],hH hi);let⟨bt,rfl,b0⟩:=rH (aT.2 i t x ac hx);let I:t.length=S.length:=((M.ta.mem t).mp (pa ac)).1;let nl:(GU (ts.take i) g).length≤64:=by
    rw[LX,length_take];show Nat.le_trans (Nat.mul_le_mul (show min i ts.length≤8 by lia) (show g≤8 by omega)) (!0)
   let vl:u.length=(GU (ts.take i) g).length:=hth5.1;refine(0,3);dsimp only[aG,uY,tNext,ax,ar,vY,uA,wg,vn,Hh];refine ow (n:=g) (λR h=>(0,h)) (!2) (X _ _ b0) (λk H' R1 h e=>(4,b1,ud (!6) e h)) λD ys H6 aV dp dV hp=>?_;refine(lg,D,2,aV _ _ bm,dp,kA (!6),λp ct=>?_);let s7:=b'.upd (o:=.lst (u++ys)) ct;refine(p,u++ys,0,(X.trans aV).trans s7,Ho (X.trans aV) ct,a_,3);let et:GU (ts.take (i+1)) g=GU (ts.take i) g++(List.range g).map λm=>t++[m]:=by
    unfold GU;rw[FG ac,flatMap_append];simp
   rw[et];let h1:wF .t (L2.upd H6 p (.lst (u++ys))) (GU (ts.take i) g) u:=hth5.same λb xs e=>s7 _ _ (aV _ _ e);let h2:wF .t (L2.upd H6 p (.lst (u++ys))) ((List.range g).map λm=>t++[m]) ys:=hp.same λb xs e=>s7 _ _ e;show lq h1 h2
  .rintro E H5⟨lg,u,u10,rfl,X,hlg4,bm,hth5⟩;rw[aT.1,take_length]at hth5;let lo3:∀i,i<(S++[g]).length->(s++[lw]).getD i 0<(S++[g]).getD i 0:=λi hi=>by
    by_cases z:i<S.length
    .rw [IE (by rw[O.ll];show z),IE z];show O.lo i z
    .let hi2:i=S.length:=by rw[j_]at hi;simp at hi;lia
     rw[hi2];let x1:(s++[lw]).getD S.length 0=lw:=by rw[<-O.ll];show IF
     let x2:(S++[g]).getD S.length 0=g:=IF;rw[x1,x2];show c0
   refine(0,a4,left/g,lg,d++[tp],GU ts g,S++[g],s++[lw],u,7,7,0,ce,c2,c1,by rw[LX];show cZ,by rw[j_,hSj];rfl,3);show {sm:=s3.trans X,r0:=O.r0,hr:=X _ _ bk,rn:=by rw[j_,j_,rn];rfl,ll:=by rw[j_,j_,O.ll];rfl,rr:=λi r e=>X _ _ (cd i r e),lo:=lo3,ht:=bm,th:=hth5,ta:=O.ta.next g,ne:=by rw[LX];show Nat.mul_pos O.ne (!6),tr:=λz=>by rw[z,bk]at hlg4;cases hlg4}
 .rintro cI H2⟨A,left,U,d,ts,S,s,vs,s6,s7,s8,s9,Y,rfl,cu,a2,hl8,hpr,hSj,M⟩;rw[nb]at hSj;let cJ:ts.length≤8:=Nat.le_trans (Nat.le_mul_of_pos_right _ a2) hpr;refine(zero_le _,λwa bf=>?_);let N:=M.keep (b'.upd (o:=.lst []) bf);refine(0,U,1,(_,i4.of N.ht),HW (K:=K) (a:=U) (xs:=vs) (λi σ H'=>E6 λ(l:List Addr)(W:LL)(Y:Option V)(cV:Option V)(bb:Option V)(a9:Option V)=>σ=[some (.ref a),some (.str (tx L)),some (.int A),some (.int (left:Int)),some (.ref G),some (.ref U),s6,s7,s8,s9,Y,some (.ref wa),cV,bb,a9]/\A6 (b' H2 H') (H' wa<*.lst (l.map V.ref)) (l.length=i) (W.length=i) (BF H' l W) (∀ws∈W,ws.length=L.length/\∀x∈ws,x<ts.length)) ([],[],7,8,b'.upd bf,a_,6,(λi r e=>by simp at e),λws e=>by simp at e) ?_ ?_ ?_)
  .rintro i E H' hi⟨_,_,_,_,_,_,rfl,sm,_⟩;show i4.of (sm _ _ M.ht)
  .rintro i x E H3 hx⟨l,W,u10,u12,u13,u14,rfl,sm,h1,ai,a3,Z,hW⟩;let hi:i<ts.length:=by rw[<-M.th.1];show(j0 hx).1
   obtain⟨t,ac⟩:∃t,ts[i]?<*t:=(ts[i],hH hi);let co:=pa ac;let⟨bt,rfl,b0⟩:=rH (M.th.2 i t x ac hx);let⟨I,tb⟩:=(M.ta.mem t).mp co;refine(zero_le _,λrw aZ=>?_);let rwa:wa≠rw:=f' h1 aZ;let dt:H2 rw=none:=Ho sm aZ;refine(4,hz,0,by rw[nb];lia,by rw[nb];lia,3);refine IR (n:=((tx L).length:Int).toNat) (λk E H'=>E3 λ(ws:LN)(bb:Option V)(a9:Option V)=>E=[some (.ref a),some (.str (tx L)),some (.int A),some (.int (left:Int)),some (.ref G),some (.ref U),s6,s7,s8,s9,some (.ref bt),some (.ref wa),some (.ref rw),bb,a9]/\A4 (b' H3 H') (H' rw<*.lst (c_ ws)) (ws.length=k) (∀x∈ws,x<ts.length)) ([],8,b'.upd aZ,a_,1,λx hx=>by simp at hx) ?_ ?_
   .rintro k cB H4 hk⟨ws,v13,v14,rfl,as,a0,bc,be⟩;let aF:k<S.length:=by rw[nb]at hk;lia
    let zk:(0:Int)+(k:Int)=(k:Int):=Int.zero_add _;let az:=sm.trans as;let aM:=az _ _ b0;let gk:ux (c_ t) (0+(k:Int))<*.int ((t.getD k 0:Nat):Int):=by rw[zk];show wN (by rw[I];show aF)
    let cq:k<d.length:=by rw[M.rn];show aF
    let gr:ux (d.map V.ref) (0+(k:Int))<*(.ref d[k]):=by rw[zk];show vZ V.ref (hH cq)
    let cp:=az _ _ (M.rr k _ (hH cq));let a5:=az _ _ M.hr;refine(4,uX aM gk (2,3));refine⟨λb4 H5=>∃m:Nat,b4=[some (.ref a),some (.str (tx L)),some (.int A),some (.int (left:Int)),some (.ref G),some (.ref U),s6,s7,s8,s9,some (.ref bt),some (.ref wa),some (.ref rw),some (.int (0+(k:Int))),some (.int (m:Int))]/\H5=H4/\m<S.getD k 0,?_,?_⟩
    .refine (4,0,uN a5 gr (7,2,nj.of cp,wu (j:=1) rfl,1,0,aB (λe=>?_) (λe=>?_)))
     .exact (4,uN a5 gr (7,2,nj.of cp,wu (j:=0) rfl,s.getD k 0,6,M.lo k aF))
     .refine (t.getD k 0+1,6,3);let e2:t.getD k 0+1≠S.getD k 0:=λz=>e (by rw[<-z];rfl);have:=tb k aF;lia
    rintro b4 H5⟨m,rfl,rfl,hm⟩;let bo:=M.ta.put co aF hm;refine(0,.inl (1,_,i4.of a0),0,.inl (1,_,i4.of (az _ _ M.ht)),3);let k1:k≤(c_ t).length:=by rw[f_,I];omega
    let k2:k+1≤(c_ t).length:=by rw[f_,I];lia
    refine(4,0,bt,0,nj.of aM,3,λp1 c8=>?_)
    .rw [zk];rintro⟨_,y⟩;rw[sIx_nat,f_,I]at y;lia
    rw[zk,LI k1];let ca:=b'.upd (o:=.tup ((c_ t).take k)) c8;let cz:L2.upd H5 p1 (.tup ((c_ t).take k)) p1<*.tup ((c_ t).take k):=a_;generalize L2.upd H5 p1 (.tup ((c_ t).take k))=H6 at ca cz;refine(0,b1,λp2 c7=>?_);let a8:=b'.upd (o:=.tup [.int (m:Int)]) c7;let cy:L2.upd H6 p2 (.tup [.int (m:Int)]) p2<*.tup [.int (m:Int)]:=a_;generalize L2.upd H6 p2 (.tup [.int (m:Int)])=H7 at a8 cy;refine(p1,p2,2,a8 _ _ cz,cy,kA (by rw[length_take];simp;lia),λp3 H8 cU ds=>?_);let b6:=(ca.trans a8).trans cU;refine(4,2,0,bt,0,nj.of (b6 _ _ aM),3,λp4 c5=>?_)
    .rw [show(k:Int)+1=((k+1:Nat):Int)from rfl];rintro⟨y,_⟩;rw[sIx_nat,f_,I]at y;lia
    rw[show(k:Int)+1=((k+1:Nat):Int)from rfl,lc k2];let a7:=b'.upd (o:=.tup ((c_ t).drop (k+1))) c5;let cx:L2.upd H8 p4 (.tup ((c_ t).drop (k+1))) p4<*.tup ((c_ t).drop (k+1)):=a_;generalize L2.upd H8 p4 (.tup ((c_ t).drop (k+1)))=H9 at a7 cx;refine(p3,p4,2,a7 _ _ ds,cx,kA (by rw[j_,length_take,length_drop];simp;rw[f_]at *;lia),λp5 d2 cM cw=>?_);let ap:=(b6.trans a7).trans cM;let ex:(c_ t).take k++[V.int (m:Int)]++(c_ t).drop (k+1)=c_ (t.take k++[m]++t.drop (k+1)):=by
     unfold c_;rw[map_append,map_append,List.map_take,List.map_drop];rfl
    rw[ex]at cw;let cc:=az.trans ap;refine(U,p5,vs,ts,0,1,cc _ _ M.ht,M.th.same (λb xs e=>cc _ _ e),λk' dd=>?_,cw,bo,3)
    .rw [((M.ta.mem k').mp dd).1,((M.ta.mem _).mp bo).1]
    let cs:=ap _ _ a0;let il:ts.idxOf (t.take k++[m]++t.drop (k+1))<ts.length:=idxOf_lt_length_of_mem bo;refine(rw,2,cs,by rw[f_];show GO (!6),ws++[ts.idxOf (t.take k++[m]++t.drop (k+1))],8,b'.set (as.trans ap) aZ,by rw[a_,<-IB],by rw[j_,bc];rfl,λx hx=>?_);rcases mem_append.mp hx with z|z
    .exact be x z
    .rw [t5 z];show il
   .rintro cB H4⟨ws,v13,v14,rfl,as,a0,bc,be⟩;let cn:ws.length=L.length:=by rw[bc,nb];lia
    let a1:=as _ _ h1;refine(0,.inl (1,_,i4.of a1),0,rw,0,.inl (i4.of a0,λtp aU=>?_));show(wa,2,n7 a1 aU,by rw[ix];show GO (!6),l++[tp],W++[ws],7,8,uw bf sm h1 ai a3 Z hW as cn be aU)
  .rintro dv H3⟨l,W,u10,u12,u13,u14,rfl,sm,h1,ai,a3,Z,hW⟩;rw[M.th.1]at ai a3;let ne:=M.ne;refine(4,wa,0,.inl (i4.of h1,λtw c3=>?_));let s2:=b'.upd (o:=.tup (l.map V.ref)) c3;let e2:L2.upd H3 tw (.tup (l.map V.ref)) tw<*.tup (l.map V.ref):=a_;generalize L2.upd H3 tw (.tup (l.map V.ref))=H4 at s2 e2;let sA:=(M.sm.trans sm).trans s2;refine(4,wa,0,.inl (i4.of (s2 _ _ h1)),a,ns,0,sA.seq hS,by rw[ix];lia,λmk B H5 s5 dc hB=>(b3,λm hm=>?_));rw[ix]at hB;let up:=s5.trans (b'.upd (o:=.tup [.str (tx L),.ref tw,.ref mk]) hm);show q m W B _ (sA.trans up) (tw,mk,l,a_,up _ _ e2,n7 dc hm,!6,Z.same (s2.trans up)) (hL,5,!6,λws cj=>((hW ws cj).1,λx hx=>by rw[a3];show(hW ws cj).2 x hx)) (!6)
def N9:oj ["_law_script","_law_letters_here","_law_kind"] ["_law_script","_law_letters_here","_law_kind"] (i_ Mo):=pp
def N_(F:n' K "_law_built" "_law_built" Mo f z)(T:Txt K mg)(u:Df P w K mg base "_law_cell_at" 1 ["_law_script","_law_k"] (Jj K))(o:Df P w K mg base "_law_machine" 2 ["_law_script","_law_at","_law_rooms","_law_letters_here"] (M5 K))(v:Df P w K mg base "_law_forward" 3 ["_law_script","_law_letters_here","_law_strict"] (fo K))(t:Df P w K mg base "_law_memory" 3 ["_law_script","_law_letters_here"] (Jy K))(r:Df P w K mg base "_law_lots" 3 ["_law_script","_law_letters_here"] (Jy K))(p:Df P w K mg base "_law_tallied" 3 ["_law_script","_law_letters_here"] (Jy K)):aa P w K mg base kd 4 f z ["_law_script","_law_letters_here","_law_kind"] (fq K):=by
 refine F.okA N9 ?_;rintro _ _ _ s H _ Q _ b⟨a,ns,L,k,rfl,c,h,q⟩;let e:=b.mono (j:=1) (!0);let d:=b.mono (j:=2) (!0);refine(_,(h6 (ri (Jg (pv 2) e_) (iy (k_ (mr o d (GX (pv 0) (s_ (e_) (mB uy e_ (mB wh (mr u e (o5 (pv 0) (e_))) e_)) (pv 1)))))) (sT)) (h6 (ri (uZ Il (pv 2) e_ (uV _)) (iy (k_ (mr v b (s_ (pv 0) (pv 1) (Hi Ik (pv 2) e_ (uV _)))))) (sT)) (h6 (ri (Jg (pv 2) e_) (iy (k_ (mr t b (o5 (pv 0) (pv 1))))) (sT)) (h6 (ri (Jg (pv 2) e_) (iy (k_ (mr r b (o5 (pv 0) (pv 1))))) (sT)) (iy (k_ (mr p b (o5 (pv 0) (pv 1))))))))),3);let mk:Jy K [.ref a,.str (tx L)] H Q E0:=(a,ns,L,1,c,h,q);refine(0,1,0,aB (λ_=>?_) (λ_=>(0,2,0,aB (λ_=>?_) (λ_=>(0,1,0,aB (λ_=>(4,mk)) (λ_=>(0,1,0,aB (λ_=>(4,mk)) (λ_=>(4,mk)))))))))
 .refine (4,a,ns,(3),1,c,!0,λl=>(2,!0,2,0,3));let⟨n,A,x,C⟩:=bi l 1 8 (!0);let i:(1:Int)+l%8=(n:Int):=A.symm;rw[i];show(a,ns,(4),n,L,1,c,!0,x,!6,h,λm W B H' s y g D=>q m W B H' s y g (!6))
 .exact (4,0,1,a,ns,L,0,c,h,q)
def c_N:oj ["_law_machine_here","_law_room","_law_word_here","_law_sign"] ["_law_machine_here","_law_room","_law_word_here"] (i_ Mq):=pp
def N'(F:n' K "_law_after" "_law_after" Mq f C)(T:Txt K mg):aa P w K mg base kd 1 f C ["_law_machine_here","_law_room","_law_word_here"] sp_after:=by
 refine F.okA c_N ?_;rintro _ _ _ _ H _ _ _ _⟨m,L,W,B,r,w,rfl,v,h,l,hw,q⟩;let⟨N,mk,a,p,A,O,z,y⟩:=v;refine(_,(h6 (uL PassesOwn.never rfl (Is (pv 2)) (uB 3 c_N.nd) (iy (j5 1 c_N.nd (ve (ve (ol 0) (pv 1)) (Hl plainAttrs_str PySem.F.slot_str_find PySem.F.type_str_find d8 (ol 0) (kb (pv 3))))))) (iy (k_ (pv 1)))),3);refine(4,IU (x:=tx w) (λi j H'=>∃k,j=[some (.ref m),some (.int (run L W r (w.take i):Nat)),some (.str (tx w)),k]/\H'=H) (none,6) ?_ ?_)
 .rintro i c j M n⟨k,rfl,rfl⟩;rw[JM]at n;let g:c∈L:=hw c (pa n);let e:=ur h (w:=w.take i) l λd u=>hw d (mem_of_mem_take u);let⟨ws,x,I,G,E,Q⟩:=h.at e g;obtain⟨o,b⟩:∃o,a[run L W r (w.take i)]?<*o:=(a[run L W r (w.take i)]'(!6),by simp[z,e]);let⟨t,s,D⟩:=y _ _ b;rw[I]at s;cases s;refine(n_ p ao (0,uX A (vZ V.ref b) (n_ p au (1,0,2,3))));rw[Kc g];refine(uX D (vZ _ G) ?_);refine(some (.str ⟨#[c]⟩),3,1);show[some (V.ref m),some (V.int ((x:Nat):Int)),some (V.str (tx w)),some _]=_;rw[take_add_one,n];change _=[some (V.ref m),some (V.int ((run L W r (w.take i++[c]):Nat):Int)),some (V.str (tx w)),some (V.str ⟨#[c]⟩)];rw[Ia,E]
 .rintro j M⟨k,rfl,rfl⟩;rw[nb,take_length];show(0,q)
def Oa:oj ["_law_found","_law_letters_here"] ["_law_found","_law_letters_here"] (i_ Mr):=pp
def Ob(F:n' K "_law_is_word" "_law_is_word" Mr f j)(T:Txt K mg):aa P w K mg base kd 1 f j ["_law_found","_law_letters_here"] sp_isword:=by
 refine F.okA Oa ?_;rintro _ _ _ _ _ _ _ _ _⟨L,w,rfl,hw,k,q⟩;refine(_,(iy (k_ (dR (Gr (KM (T:="str") (b:=true)) (!4) T.isinst boot_isinstance (o5 (pv 0) (KC (v:=.ty "str") (!4) T.str PyProof.Rows.boot_str rfl)))
  (dP (Hi Ik (wI T.len (wH ["_law_found","_law_letters_here"] rfl (!0) (Is (pv 0)) (λm C l s' H'=>(dI (uZ M9 (pv 0) (pv 2) (by with_unfolding_all rfl)),pv 0)))) e_ (uV _)))))),3)
 refine(0,8,av.str _,by with_unfolding_all rfl,0,am ?_);dsimp only[Hh,vn,uA];refine gL (x:=tx w) (λc=>!decide (c∈L)) (!4) (kA (by rw[nb];omega)) (λi c H' R a g=>?_) (λD h=>?_)
 .refine (4,2,0,3);let e:=KN L c;unfold Txt.contains at e;rw[e];show g
 .refine (D,0,.inl (i4.of a_),1,3);let e:((tx w).cps.toList.filter λc=>!decide (c∈L))=[]:=by
   rw[vp,List.filter_eq_nil_iff];intro c a;simp[hw c a]
  let d:decide (V.int (((((tx w).cps.toList.filter λc=>!decide (c∈L)).map λc=>V.str ⟨#[c]⟩).length:Nat):Int)=V.int 0)=true:=by
   rw[e];rfl
  rw[d];show q _ (b'.upd h)
def c_g:oj ["_law_letters_here","_law_one","_law_two","_law_left","_law_right"] ["_law_letters_here","_law_one","_law_two"] (i_ Ms):=pp
def Oc(F:n' K "_law_earlier" "_law_earlier" Ms f O)(T:Txt K mg):aa P w K mg base kd 1 f O ["_law_letters_here","_law_one","_law_two"] sp__law_earlier:=by
 refine F.okA c_g ?_;rintro _ _ _ _ H _ _ _ _⟨L,a,b,rfl,Q,N,M,I,G,q⟩;refine(_,(h6 (ri (J2 (wK T.len (pv 1)) (wK T.len (pv 2))) (iy (k_ (Hi Il (wK T.len (pv 1)) (wK T.len (pv 2)) (uV _)))) (sT)) (h6 (uL PassesOwn.never rfl (jp rfl T.zip (o5 (pv 1) (pv 2))) (br rfl (HS (uB 3 c_g.nd) (HS (uB 4 c_g.nd) J_))) (iy (ri (J2 (pv 3) (pv 4)) (iy (k_ (Hi Il (Hl plainAttrs_str PySem.F.slot_str_find PySem.F.type_str_find d8 (pv 0) (kb (pv 3))) (Hl plainAttrs_str PySem.F.slot_str_find PySem.F.type_str_find d8 (pv 0) (kb (pv 4))) (uV _)))) (sT)))) (iy (k_ uP)))),3);let l:(tx a).length≤sizeLine:=kA (by rw[nb];omega);let k:(tx b).length≤sizeLine:=kA (by rw[nb];omega);refine(4,l,4,k,1,0,3);by_cases g:a.length=b.length
 .refine aQ (by rw[nb,nb,g]) ?_;refine(4,.inl (8,λ_ _=>bF (xs:=(tx a).cps.toList.map λc=>V.str ⟨#[c]⟩) (ys:=(tx b).cps.toList.map λc=>V.str ⟨#[c]⟩) (by rw[ix,ix,vp,vp];show g) (λi o H'=>E2 λr s2=>A3 (o=[some (.str (tx L)),some (.str (tx a)),some (.str (tx b)),r,s2]) (b' H H') (ah L a b=ah L (a.drop i) (b.drop i))) (none,none,1,b'.refl H,1) (λ_ _ _ _=>(1,1)) ?_ ?_))
  .rintro i x y p o E B A hp⟨r,s2,rfl,d,hlex⟩;rw[lv,vp]at B A;let⟨c,D,rfl⟩:=uJ B;let⟨e,C,rfl⟩:=uJ A;let u:c∈L:=N c (pa D);let t:e∈L:=M e (pa C);let m:b' H (upd E p (.tup [.str ⟨#[c]⟩,.str ⟨#[e]⟩])):=d.trans (b'.upd hp);rw[pD L D C]at hlex;refine(p,0,nj.of a_,1,8,2,3);refine(4,1,0,3);by_cases h:c=e
   .subst h;rw[if_pos rfl]at hlex;show aQ rfl (8,m,hlex)
   .rw [if_neg h]at hlex;rw[decide_eq_false (λz=>h (by have:=congrArg (λv:V=>match v with|.str x=>x.cps.toList|_=>[]) z;simpa using this))];refine am ?_;refine(0,1,0,2,3);rw[Kc u];refine(0,1,0,2,3);rw[Kc t];refine(2,3);let n:o4 L a b=decide (((L.idxOf c:Nat):Int)<((L.idxOf e:Nat):Int)):=by
     unfold o4;rw[if_neg (by simpa using g),hlex];simp
    let j:=q _ m;rw[n]at j;show j
  .rintro o E⟨r,s2,rfl,d,hlex⟩;let n:o4 L a b=false:=by
    unfold o4;rw[if_neg (by simpa using g),hlex,ix,vp,List.drop_length];rfl
   have:=q _ d;rw[n]at this;show this
 .let s:¬ V.int (((tx a).length:Nat):Int)=V.int (((tx b).length:Nat):Int):=λz=>g (by
   have:=congrArg (λv:V=>match v with|.int x=>x|_=>0) z;rw[nb,nb]at this;let R:((a.length:Nat):Int)=((b.length:Nat):Int):=this;lia)
  rw[decide_eq_false s];refine am (4,l,4,k,2,3);let n:o4 L a b=decide ((((tx a).length:Nat):Int)<(((tx b).length:Nat):Int)):=by
   unfold o4;rw[if_pos g,nb,nb];simp
  let j:=q _ (b'.refl H);rw[n]at j;show j
def b_Q:oj ["_law_found","_law_letters_here","_law_word_here","_law_k"] ["_law_found","_law_letters_here"] (i_ Mt):=pp
def Od(F:n' K "_law_in_order" "_law_in_order" Mt f O)(T:Txt K mg)(C:Df P w K mg base "_law_is_word" 1 ["_law_found","_law_letters_here"] sp_isword)(D:Df P w K mg base "_law_earlier" 1 ["_law_letters_here","_law_one","_law_two"] sp__law_earlier):aa P w K mg base kd 2 f O ["_law_found","_law_letters_here"] sp_inord51:=by
 refine F.okA b_Q ?_;rintro _ _ _ _ H _ _ _ A⟨l,L,c,rfl,h,I,B,r,j,q⟩;refine(_,(h6 (ri (vX (vh (Lq T.isinst T.list boot_list (pv 0)))) (iy (k_ uP)) (sT)) (h6 (uL PassesOwn.never rfl (HV (pv 0)) (uB 2 b_Q.nd) (iy (ri (vX (vh (mr C A (o5 (pv 2) (pv 1))))) (iy (k_ uP)) (sT)))) (h6 (uL PassesOwn.never rfl (cf rfl T.range (o5 e_ (wI T.len (pv 0)))) (uB 3 b_Q.nd) (iy (ri (vX (vh (mr D A (s_ (pv 1) (vG (pv 0) (mB dU (pv 3) e_)) (vG (pv 0) (pv 3)))))) (iy (k_ uP)) (sT)))) (iy (k_ uP))))),3);refine(0,7,0,av.lst h,(eh K).2.1,0,af ?_);refine(0,l,1,(_,i4.of h),HW (K:=K) (a:=l) (xs:=d_ c) (λi d H'=>∃s2,d=[some (.ref l),some (.str (tx L)),s2,none]/\b' H H') (0,b'.refl H) ?_ ?_ ?_)
 .rintro i d H' G⟨_,rfl,g⟩;show i4.of (g _ _ h)
 .rintro i x d S z⟨s2,rfl,g⟩;rw[d_,lv]at z;let⟨v,p,rfl⟩:=uJ z;let⟨W,E⟩:=r v (pa p);show(4,L,v,1,E,!2,λy o=>(0,af (0,g.trans o)))
 .rintro d S⟨s2,rfl,g⟩;let s:=g _ _ h;let U:(d_ c).length=c.length:=by rw[d_,ix]
  refine(0,l,0,.inl (i4.of s),8,(!0,!0,5),3);refine IR (λi d H'=>∃n,d=[some (.ref l),some (.str (tx L)),s2,n]/\b' H H') (none,1,g) ?_ ?_
  .rintro i k y G⟨n,rfl,e⟩;let hi1:i+1<c.length:=by lia
   obtain⟨a,u⟩:∃a,c[i]?<*a:=(c[i]'(!6),hH _);obtain⟨b,t⟩:∃b,c[i+1]?<*b:=(c[i+1],hH hi1);let⟨Y,R⟩:=r a (pa u);let⟨X,Q⟩:=r b (pa t);let N:ux (d_ c) (1+(i:Int)-1)<*.str (tx a):=by
    rw[show 1+(i:Int)-1=((i:Nat):Int) by lia];show wu (by rw[d_,lv,u];rfl)
   let M:ux (d_ c) (1+(i:Int))<*.str (tx b):=by
    rw[show 1+(i:Int)=((i+1:Nat):Int) by lia];show wu (by rw[d_,lv,t];rfl)
   refine(4,0,2,uN (e _ _ h) N (4,uN (e _ _ h) M (L,a,b,1,I,R,Q,!2,!2,λZ m=>(0,3))));rw[j i a b u t];show af (0,e.trans m)
  .rintro k y⟨n,rfl,e⟩;show q y e
def fA:oj ["value"] ["value"] (i_ Mu):=pp
def FM(F:n' K "is_whole" "is_whole" Mu f a)(T:Txt K mg):aa P w K mg base kd 1 f a ["value"] sp_is_whole:=by
 refine F.okA fA ?_;rintro _ _ _ _ _ _ _ _ _⟨i,rfl,q⟩;refine(_,(iy (k_ (dR (Gr (KM (T:="int") (b:=true)) (!4) T.isinst boot_isinstance (o5 (pv 0) (KC (v:=.ty "int") (!4) T.int boot_int rfl)))
  (dP (qG (Gr (KM (T:="bool") (b:=false)) (!4) T.isinst boot_isinstance (o5 (pv 0) (KC (v:=.ty "bool") (!4) T.bool boot_bool rfl)))))))),3)
 show(0,8,av.int _,qT K,0,am (0,8,av.int _,qU K,0,q))
def ig:oj ["number","many"] ["number","many"] (i_ Mw):=pp
def GK(F:n' K "is_room" "is_room" Mw f d)(T:Txt K mg)(a:Df P w K mg base "is_whole" 1 ["value"] sp_is_whole):aa P w K mg base kd 2 f d ["number","many"] sp_isroom:=by
 refine F.okA ig ?_;rintro _ _ _ _ H _ Q _ b⟨i,n,rfl,h0,c,q⟩;refine(_,(iy (k_ (dR (mr a b (kb (pv 0))) (dP (mM fQ Il e_ (pv 0) (pv 1)))))),3);refine(0,i,1,0,am (0,2,0,nN h0 (0,2,3)));change Q (.bl (decide (i<n))) H;rw[decide_eq_true c];show q
def dz:oj [Q0,"number"] [Q0,"number"] (i_ Mx):=pp
def wQ(F:n' K "need_room" "need_room" Mx f k)(T:Txt K mg)(c:Df P w K mg base "is_room" 2 ["number","many"] sp_isroom):aa P w K mg base kd 3 f k [Q0,"number"] sp_needroom:=by
 refine F.okA dz ?_;rintro _ _ _ _ _ _ _ _ e⟨m,L,W,B,r,rfl,h,g,d,q⟩;let⟨b,mk,a,j,i,o,n,l⟩:=h;refine(_,(iy (ri (vX (vh (mr c e (o5 (pv 1) (wI T.len (ol 0)))))) (iy (Lu)) (sT))),3);show(0,n_ j ao (b,0,.inr (nj.of i),(r:Int),0,!6,by rw[ix];lia,0,af q))
def f_i:oj [Q3,Z3,"sign"] [Q3,Z3] (i_ My):=pp
def ND(F:n' K "need_word" "need_word" My f h)(T:Txt K mg):aa P w K mg base kd 1 f h [Q3,Z3] sp_needword:=by
 refine F.okA f_i ?_;rintro _ _ _ _ H _ _ _ _⟨L,w,rfl,hw,q⟩;refine(_,(iy (uL PassesOwn.never rfl (Is (pv 1)) (uB 2 f_i.nd) (iy (ri (uZ M9 (pv 2) (pv 0) (by with_unfolding_all rfl)) (iy (Lu)) (sT))))),3);refine(4,IU (x:=tx w) (λi a H'=>∃b,a=[some (.str (tx L)),some (.str (tx w)),b]/\H'=H) (none,6) ?_ ?_)
 .rintro i c a j g⟨b,rfl,rfl⟩;rw[JM]at g;let d:c∈L:=hw c (pa g);refine(4,2,0,3);let e:=KN L c;unfold Txt.contains at e;rw[e,decide_eq_true d];show af (0,1)
 .rintro a j⟨b,rfl,rfl⟩;show q
def b_l:oj [Q0,Z4,Z3,Q3,Z1,"here","sign"] [Q0,Z4,Z3] (i_ Mz):=pp
def Oe(F:n' K "room_after" "room_after" Mz f O)(T:Txt K mg)(D:Df P w K mg base "need_room" 3 [Q0,"number"] sp_needroom)(C:Df P w K mg base "need_word" 1 [Q3,Z3] sp_needword):aa P w K mg base kd 4 f O [Q0,Z4,Z3] sp_roomafter:=by
 refine F.okA b_l ?_;rintro _ _ _ _ H _ _ _ v⟨m,L,W,B,r,w,rfl,y,e,h,hw,q⟩;let t:=y;let⟨n,mk,a,z,N,Y,M,I⟩:=t;let p:=v.mono (j:=1) (!0);refine(_,(h6 (j5 3 b_l.nd (ol 0)) (h6 (j5 4 b_l.nd (ol 0)) (h6 (uU (mr D v (o5 (pv 0) (pv 1)))) (h6 (uU (mr C p (o5 (pv 3) (pv 2)))) (h6 (j5 5 b_l.nd (pv 1)) (h6 (uL PassesOwn.never rfl (Is (pv 2)) (uB 6 b_l.nd) (iy (j5 5 b_l.nd (ve (ve (pv 4) (pv 5)) (Hl plainAttrs_str PySem.F.slot_str_index PySem.F.type_str_index FE (pv 3) (kb (pv 6))))))) (iy (k_ (pv 5))))))))),3);refine(n_ z au (n_ z ao ?_));refine(4,m,L,W,B,r,1,y,e,h,3);refine(4,L,w,1,hw,0,3);refine(4,IU (x:=tx w) (λi l H'=>∃o,l=[some (.ref m),some (.int (r:Int)),some (.str (tx w)),some (.str (tx L)),some (.ref n),some (.int (run L W r (w.take i):Nat)),o]/\H'=H) (none,6) ?_ ?_)
 .rintro i c l X s⟨o,rfl,rfl⟩;rw[JM]at s;let b:c∈L:=hw c (pa s);let k:=ur e (w:=w.take i) h λd G=>hw d (mem_of_mem_take G);let⟨ws,x,U,S,R,Z⟩:=e.at k b;obtain⟨u,g⟩:∃u,a[run L W r (w.take i)]?<*u:=(a[run L W r (w.take i)]'(!6),by simp[M,k]);let⟨E,A,Q⟩:=I _ _ g;rw[U]at A;cases A;refine(4,uX N (vZ V.ref g) (0,1,0,2,by rw[KN];show decide_eq_true b,3));rw[Kc b];refine(uX Q (vZ _ S) ?_);refine(some (.str ⟨#[c]⟩),3,1);show[some (V.ref m),some (V.int (r:Int)),some (V.str (tx w)),some (V.str (tx L)),some (V.ref n),some (V.int ((x:Nat):Int)),some _]=_;rw[take_add_one,s];change _=[some (V.ref m),some (V.int (r:Int)),some (V.str (tx w)),some (V.str (tx L)),some (V.ref n),some (V.int ((run L W r (w.take i++[c]):Nat):Int)),some (V.str ⟨#[c]⟩)];rw[Ia,R]
 .rintro l X⟨o,rfl,rfl⟩;rw[nb,take_length];show(0,q)
def fz:oj [Q0,Z3,Z2] [Q0,Z3] (i_ dD):=pp
def HQ(F:n' K "takes" "takes" dD f o)(T:Txt K mg)(e:Df P w K mg base "room_after" 4 [Q0,Z4,Z3] sp_roomafter):aa P w K mg base kd 5 f o [Q0,Z3] sp_takes:=by
 refine F.okA fz ?_;rintro _ _ _ _ _ _ _ _ g⟨m,L,W,B,w,rfl,d,a,hw,q⟩;let b:=d;let⟨p,mk,c,n,u,l,t,s⟩:=b;let h:=a.n1;refine(_,(h6 (j5 2 fz.nd (ol 0)) (iy (k_ (ve (pv 2) (mr e g (s_ (pv 0) (e_) (pv 1))))))),3);refine(n_ n aC (4,0,m,L,W,B,(0),w,1,d,a,!6,hw,3));let i:=ur a (w:=w) (r:=0) (!6) hw;let j:=a.bl;let k:B[run L W 0 w]?<*B.getD (run L W 0 w) false:=by
  rw[mu,hH (!6)];rfl
 show(uX l (vZ V.bl k) q)
def d_W:oj ["values","numbers","value"] ["values"] (i_ MA):=pp
def FN(F:n' K "numbered" "numbered" MA f fd)(T:Txt K mg):aa P w K mg base kd 1 f fd ["values"] sp_numbered:=by
 refine F.okA d_W ?_;rintro _ _ _ _ H _ _ _ M⟨a,o,xs,ks,nest,rfl,S,Q,G,h,Y,q⟩;refine(_,(h6 (j5 1 d_W.nd (pe)) (h6 (uL PassesOwn.never rfl (wA (pv 0)) (uB 2 d_W.nd) (iy (ri (uZ (kx M.units) (pv 2) (pv 1) (by with_unfolding_all rfl)) (iy (GA (Gr G1 (!4) T.len boot_len (kb (pv 1))) (Gz (pv 1) (pv 2) (G0 M.units)))) (sT)))) (iy (k_ (wH ["values","numbers","?"] rfl (!0) (wA (pv 0)) (λcl C fp s' H'=>(vi,u_ (kP P w M.units) (pv 2) (pv 0) (λ_ _=>rfl)))))))),3);let hz:xs.length≤sizeLine:=kA (by rw[G];show Nat.le_trans h (!0));let c:∀{i:Nat}{x:V},xs[i]?<*x->∃k,ks[i]?=some k/\gX H k x/\K2 k=nest:=λ{i x}u=>by
  let U:i<ks.length:=by rw[<-G];show(j0 u).1
  show(ks[i],hH U,Y i _ x (hH U) u)
 refine(if nest=true then .nest else .bl,λd B=>?_);refine(0,a,o,xs,1,S,n7 Q B,λJ I=>gw I (λi l H'=>E2 λv0 p=>A3 (l=[some (.ref a),some (.ref d),v0]) (H'=L2.upd H d p) (o_ P w H' d nest (ks.take i))) (none,0,1,o_.new P w H d nest) ?_ ?_ ?_)
 .rintro i l H'⟨v0,p,rfl,rfl,_⟩;show n7 Q B
 .rintro i x l H' u⟨v0,p,rfl,rfl,r⟩;let⟨k,g,s,m⟩:=c u;let n:gX (L2.upd H d p) k x:=s.stay λb ys z=>n7 z B;refine(4,d,0,r.get n m,0,3);by_cases v:k∈q5 (ks.take i)
  .rw [show(!(dZ (ks.take i) k).isSome)=false by rw[dZ,if_pos v];rfl];refine af (2,3);rw[FG g];show r.same v
  .rw [show(!(dZ (ks.take i) k).isSome)=true by rw[dZ,if_neg v];rfl];let O:(q5 (ks.take i)).length<sizeLine:=by
    let h1:=jL (ks.take i);let Z:(ks.take i).length≤2100:=by rw[length_take];show Nat.le_trans (Nat.min_le_right _ _) h
    show lt_of_lt_of_le (Nat.lt_succ_of_le (Nat.le_trans h1 Z)) (kA (!0))
   let⟨L,A,N⟩:=r.put n m v O;refine am (0,d,0,r.len,4,d,0,A,3);refine(some x,L,1,JD,3);rw[FG g];show N
 .rintro l H'⟨v0,p,rfl,rfl,r⟩;rw[G,take_length]at r;let E:L2.upd H d p a<*o:=n7 Q B;let y:b' H (L2.upd H d p):=b'.upd B;refine(0,a,o,xs,1,S,E,λJ I=>LH I E (λD j ys H'=>ys=(c_ (ak ks)).take j) hz (λD R=>!1) ?_ ?_)
  .intro D j x ys H' R1 R2 R u e t hp X k2;let⟨k,g,s,m⟩:=c u;let v:k∈q5 ks:=mem_dis.mpr (pa g);let W:=(r.mono e).get (s.stay λb ys z=>(y.trans e) _ _ z) m;rw[show dZ ks k<*_ from if_pos v]at W;refine h_ (4,d,0,W,X _ H' t (b'.set e R) ?_);rw[hp];refine(FG ?_).symm;rw[c_,ak,map_map,lv,g];rfl
  .intro D ys H' R e t hp;refine q D H' (y.trans e) ?_;rw[t,hp,G,take_of_length_le (by rw[f_,Kg];show Nat.le_refl _)]
def dB:oj ["lots"] ["lots"] (i_ MB):=pp
def wR(F:n' K "many_lots" "many_lots" MB f i)(T:Txt K mg):aa P w K mg base kd 1 f i ["lots"] sp_manyM:=by
 refine F.okA dB ?_;rintro _ _ _ _ _ _ _ _ _⟨a,ns,rfl,h,d,q⟩;refine(_,(iy (k_ (mB uy (Gr (da rfl) (!4) T.max boot_max (kb (pv 0))) e_))),3);refine(0,a,zs ns,1,by rw[h,Kk],by rw[gY];show d,λM g b=>(2,3));let⟨m,e,rfl⟩:=mem_map.mp g;show q m e λx c=>Int.ofNat_le.mp (b _ (mem_map.mpr (x,c,1)))
def c_q:oj [Z1,Z2,"most","rounds","lots","finer"] [Z1,Z2,"most"] (i_ MC):=pp
def wS(F:n' K "rounds_of" "rounds_of" MC f fd)(T:Txt K mg)(yh:Df P w K mg base "numbered" 1 ["values"] sp_numbered)(yq:Df P w K mg base "many_lots" 1 ["lots"] sp_manyM):aa P w K mg base kd 2 f fd [Z1,Z2,"most"] sp_roundsQ:=by
 refine F.okA c_q ?_;rintro _ _ _ _ H _ _ _ hr⟨wy,mk,b3,o,om,L,W,B,rfl,ho,be,bm,bs,az,ap,d,q⟩;refine(_,(h6 (j5 3 c_q.nd (uT (kb (mr yh hr (kb (pv 1)))))) (h6 (JF PassesOwn.never (uZ fQ (mr yq hr (kb (vG (pv 3) (aP IS e_)))) (pv 2) (uV _)) (h6 (j5 4 c_q.nd (vG (pv 3) (aP IS e_))) (h6 (j5 5 c_q.nd (mr yh hr (kb (mL [Z1,Z2,"most","rounds","lots","finer"] rfl (!0) (LQ rfl T.enumerate (kb (pv 0))) (λcl C fp s' H'=>wf (o5 (u_ (HG K) (pv 6) (pv 0) (λ_ _=>rfl)) (vK (Lz K) (!4) T.tuple boot_tuple (kb (wH [Z4,"row",Z1,Z2,"most","rounds","lots","finer"] rfl (show Nodup (["goal",Z4,"row",Z1,Z2,"most","rounds","lots","finer"]:List Str) by decide) (wA (pv 1)) (λcl C fp s' H'=>(vi,u_ (HG K) (pv 7) (pv 0) (λ_ _=>rfl)))))))))))) (h6 (ri (uZ (qM hr.units0) (pv 5) (pv 4) (uV _)) (iy (fJ)) (sT)) (iy (uU (v_ (pv 3) (pv 5)))))))) (iy (k_ (pv 3))))),3);let I:=d.n60;let bo:=d.n1;refine(0,mk,_,B.map V.bl,B.map (λb=>(KS.inl b:KS)),false,1,bm,bs,by rw[ix,ix],by rw[ix,d.bl];show Nat.le_trans I (!0),3,λp0 H1 s1 a3=>(kA (by change 1≤16777216;decide),λp hp=>?_))
 .intro i k x S Z;rw[lv]at S Z;cases hb:B[i]? with
  |none=>rw[hb]at S;cases S
  |some b=>rw[hb]at S Z;cases S;cases Z;show(1,1)
 rw[m4]at a3;let bk:H p=none:=Ho s1 hp;refine(Kl H wy mk p W B,(_,(0),[p0],none,none,6,s1.trans (b'.upd hp),a_,1,3,λi U=>absurd U (not_lt_zero _)),3)
 .intro i r e;match i,e with
  |0,e=>cases e;show n7 a3 hp
  |n+1,e=>simp at e
 rintro m b4 H'⟨k,l,s4,s5,rfl,rfl,sm,aM,s,N,a5⟩;let S:=iN d a5;obtain⟨la,a6⟩:∃la,l[k]?<*la:=(l[k]'(by rw[s];show lt_succ_self k),hH _);let Q:=N k la a6;let bb:=LJ s a6;let O:=GZ d k;refine(4,uN aM bb (la,Rd W B k,1,Q,by rw[O];show bo,λM hM _=>(0,2,0,3)));let b1:=gU d hM;refine nN (show((M:Int)+1)≤((W.length:Nat):Int)from Int.ofNat_le.mpr b1) ?_;refine(λaV H2=>Rd W B (k+1)≠Rd W B k/\Kl H wy mk p W B (fc W.length (Rd W B (k+1))) aV H2,λaV H2 h=>(_,eZ d h.1,h.2),3);refine(4,uN aM bb ?_);dsimp only[uY];dsimp only[tNext,ax,ar,vY,uA,wg,vn];refine gO (c:=wy) (λR h=>(0,h)) ho (sm _ _ be) (λD i ys H2=>∃ps:List Addr,A3 (ys=ps.map V.ref) (ps.length=i) (∀(j:Nat)(t:Addr),ps[j]?<*t->Ig H2 (cO W (Rd W B k) j) t)) (by rw[ix,az];show kA (Nat.le_trans I (!0))) (λD hD=>([],6,λj t e=>by simp at e)) ?_ ?_
 .intro D i x ys H2 H3 R1 hD Z A aT hp v k1;let⟨ps,rfl,E,aF⟩:=hp;rw[lv]at Z;let⟨rr,a1,rfl⟩:=uJ Z;let U:i<W.length:=by rw[<-az];show(j0 a1).1
  let⟨ws,a0,b5,a4,a2⟩:=ap i rr a1;let s3:b' H H3:=(sm.trans A).trans v;let as:=s3 _ _ a2;let ai:H3 la<*.lst (c_ (Rd W B k)):=v _ _ (A _ _ Q);let ew:W.getD i []=ws:=by rw[mu,a0];rfl
  let⟨bf,bg⟩:=d.row ws (pa a0);let b2:=d.lt.hi;refine(4,uN ai (wN (by rw[O];show U)) ?_);dsimp only[tNext,ax,ar,vY,uA,wg,vn];refine HH (a:=rr) (λR h=>(0,h)) a4 as (λD2 j an H4=>an=(c_ (ws.map λg=>(Rd W B k).getD g 0)).take j) (by rw[f_,bf];show kA (Nat.le_trans b2 (!0))) (λD2 aU=>!1) ?_ ?_
  .intro D2 j y an H4 R3 R4 aU hy hsm4 hD2l ab k3 k4;let hj:j<ws.length:=by have:=(j0 hy).1;rwa [f_]at this
   rw[G2 hj]at hy;cases hy;refine h_ (4,uN (hsm4 _ _ ai) (wN (by rw[O];show bg _ (ba hj))) (k3 _ H4 hD2l (b'.set hsm4 aU) ?_));rw[ab];refine(FG ?_).symm;rw[G2 (by rw[ix];show hj),LK hj]
  .intro D2 an H4 aU hsm4 hD2l ab;rw[f_,take_of_length_le (by rw[f_,ix];show Nat.le_refl _)]at ab;subst ab;refine(D2,0,.inl (i4.of hD2l,λb hb=>(kA (by change 2≤16777216;decide),λt ht=>?_)));let s5:=hsm4.trans ((b'.upd (o:=.tup (c_ (ws.map λg=>(Rd W B k).getD g 0))) hb).trans (b'.upd (o:=.tup [.int (((Rd W B k).getD i 0:Nat):Int),.ref b]) ht));let ac:=s5 _ _ (v _ _ aT);refine k1 (.ref t) _ ac (b'.set (A.trans (v.trans s5)) hD) (ps++[t],by rw[map_append];rfl,by rw[j_,E];rfl,λj u e=>?_);by_cases hj:j<ps.length
   .rw [getElem?_append_left hj]at e;show uF (λc cs z=>i0 ((v.trans s5) _ _ z) ac (!5)) (aF j u e)
   .rw [getElem?_append_right (le_of_not_lt hj)]at e;let bt:j=i:=(qd hj (j0 e).1).trans E;subst bt;rw[E,sub_self]at e;let et:t=u:=by simpa using e
    subst et;let ek:(zs (cO W (Rd W B k) j).2).map V.int=c_ (ws.map λg=>(Rd W B k).getD g 0):=by
     rw[<-Kk];change c_ ((W.getD j []).map _)=_;rw[ew]
    refine(b,i0 a_ ac (!5),3);rw[ek];show i0 (n7 a_ ht) ac (!5)
 intro D ys H2 hD A aT hp;let⟨ps,rfl,E,aF⟩:=hp;refine(D,_,ps.map V.ref,(Ib W (Rd W B k)).map (λx=>(KS.inr x:KS)),true,1,.inl rfl,aT,by rw[ix,ix,GS,E,ix,az],by rw[ix,GS];show Nat.le_trans I (!0),3,λfa H4 Y a8=>?_)
 .intro i kk x S Z;rw[lv]at S Z;let⟨nk,e1,rfl⟩:=uJ S;let⟨t,e2,rfl⟩:=uJ Z;let U:i<W.length:=by have:=(j0 e1).1;rwa [GS]at this
  rw[LB U]at e1;cases e1;show((t,1,aF i t e2),1)
 rw[mZ]at a8;let X:H4 fa<*.lst (c_ (Rd W B (k+1))):=a8;let aZ:b' H H4:=sm.trans (A.trans Y);let bc:=(A.trans Y) _ _ Q;let p4:=(A.trans Y) _ _ aM;let G:=N.same (A.trans Y);refine(4,fa,la,zs (Rd W B (k+1)),zs (Rd W B k),6,by rw[X,Kk],by rw[bc,Kk],by rw[gY,gY,GZ d,GZ d],0,aB (λhe=>?_) (λhe=>?_))
 .exact (0,q p l k H4 aZ p4 s G (bj he) S)
 let a9:Rd W B (k+1)≠Rd W B k:=λz=>he (by rw[z]);let a7:l≠[]:=by
  intro z;rw[z]at s;simp at s
 refine(0,.inl (1,_,i4.of p4),0,p,2,p4,3,a9,k+1,l++[fa],2,b'.set aZ bk,9,9)
 .rw [ix,s];show uf S
 .rw [a_,map_append];rfl
 .rw [j_,s];rfl
 .intro i r e;by_cases U:i<l.length
  .rw [getElem?_append_left U]at e;let h1:=G i r e;rw[b_ (jy h1 p4 a7)];show h1
  .rw [getElem?_append_right (le_of_not_lt U)]at e;let b0:i=k+1:=(qd U (j0 e).1).trans s;subst b0;rw[s,sub_self]at e;let et:fa=r:=by simpa using e
   subst et;rw[b_ (jy X p4 a7)];show X
 .intro i U;by_cases h:i=k
  .subst h;show a9
  .exact a5 i (td U h)
def a_x:oj [Q3,Z1,"rounds","one","two","needed","here","there",Z3,"lots","place"] [Q3,Z1,"rounds","one","two"] (i_ MD):=pp
def Of(F:n' K "parting_word" "parting_word" MD f fd)(T:Txt K mg):aa P w K mg base kd 1 f fd [Q3,Z1,"rounds","one","two"] sp_pword:=by
 refine F.okA a_x ?_;rintro _ _ _ s H _ _ _ _⟨wy,p,b3,A,L,W,B,k,r,s,rfl,X,a1,M,b,hp,y,v,b0,aU,Z,Y,q⟩;refine(_,(h6 (ri (Jg (vG (vG (pv 2) (aP IS e_)) (pv 3)) (vG (vG (pv 2) (aP IS e_)) (pv 4))) (iy (k_ JE)) (sT)) (h6 (j5 5 a_x.nd (Hl plainAttrs_list slot_list_index type_list_index cD (wH [Q3,Z1,"rounds","one","two","needed","here","there",Z3,"?","place"] rfl (!0) (wA (pv 2)) (λcl C fp s' H'=>(vi,Hi Ik (u_ (HG K) (pv 0) (pv 4) (λ_ _=>rfl)) (u_ (HG K) (pv 0) (pv 5) (λ_ _=>rfl)) (uV _)))) (kb uP))) (h6 (j5 6 a_x.nd (pv 3)) (h6 (j5 7 a_x.nd (pv 4)) (h6 (j5 8 a_x.nd (we)) (h6 (uL PassesOwn.never rfl (qE rfl T.reversed (kb (HY wM (pv 2) Iq (Hj (pv 5))))) (uB 9 a_x.nd) (h6 (j5 10 a_x.nd (Hl plainAttrs_list slot_list_index type_list_index cD (Kv [Q3,Z1,"rounds","one","two","needed","here","there",Z3,"lots","place"] rfl (!0) (jp rfl T.zip (o5 (ve (pv 1) (pv 6)) (ve (pv 1) (pv 7)))) (λcl C fp s' H'=>(vi,Hi Ik (u_ (HG K) (pv 11) (pv 0) (λ_ _=>rfl)) (u_ (HG K) (pv 11) (pv 1) (λ_ _=>rfl)) (uV _)))) (kb uP))) (h6 (j5 8 a_x.nd (mB Im (pv 8) (u_ vL (pv 0) (pv 10) (λ_ _=>rfl)))) (h6 (j5 6 a_x.nd (ve (ve (pv 1) (pv 6)) (pv 10))) (iy (j5 7 a_x.nd (ve (ve (pv 1) (pv 7)) (pv 10)))))))) (iy (k_ (pv 8))))))))),3);let hz:(tx L).length≤sizeLine:=kA (by rw[nb];show Nat.le_trans b.lt.hi (!0));obtain⟨la,a9⟩:∃la,A[k]?<*la:=(A[k]'(by rw[y];show lt_succ_self k),hH _);let aM:=v k la a9;let bg:=LJ y a9;let as:=GZ b k;refine(4,uN hp bg (0,uN aM (wN (by rw[as];show Z)) ?_));refine(4,uN hp bg (0,uN aM (wN (by rw[as];show Y)) (1,0,3)));rw[eK];refine aB (λhe=>?_) (λhe=>?_)
 .exact q none H (b'.refl H) (.inl (1,λj=>jz b b0 he Z Y j))
 let⟨a7,ai,bc,E⟩:=gy (f:=λj=>decide (jj W B j r=jj W B j s)) (n:=k+1) (j:=k) (lt_succ_self k) (decide_eq_false he);dsimp only[tNext,ax,ar,vY,uA,wg,vn];refine HH (a:=p) (λR h=>(0,h)) (.inl rfl) hp (λD j ys H'=>ys=(((List.range (k+1)).map λj=>decide (jj W B j r=jj W B j s)).map V.bl).take j) (by rw[ix,y];show kA (Nat.le_trans (succ_le_succ aU) (!0))) (λD hD=>!1) ?_ ?_
 .intro D j x ys H' R1 R2 hD O I o ac k1 k2;rw[lv]at O;let⟨bm,aT,rfl⟩:=uJ O;let N:j<k+1:=by rw[<-y];show(j0 aT).1
  let e:=I _ _ (v j bm aT);refine h_ (4,uN e (wN (by rw[GZ b];show Z)) (4,uN e (wN (by rw[GZ b];show Y)) (1,3)));rw[eK];refine k1 _ H' o (b'.set I hD) ?_;rw[ac];refine(FG ?_).symm;rw[lv,lv,getElem?_range N];rfl
 intro D ys H1 hD I o ac;rw[ix,y,take_of_length_le (!1)]at ac;subst ac;refine(.inl (1,_,i4.of o),D,0,1,o,a7,3);generalize ((List.range (k+1)).map λj=>decide (jj W B j r=jj W B j s)).idxOf false=t at ai bc E⊢;let a6:jj W B t r≠jj W B t s:=of_decide_eq_false bc;let be:∀j<t,jj W B j r=jj W B j s:=λj N=>of_decide_eq_true (E j N);refine(4,3);refine(4,0,p,0,i4.of (I _ _ hp),λpl a5=>?_);rw[LI (by rw[ix,y];show Nat.le_of_lt ai)];let U:((A.map V.ref).take t).length=t:=by rw[length_take,ix,y];show min_eq_left (Nat.le_of_lt ai)
 refine(pl,0,a_,gw mS (λi Q H'=>E5 λ(e:Nat)(m:Nat)(w:LN)(s9:Option V)(S:Option V)=>A9 (Q=[some (.str (tx L)),some (.ref wy),some (.ref p),some (.int (r:Int)),some (.int (s:Int)),some (.int (t:Int)),some (.int (e:Int)),some (.int (m:Int)),some (.str (tx w)),s9,S]) (b' (L2.upd H1 pl (.lst ((A.map V.ref).take t))) H') (e<W.length) (m<W.length) (w.length=i) (i≤t) (jj W B (t-i) e≠jj W B (t-i) m) (∀j<t-i,jj W B j e=jj W B j m) (w++pw L W B (t-i) e m=pw L W B t r s)) (r,s,[],none,none,by rw[<-bG];rfl,b'.refl _,Z,Y,1,zero_le _,a6,be,1) ?_ ?_ ?_)
 .rintro i Q H'⟨e,m,w,s9,S,rfl,G,_⟩;show G _ _ a_
 .rintro i x Q H2 O⟨e,m,w,s9,S,rfl,G,hh1,hh2,aV,b1,hne2,heq2,hw⟩;let hi:i<t:=by have:=(j0 O).1;rwa [length_reverse,U]at this
  rw[List.getElem?_reverse (by rw[U];show hi),U,List.getElem?_take,if_pos (pT hi),lv]at O;let⟨bk,aF,rfl⟩:=uJ O;let⟨u,hu,bt,bs⟩:=rk hi;rw[bt]at aF;rw[hu]at hne2 heq2 hw;let s0:b' H H2:=I.trans ((b'.upd a5).trans G);let a8:=s0 _ _ (v u bk aF);let⟨ra,a3,ap⟩:=p'.row a1 (M.same s0) hh1;let⟨rb,a2,an⟩:=p'.row a1 (M.same s0) hh2;let⟨l,a4,b4⟩:=fL b hh1 hh2 hne2 (heq2 u (lt_succ_self u));let l1:=(Gu b hh1).1;let l2:=(Gu b hh2).1;let b2:=b.lt.hi;dsimp only[uY];dsimp only[tNext,ax,ar,vY,uA,wg,vn];refine eO (K:=K) (c:=ra) (d:=rb) (λR h=>(4,uX (s0 _ _ X) (vZ V.ref a3) (4,uX (s0 _ _ X) (vZ V.ref a2) h))) ap an (by rw[f_,f_,l1,l2]) (λD j ys H3=>ys=((Ic W B u e m).map V.bl).take j) (by rw[f_,l1];show kA (Nat.le_trans b2 (!0))) (λD hD=>!1) ?_ ?_
  .intro D j x z ys H3 H4 R1 hD O a0 g o ab hsm4 k1;let N:j<L.length:=by have:=(j0 O).1;rwa [f_,l1]at this
   rw[G2 (by rw[l1];show N)]at O;rw[G2 (by rw[l2];show N)]at a0;cases O;cases a0;let az:=hsm4 _ _ (g _ _ a8);refine(4,uN az (wN (by rw[GZ b];show Gv b hh1 N)) (4,uN az (wN (by rw[GZ b];show Gv b hh2 N)) (1,3)));rw[eK];refine k1 _ H4 (hsm4 _ _ o) (b'.set (g.trans hsm4) hD) ?_;rw[ab];refine(FG ?_).symm;rw[lv,KY b hh1 hh2 N];rfl
  intro D ys H3 hD g o ab;rw[f_,l1,take_of_length_le (by rw[ix,LD b hh1 hh2];show Nat.le_refl _)]at ab;subst ab;let aZ:false∈Ic W B u e m:=List.idxOf_lt_length_iff.mp (by rw[LD b hh1 hh2];show l);refine(.inl (1,_,i4.of o),D,0,1,o,aZ,3);let s3:=s0.trans g;let bb:L[place W B u e m]?<*L.getD (place W B u e m) 0:=by rw[mu,hH l];rfl
  let bf:ux (tx L).cps.toList ((place W B u e m:Nat):Int)<*L.getD (place W B u e m) 0:=by
   rw[vp];show wu bb
  let e1:=wN (ns:=W.getD e []) (r:=place W B u e m) (by rw[l1];show l);let e2:=wN (ns:=W.getD m []) (r:=place W B u e m) (by rw[l2];show l);refine(4,0,_,2,hz,bf,2,9)
  .rw [nb];change w.length+1≤sizeLine;show kA (sZ aV hi ai aU)
  refine(4,uX (s3 _ _ X) (vZ V.ref a3) (0,uX (g _ _ ap) e1 ?_));refine(4,uX (s3 _ _ X) (vZ V.ref a2) (0,uX (g _ _ an) e2 ?_));rw[bs];refine(goal W e (place W B u e m),goal W m (place W B u e m),w++[L.getD (place W B u e m) 0],7,by rw[<-H_];rfl,G.trans g,Gv b hh1 l,Gv b hh2 l,by rw[j_,aV];rfl,hi,a4,λj N=>((Hm b hh1 hh2).mp (heq2 (j+1) (Nat.succ_lt_succ N))).2 _ l,3);rw[append_assoc];show hw
 .rintro Q H2⟨e,m,w,s9,S,rfl,G,hh1,hh2,aV,b1,hne2,heq2,hw⟩;rw[length_reverse,U,sub_self]at hw;let bo:w=pw L W B t r s:=by rw[<-hw];simp[pw]
  show(0,q (some w) H2 (I.trans ((b'.upd a5).trans G)) (.inr (t,by rw[bo],a6,be)))
def e_R:oj [Q0,"one","two",Z1,"rounds"] [Q0,"one","two"] (i_ ME):=pp
def GL(F:n' K "parting" "parting" ME f N)(T:Txt K mg)(D:Df P w K mg base "need_room" 3 [Q0,"number"] sp_needroom)(G:Df P w K mg base "rounds_of" 2 [Z1,Z2,"most"] sp_roundsQ)(H:Df P w K mg base "parting_word" 1 [Q3,Z1,"rounds","one","two"] sp_pword):aa P w K mg base kd 4 f N [Q0,"one","two"] sp_part56:=by
 refine F.okA e_R ?_;rintro _ _ _ s _ _ _ _ i⟨m,L,W,B,r,s,rfl,y,a,g,e,q⟩;let⟨l,mk,b,C,A,M,z,E⟩:=id y;let u:=i.mono (j:=1) (!0);let t:=i.mono (j:=2) (!0);refine(_,(h6 (uU (mr D i (o5 (pv 0) (pv 1)))) (h6 (uU (mr D i (o5 (pv 0) (pv 2)))) (h6 (j5 3 e_R.nd (ol 0)) (h6 (j5 4 e_R.nd (mr G t (s_ (pv 3) (ol 0) (wI T.len (pv 3))))) (iy (k_ (mr H u (GX (ol 0) (GX (pv 3) (s_ (pv 4) (pv 1) (pv 2))))))))))),3);refine(4,m,L,W,B,r,1,y,a,g,3);refine(4,m,L,W,B,s,1,y,a,e,3);refine(n_ C ao ?_);refine(0,n_ C aC (0,l,0,.inr (nj.of A),l,mk,b,7,L,W,B,by rw[ix,z];rfl,.inr rfl,A,.inr rfl,M,z,mz E,a,λp d k Q h hp x c n I=>?_));show(n_ (h _ _ C) au (4,4,l,p,b,d,L,W,B,k,r,s,1,h _ _ A,z,E.same h,a,hp,x,c,n,I,g,e,λo O s2 v=>q o O (h.trans s2) v))
def b7:oj [Q0,"one","two","tail"] [Q0,"one","two"] (i_ MF):=pp
def Hd(F:n' K "parted" "parted" MF f N)(T:Txt K mg)(H:Df P w K mg base "parting" 4 [Q0,"one","two"] sp_part56)(C:Df P w K mg base "room_after" 4 [Q0,Z4,Z3] sp_roomafter)(G:Df P w K mg base "takes" 5 [Q0,Z3] sp_takes):aa P w K mg base kd 6 f N [Q0,"one","two"] sp_parted:=by
 refine F.okA b7 ?_;rintro _ _ _ _ _ _ _ _ D⟨m,L,W,B,S,X,u,v,rfl,k,h,M,s,p,R,Q,y,q⟩;let b:=D.mono (j:=4) (!0);let a:=h.mach;let i:0<W.length:=by have:=a.n1;lia
 let E:(3:Nat)≤sizeLine:=kA (by change 3≤16777216;decide);refine(_,(h6 (j5 3 b7.nd (mr H b (s_ (pv 0) (mr C b (s_ (pv 0) (e_) (pv 1))) (mr C b (s_ (pv 0) (e_) (pv 2)))))) (h6 (ri (vh (mr G D (o5 (pv 0) (mB Im (pv 1) (pv 3))))) (iy (k_ (wf (s_ (pv 1) (pv 2) (pv 3))))) (sT)) (iy (k_ (wf (s_ (pv 2) (pv 1) (pv 3))))))),3);let g:=ur a i s;let d:=ur a i p;refine(4,0,m,L,W,B,(0),u,1,k,a,i,s,4,m,L,W,B,(0),v,1,k,a,i,p,m,L,W,B,8,k,a,g,d,λo U l c=>?_);cases o with
 |none=>show absurd (h.unlike g d ((c.spec a g d).1 rfl)) y
 |some z=>
  let⟨hz,_,n,_⟩:=(c.spec a g d).2 z rfl;let O:=mO c a g d;rw[<-uS,<-uS]at n;let r:=GV s hz;let I:=GV p hz;refine(4,0,2,by rw[nb,nb];show kA (!6),m,L,W,B,u++z,by rw[H_];rfl,k.same l,a,r,0,3);cases e:B.getD (run L W 0 (u++z)) false with
  |true=>
   refine am (4,0,E,λt x=>q t u v z _ (l.trans (b'.upd x)) a_ (.inl (1,1)) hz (!6) e ?_);cases A:B.getD (run L W 0 (v++z)) false with
   |false=>rfl
   |true=>show absurd (e.trans A.symm) n
  |false=>
   refine af (4,0,E,λt x=>q t v u z _ (l.trans (b'.upd x)) a_ (.inr (1,1)) hz (!6) ?_ e);cases A:B.getD (run L W 0 (v++z)) false with
   |true=>rfl
   |false=>show absurd (e.trans A.symm) n
def Og:oj ["lots"] ["lots"] (i_ MG):=pp
def Oh(F:n' K "first_rooms" "first_rooms" MG f A)(T:Txt K mg)(t:Df P w K mg base "many_lots" 1 ["lots"] sp_manyM):aa P w K mg base kd 2 f A ["lots"] sp_firstrooms:=by
 refine F.okA Og ?_;rintro _ _ _ _ _ _ _ _ v⟨a,ns,rfl,m,p,z,c,g,q⟩;refine(_,(iy (k_ (wH ["lots"] rfl (!0) (Hf rfl T.range (kb (mr t v (kb (pv 0))))) (λE C B s' H'=>(vi,cg K (pv 1) (kb (pv 0))))))),3);let⟨M,i,e⟩:=nh p;let r:=c M i;dsimp only[aG,uY,tNext,ax,ar,vY,uA,wg,vn];show c6 (n:=M+1) (λj=>ns.idxOf j) (λR h=>(0,a,ns,1,m,p,λs l d=>by rw[show s=M from le_antisymm (e s l) (d M i)];show h)) (!6) (λj k H' G b h=>(0,.inl (1,_,i4.of (b _ _ m)),0,a,zs ns,(j:Int),6,by rw[<-Kk];show b _ _ m,mem_map.mpr (j,g M j i (Nat.le_of_lt_succ k),1),by rw[lH];show h)) λD H' b o y=>q (M+1) D H' (Nat.succ_pos M,λx u=>Nat.lt_succ_of_le (e x u),λj k=>g M j i (Nat.le_of_lt_succ k)) b y o
def e_r:oj [Q8,"lots",Q4,Z1,Z2] [Q8,"lots"] (i_ MH):=pp
def He(F:n' K "folded" "folded" MH f fd)(T:Txt K mg)(Z:J4 K cW)(vk:Df P w K mg base "first_rooms" 2 ["lots"] sp_firstrooms):aa P w K mg base kd 3 f fd [Q8,"lots"] (bZ cW):=by
 refine F.okA e_r ?_;rintro _ _ _ _ _ _ _ _ hr⟨wk,t,wd,y,md,lo,G,L,R,Bm,k,rfl,hW,hy,ab,aV,c,as,q⟩;refine(_,(h6 (j5 2 e_r.nd (mr vk hr (kb (pv 1)))) (h6 (LY [Q8,"lots",Q4,Z1,Z2] (j:=3) rfl e_r.nd (!0) rfl (Or.inl rfl) (wA (pv 2)) (λcl C fp s' H'=>(vi,vK (Lz K) (!4) T.tuple boot_tuple (kb (wH [Z4,Q8,"lots",Q4,Z1,Z2] rfl (show Nodup (["goal",Z4,Q8,"lots",Q4,Z1,Z2]:List Str) by decide) (wA (u_ (HG K) (jq (f:=Z1) K (pv 1) rfl) (pv 0) (λ_ _=>rfl))) (λcl C fp s' H'=>(vi,u_ (HG K) (pv 3) (pv 0) (λ_ _=>rfl)))))))) (h6 (LY [Q8,"lots",Q4,Z1,Z2] (j:=4) rfl e_r.nd (!0) rfl (Or.inl rfl) (wA (pv 2)) (λcl C fp s' H'=>(vi,u_ (HG K) (jq (f:=Z2) K (pv 1) rfl) (pv 0) (λ_ _=>rfl)))) (iy (k_ (wf (s_ (vm (f:=Q3) (pv 0) rfl) (vK ww (!4) T.tuple boot_tuple (kb (pv 3))) (vK ww (!4) T.tuple boot_tuple (kb (pv 4)))))))))),3);let⟨dx,ew⟩:=hW.ex;let I:=c.n60;let S:=GZ c k;refine(0,lo,Rd R Bm k,1,as,by rw[S];show c.n1,by rw[S];show I,λx hx=>lt_of_lt_of_le (gU c hx) I,λM j hM s=>pU hM s,λm p H1 X s1 aZ hp=>?_);let N:m≤2100:=by
  have:=gU c (X.has (m-1) (by have:=X.pos;lia));have:=X.pos;lia
 let B:(c_ ((List.range m).map λj=>(Rd R Bm k).idxOf j)).length=m:=by rw[f_,ix,length_range]
 let room:∀{j:Nat}{x:V},(c_ ((List.range m).map λj=>(Rd R Bm k).idxOf j))[j]?<*x->j<m/\x=.int (((Rd R Bm k).idxOf j:Nat):Int):=λ{j x}e=>by
  let s:j<m:=by have:=(j0 e).1;rwa [B]at this
  rw[G2 (by rw[ix,length_range];show s)]at e;cases e;refine(s,3);rw[mu,lv,getElem?_range s];rfl
 dsimp only[uY];dsimp only[tNext,ax,ar,vY,uA,wg,vn];refine HH (a:=p) (λR h=>(0,h)) (.inl rfl) hp (λD j ys H'=>∃ps:List Addr,A3 (ys=ps.map V.ref) (ps.length=j) (∀(i:Nat)(t:Addr),ps[i]?<*t->i<m/\H' t<*.tup (c_ ((vD R (Rd R Bm k) m).getD i [])))) (by rw[B];show kA (Nat.le_trans N (!0))) (λD hD=>([],6,λi t e=>by simp at e)) ?_ ?_
 .intro D j x ys H' R1 R2 hD hx A E d k1 k2;let⟨ps,rfl,l,Q⟩:=d;let⟨s,rfl⟩:=room hx;let⟨Y,f2⟩:=HL X c s;let s2:=s1.trans A;obtain⟨ra,ap⟩:∃ra,G[(Rd R Bm k).idxOf j]?<*ra:=(G[(Rd R Bm k).idxOf j]'(by rw[ab.1];show Y),hH _);let an:=s2 _ _ (ab.2 _ ra _ ap (hH Y));let⟨aT,aU⟩:=c.row _ (getElem_mem Y);refine h_ ?_;dsimp only[tNext,ax,ar,vY,uA,wg,vn];refine HH (a:=ra) (λR h=>(0,wk,cW,dx,8,s2 _ _ ew,Z.cls,Z.na4,1,0,uN (s2 _ _ hy) (vZ V.ref ap) h)) (.inl rfl) an (λD2 i O H4=>O=(c_ (R[(Rd R Bm k).idxOf j].map λg=>(Rd R Bm k).getD g 0)).take i) (by rw[f_,aT];show kA (Nat.le_trans c.lt.hi (!0))) (λD2 U=>!1) ?_ ?_
  .intro D2 i y2 O H4 R3 R4 U hy2 hsm4 hD2l n k3 k4;let hi:i<R[(Rd R Bm k).idxOf j].length:=by have:=(j0 hy2).1;rwa [f_]at this
   rw[G2 hi]at hy2;cases hy2;refine h_ (4,uN (hsm4 _ _ (s2 _ _ as)) (wN (by rw[S];show aU _ (ba hi))) (k3 _ H4 hD2l (b'.set hsm4 U) ?_));rw[n];refine(FG ?_).symm;rw[G2 (by rw[ix];show hi),LK hi]
  .intro D2 O H4 U hsm4 hD2l n;rw[f_,take_of_length_le (by rw[f_,ix];show Nat.le_refl _)]at n;subst n;refine(D2,0,.inl (i4.of hD2l,λb hb=>?_));let s5:=hsm4.trans (b'.upd (o:=.tup (c_ (R[(Rd R Bm k).idxOf j].map λg=>(Rd R Bm k).getD g 0))) hb);refine k1 (.ref b) _ (s5 _ _ E) (b'.set (A.trans s5) hD) (ps++[b],by rw[map_append];rfl,by rw[j_,l];rfl,λi u e=>?_);let aM:=s5 _ _ E;rcases Hr e with z|⟨rfl,rfl⟩
   .obtain ⟨a1,a2⟩:=Q i u z;show(a1,i0 (s5 _ _ a2) aM (!5))
   .rw [l];refine(s,i0 ?_ aM (!5));rw[a_,cR s,mu,hH Y];rfl
 intro Dw ys H2 a0 H az d;let⟨ps,rfl,l,Q⟩:=d;rw[B]at l;let n:=H _ _ hp;let s2:=s1.trans H;dsimp only[uY];dsimp only[tNext,ax,ar,vY,uA,wg,vn];refine HH (a:=p) (λR h=>(0,h)) (.inl rfl) n (λD j ys H'=>ys=((Hu Bm (Rd R Bm k) m).map V.bl).take j) (by rw[B];show kA (Nat.le_trans N (!0))) (λD hD=>!1) ?_ ?_
 .intro D j x ys H' R1 R2 hD hx A E d k1 k2;let⟨s,rfl⟩:=room hx;let⟨Y,f2⟩:=HL X c s;let W:=s2.trans A;refine h_ (0,wk,cW,dx,8,W _ _ ew,Z.cls,Z.na5,1,0,uN (W _ _ aV) (I_ (by rw[c.bl];show Y)) (k1 _ H' E (b'.set A hD) ?_));rw[d];refine(FG ?_).symm;rw[lv,Hu,lv,getElem?_range s];rfl
 intro Dm ys H3 a3 v aF d;rw[B,take_of_length_le (by rw[ix,Hu,ix,length_range];show Nat.le_refl _)]at d;subst d;let W:=s2.trans v;refine(0,wk,cW,dx,8,W _ _ ew,Z.cls,Z.na1,1,3);refine(0,Dw,0,.inl (i4.of (v _ _ az),λtw ac=>?_));refine(0,Dm,0,.inl (i4.of (n7 aF ac),λtm ai=>(kA (by change 3≤16777216;decide),λf hf=>?_)));let u1:b' H3 (L2.upd H3 tw (.tup (ps.map V.ref))):=b'.upd ac;let u2:=u1.trans (b'.upd (o:=.tup ((Hu Bm (Rd R Bm k) m).map V.bl)) ai);let u3:=u2.trans (b'.upd (o:=.tup [.str (tx L),.ref tw,.ref tm]) hf);refine q m f _ X (W.trans u3) (Ho (W.trans u2) hf) (tw,tm,ps,a_,n7 (n7 a_ ai) hf,n7 a_ hf,by rw[l,vD,ix,length_range],λi r e=>?_);let⟨a1,a2⟩:=Q i r e;refine((vD R (Rd R Bm k) m).getD i [],3,(v.trans u3) _ _ a2);rw[mu,vD,lv,getElem?_range a1];rfl
def h_C:oj [Q0,Q8,"rounds"] [Q0] (i_ dE):=pp
def HR(F:n' K "least" "least" dE f fd)(T:Txt K mg)(n:J4 K cW)(yb:Df P w K mg base "walked_machine" 6 [Q0] (Lc cW P0 sites))(Z:Df P w K mg base "rounds_of" 2 [Z1,Z2,"most"] sp_roundsQ)(yI:Df P w K mg base "folded" 3 [Q8,"lots"] (bZ cW)):aa P w K mg base kd 7 f fd [Q0] (M6 P0 sites):=by
 refine F.okA h_C ?_;rintro _ _ _ _ _ _ _ _ I⟨m,L,W,B,rfl,hM,x,hT,q⟩;let H:=I.mono (j:=2) (!0);let G:=I.mono (j:=3) (!0);refine(_,(h6 (j5 1 h_C.nd (mr yb I (kb (pv 0)))) (h6 (j5 2 h_C.nd (mr Z H (s_ (vm (f:=Z1) (pv 1) rfl) (vm (f:=Z2) (pv 1) rfl) (wI T.len (vm (f:=Z1) (pv 1) rfl))))) (iy (k_ (mr yI G (o5 (pv 1) (vG (pv 2) (aP IS e_)))))))),3);refine(0,m,L,W,B,1,hM,x,hT,λz t wd y S ks ab ws d R Bm H1 s1 N hW ht ai ac E b o Y c X bl D sub le=>?_);let l:=j6 x Y c X bl le;let⟨dx,C⟩:=hW.ex;refine(0,z,cW,dx,8,C,n.cls,n.na4,1,0,z,cW,dx,8,C,n.cls,n.na5,1,0,z,cW,dx,8,C,n.cls,n.na4,1,y,0,.inl (i4.of E),3);refine(y,S,d,7,L,R,Bm,by rw[ix,b.1];rfl,.inl rfl,E,.inl rfl,o,b.1,λi r e=>?_,l,λp g k H2 s2 hp s h st hk=>?_)
 .let U:i<R.length:=by rw[<-b.1];show(j0 e).1
  show(R[i],hH U,_,.inl rfl,b.2 i r _ e (hH U))
 obtain⟨A,v⟩:∃A,g[k]?<*A:=(g[k]'(by rw[s];show lt_succ_self k),hH _);let u:=h k A v;let M:=LJ s v;refine(4,0,uN hp M ?_);refine(z,t,wd,y,S,A,d,L,R,Bm,k,1,(dx,s2 _ _ C),s2 _ _ E,(b.1,λi a r a1 a2=>s2 _ _ (b.2 i a r a1 a2)),s2 _ _ o,l,u,λmm f H3 hm Q hf O=>?_);show q f _ _ H3 (Lb s1 (fB (s2.trans Q))) (Js (Js N s2) Q) O (ks,ws,R,Bm,k,mm,Y,c,X,bl,D,sub,le,l,st,hm,6)
def e_p:oj [Q0,Q4,"rows"] [Q0,Q4] (i_ MI):=pp
def NE(F:n' K "lots_after" "lots_after" MI f fd)(T:Txt K mg):aa P w K mg base kd 1 f fd [Q0,Q4] sp_lotsafter:=by
 refine F.okA e_p ?_;rintro _ _ _ _ _ _ _ _ _⟨m,v,o,L,W,B,k,rfl,hM,N,ho,hv,t,X,q⟩;refine(_,(h6 (j5 2 e_p.nd (wH [Q0,Q4,"rows"] rfl (!0) (wA (pv 1)) (λcl C fp s' H'=>(vi,u_ (aX K) (u_ (aX K) (pv 1) e_ (λ_ _=>rfl)) (pv 0) (λ_ _=>rfl))))) (iy (k_ (mK [Q0,Q4,"rows"] rfl (!0) (Hf rfl T.range (kb (wK T.len (ol 0)))) (λcl C fp s' H'=>(vi,wH ["place",Q0,Q4,"rows"] rfl (show Nodup (["row","place",Q0,Q4,"rows"]:List Str) by decide) (wA (pv 3)) (λcl C fp s' H'=>(vi,u_ (aX K) (pv 0) (pv 1) (λ_ _=>rfl))))))))),3);let⟨wy,mk,an,h1,h2,h3,h4,h5⟩:=id hM;let hz:(tx L).length≤sizeLine:=kA (by rw[nb];show Nat.le_trans N.lt.hi (!0));let ac:(c_ k).length≤sizeLine:=by rw[f_];show kA (Nat.le_trans t (!0))
 let G:∀{j:Nat}{x:V},(c_ k)[j]?<*x->j<k.length/\x=.int ((k.getD j 0:Nat):Int)/\k.getD j 0<W.length:=λ{j x}e=>by
  let A:j<k.length:=by have:=(j0 e).1;rwa [f_]at this
  rw[G2 A]at e;cases e;show(A,1,X _ (ba A))
 dsimp only[uY];dsimp only[tNext,ax,ar,vY,uA,wg,vn];refine HH (a:=v) (λR h=>(0,h)) ho hv (λD j ys H'=>∃O:List Addr,A3 (ys=O.map V.ref) (O.length=j) (∀(i:Nat)(a:Addr),O[i]?<*a->H' a<*.tup (c_ (W.getD (k.getD i 0) [])))) ac (λD Q=>([],6,λi a e=>by simp at e)) ?_ ?_
 .intro D j x ys H' R1 R2 Q hx b c hp k1 k2;let⟨O,rfl,d,H⟩:=hp;let⟨A,rfl,M⟩:=G hx;let⟨ra,p,S⟩:=p'.row h4 (h5.same b) M;refine h_ (n_ (b _ _ h1) ao (0,uX (b _ _ h2) (vZ V.ref p) (k1 _ H' c (b'.set b Q) (O++[ra],by rw[map_append];rfl,by rw[j_,d];rfl,λi u e=>?_))));rcases Hr e with z|⟨rfl,rfl⟩
  .exact i0 (H i u z) c (!5)
  .rw [d];show i0 S c (!5)
 intro Dw ys H2 ap g Y ab;let⟨O,rfl,d,H⟩:=ab;rw[f_]at d;dsimp only[aG,uY,tNext,ax,ar,vY,uA,wg,vn];refine Km (n:=L.length) (λR h=>(n_ (g _ _ h1) au (0,hz,by rw[nb];show h))) (Nat.le_trans N.lt.hi (!0)) (λD j ys H'=>∃ls:List Addr,A3 (ys=ls.map V.ref) (ls.length=j) (∀(q:Nat)(a:Addr),ls[q]?<*a->a≠D/\H' a<*.lst (c_ (gA W k q)))) (λD Q=>([],6,λi a e=>by simp at e)) ?_ ?_
 .intro D q0 ys H' R1 R2 Q hq b c hp k1 k2;let⟨ls,rfl,s,I⟩:=hp;let s2:=g.trans b;refine h_ ?_;refine HH (a:=Dw) (λR h=>(0,h)) (.inl rfl) (b _ _ Y) (λZ j E H4=>E=(c_ (gA W k q0)).take j) (by rw[ix,d];show kA (Nat.le_trans t (!0))) (λZ l=>!1) ?_ ?_
  .intro Z j y E H4 R3 R4 l hy hsm4 hD2l r k3 k4;rw[lv]at hy;let⟨ra,p,rfl⟩:=uJ hy;let A:j<k.length:=by rw[<-d];show(j0 p).1
   let M:=X _ (ba (ws:=k) A);let l1:=(Gu N M).1;refine h_ (4,uX (hsm4 _ _ (b _ _ (H j ra p))) (by rw[Int.zero_add];show wN (by rw[l1];show hq)) (k3 _ H4 hD2l (b'.set hsm4 l) ?_));rw[r];refine(FG ?_).symm;rw[G2 (by rw[gA,ix];show A),gA,LK A]
  .intro Z E H4 l hsm4 hD2l r;rw[ix,d,take_of_length_le (by rw[f_,gA,ix];show Nat.le_refl _)]at r;subst r;let ai:=hsm4 _ _ c;refine k1 (.ref Z) H4 ai (b'.set (b.trans hsm4) Q) (ls++[Z],by rw[map_append];rfl,by rw[j_,s];rfl,λi u e=>?_);rcases Hr e with z|⟨rfl,rfl⟩
   .obtain ⟨z1,z2⟩:=I i u z;show(z1,by rw[b_ z1];show hsm4 _ _ z2)
   .let U:u≠D:=λzz=>by rw[zz,c]at l;cases l
    show(U,by rw[s,b_ U];show hD2l)
 .intro D ys H' Q b c hp;let⟨ls,rfl,s,I⟩:=hp;show q D ls H' (g.trans b) c s λq a e=>(I q a e).2
def Oi:oj [Q0,"place",Q4] [Q0,"place",Q4] (i_ MJ):=pp
def NF(F:n' K "rooms_into" "rooms_into" MJ f Z)(T:Txt K mg):aa P w K mg base kd 1 f Z [Q0,"place",Q4] sp_rinto:=by
 refine F.okA Oi ?_;rintro _ _ _ _ _ _ _ _ _⟨m,st,L,W,B,j,S,rfl,Q,s,O,v,q⟩;refine(_,(iy (k_ (vK ww (!4) T.tuple boot_tuple (kb (Kv [Q0,"place",Q4] rfl (!0) (LQ rfl T.enumerate (kb (ol 0))) (λcl C fp s' H'=>(dI (uZ (iq K) (u_ (aX K) (pv 1) (pv 3) (λ_ _=>rfl)) (pv 4) (by with_unfolding_all rfl)),pv 0))))))),3);let⟨H,mk,e,Y,X,h3,E,U⟩:=id Q;let k:(e.map V.ref).length=W.length:=by rw[ix,E]
 let o:=s.n60;dsimp only[aG,vn,uA];refine Nw (c:=H) (λR h=>(n_ Y ao h)) (.inr rfl) X (λD i ys H'=>ys=c_ ((List.range i).filter λr=>S.contains (goal W r j))) (by rw[k];show kA (Nat.le_trans o (!0))) (λD y=>rfl) ?_ ?_
 .intro D i x ys H' G R1 R2 y z d b hp a N M;rw[lv]at z;let⟨I,n,rfl⟩:=uJ z;let hi:i<W.length:=by rw[<-E];show(j0 n).1
  let⟨ws,g,l⟩:=U i I n;let ew:W.getD i []=ws:=by rw[mu,g];rfl
  let t:=d.trans a;let u:=(s.row ws (pa g)).1;refine(4,uX (t _ _ l) (wN (by rw[u];show O)) (0,st,0,.inr (nj.of (t _ _ v)),1,JX _,0,3));let eg:ws.getD j 0=goal W i j:=by unfold goal;rw[ew]
  rw[eg];change if (Hk (.int ((goal W i j:Nat):Int)) (c_ S))=true then _ else _
  rw[bB];cases A:S.contains (goal W i j)with
  |true=>
   refine am (0,N _ G (a _ _ b) (b'.set t y) ?_);rw[hp,t_,A];show(IB _ _).symm
  |false=>
   refine af (M G t (a _ _ b) ?_);rw[hp,t_,A];simp
 .intro D ys H' y d b hp;rw[k]at hp;subst hp;show(D,0,.inl (i4.of b,λp hp=>q p _ (d.trans (b'.upd hp)) a_))
def d_V:oj [Q8,Z3,"row"] [Q8] (i_ MK):=pp
def FO(F:n' K "way_back" "way_back" MK f fd)(T:Txt K mg)(C:J4 K cW)(WN:vJ K cW Q6):aa P w K mg base kd 1 f fd [Q8] (fj cW):=by
 refine F.okA d_V ?_;rintro _ _ _ _ H _ _ _ _⟨D,t,wd,y,md,L,ws,g,R,rfl,hW,q,Y,n,h,hL,Q,I,q1,q2⟩;refine(_,(h6 (uL PassesOwn.never rfl (dN rfl T.zip (o5 (vm (f:=Q6) (pv 0) rfl) (vm (f:=Z1) (pv 0) rfl))) (br rfl (HS (uB 1 d_V.nd) (HS (uB 2 d_V.nd) J_))) (iy (ri (uZ KJ e_ (pv 2) (by with_unfolding_all rfl)) (iy (k_ (mB Im (pv 1) (u_ vL (vm (f:=Q3) (pv 0) rfl) (cg K (pv 2) (kb e_)) (λ_ _=>rfl))))) (sT)))) (iy (k_ JE))),3);let⟨dx,S⟩:=hW.ex;let s:g.length=R.length:=n.1;refine(0,D,cW,dx,8,S,C.cls,WN,1,0,D,cW,dx,8,S,C.cls,C.na4,1,8,.inr (.inr (wd,y,2,q,Y,λ_=>bF (xs:=d_ ws) (ys:=g.map V.ref) (by rw[d_,ix,ix,h,s]) (λi e H'=>E2 λE s2=>A3 (e=[some (.ref D),E,s2]) (b' H H') (∀(j:Nat)(r:LN),j<i->R[j]?<*r->0∉r)) (8,b'.refl H,λj r O=>absurd O (not_lt_zero _)) ?_ ?_ ?_)))
 .rintro i e H'⟨_,_,rfl,l,_⟩;show(l _ _ q,l _ _ Y)
 .rintro i x z p e X Z hz hp⟨E,s2,rfl,l,d⟩;rw[d_,lv]at Z;let⟨u,hu,rfl⟩:=uJ Z;rw[lv]at hz;let⟨m,A,rfl⟩:=uJ hz;let hi:=(j0 A).1;obtain⟨r,a⟩:∃r,R[i]?<*r:=(R[i]'(by rw[<-s];show hi),hH _);let v:=n.2 i m r A a;refine(p,0,nj.of a_,1,8,2,3);let b:=l.trans (b'.upd (o:=.tup [.str (tx u),.ref m]) hp);generalize L2.upd X p (.tup [.str (tx u),.ref m])=H2 at b;let c:=b _ _ v;refine(0,m,0,.inl (i4.of c),1,JX _,0,3);let U:Hk (.int 0) (c_ r)=decide (0∈r):=L3 0 r;rw[if_neg Bool.false_ne_true,U];by_cases h0:0∈r
  .rw [decide_eq_true h0];let hm:(0:Int)∈zs r:=by
    unfold zs;show mem_map.mpr ((0),h0,1)
   let hq:=idxOf_lt_length_of_mem hm;let B:(zs r)[(zs r).idxOf 0]?<*0:=by rw[hH hq,getElem_idxOf]
   let G:(zs r).length=r.length:=by unfold zs;rw[ix]
   let M:r[(zs r).idxOf 0]?<*0:=by
    rw[zs,lv]at B;let⟨z,e1,W⟩:=uJ B;have:z=0:=Int.ofNat.inj W;rw[this]at e1;show e1
   let N:(zs r).idxOf 0<L.length:=by rw[<-Q r (pa a),<-G];show hq
   let gl:ux (tx L).cps.toList (((zs r).idxOf 0:Nat):Int)<*L.getD ((zs r).idxOf 0) 0:=by
    rw[vp];show wu (by rw[mu,hH N];rfl)
   let ac:=hL.hi;let W:=b _ _ S;let ab:=I u (pa hu);refine am (4,D,cW,dx,8,W,C.cls,C.na1,1,0,.inl (1,_,i4.of c),m,zs r,(0),6,by rw[eU];show c,hm,_,2,kA (by rw[nb];omega),gl,2,9)
   .rw [show(⟨#[L.getD ((zs r).idxOf 0) 0]⟩:Str)=tx [L.getD ((zs r).idxOf 0) 0]from rfl,nb,nb];show kA (by simp;omega)
   .rw [show(⟨#[L.getD ((zs r).idxOf 0) 0]⟩:Str)=tx [L.getD ((zs r).idxOf 0) 0]from rfl,H_];show q2 i _ u r H2 b hu a M
  .rw [decide_eq_false h0];refine af (8,b,λj r' O k=>?_);rcases Nat.lt_succ_iff_lt_or_eq.mp O with z|z
   .exact d j r' z k
   .rw [z,a]at k;cases k;show h0
 .rintro e X⟨E,s2,rfl,l,d⟩;refine q1 X l λi r a=>d i r ?_ a;rw[d_,ix,h];show(j0 a).1
def e_q:oj ["text","sign"] ["text"] (i_ ML):=pp
def NG(F:n' K "is_letters" "is_letters" ML f k)(T:Txt K mg):aa P w K mg base kd 1 f k ["text"] sp_isletters:=by
 refine F.okA e_q ?_;rintro _ _ _ _ H _ _ _ _⟨L,rfl,a,q⟩;refine(_,(h6 (ri (vX (fH fQ fQ e_ (wK T.len (pv 0)) e_)) (iy (k_ uP)) (sT)) (h6 (uL PassesOwn.never rfl (Is (pv 0)) (uB 1 e_q.nd) (iy (ri ((vx (vX (fH cv cv we (pv 1) we)) (Jk (uZ cA (Hl plainAttrs_str PySem.F.slot_str_count PySem.F.type_str_count nc (pv 0) (kb (pv 1))) e_ (uV _)))).pt) (iy (k_ uP)) (sT)))) (iy (k_ uP)))),3);let hz:(tx L).length≤sizeLine:=kA (by rw[nb];have:=a.hi;lia);let h:=a.lo;let j:=a.hi;refine(4,hz,2,0,nN (by rw[nb];lia) ?_);refine(2,0,aQ (by rw[nb];lia) ?_);refine(4,IU (x:=tx L) (λi b H'=>∃d,b=[some (.str (tx L)),d]/\H'=H) (none,6) ?_ ?_)
 .rintro i c b n g⟨d,rfl,rfl⟩;rw[JM]at g;let e:c∈L:=pa g;let⟨m,l⟩:=a.az c e;refine(0,2,0,3);rw[uh,nv];refine nN m (2,0,3);rw[tG,nv];refine aQ l (0,1,0,2,2,0,3);rw[GY];refine nM (by have:=List.nodup_iff_count.mp a.nd c;lia) ?_;show(0,1)
 .rintro b n⟨d,rfl,rfl⟩;show q
def Oj:oj [Q3] [Q3] (i_ MM):=pp
def NH(F:n' K "need_letters" "need_letters" MM f d)(T:Txt K mg)(a:Df P w K mg base "is_letters" 1 ["text"] sp_isletters):aa P w K mg base kd 2 f d [Q3] sp_needletters:=by
 refine F.okA Oj ?_;rintro _ _ _ _ _ _ _ _ b⟨L,rfl,c,q⟩;refine(_,(iy (ri (vX (vh (mr a b (kb (pv 0))))) (iy (Lu)) (sT))),3);show(0,L,1,c,0,af q)
def c_r:oj [Q3,Z3,"number","sign"] [Q3,Z3] (i_ MN):=pp
def NI(F:n' K "number_of" "number_of" MN f p)(T:Txt K mg)(m:Df P w K mg base "need_letters" 2 [Q3] sp_needletters)(l:Df P w K mg base "need_word" 1 [Q3,Z3] sp_needword):aa P w K mg base kd 3 f p [Q3,Z3] sp_numberof:=by
 refine F.okA c_r ?_;rintro _ _ _ _ H _ _ _ k⟨L,w,rfl,h,hw,q⟩;let e:=k.mono (j:=1) (!0);refine(_,(h6 (uU (mr m k (kb (pv 0)))) (h6 (uU (mr l e (o5 (pv 0) (pv 1)))) (h6 (j5 2 c_r.nd (e_)) (h6 (uL PassesOwn.never rfl (Is (pv 1)) (uB 3 c_r.nd) (iy (j5 2 c_r.nd (mB uy (mB uy (mB Jn (pv 2) (wK T.len (pv 0))) (Hl plainAttrs_str PySem.F.slot_str_index PySem.F.type_str_index FE (pv 0) (kb (pv 3)))) e_)))) (iy (k_ (pv 2))))))),3);let hz:(tx L).length≤sizeLine:=kA (by rw[nb];have:=h.hi;lia);let o:((tx L).length:Int)=(L.length:Int):=by rw[nb]
 let n:=h.three;refine(0,L,1,h,4,L,w,1,hw,3);refine(4,IU (x:=tx w) (λi b H'=>∃d,b=[some (.str (tx L)),some (.str (tx w)),some (.int (val L 0 (w.take i))),d]/\H'=H) (none,6) ?_ ?_)
 .rintro i c b r g⟨d,rfl,rfl⟩;rw[JM]at g;let a:c∈L:=hw c (pa g);refine(4,0,hz,2,.inr (!6,!6),0,1,0,2,by rw[KN];show decide_eq_true a,3);rw[Kc a,o];refine(2,2,3);refine(some (.str ⟨#[c]⟩),3,1);rw[take_add_one,g];change _=[some (V.str (tx L)),some (V.str (tx w)),some (V.int (val L 0 (w.take i++[c]))),some (V.str ⟨#[c]⟩)];rw[KP];rfl
 .rintro b r⟨d,rfl,rfl⟩;rw[nb,take_length];show(0,q)
def Ol:oj [Q0,Z4] [Q0,Z4] (i_ MO):=pp
def Om(F:n' K "is_settled" "is_settled" MO f H)(T:Txt K mg):aa P w K mg base kd 1 f H [Q0,Z4] sp_settled:=by
 refine F.okA Ol ?_;rintro _ _ _ _ _ _ _ _ _⟨m,L,W,B,r,rfl,v,i,e,q⟩;refine(_,(iy (k_ (Gr (lh rfl) (!4) T.all PyProof.Rows.boot_all (kb (wH [Q0,Z4] rfl (!0) (wA (ve (ol 0) (pv 1))) (λS C Q s' H'=>(vi,Hi Ik (pv 0) (pv 2) (uV _)))))))),3);let⟨M,mk,s,G,E,O,A,y⟩:=id v;let⟨t,l,d⟩:=p'.row A y e;let l1:=(Gu i e).1;let o:=i.lt.hi;dsimp only[aG,vn,uA,tNil];refine HH (a:=t) (λR h=>(n_ G ao (0,uX E (vZ V.ref l) h))) (.inr rfl) d (λD j ys H'=>ys=(((W.getD r []).take j).map λg=>V.bl (g==r))) (by rw[f_,l1];show kA (Nat.le_trans o (!0))) (λD p=>rfl) ?_ ?_
 .intro D j x ys H' U R2 p k b c hp u N;let n:j<(W.getD r []).length:=by have:=(j0 k).1;rwa [f_]at this
  rw[G2 n]at k;cases k;refine h_ (4,1,u _ H' c (b'.set b p) ?_);rw[hp,FG (hH n),map_append];let I:(W.getD r []).getD j 0=(W.getD r [])[j]:=by rw[mu,hH n];rfl
  rw[I];congr 1;show[V.bl _]=[V.bl _];congr 2;rw[Bool.eq_iff_iff,beq_iff_eq,decide_eq_true_eq];show(λz=>Int.ofNat.inj (V.int.inj z),λz=>by rw[z])
 .intro D ys H' p b c hp;rw[f_,take_length]at hp;subst hp;refine(D,(W.getD r []).map λg=>g==r,1,by rw[map_map];show c,3);rw[List.all_map];show q H' b
def dA:oj [Z1,"kind"] [Z1,"kind"] (i_ MP):=pp
def wT(F:n' K "need_kind" "need_kind" MP f c)(T:Txt K mg):aa P w K mg base kd 1 f c [Z1,"kind"] (fk P w):=by
 refine F.okA dA ?_;rintro _ _ _ _ _ _ _ _ _⟨d,kvs,k,v,rfl,b,a,q⟩;refine(_,(iy (ri (uZ cr (pv 1) (pv 0) (by with_unfolding_all rfl)) (iy (IH)) (sT))),3);refine(4,d,k,kvs,6,b,0,3);rw[a];show af q
def b_m:oj ["_law_machine_here","_law_word_here","_law_times","_law_act","_law_found"] ["_law_machine_here","_law_word_here","_law_times"] (i_ MQ):=pp
def On(F:n' K "_law_power" "_law_power" MQ f fd)(T:Txt K mg)(y9:Df P w K mg base "_law_after" 1 ["_law_machine_here","_law_room","_law_word_here"] sp_after):aa P w K mg base kd 2 f fd ["_law_machine_here","_law_word_here","_law_times"] sp_lpow:=by
 refine F.okA b_m ?_;rintro _ _ _ _ H _ _ _ hr⟨m,L,W,B,u,n,rfl,hM,c,an,I,q⟩;refine(_,(h6 (j5 3 b_m.nd (wH ["_law_machine_here","_law_word_here","_law_times","_law_act","_law_found"] rfl (!0) (Hf rfl T.range (kb (wI T.len (ol 0)))) (λcl C fp s' H'=>(vi,(mr y9 hr (s_ (pv 1) (pv 0) (pv 2))))))) (h6 (j5 4 b_m.nd (dQ rfl rfl T.list rfl T.range (kb (wI T.len (pv 3))))) (h6 (JF PassesOwn.never (uZ cA (pv 2) e_ (uV _)) (IV (ri (Jg (mB Jm (pv 2) e_) e_) (iy (LY ["_law_machine_here","_law_word_here","_law_times","_law_act","_law_found"] (j:=4) rfl b_m.nd (!0) rfl (Or.inl rfl) (wA (pv 4)) (λcl C fp s' H'=>(vi,u_ (HG K) (pv 4) (pv 0) (λ_ _=>rfl))))) (sT)) (h6 (j5 3 b_m.nd (wH ["_law_machine_here","_law_word_here","_law_times","_law_act","_law_found"] rfl (!0) (wA (pv 3)) (λcl C fp s' H'=>(vi,u_ (HG K) (pv 4) (pv 0) (λ_ _=>rfl))))) (iy (j5 2 b_m.nd (mB J' (pv 2) e_)))))) (iy (k_ (pv 4)))))),3);let⟨wy,mk,ai,h1,S,h3,h4,h5⟩:=id hM;let f0:fP L W u 0=List.range W.length:=(List.map_id' _);let f1:fP L W u 1=(List.range W.length).map λr=>run L W r u:=by
  unfold fP BH;simp
 dsimp only[uY];dsimp only[tNext,ax,ar,vY,uA,wg,vn];refine c6 (λr=>run L W r u) (λR h=>(n_ h1 ao (wy,0,.inr (nj.of S),by rw[ix,h4];show h))) (!2) (λj hj H' R1 b h=>(4,0,m,L,W,B,j,u,1,hM.same b,c,hj,I,h)) λA0 H1 s1 v _=>?_;rw[<-f1]at v;refine(0,A0,0,.inl (i4.of v),3);rw[f_,Jz];refine(0,!2,λZ N=>?_);let s2:=s1.trans (b'.upd (o:=.lst (c_ (List.range W.length))) N);let M:L2.upd H1 Z (.lst (c_ (List.range W.length))) Z<*.lst (c_ (fP L W u 0)):=by rw[a_,f0]
 let Q:=n7 (u:=.lst (c_ (List.range W.length))) v N;generalize L2.upd H1 Z (.lst (c_ (List.range W.length)))=U at s2 M Q;refine⟨λk G H'=>∃(a f t:Nat)(i g:Addr),k=t/\G=[some (.ref m),some (.str (tx u)),some (.int (t:Int)),some (.ref i),some (.ref g)]/\b' H H'/\f+a*t=n/\H' i=some (.lst (c_ (fP L W u a)))/\H' g<*.lst (c_ (fP L W u f)),(n,(1),(0),n,A0,Z,6,s2,!6,Q,M),?_⟩;rintro t G H3⟨a,f,_,i,g,rfl,rfl,s3,e,s,p⟩;refine(0,2,0,aB (λab=>?_) (λap=>?_))
 .let ht:0<t:=ofNat_lt.mp ab;refine⟨λE U=>∃(a f:Nat)(i g:Addr),E=[some (.ref m),some (.str (tx u)),some (.int ((t/2:Nat):Int)),some (.ref i),some (.ref g)]/\b' H U/\f+a*(t/2)=n/\U i=some (.lst (c_ (fP L W u a)))/\U g<*.lst (c_ (fP L W u f)),?_,?_⟩
  .rintro E U⟨a2,f2,A2,y,rfl,r1,r2,r3,r4⟩;show(t/2,!6,a2,f2,t/2,A2,y,6,r1,r2,r3,r4)
  refine⟨λA Y=>∃(X:Nat)(y:Addr),A=[some (.ref m),some (.str (tx u)),some (.int (t:Int)),some (.ref i),some (.ref y)]/\b' H Y/\X+(a+a)*(t/2)=n/\Y i=some (.lst (c_ (fP L W u a)))/\Y y<*.lst (c_ (fP L W u X)),?_,?_⟩
  .refine (0,2,(show(0:Int)<2 by decide),1,0,aB (λS=>?_) (λS=>?_))
   .let h2':t%2=1:=by have:=V.int.inj S;lia
    dsimp only[uY];refine gM _ (λx=>(fP L W u a).getD x 0) (λR h=>(0,h)) (.inl rfl) p (by rw[Jz];omega) (λx hx H' R1 b h=>(4,uN (b _ _ s) (wN (by rw[Jz];show qc c I f x hx)) h)) λD H' b d _=>?_
    .rw [jK c I]at d;refine(f+a,D,1,s3.trans b,3,b _ _ s,d);let e2:t=2*(t/2)+1:=by lia
     have:a*t=a*(2*(t/2)+1):=congrArg (a * ·) e2;rw[Nat.mul_add,Nat.mul_one,<-Nat.mul_assoc,Nat.mul_two]at this;lia
   .let h2':t%2=0:=by
     have:¬ ((t:Int)%2=1):=λz=>S (congrArg V.int z);lia
    refine(f,g,1,s3,3,s,p);let e2:t=2*(t/2):=by lia
    have:a*t=a*(2*(t/2)):=congrArg (a * ·) e2;rw[<-Nat.mul_assoc,Nat.mul_two]at this;lia
  rintro A Y⟨X,y,rfl,s5,l,O,ac⟩;dsimp only[tNext,ax,ar,vY,uA,wg,vn];dsimp only[uY];refine gM _ (λx=>(fP L W u a).getD x 0) (λR h=>(0,h)) (.inl rfl) O (by rw[Jz];omega) (λx hx H' R1 b h=>(4,uN (b _ _ O) (wN (by rw[Jz];show qc c I a x hx)) h)) λD H' b d _=>?_
  .rw [jK c I]at d;let et:((t:Nat):Int)/2=((t/2:Nat):Int):=by lia
   refine(0,2,(!0,!0),3);show(a+a,X,D,y,by rw[<-et];rfl,s5.trans b,l,d,b _ _ ac)
 .let ht:t=0:=by lia
  rw[ht,Nat.mul_zero,Nat.add_zero]at e;show(0,q g H3 s3 (by rw[<-e];show p))
def dC:oj ["_law_found","_law_yes","_law_no"] ["_law_found","_law_yes","_law_no"] (i_ MR):=pp
def wU(F:n' K "_law_told" "_law_told" MR f h)(T:Txt K mg):aa P w K mg base kd 1 f h ["_law_found","_law_yes","_law_no"] sp_ltold:=by
 refine F.okA dC ?_;rintro _ _ _ _ H _ _ _ _⟨t,p,b,xs,y,n,rfl,a,hp,g,q⟩;refine(_,(h6 (ri ((vx (vX (vh (Lq T.isinst T.tuple boot_tuple (pv 0)))) (vx (J2 (wI T.len (pv 0)) e_) (Jk (vX (vh (Lq T.isinst T.bool boot_bool (ol 0))))))).pt) (iy (k_ uP)) (sT)) (iy (k_ (dR (Lq T.isinst T.tuple boot_tuple (ol 0)) (dP (Hi Ik (wI T.len (ol 0)) (vG (uT (o5 (pv 2) (pv 1))) (vK lf (!4) T.int boot_int (kb (ol 0)))) (uV _))))))),3);refine(0,7,0,av.tup a,(eh K).1,0,af (0,t,0,.inr (nj.of a),1,0,aQ rfl (n_ a au (7,0,av.bl _,Jo K,0,af ?_))));refine(n_ a ao (7,0,av.tup hp,(eh K).1,0,am ?_));refine(n_ a ao (p,0,.inr (nj.of hp),4,kA (by change 2≤16777216;decide),λl d=>?_));let c:=b'.upd (o:=.lst [.int n,.int y]) d;let e:L2.upd H l (.lst [.int n,.int y]) l<*.lst [.int n,.int y]:=a_;generalize L2.upd H l (.lst [.int n,.int y])=i at c e;refine(n_ (c _ _ a) au (.inr (b,1,l,7,(if b=true then .int y else .int n),6,i4.of e,3,by cases b<;>rfl,?_)))
 .cases b<;>rfl
 .have:decide ((V.int (xs.length:Int))=(if b=true then .int y else .int n))=true:=by
   rw[g];cases b<;>simp
  rw[this];show q i c
def c_G:oj ["_law_words","_law_letters_here","_law_word_here"] ["_law_words","_law_letters_here"] (i_ MS):=pp
def Oo(F:n' K "_law_bar_words" "_law_bar_words" MS f n)(T:Txt K mg)(j:Df P w K mg base "_law_is_word" 1 ["_law_found","_law_letters_here"] sp_isword):aa P w K mg base kd 2 f n ["_law_words","_law_letters_here"] sp_lbw:=by
 refine F.okA c_G ?_;rintro _ _ _ _ H _ _ _ m⟨p,L,ws,rfl,hp,e,q⟩;refine(_,(h6 (uL PassesOwn.never rfl (mF (pv 0)) (uB 2 c_G.nd) (iy (ri ((vx (vX (vh (mr j m (o5 (pv 2) (pv 1))))) (Jk (uZ cA (wK T.len (pv 2)) e_ (uV _)))).pt) (iy (k_ uP)) (sT)))) (iy (k_ uP))),3);refine(0,p,1,(_,nj.of hp),jI (K:=K) (a:=p) (xs:=d_ ws) (λi b H'=>∃s2,b=[some (.ref p),some (.str (tx L)),s2]/\b' H H') (0,b'.refl H) ?_ ?_ ?_)
 .rintro i b H' r⟨_,rfl,c⟩;show nj.of (c _ _ hp)
 .rintro i x b h g⟨s2,rfl,c⟩;rw[d_,lv]at g;let⟨y,l,rfl⟩:=uJ g;let⟨k,o⟩:=e y (pa l);refine(4,L,y,1,k,!2,λs d=>(0,af (4,kA (by rw[nb];omega),2,0,3)));show nM (λz=>by rw[nb]at z;lia) (0,c.trans d)
 .rintro b h⟨s2,rfl,c⟩;show q h c
def b_g:oj [Q0,Q6,"one","two","back","sides"] [Q0] (i_ MT):=pp
def Op(F:n' K "bar_of_last" "bar_of_last" MT f fd)(T:Txt K mg)(WK:J4 K cW)(WN:vJ K cW Q6)(yM:Df P w K mg base "first_words" 7 [Q0] (mn P0 sites))(yH:L1 P w K mg base "walked_rooms" 6 [Q0,Q4,"most"] (Mb cW P1 sitesR))(yQ:Df P w K mg base "way_back" 1 [Q8] (fj cW))(yU:Df P w K mg base "parted" 6 [Q0,"one","two"] sp_parted):aa P w K mg base kd 8 f fd [Q0] (dj P0 P1 P2 P3):=by
 refine F.okA b_g ?_;rintro _ _ _ s H _ _ _ hr⟨m,L,W,B,W0,B0,rfl,hM,A,an,I,ai,q1,q2⟩;let bc:=hr.mono (j:=1) (!0);let aV:=hr.mono (j:=6) (!0);refine(_,(h6 (dJ [Q0,Q6,"one","two","back","sides"] (j:=1) rfl b_g.nd (!0) rfl (Or.inl rfl) (wA (mr yM hr (kb (pv 0)))) (λcl C fp s' H'=>(vi,pv 1))) (h6 (uL PassesOwn.never rfl (Hf rfl T.range (kb (wI T.len (pv 1)))) (uB 2 b_g.nd) (iy (uL PassesOwn.never rfl (cf rfl T.range (o5 (mB uy (pv 2) e_) (wI T.len (pv 1)))) (uB 3 b_g.nd) (h6 (j5 4 b_g.nd (mr yQ bc (kb (qH yH aV (o5 (pv 0) (uT (o5 (pv 2) (pv 3)))))))) (iy (ri (uZ dW (pv 4) JE (uV _)) (h6 (j5 5 b_g.nd (mr yU aV (s_ (pv 0) (vG (pv 1) (pv 2)) (vG (pv 1) (pv 3))))) (iy (k_ (wf (GX (ol 5) (s_ (ol 5) (pv 4) (ol 5))))))) (sT))))))) (iy (k_ JE)))),3);let e:=A.mach;let nd:=e.lt.nd;let b4:(4:Nat)≤sizeLine:=kA (by change 4≤16777216;decide);let b2:(2:Nat)≤sizeLine:=kA (by change 2≤16777216;decide);dsimp only[tNext,ax,ar];refine ld (Pf:=λM ws H1=>KT (uI P0 P1 P2 P3) H H1/\Bf (gW W) L [0] (M.map λn=>[n]) ws M.length 0/\∀r∈M,r<W.length) (λR h=>(0,m,L,W,B,1,hM,e,ai.t0,λl M b H1 s1 a1 _ bg E Z bs=>h l M b H1 bg (kA (!2)) (ai.x0 s1 a1,E,Z))) λM b H1 D H2 d bl hD s2 a2=>?_;let⟨k1,E,Z⟩:=bl;let⟨v,fv⟩:=A.firsts an;let⟨S,ro⟩:=fv.order e E Z;rw[S]at d;let ap:∀{i:Nat}{w:LN},b[i]?<*w->(∀c∈w,c∈L)/\run L W 0 w=i/\w.length≤60:=λ{i w}hw=>by
  let hi:i<M.length:=by rw[S,<-d];show(j0 hw).1
  let aZ:=hH hi;let⟨cw,bo⟩:=E.lead i [M[i]] w (by rw[lv,aZ];rfl) hw;refine(cw,3,Nat.le_trans (gR E (N:=8) (by rw[d];show I) _ _ hw) (!0));have:=Kr (W:=W) (L:=L) 0 _ w rfl;rw[bo]at this;show(List.cons.inj this).1.symm.trans (ro i _ aZ)
 let k2:=k1.trans (KT.of s2);let wl:(d_ b).length=W.length:=by rw[d_,ix,d]
 let lst:∀{H':Hp},KT (uI P0 P1 P2 P3) H2 H'->H' D<*.lst (d_ b):=λk=>k.sm.lst a2;refine(0,D,0,.inl (i4.of a2),3);rw[wl];refine(0,5,3);refine IR (λn Q H'=>∃s2 s3 s4 s5,Q=[some (.ref m),some (.ref D),s2,s3,s4,s5]/\KT (uI P0 P1 P2 P3) H2 H'/\∀p q,p<n->p<q->q<W.length->∀u:LN,(∀c∈u,c∈L)->u≠[]->¬ (run L W p u=p/\run L W q u=q)) (7,8,KT.refl _ _,λp q hp=>absurd hp (not_lt_zero _)) ?_ ?_
 .rintro n a5 H3 hn⟨u2,u3,u4,u5,rfl,k3,ab⟩;rw[Int.zero_add];refine(0,2,0,D,0,.inl (i4.of (lst k3)),8,(5,5),3);rw[wl];refine IR (λk Q H'=>∃s3 s4 s5,Q=[some (.ref m),some (.ref D),some (.int (n:Int)),s3,s4,s5]/\KT (uI P0 P1 P2 P3) H2 H'/\∀q,n<q->q<n+1+k->∀u:LN,(∀c∈u,c∈L)->u≠[]->¬ (run L W n u=n/\run L W q u=q)) (7,0,k3,λq z1 z2=>!6) ?_ ?_
  .rintro k a4 H4 hk⟨v3,v4,v5,rfl,k4,hno4⟩;obtain⟨s,es⟩:∃s:Nat,s=n+1+k:=(_,rfl);let Y:s<W.length:=by lia
   let ac:n<W.length:=by omega
   let ei:((n:Nat):Int)+1+(k:Int)=((s:Nat):Int):=by lia
   rw[ei];let nx:∀{H5:Hp}{w4 w5:Option V},KT (uI P0 P1 P2 P3) H2 H5->(∀u:LN,(∀c∈u,c∈L)->u≠[]->¬ (run L W n u=n/\run L W s u=s))->∃s3 s4 s5,[some (V.ref m),some (V.ref D),some (.int (n:Int)),some (.int (s:Int)),w4,w5]=[some (.ref m),some (.ref D),some (.int (n:Int)),s3,s4,s5]/\KT (uI P0 P1 P2 P3) H2 H5/\∀q,n<q->q<n+1+(k+1)->∀u:LN,(∀c∈u,c∈L)->u≠[]->¬ (run L W n u=n/\run L W q u=q):=λ{H5 w4 w5}a hh=>(7,0,a,λq z1 z2=>by
    by_cases z:q=s
    .rw [z];show hh
    .exact hno4 q z1 (!6))
   let O:∀{H':Hp},KT (uI P0 P1 P2 P3) H2 H'->p' H' m L W B:=λk=>(k2.trans k).mach hM;refine(4,0,b2,λS a9=>?_);let sL:=b'.upd (o:=.lst [.int (n:Int),.int (s:Int)]) a9;let eL:L2.upd H4 S (.lst [.int (n:Int),.int (s:Int)]) S<*.lst (c_ [n,s]):=a_;generalize L2.upd H4 S (.lst [.int (n:Int),.int (s:Int)])=H5 at sL eL;let k5:=k4.trans (KT.of sL);let as:=ai.kt (k2.trans k5);let pw:W.length^[n,s].length≤64:=by
    change W.length^2≤64;show Nat.pow_le_pow_left I 2
   refine(m,S,L,W,B,[n,s],1,O k5,e,eL,(by decide:0<2),(by decide:2≤60),λx hx=>?_,Nat.le_trans pw (!0),as.t1,λwk t wd y md ks ws az R H6 s6 bm hW a8 hy a7 bf g hR le=>?_)
   .rcases mem_cons.mp hx with z|z
    .rw [z];show ac
    .rw [t5 z];show Y
   let k6:=k5.trans (as.x1 s6 bm);let aM:ws.length=R.length:=by rw[hR];show bf.len.symm
   refine(wk,t,wd,y,md,L,ws,az,R,1,hW,a8,hy,a7,aM,e.lt,λr' bb=>?_,λu hu=>?_,λH7 s7 a0=>?_,λj q u bt H7 s7 hu aU hq=>?_)
   .obtain ⟨j,hj⟩:=mem_iff_getElem?.mp bb;let be:=(j0 hj).1;show(g.row j r' _ hj (hH (by rw[<-hR];show be))).1
   .obtain ⟨j,hj⟩:=mem_iff_getElem?.mp hu;show Nat.le_trans (gR bf (N:=64) (by rw[<-bf.len];show Nat.le_trans le pw) _ _ hj) (!0)
   .refine (0,1,0,af (nx (k6.trans (KT.of s7)) λu hu ne z=>?_));refine oG nd bf g hR a0 hu ne ?_;rw[jm];show[run L W n u,run L W s u]=[n,s];rw[z.1,z.2]
   .obtain ⟨cb,e1,e2,lb⟩:=ue e I ac Y (!6) bf g hR hu aU hq;let U:u++[L.getD q 0]≠[]:=λz=>by simp at z
    generalize u++[L.getD q 0]=bk at cb e1 e2 lb U;let k7:=k6.trans (KT.of s7);obtain⟨wn,aT⟩:∃w,b[n]?<*w:=(b[n]'(by rw[d];show ac),hH _);obtain⟨wz,aF⟩:∃w,b[s]?<*w:=(b[s]'(by rw[d];show Y),hH _);let⟨cn,en,ln⟩:=ap aT;let⟨cz,ez,lz⟩:=ap aF;let g1:ux (d_ b) ((n:Nat):Int)<*.str (tx wn):=wu (by rw[d_,lv,aT];rfl);let g2:ux (d_ b) ((s:Nat):Int)<*.str (tx wz):=wu (by rw[d_,lv,aF];rfl);refine(0,1,0,am (4,0,uN (lst k7) g1 (4,uN (lst k7) g2 (m,L,W,B,W0,B0,wn,wz,1,O k7,A,I,cn,cz,!2,!2,by rw[en,ez];lia,λt' x y' z H8 s8 X a6 a3 b0 yx ny=>?_))));refine(n_ X au (n_ X ao (0,n_ X aC (b4,λp hp=>?_))));refine q2 p x y' bk z _ ((k2.trans k7).trans (KT.of (s8.trans (b'.upd hp)))) a_ ?_;rcases a6 with⟨rfl,rfl⟩|⟨rfl,rfl⟩
    .exact jQ an A cn cz cb a3 ln lz lb (!2) U (by rw[en];show e1) (by rw[ez];show e2) yx ny
    .exact jQ an A cz cn cb a3 lz ln lb (!2) U (by rw[ez];show e2) (by rw[en];show e1) yx ny
  .rintro a4 H4⟨_,_,_,rfl,k4,hno4⟩;refine(7,8,k4,λp q hp G hq=>?_);rcases Nat.lt_succ_iff_lt_or_eq.mp hp with z|z
   .exact ab p q z G hq
   .rw [z];show hno4 q (!6) (!6)
 .rintro a5 H3⟨_,_,_,_,rfl,k3,ab⟩;show q1 H3 (k2.trans k3) (qP λp q G hq=>ab p q (lt_trans G hq) G hq)
def a_w:oj [Q0,"just","begins","waiting","longer",Z3,Z4,"settled"] [Q0] (i_ MU):=pp
def Oq(F:n' K "paper_of_first" "paper_of_first" MU f fd)(T:Txt K mg)(yF:Df P w K mg base "is_settled" 1 [Q0,Z4] sp_settled):aa P w K mg base kd 2 f fd [Q0] sp_paper1:=by
 refine F.okA a_w ?_;rintro _ _ _ _ H _ _ _ hr⟨m,L,W,B,N,rfl,hM,A,c3,ac,q⟩;refine(_,(h6 (j5 1 a_w.nd (uT wL)) (h6 (j5 2 a_w.nd (uT wL)) (h6 (j5 3 a_w.nd (uT (kb (wf (o5 we e_))))) (h6 (JF PassesOwn.never (uZ cA (wI T.len (pv 3)) e_ (uV _)) (h6 (j5 4 a_w.nd (uT wL)) (h6 (uL PassesOwn.never rfl (HV (pv 3)) (br rfl (HS (uB 5 a_w.nd) (HS (uB 6 a_w.nd) J_))) (h6 (j5 7 a_w.nd (mr yF hr (o5 (pv 0) (pv 6)))) (IV (ri ((dH (vh (ve (ol 0) (pv 6))) (KD (vh (pv 7)))).pt) (iy (uU (v_ (pv 2) (pv 5)))) (iy (ri (vh (ve (ol 0) (pv 6))) (iy (uU (v_ (pv 1) (pv 5)))) (sT)))) (iy (ri (vX (vh (pv 7))) (iy (uU (Hl plainAttrs_list PySem.F.slot_list_extend PySem.F.type_list_extend kJ (pv 4) (kb (Kv [Q0,"just","begins","waiting","longer",Z3,Z4,"settled"] rfl (!0) (dN rfl T.zip (o5 (ol 0) (ve (ol 0) (pv 6)))) (λcl C fp s' H'=>(vi,wf (o5 (mB Im (pv 7) (pv 0)) (pv 1))))))))) (sT)))))) (iy (j5 3 a_w.nd (pv 4)))))) (iy (k_ (wf (o5 (pv 1) (pv 2))))))))),3);let b2:(2:Nat)≤sizeLine:=kA (by change 2≤16777216;decide);let b1:(1:Nat)≤sizeLine:=kA (by change 1≤16777216;decide);let b0:(0:Nat)≤sizeLine:=zero_le _;let M:=A.lt.hi;let nd:=A.lt.nd;refine(b0,λJ hJ=>?_);refine(b0,λG hG=>?_);let Q:G≠J:=λz=>by rw[z,a_]at hG;cases hG
 let co:H G=none:=by rw[b_ Q]at hG;show hG
 refine(b2,λt0 I=>(b1,λg aF=>?_));let n1:g≠t0:=λz=>by rw[z,a_]at aF;cases aF
 let v:L2.upd (L2.upd H J (.lst [])) G (.lst []) g=none:=by rw[b_ n1]at aF;show aF
 let n2:g≠G:=λz=>by rw[z,a_]at v;cases v
 let n3:g≠J:=λz=>by rw[z,b_ (Ne.symm Q),a_]at v;cases v
 let t2:t0≠G:=λz=>by rw[z,a_]at I;cases I
 let t3:t0≠J:=λz=>by rw[z,b_ (Ne.symm Q),a_]at I;cases I
 let b4:H t0=none:=by rw[b_ t2,b_ t3]at I;show I
 let bt:H g=none:=by rw[b_ n2,b_ n3]at v;show v
 refine⟨λk bo H'=>∃(n:Nat)(g:Addr)(s4 s5 s6 s7:Option V),k=N-n/\bo=[some (.ref m),some (.ref J),some (.ref G),some (.ref g),s4,s5,s6,s7]/\b' H H'/\n≤N/\g≠J/\g≠G/\H' J=some (.lst (d_ (justW L W B n)))/\H' G=some (.lst (d_ (begW L W B n)))/\bK L W H' g (Wt L W n),(_,(0),g,7,2,3,zero_le _,n3,n2,9,3),?_⟩
 .intro b o e;rw[b_ (f' e bt),b_ (f' e b4),b_ (f' e co),b_ (f' e hJ)];show e
 .rw [b_ (Ne.symm n3),b_ (Ne.symm t3),b_ (Ne.symm Q),a_];rfl
 .rw [b_ (Ne.symm n2),b_ (Ne.symm t2),a_];rfl
 .refine ([t0],a_,1,λi t w U e2=>?_);match i,U,e2 with
  |0,U,e2=>
   cases U;cases e2;rw[b_ (Ne.symm n1),a_];rfl
  |i+1,U,_=>simp at U
 rintro k bo H1⟨n,g,s4,s5,s6,s7,rfl,rfl,sm,hn,wJ,wG,be,bf,ce⟩;let⟨ts,aM,aT,c2⟩:=id ce;refine(0,g,0,.inl (i4.of aM),2,0,aB (λcU=>?_) (λcI=>?_))
 .rw [ix,aT]at cU;obtain⟨wz,cz⟩:∃wz,wz∈Wt L W n:=List.exists_mem_of_length_pos (!6);let cJ:=ac n wz cz;let ab:∀{a:Nat},a≤8->3^a≤6561:=λh=>Nat.le_trans (Nat.pow_le_pow_right (!0) h) (!0);refine⟨λy E=>∃(g:Addr)(s4 s5 s6 s7:Option V),y=[some (.ref m),some (.ref J),some (.ref G),some (.ref g),s4,s5,s6,s7]/\b' H E/\g≠J/\g≠G/\E J=some (.lst (d_ (justW L W B (n+1))))/\E G=some (.lst (d_ (begW L W B (n+1))))/\bK L W E g (Wt L W (n+1)),?_,?_⟩
  .rintro y E⟨wl2,u4,u5,u6,u7,rfl,r1,r2,r3,r4,r5,r6⟩;show(N-(n+1),!6,n+1,wl2,u4,u5,u6,u7,6,r1,cJ,r2,r3,r4,r5,r6)
  refine(b0,λX l=>?_);let lw:X≠g:=λz=>by rw[z,aM]at l;cases l
  let lJ:X≠J:=λz=>by rw[z,be]at l;cases l
  let lG:X≠G:=λz=>by rw[z,bf]at l;cases l
  let a7:H X=none:=Ho sm l;refine(0,g,1,(_,i4.of (n7 aM l)),3);refine HW (K:=K) (a:=g) (xs:=ts.map V.ref) (λi y E=>E3 λ(s5:Option V)(s6:Option V)(s7:Option V)=>A7 (y=[some (.ref m),some (.ref J),some (.ref G),some (.ref g),some (.ref X),s5,s6,s7]) (b' H E) (E J<*.lst (d_ (justW L W B n++((Wt L W n).take i).filter (J5 L W B)))) (E G<*.lst (d_ (begW L W B n++((Wt L W n).take i).filter (J6 L W B)))) (E g<*.lst (ts.map V.ref)) (bK L W E g (Wt L W n)) (bK L W E X (((Wt L W n).take i).flatMap (IN L W)))) (7,0,sm.trans (b'.upd l),9,n7 aM l,9) ?_ ?_ ?_
  .rw [n7 be l,List.take_zero,filter_nil,append_nil]
  .rw [n7 bf l,List.take_zero,filter_nil,append_nil]
  .exact ce.keep (b_ (Ne.symm lw)) λb xs e=>n7 e l
  .exact ([],a_,1,λi t w e=>by simp at e)
  .rintro i y E hi⟨_,_,_,rfl,_,_,_,e,_⟩;show i4.of e
  .rintro i x y E hx⟨u5,u6,u7,rfl,s2,hJ2,hG2,hwl2,hW2,hlg2⟩;rw[lv]at hx;let⟨t,ht,rfl⟩:=uJ hx;let hi:i<(Wt L W n).length:=by rw[<-aT];show(j0 ht).1
   obtain⟨w,hw⟩:∃w,(Wt L W n)[i]?<*w:=(_,hH hi);let⟨cw,aZ,c1,a0⟩:=id hW2;rw[hwl2]at aZ;let c0:cw=ts:=by
    have:=HO.lst.inj (Option.some.inj aZ);show(List.map_inj_right λ_ _ z=>V.ref.inj z).mp this.symm
   rw[c0]at a0;let b3:=a0 i t w ht hw;let⟨w1,w2,_⟩:=b_L.mp (pa hw);let Z:=ur A (w:=w) A.n1 w2;let ct:∀c:Nat,run L W 0 (w++[c])=uR L W (run L W 0 w) c:=λc=>Ia L W 0 w c;let cp:J5 L W B w=(B.getD (run L W 0 w) false&&!uC W (run L W 0 w)):=rfl;let cq:J6 L W B w=(B.getD (run L W 0 w) false&&uC W (run L W 0 w)):=rfl;let bk:IN L W w=if uC W (run L W 0 w)=true then[]else L.map λc=>w++[c]:=rfl
   generalize run L W 0 w=r at b3 Z ct cp cq bk;refine(t,0,nj.of b3,1,8,2,3);refine(4,m,L,W,B,r,1,hM.same s2,A,Z,λH3 s3=>?_);let az:=s2.trans s3;let O:=s3 _ _ hJ2;let S:=s3 _ _ hG2;let Y:=s3 _ _ hwl2;let an:bK L W H3 X (((Wt L W n).take i).flatMap (IN L W)):=by
    let⟨q1,q2,q3,q4⟩:=hlg2;show(q1,s3 _ _ q2,q3,λi t w a b=>s3 _ _ (q4 i t w a b))
   let bc:bK L W H3 g (Wt L W n):=by
    let⟨q1,q2,q3,q4⟩:=hW2;show(q1,s3 _ _ q2,q3,λi t w a b=>s3 _ _ (q4 i t w a b))
   let⟨wy,mk,bs,h1,h2,h3,h4,h5⟩:=id (hM.same az);let gm:ux (B.map V.bl) ((r:Nat):Int)<*.bl (B.getD r false):=I_ (by rw[A.bl];show Z);let cx:(d_ (justW L W B n++((Wt L W n).take i).filter (J5 L W B))).length<sizeLine:=by
    let a1:=bL (W:=W) M n;let a2:=bJ (W:=W) M n;let a3:=ab (a:=n) (!2);let a4:(justW L W B n).length≤(Ws L W n).length:=length_filter_le _ _;let a5:(((Wt L W n).take i).filter (J5 L W B)).length≤(Wt L W n).length:=Nat.le_trans (length_filter_le _ _) (List.length_take_le' _ _);rw[d_,ix,j_];show IA (!6)
   let cy:(d_ (begW L W B n++((Wt L W n).take i).filter (J6 L W B))).length<sizeLine:=by
    let a1:=bL (W:=W) M n;let a2:=bJ (W:=W) M n;let a3:=ab (a:=n) (!2);let a4:(begW L W B n).length≤(Ws L W n).length:=length_filter_le _ _;let a5:(((Wt L W n).take i).filter (J6 L W B)).length≤(Wt L W n).length:=Nat.le_trans (length_filter_le _ _) (List.length_take_le' _ _);rw[d_,ix,j_];show IA (!6)
   refine(λbm H5=>bm=[some (.ref m),some (.ref J),some (.ref G),some (.ref g),some (.ref X),some (.str (tx w)),some (.int (r:Int)),some (.bl (uC W r))]/\b' H H5/\H5 J=some (.lst (d_ (justW L W B n++((Wt L W n).take (i+1)).filter (J5 L W B))))/\H5 G=some (.lst (d_ (begW L W B n++((Wt L W n).take (i+1)).filter (J6 L W B))))/\H5 g=some (.lst (ts.map V.ref))/\bK L W H5 g (Wt L W n)/\bK L W H5 X (((Wt L W n).take i).flatMap (IN L W)),9)
   .rw [cX hw,cX hw,cp,cq];refine(n_ h1 aC (0,uX h3 gm (0,3)));cases U:B.getD r false with
    |false=>
     refine af (n_ h1 aC (0,uX h3 gm (0,3)));rw[U];refine af (1,az,9,Y,bc,an)
     .rw [O,if_neg (!5),append_nil]
     .rw [S,if_neg (!5),append_nil]
    |true=>
     refine am (4,3);cases e2:uC W r with
     |true=>
      refine am (0,.inl (1,_,i4.of S),0,G,2,S,cy,1,b'.set az co,9,9,3)
      .rw [b_ (Ne.symm Q),O,if_neg (!5),append_nil]
      .rw [a_,if_pos (show(true&&true)=true from rfl),<-append_assoc,vV]
      .rw [b_ wG];show Y
      .exact bc.keep (b_ wG) (IM S)
      .exact an.keep (b_ lG) (IM S)
     |false=>
      refine af (n_ h1 aC (0,uX h3 gm (0,3)));rw[U];refine am (0,.inl (1,_,i4.of O),0,J,2,O,cx,1,b'.set az hJ,9,9,3)
      .rw [a_,if_pos (show(true&&!false)=true from rfl),<-append_assoc,vV]
      .rw [b_ Q,S,if_neg (!5),append_nil]
      .rw [b_ wJ];show Y
      .exact bc.keep (b_ wJ) (IM O)
      .exact an.keep (b_ lJ) (IM O)
   rintro bm H5⟨rfl,a9,cj,cn,aV,cd,a6⟩;let cu:((Wt L W n).take (i+1)).flatMap (IN L W)=((Wt L W n).take i).flatMap (IN L W)++IN L W w:=by rw[FG hw,flatMap_append,List.flatMap_singleton]
   refine(4,3);cases e2:uC W r with
   |true=>
    refine af (7,0,a9,cj,cn,aV,cd,3);rw[cu,bk,if_pos e2,append_nil];show a6
   |false=>
    let⟨wy,mk,bs,h1,h2,h3,h4,h5⟩:=id (hM.same a9);let⟨ra,cB,b5⟩:=p'.row h4 h5 Z;let l1:=(Gu A Z).1;let⟨gs,cc,as,cV⟩:=id a6;refine am (0,.inl (1,_,i4.of cc),3);dsimp only[uA,tNil];refine eP (cs:=L) (d:=ra) (λR h=>(n_ h1 au (n_ h1 ao (0,uX h2 (vZ V.ref cB) h)))) b5 (by rw[f_];show l1.symm)
     (λD j ys H'=>∃ps:List Addr,A3 (ys=ps.map V.ref) (ps.length=j) (∀(i:Nat)(a:Addr),ps[i]?<*a->H' a<*.tup [.str (tx (w++[L.getD i 0])),.int ((uR L W r (L.getD i 0):Nat):Int)])) (kA (Nat.le_trans M (!0))) (λD hD=>([],6,λi a e=>by simp at e)) ?_ ?_
    .intro D j ch z ys H' H6 R1 hD hx hz s bg hp hsm6 k1;let⟨ps,rfl,ai,bb⟩:=hp;let hj:j<L.length:=(j0 hx).1;rw[G2 (by rw[l1];show hj)]at hz;cases hz;let ec:L.getD j 0=ch:=by rw[mu,hx];rfl
     let eg:(W.getD r []).getD j 0=uR L W r (L.getD j 0):=by
      unfold uR;rw[ec,<-(j0 hx).2,nd.idxOf_getElem j hj]
     refine(4,2,by rw[nb,nb];show kA (by simp;lia),0,b2,λp b6=>?_);rw[H_];let aU:=n7 (u:=.tup [.str (tx (w++[ch])),.int (((W.getD r []).getD j 0:Nat):Int)]) (hsm6 _ _ bg) b6;let a8:=b'.upd (o:=.tup [.str (tx (w++[ch])),.int (((W.getD r []).getD j 0:Nat):Int)]) b6;let ep:L2.upd H6 p (.tup [.str (tx (w++[ch])),.int (((W.getD r []).getD j 0:Nat):Int)]) p<*.tup [.str (tx (w++[ch])),.int (((W.getD r []).getD j 0:Nat):Int)]:=a_;generalize L2.upd H6 p (.tup [.str (tx (w++[ch])),.int (((W.getD r []).getD j 0:Nat):Int)])=H7 at aU a8 ep;refine k1 (.ref p) _ aU (b'.set (s.trans (hsm6.trans a8)) hD) (ps++[p],by rw[map_append];rfl,by rw[j_,ai];rfl,λi u e=>?_);rcases Hr e with z|⟨rfl,rfl⟩
     .exact IM aU _ _ (a8 _ _ (hsm6 _ _ (bb i u z)))
     .rw [ai,<-eg,ec];show IM aU _ _ ep
    .intro D ys H' hD s bg hp;let⟨ps,rfl,ai,bb⟩:=hp;let ap:=s _ _ cc;let cb:(gs.map V.ref).length+(ps.map V.ref).length≤sizeLine:=by
      let a1:=bJ (W:=W) M (n+1);let a3:=ab (a:=n+1) (!6);let a4:(((Wt L W n).take i).flatMap (IN L W)).length≤(Wt L W (n+1)).length:=by
       change _≤((Wt L W n).flatMap (IN L W)).length;let e:=take_append_drop i (Wt L W n)
       conv=>rhs;rw[<-e,flatMap_append,j_]
       show le_add_right _ _
      rw[ix,ix,as,ai];show kA (!6)
     let cM:H X=none:=a7;refine(X,D,2,ap,bg,cb,7,0,b'.set (a9.trans s) a7,9,9,3)
     .rw [b_ (Ne.symm lJ)];show s _ _ cj
     .rw [b_ (Ne.symm lG)];show s _ _ cn
     .rw [b_ (Ne.symm lw)];show s _ _ aV
     .obtain ⟨q1,q2,q3,q4⟩:=cd;show(q1,by rw[b_ (Ne.symm lw)];show s _ _ q2,q3,λi t w a b=>IM ap _ _ (s _ _ (q4 i t w a b)))
     .rw [cu,bk,if_neg (by rw[e2];show Bool.false_ne_true)];refine(gs++ps,by rw[a_,map_append],by rw[j_,j_,as,ai,ix],λi' t' w' U e3=>IM ap _ _ ?_);by_cases ca:i'<gs.length
      .rw [getElem?_append_left ca]at U;rw[getElem?_append_left (by rw[<-as];show ca)]at e3;show s _ _ (cV i' t' w' U e3)
      .rw [getElem?_append_right (!6)]at U;rw[getElem?_append_right (by rw[<-as];lia),<-as,lv]at e3;let⟨c,hc,rfl⟩:=uJ e3;have:=bb _ t' U;let ec:L.getD (i'-gs.length) 0=c:=by rw[mu,hc];rfl
       rw[ec]at this;rw[ct];show this
  .rintro y E⟨u5,u6,u7,rfl,s2,hJ2,hG2,hwl2,hW2,hlg2⟩;let cZ:(ts.map V.ref).length=(Wt L W n).length:=by rw[ix,aT]
   rw[cZ,take_length]at hJ2 hG2 hlg2;refine(0,X,7,8,s2,lJ,lG,9,hlg2)
   .rw [iI];show hJ2
   .rw [Hc];show hG2
 .rw [ix,aT]at cI;let h0:Wt L W n=[]:=length_eq_zero_iff.mp (!6);show(4,b2,λt ht=>q t J G n _ (sm.trans (b'.upd ht)) hn h0 a_ (n7 be ht) (n7 bf ht))
def b_P:oj [Q0,Q8,"paper"] [Q0] (i_ MV):=pp
def Os(F:n' K "paper_of_last" "paper_of_last" MV f fd)(T:Txt K mg)(s:J4 K cW)(WN:vJ K cW Q6)(v8:Df P w K mg base "walked_turned" 6 [Q0] (Mc cW P2 sitesT))(yu:Df P w K mg base "least" 7 [Q0] (M6 P0 sites))(yP:Df P w K mg base "paper_of_first" 2 [Q0] sp_paper1)(yc:Df P w K mg base "turned_about" 7 [Q3,Q6] (Md P3 sitesA)):aa P w K mg base kd 8 f fd [Q0] (M7 P0 P1 P2 P3):=by
 refine F.okA b_P ?_;rintro _ _ _ _ _ _ _ _ hr⟨m,L,W,B,W0,B0,rfl,hM,I,a6,bb,np,d,q⟩;let aT:=hr.mono (j:=2) (!0);let aM:=hr.mono (j:=6) (!0);refine(_,(h6 (j5 1 b_P.nd (mr v8 aM (kb (pv 0)))) (h6 (j5 2 b_P.nd (mr yP aT (kb (mr yu hr (kb (wf (s_ (vm (f:=Q3) (pv 1) rfl) (vm (f:=Z1) (pv 1) rfl) (vm (f:=Z2) (pv 1) rfl)))))))) (iy (k_ (wf (o5 (mr yc hr (o5 (vm (f:=Q3) (pv 1) rfl) (ol 2))) (mr yc hr (o5 (vm (f:=Q3) (pv 1) rfl) (ol 2))))))))),3);let k:=I.mach;let M:=k.lt;let nd:=M.nd;let a9:=I.len;let b3:(3:Nat)≤sizeLine:=kA (by change 3≤16777216;decide);let b2:(2:Nat)≤sizeLine:=kA (by change 2≤16777216;decide);refine(0,m,L,W,B,1,hM,k,!2,d.t2,λC t wd y X ks ws O R Bm H1 s1 a0 hW bc hy G aU bf A hR bl as le=>?_);let k1:=d.x2 s1 a0;let x:=hV (Bm:=Bm) M bf A hR bl (Nat.le_trans le (!0));let tk:∀u:LN,(∀c∈u,c∈L)->Bm.getD (run L R 0 u) false=B.getD (run L W 0 u.reverse) false:=λu H=>(eX bf A hR bl as H).trans (hZ k H);let⟨dx,ew⟩:=hW.ex;refine(0,C,cW,dx,8,ew,s.cls,s.na1,1,0,C,cW,dx,8,ew,s.cls,s.na4,1,0,C,cW,dx,8,ew,s.cls,s.na5,1,b3,λtp aF=>?_);let s2:=b'.upd (o:=.tup [.str (tx L),.ref y,.ref X]) aF;let ai:L2.upd H1 tp (.tup [.str (tx L),.ref y,.ref X]) tp<*.tup [.str (tx L),.ref y,.ref X]:=a_;generalize L2.upd H1 tp (.tup [.str (tx L),.ref y,.ref X])=H2 at s2 ai;let k2:=k1.trans (KT.of s2);let a4:FJ H2 tp L R Bm:=(y,X,O,ai,.inr (s2 _ _ hy),.inr (s2 _ _ aU),G.1,λi r e=>by
  let hi:i<R.length:=by rw[<-G.1];show(j0 e).1
  show(R[i],hH hi,.inr (s2 _ _ (G.2 i r _ e (hH hi)))))
 refine(tp,L,R,Bm,1,a4,x,(d.kt k2).t0,λf l BT H3 s3 ab a5 a=>?_);let k3:=k2.trans ((d.kt k2).x0 s3 ab);let w0:=rz k np x a tk;let ac:=rE k np x a tk;refine(f,L,l,BT,min l.length W.length,1,a5,a.mach,!6,λn w hw=>?_,λt' j b n H4 s4 hn h0 Z hj hb=>?_)
 .let h1:=oH a.mach ac hw;let h2:n<W.length:=Nat.lt_of_not_le λz=>by
   let⟨a1,a2,a3⟩:=b_L.mp hw;have:w.take W.length∈Wt L l W.length:=b_L.mpr (by rw[length_take];lia,λc hc=>a2 c (mem_of_mem_take hc),λj hj=>by rw[take_take,min_eq_left (!2)];show a3 j (!2));rw[w0]at this;cases this
  lia
 let k4:=k3.trans (KT.of s4);let be:=a.len;let E:=ph x a (n:=n) (!6) (!6) h0;let wj:∀w∈justW L l BT n,w.length<n:=λw hw=>(f_p.mp (mem_filter.mp hw).1).1;let wb:∀w∈begW L l BT n,w.length<n:=λw hw=>(f_p.mp (mem_filter.mp hw).1).1;let S:(justW L l BT n).Nodup:=(cm (eS nd n)).filter _;let U:(begW L l BT n).Nodup:=(cm (eS nd n)).filter _;let az:KT (uI P0 P1 P2 P3) H1 H4:=((KT.of s2).trans ((d.kt k2).x0 s3 ab)).trans (KT.of s4);let e4:=az.sm C _ (by intro _ z;cases z) ew;let cj:∀w∈justW L l BT n,∀c∈w,c∈L:=λw hw=>(E.wJ w hw).2;let cb:∀w∈begW L l BT n,∀c∈w,c∈L:=λw hw=>(E.wB w hw).2;let lj:=E.lenJ;let lb:=E.lenB;generalize justW L l BT n=ju' at E wj S cj lj hj;generalize begW L l BT n=be' at E wb U cb lb hb;let D:=d.kt k4;let Q:∀{us ls:LL},us.Perm (ls.map reverse)->(∀w∈ls,∀c∈w,c∈L)->∀u∈us,∀c∈u,c∈L:=λ{us ls}p h u H c hc=>by
  let⟨v,hv,rfl⟩:=mem_map.mp (p.mem_iff.mp H);show h v hv c (mem_reverse.mp hc)
 refine(0,C,cW,dx,8,e4,s.cls,s.na1,1,n_ Z au (L,j,ju',1,hj,M,λw hw=>(cj w hw,by have:=wj w hw;lia),!2,D.t3,λD1 ap H5 s5 aZ a8 p1 w1=>?_));let g:=D.x3 s5 aZ;let N:=D.kt g;refine(0,C,cW,dx,8,g.sm C _ (by intro _ z;cases z) e4,s.cls,s.na1,1,n_ (g.sm.tup _ _ Z) ao (L,b,be',1,g.sm.lst hb,M,λw hw=>(cb w hw,by have:=wb w hw;lia),!2,N.t3,λD2 an H6 s6 aV a7 p2 w2=>?_));let Y:=N.x3 s6 aV;refine(b2,λp hp=>q p D1 D2 ap an _ (((k4.trans g).trans Y).trans (KT.of (b'.upd hp))) a_ (n7 (Y.sm.lst a8) hp) (n7 a7 hp) ?_);show mP E (λu H=>(tk u H).trans (I.takes a6 λc hc=>H c (mem_reverse.mp hc))) (λw hw=>by have:=wj w hw;lia) (λw hw=>by have:=wb w hw;lia) p1 p2
  (Nz M (Q p1 cj) (p1.nodup_iff.mpr (b9 S)) w1) (Nz M (Q p2 cb) (p2.nodup_iff.mpr (b9 U)) w2)
def h_d:oj [Q0,"bar_of","paper_of","bar"] [Q0,"bar_of","paper_of"] (i_ MW):=pp
def GM(F:n' K "told_by" "told_by" MW f X)(T:Txt K mg)(D:Df P w K mg base "bar_of_last" 8 [Q0] (dj P0 P1 P2 P3))(C:Df P w K mg base "paper_of_last" 8 [Q0] (M7 P0 P1 P2 P3)):aa P w K mg base kd 9 f X [Q0,"bar_of","paper_of"] (NC mg P0 P1 P2 P3):=by
 refine F.okA h_d ?_;rintro _ _ _ _ _ _ _ _ l⟨m,fb,fp,L,W,B,v,A,rfl,r,o,n,a,e,c,d,q⟩;let⟨f1,U,R,H,c1,F1⟩:=D;let⟨f2,S,Q,G,Z,F2⟩:=C;rw[R]at r;rw[Q]at o;cases r;cases o;refine(_,(h6 (j5 3 h_d.nd (fN (i:=1) F1 l H c1 (pv 1) (kb (pv 0)))) (h6 (ri (uZ dW (pv 3) JE (uV _)) (iy (k_ (wf (o5 uP (pv 3))))) (sT)) (iy (k_ (wf (o5 uP (fN (i:=2) F2 l G Z (pv 2) (kb (pv 0))))))))),3);let s:(2:Nat)≤sizeLine:=kA (by change 2≤16777216;decide);let M:=a.len;refine(1,0,m,L,W,B,v,A,1,n,a,e,Nat.le_trans M c,d,λH1 g E=>?_,λt x y u z H1 g h k=>?_)
 .exact (0,1,0,af (1,0,m,L,W,B,v,A,1,g.mach n,a,e,c,E,d.kt g,λt j b I Y H2 a2 h N k O=>(s,λp hp=>q p _ ((g.trans a2).trans (KT.of (b'.upd hp))) (.inl (t,j,b,I,Y,a_,n7 h hp,n7 N hp,n7 k hp,O)))))
 .exact (0,1,0,am (0,s,λp hp=>q p _ (g.trans (KT.of (b'.upd hp))) (.inr (t,x,y,u,z,a_,n7 h hp,k))))
def dy:oj [Q0] [Q0] (i_ MX):=pp
def wV(F:n' K "tell_last" "tell_last" MX f H)(T:Txt K mg)(u:Df P w K mg base "least" 7 [Q0] (M6 P0 sites))(z:Df P w K mg base "told_by" 9 [Q0,"bar_of","paper_of"] (NC mg P0 P1 P2 P3))(y:Df P w K mg base "bar_of_last" 8 [Q0] (dj P0 P1 P2 P3))(x:Df P w K mg base "paper_of_last" 8 [Q0] (M7 P0 P1 P2 P3)):aa P w K mg base kd 10 f H [Q0] (jg P0 P1 P2 P3):=by
 refine F.okA dy ?_;rintro _ _ _ _ _ _ _ _ n⟨m,L,W,B,rfl,C,e,i,b,q⟩;let h:=n.mono (j:=7) (!0);let⟨s,G,p,O,R,X⟩:=id y;let⟨r,E,o,N,Q,U⟩:=id x;refine(_,(iy (k_ (mr z n (s_ (mr u h (kb (pv 0))) (Ii (v:=.ref s) rfl p rfl) (Ii (v:=.ref r) rfl o rfl))))),3);refine(0,m,L,W,B,1,C.g,e,b.t0,λf I M S A d k l=>?_);let c:=b.x0 A d;show(f,s,r,L,I,M,W,B,1,p,o,k,l,e,i,b.kt c,λt H' a D=>q t H' (c.trans a) D)
def jl:oj ["kind",Q0,Z1] ["kind",Q0] (i_ ii):=pp
def IP(F:n' K "tell" "tell" ii f R)(T:Txt K mg)(O:mg "tell_first"<*.ref y)(M:mg "tell_within"<*.ref x)(I:mg "tell_tally"<*.ref u)(H:mg "tell_counts"<*.ref s)(G:mg "tell_onward"<*.ref r)(E:mg "tell_plain"<*.ref p)(o:Df P w K mg base "need_kind" 1 [Z1,"kind"] (fk P w))(n:Df P w K mg base "tell_last" 10 [Q0] (jg P0 P1 P2 P3)):aa P w K mg base kd 11 f R ["kind",Q0] (bY P0 P1 P2 P3):=by
 refine F.okA jl ?_;rintro _ _ _ _ _ _ _ _ i⟨m,L,W,B,rfl,D,e,c,d,q⟩;let b:=i.mono (j:=1) (!0);let⟨a,Q,N,z,U,X⟩:=n;refine(_,(h6 (j5 2 jl.nd (mG (.cons we (Ii (v:=.ref y) rfl O rfl) (.cons we (Ii (v:=.ref a) rfl N rfl) (.cons we (Ii (v:=.ref x) rfl M rfl) (.cons we (Ii (v:=.ref u) rfl I rfl) (.cons we (Ii (v:=.ref s) rfl H rfl) (.cons we (Ii (v:=.ref r) rfl G rfl) (.cons we (Ii (v:=.ref p) rfl E rfl) (.nil)))))))) (by show([Str.ofString "first",Str.ofString "last",Str.ofString "within",Str.ofString "tally",Str.ofString "counts",Str.ofString "onward",Str.ofString "plain"]:List Str).Nodup;decide +kernel) (by change 0<7;decide) (by change 7≤15;decide))) (h6 (uU (mr o b (o5 (pv 2) (pv 0)))) (iy (k_ (mN X i z U (u_ FK (pv 2) (pv 0) (λ_ _=>rfl)) (kb (pv 1))))))),3);intro l Y A g k;refine(4,l,7,.ref a,1,k,1,3);let h:=KT.of (ts:=uI P0 P1 P2 P3) g;show(4,l,7,.ref a,6,k,6,0,m,L,W,B,1,D.same g,e,c,d.kt h,λt H' S C=>q t H' (h.trans S) C)
def f_j:oj ["_law_paper_here","_law_word_here","_law_end"] ["_law_paper_here","_law_word_here"] (i_ MY):=pp
def wW(F:n' K "_law_says" "_law_says" MY f L)(T:Txt K mg):aa P w K mg base kd 1 f L ["_law_paper_here","_law_word_here"] sp_lsaysL:=by
 refine F.okA f_j ?_;rintro _ _ _ _ H _ _ _ _⟨p,j,b,N,r,w,rfl,hp,I,C,s,D,q⟩;refine(_,(h6 (uL PassesOwn.never rfl (HV (ol 0)) (uB 2 f_j.nd) (iy (ri ((dH (uZ fQ (wK T.len (pv 2)) (wK T.len (pv 1)) (uV _)) (KD (Jg (HY bp (pv 1) (Hj (mB dU (wK T.len (pv 1)) (wK T.len (pv 2)))) Iq) (pv 2)))).pt) (iy (k_ uP)) (sT)))) (iy (k_ (Hi KJ (pv 1) (ol 0) (by with_unfolding_all rfl))))),3);let g:(tx w).length≤sizeLine:=kA (by rw[nb];omega);refine(n_ hp ao (b,1,(_,i4.of C),HW (K:=K) (a:=b) (xs:=d_ r) (λi d H'=>∃s2,d=[some (.ref p),some (.str (tx w)),s2]/\H'=H/\∀(k:Nat)(v:LN),k<i->r[k]?<*v->v.isSuffixOf w=false) (0,1,λk v m=>absurd m (not_lt_zero _)) ?_ ?_ ?_))
 .rintro i d H' O⟨_,rfl,rfl,_⟩;show i4.of C
 .rintro i x d y B⟨s2,rfl,rfl,l⟩;rw[d_,lv]at B;let⟨v,o,rfl⟩:=uJ B;let E:=s v (pa o);let n:(tx v).length≤sizeLine:=kA (by rw[nb];omega);let A:v.isSuffixOf w=false->∃s2,[some (V.ref p),some (.str (tx w)),some (.str (tx v))]=[some (.ref p),some (.str (tx w)),s2]/\y=y/\∀(k:Nat)(v:LN),k<i+1->r[k]?<*v->v.isSuffixOf w=false:=λG=>(0,1,λk u m t=>by
   rcases Nat.lt_succ_iff_lt_or_eq.mp m with z|z
   .exact l k u z t
   .rw [z,o]at t;cases t;show G)
  refine(4,n,4,g,2,0,aB (λc=>?_) (λc=>A (eq_false_iff.mpr λz=>c (by rw[nb,nb];show Int.ofNat_le.mpr (qw z)))));rw[nb,nb]at c;let c:=Int.ofNat_le.mp c;refine(4,0,g,4,n,2,4,g,0,1,0,3);let M:((tx w).length:Int)-((tx v).length:Int)=((w.length-v.length:Nat):Int):=by rw[nb,nb];lia
  rw[M,KO _ (Int.natCast_nonneg _) (by rw[vp];lia),vp,toNat_natCast];refine aB (λh=>?_) (λh=>A (eq_false_iff.mpr λz=>h ((je v w c).mpr z)));let e:=q;rw[show(r.any λb=>b.isSuffixOf w)=true from List.any_eq_true.mpr (v,pa o,(je v w c).mp h),Bool.true_or]at e;show e
 .rintro d y⟨s2,rfl,rfl,l⟩;refine(0,n_ hp au (j,0,.inl (i4.of I),1,g0 _,3));let e:=q;rw[show(r.any λb=>b.isSuffixOf w)=false from List.any_eq_false.mpr λv o=>by
   let⟨k,m⟩:=mem_iff_getElem?.mp o;rw[l k v (by rw[d_,ix];show(j0 m).1) m];show Bool.false_ne_true,Bool.false_or]at e
  rw[if_neg Bool.false_ne_true,cP];show e
def d_R:oj ["_law_machine_here","_law_rooms","_law_word_here","_law_room"] ["_law_machine_here","_law_rooms","_law_word_here"] (i_ MZ):=pp
def Ot(F:n' K "_law_all_in" "_law_all_in" MZ f G)(T:Txt K mg)(y:Df P w K mg base "_law_after" 1 ["_law_machine_here","_law_room","_law_word_here"] sp_after):aa P w K mg base kd 2 f G ["_law_machine_here","_law_rooms","_law_word_here"] sp_allinL:=by
 refine F.okA d_R ?_;rintro _ _ _ _ H _ _ _ C⟨m,l,L,W,B,xs,w,rfl,u,h,t,n,hw,q⟩;refine(_,(h6 (uL PassesOwn.never rfl (HV (pv 1)) (uB 3 d_R.nd) (iy (ri (vX (vh (ve (ol 0) (mr y C (s_ (pv 0) (pv 3) (pv 2)))))) (iy (k_ uP)) (sT)))) (iy (k_ uP))),3);let⟨M,mk,s,E,R,D,Q,O⟩:=id u;refine(0,l,1,(_,i4.of t),HW (K:=K) (a:=l) (xs:=c_ xs) (λi b H'=>∃p,A3 (b=[some (.ref m),some (.ref l),some (.str (tx w)),p]) (H'=H) (∀(k x:Nat),k<i->xs[k]?<*x->B.getD (run L W x w) false=true)) (0,1,λk v j=>absurd j (not_lt_zero _)) ?_ ?_ ?_)
 .rintro i b H' N⟨_,rfl,rfl,_⟩;show i4.of t
 .rintro i x b I c⟨p,rfl,rfl,g⟩;rw[c_,lv]at c;let⟨r,o,rfl⟩:=uJ c;let d:=pa o;let A:=ur h (n r d) hw;refine(n_ E aC (4,0,m,L,W,B,r,w,1,u,h,n r d,hw,uX D (I_ (by rw[h.bl];show A)) (0,3)));cases e:B.getD (run L W r w) false with
  |false=>show am (q false ((λz=>nomatch z),λz=>by rw[<-e,z r d]))
  |true=>
   refine af (0,1,λk x j c=>?_);rcases Nat.lt_succ_iff_lt_or_eq.mp j with z|z
   .exact g k x z c
   .rw [z,o]at c;cases c;show e
 .rintro b I⟨p,rfl,rfl,g⟩;refine q true (λ_ x c=>?_,λ_=>rfl);let⟨k,j⟩:=mem_iff_getElem?.mp c;show g k x (by rw[f_];show(j0 j).1) j
def b_j:oj ["_law_machine_here","_law_seen","_law_at","_law_goal"] ["_law_machine_here"] (i_ M1):=pp
def Ou(F:n' K "_law_reached" "_law_reached" M1 f fd)(T:Txt K mg):aa P w K mg base kd 1 f fd ["_law_machine_here"] sp_reached:=by
 refine F.okA b_j ?_;rintro _ _ _ _ H _ _ _ _⟨m,L,W,B,rfl,hM,o,aT,q⟩;let Z:0<W.length:=by have:=o.n1;lia
 refine(_,(h6 (j5 1 b_j.nd (uT (kb e_))) (h6 (j5 2 b_j.nd (e_)) (h6 (JF PassesOwn.never (uZ Il (pv 2) (wI T.len (pv 1)) (uV _)) (h6 (uL PassesOwn.never rfl (mF (ve (ol 0) (vG (pv 1) (pv 2)))) (uB 3 b_j.nd) (iy (ri (uZ dX (pv 3) (pv 1) (by with_unfolding_all rfl)) (iy (uU (v_ (pv 1) (pv 3)))) (sT)))) (iy (j5 2 b_j.nd (mB uy (pv 2) e_))))) (iy (k_ (pv 1)))))),3);refine(kA (by change 1≤16777216;decide),λp X=>?_);let S:∀{xs:LN},xs.Nodup->(∀x∈xs,∃v:LN,(∀c∈v,c∈L)/\run L W 0 v=x)->xs.length≤W.length:=λ{xs}nd h=>by
  have:=Kf (b:=List.range W.length) nd λc hc=>by
   let⟨v,N,rfl⟩:=h c hc;show mem_range.mpr (ur o Z N)
  rwa [length_range]at this
 refine⟨λk R H'=>∃(xs:LN)(d:Nat)(M:Option V),k=W.length-d/\R=[some (.ref m),some (.ref p),some (.int (d:Int)),M]/\b' H H'/\H' p=some (.lst (c_ xs))/\xs.Nodup/\0∈xs/\(∀x∈xs,∃v:LN,(∀c∈v,c∈L)/\run L W 0 v=x)/\∀(i x:Nat),i<d->xs[i]?<*x->∀q,q<L.length->goal W x q∈xs,(_,[0],(0),none,6,b'.upd X,a_,!1,!1,λx D=>([],!1,(t5 D).symm),λi x E=>absurd E (not_lt_zero _)),?_⟩;rintro k R H1⟨xs,d,M,rfl,rfl,sm,s,nd,Y,t,ai⟩;refine(4,p,0,.inl (i4.of s),2,0,aB (λu=>?_) (λu=>?_))
 .rw [f_]at u;let ab:d<xs.length:=ofNat_lt.mp u;let aV:=S nd t;obtain⟨x,D⟩:∃x,xs[d]?<*x:=(xs[d],hH ab);let⟨v,N,ev⟩:=t x (pa D);let U:x<W.length:=by rw[<-ev];show ur o Z N
  refine⟨λQ H2=>∃(xs:LN)(M:Option V),Q=[some (.ref m),some (.ref p),some (.int ((d+1:Nat):Int)),M]/\b' H H2/\H2 p=some (.lst (c_ xs))/\xs.Nodup/\0∈xs/\(∀x∈xs,∃v:LN,(∀c∈v,c∈L)/\run L W 0 v=x)/\∀(i x:Nat),i<d+1->xs[i]?<*x->∀q,q<L.length->goal W x q∈xs,?_,?_⟩
  .rintro Q H2⟨xs2,u4,rfl,r1,r2,r3,r4,r5,r6⟩;show(W.length-(d+1),!6,xs2,d+1,u4,6,r1,r2,r3,r4,r5,r6)
  let⟨wy,mk,aM,h1,h2,h3,h4,h5⟩:=id (hM.same sm);let gx:ux (c_ xs) (d:Int)<*.int (x:Int):=wu (by rw[c_,lv,D];rfl);let⟨ra,ap,n⟩:=p'.row h4 h5 U;let l1:=(Gu o U).1;refine(n_ h1 ao (4,uN s gx (uX h2 (vZ V.ref ap) (ra,1,(_,nj.of n),3))));let an:=n;refine jI (K:=K) (a:=ra) (xs:=c_ (W.getD x [])) (λj r O=>E2 λ(ys:LN)(M:Option V)=>A8 (r=[some (.ref m),some (.ref p),some (.int (d:Int)),M]) (b' H O) (∀b zs,H1 b<*.tup zs->O b<*.tup zs) (O p<*.lst (c_ ys)) (ys.Nodup) (∀x∈ys,∃v:LN,(∀c∈v,c∈L)/\run L W 0 v=x) (∀(i z:Nat),xs[i]?<*z->ys[i]?<*z) (∀q,q<j->goal W x q∈ys)) (xs,0,sm,λ_ _ e=>e,s,nd,t,λ_ _ e=>e,λq G=>absurd G (not_lt_zero _)) ?_ ?_ ?_
  .rintro j r O hj⟨_,_,rfl,_,tp,_⟩;show nj.of (tp _ _ n)
  .rintro j z r O hz⟨ys,u4,rfl,s3,tp,l,nd3,hre3,g,hgo⟩;let hj:j<(W.getD x []).length:=by have:=(j0 hz).1;rwa [f_]at this
   rw[G2 hj]at hz;cases hz;let eg:(W.getD x []).getD j 0=goal W x j:=rfl;rw[eg];let ac:j<L.length:=by rw[<-l1];show hj
   let C:∀{zs:LN},(∀y∈ys,y∈zs)->goal W x j∈zs->∀q,q<j+1->goal W x q∈zs:=λ{zs}h1 h2 q G=>by
    rcases Nat.lt_succ_iff_lt_or_eq.mp G with z|z
    .exact h1 _ (hgo q z)
    .rw [z];show h2
   refine(4,p,0,.inl (i4.of l),1,JX _,0,3);rw[if_pos rfl,L3];by_cases A:goal W x j∈ys
   .rw [decide_eq_true A];show af (ys,0,s3,tp,l,nd3,hre3,g,C (λ_ h=>h) A)
   .rw [decide_eq_false A];let aU:=S nd3 hre3;refine am (0,.inl (1,_,i4.of l),0,p,2,l,by rw[f_];show IA (!6),ys++[goal W x j],0,b'.set s3 X,λb zs e=>IM l b zs (tp b zs e),by rw[a_,IB],3,λy hy=>?_,λi z e=>Jr (g i z e),C (λ_ h=>mem_append_left _ h) (!1))
    .rw [nodup_append];show(nd3,!1,λa ha b hb=>by rw[t5 hb];show λz=>A (z▸ha))
    .rcases mem_append.mp hy with z|z
     .exact hre3 y z
     .rw [t5 z];let ec:L.idxOf L[j]=j:=o.lt.nd.idxOf_getElem j ac;refine(v++[L[j]],GV N λc hc=>by rw[t5 hc];show getElem_mem ac,3);rw[Ia,ev];unfold uR goal;rw[ec]
  .rintro r O⟨ys,u4,rfl,s3,tp,l,nd3,hre3,g,hgo⟩;rw[f_,l1]at hgo;refine(0,2,ys,0,s3,l,nd3,3,hre3,λi z E hz=>?_)
   .obtain ⟨i,E⟩:=mem_iff_getElem?.mp Y;show pa (g i 0 E)
   .let I:i<xs.length:=by lia
    let e1:=g i _ (hH I);rw[hz]at e1;let e1:=Option.some.inj e1;rcases Nat.lt_succ_iff_lt_or_eq.mp E with z'|z'
    .let c2:=ai i z z' (by rw[e1];show hH I);intro q G;let⟨i',as⟩:=mem_iff_getElem?.mp (c2 q G);show pa (g i' _ as)
    .subst z';rw[hH I,<-e1]at D;cases D;show hgo
 .rw [f_]at u;let az:xs.length≤d:=by lia
  refine(0,q p xs H1 sm s λx=>(t x,λaF=>?_));let⟨v,N,e⟩:=aF;rw[<-e];show ki Y (λx D q G=>by
   let⟨i,E⟩:=mem_iff_getElem?.mp D;show ai i x (lt_of_lt_of_le (j0 E).1 az) E q G) v N
def c_h:oj ["_law_machine_here","_law_bar_here","_law_times","_law_many","_law_goes","_law_one","_law_two"] ["_law_machine_here","_law_bar_here","_law_times"] (i_ M2):=pp
def FP(F:n' K "_law_bar" "_law_bar" M2 f fd)(T:Txt K mg)(yA:Df P w K mg base "_law_bar_words" 2 ["_law_words","_law_letters_here"] sp_lbw)(yV:Df P w K mg base "_law_power" 2 ["_law_machine_here","_law_word_here","_law_times"] sp_lpow)(I:Df P w K mg base "_law_after" 1 ["_law_machine_here","_law_room","_law_word_here"] sp_after):aa P w K mg base kd 3 f fd ["_law_machine_here","_law_bar_here","_law_times"] sp_lbar52:=by
 refine F.okA c_h ?_;rintro _ _ _ _ _ _ _ _ N⟨m,t,L,W,B,x,y,u,z,n,rfl,O,b,H,D,d,q⟩;let s:=N.mono (j:=1) (!0);refine(_,(h6 (ri ((vx (vX (vh (mr yA N (o5 (pv 1) (ol 0))))) (Jk (Jg (ol 1) we))).pt) (iy (k_ uP)) (sT)) (h6 (uL PassesOwn.never rfl (HV (uT (GX e_ (s_ e_ e_ (pv 2))))) (uB 3 c_h.nd) (h6 (j5 4 c_h.nd (mr yV N (s_ (pv 0) (ol 1) (pv 3)))) (h6 (j5 5 c_h.nd (mr I s (s_ (pv 0) (vG (pv 4) (mr I s (s_ (pv 0) (e_) (ol 1)))) (ol 1)))) (h6 (j5 6 c_h.nd (mr I s (s_ (pv 0) (vG (pv 4) (mr I s (s_ (pv 0) (e_) (ol 1)))) (ol 1)))) (iy (ri ((vx (vX (vh (ve (ol 0) (pv 5)))) (Jk (vh (ve (ol 0) (pv 6))))).pt) (iy (k_ uP)) (sT))))))) (iy (k_ uP)))),3);let⟨wy,mk,ab,Q,h2,h3,h4,h5⟩:=id O;let M:0<W.length:=by have:=b.n1;lia
 refine(0,n_ Q au (t,L,[x,y,u,z],1,D,λv g=>?_,λH1 s1=>(0,af (n_ (s1 _ _ D) aC (1,0,nM (λz=>d.ne (vM (V.str.inj z))) ?_)))))
 .rcases mem_cons.mp g with rfl|g
  .exact (d.cx,d.lx)
  rcases mem_cons.mp g with rfl|g
  .exact (d.cy,d.ly)
  rcases mem_cons.mp g with rfl|g
  .exact (d.cu,d.lu)
  rw[t5 g];show(d.cz,d.lz)
 refine(0,kA (by change 4≤16777216;decide),λl hl=>(l,1,(_,i4.of a_),3));let s2:=s1.trans (b'.upd (o:=.lst [.int 0,.int 1,.int 2,.int (n:Int)]) hl);let el:L2.upd H1 l (.lst [.int 0,.int 1,.int 2,.int (n:Int)]) l<*.lst [.int 0,.int 1,.int 2,.int (n:Int)]:=a_;generalize L2.upd H1 l (.lst [.int 0,.int 1,.int 2,.int (n:Int)])=H2 at s2 el;refine HW (K:=K) (a:=l) (xs:=[.int 0,.int 1,.int 2,.int (n:Int)]) (λi h H'=>E4 λZ Y X U=>h=[some (.ref m),some (.ref t),some (.int (n:Int)),Z,Y,X,U]/\b' H2 H') (7,8,b'.refl _) ?_ ?_ ?_
 .rintro i h H' hi⟨_,_,_,_,rfl,E⟩;show i4.of (E _ _ el)
 .rintro i v h H3 r⟨Z,Y,X,U,rfl,E⟩;obtain⟨k,rfl⟩:∃k:Nat,v=.int (k:Int):=by
   match i,r with
   |0,r=>cases r;show((0),1)
   |1,r=>cases r;show((1),1)
   |2,r=>cases r;show((2),1)
   |3,r=>cases r;show(n,1)
  let C:=s2.trans E;refine(0,n_ (C _ _ D) aC (0,m,L,W,B,u,k,1,O.same C,b,H,d.cu,λp H4 G hp=>?_));let e:=C.trans G;let A:=O.same e;let go:∀{v:LN},(∀c∈v,c∈L)->run L W 0 v<W.length/\run L W (run L W 0 v) (BH u k)<W.length:=λg=>(ur b M g,ur b (ur b M g) (fG d.cu k));let⟨r0,r1⟩:=go d.cx;let⟨S,R⟩:=go d.cy;refine(4,0,n_ (e _ _ D) au (m,L,W,B,(0),x,1,A,b,M,d.cx,uN hp (wN (by rw[Jz];show r0)) ?_));rw[iO r0];refine(n_ (e _ _ D) sY (m,L,W,B,_,z,1,A,b,r1,d.cz,3));refine(4,0,n_ (e _ _ D) ao (m,L,W,B,(0),y,1,A,b,M,d.cy,uN hp (wN (by rw[Jz];show S)) ?_));rw[iO S];refine(n_ (e _ _ D) sY (m,L,W,B,_,z,1,A,b,R,d.cz,3));refine(n_ (e _ _ Q) aC (0,uX (e _ _ h3) (I_ (by rw[b.bl];show ur b r1 d.cz)) (0,3)));let ex:=d.yes k;rw[uS,uS]at ex;rw[ex];refine af (n_ (e _ _ Q) aC (0,uX (e _ _ h3) (I_ (by rw[b.bl];show ur b R d.cz)) (0,3)));let ey:=d.no k;rw[uS,uS]at ey;rw[ey];show af (7,8,E.trans G)
 .rintro h H3⟨_,_,_,_,rfl,E⟩;show q H3 (s2.trans E)
def b_Y:oj ["_law_machine_here","_law_paper_here","_law_rooms","_law_word_here"] ["_law_machine_here","_law_paper_here"] (i_ M4):=pp
def Ov(F:n' K "_law_paper" "_law_paper" M4 f fd)(T:Txt K mg)(y9:Df P w K mg base "_law_after" 1 ["_law_machine_here","_law_room","_law_word_here"] sp_after)(yi:Df P w K mg base "_law_all_in" 2 ["_law_machine_here","_law_rooms","_law_word_here"] sp_allinL)(yR:Df P w K mg base "_law_reached" 1 ["_law_machine_here"] sp_reached):aa P w K mg base kd 3 f fd ["_law_machine_here","_law_paper_here"] sp_lpap52:=by
 refine F.okA b_Y ?_;rintro _ _ _ _ H _ _ _ hr⟨m,p,j,b,L,W,B,r,t,rfl,hM,k,as,hp,hj,hb,A,q⟩;let ai:=hr.mono (j:=1) (!0);refine(_,(h6 (ri (uZ cA (Gr (da rfl) (!4) T.max boot_max (kb (mB ir (uT (kb e_)) (wH ["_law_machine_here","_law_paper_here","_law_rooms","?"] rfl (!0) (wA (mB ir (ol 1) (ol 1))) (λcl C fp s' H'=>(vi,(wK T.len (pv 0)))))))) (wI T.len (ol 0)) (uV _)) (iy (k_ uP)) (sT)) (h6 (j5 2 b_Y.nd (mr yR ai (kb (pv 0)))) (h6 (uL PassesOwn.never rfl (HV (ol 1)) (uB 3 b_Y.nd) (h6 (ri (vX (vh (mr yi hr (s_ (pv 0) (pv 2) (pv 3))))) (iy (k_ uP)) (sT)) (iy (ri ((dH (J2 (pv 3) we) (KD (vh (mr yi hr (s_ (pv 0) (pv 2) (HY bp (pv 3) (Hj e_) Iq)))))).pt) (iy (k_ uP)) (sT))))) (h6 (uL PassesOwn.never rfl (HV (ol 1)) (uB 3 b_Y.nd) (iy (ri ((vx (vX (vh (ve (ol 0) (mr y9 ai (s_ (pv 0) (e_) (pv 3)))))) (Jk (vh (mr yi hr (s_ (pv 0) (pv 2) (pv 3)))))).pt) (iy (k_ uP)) (sT)))) (iy (k_ uP)))))),3);let⟨wy,mk,ac,h1,h2,h3,h4,h5⟩:=id hM;let n1:0<W.length:=by have:=k.n1;lia
 let lJ:=A.lenJ;let lB:=A.lenB;let wl:∀l:LL,(d_ l).length=l.length:=λl=>by rw[d_,ix]
 let S:(d_ r++d_ t).length≤sizeLine:=kA (by rw[j_,wl,wl];lia);let wa:∀v∈r++t,v.length≤W.length:=λv n=>(mem_append.mp n).elim (λh=>(A.wJ v h).1) (λh=>(A.wB v h).1);refine(kA (by change 1≤16777216;decide),λz hz=>?_);let s1:=b'.upd (o:=.lst [.int 0]) hz;let ez:L2.upd H z (.lst [.int 0]) z<*.lst [.int 0]:=a_;generalize L2.upd H z (.lst [.int 0])=H1 at s1 ez;dsimp only[uY];refine fe (n_ (s1 _ _ hp) au (n_ (s1 _ _ hp) ao (j,b,2,s1 _ _ hj,s1 _ _ hb,by rw[<-j_];show S,λc hc=>?_)));let s2:=s1.trans (b'.upd (o:=.lst (d_ r++d_ t)) hc);let ec:L2.upd H1 c (.lst (d_ r++d_ t)) c<*.lst (d_ (r++t)):=by rw[a_,d_,d_,d_,map_append]
 let az:=n7 (u:=.lst (d_ r++d_ t)) ez hc;generalize L2.upd H1 c (.lst (d_ r++d_ t))=H2 at s2 ec az;refine HH (a:=c) (λR h=>h) (.inl rfl) ec (λD i ys H'=>ys=(((r++t).take i).map λw=>((w.length:Nat):Int)).map V.int) (by rw[wl];rw[j_,wl,wl]at S;rw[j_];show S) (λD hD=>rfl) ?_ ?_
 .intro D i x ys H' R1 R2 hD s I ab G k1 k2;rw[d_,lv]at s;let⟨v,n,rfl⟩:=uJ s;let a0:=wa v (pa n);refine h_ (4,kA (by rw[nb];omega),k1 _ H' ab (b'.set I hD) ?_);rw[G,FG n,map_append,map_append,nb];rfl
 intro D ys H3 hD I ab G;rw[wl,take_length]at G;subst G;let s3:=s2.trans I;refine(z,D,2,I _ _ az,ab,kA (by rw[ix,ix,j_];change 1+_≤_;lia),λM aU=>?_);let s4:=s3.trans (b'.upd (o:=.lst ([.int 0]++((r++t).map λw=>((w.length:Nat):Int)).map V.int)) aU);refine(M,0::((r++t).map λw=>((w.length:Nat):Int)),1,a_,Nat.succ_pos _,λmx an _=>?_);let an:mx≤(W.length:Int):=by
  rcases mem_cons.mp an with e|e
  .rw [e];show Int.natCast_nonneg _
  .obtain ⟨v,n,rfl⟩:=mem_map.mp e;show Int.ofNat_le.mpr (wa v n)
 generalize L2.upd H3 M (.lst ([.int 0]++((r++t).map λw=>((w.length:Nat):Int)).map V.int))=H4 at s4;refine(n_ (s4 _ _ h1) ao (wy,0,.inr (nj.of (s4 _ _ h2)),2,0,nM (λz=>?_) ?_))
 .rw [ix,h4]at z;lia
 refine(0,m,L,W,B,1,hM.same s4,k,as,λrl xs H8 s8 Y U=>?_);let E:=s4.trans s8;let X:∀x∈xs,x<W.length:=λx s=>by
  let⟨v,n,rfl⟩:=(U x).mp s;show ur k n1 n
 let aF:∀{w:LN},(∀x∈xs,B.getD (run L W x w) false=true)↔∀v:LN,(∀c∈v,c∈L)->B.getD (run L W 0 (v++w)) false=true:=λ{w}=>(λh v n=>by rw[uS];show h _ ((U _).mpr (v,n,1)),λh x s=>by
  let⟨v,n,rfl⟩:=(U x).mp s;rw[<-uS];show h v n)
 let y:∀{w:LN}{bb:Bool},(bb=true↔∀x∈xs,B.getD (run L W x w) false=true)->(∃v:LN,(∀c∈v,c∈L)/\B.getD (run L W 0 (v++w)) false=false)->bb=false:=λ{w bb}h aT=>by let⟨v,n,e⟩:=aT;show eq_false_iff.mpr λz=>by rw[aF.mp (h.mp z) v n]at e;cases e
 let⟨wy,mk,ac,h1,h2,h3,h4,h5⟩:=id (hM.same E);let O:=hM.same E;refine(n_ (E _ _ hp) ao (b,1,(_,i4.of (E _ _ hb)),HW (K:=K) (a:=b) (xs:=d_ t) (λi d H'=>∃s2,d=[some (.ref m),some (.ref p),some (.ref rl),s2]/\H'=H8) (0,1) ?_ ?_ ?_))
 .rintro i d H' hi⟨_,rfl,rfl⟩;show i4.of (E _ _ hb)
 .rintro i x d H5 s⟨aM,rfl,rfl⟩;rw[d_,lv]at s;let⟨v,n,rfl⟩:=uJ s;let g:=pa n;let⟨vl,Q⟩:=A.wB v g;refine(4,0,m,rl,L,W,B,xs,v,1,O,k,Y,X,Q,λbb Z=>(0,3));rw[Z.mpr (aF.mpr (A.e1 v g))];refine af (0,1,0,sO (λN=>?_) (λ_=>(0,1)));match v,N,g,Q,vl with
  |[],N,_,_,_=>show(N rfl).elim
  |c0::v',N,g,Q,vl=>
   let aV:Txt.slice (tx (c0::v')) (some 1) none=tx v':=by
    rw[KO _ (!0) (by rw[vp,length_cons];lia),vp];rfl
   let aZ:v'.length+1≤W.length:=vl;refine(4,4,0,kA (by rw[nb];change v'.length+1≤_;omega),m,rl,L,W,B,xs,v',by rw[<-aV];rfl,O,k,Y,X,λc hc=>Q c (mem_cons_of_mem _ hc),λa1 ap=>(0,3));rw[y ap (A.e2 c0 v' g)];show af (0,1)
 .rintro d H5⟨aM,rfl,rfl⟩;refine(n_ (E _ _ hp) au (j,1,(_,i4.of (E _ _ hj)),HW (K:=K) (a:=j) (xs:=d_ r) (λi d H'=>∃s2,d=[some (.ref m),some (.ref p),some (.ref rl),s2]/\H'=H5) (0,1) ?_ ?_ ?_))
  .rintro i d H' hi⟨_,rfl,rfl⟩;show i4.of (E _ _ hj)
  .rintro i x d H6 s⟨t2,rfl,rfl⟩;rw[d_,lv]at s;let⟨v,n,rfl⟩:=uJ s;let g:=pa n;let⟨vl,Q⟩:=A.wJ v g;let rv:=ur k n1 Q;refine(n_ h1 aC (4,m,L,W,B,(0),v,1,O,k,n1,Q,uX h3 (I_ (by rw[k.bl];show rv)) (0,3)));rw[A.j1 v g];refine af (4,0,m,rl,L,W,B,xs,v,1,O,k,Y,X,Q,λbb Z=>(0,3));rw[y Z (A.j2 v g)];show af (0,1)
  .rintro d H6⟨t2,rfl,rfl⟩;show q H6 E
def d_P:oj ["_law_script","_law_letters_here","_law_machine_here","_law_found","_law_paper_here","_law_word_here","_law_room","_law_cell"] ["_law_script"] (i_ IL):=pp
def JA(F:n' K "law" "law" IL f fd)(T:Txt K mg)(hPP:((uI P0 P1 P2 P3).map Prod.fst).Nodup)(y8:Df P w K mg base "_law_cell_at" 1 ["_law_script","_law_k"] (Jj K))(v9:Df P w K mg base "_law_letters" 1 ["_law_cell"] sp_letters)(yJ:Df P w K mg base "_law_built" 4 ["_law_script","_law_letters_here","_law_kind"] (fq K))(yL:Df P w K mg base "tell" 11 ["kind",Q0] (bY P0 P1 P2 P3))(yE:Df P w K mg base "_law_told" 1 ["_law_found","_law_yes","_law_no"] sp_ltold)(v6:Df P w K mg base "_law_bar" 3 ["_law_machine_here","_law_bar_here","_law_times"] sp_lbar52)(yf:Df P w K mg base "_law_in_order" 2 ["_law_found","_law_letters_here"] sp_inord51)(yD:Df P w K mg base "_law_paper" 3 ["_law_machine_here","_law_paper_here"] sp_lpap52)(yd:Df P w K mg base "_law_says" 1 ["_law_paper_here","_law_word_here"] sp_lsaysL)(y9:Df P w K mg base "_law_after" 1 ["_law_machine_here","_law_room","_law_word_here"] sp_after):aa P w K mg base kd 12 f fd ["_law_script"] (dn K [(cT,P0,),(cT1,P1,),(cT2,P2,),(cT3,P3,)]):=by
 refine F.okA d_P ?_;rintro _ _ _ _ H _ _ _ hr⟨a,ns,rfl,hS,aM,E,k⟩;let g:=hr.mono (j:=1) (!0);let ap:=hr.mono (j:=2) (!0);let an:=hr.mono (j:=3) (!0);let a1:=hr.mono (j:=4) (!0);refine(_,(h6 (j5 1 d_P.nd (mr v9 g (kb (mr y8 g (o5 (pv 0) (e_)))))) (h6 (j5 2 d_P.nd (mr yJ a1 (s_ (pv 0) (pv 1) (mB wh (mr y8 g (o5 (pv 0) (e_))) e_)))) (h6 (j5 3 d_P.nd (mr yL hr (o5 (we) (pv 2)))) (h6 (ri (vX (vh (mr yE g (s_ (pv 3) (e_) (e_))))) (iy (k_ uP)) (sT)) (h6 (ri (vX (vh (ol 3))) (iy (k_ (mr v6 an (s_ (pv 2) (ol 3) (mB wh (mr y8 g (o5 (pv 0) (e_))) (mB GB e_ e_)))))) (sT)) (h6 (j5 4 d_P.nd (ol 3)) (h6 (ri ((vx (vX (vh (mr yf ap (o5 (ol 4) (pv 1))))) (Jk (vX (vh (mr yf ap (o5 (ol 4) (pv 1))))))).pt) (iy (k_ uP)) (sT)) (h6 (ri (vX (vh (mr yD an (o5 (pv 2) (pv 4))))) (iy (k_ uP)) (sT)) (h6 (j5 5 d_P.nd (we)) (h6 (j5 6 d_P.nd (e_)) (h6 (ri (J2 (ve (ol 2) e_) (mr yd g (o5 (pv 4) (we)))) (iy (k_ uP)) (sT)) (h6 (uL PassesOwn.never rfl (HV (HY wM (pv 0) (Hj e_) (Hj e_))) (uB 7 d_P.nd) (h6 (j5 5 d_P.nd (mB Im (pv 5) (u_ vL (pv 1) (mB Jm (pv 7) (wK T.len (pv 1))) (λ_ _=>rfl)))) (h6 (j5 6 d_P.nd (mr y9 g (s_ (pv 2) (pv 6) (u_ vL (pv 5) (aP IS e_) (λ_ _=>rfl))))) (iy (ri (J2 (ve (ol 2) (pv 6)) (mr yd g (o5 (pv 4) (pv 5)))) (iy (k_ uP)) (sT)))))) (iy (k_ uP)))))))))))))),3);let a5:Tb P0 P1 P2 P3 H:=(hPP,λp hp=>by
  simp only[uI,mem_cons,not_mem_nil,or_false]at hp;rcases hp with rfl|rfl|rfl|rfl
  .exact (#[],E (cT,P0,) (!1),Ld,λq _=>.inl rfl)
  .exact (#[],E (cT1,P1,) (!1),Ld,λq _=>.inl rfl)
  .exact (#[],E (cT2,P2,) (!1),Ld,λq _=>.inl rfl)
  .exact (#[],E (cT3,P3,) (!1),Ld,λq _=>.inl rfl))
 refine(0,a,ns,(1),1,hS,!0,λz0=>(z0,1,λL hL=>?_));let a9:=hL.lo;let a8:=hL.hi;let ab:(tx L).length≤sizeLine:=kA (by rw[nb];omega);refine(4,0,a,ns,(0),1,hS,!0,λz1=>(2,!0,a,ns,L,0,hS,hL,λm W B H1 s1 aZ e aU=>?_));refine(0,m,L,W,B,1,aZ,e,aU,a5.kt (KT.of s1),λt H2 g1 hW=>?_);let G:p' H2 m L W B:=g1.mach aZ;let aV:i4 K H2 a (ns.map V.int):=rX g1.sm (s1.seq hS);let n1:0<W.length:=by have:=e.n1;lia
 let I:W.length≤60:=Nat.le_trans aU (!0);rcases hW with⟨p,j,b,ju,be,Q,hp,hj,R,l⟩|⟨b,x,y,u,z,Q,R,hB⟩
 rotate_left
 .refine (0,t,b,false,_,(2),(4),1,Q,R,1,λH3 A=>(0,af ?_));refine(n_ (A _ _ Q) au (0,am ?_));refine(0,n_ (A _ _ Q) ao (0,a,ns,(2),1,A.seq aV,!0,λz2=>(2,(!0,!0,!0),2,!0,3)));let S:0≤z2%10^toNat 60:=emod_nonneg _ (!0);generalize z2%10^toNat 60=a7 at S;let⟨n,rfl⟩:=Int.eq_ofNat_of_zero_le S;show(m,b,L,W,B,x,y,u,z,n,1,G.same A,e,I,A _ _ R,hB,λH' _=>k _)
 .refine (0,t,p,true,_,(2),(4),1,Q,hp,1,λH3 A=>(0,af ?_));refine(n_ (A _ _ Q) au (0,af ?_));refine(n_ (A _ _ Q) ao ?_);let lJ:=l.lenJ;let lB:=l.lenB;refine(n_ (A _ _ hp) au (0,j,L,ju,1,A _ _ hj,hL,!2,λv O=>(by have:=(l.wJ v O).1;lia,(l.wJ v O).2),l.ordJ,λH4 s4=>(0,af ?_)));let N:=A.trans s4;refine(n_ (N _ _ hp) ao (0,b,L,be,1,N _ _ R,hL,!2,λv O=>(by have:=(l.wB v O).1;lia,(l.wB v O).2),l.ordB,λH5 s5=>(0,af ?_)));let s:=N.trans s5;refine(4,m,p,j,b,L,W,B,ju,be,1,G.same s,e,I,s _ _ hp,s _ _ hj,s _ _ R,l,λH6 Y=>(0,af ?_));let h:=s.trans Y;let⟨wy,mk,a6,h1,h2,h3,h4,h5⟩:=id (G.same h);let U:∀v∈be,v.length≤1000:=λv O=>by have:=(l.wB v O).1;lia
  refine(n_ h1 aC (mk,_,2,nj.of h3,I_ (r:=0) (by rw[e.bl];show n1),0,p,j,b,ju,be,[],1,h _ _ hp,h _ _ hj,h _ _ R,U,zero_le _,1,0,aQ (by rw[<-l.tk [] (!1)];rfl) ?_));refine(4,0,a,0,h.seq aV,λZ az=>(Z,1,(_,i4.of a_),3));rw[k9];let a3:(cutI ns (some 12) (some 62)).length≤63:=Nat.le_trans (gH _ _ _) aM;generalize cutI ns (some 12) (some 62)=zs at a3;let X:=h.trans (b'.upd (o:=.lst (zs.map V.int)) az);let e4:L2.upd H6 Z (.lst (zs.map V.int)) Z<*.lst (zs.map V.int):=a_;let M:=b'.upd (o:=.lst (zs.map V.int)) az;generalize L2.upd H6 Z (.lst (zs.map V.int))=H7 at X e4 M;refine HW (K:=K) (a:=Z) (xs:=zs.map V.int) (λi D H'=>E2 λ(w:LN)(Y:Option V)=>A4 (D=[some (.ref a),some (.str (tx L)),some (.ref m),some (.ref t),some (.ref p),some (.str (tx w)),some (.int ((run L W 0 w:Nat):Int)),Y]) (H'=H7) (w.length=i) (∀c∈w,c∈L)) ([],0,6,!1) ?_ ?_ ?_
  .rintro i D H' hi⟨_,_,rfl,rfl,_⟩;show i4.of e4
  .rintro i x D H8 hx⟨w,Y,rfl,rfl,ac,ai⟩;let hi:i<zs.length:=by have:=(j0 hx).1;rwa [ix]at this
   rw[lv]at hx;let⟨z,_,rfl⟩:=uJ hx;let aF:(0:Int)<((tx L).length:Int):=by rw[nb];lia
   let a2:=emod_nonneg z (show((tx L).length:Int)≠0 by lia);let as:=Int.emod_lt_of_pos z aF;let⟨c,hc,a4⟩:=iX (xs:=(tx L).cps.toList) a2 (by rw[vp,<-nb];show as);let aT:c∈L:=by
    have:=pa a4
    rwa [vp]at this
   let e1:(⟨#[c]⟩:Str)=tx [c]:=rfl;refine(4,4,0,ab,2,aF,_,2,ab,hc,2,by rw[e1,nb,nb];show kA (by simp;lia),3);rw[e1,H_];let C:∀d∈w++[c],d∈L:=λd hd=>(mem_append.mp hd).elim (ai d) λy=>by rw[t5 y];show aT
   let rl:=ur e n1 ai;let a0:=ur e n1 C;let ea:ux (tx (w++[c])).cps.toList (-1)<*c:=by rw[vp];show gT w c
   refine(4,4,_,2,kA (by rw[nb];simp;lia),ea,m,L,W,B,_,[c],by rw[e1];rfl,G.same X,e,rl,by simpa using aT,3);let er:run L W (run L W 0 w) [c]=run L W 0 (w++[c]):=(uS L W 0 w [c]).symm;rw[er];refine(n_ (M _ _ h1) aC (0,uX (M _ _ h3) (I_ (by rw[e.bl];show a0)) ?_));refine(4,p,j,b,ju,be,w++[c],1,X _ _ hp,X _ _ hj,X _ _ R,U,by rw[j_,ac];change i+1≤1000;lia,1,0,3);show aQ (by rw[<-l.tk _ C]) (w++[c],0,1,by rw[j_,ac];rfl,C)
  .rintro D H8⟨w,Y,rfl,rfl,_⟩;show k _
end
def JB{l:PySem.W.OpenLaw}{w:World}{K K0:Frag}{h:Heap}{mg:Str->Option Value}{fa cT c o n P0 P1 P2 P3:Addr}(hK:K=wE [P0,P1,P2,P3] K0)(hPP:((uI P0 P1 P2 P3).map Prod.fst).Nodup)(X:K.In h)(G:h.Ns mainGlobals mg)(dT:mg "law"<*.ref fa){fI:Addr}{c1 ep:Option Addr}{cn:Array (Option Value)}{dd dx ea cw ei:Value}{b2:Addr}{b:Addr}(nW:nsIn K mainGlobals "Walk"<*some (.ref b))(hI0:findIn K0 (.ref b) "__init__"<*some (.ref fI))(cls:HX K b)(mk:Mk K b fI)(na1:vJ K b "letters")(na2:vJ K b "things")(na3:vJ K b "words")(na4:vJ K b "ways")(na5:vJ K b "marks")(lI:K.lookup fI<*(dd,c1,.func (fnOf "__init__" "Walk.__init__" (r_ J3) (pf J3) (i_ J3) .none dx ea cw ep (.ref b2) ei),cn))(cI:codeIn K (.ref b2) "Walk.__init__"=true){tD tR:Addr}{dp:Value}{c2:Option Addr}{co:Array (Option Value)}{nD:Nat}{fV:Addr}{cy ek:Option Addr}{cd:Array (Option Value)}{c4 ds d3 cq ec:Value}{b1:Addr}(aV:nsIn K mainGlobals "walked"<*some (.ref fV))(lV:K.lookup fV<*(c4,cy,.func (fnOf "walked" "walked" (r_ vU) (pf vU) (i_ vU) (.ref tD) ds d3 cq ek (.ref b1) ec),cd))(cV:codeIn K (.ref b1) "walked"=true)(lD:K.lookup tD<*(dp,c2,.seq #[.none] nD,co)){fM:Addr}{c0 eo:Option Addr}{cl:Array (Option Value)}{dc dw d6 cu eg:Value}(aM:nsIn K mainGlobals "walked_machine"<*some (.ref fM))(lM:K.lookup fM<*(dc,c0,.func (fnOf "walked_machine" "walked_machine" (r_ G8) (pf G8) (i_ G8) .none dw d6 cu eo (.ref cT) eg),cl))(cM:codeIn K (.ref cT) "walked_machine"=true){c8:Value}{cJ:Option Addr}{cj:Array (Option Value)}{nR:Nat}{fT:Addr}{cB en:Option Addr}{ch:Array (Option Value)}{c7 dv d5 ct ee:Value}(aT:nsIn K mainGlobals "walked_rooms"<*some (.ref fT))(lT:K.lookup fT<*(c7,cB,.func (fnOf "walked_rooms" "walked_rooms" (r_ GJ) (pf GJ) (i_ GJ) (.ref tR) dv d5 ct en (.ref c) ee),ch))(cT_:codeIn K (.ref c) "walked_rooms"=true)(lR:K.lookup tR<*(c8,cJ,.seq #[.none] nR,cj)){fU:Addr}{cz el:Option Addr}{ce:Array (Option Value)}{c5 dt d4 cs ed:Value}(aU:nsIn K mainGlobals "walked_turned"<*some (.ref fU))(lU:K.lookup fU<*(c5,cz,.func (fnOf "walked_turned" "walked_turned" (r_ G') (pf G') (i_ G') .none dt d4 cs el (.ref o) ed),ce))(cU:codeIn K (.ref o) "walked_turned"=true){fZ:Addr}{cx ej:Option Addr}{cc:Array (Option Value)}{c3 dr d2 cp eb:Value}(aZ:nsIn K mainGlobals "turned_about"<*some (.ref fZ))(lZ:K.lookup fZ<*(c3,cx,.func (fnOf "turned_about" "turned_about" (r_ Hb) (pf Hb) (i_ Hb) .none dr d2 cp ej (.ref n) eb),cc))(cZ:codeIn K (.ref n) "turned_about"=true){fF:Addr}(aF:nsIn K mainGlobals "first_words"<*some (.ref fF))(lF:rB K "first_words" L' fF){u1:Addr}(y1:nsIn K mainGlobals "tell_first"<*some (.ref u1)){u3:Addr}(y3:nsIn K mainGlobals "tell_within"<*some (.ref u3)){u4:Addr}(y4:nsIn K mainGlobals "tell_tally"<*some (.ref u4)){u5:Addr}(y5:nsIn K mainGlobals "tell_counts"<*some (.ref u5)){u6:Addr}(y6:nsIn K mainGlobals "tell_onward"<*some (.ref u6)){u7:Addr}(y7:nsIn K mainGlobals "tell_plain"<*some (.ref u7))(l0:sg K "_law_cell_at" Me)(l1:sg K "_law_letters" Mf)(l2:sg K "_law_machine" Mh)(l3:sg K "_law_marks" Mi)(l4:sg K "_law_forward" Mj)(l5:sg K "_law_lots" Ml)(l6:sg K "_law_memory" Mm)(l7:sg K "_law_tallied" Mn)(l8:sg K "_law_built" Mo)(l9:sg K "_law_after" Mq)(l10:sg K "_law_is_word" Mr)(l11:sg K "_law_earlier" Ms)(l12:sg K "_law_in_order" Mt)(l13:sg K "is_whole" Mu)(l14:sg K "is_room" Mw)(l15:sg K "need_room" Mx)(l16:sg K "need_word" My)(l17:sg K "room_after" Mz)(l18:sg K "takes" dD)(l19:sg K "numbered" MA)(l20:sg K "many_lots" MB)(l21:sg K "rounds_of" MC)(l22:sg K "parting_word" MD)(l23:sg K "parting" ME)(l24:sg K "parted" MF)(l25:sg K "first_rooms" MG)(l26:sg K "folded" MH)(l27:sg K "least" dE)(l28:sg K "lots_after" MI)(l29:sg K "rooms_into" MJ)(l30:sg K "way_back" MK)(l31:sg K "is_letters" ML)(l32:sg K "need_letters" MM)(l33:sg K "number_of" MN)(l34:sg K "is_settled" MO)(l35:sg K "need_kind" MP)(l36:sg K "_law_power" MQ)(l37:sg K "_law_told" MR)(l38:sg K "_law_bar_words" MS)(l39:sg K "bar_of_last" MT)(l40:sg K "paper_of_first" MU)(l41:sg K "paper_of_last" MV)(l42:sg K "told_by" MW)(l43:sg K "tell_last" MX)(l44:sg K "tell" ii)(l45:sg K "_law_says" MY)(l46:sg K "_law_all_in" MZ)(l47:sg K "_law_reached" M1)(l48:sg K "_law_bar" M2)(l49:sg K "_law_paper" M4){b0:Addr}{bs y:Option Addr}{bo:Array (Option Value)}{bt t u r x:Value}{m:Addr}(a50:nsIn K mainGlobals "law"<*some (.ref b0))(l50:K.lookup b0<*(bt,bs,.func (fnOf "law" "law" (r_ IL) (pf IL) (i_ IL) .none t u r y (.ref m) x),bo))(c50:codeIn K (.ref m) "law"=true)(z_len:nsIn K mainGlobals "len"<*none)(z_range:nsIn K mainGlobals "range"<*none)(z_isinst:nsIn K mainGlobals "isinstance"<*none)(z_int:nsIn K mainGlobals "int"<*none)(z_bool:nsIn K mainGlobals "bool"<*none)(z_tuple:nsIn K mainGlobals "tuple"<*none)(z_list:nsIn K mainGlobals "list"<*none)(z_str:nsIn K mainGlobals "str"<*none)(z_zip:nsIn K mainGlobals "zip"<*none)(z_max:nsIn K mainGlobals "max"<*none)(z_enumerate:nsIn K mainGlobals "enumerate"<*none)(z_all:nsIn K mainGlobals "all"<*none)(z_reversed:nsIn K mainGlobals "reversed"<*none)(z_sorted:nsIn K mainGlobals "sorted"<*none)
  :∃fd:FuncData,(∀(s:Shared)(v:Value),BindsTo s fd ([v],[]) [("_law_script",v,)])/\∀base:Heap,K.In base->base.Ns mainGlobals mg->HJ base mg->(∀q∈[(cT,P0,),(c,P1,),(o,P2,),(n,P3,)],CodeHd base q.1 q.2)->aa l.prog w K mg base kd 12 fa fd ["_law_script"] (dn K [(cT,P0,),(c,P1,),(o,P2,),(n,P3,)]):=by
 let e:=dT.symm.trans (mg_of X G a50);cases e;let T:Txt K mg:=(mg_none_of X G z_len,mg_none_of X G z_range,mg_none_of X G z_isinst,mg_none_of X G z_int,mg_none_of X G z_bool,mg_none_of X G z_tuple,mg_none_of X G z_list,mg_none_of X G z_str,mg_none_of X G z_zip,mg_none_of X G z_max,mg_none_of X G z_enumerate,mg_none_of X G z_all,mg_none_of X G z_reversed,mg_none_of X G z_sorted);let⟨f0,a0,_,F0⟩:=l0;let⟨f1,a1,_,F1⟩:=l1;let⟨f2,a2,_,F2⟩:=l2;let⟨f3,a3,_,F3⟩:=l3;let⟨f4,a4,_,F4⟩:=l4;let⟨f5,a5,_,F5⟩:=l5;let⟨f6,a6,_,F6⟩:=l6;let⟨f7,a7,_,F7⟩:=l7;let⟨f8,a8,_,F8⟩:=l8;let⟨f9,a9,_,F9⟩:=l9;let⟨hk,fv,_,bm⟩:=l10;let⟨hj,ft,_,bl⟩:=l11;let⟨hi,fs,_,bk⟩:=l12;let⟨hh,fr,_,bg⟩:=l13;let⟨hg,fp,_,bf⟩:=l14;let⟨hf,fn,_,be⟩:=l15;let⟨he,cb,_,k⟩:=l16;let⟨hd,fm,_,bc⟩:=l17;let⟨hc,fl,_,bb⟩:=l18;let⟨hb,fg,_,az⟩:=l19;let⟨ha,fb,_,as⟩:=l20;let⟨g8,e9,_,ap⟩:=l21;let⟨g7,e8,_,an⟩:=l22;let⟨g6,e7,_,ai⟩:=l23;let⟨g5,e6,_,ac⟩:=l24;let⟨g4,e5,_,ab⟩:=l25;let⟨g3,e4,_,Z⟩:=l26;let⟨g2,e3,_,Y⟩:=l27;let⟨d1,ca,_,j⟩:=l28;let⟨g1,b6,_,i⟩:=l29;let⟨gV,e2,_,U⟩:=l30;let⟨gS,b5,_,g⟩:=l31;let⟨gK,b4,_,f⟩:=l32;let⟨gD,b3,_,d⟩:=l33;let⟨gz,e1,_,S⟩:=l34;let⟨gx,e0,_,R⟩:=l35;let⟨gv,eN,_,Q⟩:=l36;let⟨gs,eL,_,P⟩:=l37;let⟨gr,eH,_,O⟩:=l38;let⟨go,eC,_,N⟩:=l39;let⟨gm,ez,_,M⟩:=l40;let⟨gl,ey,_,L⟩:=l41;let⟨gk,ex,_,I⟩:=l42;let⟨gi,ew,_,H⟩:=l43;let⟨gd,ev,_,F⟩:=l44;let⟨gc,eu,_,E⟩:=l45;let⟨gb,et,_,D⟩:=l46;let⟨ga,es,_,C⟩:=l47;let⟨fy,er,_,B⟩:=l48;let⟨fx,eq,_,A⟩:=l49;let fw:=JK (st:=IL) l50 c50 (G7 l50);let⟨_,FF⟩:=lF;let WT:=Jx.mk (mg_of X G nW) cls mk na1 na2 na3 na4 na5 (JK (st:=J3) lI cI (G7 lI));let WK:J4 K b:=(cls,na1,na4,na5);let DL:∀base:Heap,Df l.prog w K mg base "lots_after" 1 ["machine","rooms"] sp_lotsafter:=λbase=>(d1,_,mg_of X G ca,j.kp,j.binds (ps:=["machine","rooms"]) (λ_ _ _ _ _ _ us p=>by let⟨_,_,rfl⟩:=sI p;rfl),NE j T);let DR:∀base:Heap,Df l.prog w K mg base "rooms_into" 1 ["machine","place","rooms"] sp_rinto:=λbase=>@L7 l.prog w K mg base h X G _ _ _ _ _ _ _ b6 i (GI i (by intros;rfl)) (NF i T);let DN:∀base:Heap,Df l.prog w K mg base "number_of" 3 ["letters","word"] sp_numberof:=λbase=>by
  let a:=@L7 l.prog w K mg base h X G;let i1:=a b5 g (Gx g (by intros;rfl)) (NG g T);let i2:=a b4 f (Gx f (by intros;rfl)) (NH f T i1);let i3:=a cb k (wc k (by intros;rfl)) (ND k T);show a b3 d (wc d (by intros;rfl)) (NI d T i2 i3)
 refine(fnOf "law" "law" (r_ IL) (pf IL) (i_ IL) .none t u r y (.ref m) x,λs v=>.of_eq rfl,λbase _ _ hB hC=>?_);let a:=@L7 l.prog w K mg base h X G;let d0:CodeHd base cT P0:=hC (cT,P0,) (!1);let dV:CodeHd base c P1:=hC (c,P1,) (!1);let yb:Df l.prog w K mg base "walked_machine" 6 ["machine"] (Lc b P0 sites):=(fM,_,mg_of X G aM,G7 lM,(JK (st:=G8) lM cM (G7 lM)).binds (ps:=["machine"]) (λ_ _ _ _ _ _ us p=>by let⟨_,rfl⟩:=qS p;rfl),mV lM cM lV cV (G7 lV) (mg_of X G aV) lD WT (mg_none_of X G z_len) (mg_none_of X G z_zip) d0 hB);let yH:L1 l.prog w K mg base "walked_rooms" 6 ["machine","rooms","most"] (Mb b P1 sitesR):=(fT,_,mg_of X G aT,G7 lT,iV lR,ky lT cT_ lV cV (G7 lV) (mg_of X G aV) lD WT (mg_none_of X G z_len) (mg_none_of X G z_zip) (mg_none_of X G z_tuple) dV hB DL);let v8:Df l.prog w K mg base "walked_turned" 6 ["machine"] (Mc b P2 sitesT):=(fU,_,mg_of X G aU,G7 lU,(JK (st:=G') lU cU (G7 lU)).binds (ps:=["machine"]) (λ_ _ _ _ _ _ us p=>by let⟨_,rfl⟩:=qS p;rfl),mU lU cU lV cV (G7 lV) (mg_of X G aV) lD WT (mg_none_of X G z_len) (mg_none_of X G z_zip) (mg_none_of X G z_tuple) (mg_none_of X G z_range) (mg_none_of X G z_enumerate) (hC (o,P2,) (!1)) hB DR);let yc:Df l.prog w K mg base "turned_about" 7 ["letters","words"] (Md P3 sitesA):=(fZ,_,mg_of X G aZ,G7 lZ,(JK (st:=Hb) lZ cZ (G7 lZ)).binds (ps:=["letters","words"]) (λ_ _ _ _ _ _ us p=>by let⟨_,_,rfl⟩:=sI p;rfl),kz lZ cZ (mg_none_of X G z_sorted) (hC (n,P3,) (!1)) hB DN);let yM:Df l.prog w K mg base "first_words" 7 ["machine"] (mn P0 sites):=(fF,_,mg_of X G aF,FF.kp,FF.binds (ps:=["machine"]) (λ_ _ _ _ _ _ us p=>by let⟨_,rfl⟩:=qS p;rfl),sD FF WT (mg_none_of X G z_list) (mg_none_of X G z_zip) yb);let z:=a a0 F0 (wc F0 (by intros;rfl)) (N1 F0 T );let v9:=a a1 F1 (Gx F1 (by intros;rfl)) (N2 F1 T );let yw:=a a2 F2 (NX F2 (by intros;rfl)) (N3 F2 T z);let yy:=a a3 F3 (wc F3 (by intros;rfl)) (N5 F3 T z);let vv:=a a4 F4 (GI F4 (by intros;rfl)) (N6 F4 T z yw);let yG:=a a5 F5 (wc F5 (by intros;rfl)) (wP F5 T yy);let yC:=a a6 F6 (wc F6 (by intros;rfl)) (N7 F6 T z yy);let yW:=a a7 F7 (wc F7 (by intros;rfl)) (N8 F7 T z yy);let yJ:=a a8 F8 (GI F8 (by intros;rfl)) (N_ F8 T z yw vv yC yG yW);let y9:=a a9 F9 (GI F9 (by intros;rfl)) (N' F9 T );let yr:=a fv bm (wc bm (by intros;rfl)) (Ob bm T );let vy:=a ft bl (GI bl (by intros;rfl)) (Oc bl T );let yf:=a fs bk (wc bk (by intros;rfl)) (Od bk T yr vy);let yN:=a fr bg (Gx bg (by intros;rfl)) (FM bg T );let vg:=a fp bf (wc bf (by intros;rfl)) (GK bf T yN);let yg:=a fn be (wc be (by intros;rfl)) (wQ be T vg);let yz:=a cb k (wc k (by intros;rfl)) (ND k T );let yk:=a fm bc (GI bc (by intros;rfl)) (Oe bc T yg yz);let ya:=a fl bb (wc bb (by intros;rfl)) (HQ bb T yk);let yh:=a fg az (Gx az (by intros;rfl)) (FN az T );let yq:=a fb as (Gx as (by intros;rfl)) (wR as T );let yn:=a e9 ap (GI ap (by intros;rfl)) (wS ap T yh yq);let yY:=a e8 an (NY an (by intros;rfl)) (Of an T );let yB:=a e7 ai (GI ai (by intros;rfl)) (GL ai T yg yn yY);let yU:=a e6 ac (GI ac (by intros;rfl)) (Hd ac T yB yk ya);let vk:=a e5 ab (Gx ab (by intros;rfl)) (Oh ab T yq);let yI:=a e4 Z (wc Z (by intros;rfl)) (He Z T WK vk);let yu:=a e3 Y (Gx Y (by intros;rfl)) (HR Y T WK yb yn yI);let vw:=a ca j (wc j (by intros;rfl)) (NE j T );let vq:=a b6 i (GI i (by intros;rfl)) (NF i T );let yQ:=a e2 U (Gx U (by intros;rfl)) (FO U T WK na3 );let v7:=a b5 g (Gx g (by intros;rfl)) (NG g T );let yZ:=a b4 f (Gx f (by intros;rfl)) (NH f T v7);let vj:=a b3 d (wc d (by intros;rfl)) (NI d T yZ yz);let yF:=a e1 S (wc S (by intros;rfl)) (Om S T );let yT:=a e0 R (wc R (by intros;rfl)) (wT R T );let yV:=a eN Q (GI Q (by intros;rfl)) (On Q T y9);let yE:=a eL P (GI P (by intros;rfl)) (wU P T );let yA:=a eH O (wc O (by intros;rfl)) (Oo O T yr);let yj:=a eC N (Gx N (by intros;rfl)) (Op N T (P2:=P2) (P3:=P3) WK na3 yM yH yQ yU);let yP:=a ez M (Gx M (by intros;rfl)) (Oq M T yF);let yt:=a ey L (Gx L (by intros;rfl)) (Os L T (P1:=P1) WK na3 v8 yu yP yc);let yK:=a ex I (GI I (by intros;rfl)) (GM I T yj yt);let yX:=a ew H (Gx H (by intros;rfl)) (wV H T yu yK yj yt);let yL:=a ev F (wc F (by intros;rfl)) (IP F T (mg_of X G y1) (mg_of X G y3) (mg_of X G y4) (mg_of X G y5) (mg_of X G y6) (mg_of X G y7) yT yX);let yd:=a eu E (wc E (by intros;rfl)) (wW E T );let yi:=a et D (GI D (by intros;rfl)) (Ot D T y9);let yR:=a es C (Gx C (by intros;rfl)) (Ou C T );let v6:=a er B (GI B (by intros;rfl)) (FP B T yA yV y9);let yD:=a eq A (wc A (by intros;rfl)) (Ov A T y9 yi yR);show JA fw T hPP z v9 yJ yL yE v6 yf yD yd y9
end K52
example:="ew-;xvtu^JtE.4ln,VS%B&M%4LWR))|`yv%Az2=;m8f2}g,aS%H?FR%]l^Q=Shei/Z/,g3pQVT6ZqLN*U/yHM_.Bx/1*M,_;n&R@69|UhCnu#?'/$wZa+G%,L*Dwou]$Z*rt)d*%xT/B&5cA*czNfFi:msh4Y/#4l'M~)u/o`&M)Q9r~0)q-]g5q`?I)$)~8~R6hX<J=T%tFs8w>jJSSZ1v2GkYOB?Uwj-RUl'HFRu>=gFN3a.E9<'r}z<Xx'LnK?wc8k>EW9XbHuN''R-~)xvhLe$qR@sge~OkRu{?'Y+w5VBM%B?Qx@?%)tefoYX.E_/b@p&abR9LuZ}/|#vm$;TY@J>M6T/%EcN_>o06JmH+0kFLV|=QEK5V&vSA=j;:;'rD`$-]{(tPtReq<,Nq1b4c+|$Gsq3w%Y<E7)yU($^JA?IoE&~3#)pG./6slsi:h}IMy<Ht8Mr{$WTi^h*CTp1v_6o%?$X191x^gR#dwK0IMG/EHqv8J9F@4*}&G@>G?$Plc9/4+xYa&TaQ9ADk<|bB>n5R5WOWm7E2nMDn`J/UczuE3XCzGdJ'rN>^:MckW%G.77dkP~D6]q=vpOIX*B^F;=8/Vmnp4.5jr8oKs/.68]ZCpp}c6|4~RFza0>GY1}N$ULg]X:)l-iwksMKaQ@i,RqBH<?#M6i:/}CrkLkzo<?8l(lNC~Woup%9)HMdv6{P-Yx1oyG~_^gi0-+o_VsMf3Z8{TShH#t<.>:U6P)_B.hB0iw#v=%=<1z?M~$1pZL?8U&hRevI_M`Z7f)qXF7,}'.{4Nr1dD:fCPe{G{#&LLSSXKWckGZ}du5i?dE+Q^]Qq}HW>7x%K{iFZ#f+~hnjnD(.F)-2IQMxLbs/E?7VBL8+G*dnVQAVPIY0pDdsDL,:xAgCRO{vD4<:hBHs;J0*<<Bkd(i),1xM0rH}r]oJ(Qy=VG28skV(1Qr4SWsT<Pa(?%oF37E6:hR<7QsyW3}WLEj9DNg-(:?T6-]xfG%Js}C5C+W;h'LrT)QPf6GPZl7MAI/L^c}ivdhT:@%_zFFeY'g7>4^_WlfxtJ16Tl~^}sa%Kx]:X4kgk*JvVbbT?&TH=TK{)L/vWHkDj_S(f%jDMQ'E$.KM##jzNJ6hWpx#zJMo}Mp7t3TKPI|?Z2?:es;3aLvm~KicX0?.`V^>)sU-Pv_Qg-kz'w?$a?f-|n;uS=z1<261NCR+%vjF?Mob&^'NF-qk]qrfv_]J+sKOuiCM$9LR.NxxV#a%(;aLWa$4ZELK6XMp2m+Cp.{:70`ORR.mwI-b*vt9:hV<0W^u_:`sy-sB6d(F|Ix_JLq?q:1JrlOK+>i;|1$-/Jslw)c+J`<QhO^.'b#xbBQM(8OfeGzY36=C?f%9TvE.g<f:Vd7+Snb9m0*svS04}K]u|WvKW<=+&DD=0sEUTDqxrD>2qd`-35>;PML(,6?hi@vf28g)F3tSk=@$Z=LQIUWQyYR>U/%$`D{2fA~8/TReAX,C}}O97Clvy*h~Pn}rBi-0g8aN6;F_5L^O?(o1-8/OC#wd>TIS^4v,%Q~4cW`%n2?x1C/jG9F7`v]2m|eA#LY9kzfAX<y/JUD20lI0JVi~UL*mk,>wZ-?RsaEB-|YXnh^-L$,$Fh=4K|l5;4-V|~M{vO^(n.-*Z=/5hWVHs]u{X@vQ$oG6$1=9j}E)CWqKeNV-E|nWC;R$:&*XnZ2e^29IHJ@CM/5$l6p3)=KbI4#C2e-1nYW8y6X8/j3x~IBR&$`z~jbQP2=-&|xM%&o)L>Ug,$)&}gvKXer6a#m^wu/qv/i8=~}T=_30bB;M4kO|oH}*Yq9wR2D=6D.eD-;HQ?FPPMoZ6BN{P9yYcj=*FGNR&}Eg+s,RGQgpJhS3-yp7#v'4@+g%|(;ql(j7&&w2~N6VZo|1F8z7D~mPKq0#$f++vTY/uHah6A:e>tl<V?GR=2Ed6+`'&,|?8F@.h8tU8z]?UPb::YTM%#J%$>aF07kIfOMv@xfvD9sB+LbHX~.C>E-oJ(d+9oT488w+&0lba3<k|i#Czv'&goQ48X,d(M2-)ycD.J=MX|#dK&goG0IoqexVtJwJB$Jbcdtos$GA@5gr}5TQhqIpSpIt|$J-gS6)Lwo'+WA,ok]G^PVte-2-Io7F4;f%?e6{MHgvL>,a/hm#$j?:)6Hw#AwJE/aLMR?+LyoBeQu-#D9hRk+Dga>CSn)a(}Rd^/UR8aSVyJlMA.b;vrQ<p*]R-@kwPKz+./Lx4CE^rN{)I~ms.]|G5JIlA'W<]P$po%A(P%|9`(;Zl8vu#M(c;{gd$]~%IE;gVjv4i:dPoG],ah;L)IhuUkuL`.DW#{ILJ|FFg#^/&.d~y1qNuaAApk-7U=)'V1=,V.6yg6>Gdq$>km.J5bnkX3j>naXk:h}3%&6>-a`<):^3oZ^<%MqH^E_RA1pO*)=BZ+HnEy77(0=7EhLII%rq?~-%SsU#31cPF~VFn)r??JR@q3|FxvtKF):DdQQq3AjstgWR3qg?'*aa<?pi8c8fe#_+XG9Y>dKa0<-?uB`RaH<F4(o?T~-z`Iy$5ab6'qa+~}d%O`^T.P]X#avza,`6?@2OE{hW71Gf@{]5R<),Zs$W$%mhQ/A2<rA%1O,$SF$lXlk]~ERiw,QSE&^J#|aDW=3Gu=c)0~80@~6O^:<y?OEl^,#lb3mEE`N3,H<_A|;:N.YU}'D`GbN7b}CHSy`c9;j)@15RbXG;dLp5-*NHg0Lu)C#6k`v?@p-Oj(Ql~E/%-h]rGkLAk?|c/6t:c?oH_QZ&Rq/B/6mlOyJ}'03,r%q/e^e:C5r4xo0L8+xB>$eY36T@Ir8Rz|2(0%Et+7%$%)?B+4mnB*ARr;].9=%oz&TPf+te5kP(C+Su.'K6_X+F(Uiq?g5)d9ZD}^q9u2?9<W;oE*U/m#NnqbYFTypL#lm7HDbs+BBW`6IkVWy%^N@M70..*-*8r]7Y~]OP%fwuaP:N5QdI%5RxQo,C4J/GlIx5k835WZSZPC^C}{HU#@F^3I$;yiwg%,-B7P?C/2Z^JJqM8wHinj2Khn'K5@>mZ3?hrXl)%C(,~PKu)$'`+;/Q$wu(Ef%@Mx,eO.kPV.vhf,ngy.7K_<GAf.5RN5|Lmv5UQK=.7e@ctwY$oMa;:0]^G@_EM'*-'FEhVDu*AS-zQSN.)hZP6?Bl^0'E3T$y&Ej&5PKh5/aa%Q87V#h7OyF.YRQu'3]%L3lqH,Z`6}l:FGR{q101w)K+)'MiEj+$`QFsl1m4p1tkY>XB/';?nH&WWPg)`Ajmg`wR.,7(3>nT9NW;B-Cme^}IB0}QGmhZoz:sW%WEAS8|@l'<%>tcg@QKb8p<aSqHKb)Nf='J.qm}i32|*b5}I;%91&0vgz4GVA?T4q#Tcp=Dp?O|G)ISVD]5f8AbRK_&.r_wfNc@1Pbs7yV/MiYPuwY,YOa)qQR%DaxkH5{-|BM~(2pXP/h3m=Qjh'1Mxd*A8AHE8=EPvVQg(:cCWrstq+xP.N'I5Y}:UAuOm#O5%2ld|)D.#WJUrf{>U#>O#wu|6Rm<DH-KD:W(h.pq$IG)^Dp/AjI`s<jKU_>vR^tK<OpbB(h8oV=;rpNBGwB`bB4|%1G&'-FCvd,k-oB:4D619E%/#`z2Y0)|35eIT55nxn4V59j8hKywCG7j`==k+k-R5gyAx2WG/8`k*FK9hy}kuXSH8hm3CSZGX#L~w;xHr`U$`d@4b*uf5:rx-]/hlw4;7-a9>$FNbO|tJeJxQ)#8L?BFZ1.^H?<f;'sQ`iS91K?W~Z-uu;o#mt{r/0j<itZK1gw>rKpD^:F6sU_Qk0*j'P0t>).q1Q47rOs3Xe*;Gm=9}=u?d+k*8AB>6I?Ax,z`W>K~C3gpTUn>fqC'97euTOl-Jv$r<4|.NK=|`'LEFF&^01x?>|n6wDc>}1YpG9w`6LRv;}sFCnOc#@IHVJW4s2*Md-I#bUUKTt_09OFJ#>'#4S4$(I1#9_MOM/}WY>YD15S*s*X#/?;=a*8}G8sIrj37jfp`&qyzu;cwkC1#wFG&N;nw9z1=}#"
end
open PySem PySem.W PyProof.Rows
set_option maxRecDepth 100000 in
set_option maxHeartbeats 0 in
theorem PySem.Challenge.cw_roomalgebra_k52_by_last_signs_holds : PySem.Challenge.rw_roomalgebra_k52_by_last_signs.Holds := by
 w_on;o_law;z_head;(case hw=>w_witness2)
 k_fill
 intro w sa sb mg mb G ye fa ob pm cd dc dv kv e1 e2 e3 e4 e5 e6 gs vs bs La c1 c2 c3 c4 c5
 z_open ye La KX ZH ZN ZT
 clear ye La ZH ZN ZT
 refine L2.Ix (k:=12) (x:="_law_script") (l:=PySem.Challenge.rw_roomalgebra_k52_by_last_signs) (tabs:=[(217,213),(256,252),(261,259),(344,342)]) rfl rfl ⟨rfl,by decide,by decide⟩ ?T ?F w sa sb mg mb G KX fa ob pm cd dc dv kv e1 e2 e3 e4 e5 e6 gs vs bs c1 c2 c3 c4 c5
 case T=>
  intro p q hq
  simp only [mem_cons,not_mem_nil,or_false] at hq
  rcases hq with rfl|rfl|rfl|rfl
  all_goals exact ⟨by kernel_rfl,by kernel_rfl⟩
 case F=>
  intro w mg fa h KX G hmg
  refine' K52.JB rfl ?hPP KX G hmg ?nW ?hI0 ?cls ?mk ?na1 ?na2 ?na3 ?na4 ?na5 ?lI ?cI ?aV ?lV ?cV ?lD ?aM ?lM ?cM ?aT ?lT ?cT_ ?lR ?aU ?lU ?cU ?aZ ?lZ ?cZ ?aF ?lF ?y1 ?y3 ?y4 ?y5 ?y6 ?y7 ?l0 ?l1 ?l2 ?l3 ?l4 ?l5 ?l6 ?l7 ?l8 ?l9 ?l10 ?l11 ?l12 ?l13 ?l14 ?l15 ?l16 ?l17 ?l18 ?l19 ?l20 ?l21 ?l22 ?l23 ?l24 ?l25 ?l26 ?l27 ?l28 ?l29 ?l30 ?l31 ?l32 ?l33 ?l34 ?l35 ?l36 ?l37 ?l38 ?l39 ?l40 ?l41 ?l42 ?l43 ?l44 ?l45 ?l46 ?l47 ?l48 ?l49 ?a50 ?l50 ?c50 ?z_len ?z_range ?z_isinst ?z_int ?z_bool ?z_tuple ?z_list ?z_str ?z_zip ?z_max ?z_enumerate ?z_all ?z_reversed ?z_sorted
  (case hPP=>simp [K52.uI])
  (case nW|aV|aM|aT|aU|aZ|aF|y1|y3|y4|y5|y6|y7|a50|z_len|z_range|z_isinst|z_int|z_bool|z_tuple|z_list|z_str|z_zip|z_max|z_enumerate|z_all|z_reversed|z_sorted=>exact L2.Np (by k_is) (by decide))
  (case hI0=>k_is)
  (case cls|mk=>exact ⟨by kernel_rfl,by kernel_rfl,by kernel_rfl,by kernel_rfl⟩)
  (case na1|na2|na3|na4|na5=>unfold L2.vJ;kernel_rfl)
  (case lI|lV|lD|lM|lT|lR|lU|lZ|l50=>exact L2.LM (by k_is) (by decide))
  (case cI|cV|cM|cT_|cU|cZ|c50=>exact L2.LO (by k_is) (by decide))
  (case lF=>exact L2.Ji (L2.LM (by k_is) (by decide)) (L2.LO (by k_is) (by decide)))
  (case l0|l1|l2|l3|l4|l5|l6|l7|l8|l9|l10|l11|l12|l13|l14|l15|l16|l17|l18|l19|l20|l21|l22|l23|l24|l25|l26|l27|l28|l29|l30|l31|l32|l33|l34|l35|l36|l37|l38|l39|l40|l41|l42|l43|l44|l45|l46|l47|l48|l49=>exact ⟨_,L2.Np (by k_is) (by decide),L2.Ji (L2.LM (by k_is) (by decide)) (L2.LO (by k_is) (by decide))⟩)
#print axioms PySem.Challenge.cw_roomalgebra_k52_by_last_signs_holds
