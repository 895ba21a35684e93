import PyProof.Rows.All
import Wide.All
import OpenK.AllK
import Wide.FinOn
import Lean
import PyProof.EqAt
import PyProof.EqKinds
import PyProof.TupleCall
import PyProof.Draws
import PyProof.ZipIter
import PySem.Challenge.RW_roomalgebra_k73_whole_laws_of_patterns
set_option Elab.async false
set_option linter.all false
set_option maxRecDepth 100000
set_option compiler.extract_closed false
namespace zz
open Lean
def N k a:=Syntax.node .none k a
def A:=Syntax.atom .none
def P(p s:String):=s!"Lean.Parser.{p}.{s}".toName
def T:=P "Term"
def C:=P "Command"
def Q:=P "Tactic"
def L:=N `null
def U f a:=N (T "app") #[f,L a]
def S t:=N (Q "tacticSeq") #[N (Q "tacticSeq1Indented") #[L t]]
def J k a:=N (Q k) (#[A k]++a)
def F(a:Array (Array Syntax)):=J "first" #[L (a.map λy=>N `group #[A "|",S y])]
def B(n:Nat):=
 let i:=J "intro" #[L #[N (T "hole") #[A "_"]]];let V:=N (Q "optConfig") #[L #[]];let r:=N (Q "tacticRfl") #[A "rfl"];let z:=mkIdent `z;let l:Array Name:=#[``Or.inl,``Or.inr]
 match n with
 |0=>#[J "decide" #[V]]
 |1=>#[J "simp" #[V,L #[],L #[],L #[],L #[]]]
 |2=>#[J "omega" #[V]]
 |3=>#[J "decide" #[N (Q "optConfig") #[L #[N (Q "configItem") #[N (Q "posConfigItem") #[A "+",mkIdent `kernel]]]]]]
 |4=>#[r]
 |5=>#[J "intro" #[L #[z]],A ";",J "cases" #[L #[N (Q "elimTarget") #[L #[],z]],L #[],L #[]]]
 |6=>#[J "lia" #[V]]
 |7=>#[i,A ";",F #[#[r],#[i,A ";",r]]]
 |8=>let e:=l.map λx=>U (mkCIdent x) #[mkCIdent ``rfl];#[F (((e++e.map λy=>U (mkCIdent ``Or.inr) #[y]).map λy=>#[J "exact" #[y]]).push #[J "assumption" #[]])]
 |_=>#[N (Q "withUnfoldingAll") #[A "with_unfolding_all",S #[r]]]
def R(n:String)s v m:=N (C "declaration") #[m,N (C "theorem") #[A "theorem",N (C "declId") #[mkIdent n.toName,L #[]],s,v]]
def K(x:List Char):=(List.range (x.length/10)).map λi=>((x.drop (10*i)).take 10).foldr (λx n=>n*90+x.toNat-35-(if x.toNat>92 then 2 else 0)) 0
def G:="length List some none rfl false Value trans true ref heap lookup base Addr toArray get? Option PySem starEach sizeLine prog Nat lt_of_lt_of_le wpAny if_neg model outer le_trans if_pos env le_refl mainGlobals Shared getD absurd Int type mem_cons symm names int upd get?_push_size toks size getElem?_append_right Bool getElem?_append_left pins idxOf mem_cons_of_mem decide_eq_false qual lst idxOf_lt_length_of_mem contains ne_of_lt false_ne_true str Str stack beq_eq_false_iff_ne Program toList scope size_toArray wpAny_mono inl data decide_eq_true map mem_iff_getElem? all_eq_true wpAny_field Heap kvs wpAny_holding inr not_mem_nil length_cons False setIfInBounds cons append_assoc congrArg wpAny_Call_Name_kw mem_append zero_le reverse push ofString pos builtin mg_none_of lt_of_le_of_lt Frag tup mem_range mem_append_right objs Array Stmt getElem_mem map_append elim rawInt Nodup Name World Around get?_update_self range intKind free or_false mem_cons_self take_of_length_le CodeRec cell fields lt_succ_self length_range take backTo fresh name wpAny_ite_false turned lookup_cons eval sites cls then_ sizeLine_eq same le_of_not_lt wpAny_callSpecial?_slot data_mapFields SmallTypes clos of_decide_eq_true mem_of_lookup get?_update_other lookup_relabel_local outside locals le_add_right append_nil intro hok and_eq_true_iff PyProof wpAny_call_entry one kindOf wpAny_newObj_type leaf size_push keeps True mpr toNat sysModules nil getElem?_eq_some_iff beq_iff_eq and_eq_true PassesOwn IsTuple FunFrames Attribute update params mg_of mapFields compareOp wpAny_seqItems getElem_idxOf getElem?_range either codeIn two mem_map hideAll_none length_eq_zero_iff run length_replicate dropLast_concat_getLast len handled never SeqAt wpAny_standAt wpAny_truthy_bool units isFreed_of_fields foldedSetIterable codeAny_mono boot_tuple codeAny_builtin SameBut bool sub_succ_lt_self mono getElem?_eq_none doc IsPair length_toList nsIn le_of_lt kitOne hideAll_get getElem?_zip_eq_some esOf callWith_type1 fnOf drop dict wpAny_setState_of tuple plainAttrs_list zero_add lt_trans keep all NameKind ListComp Call succ_le_succ CodeHd lt_succ_of_lt inj attributeBase getElem?_toArray contains_iff_mem Arguments wpAny_setField wpAny_call tups there length_reverse isList goal findIn Lambda func frames getElem?_toList wpAny_loadPart_at ne_of_gt codeAny forIn_cons find?_cons call any cdv cLine top l_scope hideAll map_cons lt_irrefl iter codeAmong Tuple list length_take DecidableEq wpAny_setField_rec wpAny_pyIter_tuple typeIs sign not_eq_true' mem_filter isinst excBase_ValueError eq_iff_iff deeper wpAny_passesOwn wpAny_ite_split wpAny_execs_nil tabs s₀ mem_append_left function frame dropLast SetTable kind cH_ wpAny_pyIter_list wpAny_pyIter_enum valueAt Scope set Expr wpAny_of_eq place le_of_eq le_antisymm excClassObj empty cons_append codeAny_call_builtin cells binaryOp Paired Obj IsTupleIter sub take_append_drop rest non kla_obj hst slots isSome fnMade bare EqAt under_plainId slot_tuple_iterator_next plainId_quiet mem_singleton error Calls reverse_reverse leaving le_succ isEmpty dropLast_concat Txt of_hideAll followText filter IsList wpAny_getItem_str_slice take_length start pickOrder occurrences forIn_nil eq_of_beq emptyDict kept stay mem_dis line filterMap_cons evalArgs_plain decide_eq_true_eq TypeIs Rows FuncData Pos succ mach tNext sSlot sIx codeAny_call_function builtinLookup_eq_fast wpAny_isInstance wpAny_execs_cons wpAny_askSetting unwish swapsWith stop setFlight seq rows ownedTupleFields mapSeq in1 extBut envOfC called_set TriplesOk wpAny_attempt slot_zip_next slot_list_pop lt_trichotomy IntsAre zero sliceBounds piece out keywordEach drop_eq_getElem_cons bindArgs ZipApart Draws slot_list_index not_lt nest more kIn cps byContradiction both IsCell EqNone zip take_add_one stkFree sp_lotsafter refl over notedBy kia_one bootBuiltins noteFrame ForInStep wpAny_letOwnedTupleGo_enum tok slot_tuple_getitem nodup_cons less laid getElem?_replicate gens drawn calm boot_len bin retr cont wpAny_mkInt slot_dict_getitem plain_extend_loop none_of mem_flatMap length_drop getElem_inj freeC eqIsQuiet_byValue cA_ wpAny_onRaise type_list_pop pyHash nextOf keepIn held hdct has getElem?_take false_eq_true ret fvs cG_ wpAny_pyNext_enum_itemD wpAny_pyIter_zip wpAny_getItem_of slot ownedTupleIsFree obj in1_units if_false decide_eq_decide callWith_builtin bind_eq_some_iff beq_self_eq_true UpToSlots Subscript Prod ins wpAny_pyNext_enum_endD store_object relabel pyNext or_eq_true of_mem_zip looks_findIn item idxOf_cons hsm4 forIn_toList foldl_append eq_false_iff dep_pos assignEach assign IsTupleKey BoolOp wpAny_updateSeq wpAny_specialOf typeLookup_type slice post_val_or_str get?_none_of_le fin IsZip scan plain_set_update_loop get col wpAny_updateSeq_pair wpAny_throw wpAny_newFunctionEnv wpAny_letGo wpAny_ite_true wpAny_alloc tbls sub_self setField reverse_append pyIter newFunctionEnv mod mem_reverse listExtendWith knd isSubtype_type funs frzs firstArgMember compPost compEnvC choose_spec backToKw any_eq_true Slice FunctionDef Constant some_of okA instObj cellsFrom boot_list Keyword EqMixed DictOfH wpAny_isSubtype_exc wish row q_tg kin idxOf_lt_length_iff getElem?_take_of_lt dep Pass toNat_natCast toList_append le_succ_of_le le_of_lt_succ hsz getElem?_drop eval_ListComp contains_cons binds behindInMarks above IsTup ExceptHandler Env σ' wpAny_rule setEntries nil_append length_nil callWith_K Within Assign ps' fnx write wpAny_typeOf unpinned tail_any slice_le sameBut rule reverse_cons nolimit nodup_append le_of_ble_eq_true imp if_true glob getLast getElem?_set_self findIdx? depth codeAny_func callerA bind Looks AllBare plainObj_wpAny_Assign_Attribute wpAny_lookBehind turnedNew tbl tNil sitesH sitesA replicate pastItsLine_dict pairTrees lots lookup_cons_self length_singleton kla_fn getMethod filterMap ext eq_nil_or_concat eqIsQuiet concat_eq_append cTM boot_bool beq_builtin_none add_assoc Tok Return IsPart H₀ Ends Classical ws' under slicePlaces size_update looks_clsIn le_add_left ext_getElem emod_nonneg dvs ctv count after wpAny_looks_onW type_list_index strSliceIndices step q_tl own mem_iff_getElem letOwnedTupleGo ifs idxOf_cons_self getElem?_set_ne elt cpos codeAny_of_tree args_zip_next_1 Perm Code takerIn tAlways sp_hasm setAttr new loc getItem byValue andThen StaysIn OpenLaw NoLimit KeyKind BindsTo yld x_either wpAny_runValue wpAny_newFunctionEnv_cells wpAny_loadPart wpAny_load typeLookup tupleExact takes sum_append sp_needletters setOrder reduceHash range_succ par ofNat_lt listLengthHint length_flatMap isSubtype_stop isInt isInstance intKind_is forIn filter_nil entry_zip_next emod_lt_of_pos cellsFrom_some call_meets callWith args_tuple_iterator_next_1 append Sum String IsListIter DictOf entry_tuple_iterator_next brk wpAny_handled sp_firstrooms self room quiet_builtin q_te methodCall_KW length_append hash getElem?_push frames_deeper fpOk cls_mapFields body AsSuiteRaised yield updateSeq raiseStmt quiet pin items_int items decide_eq_false_iff_not bool_bool bindL bindC b_Outside b_AnySign atKey TracedAtW Sem MadeExcOf IsSliceOf ExactDict DictEntry Decidable wpAny_nsSet1 wpAny_noteFrame_againW wpAny_landsW wpAny_Call_method_late turnedL tupleItemsOf tabObj subscriptTail_builtinR sub_zip stkSub star sp_iswanting sc__law_same natCast_succ mark last int_int getAttr fits ext_getElem? exmOne eqBool env0 endLine countP append_empty apos OwnTail FlyingW Compare its entry_set_update_loop codeAny_handlers_test z_zip z_len z_enumerate wpAny_storeName_cell wpAny_pyIter_revIter val unsupported succ_pos sp_rinto sp_manyM sliceAdjust raiseNew pyHash_slot plainGet_of".splitOn
def H:="β γ δ ε ζ η θ ν ξ ο π ρ ς υ χ ψ ω Δ Θ Λ Ξ Φ Ψ Ω BT Cl Fr IO Id KK LE LT MJ ML MM MN MO MP MQ MR MS MT MV MW MX MY MZ M0 M1 M3 M4 M5 M6 M7 M8 M9 M_ M' NA NB NC ND NE NF NG NH NI NJ NL NM NN NO NP NQ NR NS NT NU NV NW NX NY NZ Na Nb Nc Nd Nf Ng Nh Ni Nj Nk Nl Nm Nn No Np Nq Nr Nt Nu Nv Nw Nx Ny Nz N0 N1 N2 N3 N4 N5 N6 N7 N8 N9 N_ OA OB OC OD OE OF OG OH OI OJ OL OM ON OO OP OQ OR OS OT OU OV OW OX OY OZ Oa Ob Oc Od Oe Of Og Oh Oi Oj Ol Om On Oo Op Oq Os Ot Ou Ov Ow Ox Oy Oz O0 O1 O2 O3 O4 O5 O6 O7 O8 O9 O_ O' PB PD PF PH PJ PL PM PN PP PQ PR PU PV PY PZ Pa Pb Pc Pd Pe Pf Pg Ph Pi Pk Pl Pm Pn Po Pp Pq Pr Ps Pu Pv Pw Px Py Pz P9 P_ P' QA QB QC QD QE QF QG QH QI QJ QK QL QM QN QO QP QS QT QU QV QW QY QZ Qa Qb Qc Qd Qe Qg Qh Qi Qj Qk Ql Qm Qn Qo Qp Qq Qr Qs Qt Qu Qw Qx Qy Qz Q9 Q_ Q' RB RC RD RE RF RG RH RI RJ RL RM RN RO RP RQ RR RS RT RU RW RX RY RZ Ra Rb Rc Re Rg Rh Ri Rj Rk Rl Rm Rn Ro Rp Rq Rr Rt Ru Rv Rw Rx Ry Rz R0 R5 R6 R7 R8 R9 R_ SA SB SD SE SF SG SH SI SJ SK SL SM SN SO SQ SR SS ST SU SV SW SX SY SZ Sa Sb Sc Se Sf Sg Sh Si Sj Sk Sl Sn So Sq Sr Ss Su Sv Sw Sx Sy Sz S0 S3 S4 S5 S6 S7 S8 S9 S_ S' TB TC TD TF TH TJ TL TQ TR TU TV TW TX TY TZ Ta Tb Tc Td Te Tf Tg Th Ti Tj Tm Tn To Tp Tq Tr Ts Tt Tv Tw Tx Ty Tz T0 T6 T7 T8 T9 T_ UA UB UC UD UE UF UG UH UI UJ UK UL UM UN UO UP UQ UR US UT UU UV UW UX UY UZ Ua Ub Uc Ud Ue Uf Ug Uh Ui Uj Uk Ul Um Uo Up Uq Ur Us Ut Uu Uv Uw Ux Uy Uz U0 U1 U3 U4 U5 U6 U7 U8 U9 U_ U' VA VB VC VD VE VF VG VH VI VJ VL VM VN VO VP VQ VR VS VT VU VV VW VX VY VZ Va Vb Vc Vd Ve Vf Vg Vh Vi Vj Vk Vl Vm Vn Vo Vp Vq Vr Vs Vt Vu Vv Vw Vx Vy Vz V0 V3 V4 V5 V6 V7 V8 V9 V_ V' WA WB WC WD WE WF WG WH WJ WL WM WO WP WQ WR WS WU WV WW WX WY WZ Wa Wb Wc We Wf Wg Wh Wi Wj Wk Wl Wm Wn Wo Wp Wq Wr Ws Wu Wv Ww Wx Wy Wz W3 W4 W5 W6 W7 W8 W9 W_ XA XB XC XD XE XF XG XH XI XJ XL XM XN XO XQ XR XS XT XU XV XW XX XY XZ Xa Xb Xc Xd Xe Xf Xg Xh Xi Xj Xk Xl Xm Xn Xo Xp Xq Xr Xs Xt Xu Xv Xw Xx Xy Xz X0 X1 X2 X3 X4 X5 X6 X7 X8 X9 X_ YA YB YC YD YE YF YG YH YI YJ YK YL YM YN YO YQ YR YS YT YU YV YW YX YY YZ Ya Yb Yc Yd Ye Yf Yg Yh Yi Yj Yk Yl Ym Yn Yo Yp Yq Yr Ys Yt Yu Yv Yw Yx Yy Yz Y0 Y1 Y2 Y3 Y4 Y5 Y6 Y7 Y8 Y9 Y_ Y' ZA ZB ZC ZD ZE ZF ZG ZI ZJ ZK ZL ZM ZO ZQ ZR ZS ZU ZV ZW ZX ZY ZZ Za Zb Zc Zd Ze Zf Zg Zh Zi Zj Zk Zl Zm Zn Zo Zp Zq Zr Zs Zt Zu Zv Zw Zx Zy Zz Z3 Z5 Z6 Z7 Z8 Z9 Z_ Z'".splitOn
def M:Name->Name|.str p s=>.str (M p) (match H.idxOf? s with|some i=>G[i]!|_=>s)|n=>n
def W(s:Syntax):=s.rewriteBottomUp λx=>match x with|.atom _ v=>.atom .none v|.ident _ _ v p=>let v:=M v;.ident .none (toString v).toRawSubstring v p|x=>x
def D(s:Syntax):MacroM Syntax:=do
 let d:=s[1];let k:=d.getKind;let m:=s[0]
 if k==C "example" then if let some x:=d[2][1].isStrLit? then return L ((K x.toList).toArray.map λn=>R ("PySem.W.Fast.tw"++toString n) (N (C "declSig") #[L #[],N (T "typeSpec") #[A ":",mkCIdent ``True]]) (N (C "declValSimple") #[A ":=",mkCIdent ``trivial,N `Lean.Parser.Termination.suffix #[L #[],L #[]],L #[]]) m)
 let i:=if k==C "instance" then d[3][0] else d[1]
 unless (i.getHeadInfo matches .original ..)&&m.getArgs.all (·.getNumArgs==0) do Macro.throwUnsupported
 let f:=λm k x a=>return W (N s.getKind #[m,N (C k) (#[A x,i]++a)])
 if k==C "definition" then f m "theorem" "theorem" #[N (C "declSig") #[d[2][0],d[2][1][0]],d[3]]
 else if k==C "abbrev" then f (m.setArg 4 (L #[N (C "noncomputable") #[A "noncomputable"]])) "definition" "def" #[d[2],d[3],L #[]]
 else if k==C "instance" then f m "abbrev" "abbrev" #[N (C "optDeclSig") #[d[4][0],L #[d[4][1]]],d[5]]
 else Macro.throwUnsupported
def O(s:Syntax):=
 let p:=s[2][0]
 if p.getKind==T "letPatDecl" then
  let q:=p[0].rewriteBottomUp λs=>match s with
   |.ident ..=>N (Q "rcasesPat.one") #[s]
   |.node _ k a=>if k==T "hole" then N (Q "rcasesPat.ignore") a else if k==T "anonymousCtor" then N (Q "rcasesPat.tuple") #[a[0]!,L (a[1]!.getArgs.map λe=>if e.isAtom then e else N (Q "rcasesPatLo") #[N (Q "rcasesPatMed") #[L #[e]],L #[]]),a[2]!] else s
   |_=>s
  N (Q "obtain") #[A "obtain",L #[N (Q "rcasesPatMed") #[L #[q]]],L #[],L #[A ":=",L #[p[4]]]]
 else N (Q "tacticHave__") #[A "have",s[1],s[2]]
def E(s:Syntax):MacroM Syntax:=do
 let b:=s[1][2].getArgs
 if b.size%2==0 then Macro.throwUnsupported
 return N (T "anonymousCtor") #[A "⟨",L ((#[s[1][0]]++b).flatMap λe=>if e.isAtom then #[] else (match e.isNatLit? with|some n=>(#["hr","r","hrrhr","q","hhr","rr","hrhr","hh","hhrr","rrr3rr033","hrhhhr"][n]?.map λ(s:String)=>s.toList.toArray.map λc=>if c=='h' then N (T "hole") #[A "_"] else if c=='r' then mkCIdent ``rfl else if c=='q' then N (T "syntheticHole") #[A "?",A "_"] else N `term!_ #[A "!",N `num #[A c.toString]]).getD #[e]|_=>#[e]).flatMap λe=>#[e,A ","]),A "⟩"]
end zz
def zz.a0:=zz.S (zz.B 0)
def zz.a3:=zz.S (zz.B 3)
def zz.a4:=zz.S (zz.B 4)
def zz.a7:=zz.S (zz.B 7)
def zz.a8:=zz.S (zz.B 8)
def zz.a9:=zz.S (zz.B 9)
noncomputable section
local macro_rules(kind:=Lean.Parser.Term.tuple)|s=>zz.E s
local macro_rules(kind:=Lean.Parser.Tactic.tacticLet__)|s=>return zz.O s
local macro_rules(kind:=Lean.Parser.Tactic.show)|s=>return zz.N (zz.Q "exact") #[zz.A "exact",s[1]]
local macro_rules(kind:=«term_<*_»)|s=>return zz.N `«term_=_» #[s[0],zz.A "=",zz.U (Lean.mkCIdent ``some) #[s[2]]]
local macro_rules(kind:=«term_⁻¹»)|s=>return zz.N (zz.T "proj") #[s[0],zz.A ".",Lean.mkIdent `heap.objs.size]
local macro_rules(kind:=«term_>>>_»)|s=>match s[2].isNatLit? with|some n=>return zz.U (Lean.mkCIdent ``autoParam) #[s[0],Lean.mkCIdent (`zz++.mkSimple s!"a{n}")]|_=>Lean.Macro.throwUnsupported
local macro_rules(kind:=term!_)|s=>match s[1].isNatLit? with|some n=>return zz.N (zz.T "byTactic") #[zz.A "by",zz.S (zz.B n)]|_=>Lean.Macro.throwUnsupported
local macro_rules(kind:=Lean.Parser.Command.declaration)|s=>zz.D s
@[reducible]def LN:=List Nat
@[reducible]def LL:=List LN
open PySem.W (Frag fnOf nsIn mg_of codeIn kitOne mg_none_of CodeHd fnMade hideAll keepIn kla_obj hideAll_none hideAll_get Looks kia_one kla_fn exmOne emptyDict isFn instObj of_hideAll envX tabObj takerIn callWith_K makesIn plainGet any_some looks_clsIn set_plain methodObj)
open List (getElem?_eq_getElem length_map mem_cons getElem?_map getD_eq_getElem?_getD length_append mem_singleton mem_of_getElem? mem_range mem_append all_eq_true not_mem_nil size_toArray mem_cons_of_mem length_cons map_append mem_map getElem_mem append_assoc getElem?_append_left append_nil mem_iff_getElem? lookup_cons getElem?_append_right length_range mem_cons_self idxOf_lt_length_of_mem mem_append_right map_cons take_of_length_le getElem_idxOf forIn_cons find?_cons getElem?_range mem_filter forIn_nil length_take length_replicate cons_append length_reverse take_length getElem?_eq_none length_eq_zero_iff nodup_cons getElem?_toArray contains_iff_mem of_mem_zip mem_append_left idxOf_cons mem_flatMap length_drop getElem_inj take_add_one replicate filterMap_cons Perm reverse_reverse nil_append length_nil getElem?_zip_eq_some dropLast_concat take_append_drop mem_reverse any_eq_true)
open Nat (le_refl le_trans ne_of_lt zero_le lt_of_lt_of_le lt_of_le_of_lt lt_succ_self lt_trans le_of_not_lt le_of_lt le_add_right ne_of_gt le_succ not_lt lt_irrefl le_of_eq succ_le_succ lt_succ_of_lt le_antisymm sub_succ_lt_self sub_self)
open PySem.Heap (lt_size get?_push_of_some get?_push_size SameBut size_push get?_update_self get?_update_other FlyingW DictOfH)
open PyProof.Rows (boot_tuple boot_list boot_bool boot_zip boot_str boot_int)
open Option (map_eq_some_iff)
open Bool (and_eq_true and_eq_true_iff not_eq_true' or_eq_true)
open PySem.Obj (mapFields mapSeq data_mapFields isFreed_of_fields)
open PySem.F (plainAttrs_list called_set excBase_ValueError store_object type_list_pop slot_list_pop)
open Array (length_toList getElem?_toList forIn_toList)
open PySem (boot_len)
open PySem.Str (length)
def q5{b:Type _}{l:γ b}{i:Φ}{a:b}(h:l[i]?<*a):∃h:i<l.β,l[i]=a:=γ.Ox.mp h
def n_{a:Type _}{l:γ a}{i:Φ}(h:i<l.β):l[i]?<*l[i]:=γ.getElem?_eq_getElem h
def u6{b:Type _}{l:γ b}{i:Φ}{a:b}:l.ML i a=l[i]?.ML a:=γ.getD_eq_getElem?_getD
def ol{a:Type _}{b:Type _}{l:γ a}(f:a->b):(l.NN f).β=l.β:=γ.length_map f
def w_{a:Type _}{l m:γ a}:(l++m).β=l.β+m.β:=γ.Ys
def tS{a:Type _}{b:Type _}{f:a->b}{l:γ a}{i:Φ}:(l.NN f)[i]?=ω.NN f l[i]?:=γ.getElem?_map
@[reducible]def d_:=@PySem.wpAny_bind
@[reducible]def j':=@PySem.wpAny_pure
@[reducible]def sy:=@PySem.Heap.get?_push_of_some
def Ay{c:Type _}{a b:c}:a∈[b]->a=b:=γ.R_.mp
def AC{b:Type _}{l:γ b}{i:Φ}{a:b}(h:l[i]?<*a):a∈l:=γ.mem_of_getElem? h
def BG{d:Type _}{c:Type _}{f:d->c}{x:ω d}{b:c}(h:ω.NN f x<*b):∃a,x=δ a/\f a=b:=ω.map_eq_some_iff.mp h
open PySem
namespace L2
open PySem.Spec PyProof.Rows
@[reducible]def Bu:=Sum Int Str
abbrev eY:Bu->θ->MZ
 |.NJ k,v=>θ.YT k v
 |.NU x,v=>θ.isStrOf x v
abbrev JD(w:N1):Bu->MN
 |.NJ k=>hashInt k
 |.NU x=>hashStr w x
def so:∀{k:Bu}{v:θ},eY k v=ξ->(∃i t,k=Yf.NJ i/\v=θ.MS i t)\/(∃x t,k=Yf.NU x/\v=θ.NA x t)
 |.NJ i,v,h=>by
  let⟨t,e⟩:=θ.isInt_shape (k:=i) (v:=v) h;show .NJ (i,t,1,e)
 |.NU x,v,h=>by
  let⟨t,e⟩:=θ.isStrOf_shape (x:=x) (v:=v) h;show .NU (x,t,1,e)
def pB(i:MN)(t:XM):eY (.NJ i) (.MS i t)=ξ:=by simp[eY,θ.YT]
def pA(x:NB)(t:XM):eY (.NU x) (.NA x t)=ξ:=by simp[eY,θ.isStrOf]
def xv(a b:MN):decide ((Yf.NJ a:Bu)=Yf.NJ b)=(a==b):=by
 by_cases e:a=b
 .subst e;simp
 .let h:¬ (Yf.NJ a:Bu)=Yf.NJ b:=λq=>e (Yf.NJ.QK q);rw[M5 h];show(ND.Ot e).MQ
def xr(a b:NB):decide ((Yf.NU a:Bu)=Yf.NU b)=decide (a=b):=by
 by_cases e:a=b
 .subst e;simp
 .let h:¬ (Yf.NU a:Bu)=Yf.NU b:=λq=>e (Yf.NU.QK q);rw[M5 h,M5 e]
def xu(a:MN)(b:NB):decide ((Yf.NJ a:Bu)=Yf.NU b)=η:=M5 (λq=>nomatch q)
def xt(a:NB)(b:MN):decide ((Yf.NU a:Bu)=Yf.NJ b)=η:=M5 (λq=>nomatch q)
abbrev EI(Ξ:NE)(w:N1):Δ.X8 Ξ w Bu where
 is:=eY
 Yt:=JD w
 QK:=λv a b ha hb=>by
  rcases so ha with⟨i,t,ζ,ζ⟩|⟨x,t,ζ,ζ⟩
  .rcases so hb with⟨j,u,ζ,e⟩|⟨y,u,ζ,e⟩
   .injection e with e1 _;rw[e1]
   .exact nomatch e
  .rcases so hb with⟨j,u,ζ,e⟩|⟨y,u,ζ,e⟩
   .exact nomatch e
   .injection e with e1 _;rw[e1]
 X3:=λk v h=>by
  rcases so h with⟨i,t,ζ,ζ⟩|⟨x,t,ζ,ζ⟩<;>rfl
 UP:=λhv h=>by
  rcases so hv with⟨i,t,ζ,ζ⟩|⟨x,t,ζ,ζ⟩
  .exact wpAny_pyHash_int h
  .exact wpAny_pyHash_str h
 Zi:=λhu hv h=>by
  rcases so hu with⟨i,t,ζ,ζ⟩|⟨x,t,ζ,ζ⟩
  .rcases so hv with⟨j,u,ζ,ζ⟩|⟨y,u,ζ,ζ⟩
   .rw [xv]at h;show wpAny_eqBool_int h
   .rw [xu]at h;show PV.R6.int_str i t y u _ _ _ _ h
  .rcases so hv with⟨j,u,ζ,ζ⟩|⟨y,u,ζ,ζ⟩
   .rw [xt]at h;show PV.R6.str_int x t j u _ _ _ _ h
   .rw [xr]at h;show wpAny_eqBool_str h
 «strs»:=λk x t v h=>by
  rcases so h with⟨i,u,ζ,e⟩|⟨y,u,ζ,e⟩
  .exact nomatch e
  .injection e with e1 _
   subst e1
   cases v<;>rfl
def CN(Ξ:NE)(w:N1)(i:MN)(t:XM):(EI Ξ w).is (.NJ i) (.MS i t)=ξ:=pB i t
def Lb(Ξ:NE)(w:N1)(x:NB)(t:XM):(EI Ξ w).is (.NU x) (.NA x t)=ξ:=pA x t
inductive V where
 |non|bl (b:Bool)|int (i:Int)|str (x:Str)|byt (b:Array UInt8)|flt (b:UInt64)|ref (a:Addr)|ty (n:String)
 deriving DecidableEq
abbrev ae:V->θ->Prop
 |.Rv,u=>u=θ.ε
 |.bl b,u=>u=θ.Ph b
 |.MS i,u=>∃t,u=θ.MS i t
 |.NA x,u=>∃t,u=θ.NA x t
 |.byt b,u=>∃t,u=θ.bytes b t
 |.flt b,u=>∃t,u=θ.float b t
 |.ο a,u=>u=θ.ο a
 |.ty n,u=>u=θ.MO n
instance ad:γ V->γ θ->Prop:=Ro ae
def ad.β(r:ad xs us):xs.β=us.β:=Ro.β r
def ad.VI:∀{xs:γ V}{us:γ θ}{i:Φ}{x:V},ad xs us->xs[i]?<*x->∃u,us[i]?=δ u/\ae x u
 |_,_,_,_,.Ow,e=>by simp at e
 |_,_,0,_,.NZ r _,e=>by simp at e;subst e;show(0,r)
 |_,_,i+1,x,.NZ _ t,e=>by
  let⟨u,h1,h2⟩:=ad.VI (i:=i) (x:=x) t (by simpa using e);show(u,by simpa using h1,h2)
def ad.Ye:∀{xs ys:γ V}{us ws:γ θ},ad xs us->ad ys ws->ad (xs++ys) (us++ws)
 |_,_,_,_,.Ow,s=>s
 |_,_,_,_,.NZ r t,s=>.NZ r (ad.Ye t s)
def ad.OE:∀{xs:γ V}{us:γ θ}(n:Φ),ad xs us->ad (xs.OE n) (us.OE n)
 |_,_,0,_=>.Ow
 |_,_,_+1,.Ow=>.Ow
 |_,_,n+1,.NZ r t=>.NZ r (ad.OE n t)
def ad.Py:∀{xs:γ V}{us:γ θ}(n:Φ),ad xs us->ad (xs.Py n) (us.Py n)
 |_,_,0,r=>r
 |_,_,_+1,.Ow=>.Ow
 |_,_,n+1,.NZ _ t=>ad.Py n t
abbrev au:ω V->ω θ->Prop
 |δ v,δ u=>ae v u
 |ε,ε=>Os
 |_,_=>NX
abbrev KV{κ:Type}:γ (κ×V)->γ (κ×θ)->Prop:=Ro λ(p:κ×V)(q:κ×θ)=>p.1=q.1/\ae p.2 q.2
abbrev kV:Bu->V
 |.NJ i=>.MS i
 |.NU x=>.NA x
inductive HO where
  |lst (xs:List V)
  |tup (xs:List V)
  |dK (kvs:List (Bu×V))|dT (kvs:List (List Bu×V))
  |set (S:Int->Bool) (n:Nat)
  |ins (C dx:Addr) (fs:List (Str×V))
  |own (x:Addr)
  |xd (fs:List (Str×V))
  |met (f x:Addr)
  |rng (lo hi:Int)
  |frz (o:Obj) (u:HO)
  |tbl (ps:Array Value)
  |ext (φ:Heap->Prop)
@[reducible]def Hp:=Addr->Option HO
abbrev MT(H:Hp)(a:υ)(o:HO):Hp:=λb=>if b=a then δ o else H b
def j_:MT H a o a<*o:=by unfold MT;rw[Id ζ]
def a_(h:b≠a):MT H a o b=H b:=by unfold MT;rw[BT h]
def HI:MT (MT H a o) a u=MT H a u:=by
 funext b;unfold MT;split<;>rfl
def qN{H:Hp}(h:H a<*o)(h':H b<*u)(d:o≠u):a≠b:=by
 intro e;subst e;rw[h]at h';show d (ω.δ.QK h')
def e_{H:Hp}(h:H a<*o)(h':H b=ε):a≠b:=by
 intro e;subst e;rw[h]at h';cases h'
section
variable(P:Program)(w:World)
abbrev Az(H:Hp)(h:NR)(a:υ):HO->Prop
 |.M7 xs=>xs.β≤Λ/\∃(Zr:γ θ)(n:Φ),ad xs Zr/\h.ψ a<*{OO:=.MO "list",NL:=.Sz Zr.χ n}
 |.No xs=>xs.β≤Λ/\∃Zr:γ θ,ad xs Zr/\WF h a Zr.χ
 |.dK NS=>NS.β≤Λ/\(a==Ov)=η/\∃vs,KV NS vs/\h.Yi (EI P w) a vs
 |.dT NS=>NS.β≤Λ/\(a==Ov)=η/\∃xs:γ (γ Bu×υ×θ),
   Ro (λ(p:γ Bu×V)(q:γ Bu×υ×θ)=>p.1=q.1/\H q.2.1=δ (.No (p.1.NN kV))/\ae p.2 q.2.2) NS xs/\
   ∃o es ep,h.ψ a=δ o/\o.ZG/\o.NL=.Pz es ep/\es.NF=xs.NN (entryOfKey (tupleKind (EI P w)))/\(xs.NN (·.1)).Nz
 |.Ra S n=>h.SetOf (N5 P w) a S n
 |.Uq C dx fs=>H dx=δ (.Xk a)/\fs.β≤1000/\dx≠a/\h.ψ a=δ (Vp C dx)/\
   ∃mA,h.Ns1 dx mA/\(∀f,au (fs.ρ f) (mA f))/\Δ.WR mA (fs.NN (·.1))
 |.Xk _=>∃o,h.ψ a<*o
 |.xd fs=>∃mA,h.Ns1 a mA/\∀f,au (fs.ρ f) (mA f)
 |.rng lo hi=>∃t u v,h.ψ a<*{OO:=.MO "range",NL:=.OB #[.MS lo t,.MS hi u,.MS 1 v]}
 |.frz o u=>h.ψ a=δ o/\Az H h a u
 |.Wy ps=>h.ψ a<*{OO:=.ε,NL:=.OB ps}
 |.met f x=>h.ψ a<*methodObj (.ο f) (.ο x)
 |.ext φ=>φ h/\(∃o,h.ψ a<*o)/\∀h1 h2:NR,φ h1->(∀o,h1.ψ a<*o->h2.ψ a<*o)->φ h2
abbrev Au(H:Hp)(h:NR):Prop:=∀a o,H a<*o->Az P w H h a o
end
section
variable{P:Program}{w:World}{H H':Hp}{h h':Heap}{a:Addr}{o:HO}
def Az.lt(x:Az P w H h a o):a<h.Nr.MX:=by
 cases o with
 |M7 xs=>let⟨_,_,_,_,e⟩:=x;show lt_size e
 |No xs=>let⟨_,_,_,p⟩:=x;show p.lt
 |dK NS=>let⟨_,_,_,_,o,_,_,e,_⟩:=x;show lt_size e
 |dT NS=>let⟨_,_,_,_,o,_,_,e,_⟩:=x;show lt_size e
 |Ra S n=>let⟨o,_,_,_,e,_⟩:=x;show lt_size e
 |Uq C dx fs=>let⟨_,_,_,e,_⟩:=x;show lt_size e
 |Xk y=>let⟨_,e⟩:=x;show lt_size e
 |xd fs=>let⟨_,⟨_,_,_,e,_⟩,_⟩:=x;show lt_size e
 |rng lo c=>let⟨_,_,_,e⟩:=x;show lt_size e
 |frz b u=>let⟨e,_⟩:=x;show lt_size e
 |Wy ps=>show lt_size (show h.ψ a<*_ from x)
 |met f y=>show lt_size (show h.ψ a<*_ from x)
 |ext φ=>let⟨_,⟨_,e⟩,_⟩:=x;show lt_size e
def Ro.mapP{g e:Type}{F G:g->e->Prop}:∀{d:γ g}{c:γ e},Ro F d c->(∀a b,F a b->G a b)->Ro G d c
 |_,_,.Ow,_=>.Ow
 |_,_,.NZ r t,f=>.NZ (f _ _ r) (Ro.mapP t f)
def Az.SX(x:Az P w H h a o)(k:∀b u,(b=a\/H b<*.Xk a)->h.ψ b<*u->h'.ψ b<*u)(E:∀b,H b<*.Xk a->H' b<*.Xk a)(D:∀b xs,H b<*.No xs->H' b<*.No xs):Az P w H' h' a o:=by
 induction o with
 |M7 xs=>let⟨z,l,n,r,e⟩:=x;show(z,l,n,r,k _ _ (.NJ ζ) e)
 |No xs=>let⟨z,l,r,g,e,c⟩:=x;show(z,l,r,g,k _ _ (.NJ ζ) e,c)
 |dK NS=>let⟨z,y,vs,r,g,i,j,e,c⟩:=x;show(z,y,vs,r,g,i,j,k _ _ (.NJ ζ) e,c)
 |dT NS=>
  let⟨z,y,xs,r,g,i,j,e,c⟩:=x;show(z,y,xs,Ro.mapP r λp q z=>(z.1,D _ _ z.2.1,z.2.2),g,i,j,k _ _ (.NJ ζ) e,c)
 |Ra S n=>let⟨g,i,j,t,e,c⟩:=x;show(g,i,j,t,k _ _ (.NJ ζ) e,c)
 |Uq C dx fs=>
  let⟨d,z,A,e,s,⟨m,i,j,F,c⟩,r⟩:=x;show(E _ d,z,A,k _ _ (.NJ ζ) e,s,(m,i,j,k _ _ (.NU d) F,c),r)
 |Xk y=>let⟨g,e⟩:=x;show(g,k _ _ (.NJ ζ) e)
 |xd fs=>let⟨s,⟨m,i,j,e,c⟩,r⟩:=x;show(s,(m,i,j,k _ _ (.NJ ζ) e,c),r)
 |rng lo I=>let⟨t,u,v,e⟩:=x;show(t,u,v,k _ _ (.NJ ζ) e)
 |frz g u B=>let⟨e,q⟩:=x;show(k _ _ (.NJ ζ) e,B q)
 |Wy ps=>
  let e:h.ψ a<*{OO:=.ε,NL:=.OB ps}:=x;change h'.ψ a<*{OO:=.ε,NL:=.OB ps};show k a _ (.NJ ζ) e
 |met f y=>
  let e:h.ψ a<*methodObj (.ο f) (.ο y):=x;change h'.ψ a<*methodObj (.ο f) (.ο y);show k a _ (.NJ ζ) e
 |ext φ=>let⟨p,⟨o,e⟩,st⟩:=x;show(st _ _ p λo q=>k _ _ (.NJ ζ) q,(o,k _ _ (.NJ ζ) e),st)
def Au.lt(x:Au P w H h)(e:H a<*o):a<h.Nr.MX:=(x a o e).lt
def Au.OG(x:Au P w H h)(e:h.Nr.MX≤a):H a=ε:=by
 cases q:H a with
 |ε=>rfl
 |δ u=>show MM (Ψ (x.lt q) e) (Qs _)
def Au.SW(x:Au P w H h)(k:∀b u,h.ψ b<*u->h'.ψ b<*u):Au P w H h':=λa o e=>
 (x a o e).SX (λb u _ q=>k b u q) (λ_ q=>q) λ_ _ q=>q
def Au.T0(x:Au P w H h)(k:∀b u,h.ψ b<*u->h'.ψ b<*u)(hp:h.Nr.MX≤a)(d:Az P w (MT H a o) h' a o):Au P w (MT H a o) h':=λb u e=>by
 let f:=x.OG hp;by_cases g:b=a
 .subst g;rw[j_]at e;cases e;show d
 .rw [a_ g]at e;show(x b u e).SX (λc v _ q=>k c v q) (λc q=>by rw[a_ (e_ q f)];show q) λc xs q=>by rw[a_ (e_ q f)];show q
end
abbrev Rd(H:Hp)(a:υ)(u:HO):Prop:=H a<*u\/∃o,H a<*.frz o u
def Rd.ok(r:Rd H a u)(x:Au P w H h):Az P w H h a u:=by
 rcases r with r|⟨o,r⟩
 .exact x a u r
 .obtain ⟨_,q⟩:=x a _ r;show q
abbrev HJ:ω HO->Prop
 |δ (.M7 _)=>Os
 |δ (.dK _)=>Os
 |δ (.dT _)=>Os
 |δ (.Ra _ _)=>Os
 |δ (.Uq _ _ _)=>Os
 |δ (.ext _)=>Os
 |_=>NX
section
variable{P:Program}{w:World}{H:Hp}{h h':Heap}{x e:Addr}{o':HO}
def Au.WW(ok:Au P w H h)(mu:HJ (H x))(n:e=x\/H e<*.Xk x)(k:∀b u,b≠e->h.ψ b<*u->h'.ψ b<*u)(l:∃u,h'.ψ e<*u)(j:Az P w (MT H x o') h' x o'):Au P w (MT H x o') h':=λb u q=>by
 let d:∀c y,H c<*.Xk y->c≠x:=λc y r z=>by subst z;rw[r]at mu;show mu
 let f:∀c xs,H c<*.No xs->c≠x:=λc xs r z=>by subst z;rw[r]at mu;show mu
 by_cases i:b=x
 .subst i;rw[j_]at q;cases q;show j
 .rw [a_ i]at q;by_cases a:b=e
  .let m:H b<*.Xk x:=by
    rcases n with z|z
    .exact MM (a.ν z) i
    .rw [a];show z
   rw[q]at m;cases m;let⟨v,o⟩:=l;show(v,by rw[a];show o)
  .refine (ok b u q).SX (λc v g r=>k c v ?_ r) (λc r=>by rw[a_ (d c b r)];show r) λc xs r=>by rw[a_ (f c xs r)];show r
   rcases g with ζ|g
   .exact a
   .rintro ζ;rcases n with z|z
    .exact d c b g z
    .rw [g]at z;cases z;show i ζ
end
structure Un(fs ex:List Addr)(H H':Hp)(h h':Heap):Prop where
 keep:∀b o,h.get? b<*o->H b=none->b∉fs->b∉ex->h'.get? b<*o
 slot:∀b o,h.get? b<*o->H b=none->b∈fs->b∉ex->∃sl,h'.get? b<*{o with slots:=sl}
 free:∀b o,h.get? b<*o->H b=none->b∉ex->H' b=none
 there:∀b o,h.get? b<*o->b∉ex->∃o',h'.get? b<*o'
 tups:∀b xs,H b<*.tup xs->H' b<*.tup xs
 frzs:∀b o u,H b<*.frz o u->H' b<*.frz o u
 tbls:∀b ps,H b<*.tbl ps->∃more,H' b<*.tbl (ps++more)
section
variable{fs fs' ex ex':List Addr}{H H1 H2:Hp}{h h1 h2 h':Heap}{a x e:Addr}{o:HO}
def Un.Ql(u:Un fs ex H H1 h h1)(q:h.ψ b<*c)(n:H b=ε)(d:b∉ex):∃g,h1.ψ b<*{c with Ry:=g}:=by
 by_cases f:b∈fs
 .exact u.Ud b c q n f d
 .exact (c.Ry,u.QC b c q n f d)
def Un.ν(a:Un fs ex H H1 h h1)(b:Un fs ex H1 H2 h1 h2):Un fs ex H H2 h h2 where
 QC:=λc d q n i f=>b.QC c d (a.QC c d q n i f) (a.N6 c d q n f) i f
 Ud:=λc d q n i f=>by
  let⟨p,g⟩:=a.Ud c d q n i f;let⟨j,l⟩:=b.Ud c _ g (a.N6 c d q n f) i f;show(j,l)
 N6:=λc d q n f=>by
  let⟨k,g⟩:=a.QU c d q f;show b.N6 c k g (a.N6 c d q n f) f
 QU:=λc d q f=>by
  let⟨k,g⟩:=a.QU c d q f;show b.QU c k g f
 QT:=λc xs q=>b.QT c xs (a.QT c xs q)
 Vd:=λc d xs q=>b.Vd c d xs (a.Vd c d xs q)
 VR:=λc ps q=>by
  let⟨m,g⟩:=a.VR c ps q;let⟨m2,l⟩:=b.VR c _ g;show(m++m2,by rw[l,Nt.Na])
def Un.SW(k:∀b u,h.ψ b<*u->h'.ψ b<*u):Un fs ex H H h h':=
 (λb c q _ _ _=>k b c q,λb c q _ _ _=>(c.Ry,k b c q),λ_ _ _ n _=>n,λb c q _=>(c,k b c q),λ_ _ q=>q,λ_ _ _ q=>q,λ_ ps q=>(#[],by rw[q];simp))
def Un.Tn:Un fs ex H H h h:=Un.SW λ_ _ q=>q
def Un.T0(k:∀b u,h.ψ b<*u->h'.ψ b<*u)(hp:h.Nr.MX≤a)(c:H a=ε):Un fs ex H (MT H a o) h h' where
 QC:=λb u q _ _ _=>k b u q
 Ud:=λb u q _ _ _=>(u.Ry,k b u q)
 N6:=λb u q n _=>by rw[a_ (M_ (Ψ (lt_size q) hp))];show n
 QU:=λb u q _=>(u,k b u q)
 QT:=λb xs q=>by rw[a_ (e_ q c)];show q
 Vd:=λb u xs q=>by rw[a_ (e_ q c)];show q
 VR:=λb ps q=>(#[],by rw[a_ (e_ q c),q];simp)
def Un.WW(mu:HJ (H x))(j:e=x\/H e<*.Xk x)(k:∀b u,b≠e->h.ψ b<*u->h'.ψ b<*u)(f:∃u,h'.ψ e<*u):Un fs ex H (MT H x o) h h':=by
 let g:∀b,H b=ε->b≠x:=λb n z=>by subst z;rw[n]at mu;show mu
 let i:∀b,H b=ε->b≠e:=λb n z=>by
  subst z;rcases j with r|r
  .exact g b n r
  .rw [n]at r;cases r
 let d:∀b u,H b<*u->¬ HJ (δ u)->b≠x:=λb u q nm z=>by subst z;rw[q]at mu;show nm mu
 refine(λb u q n _ _=>k b u (i b n) q,λb u q n _ _=>(u.Ry,k b u (i b n) q),λb u q n _=>by rw[a_ (g b n)];show n,λb u q _=>?_,
  λb xs q=>by rw[a_ (d b _ q λz=>z)];show q,λb u xs q=>by rw[a_ (d b _ q λz=>z)];show q,λb ps q=>(#[],by rw[a_ (d b _ q λz=>z),q];simp))
 by_cases c:b=e
 .subst c;show f
 .exact (u,k b u c q)
def Un.Pk(u:Un fs ex H H1 h h1)(g:∀b∈fs,b∈fs')(f:∀b∈ex,b∈ex'):Un fs' ex' H H1 h h1:=
 (λb d q n i c=>u.QC b d q n (λz=>i (g b z)) λz=>c (f b z),λ_ _ q n _ c=>u.Ql q n λz=>c (f _ z),λb d q n c=>u.N6 b d q n λz=>c (f b z),λb d q c=>u.QU b d q λz=>c (f b z),u.QT,u.Vd,u.VR)
end
abbrev Gf(h:NR)(H:Hp):γ υ:=(γ.N4 h.Nr.MX).SL λa=>(H a).Rz
abbrev dr(h:NR)(H:Hp):NR:=Qq h (Gf h H)
def pH(h:NR)(H:Hp):(dr h H).Nr.MX=h.Nr.MX:=Δ.W.hideAll_size _ _
def r9(e:h.ψ b<*o)(n:H b=ε):(dr h H).ψ b<*o:=
 Ps _ e λa=>by
  let q:(H b).Rz=ξ:=(RD.mp a).2;rw[n]at q;simp at q
def uy(e:(dr h H).ψ b<*o):h.ψ b=δ o/\H b=ε:=by
 let e':h.ψ b<*o:=SJ (Gf h H) e;refine(e',3);cases q:H b with
 |ε=>rfl
 |δ x=>
  let a:b∈Gf h H:=RD.Ot (Np.Ot (lt_size e'),by simp[q]);let z:(dr h H).ψ b=ε:=PJ (Gf h H) a;rw[z]at e;cases e
structure Mod(K:Frag)(mg:Str->Option Value)(base:Heap):Prop where
 kin:K.In base
 glob:base.Ns mainGlobals mg
 blt:∃mb,base.Ns builtinsNs mb/\∀x:Str,x≠"__name__"->mb x=bootBuiltins x
 nolimit:base.NoLimit
structure Cx where
 prog:Program
 w:World
 K:Frag
 mg:Str->Option Value
 base:Heap
 A:Around
 N:List Str
 s₀:Shared
 H₀:Hp
 env:Env
 outer:List Env
 stack:List Env
 ex:List Addr
 fn:Str->Bool
 calm:Bool
 pn:List (Addr×Obj)
 xe:Value->Shared->Prop
abbrev s_(l:γ WH):γ υ:=l.XC (·.RQ)
instance Cx.fs(X:Cx):γ υ:=s_ X.Fr
abbrev G5(sc:RZ)(x:NB):Prop:=sc.MR.ρ x<*.local\/sc.MR.ρ x<*.OA\/sc.MR.ρ x<*.N6
abbrev DJ(sc:RZ)(x:NB):Prop:=sc.MR.ρ x<*.local\/sc.MR.ρ x<*.OA
abbrev zC(KK:WH)(h:NR)(m:NB->ω θ)(x:NB)(u:θ):Prop:=
 (KK.Om x=δ .local/\m x<*u)\/((KK.Om x<*.OA\/KK.Om x<*.N6)/\∃c,KK.Rm.ρ x=δ c/\h.Tf c (δ u))
structure Cx.Ok(X:Cx):Prop where
 mod:Mod X.K X.mg X.base
 kind:X.env.scope.kind=.function
 glob:X.env.globals=mainGlobals
 blt:X.env.builtins=builtinsNs
 above:X.s₀⁻¹≤X.env.locals
 inj:∀x y c,X.env.cells.lookup x<*c->X.env.cells.lookup y<*c->x=y
 has:∀x,(X.env.kindOf x<*.cell\/X.env.kindOf x<*.free)->∃c,X.env.cells.lookup x<*c
 cab:∀x c,X.fn x=true->X.env.cells.lookup x<*c->X.s₀⁻¹≤c
 hd:X.calm=true->X.A.handled=none
 frames:X.A.frames<*X.stack
 stk:X.stack=X.outer\/(X.stack=X.env::X.outer/\X.env.frame<*X.env.locals)
 exf:∀b∈X.ex,b≠X.env.locals/\∀x c,X.env.cells.lookup x<*c->c≠b
 bs:∀b o,X.base.get? b<*o->X.s₀.heap.get? b=some o/\X.H₀ b=none
 bsz:X.base.objs.size≤X.s₀⁻¹
 noex:∀b o,X.base.get? b<*o->b∉X.ex
 exfs:∀b∈X.ex,b∉X.fs
 funs:X.s₀.heap.FunFrames X.base X.outer
 frf:∀b∈X.fs,X.H₀ b=none
structure f'(X:Cx)(pins:List (Addr×Obj))(σ:List (Option V))(H:Hp)(s:Shared):Prop where
 ok:X.Ok
 os:s.os=X.s₀.os
 bare:AllBare s.gens
 base:Un X.fs X.ex X.H₀ H X.s₀.heap s.heap
 loc:∃m,s.heap.Ns X.env.locals m/\∀(i:Nat)(x:Str)(v:V),X.N[i]?<*x->σ[i]?<*some v->G5 X.env.scope x->∃u,ae v u/\zC X.env s.heap m x u
 cell:∀x c,X.env.cells.lookup x<*c->∃v,s.heap.IsCell c v
 free:H X.env.locals=none
 freeC:∀x c,X.env.cells.lookup x<*c->H c=none
 pin:∀p∈X.pn++pins,s.heap.get? p.1=some p.2/\H p.1=none/\p.1≠X.env.locals/\p.1∉X.fs/\∀v,p.2.data≠.cell v
 hok:Au X.prog X.w H s.heap
 len:σ.length=X.N.length
section
variable{X:Cx}{pins:List (Addr×Obj)}{σ:List (Option V)}{H H':Hp}{s:Shared}{h':Heap}
def Cx.Ok.nofr(ok:X.Ok)(e:X.ς.ψ b<*o):b∉X.fs:=λa=>by
 have:=(ok.Vc.mem a).1;rw[e]at this;cases this
def f'.bs(I:f' X M1 σ H s):∀b o,X.ς.ψ b<*o->s.π.ψ b=δ o/\H b=ε:=λb o e=>
 (I.ς.QC b o (I.ok.bs b o e).1 (I.ok.bs b o e).2 (I.ok.nofr e) (I.ok.noex b o e),I.ς.N6 b o (I.ok.bs b o e).1 (I.ok.bs b o e).2 (I.ok.noex b o e))
def f'.bk(I:f' X M1 σ H s):∀b o,X.ς.ψ b<*o->s.π.ψ b<*o:=λb o e=>(I.bs b o e).1
def f'.VX(I:f' X M1 σ H s):Mod X.K X.mg X.ς:=I.ok.VX
def f'.Tb(I:f' X M1 σ H s):X.K.In s.π:=I.ok.VX.Vz.Oq I.bk
def f'.lt(I:f' X M1 σ H s):X.KK.Oc<s⁻¹:=let⟨_,a,_⟩:=I.X1;a.lt
def f'.sz(I:f' X M1 σ H s):X.RN⁻¹≤s⁻¹:=IO I.ok.WE (Pq I.lt)
def f'.nofs(I:f' X M1 σ H s){a:υ}(h:s⁻¹≤a):a∉X.fs:=λc=>by
 let⟨_,o,b,_⟩:=I.ok.Vc.mem c;show MM (Ψ (lt_size b) (IO I.sz h)) (Qs _)
def f'.cne(I:f' X M1 σ H s):∀x c,X.KK.Rm.ρ x<*c->c≠X.KK.Oc:=λx c e z=>by
 let⟨v,o,d,f⟩:=I.OA x c e;let⟨m,⟨g,h,i,a,b,_⟩,_⟩:=I.X1;rw[z,a]at d;cases d;rw[b]at f;cases f
def f'.Vc(I:f' X M1 σ H s):s.π.O2 X.ς X.Fr:=by
 let QD:∀(l:γ WH),(∀b∈s_ l,b∈X.fs)->X.RN.π.O2 X.ς l->s.π.O2 X.ς l:=by
  intro l;induction l with
  |Ow=>intro _ _;trivial
  |NZ KK r g=>
   intro f k;let⟨m,⟨L,o,a,j,i,n⟩,h⟩:=k;let d:L∈X.fs:=f L (by unfold s_;rw[Sa,a];show N8);let⟨p,e⟩:=I.ς.Ud L o i (I.ok.frf L d) d λz=>I.ok.exfs L z d;show(m,(L,_,a,j,e,n),g (λb c=>f b (by unfold s_;rw[Sa,a];show M4 _ c)) h)
 show QD X.Fr (λ_ c=>c) I.ok.Vc
def f'.NC(I:f' X M1 σ H s):s.π.O2 X.ς X.NC:=by
 rcases I.ok.stk with e|⟨e,b⟩
 .rw [e];show I.Vc
 .rw [e];let⟨m,a,_⟩:=I.X1;refine .NZ (by rw[I.ok.RT];decide) b a ?_ I.Vc;show NR.VD (IO I.ok.bsz I.ok.WE)
def f'.ZW(I:f' X M1 σ H s):∀b∈s_ X.NC,b∈X.KK.Oc::X.fs:=λb a=>by
 rcases I.ok.stk with e|⟨e,c⟩
 .rw [e]at a;show M4 _ a
 .rw [e]at a;unfold s_ at a;rw[Sa,c]at a;show a
def f'.Tj(I:f' X M1 σ H s):∀b∈s_ X.NC,H b=ε:=λb a=>by
 rcases MP.mp (I.ZW b a)with e|a
 .rw [e];show I.N6
 .obtain ⟨_,o,c,_⟩:=I.ok.Vc.mem a;show I.ς.N6 b o c (I.ok.frf b a) λz=>I.ok.exfs b z a
def f'.Xi{ch:γ υ}(I:f' X M1 σ H s)(j:∀b∈ch,(b∈X.ex\/X.RN⁻¹≤b)/\b≠X.KK.Oc/\(∀x c,X.KK.Rm.ρ x<*c->c≠b)/\∀p∈X.pn++M1,p.1≠b)(h:∀b o,b≠X.KK.Oc->b∉X.fs->b∉ch->s.π.ψ b<*o->H b=ε->h'.ψ b<*o)(B:∀b o,b≠X.KK.Oc->b∈X.fs->b∉ch->s.π.ψ b<*o->H b=ε->∃Q,h'.ψ b<*{o with Ry:=Q})(f:∀b o,b∉ch->s.π.ψ b<*o->H b=ε->H' b=ε)(C:∀b o,b∉ch->s.π.ψ b<*o->∃L,h'.ψ b<*L)(F:∀b xs,H b<*.No xs->H' b<*.No xs)(N:∀b o u,H b<*.frz o u->H' b<*.frz o u)(J:∀b ps,H b<*.Wy ps->∃Ta,H' b<*.Wy (ps++Ta))(ns:∀m,s.π.Ns X.KK.Oc m->h'.Ns X.KK.Oc m)(R:Au X.Ξ X.w H' h')(hg:Wu g'):f' X M1 σ H' {s with π:=h',T7:=g',T8:=d',MW:=t'}:=by
 let M:∀b o,X.RN.π.ψ b<*o->b≠X.KK.Oc:=λb o e=>M_ (Ψ (lt_size e) I.ok.WE);let y:∀b o,X.RN.π.ψ b<*o->b∉X.ex->b∉ch:=λb o e a D=>by
  rcases(j b D).1 with z|z
  .exact a z
  .exact MM (Ψ (lt_size e) z) (Qs _)
 let t:∀x c,X.KK.Rm.ρ x<*c->∀v,s.π.Tf c v->h'.Tf c v:=λx c e v T=>by
  let⟨o,E,S⟩:=T;let g:c∉ch:=λz=>(j c z).2.2.1 x c e ζ;by_cases W:c∈X.fs
  .obtain ⟨Q,q⟩:=B c o (I.cne x c e) W g E (I.UK x c e);show(_,q,S)
  .exact (o,h c o (I.cne x c e) W g E (I.UK x c e),S)
 refine(I.ok,I.os,hg,(λb o e n D a=>?_,λb o e n D a=>?_,λb o e n a=>?_,λb o e a=>?_,λb xs e=>F b xs (I.ς.QT b xs e),λb o xs e=>N b o xs (I.ς.Vd b o xs e),λb ps e=>?_),3,λx c e=>?_,3,λx c e=>?_,λp hp=>?_,R,I.PQ)
 .exact h b o (M b o e) D (y b o e a) (I.ς.QC b o e n D a) (I.ς.N6 b o e n a)
 .obtain ⟨Q,A⟩:=I.ς.Ud b o e n D a;let⟨P,O⟩:=B b _ (M b o e) D (y b o e a) A (I.ς.N6 b o e n a);show(P,O)
 .obtain ⟨L,A⟩:=I.ς.QU b o e a;show f b L (y b o e a) A (I.ς.N6 b o e n a)
 .obtain ⟨L,A⟩:=I.ς.QU b o e a;show C b L (y b o e a) A
 .obtain ⟨Y,A⟩:=I.ς.VR b ps e;let⟨m2,O⟩:=J b _ A;show(Y++m2,by rw[O,Nt.Na])
 .obtain ⟨m,Z,hl⟩:=I.X1;refine(m,ns m Z,λi x v A O e3=>?_);let⟨u,r,l⟩:=hl i x v A O e3;refine(u,r,3);rcases l with l|⟨k,c,e,z⟩
  .exact .NJ l
  .exact .NU (k,c,e,t x c e _ z)
 .obtain ⟨v,z⟩:=I.OA x c e;show(v,t x c e v z)
 .obtain ⟨m,⟨o,_,_,E,_⟩,_⟩:=I.X1;show f _ o (λz=>(j _ z).2.1 ζ) E I.N6
 .obtain ⟨v,o,E,S⟩:=I.OA x c e;show f c o (λz=>(j c z).2.2.1 x c e ζ) E (I.UK x c e)
 .obtain ⟨e,n,U,nf,d⟩:=I.Y4 p hp;let g:p.1∉ch:=λz=>(j p.1 z).2.2.2 p hp ζ;show(h p.1 p.2 U nf g e n,f p.1 p.2 g e n,U,nf,d)
def f'.un(I:f' X M1 σ H s)(u:Un X.fs [] H H' s.π h')(c:Au X.Ξ X.w H' h'):f' X M1 σ H' {s with π:=h',MW:=t'}:=by
 let⟨m,⟨o,t,v,h,r⟩,_⟩:=id I.X1;let⟨l,k⟩:=u.Ql h I.N6 (!1);show I.Xi (g':=s.T7) (d':=s.T8) (ch:=[]) (λ_ z=>nomatch z) (λb o _ d _ e n=>u.QC b o e n d (!1)) (λb o _ d _ e n=>u.Ud b o e n d (!1)) (λb o _ e n=>u.N6 b o e n (!1)) (λb o _ e=>u.QU b o e (!1)) u.QT u.Vd u.VR (λq j=>by
  let⟨p,f,g,a,i⟩:=j;rw[h]at a;cases a;show(_,f,g,k,i)) c I.R5
def f'.Qk(I:f' X M1 σ H s)(u:Un (s_ X.NC) ch H H' s.π h')(g:Au X.Ξ X.w H' h')(t:Wu g')(f:∀b∈ch,(b∈X.ex\/X.RN⁻¹≤b)/\b≠X.KK.Oc/\(∀x c,X.KK.Rm.ρ x<*c->c≠b)/\∀p∈X.pn++M1,p.1≠b):f' X M1 σ H' {s with π:=h',T7:=g',T8:=d',MW:=t'}:=by
 let⟨m,⟨o,C,D,k,r⟩,_⟩:=id I.X1;let⟨y,h⟩:=u.Ql k I.N6 λz=>(f _ z).2.1 ζ;show I.Xi (ch:=ch) f (λb o h v a e n=>u.QC b o e n (λz=>(MP.mp (I.ZW b z)).Nx h v) a) (λb o _ _ a e n=>u.Ql e n a) (λb o a e n=>u.N6 b o e n a) (λb o a e=>u.QU b o e a) u.QT u.Vd u.VR (λB q=>by
  let⟨A,i,j,d,l⟩:=q;rw[k]at d;cases d;show(_,i,j,h,l)) g t
def f'.OJ(I:f' X M1 σ H s)(k:∀b o,b≠it->s.π.ψ b<*o->h'.ψ b<*o)(h:H it=ε)(f:it≠X.KK.Oc)(h1:it∈X.ex\/X.RN⁻¹≤it)(h2:∀x c,X.KK.Rm.ρ x<*c->c≠it)(l:∀p∈X.pn++M1,p.1≠it):f' X M1 σ H {s with π:=h',MW:=t'}:=by
 let d:∀b u,H b<*u->b≠it:=λb u e z=>by rw[z,h]at e;cases e
 refine I.Xi (g':=s.T7) (d':=s.T8) (ch:=[it]) (λb j=>?_) (λb o _ _ a e _=>k b o (λz=>a (by simp[z])) e) (λb o _ _ a e _=>(o.Ry,k b o (λz=>a (by simp[z])) e)) (λ_ _ _ _ n=>n)
  (λb o a e=>(o,k b o (λz=>a (by simp[z])) e)) (λ_ _ e=>e) (λ_ _ _ e=>e) (λb ps e=>(#[],by rw[e];simp)) (λm i=>?_) (λb u e=>?_) I.R5
 .let e:b=it:=by simpa using j
  subst e;show(h1,f,h2,l)
 .obtain ⟨o,t,w,g,r⟩:=i;show(o,t,w,k _ o (Ne.MQ f) g,r)
 .refine (I.Og b u e).SX (λc v a q=>k c v ?_ q) (λ_ q=>q) λ_ _ q=>q;rcases a with z|z
  .rw [z];show d b u e
  .exact d c _ z
def f'.Tw(I:f' X M1 σ H s)(t:Φ):f' X M1 σ H {s with MW:=t}:=I.un (h':=s.π) (t':=t) Un.Tn I.Og
def f'.SW(I:f' X M1 σ H s)(k:∀b u,s.π.ψ b<*u->h'.ψ b<*u):f' X M1 σ H {s with π:=h',MW:=t'}:=I.un (Un.SW k) (I.Og.SW k)
def f'.T0{a:υ}(I:f' X M1 σ H s)(k:∀b u,s.π.ψ b<*u->h'.ψ b<*u)(hp:s⁻¹≤a)(c:Az X.Ξ X.w (MT H a o) h' a o):f' X M1 σ (MT H a o) {s with π:=h',MW:=t'}:=I.un (Un.T0 k hp (I.Og.OG hp)) (I.Og.T0 k hp c)
def f'.WW(I:f' X M1 σ H s)(mu:HJ (H x))(d:e=x\/H e<*.Xk x)(k:∀b u,b≠e->s.π.ψ b<*u->h'.ψ b<*u)(a:∃u,h'.ψ e<*u)(c:Az X.Ξ X.w (MT H x o) h' x o):f' X M1 σ (MT H x o) {s with π:=h',MW:=t'}:=I.un (Un.WW mu d k a) (I.Og.WW mu d k a c)
def f'.pins_of(I:f' X M1 σ H s)(h:∀p∈a,s.π.ψ p.1=δ p.2/\H p.1=ε/\p.1≠X.KK.Oc/\p.1∉X.fs/\∀v,p.2.NL≠.OA v):f' X a σ H s:=
 (I.ok,I.os,I.R5,I.ς,I.X1,I.OA,I.N6,I.UK,λp hp=>(Nd.mp hp).Nx (λz=>I.Y4 p (RO _ z)) (h p),I.Og,I.PQ)
def Bc{N:γ NB}(c:N.Nz){i j:Φ}(a:N[i]?<*x)(b:N[j]?<*x):i=j:=by
 let⟨h1,e⟩:=q5 a;let⟨h2,d⟩:=q5 b;show(UJ c).mp (e.ν d.MQ)
def eh(I:f' X M1 σ H s)(hN:X.N.Nz)(U:X.N[i]?<*x)(B:DJ X.KK.NG x)(r:ae v u)(h:∀s',f' X M1 (σ.Ra i (δ v)) H s'->(∃a,Pg a s.π s'.π/\(a=X.KK.Oc\/X.KK.Rm.ρ x<*a))->Q () s')(hf:(X.fn x=ξ\/X.KK.NG.MR.ρ x<*.local)>>>8):Ω M A (storeName X.KK x u) Q E s:=by
 let⟨m,hn,hl⟩:=id I.X1;let W:(X.KK.NG.RT==.class||(X.KK.NG.RT==.module&&X.KK.Oc != X.KK.globals))=η:=by rw[I.ok.RT];rfl
 let J:i<σ.β:=by rw[I.PQ];show(q5 U).1
 let R:=I.cne;let g:∀{a:υ}{h':NR},(∃o,s.π.ψ a=δ o/\H a=ε)->Pg a s.π h'->Au X.Ξ X.w H h':=λ{a h'}ha f b ob e=>by
  let⟨_,_,C⟩:=ha;refine(I.Og b ob e).SX (λc w' t q=>(f.2 c ?_).ν q) (λ_ q=>q) λ_ _ q=>q;rintro ζ;rcases t with ζ|t
  .rw [C]at e;cases e
  .rw [C]at t;cases t
 rcases B with F|F
 .refine wpAny_storeName_local F hn (λh' ag f=>?_) W;let⟨oL,_,_,ab,_⟩:=id hn;refine h _ (I.ok,I.os,I.R5,(λb o e n P B=>?_,λb o e n P B=>?_,I.ς.N6,λb o e B=>?_,I.ς.QT,I.ς.Vd,I.ς.VR),(_,ag,λj y v' l D e3=>?_),λy c e=>?_,I.N6,I.UK,λp hp=>?_,g (oL,ab,I.N6) f,by simpa using I.PQ) (_,f,.NJ ζ)
  .exact (f.2 b (M_ (Ψ (lt_size e) I.ok.WE))).ν (I.ς.QC b o e n P B)
  .obtain ⟨sl,l⟩:=I.ς.Ud b o e n P B;show(sl,(f.2 b (M_ (Ψ (lt_size e) I.ok.WE))).ν l)
  .obtain ⟨o',l⟩:=I.ς.QU b o e B;show(o',(f.2 b (M_ (Ψ (lt_size e) I.ok.WE))).ν l)
  .by_cases L:j=i
   .subst L;rw[U]at l;cases l;rw[γ.Wm J]at D;cases D;show(u,r,.NJ (F,!1))
   .rw [γ.Xp (Ne.MQ L)]at D;let⟨u',r',q⟩:=hl j y v' l D e3;refine(u',r',3);rcases q with⟨k,e⟩|⟨k,c,e,z⟩
    .refine .NJ (k,3);have:y≠x:=λe=>L (Bc hN l (e▸U));simp[this,e]
    .exact .NU (k,c,e,z.Wb f (R y c e))
  .obtain ⟨w',z⟩:=I.OA y c e;show(w',z.Wb f (R y c e))
  .obtain ⟨e,n,ne,nf,d⟩:=I.Y4 p hp;show((f.2 p.1 ne).ν e,n,ne,nf,d)
 .let O:X.fn x=ξ:=by
   rcases hf with z|z
   .exact z
   .rw [z]at F;cases F
  let⟨c,t⟩:=I.ok.UU x (.NJ F);let⟨w',z⟩:=I.OA x c t;refine Zx I.ok.RT F t z (λh' Z f=>?_);let⟨oc,T,S⟩:=id z;refine h {s with π:=h'} (I.ok,I.os,I.R5,(λb o e n P B=>?_,λb o e n P B=>?_,I.ς.N6,λb o e B=>?_,I.ς.QT,I.ς.Vd,I.ς.VR),(m,hn.Wb f (Ne.MQ (R x c t)),λj y v' l D e3=>?_),λy c' e=>?_,I.N6,I.UK,λp hp=>?_,g (oc,T,I.UK x c t) f,by simpa using I.PQ) (c,f,.NU t)
  .exact (f.2 b (M_ (Ψ (lt_size e) (I.ok.cab x c O t)))).ν (I.ς.QC b o e n P B)
  .obtain ⟨sl,l⟩:=I.ς.Ud b o e n P B;show(sl,(f.2 b (M_ (Ψ (lt_size e) (I.ok.cab x c O t)))).ν l)
  .obtain ⟨o',l⟩:=I.ς.QU b o e B;show(o',(f.2 b (M_ (Ψ (lt_size e) (I.ok.cab x c O t)))).ν l)
  .by_cases L:j=i
   .subst L;rw[U]at l;cases l;rw[γ.Wm J]at D;cases D;show(u,r,.NU (.NJ F,c,t,Z))
   .rw [γ.Xp (Ne.MQ L)]at D;let⟨u',r',q⟩:=hl j y v' l D e3;refine(u',r',3);rcases q with q|⟨k,c',e,z'⟩
    .exact .NJ q
    .refine .NU (k,c',e,z'.Wb f ?_);rintro ζ;show L (Bc hN l (I.ok.QK _ _ _ e t▸U))
  .by_cases Y:c'=c
   .subst Y;show(_,Z)
   .obtain ⟨w2,z2⟩:=I.OA y c' e;show(w2,z2.Wb f Y)
  .obtain ⟨e,n,ne,nf,d⟩:=I.Y4 p hp;refine((f.2 p.1 ?_).ν e,n,ne,nf,d);intro q;rw[q,T]at e;let q':oc=p.2:=ω.δ.QK e;show d w' (by rw[<-q'];show S)
def AO(I:f' X M1 σ H s)(d:X.N.Nz)(b:X.N[i]?<*x)(a:DJ X.KK.NG x)(r:ae v u)(h:∀s',f' X M1 (σ.Ra i (δ v)) H s'->Q () s')(c:(X.fn x=ξ\/X.KK.NG.MR.ρ x<*.local)>>>8):Ω M A (storeName X.KK x u) Q E s:=
 eh I d b a r (λs' e _=>h s' e) c
def f'.call'(I:f' X M1 σ H s)(g:s'.os=s.os)(u:Un (s_ X.NC) ch H H' s.π s'.π)(a:Au X.Ξ X.w H' s'.π)(h:Wu s'.T7)(d:∀b∈ch,(b∈X.ex\/X.RN⁻¹≤b)/\b≠X.KK.Oc/\(∀x c,X.KK.Rm.ρ x<*c->c≠b)/\∀p∈X.pn++M1,p.1≠b):f' X M1 σ H' s':=by
 let⟨h',g',d',t',f⟩:=s';let e:f=s.os:=g;subst e;show I.Qk (g':=g') (t':=t') (d':=d') u a h d
end
@[reducible]def XK:=Value->Option Addr->Hp->Prop
@[reducible]def St:=List (Option V)
@[reducible]def VK:=V->Hp->Prop
@[reducible]def TE:=St->Hp->VK->Prop
@[reducible]def TT:=St->Hp->(Bool->Hp->Prop)->Prop
@[reducible]def TA:=St->Hp->(List V->Hp->Prop)->Prop
structure Ends where
 nx:St->Hp->Prop
 rt:VK
 bk:St->Hp->Prop:=λ_ _=>False
 ct:St->Hp->Prop:=λ_ _=>False
@[reducible]def TS:=Ends->St->Hp->Prop
inductive EP(X:Cx)(pins:List (Addr×Obj))(σ:St)(Q:VK)(u:Value)(s':Shared):Prop
 |mk (v H':_) (_:f' X pins σ H' s') (_:ae v u) (_:Q v H')
inductive TP(X:Cx)(pins:List (Addr×Obj))(σ:St)(Q:Bool->Hp->Prop)(b:Bool)(s':Shared):Prop
 |mk (H':_) (_:f' X pins σ H' s') (_:Q b H')
inductive AP(X:Cx)(pins:List (Addr×Obj))(σ:St)(Q:List V->Hp->Prop)(us:List Value)(s':Shared):Prop
 |mk (vs H':_) (_:f' X pins σ H' s') (_:ad vs us) (_:Q vs H')
abbrev SP(X:Cx)(M1:γ (υ×Rp))(D:XR)(f:Flow)(s':MJ):Prop:=
 match f with
 |.next=>∃WJ H',f' X M1 WJ H' s'/\D.nx WJ H'
 |.Yk=>∃WJ H',f' X M1 WJ H' s'/\D.bk WJ H'
 |.UC=>∃WJ H',f' X M1 WJ H' s'/\D.ct WJ H'
 |.UX u=>∃v WJ H',f' X M1 WJ H' s'/\ae v u/\D.rt v H'
abbrev PE(X:Cx)(e:Rb)(t:TE):Prop:=
 ∀(M1:γ (υ×Rp))(s:MJ)(σ:St)(H:Hp)(Q:VK),f' X M1 σ H s->t σ H Q->Ω (Cl X.Ξ X.w) X.A (OM e X.KK) (EP X M1 σ Q) X.xe s
abbrev PT(X:Cx)(e:Rb)(t:TT):Prop:=
 ∀(M1:γ (υ×Rp))(s:MJ)(σ:St)(H:Hp)(Q:MZ->Hp->Prop),f' X M1 σ H s->t σ H Q->Ω (Cl X.Ξ X.w) X.A (isTrue e X.KK (OM e X.KK)) (TP X M1 σ Q) X.xe s
abbrev PW(X:Cx)(e:Rb)(t:TT):Prop:=
 ∀(whole:ZD θ)(M1:γ (υ×Rp))(s:MJ)(σ:St)(H:Hp)(Q:MZ->Hp->Prop),f' X M1 σ H s->t σ H Q->Ω (Cl X.Ξ X.w) X.A (isTrue e X.KK whole) (TP X M1 σ Q) X.xe s
def PW.pt(h:PW X e t):PT X e t:=h _
abbrev PA(X:Cx)(es:γ Rb)(t:TA):Prop:=
 ∀(Nj:Sh)(M1:γ (υ×Rp))(s:MJ)(σ:St)(H:Hp)(Q:γ V->Hp->Prop),f' X M1 σ H s->t σ H Q->Ω (Cl X.Ξ X.w) X.A (spliced (OF Nj (Θ es X.KK))) (AP X M1 σ Q) X.xe s
abbrev PS(X:Cx)(st:Nu)(t:TS):Prop:=
 ∀(M1:γ (υ×Rp))(s:MJ)(σ:St)(H:Hp)(D:XR),f' X M1 σ H s->t D σ H->Ω (Cl X.Ξ X.w) X.A (exec st X.KK) (SP X M1 D) X.xe s
abbrev BA(X:Cx)(st:γ Nu)(t:TS):Prop:=
 ∀(M1:γ (υ×Rp))(s:MJ)(σ:St)(H:Hp)(D:XR),f' X M1 σ H s->t D σ H->Ω (Cl X.Ξ X.w) X.A (execs st X.KK) (SP X M1 D) X.xe s
def ri{t:ZD c}{Q b:c->MJ->Prop}(h:Ω M A t Q E s)(d:∀a s,Q a s->b a s):Ω M A t b E s:=NI h d λ_ _ x=>x
section
variable{X:Cx}
inductive bC(i:Nat)(σ:St)(H:Hp)(Q:VK):Prop
 |mk (v:_) (_:σ[i]?<*some v) (_:Q v H)
abbrev tC(v:V):TE:=λ_ H Q=>Q v H
def wN{Nj:Sh}(w:X.N[i]?<*x)(o:G5 X.KK.NG x)(g:((x==("__debug__":NB))=η)>>>0)(j:((x==("__classdict__":NB))=η)>>>0):PE X (.N0 x Nj) (bC i):=by
 intro f s n H Q I h;let⟨v,e,h⟩:=h;let⟨m,p,t⟩:=I.X1;let⟨u,r,l⟩:=t i x v w e o;let d:EP X f n Q u s:=(v,H,I,r,h);rcases l with⟨b,q⟩|⟨b,c,k,a⟩
 .exact wpAny_Name (wpAny_loadName_local I.ok.RT b p q d) g
 .rcases b with b|b
  .exact wpAny_Name (wpAny_loadName_cell I.ok.RT b k a d) g
  .exact wpAny_Name (wpAny_loadName_free I.ok.RT b k a d j) g
def b'{i j Nj}:PE X (.Vm (.MS i) j Nj) (tC (.MS i)):=λ_ _ _ H _ I h=>wpAny_Constant_int (.MS i,H,I.Tw _,(_,ζ),h)
def BK{b j Nj}:PE X (.Vm (.Ph b) j Nj) (tC (.bl b)):=λ_ _ _ H _ I h=>Constant_bool (.bl b,H,I,1,h)
def GA{j Nj}:PE X (.Vm .ε j Nj) (tC .Rv):=λ_ _ _ H _ I h=>Constant_none (.Rv,H,I,1,h)
def n'{x j Nj}:PE X (.Vm (.NA x) j Nj) (tC (.NA x)):=λ_ _ _ H _ I h=>SB.Constant_str (.NA x,H,I.Tw _,(_,ζ),h)
abbrev Gl(X:Cx)(x:NB):Prop:=X.KK.Om x<*.globalImplicit
def v_{b:St}(I:f' X a b H s)(d:Gl X x)(c:X.mg x<*u)(h:Q u s)(e:((x==("__debug__":NB))=η)>>>0):Ω (Cl X.Ξ X.w) X.A (OM (.N0 x Nj) X.KK) Q E s:=
 SB.Name_function_global I.ok.RT d (SB.loadGlobal_global (by rw[I.ok.Wk];show I.VX.Wk.Oq I.bk) c h) e
def Ad{E:θ->MJ->Prop}{b:St}{Nj:Sh}(I:f' X a b H s)(f:Gl X x)(e:X.mg x=ε)(c:Tr x<*u)(h:Q u s)(d:(x≠"__name__")>>>0)(g:((x==("__debug__":NB))=η)>>>0):Ω (Cl X.Ξ X.w) X.A (OM (.N0 x Nj) X.KK) Q E s:=by
 let⟨i,h1,h2⟩:=I.VX.blt;show SB.Name_function_global I.ok.RT f (SB.loadGlobal_builtin (by rw[I.ok.Wk];show I.VX.Wk.Oq I.bk) e (by rw[I.ok.blt];show h1.Oq I.bk) ((h2 x d).ν c) h) g
def G6(b:Gl X x)(a:X.mg x<*u)(r:ae v u)(c:((x==("__debug__":NB))=η)>>>0):PE X (.N0 x Nj) (tC v):=
 λ_ _ _ H _ I h=>v_ I b a (v,H,I,r,h) c
def mZ{Nj:Sh}(d:Gl X x)(c:X.mg x=ε)(a:Tr x<*u)(r:ae v u)(b:(x≠"__name__")>>>0)(e:((x==("__debug__":NB))=η)>>>0):PE X (.N0 x Nj) (tC v):=
 λ_ _ _ H _ I h=>Ad I d c a (v,H,I,r,h) b e
variable{a b:Expr}{ta tb:TE}{pos:Pos}
inductive L3(Q:Bool->Hp->Prop)(x:V)(H1:Hp):Prop
 |mk (c:_) (_:x=.bl c) (_:Q c H1)
abbrev tB(t:TE):TT:=λσ H Q=>t σ H (L3 Q)
def BZ(h:PE X e t)(l:(∀c,isTrue e X.KK c=(do let v <-c;standAt e.Nj;holding [v] (truthy v)))>>>7):PT X e (tB t):=by
 intro f s i H Q I hw;refine isTrue_plain (ri (h f s i H _ I hw) λv o g=>?_) (l _);let⟨x,n,m,j,k⟩:=g;let⟨d,ζ,q⟩:=k;cases j;show PZ (n,m,q)
variable{tA tB':TT}{rest:List Expr}
abbrev zS(t u:TT):TT:=λσ H Q=>t σ H λc H1=>if c=ξ then u σ H1 Q else Q η H1
abbrev L4(t u:TT):TT:=λσ H Q=>t σ H λc H1=>if c=ξ then Q ξ H1 else u σ H1 Q
abbrev zL(t:TT):TT:=λσ H Q=>t σ H λc H1=>Q (!c) H1
def HK(g:PT X a tA):PW X (.U9 .And [a] Nj) tA:=by
 intro i d s f H Q I h;refine isTrue_and (ri (g d s f H Q I h) λc j e=>?_);cases c with
 |ξ=>show isTrue_and_nil e
 |η=>show e
def EJ(g:PT X a tA):PW X (.U9 .Or [a] Nj) tA:=by
 intro i d s f H Q I h;refine isTrue_or (ri (g d s f H Q I h) λc j e=>?_);cases c with
 |η=>show isTrue_or_nil e
 |ξ=>show e
def G7(n:PT X a tA)(m:PW X (.U9 .And (b::Ru) Nj) tB'):PW X (.U9 .And (a::b::Ru) Nj) (zS tA tB'):=by
 intro k d s f H Q I h;refine isTrue_and (ri (n d s f H _ I h) λc l e=>?_);let⟨j,i,g⟩:=e;cases c with
 |ξ=>show m k d l f j Q i g
 |η=>show(j,i,g)
def CO(n:PT X a tA)(m:PW X (.U9 .Or (b::Ru) Nj) tB'):PW X (.U9 .Or (a::b::Ru) Nj) (L4 tA tB'):=by
 intro k d s f H Q I h;refine isTrue_or (ri (n d s f H _ I h) λc l e=>?_);let⟨j,i,g⟩:=e;cases c with
 |ξ=>show(j,i,g)
 |η=>show m k d l f j Q i g
def DM(i:PT X a tA):PT X (.UnaryOp .Not a Nj) (zL tA):=by
 intro d s g H Q I h;show isTrue_not (ri (i d s g H (λc f=>Q (!c) f) I h) λc s' e=>by let⟨f,j,q⟩:=e;show(f,j,q))
inductive wB(ta tb:TE)(σ:St)(Q:VK)(x:V)(H1:Hp):Prop
 |mk (c:_) (_:x=.bl c) (_:if c=true then tb σ H1 Q else Q (.bl false) H1)
abbrev yi(ta tb:TE):TE:=λσ H Q=>ta σ H (wB ta tb σ Q)
inductive x8(ta tb:TE)(σ:St)(Q:VK)(x:V)(H1:Hp):Prop
 |mk (c:_) (_:x=.bl c) (_:if c=true then Q (.bl true) H1 else tb σ H1 Q)
abbrev zK(ta tb:TE):TE:=λσ H Q=>ta σ H (x8 ta tb σ Q)
inductive wo(Q:VK)(x:V)(H1:Hp):Prop
 |mk (c:_) (_:x=.bl c) (_:Q (.bl (!c)) H1)
abbrev x9(ta:TE):TE:=λσ H Q=>ta σ H (wo Q)
def FB{op}(h:PE X a t):PE X (.U9 op [a] Nj) t:=λc s d H Q I hw=>BoolOp_one (h c s d H Q I hw)
def FC(n:PE X a ta)(m:PE X (.U9 .And (b::Ru) Nj) tb):PE X (.U9 .And (a::b::Ru) Nj) (yi ta tb):=by
 intro d s g H Q I h;refine BoolOp_and (ri (n d s g H _ I h) λv k f=>?_);let⟨x,j,i,l,e⟩:=f;let⟨c,ζ,e⟩:=e;cases l;refine PZ ?_;cases c with
 |ξ=>show m d k g j Q i e
 |η=>show(.bl η,j,i,1,e)
def yO(n:PE X a ta)(m:PE X (.U9 .Or (b::Ru) Nj) tb):PE X (.U9 .Or (a::b::Ru) Nj) (zK ta tb):=by
 intro d s g H Q I h;refine BoolOp_or (ri (n d s g H _ I h) λv k f=>?_);let⟨x,j,i,l,e⟩:=f;let⟨c,ζ,e⟩:=e;cases l;refine PZ ?_;cases c with
 |η=>show m d k g j Q i e
 |ξ=>show(.bl ξ,j,i,1,e)
def BP(j:PE X a ta):PE X (.UnaryOp .Not a Nj) (x9 ta):=by
 intro d s g H Q I h;refine UnaryOp_ (ri (j d s g H _ I h) λv m f=>?_);let⟨x,l,k,i,e⟩:=f;let⟨c,ζ,e⟩:=e;cases i;show not_of (PZ (.bl (!c),l,k,1,e))
abbrev L5(t:TT)(ta tb:TE):TE:=λσ H Q=>t σ H λc H1=>if c=ξ then ta σ H1 Q else tb σ H1 Q
def cJ(m:PT X c tA)(o:PE X a ta)(n:PE X b tb):PE X (.IfExp c a b Nj) (L5 tA ta tb):=by
 intro e s f H Q I h;refine wpAny_IfExp (ri (m e s f H _ I h) λd i g=>?_);let⟨l,k,j⟩:=g;cases d with
 |ξ=>show o e i f l Q k j
 |η=>show n e i f l Q k j
end
abbrev o5(K:Nn)(H:Hp)(a:υ)(xs:γ V):Prop:=
 Rd H a (.M7 xs) \/
  ∃(o:Rp)(Zr:Nt θ)(n:Φ),K.ρ a=δ o/\o.OO=.MO "list"/\o.Pz=ε/\o.NL=.Sz Zr n/\Zr.MX≤Λ/\ad xs Zr.NF
abbrev u0(K:Nn)(H:Hp)(a:υ)(xs:γ V):Prop:=
 Rd H a (.No xs) \/
  ∃(o:Rp)(Zr:Nt θ)(n:Φ),K.ρ a=δ o/\o.OO=.MO "tuple"/\o.NL=.Sz Zr n/\Zr.MX≤Λ/\ad xs Zr.NF
abbrev JE:θ->ω V
 |.ε=>δ .Rv
 |.Ph b=>δ (.bl b)
 |.MS i _=>δ (.MS i)
 |.NA x _=>δ (.NA x)
 |.bytes b _=>δ (.byt b)
 |.float b _=>δ (.flt b)
 |.ο a=>δ (.ο a)
 |.MO n=>δ (.ty n)
 |_=>ε
def ae.abs(r:ae x u):JE u<*x:=by
 cases x with
 |Rv=>cases r;rfl
 |bl _=>cases r;rfl
 |MS _=>let⟨t,ζ⟩:=r;rfl
 |NA _=>let⟨t,ζ⟩:=r;rfl
 |byt _=>let⟨t,ζ⟩:=r;rfl
 |flt _=>let⟨t,ζ⟩:=r;rfl
 |ο _=>cases r;rfl
 |ty _=>cases r;rfl
def ae.QK(r:ae x u)(q:ae y u):x=y:=ω.δ.QK (r.abs.MQ.ν q.abs)
def ad.QK:∀{xs ys:γ V}{us:γ θ},ad xs us->ad ys us->xs=ys
 |_,_,_,.Ow,.Ow=>rfl
 |_,_,_,.NZ r t,.NZ a t'=>by rw[r.QK a,ad.QK t t']
section
variable{X:Cx}{pins:List (Addr×Obj)}{σ:St}{H:Hp}{s:Shared}{a:Addr}{xs ys:List V}
def o5.of{K:Nn}(h:H a<*.M7 xs):o5 K H a xs:=.NJ (.NJ h)
def u0.of{K:Nn}(h:H a<*.No xs):u0 K H a xs:=.NJ (.NJ h)
def f'.Qx(I:f' X M1 σ H s)(h:o5 X.K H a xs):∃b:γ θ,ad xs b/\PlainL s.π a b.χ/\xs.β≤Λ:=by
 rcases h with h|⟨o,b,n,d,g,f,c,hz,r⟩
 .obtain ⟨z,b,n,r,e⟩:=h.ok I.Og;show(b,r,(_,n,e,5,1),z)
 .refine (b.NF,r,(o,n,I.Tb a o d,g,f,by simpa using c),3);let e:=r.β;simp only[Po]at e;lia
def f'.P_(I:f' X M1 σ H s)(h:u0 X.K H a xs):∃b:γ θ,ad xs b/\WF s.π a b.χ/\xs.β≤Λ:=by
 rcases h with h|⟨o,b,n,d,f,c,hz,r⟩
 .obtain ⟨z,b,r,p⟩:=h.ok I.Og;show(b,r,p,z)
 .refine (b.NF,r,(o,I.Tb a o d,f,n,by simpa using c),3);let e:=r.β;simp only[Po]at e;lia
def f'.list_inj(I:f' X M1 σ H s)(h:o5 X.K H a xs)(h':o5 X.K H a ys):xs=ys:=by
 let⟨b,r,⟨o,n,e,_,_,d⟩,_⟩:=I.Qx h;let⟨its',c,⟨f,g,e',_,_,d'⟩,_⟩:=I.Qx h';rw[e]at e';cases e';rw[d]at d';injection d' with d1 _;have:b=its':=by simpa using Nb Nt.NF d1
 subst this;show r.QK c
def f'.tuple_inj(I:f' X M1 σ H s)(h:u0 X.K H a xs)(h':u0 X.K H a ys):xs=ys:=by
 let⟨b,r,⟨o,e,_,n,d⟩,_⟩:=I.P_ h;let⟨its',c,⟨f,e',_,g,d'⟩,_⟩:=I.P_ h';rw[e]at e';cases e';rw[d]at d';injection d' with d1 _;have:b=its':=by simpa using Nb Nt.NF d1
 subst this;show r.QK c
end
instance Cx.Vw(X:Cx)(E:θ->MJ->Prop):Cx:={X with xe:=E}
instance Cx.nox(X:Cx):Cx:=X.Vw λ_ _=>NX
def Cx.Ok.Vw{X:Cx}(ok:X.Ok)(E:θ->MJ->Prop):(X.Vw E).Ok:=
 (ok.VX,ok.RT,ok.Wk,ok.blt,ok.WE,ok.QK,ok.UU,ok.cab,ok.hd,ok.Qc,ok.stk,ok.exf,ok.bs,ok.bsz,ok.noex,ok.exfs,ok.Vc,ok.frf)
def Cx.Ok.Sv{X:Cx}(ok:(X.Vw E).Ok):X.Ok:=
 (ok.VX,ok.RT,ok.Wk,ok.blt,ok.WE,ok.QK,ok.UU,ok.cab,ok.hd,ok.Qc,ok.stk,ok.exf,ok.bs,ok.bsz,ok.noex,ok.exfs,ok.Vc,ok.frf)
section
variable{X:Cx}{pins:List (Addr×Obj)}{σ:St}{H:Hp}{s:Shared}{E:Value->Shared->Prop}
def f'.Vw(I:f' X M1 σ H s)(E:θ->MJ->Prop):f' (X.Vw E) M1 σ H s:=(I.ok.Vw E,I.os,I.R5,I.ς,I.X1,I.OA,I.N6,I.UK,I.Y4,I.Og,I.PQ)
def f'.Sv(I:f' (X.Vw E) M1 σ H s):f' X M1 σ H s:=(I.ok.Sv,I.os,I.R5,I.ς,I.X1,I.OA,I.N6,I.UK,I.Y4,I.Og,I.PQ)
def SP.Sv(h:SP (X.Vw E) M1 D f s'):SP X M1 D f s':=by
 cases f with
 |next=>let⟨a,H',I,q⟩:=h;show(a,H',I.Sv,q)
 |Yk=>let⟨a,H',I,q⟩:=h;show(a,H',I.Sv,q)
 |UC=>let⟨a,H',I,q⟩:=h;show(a,H',I.Sv,q)
 |UX u=>let⟨v,a,H',I,r,q⟩:=h;show(v,a,H',I.Sv,r,q)
def BA.nox{st:γ Nu}(h:BA X.nox st t):BA X st t:=λM1 s σ H D I hw=>
 NI (h M1 s σ H D (I.Vw _) hw) (λ_ _ q=>q.Sv) λ_ _ z=>NX.Nx z
end
section
variable{X:Cx}{st:Stmt}{rest:List Stmt}{t u:TS}{e:Expr}{te:TE}{pos:Pos}
abbrev Sk:TS:=λD σ H=>D.nx σ H
abbrev aP(t u:TS):TS:=λD σ H=>t {D with nx:=u D} σ H
def wh:BA X [] Sk:=λ_ _ a H _ I h=>RL (a,H,I,h)
def m_(h1:PS X st t)(h2:BA X Ru u):BA X (st::Ru) (aP t u):=by
 intro a s c H D I h;refine Ss (ri (h1 a s c H {D with nx:=u D} I h) λf d q=>?_);cases f with
 |next=>
  let⟨b,H',g,q⟩:=q;show h2 a d b H' D g q
 |UX v=>show q
 |Yk=>show q
 |UC=>show q
def k_(h1:PS X st t):BA X [st] t:=by
 intro a s b H D I h;refine Ss (ri (h1 a s b H D I h) λf c q=>?_);cases f with
 |next=>show RL q
 |UX v=>show q
 |Yk=>show q
 |UC=>show q
abbrev tBreak:TS:=λD σ H=>D.bk σ H
def iZ:PS X (.Break Nj) tBreak:=λ_ _ a H _ I h=>wpAny_Break (a,H,I,h)
def f'.Y3{b:St}(I:f' X a b H s):interactive X.KK=η:=by simp[interactive,I.ok.RT]
abbrev yg(te:TE):TS:=λD σ H=>te σ H λ_ H1=>D.nx σ H1
def BB(g:PE X e te)(f:(Sw e ε Nj.SZ X.KK=pure η)>>>4):PS X (.Rb e Nj) (yg te):=by
 intro a s c H D I h;show wpAny_Expr_any (ri (g a s c H _ I h) λv k b=>by let⟨x,j,i,l,d⟩:=b;show(c,j,i,d)) I.Y3 f
abbrev gj(te:TE):TS:=λD σ H=>te σ H D.rt
def o9(g:PE X e te):PS X (.XN (δ e) Nj) (gj te):=by
 intro a s c H D I h;show wpAny_Return_some (ri (g a s c H _ I h) λv k b=>by let⟨x,j,i,d,f⟩:=b;show(x,c,j,i,d,f))
abbrev zO(c:TT)(t u:TS):TS:=λD σ H=>c σ H λb H1=>if b=ξ then t D σ H1 else u D σ H1
def u_(n:PT X c tc)(p:BA X a t)(o:BA X b u):PS X (.If c a b Nj) (zO tc t u):=by
 intro f s g H D I h;refine wpAny_If (ri (n f s g H _ I h) λd j i=>?_);let⟨m,l,k⟩:=i;cases d with
 |ξ=>show p f j g m D l k
 |η=>show o f j g m D l k
abbrev tNever:TS:=λ_ _ _=>NX
def IP:PS X st tNever:=λ_ _ _ _ _ _ h=>h.Nx
end
@[reducible]def TG:=V->St->Hp->(St->Hp->Prop)->Prop
@[reducible]def TGs:=List V->St->Hp->(St->Hp->Prop)->Prop
abbrev PG(X:Cx)(target:Rb)(t:TG):Prop:=
 ∀(M1:γ (υ×Rp))(s:MJ)(σ:St)(H:Hp)(v:V)(u:θ)(Q:St->Hp->Prop),f' X M1 σ H s->ae v u->t v σ H Q->
  Ω (Cl X.Ξ X.w) X.A (U7 target X.KK u) (λ_ s'=>∃WJ H',f' X M1 WJ H' s'/\Q WJ H') X.xe s
abbrev IQ(X:Cx)(ts:γ Rb)(t:TGs):Prop:=
 ∀(M1:γ (υ×Rp))(s:MJ)(σ:St)(H:Hp)(vs:γ V)(us:γ θ)(Q:St->Hp->Prop),f' X M1 σ H s->ad vs us->t vs σ H Q->
  Ω (Cl X.Ξ X.w) X.A (assignInOrder ((U6 ts X.KK).NN (·.2)) us) (λ_ s'=>∃WJ H',f' X M1 WJ H' s'/\Q WJ H') X.xe s
@[reducible]def HL:=V->V->V->Hp->(Hp->Prop)->Prop
abbrev xN(X:Cx)(t:HL):Prop:=
 ∀(M1:γ (υ×Rp))(s:MJ)(σ:St)(H:Hp)(o i v:V)(ov iv u:θ)(Q:Hp->Prop),f' X M1 σ H s->ae o ov->ae i iv->ae v u->t o i v H Q->
  Ω (Cl X.Ξ X.w) X.A (setItem ov iv u) (λ_ s'=>∃H',f' X M1 σ H' s'/\Q H') X.xe s
section
variable{X:Cx}{pos:Pos}
abbrev Bv(i:Φ):TG:=λv σ H Q=>Q (σ.Ra i (δ v)) H
def bL(e:X.N.Nz)(c:X.N[i]?<*x)(b:DJ X.KK.NG x)(d:(X.fn x=ξ\/X.KK.NG.MR.ρ x<*.local)>>>8):PG X (.N0 x Nj) (Bv i):=by
 intro a s g H v u Q I r h;show wpAny_assign_Name (AO I e c b r (λs' f=>(_,H,f,h)) d)
abbrev gNil:TGs:=λvs σ H Q=>vs=[]/\Q σ H
abbrev ss(t:TG)(u:TGs):TGs:=λvs σ H Q=>∃v r,vs=v::r/\t v σ H λWJ H'=>u r WJ H' Q
def bK:IQ X [] gNil:=by
 intro a s b H vs us Q I r h;let⟨e,h⟩:=h;subst e;cases r;show assignInOrder_nil (b,H,I,h)
def Gg(h1:PG X e t)(h2:IQ X d u)(k:((U6 (e::d) X.KK).NN (·.2)=U7 e X.KK::(U6 d X.KK).NN (·.2))>>>4):IQ X (e::d) (ss t u):=by
 intro a s f H vs us Q I r h;let⟨v,o,l,h⟩:=h;subst l;cases r with
 |NZ r i=>
  rw[k];refine assignInOrder_cons (ri (h1 a s f H _ _ _ I r h) λ_ g c=>?_);let⟨b,n,m,j⟩:=c;show h2 a g b n _ _ Q m i j
inductive zo(K:Frag)(n:Nat)(t:TGs)(v:V)(σ:St)(H:Hp)(Q:St->Hp->Prop):Prop
 |mk (a xs:_) (_:v=.ref a) (_:u0 K H a xs) (_:xs.length=n) (_:t xs σ H Q)
def gE{k:Φ}(w:X.T9=ξ)(h:IQ X d t)(p:((U6 d X.KK).β=n)>>>4)(Rx:((U6 d X.KK).Wn (·.1)=ε)>>>4):PG X (.Qw d k Nj) (zo X.K n t):=by
 intro c s f H v u Q I r hw;let⟨a,xs,x,m,q,hw⟩:=hw;subst x;cases r;let⟨i,g,l,hz⟩:=I.P_ m;refine assign_Tuple_tuple (I.ok.hd w) l (by simp[p,<-q,g.β]) Rx λh' j=>?_;let y:f' X c f H {s with π:=h'}:=I.SW (t':=s.MW) λb o e=>j b o (M_ (lt_size e)) e;show h c _ f H xs _ Q y (by simpa using g) hw
abbrev JF(to ti:TE)(t:HL):TG:=λv σ H Q=>to σ H λo H1=>ti σ H1 λi H2=>t o i v H2 λH3=>Q σ H3
def EK(z:PE X o to)(A:PE X i j)(w:xN X t)(B:(∀v,U7 (.Uo o i Nj) X.KK v=(do
   let b <-holding [v] (OM o X.KK)
   let c <-holding [v,b] (OM i X.KK)
   standAt Nj
   holding [v,b,c] (setItem b c v)
   release [v,b,c] []))>>>7):PG X (.Uo o i Nj) (JF to j t):=by
 intro a s d H v u Q I r h;rw[B];refine d_ (NT (ri (z a s d H _ I h) λb k f=>?_));let⟨x,L,E,m,q⟩:=f;refine d_ (NT (ri (A a k d L _ E q) λc s2 e=>?_));let⟨y,J,D,l,p⟩:=e;refine d_ (PY (d_ (NT (ri (w a s2 d J x y v b c u _ D m l r p) λ_ M g=>?_))));let⟨F,C,n⟩:=g;show wpAny_release (d,F,C,n)
abbrev aK(te:TE)(g:TG):TS:=λD σ H=>te σ H λx H1=>g x σ H1 D.nx
def EL(n:PE X e f)(m:PG X b g)(l:(swapsWithSole [b] e Nj.SZ X.KK=pure η)>>>4)(hw:(swappedStores [b] e X.KK=pure ε)>>>4)(h1:((U6 [b] X.KK).NN (·.2)=[U7 b X.KK])>>>4):PS X (.WS [b] e Nj) (aK f g):=by
 intro a s d H D I h;refine wpAny_Assign_stores (ri (n a s d H _ I h) λv i c=>?_) l hw;let⟨x,p,o,j,k⟩:=c;rw[h1];show ri (m a i d p x v _ o j k) λ_ s2 q=>q
def wL(p:X.N.Nz)(m:X.N[i]?<*x)(k:DJ X.KK.NG x)(o:PE X e f)(l:(Sw e (δ (.N0 x a)) Nj.SZ X.KK=pure η)>>>4)(n:(X.fn x=ξ\/X.KK.NG.MR.ρ x<*.local)>>>8):PS X (.WS [.N0 x a] e Nj) (aK f (Bv i)):=by
 intro b s d H D I h;refine wpAny_Assign_Name (ri (o b s d H _ I h) λv u c=>?_) l;let⟨y,t,r,g,j⟩:=c;show AO r p m k g (λs2 q=>(_,t,q,j)) n
abbrev qh(c:TT)(tb:TS):TS:=λD σ H=>∃W:Φ->St->Hp->Prop,(∃m,W m σ H)/\∀m σ H,W m σ H->
 c σ H λb H1=>if b=ξ then ∃N:St->Hp->Prop,(∀WJ H',N WJ H'->∃m',m'<m/\W m' WJ H')/\tb {D with nx:=N,ct:=N,bk:=D.nx} σ H1 else D.nx σ H1
def cF(hp:O0 (Cl X.Ξ X.w) X.A X.KK X.xe)(L:PT X c tc)(M:BA X j E):PS X (.While c j [] Nj) (qh tc E):=by
 intro d s B H D I h;let⟨W,⟨J,w0⟩,i⟩:=h;refine wpAny_While (codeAny_whileLoop (λn s'=>∃g H',f' X d g H' s'/\W n g H') ?_ J (B,H,I,w0));rintro n F⟨e,z,O,C⟩;refine RI hp (ri (L d F e z _ O (i n e z C)) λb s2 r=>?_);let⟨y,x,m⟩:=r;cases b with
 |ξ=>
  let⟨N,u,m⟩:=m;rw[Id ζ];refine RI hp (ri (M d s2 e y _ x m) λf P l=>?_);cases f with
  |next=>
   let⟨a,k,t,o⟩:=l;let⟨p,q,w3⟩:=u a k o;show(p,q,a,k,t,w3)
  |UC=>
   let⟨a,k,t,o⟩:=l;let⟨p,q,w3⟩:=u a k o;show(p,q,a,k,t,w3)
  |Yk=>show l
  |UX v=>show l
 |η=>
  rw[BT MZ.M'];show RL (e,y,x,m)
end
structure It where
 go:Nat->Hp->Prop
 yld:Nat->Hp->V->Hp->Prop
 stop:Nat->Hp->Prop
abbrev be(X:Cx)(M1:γ (υ×Rp))(H:Hp)(b:υ):Prop:=
 H b=ε/\b≠X.KK.Oc/\b∉X.fs/\(b∈X.ex\/X.RN⁻¹≤b)/\(∀x c,X.KK.Rm.ρ x<*c->c≠b)/\∀p∈X.pn++M1,p.1≠b
def f'.Yw{f:St}{b:υ}(I:f' X a f H s)(d:s⁻¹≤b)(g:H' b=ε):be X a H' b:=by
 refine(g,Qg (Ψ I.lt d),I.nofs d,.NU (IO I.sz d),λx c e z=>?_,λp hp z=>?_)
 .obtain ⟨v,q⟩:=I.OA x c e;show MM (Ψ q.lt (by rw[z];show d)) (Qs _)
 .exact MM (Ψ (lt_size (I.Y4 p hp).1) (by rw[z];show d)) (Qs _)
structure dJ(P:Program)(w:World)(K:Frag)(tg:Expr)(J:It)(fp:List Addr)(it:Addr)(tn:Nat->Heap->Prop):Prop where
 mem:it∈fp
 obj:∀i h,tn i h->∀b∈fp,∃o,h.get? b=some o/\∀v,o.data≠.cell v
 keep:∀i h h',tn i h->(∀b∈fp,∀o,h.get? b<*o->h'.get? b<*o)->tn i h'
 item:∀(X:Cx),X.prog=P->X.w=w->X.K=K->X.calm=true->∀(i:Nat)(pins:List (Addr×Obj))(s:Shared)(σ:St)(H:Hp)(E:Value->Shared->Prop),f' X pins σ H s->(∀b∈fp,be X pins H b)->tn i s.heap->J.go i H->
  wpAny (model P w) X.A (pyNext (.ref it)) (λr s1=>∃u,r=some u/\
   wpAny (model P w) X.A (letOwnedTupleGo tg (.ref it) u) (λ_ s2=>∃x H',f' X pins σ H' s2/\ae x u/\J.yld i H x H'/\tn (i+1) s2.heap/\∀b∈fp,H' b=none) E s1) E s
 done:∀(X:Cx),X.prog=P->X.w=w->X.K=K->X.calm=true->∀(i:Nat)(pins:List (Addr×Obj))(s:Shared)(σ:St)(H:Hp)(E:Value->Shared->Prop),f' X pins σ H s->(∀b∈fp,be X pins H b)->tn i s.heap->J.stop i H->
  wpAny (model P w) X.A (pyNext (.ref it)) (λr s1=>r=none/\f' X pins σ H s1) E s
 self:∀(A:Around)(i:Nat)(s:Shared)(Q:Value->Shared->Prop)(E:Value->Shared->Prop),tn i s.heap->Q (.ref it) s->wpAny (model P w) A (pyIter (.ref it)) Q E s
@[reducible]def TI:=St->Hp->(It->Hp->Prop)->Prop
inductive JG(X:Cx)(pins:List (Addr×Obj))(σ:St)(tg:Expr)(R:It->Hp->Prop)(itv:Value)(s2:Shared):Prop
 |mk (it:Addr) (fp:List Addr) (tn:Nat->Heap->Prop) (J:It) (H':Hp) (_:itv=.ref it) (_:f' X pins σ H' s2) (_:dJ X.prog X.w X.K tg J fp it tn) (_:tn 0 s2.heap) (_:(∀b∈fp,be X pins H' b)) (_:R J H')
abbrev PI(X:Cx)(tg Qt:Rb)(wi:TI):Prop:=
 ∀(M1:γ (υ×Rp))(s:MJ)(σ:St)(H:Hp)(R:It->Hp->Prop),f' X M1 σ H s->wi σ H R->
  Ω (Cl X.Ξ X.w) X.A (OM Qt X.KK) (λv s1=>Ω (Cl X.Ξ X.w) X.A (VV v) (JG X M1 σ tg R) X.xe s1) X.xe s
def fq{M:Model}{A:N2}(c:s.π.ψ it<*o)(f:o.OO=.MO n)(e:o.NL=.OB vs)(d:["enumerate","zip","dict_itemiterator","dict_reverseitemiterator","odict_iterator","itertools.zip_longest","itertools.pairwise"].M9 n=η)(a:Q () s):Ω M A (Xm b (.ο it) u) Q E s:=by
 unfold Xm;cases b<;>first
  |show j' a
  | (cases u<;>first
    |show j' a
    | (refine d_ (YE c ?_)
       rw[f,e];change Ω M A (if (["enumerate","zip","dict_itemiterator","dict_reverseitemiterator","odict_iterator","itertools.zip_longest","itertools.pairwise"].M9 n&&vs[0]?==δ (Ny _))=ξ then _ else _) Q E s;rw[BT (by intro h;rw[d,MZ.false_and]at h;cases h)];show j' a))
abbrev G8(K:Nn)(a:υ):It:=
 ⟨λi H=>∃xs x,o5 K H a xs/\xs[i]?<*x,λi H x H'=>H'=H/\∀xs,o5 K H a xs->xs[i]?<*x,λi H=>∃xs,o5 K H a xs/\xs.β≤i⟩
abbrev G9(K:Nn)(a:υ):It:=
 ⟨λi H=>∃xs x,u0 K H a xs/\xs[i]?<*x,λi H x H'=>H'=H/\∀xs,u0 K H a xs->xs[i]?<*x,λi H=>∃xs,u0 K H a xs/\xs.β≤i⟩
abbrev Fn(lo:MN)(n:Φ):It:=(λi _=>i<n,λi H x H'=>H'=H/\x=.MS (lo+i),λi _=>n≤i)
def d9{K:Nn}(a it:υ):dJ P w K W (G8 K a) [it] it (λi h=>h.Yh it a i)  where
 mem:=by simp
 Uf:=λi h st b g=>by
  let e:b=it:=by simpa using g
  subst e;let⟨o,e,c,d⟩:=st;show(o,e,λv z=>by rw[d]at z;cases z)
 QC:=λi h h' st k=>st.at λo e=>k it (!1) o e
 Uy:=by
  intro X y hw A M i f s L H E I m st t;subst y hw A;let⟨xs,x,l,r⟩:=t;let⟨q,n,p,hz⟩:=I.Qx l;let⟨u,R,O⟩:=n.VI r;let⟨J,F,S,D,C,B⟩:=m it (!1);refine wpAny_pyNext_list_item st p.QW (x:=u) (by simpa using R) λh' j N=>?_;let U:f' X f L H {s with π:=h'}:=I.OJ (t':=s.MW) (λb o g e=>(N.2 b g).ν e) J F D C B;let⟨o,e,c,d⟩:=id j;show(u,1,fq (s:={s with π:=h'}) e c d (!0) (x,H,U,O,(1,λys Q=>by rw[I.list_inj Q l];show r),j,λb g=>(m b g).1))
 done:=by
  intro X y hw A M i f s L H E I m st t;subst y hw A;let⟨xs,l,r⟩:=t;let⟨q,n,p,hz⟩:=I.Qx l;let⟨J,F,S,D,C,B⟩:=m it (!1);let Y:=n.β;show wpAny_pyNext_list_end (I.ok.hd M) st p.QW (by simp;lia) λh' T=>(1,I.OJ (t':=s.MW) (λb o g e=>T b o g e) J F D C B)
 Yn:=λ_ _ _ _ _ st h=>wpAny_pyIter_listiter st h
def Lc{K:Nn}(a it:υ):dJ P w K W (G9 K a) [it] it (λi h=>h.Rq it a i)  where
 mem:=by simp
 Uf:=λi h st b j=>by
  let e:b=it:=by simpa using j
  subst e;let⟨o,e,c,d⟩:=st;show(o,e,λv z=>by rw[d]at z;cases z)
 QC:=λi h h' st k=>st.at λo e=>k it (!1) o e
 Uy:=by
  intro X y hw A M i f s L H E I n st t;subst y hw A;let⟨xs,x,m,r⟩:=t;let⟨g,q,p,hz⟩:=I.P_ m;let⟨u,R,O⟩:=q.VI r;let⟨J,F,S,D,C,B⟩:=n it (!1);refine wpAny_pyNext_tuple_item st (show s.π.O1 a g.χ from p) (x:=u) (by simpa using R) λh' l N=>?_;let U:f' X f L H {s with π:=h'}:=I.OJ (t':=s.MW) (λb o j e=>(N.2 b j).ν e) J F D C B;let⟨o,e,c,d⟩:=id l;show(u,1,fq (s:={s with π:=h'}) e c d (!0) (x,H,U,O,(1,λys Q=>by rw[I.tuple_inj Q m];show r),l,λb j=>(n b j).1))
 done:=by
  intro X y hw A M i f s L H E I n st t;subst y hw A;let⟨xs,m,r⟩:=t;let⟨g,q,p,hz⟩:=I.P_ m;let⟨J,F,S,D,C,B⟩:=n it (!1);let Y:=q.β;show wpAny_pyNext_tuple_end (I.ok.hd M) st (show s.π.O1 a g.χ from p) (by simp;lia) λh' T=>(1,I.OJ (t':=s.MW) (λb o j e=>T b o j e) J F D C B)
 Yn:=λ_ _ _ _ _ st h=>wpAny_pyIter_tupleiter st h
def kn{K:Nn}(it:υ)(lo:MN)(n:Φ):dJ P w K M (Fn lo n) [it] it (λi h=>IsRangeIter h it (lo+(i:Φ)*1) ((n:MN)-(i:Φ)) 1)  where
 mem:=by simp
 Uf:=λi h st b c=>by
  let e:b=it:=by simpa using c
  subst e;show(_,st,λv z=>by
   let B:Data.OB _=Data.OA v:=z;cases B)
 QC:=λi h h' st k=>k it (!1) _ st
 Uy:=by
  intro X l hw m j i a s y H E I f st g;subst l hw m;let⟨x,u,F,r,q,p⟩:=f it (!1);let W:=Walks.N4 (Ξ:=X.Ξ) (w:=X.w) (I.ok.hd j) it lo 1 n;refine W.Uy i s _ _ g st λv h' A D d C=>?_;let⟨t,ζ⟩:=D;let L:f' X a y H {s with π:=h',MW:=A}:=I.OJ (λb o c e=>C b o (by simpa using c) e) x u r q p;refine(0,fq (s:={s with π:=h',MW:=A}) (n:="range_iterator") d ζ ζ (!0) (.MS (lo+i),H,L,(t,3),(1,1),d,λb c=>(f b c).1));rw[MN.mul_one]
 done:=by
  intro X l hw m j i a s y H E I f st g;subst l hw m;let⟨x,u,F,r,q,p⟩:=f it (!1);show wpAny_pyNext_range_end (I.ok.hd j) st (by have:n≤i:=g;lia) λh' J=>(1,I.OJ (t':=s.MW) (λb o c e=>J b o c e) x u r q p)
 Yn:=λ_ _ _ _ _ st h=>wpAny_pyIter_rangeiter st h
section
variable{X:Cx}{tg:Expr}
inductive xC(K:Frag)(R:It->Hp->Prop)(x:V)(H1:Hp):Prop
 |mk (a:_) (_:x=.ref a) (_:(∃xs,o5 K H1 a xs)) (_:R (G8 K a) H1)
abbrev zj(K:Nn)(tl:TE):TI:=λσ H R=>tl σ H (xC K R)
inductive zd(K:Frag)(R:It->Hp->Prop)(x:V)(H1:Hp):Prop
 |mk (a:_) (_:x=.ref a) (_:(∃xs,u0 K H1 a xs)) (_:R (G9 K a) H1)
abbrev JH(K:Nn)(tl:TE):TI:=λσ H R=>tl σ H (zd K R)
def Cn(t:PE X l j):PI X tg l (zj X.K j):=by
 intro c s i H R I h;refine ri (t c s i H _ I h) λv d g=>?_;let⟨x,w,f,k,m⟩:=g;let⟨a,e,⟨xs,r⟩,q⟩:=m;subst e;cases k;let⟨n,y,p,hz⟩:=f.Qx r;refine RW p.QW ?_;refine(d⁻¹,[d⁻¹],7,w,1,f.SW (t':=d.MW) λb o e=>sy _ e,d9 a _,(_,MV _ ζ,5),λb u=>?_,q);let e:b=d⁻¹:=by simpa using u
 subst e;show f.Yw (LE _) (f.Og.OG (LE _))
def qO(t:PE X l k):PI X tg l (JH X.K k):=by
 intro d s j H R I h;refine ri (t d s j H _ I h) λv c i=>?_;let⟨x,w,f,m,n⟩:=i;let⟨a,e,⟨xs,r⟩,q⟩:=n;subst e;cases m;let⟨g,y,p,hz⟩:=f.P_ r;refine Q_ (show c.π.O1 a g.χ from p) ?_;refine(c⁻¹,[c⁻¹],7,w,1,f.SW (t':=c.MW) λb o e=>sy _ e,Lc a _,(_,MV _ ζ,5),λb u=>?_,q);let e:b=c⁻¹:=by simpa using u
 subst e;show f.Yw (LE _) (f.Og.OG (LE _))
def iV{d:St}{lo a:MN}(I:f' X c d H s)(h1:-(2^62)≤lo)(h2:lo<2^62)(j:-(2^62)≤a)(i:a<2^62)(q:R (Fn lo (a-lo).Ou) H):Ω (Cl X.Ξ X.w) X.A (VV (.ο s⁻¹)) (JG X c d tg R) E {s with π:=s.π.Nh {OO:=.MO "range",NL:=.OB #[.MS lo t,.MS a u,.MS 1 v]},MW:=g}:=by
 refine wpAny_pyIter_range (IsRange.X0 ..) (small_one h1 h2 j i) ?_;let f:f' X c d H {s with π:=s.π.Nh {OO:=.MO "range",NL:=.OB #[.MS lo t,.MS a u,.MS 1 v]},MW:=g}:=I.SW λb o e=>sy _ e;refine((s.π.Nh {OO:=.MO "range",NL:=.OB #[.MS lo t,.MS a u,.MS 1 v]}).Nr.MX,[(s.π.Nh {OO:=.MO "range",NL:=.OB #[.MS lo t,.MS a u,.MS 1 v]}).Nr.MX],7,H,1,
  f.SW (t':=g) λb o e=>sy _ e,kn _ lo (a-lo).Ou,3,λb h=>?_,q)
 .let l:lo+((0:Φ):MN)*1=lo:=by simp
  let k:(((a-lo).Ou:Φ):MN)-((0:Φ):MN)=Builtin.Range.rangeSize lo a 1:=by rw[rangeSize_one];split<;>lia
  change IsRangeIter _ _ (lo+((0:Φ):MN)*1) ((((a-lo).Ou:Φ):MN)-((0:Φ):MN)) 1;rw[l,k];show MV _ ζ
 .let e:b=(s.π.Nh {OO:=.MO "range",NL:=.OB #[.MS lo t,.MS a u,.MS 1 v]}).Nr.MX:=by simpa using h
  subst e;show f.Yw (LE _) (f.Og.OG (LE _))
inductive xB(R:It->Hp->Prop)(vs:List V)(H1:Hp):Prop
 |mk (j:Int) (_:vs=[.int j]) (_:-(2^62)≤j) (_:j<2^62) (_:R (Fn 0 j.toNat) H1)
abbrev vK(ta:TA):TI:=λσ H R=>ta σ H (xB R)
inductive xA(R:It->Hp->Prop)(vs:List V)(H1:Hp):Prop
 |mk (i j:Int) (_:vs=[.int i,.int j]) (_:(-(2^62)≤i/\i<2^62/\-(2^62)≤j/\j<2^62)) (_:R (Fn i (j-i).toNat) H1)
abbrev zh(ta:TA):TI:=λσ H R=>ta σ H (xA R)
def G_(n:Gl X "range")(m:X.mg "range"=ε)(o:PA X [a] ta)(l:(Θ [a] X.KK=[(η,OM a X.KK,)])>>>4):PI X tg (.QG (.N0 "range" p) [a] [] Nj) (vK ta):=by
 intro b s f H R I h;refine Call_ (Ad I n m boot_range (Oi.Sf.Pw (ri (o Nj b s f H _ I h) λus v d=>?_) l ζ));let⟨vs,w,u,i,c⟩:=d;let⟨j,e,c,k,q⟩:=c;subst e;cases i with
 |NZ r g=>
  cases g;let⟨t,ζ⟩:=r;show call_range_1 (iV u (!6) (!6) c k (by simpa using q))
def eJ{p Nj:Sh}(y:Gl X "range")(x:X.mg "range"=ε)(z:PA X [a,b] ta)(w:(Θ [a,b] X.KK=[(η,OM a X.KK,),(η,OM b X.KK,)])>>>4)(d:(Θ [b] X.KK=[(η,OM b X.KK,)])>>>4):PI X tg (.QG (.N0 "range" p) [a,b] [] Nj) (zh ta):=by
 intro c s l H R I h;refine Call_ (Ad I y x boot_range (Oi.Sf.Pw (ri (z Nj c s l H _ I h) λus B k=>?_) (by rw[w,d]) (by rw[d];rfl)));let⟨vs,C,A,m,g⟩:=k;let⟨i,j,e,⟨g,v,u,o⟩,q⟩:=g;subst e;cases m with
 |NZ r f=>
  cases f with
  |NZ n f=>
   cases f;let⟨t,ζ⟩:=r;let⟨t',ζ⟩:=n;show call_range_2 (iV A g v u o q)
abbrev zP(wi:TI)(g:TG)(tb:TS):TS:=λD σ H=>wi σ H λJ H1=>∃W:Φ->Φ->St->Hp->Prop,(∃m,W 0 m σ H1)/\∀i m σ H,W i m σ H->
 (J.Sx i H/\D.nx σ H)\/(J.go i H/\∃N:St->Hp->Prop,(∀WJ H',N WJ H'->∃m',m'<m/\W (i+1) m' WJ H')/\∀x H',J.X_ i H x H'->g x σ H' λσ2 H2=>tb {D with nx:=N,ct:=N,bk:=D.nx} σ2 H2)
abbrev gC(fp:γ υ)(h:NR):γ (υ×Rp):=fp.XC λb=>(h.ψ b).NN λo=>(b,o,)
def G'(a:b∈c)(e:h.ψ b<*o):(b,o,)∈gC c h:=γ.mem_filterMap.Ot (b,a,by rw[e];rfl)
def o6(hp:p∈gC c h):p.1∈c/\h.ψ p.1<*p.2:=by
 let⟨b,a,e⟩:=γ.mem_filterMap.mp hp;cases q:h.ψ b with
 |ε=>rw[q]at e;cases e
 |δ o=>
  rw[q]at e;let e':(b,o,)=p:=ω.δ.QK e;subst e';show(a,q)
def f'.pinned{c:St}(I:f' X a c H s)(i:∀b∈g,be X a H b)(h:∀b∈g,∃o,s.π.ψ b=δ o/\∀v,o.NL≠.OA v):f' X (a++gC g s.π) c H s:=
 I.pins_of λp hp=>(Nd.mp hp).Nx (λz=>I.Y4 p (Nq _ z)) λz=>by
  let⟨f,e⟩:=o6 z;let⟨l,k,j,_⟩:=i p.1 f;let⟨o,e',d⟩:=h p.1 f;rw[e]at e';cases e';show(e,l,k,j,d)
def f'.WY{b:St}(I:f' X (a++pl) b H s):f' X a b H s:=I.pins_of λp hp=>I.Y4 p (Nq _ (RO _ hp))
def De(hp:O0 (Cl X.Ξ X.w) X.A X.KK X.xe)(hc:X.T9=ξ)(hi:PI X tg Qt wi)(hg:PG X tg g)(p:BA X M tb)(hs:(∀x,Pc Qt X.KK x=pure x)>>>7):PS X (.For tg Qt M [] Nj) (zP wi g tb):=by
 intro c s σ H D I h;refine wpAny_For (ri (hi c s σ H _ I h) λv s1 h1=>ri h1 λag s2 h2=>?_) hs;let⟨it,L,tn,J,H2,e,I2,T,Q,f2,W,⟨m0,w0⟩,B⟩:=h2;subst e;let l:∀{H':Hp},(∀b∈L,H' b=ε)->∀b∈L,be X c H' b:=λhn b p=>(hn b p,(f2 b p).2);refine codeAny_forLoop_any (λn s'=>∃i k H',f' X c k H' s'/\tn i s'.π/\(∀b∈L,H' b=ε)/\W i n k H') ?_ m0 ((0),σ,H2,I2,Q,λb p=>(f2 b p).1,w0);rintro n s3⟨i,j,O,I3,C,F,w3⟩;rcases B i n j O w3 with⟨Sx,qn⟩|⟨go,N,hN,Xi⟩
 .refine RI hp (ri (T.done X ζ ζ ζ hc i c s3 j O X.xe I3 (l F) C Sx) λr s4⟨S,I4⟩=>?_);subst S;show RL (j,O,I4,qn)
 .refine RI hp (ri (T.Uy X ζ ζ ζ hc i c s3 j O X.xe I3 (l F) C go) λr s4⟨u,S,h4⟩=>?_);subst S;refine RI hp (ri h4 λ_ s5 U=>?_);let⟨x,H5,I5,r5,y5,z,Z⟩:=U;let ab:=I5.pinned (l Z) (T.Uf _ _ z);refine RI hp (ri (hg _ s5 j H5 x u _ ab r5 (Xi x H5 y5)) λ_ s6 Y=>?_);let⟨P,H6,I6,q6⟩:=Y;refine RI hp (ri (p _ s6 P H6 _ I6 q6) λf R y=>?_);let again:∀{a:St}{t:Hp},f' X (c++gC L s5.π) a t R->N a t->∃m,m<n/\∃i k H',f' X c k H' R/\tn i R.π/\(∀b∈L,H' b=ε)/\W i m k H':=λ{a t}q E=>by
   let⟨m',hm,w7⟩:=hN a t E;refine(m',hm,i+1,a,t,q.WY,T.QC _ _ _ z λb p o e=>(q.Y4 (b,o,) (Nq _ (Nq _ (G' p e)))).1,λb p=>?_,w7);let⟨o,e,d⟩:=T.Uf _ _ z b p;show(q.Y4 (b,o,) (Nq _ (Nq _ (G' p e)))).2.1
  cases f with
  |next=>let⟨a,t,q,E⟩:=y;show again q E
  |UC=>let⟨a,t,q,E⟩:=y;show again q E
  |Yk=>let⟨a,t,q,y⟩:=y;show(a,t,q.WY,y)
  |UX v=>let⟨x7,a,t,q,r7,y⟩:=y;show(x7,a,t,q.WY,r7,y)
end
def dA{K:Nn}{g:TG}{k:TS}{D:XR}(c:Φ->St->Hp->Prop)(h0:c 0 b H)(r:∀i b H,i≤xs.β->c i b H->o5 K H a xs)(o:∀i x b H,xs[i]?<*x->c i b H->g x b H λd j=>k {D with nx:=c (i+1),ct:=c (i+1),bk:=D.nx} d j)(t:∀b H,c xs.β b H->D.nx b H):∃W:Φ->Φ->St->Hp->Prop,(∃m,W 0 m b H)/\∀i m b H,W i m b H->
   ((G8 K a).Sx i H/\D.nx b H)\/((G8 K a).go i H/\∃N:St->Hp->Prop,(∀f H',N f H'->∃l,l<m/\W (i+1) l f H')/\∀x H',(G8 K a).X_ i H x H'->g x b H' λd j=>k {D with nx:=N,ct:=N,bk:=D.nx} d j):=by
 refine(λi m b H=>m=xs.β-i/\i≤xs.β/\c i b H,(xs.β,!1,Nf _,h0),3);rintro i m b H⟨rfl,s,p⟩;let q:=r i b H s p;by_cases h:i<xs.β
 .refine .NU ((xs,xs[i],q,by simp[h]),c (i+1),λf H' n=>(xs.β-(i+1),!2,1,h,n),λx H' y=>?_);let⟨e,y⟩:=y;subst e;show o i x b _ (y xs q) p
 .let e:i=xs.β:=by lia
  subst e;show .NJ ((xs,q,LE _),t b H p)
def nA{K:Nn}{g:TG}{k:TS}{D:XR}(c:Φ->St->Hp->Prop)(h0:c 0 b H)(r:∀i b H,i≤xs.β->c i b H->u0 K H a xs)(o:∀i x b H,xs[i]?<*x->c i b H->g x b H λd j=>k {D with nx:=c (i+1),ct:=c (i+1),bk:=D.nx} d j)(t:∀b H,c xs.β b H->D.nx b H):∃W:Φ->Φ->St->Hp->Prop,(∃m,W 0 m b H)/\∀i m b H,W i m b H->
   ((G9 K a).Sx i H/\D.nx b H)\/((G9 K a).go i H/\∃N:St->Hp->Prop,(∀f H',N f H'->∃l,l<m/\W (i+1) l f H')/\∀x H',(G9 K a).X_ i H x H'->g x b H' λd j=>k {D with nx:=N,ct:=N,bk:=D.nx} d j):=by
 refine(λi m b H=>m=xs.β-i/\i≤xs.β/\c i b H,(xs.β,!1,Nf _,h0),3);rintro i m b H⟨rfl,s,p⟩;let q:=r i b H s p;by_cases h:i<xs.β
 .refine .NU ((xs,xs[i],q,by simp[h]),c (i+1),λf H' n=>(xs.β-(i+1),!2,1,h,n),λx H' y=>?_);let⟨e,y⟩:=y;subst e;show o i x b _ (y xs q) p
 .let e:i=xs.β:=by lia
  subst e;show .NJ ((xs,q,LE _),t b H p)
def HM{lo:MN}{g:TG}{j:TS}{D:XR}(f:Φ->St->Hp->Prop)(h0:f 0 a H)(o:∀i a H,i<n->f i a H->g (.MS (lo+i)) a H λb h=>j {D with nx:=f (i+1),ct:=f (i+1),bk:=D.nx} b h)(q:∀a H,f n a H->D.nx a H):∃W:Φ->Φ->St->Hp->Prop,(∃m,W 0 m a H)/\∀i m a H,W i m a H->
   ((Fn lo n).Sx i H/\D.nx a H)\/((Fn lo n).go i H/\∃N:St->Hp->Prop,(∀c H',N c H'->∃k,k<m/\W (i+1) k c H')/\∀x H',(Fn lo n).X_ i H x H'->g x a H' λb h=>j {D with nx:=N,ct:=N,bk:=D.nx} b h):=by
 refine(λi m a H=>m=n-i/\i≤n/\f i a H,(n,!1,Nf _,h0),3);rintro i m a H⟨rfl,r,p⟩;by_cases d:i<n
 .refine .NU (d,f (i+1),λc H' l=>(n-(i+1),!6,1,d,l),λx H' y=>?_);let⟨e,y⟩:=y;subst e y;show o i a _ d p
 .let e:i=n:=by lia
  subst e;show .NJ (LE _,q a H p)
def p6(g:St->Hp->Prop)(μ:St->Hp->Φ)(h0:g a H)(k:∀a H,g a H->c a H λb e=>if b=ξ then i {D with nx:=λd H'=>g d H'/\μ d H'<μ a H,ct:=λd H'=>g d H'/\μ d H'<μ a H,bk:=D.nx} a e else D.nx a e)(f:∀a H Q h,(∀b e,Q b e->h b e)->c a H Q->c a H h):qh c i D a H:=by
 refine(λm a H=>m=μ a H/\g a H,(0,h0),3);rintro m a H⟨rfl,p⟩;refine f a H _ _ (λb e q=>?_) (k a H p);cases b with
 |ξ=>show(_,λd H'⟨j,l⟩=>(_,l,1,j),q)
 |η=>show q
@[reducible]def R2:=V->V->Hp->VK->Prop
abbrev AQ(X:Cx)(f:θ->θ->ZD θ)(r:R2):Prop:=
 ∀(M1:γ (υ×Rp))(s:MJ)(σ:St)(H:Hp)(x y:V)(v u:θ)(Q:VK),f' X M1 σ H s->ae x v->ae y u->r x y H Q->
  Ω (Cl X.Ξ X.w) X.A (f v u) (EP X M1 σ Q) X.xe s
abbrev JI(X:Cx)(f:θ->ZD θ)(r:V->Hp->VK->Prop):Prop:=
 ∀(M1:γ (υ×Rp))(s:MJ)(σ:St)(H:Hp)(x:V)(v:θ)(Q:VK),f' X M1 σ H s->ae x v->r x H Q->
  Ω (Cl X.Ξ X.w) X.A (f v) (EP X M1 σ Q) X.xe s
abbrev Dg(X:Cx)(f:θ)(r:γ V->Hp->VK->Prop):Prop:=
 ∀(M1:γ (υ×Rp))(s:MJ)(σ:St)(H:Hp)(xs:γ V)(us:γ θ)(Q:VK),f' X M1 σ H s->ad xs us->r xs H Q->
  Ω (Cl X.Ξ X.w) X.A (Qk f us) (EP X M1 σ Q) X.xe s
abbrev Fo(r:R2)(ta tb:TE):TE:=λσ H Q=>ta σ H λx H1=>tb σ H1 λy H2=>r x y H2 Q
abbrev L6(r:V->Hp->VK->Prop)(ta:TE):TE:=λσ H Q=>ta σ H λx H1=>r x H1 Q
inductive rI(C:Int->Int->Prop)(g:Int->Int->V)(x:V)(y:V)(H:Hp)(Q:VK):Prop
 |mk (i j:_) (_:x=.int i) (_:y=.int j) (_:C i j) (_:Q (g i j) H)
inductive Fp(g:Int->Int->V)(x:V)(y:V)(H:Hp)(Q:VK):Prop
 |mk (i j:_) (_:x=.int i) (_:y=.int j) (_:Q (g i j) H)
inductive rU(g:Int->V)(x:V)(H:Hp)(Q:VK):Prop
 |mk (i:_) (_:x=.int i) (_:Q (g i) H)
section
variable{X:Cx}{a b c:Expr}{ta tb tc:TE}{pos:Pos}
def GB(B:PE X a ta)(z:PE X b tb){e:St}{R:V->V->Hp->Prop}(I:f' X d e H s)(h:ta e H λx m=>tb e m λy g=>R x y g){f:θ->θ->ZD θ}(t:∀v u s2 x y g,f' X d e g s2->ae x v->ae y u->R x y g->Ω (Cl X.Ξ X.w) X.A (f v u) Q X.xe s2):Ω (Cl X.Ξ X.w) X.A (OM a X.KK) (λv j=>Ω (Cl X.Ξ X.w) X.A (OM b X.KK) (λu i=>Ω (Cl X.Ξ X.w) X.A (f v u) Q X.xe i) X.xe j) X.xe s:=by
 refine ri (B d s e H _ I h) λv n l=>?_;let⟨x,m,D,p,r⟩:=l;refine ri (z d n e m _ D r) λu s2 k=>?_;let⟨y,g,C,o,q⟩:=k;show t v u s2 x y g C p o q
def Af(i:AQ X (Rn op) r)(k:PE X a ta)(j:PE X b tb):PE X (.BinOp a op b Nj) (Fo r ta tb):=by
 intro d s e H Q I h;show wpAny_BinOp (GB k j I h λv u s2 x y m l g f q=>i d s2 e m x y v u Q l g f q)
def Es(k:JI X (unaryOp op) r)(l:PE X a ta):PE X (.UnaryOp op a Nj) (L6 r ta):=by
 intro d s f H Q I h;show UnaryOp_ (ri (l d s f H _ I h) λv g e=>by let⟨x,n,m,i,j⟩:=e;show k d g f n x v Q m i j)
def JJ{g:MN->MN->MN}(Wc:∀(i j:MN)(t u:XM)(s:MJ)(Q:θ->MJ->Prop)(E:θ->MJ->Prop),C i j->Q (.MS (g i j) s.MW) {s with MW:=s.MW+1}->Ω (Cl X.Ξ X.w) X.A (f (.MS i t) (.MS j u)) Q E s):AQ X f (rI C λi j=>.MS (g i j)):=by
 intro d s m H x y v u Q I k e h;let⟨i,j,ζ,ζ,l,q⟩:=h;let⟨t,ζ⟩:=k;let⟨t',ζ⟩:=e;show Wc i j t t' s _ _ l (.MS (g i j),H,I.Tw _,(_,ζ),q)
def yR{g:MN->MN->MN}(Wc:∀(i j:MN)(t u:XM)(s:MJ)(Q:θ->MJ->Prop)(E:θ->MJ->Prop),Q (.MS (g i j) s.MW) {s with MW:=s.MW+1}->Ω (Cl X.Ξ X.w) X.A (f (.MS i t) (.MS j u)) Q E s):AQ X f (Fp λi j=>.MS (g i j)):=by
 intro d s l H x y v u Q I k e h;let⟨i,j,ζ,ζ,q⟩:=h;let⟨t,ζ⟩:=k;let⟨t',ζ⟩:=e;show Wc i j t t' s _ _ (.MS (g i j),H,I.Tw _,(_,ζ),q)
def ur{g:MN->MN->MZ}(Wc:∀(i j:MN)(t u:XM)(s:MJ)(Q:θ->MJ->Prop)(E:θ->MJ->Prop),Q (.Ph (g i j)) s->Ω (Cl X.Ξ X.w) X.A (f (.MS i t) (.MS j u)) Q E s):AQ X f (Fp λi j=>.bl (g i j)):=by
 intro d s l H x y v u Q I k e h;let⟨i,j,ζ,ζ,q⟩:=h;let⟨t,ζ⟩:=k;let⟨t',ζ⟩:=e;show Wc i j t t' s _ _ (.bl (g i j),H,I,1,q)
abbrev JK(i j:MN):Prop:=0<j/\j<1073741824
abbrev xO(i j:MN):Prop:=(-(2^64)<i/\i<2^64)\/(-(2^64)<j/\j<2^64)
def xO.ok(h:xO i j):IntMulOk i j:=by
 rcases h with⟨h1,h2⟩|⟨h1,h2⟩
 .exact .of_left (intBits_le_64 h1 h2)
 .exact .of_right (intBits_le_64 h1 h2)
def lg:AQ X (Rn .Add) (Fp λi j=>.MS (i+j)):=yR λ_ _ _ _ _ _ _ q=>add_int q
def wU:AQ X (Rn .Sub) (Fp λi j=>.MS (i-j)):=yR λ_ _ _ _ _ _ _ q=>sub_int q
def wW:AQ X (Rn .Mult) (rI xO λi j=>.MS (i*j)):=JJ λ_ _ _ _ _ _ _ d q=>mul_int q d.ok
def gM:AQ X (Rn .FloorDiv) (rI JK λi j=>.MS (i/j)):=JJ λi j _ _ _ _ _ d q=>by
 let h1:(0:MN)<j:=d.1;let h2:j<1073741824:=d.2;show floordiv_int (!6) (by rw[MN.fdiv_eq_ediv_of_nonneg i (!6)];show q) (.NJ (Oi.noPylong_small (!2)))
def gL:AQ X (Rn .Mod) (rI (λ_ j=>0<j) λi j=>.MS (i%j)):=JJ λi j _ _ _ _ _ d q=>by
 let h1:(0:MN)<j:=d;show mod_int' (!6) (by rw[MN.fmod_eq_emod_of_nonneg i (!6)];show q)
def L7{g:MN->MN}(Wc:∀(i:MN)(t:XM)(s:MJ)(Q:θ->MJ->Prop)(E:θ->MJ->Prop),Q (.MS (g i) s.MW) {s with MW:=s.MW+1}->Ω (Cl X.Ξ X.w) X.A (f (.MS i t)) Q E s):JI X f (rU λi=>.MS (g i)):=by
 intro d s j H x v Q I e h;let⟨i,ζ,q⟩:=h;let⟨t,ζ⟩:=e;show Wc i t s _ _ (.MS (g i),H,I.Tw _,(_,ζ),q)
def Et:JI X (unaryOp .USub) (rU λi=>.MS (-i)):=L7 λ_ _ _ _ _ q=>neg_int q
end
abbrev yy:V->V->MZ
 |.Rv,.Rv=>ξ|.Rv,.MS _=>ξ|.MS _,.Rv=>ξ|.Rv,.bl _=>ξ|.bl _,.Rv=>ξ|.Rv,.NA _=>ξ|.NA _,.Rv=>ξ
 |.MS _,.MS _=>ξ|.bl _,.bl _=>ξ|.NA _,.NA _=>ξ|.byt _,.byt _=>ξ
 |.MS _,.NA _=>ξ|.NA _,.MS _=>ξ|.bl _,.NA _=>ξ|.NA _,.bl _=>ξ
 |_,_=>η
abbrev rEq:R2:=λx y H Q=>yy x y=ξ/\Q (.bl (decide (x=y))) H
abbrev rNe:R2:=λx y H Q=>yy x y=ξ/\Q (.bl (!decide (x=y))) H
def nN:decide (V.MS i=V.MS j)=(i==j):=by
 rw[MZ.RG];simp
def sQ:decide (V.bl i=V.bl j)=(i==j):=by
 rw[MZ.RG];simp
def nM:decide (V.NA i=V.NA j)=(i==j):=by
 rw[MZ.RG];simp
def nQ:decide (V.byt i=V.byt j)=(i.NF==j.NF):=by
 rw[MZ.RG];cases i;cases j;simp
section
variable{X:Cx}{a b c:Expr}{ta tb tc:TE}{pos:Pos}
def AY{f:St}(I:f' X d f H s)(q:Q (.bl k) H)(e:k=k'):EP X d f Q (.Ph k') s:=by
 subst e;show(.bl k,H,I,1,q)
def bA:AQ X (O8 .Eq) rEq:=by
 intro g s k H x y v u Q I f d h;let⟨e,q⟩:=h;cases x with
 |Rv=>
  cases f;cases y with
  |Rv=>cases d;show Δ.Tg.eq_none_none (AY I q (!1))
  |bl j=>cases d;show Δ.Tg.eq_none_bool (AY I q (!1))
  |MS j=>let⟨t',ζ⟩:=d;show Δ.Tg.eq_none_int (AY I q (!1))
  |NA j=>let⟨t',ζ⟩:=d;show Δ.Tg.eq_none_str (AY I q (!1))
  |_=>show MM (show η=ξ from e) MZ.M'
 |bl i=>
  cases f;cases y with
  |Rv=>cases d;show Δ.Tg.eq_bool_none (AY I q (!1))
  |bl j=>cases d;show eq_bool (AY I q sQ)
  |NA j=>let⟨t',ζ⟩:=d;show Δ.Vt.eq_bool_str (AY I q (!1))
  |_=>show MM (show η=ξ from e) MZ.M'
 |MS i=>
  let⟨t,ζ⟩:=f;cases y with
  |Rv=>cases d;show Δ.Tg.eq_int_none (AY I q (!1))
  |MS j=>let⟨t',ζ⟩:=d;show eq_int (AY I q nN)
  |NA j=>let⟨t',ζ⟩:=d;show Δ.Vt.eq_int_str (AY I q (!1))
  |_=>show MM (show η=ξ from e) MZ.M'
 |NA i=>
  let⟨t,ζ⟩:=f;cases y with
  |Rv=>cases d;show Δ.Tg.eq_str_none (AY I q (!1))
  |bl j=>cases d;show Δ.Vt.eq_str_bool (AY I q (!1))
  |MS j=>let⟨t',ζ⟩:=d;show Δ.Vt.eq_str_int (AY I q (!1))
  |NA j=>let⟨t',ζ⟩:=d;show eq_str (AY I q nM)
  |_=>show MM (show η=ξ from e) MZ.M'
 |byt i=>
  let⟨t,ζ⟩:=f;cases y with
  |byt j=>let⟨t',ζ⟩:=d;show Δ.W.eq_bytes (AY I q nQ)
  |_=>show MM (show η=ξ from e) MZ.M'
 |_=>cases y<;>show MM (show η=ξ from e) MZ.M'
def yQ:AQ X (O8 .NotEq) rNe:=by
 intro g s k H x y v u Q I f d h;let⟨e,q⟩:=h;cases x with
 |Rv=>
  cases f;cases y with
  |Rv=>cases d;show Δ.Tg.ne_none_none (AY I q (!1))
  |bl j=>cases d;show Δ.Tg.ne_none_bool (AY I q (!1))
  |MS j=>let⟨t',ζ⟩:=d;show Δ.Tg.ne_none_int (AY I q (!1))
  |NA j=>let⟨t',ζ⟩:=d;show Δ.Tg.ne_none_str (AY I q (!1))
  |_=>show MM (show η=ξ from e) MZ.M'
 |bl i=>
  cases f;cases y with
  |Rv=>cases d;show Δ.Tg.ne_bool_none (AY I q (!1))
  |bl j=>cases d;show ne_bool (AY I q (Nb not sQ))
  |NA j=>let⟨t',ζ⟩:=d;show Δ.Vt.ne_bool_str (AY I q (!1))
  |_=>show MM (show η=ξ from e) MZ.M'
 |MS i=>
  let⟨t,ζ⟩:=f;cases y with
  |Rv=>cases d;show Δ.Tg.ne_int_none (AY I q (!1))
  |MS j=>let⟨t',ζ⟩:=d;show ne_int (AY I q (Nb not nN))
  |NA j=>let⟨t',ζ⟩:=d;show Δ.Vt.ne_int_str (AY I q (!1))
  |_=>show MM (show η=ξ from e) MZ.M'
 |NA i=>
  let⟨t,ζ⟩:=f;cases y with
  |Rv=>cases d;show Δ.Tg.ne_str_none (AY I q (!1))
  |bl j=>cases d;show Δ.Vt.ne_str_bool (AY I q (!1))
  |MS j=>let⟨t',ζ⟩:=d;show Δ.Vt.ne_str_int (AY I q (!1))
  |NA j=>let⟨t',ζ⟩:=d;show ne_str (AY I q (Nb not nM))
  |_=>show MM (show η=ξ from e) MZ.M'
 |byt i=>
  let⟨t,ζ⟩:=f;cases y with
  |byt j=>let⟨t',ζ⟩:=d;show Δ.W.ne_bytes (AY I q (Nb not nQ))
  |_=>show MM (show η=ξ from e) MZ.M'
 |_=>cases y<;>show MM (show η=ξ from e) MZ.M'
def jc:AQ X (O8 .Lt) (Fp λi j=>.bl (decide (i<j))):=ur λ_ _ _ _ _ _ _ q=>lt_int q
def m5:AQ X (O8 .LtE) (Fp λi j=>.bl (decide (i≤j))):=ur λ_ _ _ _ _ _ _ q=>le_int q
def Be:AQ X (O8 .Gt) (Fp λi j=>.bl (decide (j<i))):=ur λ_ _ _ _ _ _ _ q=>gt_int q
def vG:AQ X (O8 .GtE) (Fp λi j=>.bl (decide (j≤i))):=ur λ_ _ _ _ _ _ _ q=>ge_int q
def HN:AQ X (O8 .In) (λx y H Q=>∃i j,x=.NA i/\y=.NA j/\Q (.bl (!(Builtin.NB.SS j i 0 j.β 1).SG)) H):=by
 intro d s g H x y v u Q I f e h;let⟨i,j,ζ,ζ,q⟩:=h;let⟨t,ζ⟩:=f;let⟨t',ζ⟩:=e;show in_str (AY I q ζ)
def gK:AQ X (O8 .IsNot) (λx y H Q=>y=.Rv/\Q (.bl (!decide (x=.Rv))) H):=by
 intro e s g H x y v u Q I d f h;let⟨rfl,q⟩:=h;cases f;refine isnot_none_gen (AY I q ?_);cases x<;>first
  |(cases d;rfl)
  |(let⟨t,ζ⟩:=d;rfl)
def gJ:AQ X (O8 .NotIn) (λx y H Q=>∃i j,x=.NA i/\y=.NA j/\Q (.bl (!(!(Builtin.NB.SS j i 0 j.β 1).SG))) H):=by
 intro d s g H x y v u Q I f e h;let⟨i,j,ζ,ζ,q⟩:=h;let⟨t,ζ⟩:=f;let⟨t',ζ⟩:=e;show notIn_str (AY I q ζ)
def A'(b:Rb)(h:(op≠.In)>>>0)(h2:(op≠.NotIn)>>>0):WD op b=η:=by
 let e:(op==CmpOp.In)=η:=by cases op<;>first|rfl|show MM ζ h
 let d:(op==CmpOp.NotIn)=η:=by cases op<;>first|rfl|show MM ζ h2
 cases b<;>simp[WD,e,d]
def EM(i:AQ X (O8 op) r)(l:PE X a ta)(k:PE X b tb)(j:WD op b=η):PE X (.Zq a [op] [b] Nj) (Fo r ta tb):=by
 intro d s e H Q I h;show wpAny_Compare1 (GB l k I h λv u s2 x y n m g f q=>i d s2 e n x y v u Q m g f q) j
inductive wg(Q:Bool->Hp->Prop)(x:V)(H':Hp):Prop
 |mk (k:_) (_:x=.bl k) (_:Q k H')
abbrev mJ(t:TE):TT:=λσ H Q=>t σ H (wg Q)
def A1(p:AQ X (O8 op) r)(w:PE X a ta)(t:PE X b tb)(q:WD op b=η):PT X (.Zq a [op] [b] Nj) (mJ (Fo r ta tb)):=by
 intro d s f H Q I h;refine wpAny_isTrue_Compare1 (ri (w d s f H _ I h) λv g⟨x,F,C,l,o⟩=>ri (t d g f F _ C o) λu s2⟨y,E,B,j,n⟩=>
  ri (p d s2 f E x y v u _ B l j n) λc J⟨z,D,A,i,k,e,m⟩=>?_) q
 subst e;cases i;show PZ (D,A,m)
abbrev ww(r r':R2)(ta tb tc:TE):TE:=λσ H Q=>ta σ H λx H1=>tb σ H1 λy H2=>r x y H2 λz H3=>∃k,z=.bl k/\
 (if k=ξ then tc σ H3 λw' H4=>r' y w' H4 Q else Q (.bl η) H3)
def iX(P:AQ X (O8 op) r)(i:AQ X (O8 op') F)(U:PE X a ta)(T:PE X b tb)(S:PE X c tc)(R:(lastMarks [op,op'] [b,c]=η)>>>9):PT X (.Zq a [op,op'] [b,c] Nj) (mJ (ww r F ta tb tc)):=by
 intro f s g H Q I h;refine isTrue_chain (ri (U f s g H _ I h) λv A⟨x,H1,I1,E,N⟩=>test_link (ri (T f A g H1 _ I1 N) λu s2⟨y,H2,I2,l,M⟩=>
  ri (P f s2 g H2 x y v u _ I2 E l M) λd w⟨z,o,n,D,k,e,m⟩=>?_)) R
 subst e;cases D;refine PZ ?_;cases k with
 |η=>
  let⟨k',e',O⟩:=m;cases e';show ite_ff (o,n,O)
 |ξ=>
  refine ite_tt (test_last (ri (S f w g o _ n m) λq t⟨p,H4,Z,C,L⟩=>ri (i f t g H4 y p u q _ Z l C L) λd' s5 j=>?_));let⟨z2,H5,Y,B,k2,W,J⟩:=j;subst W;cases B;show PZ (H5,Y,J)
def df:(Λ:Φ)<2^63:=by rw[OQ];decide
def DN:AQ X (Rn .Add) (λx y H Q=>∃i j,x=.NA i/\y=.NA j/\i.β+j.β≤Λ/\Q (.NA (i++j)) H):=by
 intro d s g H x y v u Q I f e h;let⟨i,j,ζ,ζ,hz,q⟩:=h;let⟨t,ζ⟩:=f;let⟨t',ζ⟩:=e;show add_str (λt' k=>(.NA (i++j),H,I.Tw _,(_,ζ),q)) hz
def Dr(r:ad [x] us):∃u,us=[u]/\ae x u:=by
 cases r with
 |NZ e d=>cases d;show(0,e)
def bz(r:ad [x,y] us):∃u d,us=[u,d]/\ae x u/\ae y d:=by
 cases r with
 |NZ h g=>
  cases g with
  |NZ f e=>cases e;show(4,h,f)
end
structure mB(h:Heap)(x dx C:Addr)(mA:Str->Option Value):Prop where
 obj:h.get? x<*instObj C dx
 ns:h.Ns1 dx mA
 ne:dx≠x
def JL{h:NR}(n:h.Ns1 dx f):∃c,h.ψ dx=δ c/\∀OH,Δ.W.lookIn OH c<*f OH:=by
 let⟨o,d,p,i,l,k,_,j⟩:=n;refine(o,i,λOH=>?_);let e:=j OH;unfold nsFind findBy at e;rw[<-Nt.find?_toList]at e;unfold Δ.W.lookIn;rw[l];dsimp only;split
 .rename_i y q;rw[q]at e;show Nb δ e
 .rename_i q;rw[q]at e;let a:d.NF.Ql (·.refKey)=η:=by
   rw[γ.any_eq_false];intro y g;let⟨z,t,b⟩:=k y (Nt.mem_toList_iff.mp g);simp[ZI.refKey,b]
  let m:¬ d.NF.Ql (·.refKey)=ξ:=by rw[a];show MZ.M'
  rw[BT m];show Nb δ e
def mB.look(I:mB h x dx C b):∃a,Δ.W.InstAt h x (Vp C dx) C (δ a)/\∀OH,Δ.W.lookIn OH a<*b OH:=
 let⟨a,c,d⟩:=JL I.ns
 (a,(I.Uf,5,c),d)
section
variable{prog:Program}{w:World}{A:Around}{E:Value->Shared->Prop}{s:Shared}{K:Frag}{x dx C f:Addr}{mA:Str->Option Value}{name:Str}{v:Value}
def uS(X:K.In s.π)(I:mB s.π x dx C mA)(e:plainGet K C OH=ξ)(d:Δ.W.hasDictIn K C=ξ)(g:Δ.W.QZ K (.ο C) OH<*ε)(b:mA OH<*v)(a:Δ.W.handedIn v=ξ)(h:Q v {s with MW:=s.MW+1}):Ω (Cl Ξ w) A (Ze (.ο x) OH expr) Q E s:=by
 let⟨i,J,c⟩:=I.look;show Δ.W.get_value X J (Δ.W.Z' e).1 (Δ.W.findObj_own d g ζ (by rw[c,b])) a h
def sr(X:K.In s.π)(I:mB s.π x dx C mA)(a:plainGet K C OH=ξ)(g:Δ.W.QZ K (.ο C) OH<*δ (.ο f))(d:isFn K (.ο f)=ξ)(c:mA OH=ε)(h:Q (.ο f,[.ο x],) s):Ω (Cl Ξ w) A (XB (.ο x) OH pl) Q E s:=by
 let⟨b,J,e⟩:=I.look;show Δ.W.method_fn X J (Δ.W.Z' a).1 (Δ.W.Z' a).2 g (Oy.mp d) (by change (Δ.W.lookIn OH b).NN (·.Rz)<*η;rw[e,c];rfl) h
def tZ(X:K.In s.π)(I:mB s.π x dx C mA)(m:Δ.W.QZ K (.ο C) "__setattr__"<*δ (.Nk "object.__setattr__"))(hp:Δ.W.plainOver K C=ξ)(l:Xw K C OH<*ε)(n:Δ.W.hasDictIn K C=ξ)(hw:Δ.WR mA ns)(V_:ns.β≤Λ)(h:∀h',mB h' x dx C (λy=>if y=OH then δ v else mA y)->Pg dx s.π h'->Q () {s with π:=h',MW:=s.MW+2}):Ω (Cl Ξ w) A (Xz (.ο x) OH v) Q E s:=by
 let⟨t,J,z⟩:=I.look;refine set_plain X J m (Δ.W.osa_open (s:={s with MW:=s.MW+1}) (r:=ε) X J hp l λb=>?_);let⟨B,o,i⟩:=any_some n;let k:s.π.ψ x<*(.ο C,δ dx,.plain,#[]):=I.Uf;refine d_ (j' (d_ (d_ (YD k (d_ (Ws.here (s:={s with MW:=s.MW+1}) (XX X o) ?_))))));rw[i];refine j' (a:=δ dx) (d_ (j' (d_ ?_)));refine ZK (s:={s with MW:=s.MW+1}) I.ns λh' d c=>?_;let⟨u,p,q,e,g,j⟩:=d.Xd (Δ.WR.NZ OH v hw);refine d_ (Ww e (by rw[g];show W6 (IO j (by rw[NW];lia))) ?_);show j' (h _ ((c.2 _ (Ne.MQ I.ne)).ν I.Uf,d,I.ne) c)
def rH(X:K.In s.π)(b:makesIn K C=ξ)(c:Δ.W.QZ K (.ο C) "__init__"<*δ (.ο f))(e:Δ.W.typeIn K (.ο f)<*.MO "function")(h:Qh (Cl Ξ w) (A.XU (.Nk "type.__call__" (.ο C::vs,kw))) (.Qk (.ο f) (.ο (s⁻¹+1)::vs,kw)) (Δ.W.InitBack (s⁻¹+1) R)
   {s with π:=(s.π.Nh SV).Nh (Vp C s⁻¹)}):Qh (Cl Ξ w) A (.Qk (.ο C) (vs,kw)) R s:=by
 let⟨i,g,d,t,os⟩:=s;show Δ.W.make_core (Δ.W.makes_of X b) (Δ.W.Ux X c) (λa=>Δ.W.bind_fn X a e) (.NJ ζ) h
def pi(X:K.In s.π)(b:makesIn K C=ξ)(c:Δ.W.QZ K (.ο C) "__init__"<*δ (.Nk "object.__init__"))(e:∀a,Ws (Cl Ξ w) s.π (bindSpecial (.Nk "object.__init__") a) (.Nk "object.__init__",[a],))(h:Qh (Cl Ξ w) (A.XU (.Nk "type.__call__" ([.ο C],[]))) (.Qk (.Nk "object.__init__") ([.ο (s⁻¹+1)],[])) (Δ.W.InitBack (s⁻¹+1) R)
   {s with π:=(s.π.Nh SV).Nh (Vp C s⁻¹)}):Qh (Cl Ξ w) A (.Qk (.ο C) ([],[])) R s:=by
 let⟨i,g,d,t,os⟩:=s;show Δ.W.make_core (Δ.W.makes_of X b) (Δ.W.Ux X c) e (.NU (1,1)) h
end
abbrev af(f:NB)(v:V):γ (NB×V)->γ (NB×V)
 |[]=>[(f,v,)]
 |(g,x)::r=>if g=f then(g,v,)::r else(g,x,)::af f v r
def Co(f g:NB)(v:V):∀fs:γ (NB×V),(af f v fs).ρ g=if g=f then δ v else fs.ρ g
 |[]=>by
  change γ.ρ g [(f,v,)]=_;by_cases h:g=f
  .let a:(g==f)=ξ:=Oy.Ot h;simp only[γ.ρ,a,Id h]
  .let a:(g==f)=η:=ND.Ot h;simp only[γ.ρ,a,BT h]
 |(k,x)::r=>by
  let c:=Co f g v r;rw[show af f v ((k,x,)::r)=(if k=f then(k,v,)::r else(k,x,)::af f v r)from ζ];by_cases b:k=f
  .rw [Id b];by_cases h:g=k
   .let a:(g==k)=ξ:=Oy.Ot h;simp only[γ.ρ,a,Id (h.ν b)]
   .let a:(g==k)=η:=ND.Ot h;simp only[γ.ρ,a,BT (λe:g=f=>h (e.ν b.MQ))]
  .rw [BT b];by_cases h:g=k
   .let a:(g==k)=ξ:=Oy.Ot h;simp only[γ.ρ,a,BT (λe:g=f=>b (h.MQ.ν e))]
   .let a:(g==k)=η:=ND.Ot h;simp only[γ.ρ,a];show c
def HP(f:NB)(v:V):∀fs:γ (NB×V),f∈(af f v fs).NN (·.1)/\∀g,g∈fs.NN (·.1)->g∈(af f v fs).NN (·.1)
 |[]=>(by simp[af],λg h=>by simp at h)
 |(k,x)::r=>by
  let⟨i1,i2⟩:=HP f v r;rw[show af f v ((k,x,)::r)=(if k=f then(k,v,)::r else(k,x,)::af f v r)from ζ];by_cases a:k=f
  .rw [Id a];subst a;show(!1,λg h=>by simpa using h)
  .rw [BT a];refine(3,λg h=>?_)
   .rw [Qr];show M4 _ i1
   .rw [Qr]at h⊢;rcases MP.mp h with e|e
    .exact MP.Ot (.NJ e)
    .exact M4 _ (i2 g e)
def BC(f:NB)(v:V):∀fs:γ (NB×V),(af f v fs).β≤fs.β+1
 |[]=>by simp[af]
 |(k,x)::r=>by
  let b:=BC f v r;rw[show af f v ((k,x,)::r)=(if k=f then(k,v,)::r else(k,x,)::af f v r)from ζ];by_cases a:k=f
  .rw [Id a,NW,NW];lia
  .rw [BT a,NW,NW];lia
def au.Vn(r:au (δ v) o):∃u,o=δ u/\ae v u:=by
 cases o with
 |ε=>show(show NX from r).Nx
 |δ u=>show(u,1,r)
def au.UG(r:au ε o):o=ε:=by
 cases o with
 |ε=>rfl
 |δ u=>show(show NX from r).Nx
def fi(r:ae v u):Δ.W.handedIn u=ξ:=by
 cases v with
 |Rv=>cases(show u=θ.ε from r);rfl
 |bl b=>cases(show u=θ.Ph b from r);rfl
 |MS i=>let⟨t,e⟩:=(show ∃t,u=θ.MS i t from r);cases e;rfl
 |NA x=>let⟨t,e⟩:=(show ∃t,u=θ.NA x t from r);cases e;rfl
 |byt b=>let⟨t,e⟩:=(show ∃t,u=θ.bytes b t from r);cases e;rfl
 |flt b=>let⟨t,e⟩:=(show ∃t,u=θ.float b t from r);cases e;rfl
 |ο a=>cases(show u=θ.ο a from r);rfl
 |ty n=>cases(show u=θ.MO n from r);rfl
section
variable{P:Program}{w:World}{H H':Hp}{h h':Heap}{a C dx:Addr}{fs fs':List (Str×V)}
def HQ(c:Au P w H h)(e:H a<*.Uq C dx fs):∃b,mB h a dx C b/\(∀f,au (fs.ρ f) (b f))/\Δ.WR b (fs.NN (·.1))/\fs.β≤1000/\H dx<*.Xk a:=by
 let⟨d,z,i,g,b,n,r,q⟩:=(show Az P w H h a (.Uq C dx fs)from c a _ e);show(b,(g,n,i),r,q,z,d)
end
structure Cp(K:Frag)(C:Addr):Prop where
 pg:plainGet K C Str.empty=true
 hd:PySem.W.hasDictIn K C=true
 po:PySem.W.plainOver K C=true
 sa:PySem.W.findIn K (.ref C) "__setattr__"<*some (.builtin "object.__setattr__")
def Cp.VI{K:Nn}(c:Cp K C)(f:NB):plainGet K C f=ξ:=c.pg
abbrev Ah(K:Nn)(C:υ)(f:NB):Prop:=Δ.W.QZ K (.ο C) f<*ε
def Ah.taker{K:Nn}(n:Ah K C f):Xw K C f<*ε:=by
 unfold Xw;rw[show Δ.W.QZ K (.ο C) f<*ε from n];rfl
structure dX(K:Frag)(C:Addr)(m:Str)(f:Addr):Prop where
 at_:PySem.W.findIn K (.ref C) m<*some (.ref f)
 fn:isFn K (.ref f)=true
 kp:keepIn K (.ref f)=true
section
variable{X:Cx}{pins:List (Addr×Obj)}{σ:St}{H:Hp}{s:Shared}{a C dx:Addr}{fs:List (Str×V)}{f:Str}{v:V}{A:Around}{E:Value->Shared->Prop}
def lW(I:f' X M1 σ H s)(e:H a<*.Uq C dx fs)(c:Cp X.K C)(n:Ah X.K C f)(l:fs.ρ f<*v)(h:∀u s',f' X M1 σ H s'->ae v u->Q u s'):Ω (Cl X.Ξ X.w) A (Ze (.ο a) f b) Q E s:=by
 let⟨g,O,r,_,_,_⟩:=HQ I.Og e;let⟨u,i,d⟩:=au.Vn (v:=v) (o:=g f) (by rw[<-l];show r f);show uS I.Tb O (c.VI f) c.hd n i (fi d) (h u _ (I.Tw _) d)
def Ld(I:f' X M1 σ H s)(e:H a<*.Uq C dx fs)(c:Cp X.K C)(k:dX X.K C m g)(l:fs.ρ m=ε)(h:Q (.ο g,[.ο a],) s):Ω (Cl X.Ξ X.w) A (XB (.ο a) m pl) Q E s:=by
 let⟨b,O,r,_,_,_⟩:=HQ I.Og e;let d:b m=ε:=au.UG (by rw[<-l];show r m);show sr I.Tb O (c.VI m) k.at_ k.fn d h
def kI(I:f' X M1 σ H s)(e:H a<*.Uq C dx fs)(c:Cp X.K C)(n:Ah X.K C f)(D:fs.β<1000)(m:ae y u)(h:∀s',f' X M1 σ (MT H a (.Uq C dx (af f y fs))) s'->Q () s'):Ω (Cl X.Ξ X.w) A (Xz (.ο a) f u) Q E s:=by
 let⟨j,O,r,i,_,k⟩:=HQ I.Og e;let hz:(fs.NN (·.1)).β≤Λ:=by rw[ol,OQ];omega
 refine tZ I.Tb O c.sa c.po n.taker c.hd i hz λh' d l=>h _ ?_;let t:∃o,h'.ψ dx<*o:=let⟨o,_,_,e',_⟩:=d.ns;(o,e');refine I.WW (x:=a) (e:=dx) (by rw[e];show Os.Of) (.NU k) (λb q B z=>(l.2 b B).ν z) t ?_;refine(by rw[a_ O.ne];show k,3,O.ne,d.Uf,_,d.ns,λg=>?_,λg p=>?_)
 .have:=BC f y fs;lia
 .change au ((af f y fs).ρ g) (if g=f then δ u else j g);rw[Co];by_cases q:g=f
  .rw [Id q,Id q];show m
  .rw [BT q,BT q];show r g
 .by_cases q:g=f
  .rw [q];show(HP f y fs).1
  .refine (HP f y fs).2 g (i g λz=>p ?_);change (if g=f then δ u else j g)=ε;rw[BT q];show z
def f'.made(I:f' X M1 σ H s):f' X M1 σ (MT (MT H s⁻¹ (.Xk (s⁻¹+1))) (s⁻¹+1) (.Uq C s⁻¹ []))
  {s with π:=(s.π.Nh SV).Nh (Vp C s⁻¹)}:=by
 let d:(s.π.Nh SV).ψ s⁻¹<*SV:=MV s.π ζ;let j:((s.π.Nh SV).Nh (Vp C s⁻¹)).ψ (s⁻¹+1)<*Vp C s⁻¹:=by
  have:=MV (s.π.Nh SV) (o:=Vp C s⁻¹) ζ
  rwa [Op]at this
 let i:(s.π.Nh SV).Ns s⁻¹ (λ_=>ε):=(SV,#[],_,d,1,(λe h=>MM h (!1)),λ_=>rfl);let k:=I.T0 (a:=s⁻¹) (o:=.Xk (s⁻¹+1)) (h':=s.π.Nh SV) (t':=s.MW) (λb u q=>sy _ q) (LE _) (_,d);refine k.T0 (a:=s⁻¹+1) (o:=.Uq C s⁻¹ []) (t':=s.MW) (λb u q=>sy _ q) (Rg (Op _ _)) ?_;let c:s⁻¹≠s⁻¹+1:=M_ (OC _);refine(by rw[a_ c,j_],Nf _,c,j,λ_=>ε,(NR.Ns1.of_empty i).at λo q=>sy _ q,λ_=>Os.Of,λy g=>MM ζ g)
def DO(c:QL e f KK (OM e KK)=OM e KK)(h:Ω (Cl Ξ w) A (OM e KK) (λo b=>Ω (Cl Ξ w) A (Ze o f ξ) Q E b) E s):Ω (Cl Ξ w) A (OM (.O3 e f Nj) KK) Q E s:=
 Attribute_any_ h (by rw[arm_eval_Attribute,c])
end
inductive yd(K:Frag)(f:Str)(Q:VK)(x:V)(H1:Hp):Prop
 |mk (a C dx fs v:_) (_:x=.ref a) (_:H1 a<*.ins C dx fs) (_:Cp K C) (_:Ah K C f) (_:fs.lookup f<*v) (_:Q v H1)
abbrev yf(K:Nn)(ta:TE)(f:NB):TE:=λσ H Q=>ta σ H (yd K f Q)
inductive yG(K:Frag)(f:Str)(D:Ends)(σ:St)(y:V)(x:V)(H2:Hp):Prop
 |mk (a C dx fs:_) (_:x=.ref a) (_:H2 a<*.ins C dx fs) (_:Cp K C) (_:Ah K C f) (_:fs.length<1000) (_:D.nx σ (upd H2 a (.ins C dx (af f y fs))))
abbrev zW(K:Nn)(ta tv:TE)(f:NB):TS:=λD σ H=>tv σ H λy H1=>ta σ H1 (yG K f D σ y)
section
variable{X:Cx}{o e value:Expr}{f:Str}{pos pos' tpos:Pos}{ta tv:TE}
def AD(k:PE X e ta)(m:QL e f X.KK (OM e X.KK)=OM e X.KK):PE X (.O3 e f Nj) (yf X.K ta f):=by
 intro b s g H Q I h;refine DO m (ri (k b s g H _ I h) λu A d=>?_);let⟨x,y,w,i,a,C,dx,fs,v,p,r,c,n,l,q⟩:=d;subst p;obtain ζ:u=θ.ο a:=i;show lW w r c n l λz s2 t j=>(v,y,t,j,q)
def EN(v:PE X o ta)(r:PE X value tv)(t:Sw value (δ (.O3 o f pos')) Nj.SZ X.KK=pure η):PS X (.WS [.O3 o f pos'] value Nj) (zW X.K ta tv f):=by
 intro b s d H D I h;refine Wv (ri (r b s d H _ I h) λu i⟨y,F,E,j,q⟩=>ri (v b i d F _ E q) λp s2 g=>?_) t;let⟨x,L,B,k,a,C,dx,fs,w,z,c,n,l,m⟩:=g;subst w;obtain ζ:p=θ.ο a:=k;show kI B z c n l j λJ A=>(d,_,A,m)
end
section
variable{X:Cx}{pins:List (Addr×Obj)}{σ:St}{H:Hp}{s:Shared}{A:Around}{E:Value->Shared->Prop}{Q:Value->Shared->Prop}{c:Value}{b:Bool}
inductive ai(K:Frag)(H:Hp):V->Value->Prop where
 |non:ai K H .non (.type "NoneType")
 |bl (x:Bool):ai K H (.bl x) (.type "bool")
 |int (i:Int):ai K H (.int i) (.type "int")
 |str (x:Str):ai K H (.str x) (.type "str")
 |flt (x:UInt64):ai K H (.flt x) (.type "float")
 |lst {a:Addr} {xs:List V} (e:H a<*.lst xs):ai K H (.ref a) (.type "list")
 |frz {a:Addr} {o:Obj} {xs:List V} (e:H a<*.frz o (.lst xs)):ai K H (.ref a) (.type "list")
 |tup {a:Addr} {xs:List V} (e:H a<*.tup xs):ai K H (.ref a) (.type "tuple")
 |dK {a:Addr} {kvs:List (Bu×V)} (e:H a<*.dK kvs):ai K H (.ref a) (.type "dict")
 |dT {a:Addr} {kvs:List (List Bu×V)} (e:H a<*.dT kvs):ai K H (.ref a) (.type "dict")
 |ins {a C dx:Addr} {fs:List (Str×V)} (e:H a<*.ins C dx fs) (cl:Cp K C) (ha:PySem.W.findIn K (.ref C) "__class__"<*some (.builtin "object.__class__"))
   (hn:PySem.W.specialIn K (.builtin "object.__class__") "__get__"<*some (.builtin "getset_descriptor.__get__")) (htk:PySem.W.takesIn K (.builtin "object.__class__")<*true)
   (hm:PySem.W.mroIn K C (.type "object")<*true):ai K H (.ref a) (.ref C)
def pE(I:f' X M1 σ H s)(d:ae x u)(ty:ai X.K H x t)(e:Pr X.K t c<*b)(h:∀k,Q (.Ph b) {s with MW:=k}):Ω (Cl X.Ξ X.w) A (Qk (.Nk "isinstance") [u,c]) Q E s:=by
 cases ty with
 |Rv=>cases(show u=θ.ε from d);show Tq Δ.W.kitx_none I.Tb Os.Of e (λz=>nomatch z) h
 |bl y=>cases(show u=θ.Ph y from d);show Tq Δ.W.kitx_bool I.Tb Os.Of e (λz=>nomatch z) h
 |MS i=>let⟨t,q⟩:=(show ∃t,u=θ.MS i t from d);cases q;show Tq Δ.W.kitx_int I.Tb Os.Of e (λz=>nomatch z) h
 |NA y=>let⟨t,q⟩:=(show ∃t,u=θ.NA y t from d);cases q;show Tq Δ.W.kitx_str I.Tb Os.Of e (λz=>nomatch z) h
 |flt y=>let⟨t,q⟩:=(show ∃t,u=θ.float y t from d);cases q;show Tq Δ.W.kitx_float I.Tb Os.Of e (λz=>nomatch z) h
 |@M7 a xs f=>
  cases(show u=θ.ο a from d);let⟨_,_,n,_,h1⟩:=(show Az X.Ξ X.w H s.π a (.M7 xs)from I.Og a _ f);show Tq Δ.W.kitx_list I.Tb (_,h1,1) e (λz=>nomatch z) h
 |@frz a l xs f=>
  cases(show u=θ.ο a from d);let⟨_,_,_,n,_,h1⟩:=(show Az X.Ξ X.w H s.π a (.frz l (.M7 xs))from I.Og a _ f);show Tq Δ.W.kitx_list I.Tb (_,h1,1) e (λz=>nomatch z) h
 |@No a xs f=>
  cases(show u=θ.ο a from d);let⟨_,_,_,p⟩:=(show Az X.Ξ X.w H s.π a (.No xs)from I.Og a _ f);let⟨o,h1,h2,_⟩:=p;show Tq Δ.W.kitx_tuple I.Tb (o,h1,h2) e (λz=>nomatch z) h
 |@dK a NS f=>
  cases(show u=θ.ο a from d);let⟨_,_,vs,_,p⟩:=(show Az X.Ξ X.w H s.π a (.dK NS)from I.Og a _ f);let⟨o,B,D,h1,h2,_⟩:=p;show Tq Δ.W.kitx_dict I.Tb (o,h1,h2.1) e (λz=>nomatch z) h
 |@dT a NS f=>
  cases(show u=θ.ο a from d);let⟨_,_,xs,_,o,B,D,h1,h2,_⟩:=(show Az X.Ξ X.w H s.π a (.dT NS)from I.Og a _ f);show Tq Δ.W.kitx_dict I.Tb (o,h1,h2.1) e (λz=>nomatch z) h
 |@Uq a C dx fs f j v m g r=>
  cases(show u=θ.ο a from d);let⟨L,O,_⟩:=HQ I.Og f;let⟨F,J,_⟩:=O.look;show Tq (Δ.W.kitx_own (j.VI _) j.hd v m g r) I.Tb J e (λz=>nomatch z) h
end
structure ak(k:Nat)(A:Around):Prop where
 hd:A.handled=none
 dp:A.depth+3*k+5<recursionLimit
 un:A.units+16*k+200<cLine
def ak.Pk(r:ak k A)(h:j≤k):ak j A:=(r.hd,by have:=r.dp;lia,by have:=r.un;lia)
def ak.RH(r:ak (k+1) A)(KK:WH):ak k (A.RH KK):=
 (r.hd,by have:=r.dp;change A.Wo+1+3*k+5<_;lia,by have:=r.un;change A.Pa+3+16*k+200<_;lia)
def Le{A:N2}:(A.XU (.Nk "type.__call__" (.ο C::us,kw))).Wo=A.Wo+1:=by
 first|rfl|simp[N2.XU,Xv.weight,Xv.isCreation,Xv.isGuard,Xv.isCaller,Xv.Qc,Xv.isFrame,guardIds]
def lr{A:N2}:(A.XU (.Nk "type.__call__" (.ο C::us,kw))).Pa=A.Pa+1:=by
 first|rfl|simp[N2.XU,Xv.cUnits,Xv.Qc,Xv.isFrame]
def ak.make(r:ak (k+1) A)(C:υ)(us:γ θ)(kw:γ (NB×θ)):ak k (A.XU (.Nk "type.__call__" (.ο C::us,kw))):=
 (r.hd,by have:=r.dp;rw[Le];lia,by have:=r.un;rw[lr];lia)
def ak.Wo(r:ak k A):A.Wo<recursionLimit:=by have:=r.dp;lia
def ak.Pa(r:ak k A):A.Pa+64<Qn:=by have:=r.un;lia
def ak.units0(r:ak k A):A.Pa<Qn:=by have:=r.un;lia
abbrev Wz:TA:=λ_ H Q=>Q [] H
abbrev Aw(ta:TE)(tr:TA):TA:=λσ H Q=>ta σ H λx H1=>tr σ H1 λxs H2=>Q (x::xs) H2
section
variable{X:Cx}{e:Expr}{es:List Expr}{te:TE}{t:TA}{pos:Pos}
def Dh:PA X [] Wz:=λ_ _ _ _ H Q I h=>SB.spliced_nil ([],H,I,.Ow,h)
def Bp(n:PE X e te)(m:PA X es t)(l:(Θ (e::es) X.KK=(η,OM e X.KK,)::Θ es X.KK)>>>4):PA X (e::es) (Aw te t):=by
 intro Nj a s d H Q I h;rw[l];change Ω _ _ (spliced ((η,OM e X.KK,)::OF Nj (Θ es X.KK))) _ _ s;refine SB.spliced_cons (ri (n a s d H _ I h) λu f c=>?_);let⟨x,r,p,i,k⟩:=c;show ri (m Nj a f d r _ p k) λus s2 b=>by let⟨xs,q,o,g,j⟩:=b;show(x::xs,q,o,.NZ i g,j)
abbrev zJ(t:TA):TE:=λσ H Q=>t σ H λxs H1=>xs.β≤Λ/\∀p,H1 p=ε->Q (.ο p) (MT H1 p (.No xs))
abbrev yb(t:TA):TE:=λσ H Q=>t σ H λxs H1=>xs.β≤Λ/\∀p,H1 p=ε->Q (.ο p) (MT H1 p (.M7 xs))
def Bg{i}(h:PA X es t):PE X (.Qw es i Nj) (zJ t):=by
 intro a s g H Q I j;refine wpAny_Tuple_spliced (ri (h Nj a s g H _ I j) λus c⟨xs,f,d,r,z,q⟩=>(by rw[<-r.β];show z,3));let k:f c⁻¹=ε:=d.Og.OG (LE _);refine(.ο c⁻¹,MT f c⁻¹ (.No xs),d.T0 (t':=c.MW) (λb u e=>sy _ e) (LE _) ?_,1,q _ k);show(z,us,r,(_,MV _ ζ,1,0))
def AA(h:PA X es t):PE X (.γ es Nj) (yb t):=by
 intro a s g H Q I i;refine wpAny_List_spliced (ri (h Nj a s g H _ I i) λus c⟨xs,f,d,r,z,q⟩=>(by rw[<-r.β];show z,3));let j:f c⁻¹=ε:=d.Og.OG (LE _);refine(.ο c⁻¹,MT f c⁻¹ (.M7 xs),d.T0 (t':=c.MW) (λb u e=>sy _ e) (LE _) ?_,1,q _ j);show(z,us,(0),r,MV _ ζ)
end
@[reducible]def Sp:=List V->Hp->VK->XK->Prop
@[reducible]def CXT:=List Env->Hp->Shared->XK->Value->Shared->Prop
structure bx(P:Program)(w:World)(K:Frag)(mg:Str->Option Value)(base:Heap)(A:Around)(outer:List Env)(s:Shared)(H:Hp):Prop where
 frames:A.frames<*outer
 mod:Mod K mg base
 bs:∀b o,base.get? b<*o->s.heap.get? b=some o/\H b=none
 bsz:base.objs.size≤s⁻¹
 funs:s.heap.FunFrames base outer
 frf:∀b∈s_ outer,H b=none
 hok:Au P w H s.heap
 bare:AllBare s.gens
inductive CE(outer:List Env)(P:Program)(w:World)(H:Hp)(s:Shared)(Q:VK)(u:Value)(s':Shared):Prop
 |mk (v H':_) (_:s'.os=s.os) (_:AllBare s'.gens) (_:Un (s_ outer) [] H H' s.heap s'.heap) (_:Au P w H' s'.heap) (_:ae v u) (_:Q v H')
abbrev CR(CX:CXT)(Fr:γ WH)(P:NE)(w:N1)(H:Hp)(s:MJ)(Q:VK)(E:XK)(r:Result)(s':MJ):Prop:=
 match r with
 |.ok (.UX u)=>CE Fr P w H s Q u s'
 |.ok _=>NX
 |.SA e=>CX Fr H s E e s'
structure aa(P:Program)(w:World)(K:Frag)(mg:Str->Option Value)(base:Heap)(CX:CXT)(k:Nat)(f:Addr)(fd:FuncData)(ps:List Str)(sp:Sp):Prop where
 len:∀vs H Q E,sp vs H Q E->vs.length=ps.length
 run:∀(A:Around)(outer:List Env)(s:Shared)(H:Hp)(args:Args)(us:List Value)(vs:List V)(Q:VK)(E:XK),ak k A->bx P w K mg base A outer s H->BindsTo s fd args (ps.zip us)->ad vs us->sp vs H Q E->
  codeAny (model P w) A (.call (.ref f) args) (CR CX outer P w H s Q E) s
def aa.Pk{P:NE}{w:N1}{K:Nn}(F:aa P w K mg ς e j f d ps b)(h:j≤k):aa P w K mg ς e k f d ps b:=(F.PQ,λA Fr s H a us vs Q E c=>F.PM A Fr s H a us vs Q E (c.Pk h))
def bx.make{K:Nn}(e:bx P w K mg ς A Fr s H)(C:υ)(us:γ θ)(kw:γ (NB×θ)):bx P w K mg ς (A.XU (.Nk "type.__call__" (.ο C::us,kw))) Fr s H:=(by first|show e.Qc|(simpa[N2.XU,Xv.envs,Xv.isFrame,pushEnvs]using e.Qc),e.VX,e.bs,e.bsz,e.Vc,e.frf,e.Og,e.R5)
section
variable{X:Cx}{pins:List (Addr×Obj)}{σ:St}{H:Hp}{s s':Shared}
def f'.Zj(I:f' X M1 σ H s):bx X.Ξ X.w X.K X.mg X.ς X.A X.NC s H:=
 (I.ok.Qc,I.ok.VX,I.bs,IO I.ok.bsz I.sz,I.NC,I.Tj,I.Og,I.R5)
def f'.Xe(I:f' X M1 σ H s)(h:CE X.NC X.Ξ X.w H s Q u s'):EP X M1 σ Q u s':=by
 let⟨v,H',os,a,un,e,r,q⟩:=h;let⟨f,g,d,t,c⟩:=s';obtain ζ:c=s.os:=os;show(v,H',I.Qk (h':=f) (g':=g) (d':=d) (t':=t) (ch:=[]) un e a (λb z=>MM z (!1)),r,q)
end
abbrev Cq(sp:Sp)(Xb:γ V)(E:XK)(t:TA):TE:=λσ H Q=>t σ H λvs H1=>sp (vs++Xb) H1 Q E
abbrev vC(C:υ)(sp:Sp)(Xb:γ V)(E:XK)(t:TA):TE:=λσ H Q=>t σ H λvs H1=>∀x dx,H1 x=ε->H1 dx=ε->dx≠x->
 sp (.ο x::(vs++Xb)) (MT (MT H1 dx (.Xk x)) x (.Uq C dx [])) (λv H2=>v=.Rv/\Q (.ο x) H2) E
abbrev Ao(K:Nn)(fd:Sg)(ps:γ NB)(ds:γ θ):Prop:=
 ∀(s:MJ)(us:γ θ),K.In s.π->(us++ds).β=ps.β->X9 s fd (us,[]) (ps.Th (us++ds))
def Ao.QD{K:Nn}(h:∀us:γ θ,us.β=ps.β->TU b (us,[])=pure (ps.Th us)):Ao K b ps []:=λs us _ a=>by
 rw[Oe]at a⊢;show .of_eq (h us a)
abbrev Eu(CX:CXT)(X:Cx)(E:XK):Prop:=∀(M1:γ (υ×Rp))(σ:St)(H:Hp)(s:MJ)(e:θ)(s':MJ),f' X M1 σ H s->CX X.NC H s E e s'->X.xe e s'
section
variable{X:Cx}{CX:CXT}{k:Nat}{f C:Addr}{fd:FuncData}{ps:List Str}{sp:Sp}{dvs:List V}{ds:List Value}{E:XK}{x m:Str}{p pos apos:Pos}{e o:Expr}{es:List Expr}{ta:TE}{t:TA}
def kQ{c:St}(F:aa X.Ξ X.w X.K X.mg X.ς CX k f fd ps sp)(i:ak k X.A)(n:Ao X.K fd ps ds)(l:ad Xb ds)(g:Eu CX X E)(I:f' X a c H s)(r:ad vs us)(h:sp (vs++Xb) H Q E):Ω (Cl X.Ξ X.w) X.A (Qk (.ο f) us) (EP X a c Q) X.xe s:=by
 let d:ad (vs++Xb) (us++ds):=r.Ye l;let j:(us++ds).β=ps.β:=by rw[<-d.β];show F.PQ _ _ _ _ h
 refine QS (Pd (F.PM X.A X.NC s H (us,[]) (us++ds) (vs++Xb) Q E i I.Zj (n s us I.Tb j) d h) λr s' b=>?_);cases r with
 |SA e=>show g a c H s e s' I b
 |ok q=>
  cases q with
  |UX u=>show I.Xe b
  |next=>show NX.Nx b
  |Yk=>show NX.Nx b
  |UC=>show NX.Nx b
def mY(F:aa X.Ξ X.w X.K X.mg X.ς CX k f fd ps sp)(j:ak k X.A)(u:Gl X x)(l:X.mg x<*.ο f)(n:UR X.K (.ο f)=ξ)(z:Ao X.K fd ps ds)(y:ad Xb ds)(i:Eu CX X E)(B:PA X (e::es) t)(c:((x==("__debug__":NB))=η)>>>0)(v:(Θ (e::es) X.KK=(η,OM e X.KK,)::Θ es X.KK)>>>4)(b:((OF Nj (Θ es X.KK)).Ql (·.1)=η)>>>4):PE X (.QG (.N0 x p) (e::es) [] Nj) (Cq sp Xb E t):=by
 intro a s g H Q I h;refine Nc (v_ I u l ?_ c);refine WQ (h₀:=X.ς) I.ok.VX.Vz n (ri (B Nj a s g H _ I h) λus D⟨vs,J,d,r,q⟩=>(d.Tb,3)) v b;show kQ F j z y i d r q
structure Mk(K:Frag)(C f:Addr):Prop where
 makes:makesIn K C=true
 init:PySem.W.findIn K (.ref C) "__init__"<*some (.ref f)
 fn:isFn K (.ref f)=true
 kp:keepIn K (.ref C)=true
def CP{d:St}(M:Mk X.K C f)(F:aa X.Ξ X.w X.K X.mg X.ς CX k f fd ps sp)(q:ak (k+1) X.A)(B:Ao X.K fd ps ds)(z:ad Xb ds)(n:Eu CX X E)(I:f' X b d H s)(r:ad vs us)(h:∀x dx,H x=ε->H dx=ε->dx≠x->sp (.ο x::(vs++Xb)) (MT (MT H dx (.Xk x)) x (.Uq C dx [])) (λv N=>v=.Rv/\Q (.ο x) N) E):Ω (Cl X.Ξ X.w) X.A (Qk (.ο C) us) (EP X b d Q) X.xe s:=by
 let i:=h (s⁻¹+1) s⁻¹ (I.Og.OG (SF _)) (I.Og.OG (LE _)) (M_ (OC _));let c:=f'.made (C:=C) I;let g:ad (V.ο (s⁻¹+1)::(vs++Xb)) (θ.ο (s⁻¹+1)::(us++ds)):=.NZ ζ (r.Ye z);let y:(θ.ο (s⁻¹+1)::us++ds).β=ps.β:=by
  let e:=g.β;rw[F.PQ _ _ _ _ i]at e;show e.MQ
 refine QS (rH (f:=f) I.Tb M.makes M.init (Oy.mp M.fn) (Pd (F.PM _ X.NC _ _ (θ.ο (s⁻¹+1)::us,[]) (θ.ο (s⁻¹+1)::(us++ds)) _ _ E (q.make C us [])
  (c.Zj.make C us []) (B _ (θ.ο (s⁻¹+1)::us) c.Tb y) g i) λr s' a=>?_))
 cases r with
 |SA e=>show n b d _ _ e s' c a
 |ok D=>
  cases D with
  |UX u=>
   let⟨v,H',L,j,J,l⟩:=c.Xe a;subst J;show(j,(V.ο (s⁻¹+1),H',L,1,l))
  |next=>show NX.Nx a
  |Yk=>show NX.Nx a
  |UC=>show NX.Nx a
def FD(M:Mk X.K C f)(F:aa X.Ξ X.w X.K X.mg X.ς CX k f fd ps sp)(j:ak (k+1) X.A)(n:Gl X x)(l:X.mg x<*.ο C)(y:Ao X.K fd ps ds)(v:ad Xb ds)(i:Eu CX X E)(z:PA X (e::es) t)(c:((x==("__debug__":NB))=η)>>>0)(u:(Θ (e::es) X.KK=(η,OM e X.KK,)::Θ es X.KK)>>>4)(b:((OF Nj (Θ es X.KK)).Ql (·.1)=η)>>>4):PE X (.QG (.N0 x p) (e::es) [] Nj) (vC C sp Xb E t):=by
 intro a s g H Q I h;refine Nc (v_ I n l ?_ c);refine WQ (h₀:=X.ς) I.ok.VX.Vz M.kp (ri (z Nj a s g H _ I h) λus B⟨vs,D,d,r,q⟩=>(d.Tb,3)) u b;show CP M F j y v i d r q
def qQ(M:Mk X.K C f)(F:aa X.Ξ X.w X.K X.mg X.ς CX k f fd ps sp)(d:ak (k+1) X.A)(i:Gl X x)(g:X.mg x<*.ο C)(l:Ao X.K fd ps ds)(j:ad Xb ds)(c:Eu CX X E)(a:((x==("__debug__":NB))=η)>>>0):PE X (.QG (.N0 x p) [] [] Nj) (vC C sp Xb E Wz):=by
 intro b s n H Q I h;refine Nc (v_ I i g ?_ a);show Δ.W.callWith_K0 I.Tb M.kp (CP (us:=[]) M F d l j c I .Ow h)
end
section
variable{X:Cx}{CX:CXT}{k:Nat}{f C:Addr}{fd:FuncData}{ps ks:List Str}{sp:Sp}{E:XK}{x m:Str}{p pos apos kpos:Pos}{e o:Expr}{es:List Expr}{kws:List Keyword}{te ta:TE}{t tk:TA}{nm:Option Str}
variable{g:List Value->List Value->List Value}{gV:List V->List V->List V}
end
structure vw(N P:List Str)(sc:Scope):Prop where
 kind:sc.kind=.function
 co:sc.isCoroutine=false
 gen:sc.isGenerator=false
 nd:N.Nodup
 pre:N.take P.length=P
 par:∀x∈P,sc.names.lookup x<*.local\/sc.names.lookup x<*.cell
 nofree:∀y∈sc.names,y.2≠.free
def fL{Om:NB->ω QE}{x:NB}:∀{a:γ (NB×θ)}{m:NB->ω θ},(∀v,(x,v,)∉a)->Y9 Om a m x=m x
 |[],_,_=>rfl
 |(n,v)::r,m,h=>by
  unfold Y9;rw[fL λw hw=>h w (M4 _ hw)];split
  .have:x≠n:=by rintro ζ;show h v N8
   simp[this]
  .rfl
def Cd{Om:NB->ω QE}{x:NB}:∀{a:γ (NB×θ)}{m:NB->ω θ},(∀v,(x,v,)∉a)->Y_ Om a m x=m x
 |[],_,_=>rfl
 |(n,v)::r,m,h=>by
  unfold Y_;rw[Cd λw hw=>h w (M4 _ hw)];split
  .rfl
  .have:x≠n:=by rintro ζ;show h v N8
   simp[this]
def Ce{Om:NB->ω QE}{x:NB}{v:θ}:∀{P:γ NB}{vs:γ θ}{i:Φ}{m:NB->ω θ},P.Nz->P[i]?<*x->vs[i]?<*v->Om x<*.local->
  Y9 Om (P.Th vs) m x<*v
 |[],_,_,_,_,h,_,_=>by simp at h
 |_::_,[],_,_,_,_,h,_=>by simp at h
 |p::P,w::vs,0,m,a,h1,h2,b=>by
  simp at h1 h2;subst h1;subst h2;change Y9 Om ((p,w,)::P.Th vs) m p=_;unfold Y9;rw[fL λv c=>(Ty.mp a).1 (Uw c).1,Id b];simp
 |p::P,w::vs,i+1,m,a,h1,h2,b=>by
  change Y9 Om ((p,w,)::P.Th vs) m x=_;unfold Y9;show Ce (i:=i) (Ty.mp a).2 (by simpa using h1) (by simpa using h2) b
def fQ{Om:NB->ω QE}{x:NB}{v:θ}:∀{P:γ NB}{vs:γ θ}{i:Φ}{m:NB->ω θ},P.Nz->P[i]?<*x->vs[i]?<*v->Om x≠δ .local->
  Y_ Om (P.Th vs) m x<*v
 |[],_,_,_,_,h,_,_=>by simp at h
 |_::_,[],_,_,_,_,h,_=>by simp at h
 |p::P,w::vs,0,m,a,h1,h2,b=>by
  simp at h1 h2;subst h1;subst h2;change Y_ Om ((p,w,)::P.Th vs) m p=_;unfold Y_;rw[Cd λv c=>(Ty.mp a).1 (Uw c).1,BT b];simp
 |p::P,w::vs,i+1,m,a,h1,h2,b=>by
  change Y_ Om ((p,w,)::P.Th vs) m x=_;unfold Y_;show fQ (i:=i) (Ty.mp a).2 (by simpa using h1) (by simpa using h2) b
abbrev SQ(N:γ NB)(vs:γ V):St:=vs.NN δ++W5 (N.β-vs.β) ε
abbrev aG(CX:CXT)(P:NE)(w:N1)(K:Nn)(mg:NB->ω θ)(ς:NR)(N:γ NB)(M6:NB)(NG:RZ)(f:υ)(cd:θ)(A:N2)(Fr:γ WH)(s:MJ)(H:Hp)(E:XK):Cx where
 Ξ:=P
 w:=w
 K:=K
 mg:=mg
 ς:=ς
 A:=A.RH (S7 M6 NG s⁻¹ f cd)
 N:=N
 RN:=s
 XQ:=H
 KK:=S7 M6 NG s⁻¹ f cd
 Fr:=Fr
 NC:=S7 M6 NG s⁻¹ f cd::Fr
 ex:=[]
 T9:=ξ
 fn:=λ_=>ξ
 pn:=[]
 xe:=λe s'=>Ω (Cl P w) (A.RH (S7 M6 NG s⁻¹ f cd)) (SE (S7 M6 NG s⁻¹ f cd) e) (λ_ s''=>CX Fr H s E e s'') (λe' s''=>CX Fr H s E e' s'') s'
def CQ{sc:RZ}(h:sc.MR.ρ x<*.OA):∃c,(Vq n sc.MR []).ρ x<*c:=by
 let q:=Δ.W.Ya sc.MR n [] (.NJ h);show ω.isSome_iff_exists.mp q
def fb{F:CXT}{P:NE}{w:N1}{K:Nn}{mg:NB->ω θ}{ς:NR}{N ps:γ NB}{M6:NB}{d:RZ}{f:υ}{t:θ}{A:N2}{Fr:γ WH}{s B:MJ}{H:Hp}{E:XK}{us:γ θ}{vs:γ V}(S:vw N ps d)(L:A.PR=ε)(g:bx P w K mg ς A Fr s H)(Q:vs.β=ps.β)(r:ad vs us)(x:InCallC s s⁻¹ (Y9 (S7 M6 d s⁻¹ f t).Om (ps.Th us) λ_=>ε) (Vq (s⁻¹+1) d.MR []) (Y_ (S7 M6 d s⁻¹ f t).Om (ps.Th us) λ_=>ε) B):f' (aG F P w K mg ς N M6 d f t A Fr s H E) [] (SQ N vs) H B:=by
 let J:ps.β≤N.β:=by have:=Nb γ.β S.pre;rw[Qy]at this;lia
 let⟨h1,O,ζ,D⟩:=x.done;let j:∀b:υ,b∉(aG F P w K mg ς N M6 d f t A Fr s H E).ex:=λb z=>MM (show b∈([]:γ υ)from z) (!1);refine((g.VX,S.RT,5,LE _,λy z c h1 h2=>?_,λy l=>?_,λy c _ h=>?_,λ_=>L,N2.Yv g.Qc,.NU (1,1),λb z=>MM z (j b),g.bs,g.bsz,λb _ _=>j b,λb z=>MM z (j b),g.Vc,g.frf),
  rfl,g.R5,Un.SW D,(_,x.toInCall.ns,λi y v h1 h2 R=>?_),λy c h=>(_,x.OA y c h),g.Og.OG (LE _),λy c h=>?_,λp hp=>MM (show p∈([]:γ (υ×Rp))from hp) (!1),g.Og.SW D,3)
 .exact name_of_addr x.apart (Δ.OY h1) (Δ.OY h2)
 .let l:d.MR.ρ y<*.OA\/d.MR.ρ y<*.N6:=l;rcases l with l|l
  .exact CQ l
  .exact MM ζ (S.nofree _ (Δ.OY l))
 .exact Pq (x.WE y c (Δ.OY h))
 .let o:i<vs.β:=by
   unfold SQ at h2;by_cases o:i<vs.β
   .exact o
   .rw [MY (by simpa using o)]at h2;rw[γ.T6]at h2;split at h2<;>cases h2
  let M:vs[i]?<*v:=by
   unfold SQ at h2;rw[M0 (by simpa using o),tS]at h2;cases e:vs[i]? with
   |ε=>rw[e]at h2;cases h2
   |δ a=>rw[e]at h2;cases h2;rfl
  let⟨u,C,I⟩:=r.VI M;let hp:ps[i]?<*y:=by
   rw[<-S.pre,γ.V3 (!6)];show h1
  let m:ps.Nz:=by rw[<-S.pre];show S.nd.sublist (γ.take_sublist _ _)
  refine(u,I,3);rcases S.YN y (AC hp)with k|k
  .exact .NJ (k,Ce m hp C k)
  .obtain ⟨c,e⟩:=CQ (n:=s⁻¹+1) k;refine .NU (.NJ k,c,e,3);let q:=x.OA y c e;rw[fQ m hp C (by change d.MR.ρ y≠_;rw[k];decide)]at q;show q
 .exact g.Og.OG (Pq (x.WE y c (Δ.OY h)))
 .unfold SQ;change _=N.β;rw[w_,ol,PN];lia
def jC{z:CXT}{P:NE}{w:N1}{K:Nn}{mg:NB->ω θ}{ς:NR}{k:Φ}{f:υ}{OH M6:NB}{c:QO}{d:γ Nu}{a:RZ}{T kV Pm pm Qm ct Z:θ}{an Y:ω υ}{D:Nt (ω θ)}{N ps:γ NB}{B:Sp}(lk:K.ρ f<*(Z,Y,.Qb (Px OH M6 c d a T kV Pm pm an Qm ct),D))(M:PD K Qm M6=ξ)(S:vw N ps a)(PQ:∀vs H Q E,B vs H Q E->vs.β=ps.β)(i:∀(A:N2)(Fr:γ WH)(s:MJ)(H:Hp)(vs:γ V)(Q:VK)(E:XK),ak k (A.RH (S7 M6 a s⁻¹ f Qm))->B vs H Q E->
   ∃t,BA (aG z P w K mg ς N M6 a f Qm A Fr s H E) d t/\t {nx:=λ_ H'=>Q .Rv H',rt:=Q} (SQ N vs) H):aa P w K mg ς z (k+1) f (Px OH M6 c d a T kV Pm pm an Qm ct) ps B:=by
 refine(PQ,λA Fr s H U us vs Q E L p hb r l=>?_);let hl:=PQ _ _ _ _ l;let X:K.In s.π:=p.VX.Vz.Oq λb o e=>(p.bs b o e).1;let F:s.π.X7:=p.VX.Wf.Oq λb o e=>(p.bs b o e).1;let h:∀y∈ps.Th us,a.MR.ρ y.1<*.local\/(a.MR.ρ y.1=δ .OA/\((Vq (s⁻¹+1) a.MR []).ρ y.1).Rz=ξ):=λO hy=>by
  let⟨n,v⟩:=O;rcases S.YN n (Uw hy).1 with q|q
  .exact .NJ q
  .exact .NU (q,Δ.W.Ya _ _ _ (.NJ q))
 refine So L.Wo (X _ _ lk) ζ S.co S.gen ζ (Δ.W.codeRec_of X M) (hb _ _ _ _ ?_);refine YC S.RT h λKK he R x=>?_;subst he;refine(F.Oq x.toInCall.QC,Wp ?_);let⟨t,ht,hq⟩:=i A Fr s H vs Q E (L.RH _) l;let I:f' (aG z P w K mg ς N M6 a f Qm A Fr s H E) [] (SQ N vs) H R:=fb S L.hd p hl r x;refine NI (ht [] R (SQ N vs) H _ I hq) (λfl s' j=>?_) λe s' j=>j;let m:∀{g:St}{H':Hp}{v:V}{u:θ},f' (aG z P w K mg ς N M6 a f Qm A Fr s H E) [] g H' s'->ae v u->Q v H'->CE Fr P w H s Q u s':=
  λ{g H' v u}J C q=>(v,H',J.os,J.R5,J.ς,J.Og,C,q)
 cases fl with
 |UX u=>
  let⟨v,g,H',J,C,q⟩:=j;show m J C q
 |next=>
  let⟨g,H',J,q⟩:=j;show m (v:=V.Rv) (u:=θ.ε) J ζ q
 |Yk=>
  let⟨_,_,_,q⟩:=j;show NX.Nx q
 |UC=>
  let⟨_,_,_,q⟩:=j;show NX.Nx q
section
variable{X:Cx}{x:Str}{p pos:Pos}{e:Expr}{es:List Expr}{t:TA}{id T:String}{r:List V->Hp->VK->Prop}
abbrev BQ(r:γ V->Hp->VK->Prop)(t:TA):TE:=λσ H Q=>t σ H λvs H1=>r vs H1 Q
def Ds(q:Dg X (.Nk id) r)(n:Gl X x)(m:X.mg x=ε)(k:Tr x<*.Nk id)(u:PA X (e::es) t)(l:(x≠"__name__")>>>0)(c:((x==("__debug__":NB))=η)>>>0)(o:(Θ (e::es) X.KK=(η,OM e X.KK,)::Θ es X.KK)>>>4)(b:((OF Nj (Θ es X.KK)).Ql (·.1)=η)>>>4):PE X (.QG (.N0 x p) (e::es) [] Nj) (BQ r t):=by
 intro a s f H Q I h;refine Nc (Ad I n m k ?_ l c);show Oi.Sf.callWith_builtin1 (ri (u Nj a s f H _ I h) λus g d=>by let⟨vs,w,v,i,j⟩:=d;show q a g f w vs us Q v i j) o b
def Ev(q:Dg X (.MO T) r)(n:Gl X x)(m:X.mg x=ε)(k:Tr x<*.MO T)(u:PA X (e::es) t)(l:(x≠"__name__")>>>0)(c:((x==("__debug__":NB))=η)>>>0)(o:(Θ (e::es) X.KK=(η,OM e X.KK,)::Θ es X.KK)>>>4)(b:((OF Nj (Θ es X.KK)).Ql (·.1)=η)>>>4):PE X (.QG (.N0 x p) (e::es) [] Nj) (BQ r t):=by
 intro a s f H Q I h;refine Nc (Ad I n m k ?_ l c);show Oi.Sf.Pw (ri (u Nj a s f H _ I h) λus g d=>by let⟨vs,w,v,i,j⟩:=d;show q a g f w vs us Q v i j) o b
end
end L2
namespace HT
open PyProof.Rows
section
open PySem.SeqAt
open PySem.AutoSeq1 (wpAny_loadPart')
open PySem.MeetsSeq PySem.MeetsSeq2 PySem.MeetsSeq3
end
section
variable{prog:Program}{w:World}{A:Around}{E:Value->Shared->Prop}{s:Shared}
abbrev Sn(n d:Φ):ω MN->Φ
 |ε=>d
 |δ v=>if v<0 then(v+(n:MN)).Ou else min v.Ou n
def CS(n d:Φ):Sn n d ε=d:=ζ
def DP(n d k:Φ):Sn n d (δ (k:MN))=min k n:=by
 change (if (k:MN)<0 then((k:MN)+(n:MN)).Ou else min (k:MN).Ou n)=min k n;rw[BT (!6),MN.V6]
def wI(n d:Φ)(b:d≤n)(o:ω MN):Sn n d o≤n:=by
 cases o with
 |ε=>show b
 |δ v=>
  change (if v<0 then(v+(n:MN)).Ou else min v.Ou n)≤n;by_cases a:v<0
  .rw [Id a];lia
  .rw [BT a];show Φ.min_le_right _ _
def nU(v:MN)(n d:Φ):(if v<0 then max (v+(n:MN)) 0 else min v (n:MN))=((Sn n d (δ v):Φ):MN):=by
 change (if v<0 then max (v+(n:MN)) 0 else min v (n:MN))=(((if v<0 then(v+(n:MN)).Ou else min v.Ou n):Φ):MN);by_cases a:v<0
 .simp only[Id a];lia
 .simp only[BT a];lia
def my(lo a:ω MN)(n:Φ):Builtin.Vk.Z8 lo a 1 (n:MN)=(((Sn n 0 lo:Φ):MN),((Sn n n a:Φ):MN),):=by
 let h1:¬ ((1:MN)<0):=by lia
 unfold Builtin.Vk.Z8;simp only[h1,Uh];refine Up.XD ?_ ?_
 .cases lo with
  |ε=>rfl
  |δ v=>show nU v n 0
 .cases a with
  |ε=>rfl
  |δ v=>show nU v n n
def lc(i j:Φ):Builtin.Vk.XV (i:MN) (j:MN) 1=j-i:=by
 unfold Builtin.Vk.XV;let h1:(1:MN)>0:=by lia
 simp only[h1,Wj,MN.ediv_one];split<;>lia
def Lf(p:XO v o)(h:Q o s):Ω (Cl Ξ w) A (Builtin.Vk.slicePartIndex v) Q E s:=by
 cases p with
 |ε=>show slicePart_none h
 |MS i t=>show slicePart_int h
def L8{lo b:ω MN}{n:Φ}(g:s.π.ZF e d vu .ε)(pl:XO d lo)(f:XO vu b)(h:Q (((Sn n 0 lo:Φ):MN),1,Sn n n b-Sn n 0 lo,) s):Ω (Cl Ξ w) A (Builtin.Vk.sliceApplied (.ο e) (pure (n:MN))) Q E s:=by
 let⟨os,a,i,c⟩:=id g;unfold Builtin.Vk.sliceApplied Builtin.Vk.sliceFields;refine d_ (d_ (NQ a c (x:=d) ζ (d_ (NQ a c (x:=vu) ζ (d_ (NQ a c (x:=.ε) ζ (j' ?_)))))));refine d_ (slicePart_none ?_);change Ω _ _ (if ((1:MN)==0)=ξ then _ else _) _ _ s;rw[BT (!0)];refine d_ (Lf pl (d_ (Lf f (d_ (j' ?_)))));change Ω _ _ (match Builtin.Vk.Z8 lo b 1 (n:MN)with|(lo,b)=>pure (lo,(1:MN),Builtin.Vk.XV lo b 1,)) _ _ s;rw[my lo b n];change Ω _ _ (pure (((Sn n 0 lo:Φ):MN),(1:MN),Builtin.Vk.XV ((Sn n 0 lo:Φ):MN) ((Sn n n b:Φ):MN) 1,)) _ _ s;rw[lc];show j' h
def qJ(xs:Nt θ)(i k:Φ):((γ.N4 k).XC λ(m:Φ)=>xs[((i:MN)+(m:MN)*1).Ou]?).χ=((xs.NF.Py i).OE k).χ:=by
 let e:(λ(m:Φ)=>xs[((i:MN)+(m:MN)*1).Ou]?)=λm=>xs[i+m]?:=by
  funext m;have:((i:MN)+(m:MN)*1).Ou=i+m:=by lia
  rw[this]
 rw[e];have:=pick_run xs i k;rw[γ.filterMap_map]at this;let a:((λx=>xs[x]?)∘λx=>i+x)=λm=>xs[i+m]?:=ζ;rw[a]at this;rw[this]
def Bh{lo c:ω MN}(d:WF s.π t a)(k:s.π.ZF j l vu .ε)(pl:XO l lo)(n:XO vu c)(hw:¬ (Sn a.MX 0 lo=0/\Sn a.MX a.MX c=a.MX))(h:Q (.ο s⁻¹) {s with π:=s.π.Nh {OO:=.MO "tuple",NL:=.Sz ((a.NF.Py (Sn a.MX 0 lo)).OE (Sn a.MX a.MX c-Sn a.MX 0 lo)).χ} })(V_:a.MX≤Λ):Ω (Cl Ξ w) A (X2 (.ο t) (.ο j)) Q E s:=by
 let b:sizeOk (.Sz ((a.NF.Py (Sn a.MX 0 lo)).OE (Sn a.MX a.MX c-Sn a.MX 0 lo)).χ):=by
  change ((a.NF.Py (Sn a.MX 0 lo)).OE (Sn a.MX a.MX c-Sn a.MX 0 lo)).χ.MX≤Λ;rw[NH,Qy,UI,Po];omega
 let u:Sn a.MX a.MX c≤a.MX:=wI _ _ (LE _) c;let⟨os,e,g,o⟩:=id k;let i:s.Se (.ο j) "slice":=(os,e,g);unfold X2;try with_reducible refine NT ?_
 first|refine d_ (j' ?_)|skip
 refine d_ (wpAny_sequenceKey d.Q' (!0) ?_);refine d_ (OT (OH:=NB.Ni "__getitem__") d.Q' Oi.Sf.Tx
  (Oj Oi.Sf.Tx d.Q' entry_tuple_getitem ?_ (args_tuple_getitem _ _)))
 change Ω _ _ (Builtin.Qw.ZR (.ο t)>>=_) _ _ s;refine d_ (tupleItemsOf_ d ?_);refine d_ (WX i ?_);rw[Id (!0)];refine d_ (L8 k pl n ?_);let f:¬ ((((Sn a.MX 0 lo:Φ):MN)==0&&(1:MN)==1&&(Sn a.MX a.MX c-Sn a.MX 0 lo)==a.MX)=ξ):=by
  intro q;rw[Oz,Oz]at q;let r:((Sn a.MX 0 lo:Φ):MN)=0:=SU q.1.1;let p:Sn a.MX a.MX c-Sn a.MX 0 lo=a.MX:=SU q.2;show hw (!6,!6)
 change Ω _ _ (if (((Sn a.MX 0 lo:Φ):MN)==0&&(1:MN)==1&&(Sn a.MX a.MX c-Sn a.MX 0 lo)==a.MX)=ξ then _ else _) _ _ s;rw[BT f,qJ];first
  |show d_ (m:=Builtin.Qw.YG _) (On (j' (0,j' h)) b)
  |show d_ (m:=Builtin.Qw.YG _) (On (d_ (j' (j' (0,j' h)))) b)
  |show d_ (d_ (m:=Builtin.Qw.YG _) (On (j' (j' (0,j' h))) b))
  |show d_ (d_ (m:=Builtin.Qw.YG _) (On (j' (0,j' h)) b))
end
end HT
namespace L2
open PySem.Spec PyProof.Rows
@[reducible]def TO:=St->Hp->(Option Int->Hp->Prop)->Prop
abbrev PO(X:Cx)(e:ω Rb)(t:TO):Prop:=
 ∀(M1:γ (υ×Rp))(s:MJ)(σ:St)(H:Hp)(Q:ω MN->Hp->Prop),f' X M1 σ H s->t σ H Q->
  Ω (Cl X.Ξ X.w) X.A (evalPart e X.KK) (λu s'=>∃o H',f' X M1 σ H' s'/\XO u o/\Q o H') X.xe s
abbrev tNoPart:TO:=λ_ H Q=>Q ε H
inductive wn(Q:Option Int->Hp->Prop)(x:V)(H1:Hp):Prop
 |mk (i:_) (_:x=.int i) (_:Q (some i) H1)
abbrev x6(t:TE):TO:=λσ H Q=>t σ H (wn Q)
section
variable{X:Cx}{e:Expr}{te:TE}{lo hi:Option Expr}{tl th:TO}{pos p2:Pos}
def GC:PO X ε tNoPart:=by
 intro a s b H Q I h;rw[evalPart_none];show j' (ε,H,I,.ε,h)
def FE(h:PE X e te):PO X (δ e) (x6 te):=by
 intro a s c H Q I hw;rw[evalPart_some];refine ri (h a s c H _ I hw) λu k b=>?_;let⟨x,j,g,d,f⟩:=b;let⟨i,ζ,q⟩:=f;let⟨t,ζ⟩:=d;show(δ i,j,g,.MS i t,q)
abbrev HR(X:Cx)(r:V->ω MN->ω MN->Hp->VK->Prop):Prop:=
 ∀(M1:γ (υ×Rp))(s:MJ)(σ:St)(H:Hp)(x:V)(v vl vu:θ)(lo hi:ω MN)(sl:υ)(Q:VK),f' X M1 σ H s->ae x v->s.π.ZF sl vl vu .ε->XO vl lo->XO vu hi->r x lo hi H Q->
  ∃T id,YF (.MO T) "__getitem__"=pure (δ (.Nk id))/\s.Se v T/\Ω (Cl X.Ξ X.w) X.A (X2 v (.ο sl)) (EP X M1 σ Q) X.xe s
abbrev L9(r:V->ω MN->ω MN->Hp->VK->Prop)(te:TE)(tl th:TO):TE:=λσ H Q=>te σ H λx H1=>tl σ H1 λl H2=>th σ H2 λu H3=>r x l u H3 Q
def Gh(B:HR X r)(E:PE X e te)(C:PO X lo tl)(y:PO X hi th):PE X (.Uo e (.Vk lo hi ε p2) Nj) (L9 r te tl th):=by
 intro a s d H Q I h;refine Subscript_ (ri (E a s d H _ I h) λv k i=>?_);let⟨x,P,N,m,p⟩:=i;refine wpAny_Slice (ri (C a k d P _ N p) λf s2⟨l,O,M,pl,o⟩=>ri (y a s2 d O _ M o) λvu c g=>?_);let⟨u,j,L,t,n⟩:=g;rw[evalPart_none];refine j' ?_;let J:f' X a d j {c with π:=c.π.Nh {OO:=.MO "slice",NL:=.OB #[f,vu,.ε]} }:=L.SW (t':=c.MW) λb R q=>sy _ q;let⟨T,id,F,z,D⟩:=B a {c with π:=c.π.Nh {OO:=.MO "slice",NL:=.OB #[f,vu,.ε]} } d j x v f vu l u c⁻¹ Q J m (NR.ZF.X0 ..) pl t n;change Ω (Cl X.Ξ X.w) X.A (subscriptTail e (.Vk lo hi ε p2) v (.ο c⁻¹)) (EP X a d Q) X.xe {c with π:=c.π.Nh {OO:=.MO "slice",NL:=.OB #[f,vu,.ε]} };show WZ (ops:=[.ο c⁻¹,v]) z F D (by with_unfolding_all rfl)
abbrev AL(xs:γ V)(lo hi:ω MN):γ V:=(xs.Py (HT.Sn xs.β 0 lo)).OE (HT.Sn xs.β xs.β hi-HT.Sn xs.β 0 lo)
def Lh(xs:γ V)(lo hi:ω MN):(AL xs lo hi).β≤xs.β:=by
 unfold AL;rw[Qy,UI];lia
inductive zX(K:Frag)(x:V)(lo:Option Int)(hi:Option Int)(H:Hp)(Q:VK):Prop
 |mk (a xs:_) (_:x=.ref a) (_:u0 K H a xs) (_:¬ (HT.sIx xs.length 0 lo=0/\HT.sIx xs.length xs.length hi=xs.length)) (_:∀p,H p=none->Q (.ref p) (upd H p (.tup (AL xs lo hi))))
def wD:HR X (zX X.K):=by
 intro f s m H x v n vu lo hi p Q I i l pl j h;let⟨a,xs,ζ,k,hw,q⟩:=h;cases i;let⟨d,r,g,hz⟩:=I.P_ k;let c:d.χ.MX=xs.β:=by rw[NH];show r.β.MQ
 refine("tuple",_,Oi.Sf.Tx.ρ,g.Q',3);refine HT.Bh g l pl j (by rw[c];show hw) ?_ (by rw[c];show hz);rw[c];refine(.ο s⁻¹,_,I.T0 (t':=s.MW) (o:=.No (AL xs lo hi)) (λb t q=>sy _ q) (LE _) ?_,1,q _ (I.Og.OG (LE _)));show(IO (Lh xs lo hi) hz,_,(r.Py (HT.Sn xs.β 0 lo)).OE (HT.Sn xs.β xs.β hi-HT.Sn xs.β 0 lo),WF.X0 _ _)
end
abbrev Fq(n:Φ)(i:MN):ω Φ:=if 0≤i then(if i<n then δ i.Ou else ε)else if -(n:MN)≤i then δ (i+n).Ou else ε
abbrev AN{α:Type}(xs:γ α)(i:MN):ω α:=(Fq xs.β i).Wr λj=>xs[j]?
def uN(h:Fq n i<*j):seqIndex? i n=δ j/\j<n/\-(n:MN)≤i/\i<n:=by
 unfold Fq at h;by_cases h0:0≤i
 .rw [Id h0]at h;by_cases h1:i<n
  .rw [Id h1]at h;let e:i.Ou=j:=ω.δ.QK h;show(by rw[seqIndex_of h0 h1,e],!6,!6,h1)
  .rw [BT h1]at h;cases h
 .rw [BT h0]at h;by_cases h1:-(n:MN)≤i
  .rw [Id h1]at h;let e:(i+n).Ou=j:=ω.δ.QK h;show(by rw[seqIndex_neg (!6) h1,e],!6,h1,!6)
  .rw [BT h1]at h;cases h
def ii{xs:γ a}{v:a}(h:AN xs i<*v):∃j,seqIndex? i xs.β=δ j/\xs[j]?=δ v/\j<xs.β/\-(xs.β:MN)≤i/\i<xs.β:=by
 unfold AN at h;cases e:Fq xs.β i with
 |ε=>rw[e]at h;cases h
 |δ j=>
  rw[e]at h;let⟨h1,h2,c,b⟩:=uN e;show(j,h1,h,h2,c,b)
def AG{xs:γ a}{j:Φ}{v:a}(h:xs[j]?<*v):AN xs (j:MN)<*v:=by
 let b:j<xs.β:=(q5 h).1;let e:Fq xs.β (j:MN)<*j:=by
  unfold Fq;rw[Id (!6),Id (!6)];simp
 unfold AN;rw[e];show h
def IR(xs:γ a)(v:a):AN (xs++[v]) (-1)<*v:=by
 let b:(xs++[v]).β=xs.β+1:=by simp
 let e:Fq (xs++[v]).β (-1)<*xs.β:=by
  unfold Fq;rw[b,BT (!0),Id (!6)];congr 1;lia
 unfold AN;rw[e];change (xs++[v])[xs.β]?<*v;simp
abbrev io(b:Rb):Prop:=∀o i,subscripted b η o i=operate [o,i] (X2 o i)
abbrev CT(X:Cx)(r:R2):Prop:=
 ∀(value VB:Rb)(M1:γ (υ×Rp))(s:MJ)(σ:St)(H:Hp)(x y:V)(v u:θ)(Q:VK),f' X M1 σ H s->ae x v->ae y u->r x y H Q->
  subscripted VB η v u=operate [v,u] (X2 v u)->Ω (Cl X.Ξ X.w) X.A (subscriptTail value VB v u) (EP X M1 σ Q) X.xe s
abbrev JM(X:Cx)(id:Yg)(r:V->γ V->Hp->VK->Prop):Prop:=
 ∀(M1:γ (υ×Rp))(s:MJ)(σ:St)(H:Hp)(x:V)(xs:γ V)(v:θ)(us:γ θ)(Q:VK),f' X M1 σ H s->ae x v->ad xs us->r x xs H Q->
  Ω (Cl X.Ξ X.w) X.A (Qk (.Nk id) (v::us)) (EP X M1 σ Q) X.xe s
section
variable{X:Cx}{a b:Expr}{ta tb:TE}{pos:Pos}
def CT.or(h:CT X r)(h':CT X k):CT X (λx y H Q=>r x y H Q\/k x y H Q):=by
 intro c d e s f H x y v u Q I i g q j;rcases q with q|q
 .exact h c d e s f H x y v u Q I i g q j
 .exact h' c d e s f H x y v u Q I i g q j
def rz(i:CT X r)(k:PE X a ta)(j:PE X b tb)(g:io b):PE X (.Uo a b Nj) (Fo r ta tb):=by
 intro c s d H Q I h;show Subscript_ (GB k j I h λv u s2 x y m l f e q=>i a b c s2 d m x y v u Q l f e q (g _ _))
inductive qD(K:Frag)(x:V)(y:V)(H:Hp)(Q:VK):Prop
 |mk (p xs i v:_) (_:x=.ref p) (_:y=.int i) (_:o5 K H p xs) (_:AN xs i<*v) (_:Q v H)
inductive kY(K:Frag)(x:V)(y:V)(H:Hp)(Q:VK):Prop
 |mk (p xs i v:_) (_:x=.ref p) (_:y=.int i) (_:u0 K H p xs) (_:AN xs i<*v) (_:Q v H)
inductive rIxS(x:V)(y:V)(H:Hp)(Q:VK):Prop
 |mk (z i c:_) (_:x=.str z) (_:y=.int i) (_:z.length≤sizeLine) (_:AN z.cps.toList i<*c) (_:Q (.str ⟨#[c]⟩) H)
def bW:CT X (qD X.K):=by
 intro e f c s m H x y v u Q I B A h n;let⟨p,xs,i,z,ζ,ζ,C,E,q⟩:=h;cases B;let⟨t,ζ⟩:=A;let⟨k,r,pl,hz⟩:=I.Qx C;let⟨j,h1,h2,M,J,F⟩:=ii E;let⟨w,o,g⟩:=r.VI h2;let D:=r.β;let L:=df;let d:EP X c m Q w s:=(z,H,I,g,q);by_cases h0:0≤i
 .let l:i.Ou=j:=by
   rw[seqIndex_of h0 F]at h1;show ω.δ.QK h1
  show item_listR pl.QW h0 (!6) (by rw[l];simpa using o) d n
 .let l:(i+(k.χ.MX:MN)).Ou=j:=by
   rw[seqIndex_neg (!6) J]at h1;rw[NH,<-D];show ω.δ.QK h1
  show ZU (x:=w) pl.QW.Q' slot_list_getitem.ρ
   (wpAny_getItem_list_neg (Q:=λr s'=>r=w/\EP X c m Q r s') pl.QW (!6) (by rw[NH]<;>lia) (!6) (by rw[l];simpa using o) (1,d)) n
def dh:CT X (kY X.K):=by
 intro d e c s k H x y v u Q I m l h o;let⟨p,xs,i,z,ζ,ζ,A,C,q⟩:=h;cases m;let⟨t,ζ⟩:=l;let⟨n,r,pl,hz⟩:=I.P_ A;let⟨j,h1,h2,L,J,F⟩:=ii C;let⟨w,D,f⟩:=r.VI h2;let B:=r.β;let E:=df;let g:EP X c k Q w s:=(z,H,I,f,q);show ZU (x:=w) pl.Q' Tx.ρ
  (getItem_tuple (j:=j) (Q:=λr s'=>r=w/\EP X c k Q r s') pl (!6) (!6) (by rw[NH,<-B];show h1) (by simpa using D) (1,g)) o
def gX:CT X rIxS:=by
 intro d e f s A H x y v u Q I k g h l;let⟨z,i,c,ζ,ζ,hz,n,q⟩:=h;let⟨t,ζ⟩:=k;let⟨t',ζ⟩:=g;let⟨j,h1,h2,C,p,o⟩:=ii n;let m:z.Tc.NF.β=z.β:=by simp[β]
 rw[m]at h1 p o;let B:=df;show WZ (typeIs_str s z t) slot_str_getitem.ρ (getItem_str (c:=c) (by
  let w:decide (i < -(2^63:MN))=η:=M5 (!6);let r:decide (i≥2^63)=η:=M5 (!6);rw[w,r,MZ.N7]) (by rw[h1];simpa using h2) (.NA ⟨#[c]⟩,H,I.Tw _,(_,ζ),q)) l
abbrev L_(K:Nn):R2:=λx y H Q=>qD K x y H Q\/kY K x y H Q\/rIxS x y H Q
def rQ:CT X (L_ X.K):=bW.or (dh.or gX)
def f'.M7{f:St}(I:f' X d f H s)(h:H p<*.M7 xs):∃(c:γ θ)(n:Φ),ad xs c/\s.π.ψ p=δ {OO:=.MO "list",NL:=.Sz c.χ n}/\xs.β≤Λ:=by
 let⟨z,c,n,r,e⟩:=I.Og p _ h;show(c,n,r,e,z)
def gt(lo c:ω MN)(n:Φ):(TH lo c ε n).1=((HT.Sn n 0 lo:Φ):MN)/\(TH lo c ε n).2.1=((HT.Sn n n c:Φ):MN)/\(TH lo c ε n).2.2=1:=by
 refine(3,3,1)
 .cases lo with
  |ε=>simp[TH,HT.Sn]
  |δ i=>
   simp only[TH,HT.Sn,ω.getD_none,show(1:MN)>0 by decide,Wj];by_cases h:i<0
   .simp only[h,Wj]<;>lia
   .simp only[h,Uh]<;>lia
 .cases c with
  |ε=>simp[TH,HT.Sn]
  |δ i=>
   simp only[TH,HT.Sn,ω.getD_none,show(1:MN)>0 by decide,Wj];by_cases h:i<0
   .simp only[h,Wj]<;>lia
   .simp only[h,Uh]<;>lia
def Ma(c:γ θ)(lo d:ω MN):slicePick c.χ lo d ε=((c.Py (HT.Sn c.β 0 lo)).OE (HT.Sn c.β c.β d-HT.Sn c.β 0 lo)).χ:=by
 let⟨h1,h2,e⟩:=gt lo d c.χ.MX;unfold slicePick;rw[h1,h2,e];simp only[sliceRange_one,pick_run,NH]<;>rfl
inductive yI(K:Frag)(x:V)(lo:Option Int)(hi:Option Int)(H:Hp)(Q:VK):Prop
 |mk (a xs:_) (_:x=.ref a) (_:o5 K H a xs) (_:∀p,H p=none->Q (.ref p) (upd H p (.lst (AL xs lo hi))))
def HS:HR X (yI X.K):=by
 intro e s m H x v n vu lo d p Q I g l pl i h;let⟨a,xs,ζ,k,q⟩:=h;cases g;let⟨j,r,f,hz⟩:=I.Qx k;let c:=r.β;refine("list",_,slot_list_getitem.ρ,f.QW.Q',3);refine wpAny_getItem_list_slice f.QW l pl i .ε (!1) ?_ (by rw[NH]<;>lia);rw[Ma,<-c];refine(.ο s⁻¹,_,I.T0 (t':=s.MW) (o:=.M7 (AL xs lo d)) (λb t q=>sy _ q) (LE _) ?_,1,q _ (I.Og.OG (LE _)));show(IO (Lh xs lo d) hz,_,(0),(r.Py (HT.Sn xs.β 0 lo)).OE (HT.Sn xs.β xs.β d-HT.Sn xs.β 0 lo),MV _ ζ)
abbrev bp:V->MZ
 |.Rv=>ξ
 |.bl _=>ξ
 |.MS _=>ξ
 |.NA _=>ξ
 |_=>η
abbrev FF:V->V->MZ
 |.Rv,.Rv=>ξ
 |.bl a,.bl b=>a==b
 |.bl a,.MS b=>(if a then 1 else 0)==b
 |.MS a,.bl b=>a==(if b then 1 else 0)
 |.MS a,.MS b=>a==b
 |.NA a,.NA b=>a==b
 |_,_=>η
def GE(d:ae y u)(c:ae x v)(f:bp y=ξ)(e:bp x=ξ):PV.R6 A s u v (FF y x):=by
 cases y with
 |Rv=>
  cases d;cases x with
  |Rv=>cases c;show PV.R6.OR _
  |bl b=>cases c;show PV.R6.none_bool b
  |MS b=>let⟨t,ζ⟩:=c;show PV.R6.none_int b t
  |NA b=>let⟨t,ζ⟩:=c;show PV.R6.none_str b t
  |_=>show MM (show η=ξ from e) MZ.M'
 |bl a=>
  cases d;cases x with
  |Rv=>cases c;show PV.R6.bool_none a
  |bl b=>cases c;show PV.R6.Y8 a b
  |MS b=>let⟨t,ζ⟩:=c;show PV.R6.bool_int a b t
  |NA b=>let⟨t,ζ⟩:=c;show PV.R6.bool_str a b t
  |_=>show MM (show η=ξ from e) MZ.M'
 |MS a=>
  let⟨t',ζ⟩:=d;cases x with
  |Rv=>cases c;show PV.R6.int_none a t'
  |bl b=>cases c;show PV.R6.int_bool a t' b
  |MS b=>let⟨t,ζ⟩:=c;show PV.R6.Zd a t' b t
  |NA b=>let⟨t,ζ⟩:=c;show PV.R6.int_str a t' b t
  |_=>show MM (show η=ξ from e) MZ.M'
 |NA a=>
  let⟨t',ζ⟩:=d;cases x with
  |Rv=>cases c;show PV.R6.str_none a t'
  |bl b=>cases c;show PV.R6.str_bool a t' b
  |MS b=>let⟨t,ζ⟩:=c;show PV.R6.str_int a t' b t
  |NA b=>let⟨t,ζ⟩:=c;show PV.R6.str_str a t' b t
  |_=>show MM (show η=ξ from e) MZ.M'
 |_=>show MM (show η=ξ from f) MZ.M'
abbrev FG(x:V)(u:θ):MZ:=match u with
 |.ε=>FF .Rv x
 |.Ph b=>FF (.bl b) x
 |.MS i _=>FF (.MS i) x
 |.NA z _=>FF (.NA z) x
 |_=>η
def EO(r:ae y u)(f:bp y=ξ):FG x u=FF y x:=by
 cases y with
 |Rv=>cases r;rfl
 |bl b=>cases r;rfl
 |MS i=>let⟨t,ζ⟩:=r;rfl
 |NA z=>let⟨t,ζ⟩:=r;rfl
 |_=>show MM (show η=ξ from f) MZ.M'
def il{x:V}:∀{xs:γ V}{us:γ θ},ad xs us->xs.QD bp=ξ->us.Ql (FG x)=xs.Ql λy=>FF y x
 |_,_,.Ow,_=>rfl
 |y::xs,u::us,.NZ r t,f=>by
  rw[γ.all_cons,Oz]at f;rw[γ.any_cons,γ.any_cons,EO r f.1,il t f.2]
def BR{A:N2}{s:MJ}{x:V}{v:θ}(d:ae x v)(e:bp x=ξ):∀{xs:γ V}{us:γ θ},ad xs us->xs.QD bp=ξ->∀u∈us,PV.R6 A s u v (FG x u)
 |_,_,.Ow,_=>λu c=>by cases c
 |y::xs,u::us,.NZ r t,f=>λg c=>by
  rw[γ.all_cons,Oz]at f;rcases MP.mp c with ζ|c
  .rw [EO r f.1];show GE r d f.1 e
  .exact BR d e t f.2 g c
abbrev EQ(x:V)(xs:γ V):MZ:=xs.Ql λy=>FF y x
inductive Li(K:Frag)(neg:Bool)(x:V)(y:V)(H:Hp)(Q:VK):Prop
 |mk (p xs:_) (_:y=.ref p) (_:(o5 K H p xs\/u0 K H p xs)) (_:bp x=true) (_:xs.all bp=true) (_:Q (.bl (if neg then !EQ x xs else EQ x xs)) H)
def IS:AQ X (O8 .In) (Li X.K η):=by
 intro f s j H x y v u Q I e i h;let⟨p,xs,ζ,d,g,fs,q⟩:=h;cases i;rcases d with d|d
 .obtain ⟨c,r,pl,hz⟩:=I.Qx d;refine PV.in_listAt (FG x) pl.QW (λw hw=>BR e g r fs w (by simpa using hw)) (.bl _,H,I,1,3);rw[show c.χ.Ql (FG x)=c.Ql (FG x) by simp,il r fs];show q
 .obtain ⟨c,r,pl,hz⟩:=I.P_ d;refine PV.in_tupleAt (FG x) pl (λw hw=>BR e g r fs w (by simpa using hw)) (.bl _,H,I,1,3);rw[show c.χ.Ql (FG x)=c.Ql (FG x) by simp,il r fs];show q
def Hb:Dg X (.Nk "len") (λxs H Q=>∃p ys,xs=[.ο p]/\(o5 X.K H p ys\/u0 X.K H p ys)/\Q (.MS ys.β) H):=by
 intro g s j H xs us Q I r h;let⟨p,ys,ζ,d,q⟩:=h;let⟨u,ζ,i⟩:=Dr r;cases i;let k:=df;rcases d with d|d
 .obtain ⟨f,e,pl,hz⟩:=I.Qx d;let c:=e.β;show SB.call_len_list pl.QW (by simp only[NH]<;>lia) (.MS ys.β,H,I.Tw _,(s.MW+1,by rw[NH,c]),q)
 .obtain ⟨f,e,pl,hz⟩:=I.P_ d;let c:=e.β;show len_tuple pl (by simp only[NH]<;>lia) (.MS ys.β,H,I.Tw _,(s.MW+1,by rw[NH,c]),q)
def Lj:Dg X (.Nk "len") (λxs H Q=>∃z,xs=[.NA z]/\z.β≤Λ/\Q (.MS z.β) H):=by
 intro c s d H xs us Q I r h;let⟨z,ζ,hz,q⟩:=h;let⟨u,ζ,t,ζ⟩:=Dr r;let e:=df;show len_str (!6) (.MS z.β,H,I.Tw _,(_,ζ),q)
def Lk:Dg X (.MO "list") (λxs H Q=>∃p ys,xs=[.ο p]/\(o5 X.K H p ys\/u0 X.K H p ys)/\∀l,H l=ε->Q (.ο l) (MT H l (.M7 ys))):=by
 intro g s z H xs us Q I r h;let⟨p,ys,ζ,j,q⟩:=h;let⟨u,ζ,A⟩:=Dr r;cases A;let m:∀(c:γ θ),ad ys c->ys.β≤Λ->∀(h':NR)(f:Φ),(∀b y,s.π.ψ b<*y->h'.ψ b<*y)->
   h'.ψ s⁻¹<*{OO:=.MO "list",Pz:=ε,NL:=.Sz c.χ f,Ry:=#[]}->EP X g z Q (.ο s⁻¹) {s with π:=h'}:=λc d hz h' f i e=>
  (.ο s⁻¹,_,I.T0 (t':=s.MW) i (LE _) (show Az X.Ξ X.w _ h' _ (.M7 ys)from(hz,c,f,d,e)),1,q _ (I.Og.OG (LE _)))
 rcases j with j|j
 .obtain ⟨c,d,pl,hz⟩:=I.Qx j;let k:=d.β;let⟨o,t,x,n,v⟩:=pl.QW;show call_list_seq p (.NJ ζ) t x v (λh' f i e=>m c d hz h' f i e) (by simp only[NH]<;>lia)
 .obtain ⟨c,d,pl,hz⟩:=I.P_ j;let k:=d.β;let⟨o,t,x,n,v⟩:=pl;show call_list_seq p (.NU ζ) t x v (λh' f i e=>m c d hz h' f i e) (by simp only[NH]<;>lia)
def Gi:Dg X (.MO "tuple") (λxs H Q=>∃p ys,xs=[.ο p]/\((o5 X.K H p ys/\∀l,H l=ε->Q (.ο l) (MT H l (.No ys)))\/(u0 X.K H p ys/\Q (.ο p) H))):=by
 intro c s i H xs us Q I r h;let⟨p,ys,ζ,h⟩:=h;let⟨u,ζ,m⟩:=Dr r;cases m;rcases h with⟨g,q⟩|⟨g,q⟩
 .obtain ⟨d,f,pl,hz⟩:=I.Qx g;let j:=f.β;refine call_tuple_list pl.QW (λh' n=>?_) (by simp only[NH]<;>lia);let k:f' X c i H {s with π:=h'}:=I.SW (t':=s.MW) n;let t:f' X c i (MT H h'.Nr.MX (.No ys)) {s with π:=h'.Nh {OO:=.MO "tuple",NL:=.Sz d.χ} }:=
   k.T0 (t':=s.MW) (λb o e=>sy _ e) (LE _) (show Az X.Ξ X.w _ _ _ (.No ys)from(hz,d,f,WF.X0 _ _))
  show(.ο h'.Nr.MX,_,t,1,q _ (k.Og.OG (LE _)))
 .obtain ⟨d,f,pl,hz⟩:=I.P_ g;show call_tuple_same pl (.ο p,H,I,1,q)
abbrev JN(K:Nn)(T:Yg)(x:V)(H:Hp):Prop:=match x with
 |.NA _=>T="str"
 |.MS _=>T="int"
 |.ο p=>(T="list"/\∃xs,o5 K H p xs)\/(T="tuple"/\∃o,K.ρ p=δ o/\o.OO=.MO "tuple"/\o.Pz=ε) \/
   (T="dict"/\((∃NS,H p<*.dK NS)\/∃NS,H p<*.dT NS))\/(T="set"/\∃S n,H p<*.Ra S n)
 |_=>NX
def qc{l:St}(I:f' X j l H s)(r:ae x v)(ty:JN X.K T x H):s.Se v T/\∀a,v=.ο a->∃k,s.π.ψ a=δ k/\k.Pz=ε:=by
 cases x with
 |NA z=>
  let⟨t,ζ⟩:=r;cases(show T="str" from ty);show(typeIs_str s z t,λ_ e=>nomatch e)
 |MS i=>
  let⟨t,ζ⟩:=r;cases(show T="int" from ty);show(typeIs_int s i t,λ_ e=>nomatch e)
 |ο p=>
  cases r;rcases ty with⟨rfl,xs,q⟩|⟨rfl,o,d,u,g⟩|⟨rfl,d⟩|⟨rfl,S,n,d⟩
  .obtain ⟨m,_,pl,_⟩:=I.Qx q;refine(pl.QW.Q',λa e=>?_);cases e;let⟨o,n,e,c,g,_⟩:=pl;show(o,e,g)
  .refine ((o,I.Tb p o d,u),λa e=>?_);cases e;show(o,I.Tb _ o d,g)
  .let z:∃o,s.π.ψ p=δ o/\o.ZG:=by
    rcases d with⟨NS,d⟩|⟨NS,d⟩
    .obtain ⟨_,_,_,_,o,_,_,e,f,_⟩:=I.Og p _ d;show(o,e,f)
    .obtain ⟨_,_,_,_,o,_,_,e,f,_⟩:=I.Og p _ d;show(o,e,f)
   let⟨o,e,f⟩:=z;refine((o,e,f.1),λa h=>?_);cases h;show(o,e,f.2.1)
  .obtain ⟨o,_,_,_,e,f,_⟩:=I.Og p _ d;refine((o,e,f.1),λa h=>?_);cases h;show(o,e,f.2.1)
 |_=>show NX.Nx ty
abbrev zR(K:Nn)(T:Yg)(r:V->γ V->Hp->VK->Prop)(to:TE):TE:=λσ H Q=>to σ H λx H1=>JN K T x H1/\r x [] H1 Q
abbrev Cr(K:Nn)(T:Yg)(r:V->γ V->Hp->VK->Prop)(to:TE)(t:TA):TE:=λσ H Q=>to σ H λx H1=>JN K T x H1/\t σ H1 λxs H2=>r x xs H2 Q
variable{o e:Expr}{es:List Expr}{to:TE}{t:TA}{name:Str}{apos cpos:Pos}{T id:String}{r:V->List V->Hp->VK->Prop}
def cL(pa:PlainAttrs T)(g:Slot T OH id)(i:typeOf (.Nk id)=pure (.MO "method_descriptor"))(u:JM X id r)(q:PE X o to)(f:(QL o OH X.KK (OM o X.KK)=OM o X.KK)>>>4)(d:((Zn.Zk==Xr.SZ)=ξ)>>>4):PE X (.QG (.O3 o OH Zn) [] [] Xr) (zR X.K T r to):=by
 intro c s k H Q I h;refine wpAny_Call_method0_late f d (ri (q c s k H _ I h) λv n j=>?_);let⟨x,w,m,l,ty,p⟩:=j;let⟨h1,h2⟩:=qc m l ty;show(T,id,pa,g,i,h1,h2,SB.Uj ζ (Δ.evalArgs_none (u c n k w x [] v [] Q m l .Ow p)))
def jb(pa:PlainAttrs T)(i:Slot T OH id)(l:typeOf (.Nk id)=pure (.MO "method_descriptor"))(D:JM X id r)(C:PE X o to)(E:PA X (e::es) t)(g:(QL o OH X.KK (OM o X.KK)=OM o X.KK)>>>4)(j:(((OF Xr (Θ (e::es) X.KK)).QD (λx=>!x.1)&&(Vi Xr (TQ [] X.KK)).QD (λx=>x.1.Rz)
   && decide ((e::es).β+([]:γ Vs).β+(if ([]:γ Vs).SG then 0 else 1)<30))=ξ)>>>4)(f:((Zn.Zk==Xr.SZ)=ξ)>>>4)(B:(Θ (e::es) X.KK=(η,OM e X.KK,)::Θ es X.KK)>>>4)(d:((OF Xr (Θ es X.KK)).Ql (·.1)=η)>>>4):PE X (.QG (.O3 o OH Zn) (e::es) [] Xr) (Cr X.K T r to t):=by
 intro c s k H Q I h;refine ZO g j f ζ (ri (C c s k H _ I h) λv w n=>?_);let⟨x,L,u,p,ty,A⟩:=n;let⟨h1,h2⟩:=qc u p ty;refine(T,id,pa,i,l,h1,h2,3);let q:=E Xr c w k L _ u A;rw[B]at q⊢;refine SB.Uj (by change (η||(OF Xr (Θ es X.KK)).Ql (·.1))=η;rw[d]<;>rfl) (SB.Sb ?_);show ri q λus s2 m=>by let⟨vs,J,F,y,z⟩:=m;show D c s2 k J x vs v us Q F p y z
end
abbrev IT(X:Cx)(id:Yg)(r:V->γ V->Hp->VK->Prop):Prop:=
 ∀(M1:γ (υ×Rp))(s:MJ)(σ:St)(H:Hp)(x:V)(xs:γ V)(v:θ)(us:γ θ)(Q:VK),f' X M1 σ H s->ae x v->ad xs us->r x xs H Q->
  Ω (Cl X.Ξ X.w) X.A (Qk (.Nk id) (v::us)) (EP X M1 σ Q) X.xe s
def ad.Ol:∀{x:V}{us:γ θ},ad [x] us->∃u,us=[u]/\ae x u
 |_,_,.NZ r .Ow=>(0,r)
def ad.TF:∀{us:γ θ},ad [] us->us=[]
 |_,.Ow=>rfl
def ad.RR(h:ad xs us):ad xs.RR us.RR:=by
 induction h with
 |Ow=>show .Ow
 |NZ r t a=>
  cases t with
  |Ow=>show .Ow
  |NZ q t'=>show .NZ r a
def lZ{c:Type}(l:γ c):l.eraseIdx (l.β-1)=l.RR:=by
 induction l with
 |Ow=>rfl
 |NZ a r d=>
  cases r with
  |Ow=>rfl
  |NZ b r=>
   let e:(a::b::r).β-1=((b::r).β-1)+1:=by
    let h1:(a::b::r).β=r.β+2:=ζ;let h2:(b::r).β=r.β+1:=ζ;lia
   rw[e,γ.eraseIdx_cons_succ,d];all_goals rfl
section
variable{X:Cx}{pins:List (Addr×Obj)}{σ:St}{H:Hp}{s:Shared}{l b:Addr}{xs ys zs:List V}
def f'.lset{a its':γ θ}(I:f' X M1 σ H s)(i:H l<*.M7 xs)(e:s.π.ψ l<*{OO:=.MO "list",NL:=.Sz a.χ n})(g:f a.χ=its'.χ)(c:ad ys its')(hz:ys.β≤Λ):f' X M1 σ (MT H l (.M7 ys)) {s with π:=s.π.O4 l (S4 f),MW:=t'}:=by
 let q:=Δ.IsL.O4 e f;rw[g]at q;refine I.WW (x:=l) (e:=l) (by rw[i];show trivial) (.NJ ζ) (λj u h d=>(OZ s.π (S4 f) (Ne.MQ h)).ν d) (_,q) ?_;show(hz,its',_,c,q)
def f'.lnew(I:f' X M1 σ H s)(c:ad ys a)(hz:ys.β≤Λ):f' X M1 σ (MT H s⁻¹ (.M7 ys)) {s with π:=s.π.Nh {OO:=.MO "list",NL:=.Sz a.χ},MW:=t'}:=
 I.T0 (λ_ _ q=>sy _ q) (LE _) (hz,a,(0),c,MV _ ζ)
def f'.OG(I:f' X M1 σ H s):H s⁻¹=ε:=I.Og.OG (LE _)
def f'.lstM(I:f' X M1 σ H s)(c:H l<*.M7 xs):xs.β≤Λ/\∃(a:γ θ)(n:Φ),ad xs a/\xs.β=a.β/\s.π.ψ l<*{OO:=.MO "list",NL:=.Sz a.χ n}:=by
 let⟨z,a,n,r,e⟩:=I.Og l _ c;show(z,a,n,r,r.β,e)
end
section
variable{X:Cx}
inductive rAppend(x:V)(vs:List V)(H:Hp)(Q:VK):Prop
 |mk (l xs y:_) (_:x=.ref l) (_:vs=[y]) (_:H l<*.lst xs) (_:xs.length<sizeLine) (_:Q .non (upd H l (.lst (xs++[y]))))
def eR:IT X "list.append" rAppend:=by
 intro b s i H x vs v us Q I d f h;let⟨l,xs,y,ζ,ζ,c,hz,q⟩:=h;cases d;let⟨u,ζ,g⟩:=f.Ol;let⟨z,a,n,r,j,e⟩:=I.lstM c;refine Yb F.slot_list_append (_,e,1) F.entry_list_append (F.args_list_append_2 _ _) (Δ.list_append l a.χ n u (by rw[NH];lia)) (e,3);refine(.Rv,_,I.lset (its':=a++[u]) c e (!1) (r.Ye (.NZ g .Ow)) ?_,1,q);rw[w_,γ.W_];lia
inductive rPop(x:V)(vs:List V)(H:Hp)(Q:VK):Prop
 |mk (l xs y:_) (_:x=.ref l) (_:vs=[]) (_:H l<*.lst xs) (_:xs[xs.length-1]?<*y) (_:Q y (upd H l (.lst xs.dropLast)))
def cZ:IT X "list.pop" rPop:=by
 intro d s p H x vs v us Q I g i h;let⟨l,xs,y,ζ,ζ,f,k,q⟩:=h;cases g;let c:=i.TF;subst c;let⟨z,a,n,r,o,e⟩:=I.lstM f;let⟨u,m,j⟩:=r.VI k;let b:a.χ[a.χ.MX-1]?<*u:=by
  change a.χ[a.β-1]?<*u;rw[<-Qd,<-o];show m
 refine Yb F.TB (_,e,1) F.entry_list_pop (F.args_list_pop_1 _) (MeetsSeq.list_pop_last l a.χ n u b (by rw[NH];lia)) (e,3);refine(y,_,I.lset (its':=a.RR) f e ?_ r.RR ?_,j,q)
 .change a.χ.eraseIdxIfInBounds (a.χ.MX-1)=a.RR.χ;rw[NH,γ.eraseIdxIfInBounds_toArray,lZ]
 .rw [γ.length_dropLast];lia
inductive rCat(x:V)(y:V)(H:Hp)(Q:VK):Prop
 |mk (l b xs zs:_) (_:x=.ref l) (_:y=.ref b) (_:H l<*.lst xs) (_:H b<*.lst zs) (_:xs.length+zs.length≤sizeLine) (_:∀p,H p=none->Q (.ref p) (upd H p (.lst (xs++zs))))
def GF:AQ X (Rn .Add) rCat:=by
 intro d s t H x y v u Q I g f h;let⟨l,b,xs,zs,ζ,ζ,k,m,hz,q⟩:=h;cases g;cases f;let⟨z,c,n,r,B,e⟩:=I.lstM k;let⟨w,a,A,i,j,p⟩:=I.lstM m;refine Δ.P.add_list e p ?_ (by rw[NH,NH];lia);let o:c.χ++a.χ=(c++a).χ:=by simp
 rw[o];show(.ο _,_,I.lnew (t':=s.MW) (r.Ye i) (by rw[w_];omega),1,q _ I.OG)
end
section
variable{prog:Program}{w:World}{A:Around}{E:Value->Shared->Prop}{s:Shared}
end
section
variable{X:Cx}
end
end L2
namespace Att
open PySem.W PySem.Calls PyProof.Rows
def Mb:∀(ns:γ MN)(vs:γ θ),WellAll P h vs (ns.NN WData.MS)->TD vs ns:=by
 intro ns;induction ns with
 |Ow=>
  intro vs w;rw[γ.map_nil]at w;cases w;show .Ow
 |NZ n ns c=>
  intro vs w;rw[Qr]at w;cases w with
  |NZ a b=>
   cases a;show .NZ _ _ (c _ b)
def oE{l:X6}(u:l.most<*n)(c:l.Vx.toRowW.claim.pre b=ξ)(k:WellAll P h e b):∃a vs ns,e=[θ.ο a]/\b=[WData.Qx (ns.NN WData.MS)]/\h.ψ a=δ {OO:=.MO "list",NL:=.Sz vs.χ}/\TD vs ns/\ns.β≤n:=by
 let m:WShape.hasAll [] b [.Qx .MS]=ξ:=(pre_splitW c).1;let o:l.pre.holds [] {args:=b}=ξ:=(pre_splitW c).2;let⟨d,r,ζ,h1,h2⟩:=hasAllW_cons m;obtain ζ:=hasAllW_nil h2;let⟨xs,ζ,v⟩:=hasW_list h1;let⟨ns,ζ⟩:=Y5 v;let f:ns.β≤n:=by
  unfold X6.pre at o;let j:(WTm.not (.lt (.lit (.MS (n:MN))) (.PQ (.arg 0)))).holds [] {args:=[.Qx (ns.NN .MS)]}=ξ:=by
   let j:=(holds_andW o).1;rw[u]at j;show j
  let i:=condW_of j (w_not (w_lt w_lit (w_len_list (w_arg ζ))));rw[ol]at i;refine OS λq=>?_;let s:(n:MN)<((ns.β:Φ):MN):=by omega
  first
   |(rw[NM s]at i;show MM i (!0))
   |(simp at i;omega)
 cases k with
 |NZ p w2=>
  cases w2;cases p with
  |Qx t g=>show(7,ns,5,t,Mb ns _ g,f)
def oN(l:X6)(a:γ WData):l.Vx.toRowW.claim.post a (.Ph ξ) a=ξ:=
 postW_of (r:=l.Vx.toRowW) (X:=(ξ==ξ))
  (show WShape.UU [] (.Ph ξ) .Ph=ξ by first|rfl|decide|simp[WShape.UU,WShape.arms,WShape.armsAll])
  (show(WTm.eq .res (.lit (.Ph ξ))).value [] {args:=a,res:=δ (.Ph ξ),Xe:=a}<*.Ph (ξ==ξ)from w_eq_bool (w_res ζ) w_lit) ζ
def CU{l:X6}(C:l.most<*n)(s:d.O5.defaults=[])(Qk:∀(w:N1)(c b:MJ)(mg k:NB->ω θ)(fa:υ)(o:Rp)(pm j Pm:θ)(a:υ)(vs:γ θ)(ns:γ MN),
   Ground q loose [] XP w c mg k b.π->YP w b.π->
   b.π.ψ fa<*o->o.NL=.Qb (docDef d.OH d.O5 d.Yy d.NG pm j Pm)->b.π.N_ j d.OH->mg d.OH<*.ο fa->
   b.π.ψ a<*{OO:=.MO "list",NL:=.Sz vs.χ}->TD vs ns->ns.β≤n->b.T7=#[]->
   Qh (Cl l.Ξ w) Wq (.Qk (.ο fa) ([.ο a],[])) (λr s'=>r=.ok (.UX (.Ph ξ))/\OldK b.π s'.π/\s'.os=b.os/\Wu s'.T7) b):WalkO q loose XP YP l.Vx.toRowW d [] (λf vs=>Δ.Qk f vs):=by
 intro w c b mg k G Y fa o pm j Pm L kV B H t x p F y u M g v z m E;obtain ζ:L=.ε:=Dflts.ε x s;obtain ζ:kV=.ε:=Dflts.noKw x;let⟨a,vs,ns,ζ,ζ,h,e,i⟩:=oE C g m;refine enter_call (Pd (Qk w c b mg k fa o pm j Pm a vs ns G Y B (fd_plain H) t p h e i F) λr s' A=>?_);let⟨rfl,h2,J,I⟩:=A;show(.NJ (.Ph ξ,.Ph ξ,[],1,λ_=>rfl,.Ph ξ,oN l _,λ_=>(γ.Pairwise.Ow,λ_ D=>(nomatch D))),h2,J,I)
section
variable{prog:Program}{w:World}{A:Around}{E:Value->Shared->Prop}{s:Shared}{K:Frag}
end
end Att
namespace L2
open PySem.Spec PyProof.Rows
def d_D:∀{vs:γ θ}{ns:γ MN},TD vs ns->ad (ns.NN V.MS) vs
 |_,_,.Ow=>.Ow
 |_,_,.NZ n t h=>.NZ (t,1) (d_D h)
abbrev Cs(s:Nu)(j:Φ):Nu:=match s with
 |.ClassDef _ _ _ Yy _ _ _ _ _ _ _=>Yy.ML j (.V5 ((0),(0),(0),(0)))
 |_=>.V5 ((0),(0),(0),(0))
abbrev t5(s:Nu):QO:=match s with
 |.Vl _ a _ _ _ _ _ _ _ _=>a
 |_=>{posonlyargs:=[],args:=[],vararg:=ε,kwonlyargs:=[],kw_defaults:=[],kwarg:=ε,defaults:=[]}
abbrev p_(s:Nu):γ Nu:=match s with
 |.Vl _ _ b _ _ _ _ _ _ _=>b
 |_=>[]
abbrev h_(s:Nu):RZ:=match s with
 |.Vl _ _ _ _ _ _ sc _ _ _=>sc
 |_=>{RT:=.RP,MR:=[],isGenerator:=η,isCoroutine:=η}
instance pu:CXT:=λ_ _ _ _ _ _=>NX
instance E0:XK:=λ_ _ _=>NX
def CV:Eu pu X E0:=λ_ _ _ _ _ _ _ h=>h.Nx
structure vh(K:Frag)(x qual:Str)(st:Stmt)(f:Addr)(fd:FuncData):Prop where
 ex:∃(oc:Value)(od:Option Addr)(kV doc pm:Value)(an:Option Addr)(cdv ct:Value)(osl:Array (Option Value)),
  fd=fnOf x qual (t5 st) (p_ st) (h_ st) .none kV doc pm an cdv ct/\K.lookup f=some (oc,od,.func fd,osl)/\codeIn K cdv qual=true
 kp:keepIn K (.ref f)=true
section
variable{P:Program}{w:World}{K:Frag}{mg:Str->Option Value}{base:Heap}
def vh.ok{st:Nu}(F:vh K x M6 st f i)(S:vw N ps (h_ st))(PQ:∀vs H Q E,d vs H Q E->vs.β=ps.β)(a:∀(Qm:θ)(A:N2)(Fr:γ WH)(s:MJ)(H:Hp)(vs:γ V)(Q:VK)(E:XK),ak k (A.RH (S7 M6 (h_ st) s⁻¹ f Qm))->d vs H Q E->
   ∃t,BA (aG pu P w K mg ς N M6 (h_ st) f Qm A Fr s H E).nox (p_ st) t/\t {nx:=λ_ H'=>Q .Rv H',rt:=Q} (SQ N vs) H):aa P w K mg ς pu (k+1) f i ps d:=by
 let⟨l,j,kV,Pm,pm,an,Qm,ct,e,ζ,lk,c⟩:=F.ex;refine jC lk c S PQ λA Fr s H vs Q E g b=>?_;let⟨t,h,q⟩:=a Qm A Fr s H vs Q E g b;show(t,h.nox,q)
def vh.WC{st:Nu}(F:vh K x M6 st f c)(h:∀(kV Pm pm:θ)(an:ω υ)(Qm ct:θ)(us:γ θ),us.β=ps.β->TU (Px x M6 (t5 st) (p_ st) (h_ st) .ε kV Pm pm an Qm ct) (us,[])=pure (ps.Th us)):Ao K c ps []:=by
 let⟨e,d,kV,Pm,pm,an,Qm,ct,a,ζ,lk,b⟩:=F.ex;show .QD (h kV Pm pm an Qm ct)
def D8{st:Nu}{kV Pm pm Qm ct:θ}(l:K.ρ f<*(d,b,.Qb (Px x M6 (t5 st) (p_ st) (h_ st) .ε kV Pm pm an Qm ct),a))(c:PD K Qm M6=ξ)(k:UR K (.ο f)=ξ):vh K x M6 st f (Px x M6 (t5 st) (p_ st) (h_ st) .ε kV Pm pm an Qm ct):=((d,b,kV,Pm,pm,an,Qm,ct,a,1,l,c),k)
end
def Gj(h:n≤1000):n<Λ:=Nm h (!0)
section
variable{X:Cx}
def pv(i:Φ){Nj:Sh}(d:(X.N[i]?<*x)>>>4)(b:G5 X.KK.NG x>>>8)(c:((x==("__debug__":NB))=η)>>>0)(a:((x==("__classdict__":NB))=η)>>>0):PE X (.N0 x Nj) (bC i):=wN d b c a
end
def aj{A B:Prop}(h:B):if η=ξ then A else B:=by
 rw[BT MZ.M'];show h
def aw{A B:Prop}(h:A):if ξ=ξ then A else B:=by
 rw[Id ζ];show h
def D9{c A B:Prop}[ZJ c](a:c)(h:B):if (!decide c)=ξ then A else B:=by
 rw[NM a];show aj h
abbrev a'(H H':Hp):Prop:=∀b o,H b<*o->H' b<*o
def a'.Tn(H:Hp):a' H H:=λ_ _ h=>h
def a'.ν(a:a' H e)(b:a' e d):a' H d:=λc o h=>b c o (a c o h)
def a'.N6(e:a' H H')(h:H' l=ω.ε):H l=ω.ε:=by
 cases q:H l with
 |ε=>rfl
 |δ o=>
  rw[e l o q]at h;cases h
def a'.Sz{K:Nn}(e:a' H H')(h:o5 K H a xs):o5 K H' a xs:=by
 rcases h with(h|⟨o,h⟩)|h
 .exact .NJ (.NJ (e _ _ h))
 .exact .NJ (.NU (o,e _ _ h))
 .exact .NU h
end L2
set_option Elab.async false
set_option maxRecDepth 100000
set_option maxHeartbeats 4000000
namespace RA
open L2
end RA
namespace L2
inductive E2{a0 a1:Type}(p:a0->a1->Prop):Prop
 |mk (x0:a0) (x1:a1) (h:p x0 x1)
inductive E3{a0 a1 a2:Type}(p:a0->a1->a2->Prop):Prop
 |mk (x0:a0) (x1:a1) (x2:a2) (h:p x0 x1 x2)
inductive E4{a0 a1 a2 a3:Type}(p:a0->a1->a2->a3->Prop):Prop
 |mk (x0:a0) (x1:a1) (x2:a2) (x3:a3) (h:p x0 x1 x2 x3)
inductive E5{a0 a1 a2 a3 a4:Type}(p:a0->a1->a2->a3->a4->Prop):Prop
 |mk (x0:a0) (x1:a1) (x2:a2) (x3:a3) (x4:a4) (h:p x0 x1 x2 x3 x4)
inductive E6{a0 a1 a2 a3 a4 a5:Type}(p:a0->a1->a2->a3->a4->a5->Prop):Prop
 |mk (x0:a0) (x1:a1) (x2:a2) (x3:a3) (x4:a4) (x5:a5) (h:p x0 x1 x2 x3 x4 x5)
inductive A3(a0 a1 a2:Prop):Prop
 |mk (_:a0) (_:a1) (_:a2)
inductive A4(a0 a1 a2 a3:Prop):Prop
 |mk (_:a0) (_:a1) (_:a2) (_:a3)
inductive A5(a0 a1 a2 a3 a4:Prop):Prop
 |mk (_:a0) (_:a1) (_:a2) (_:a3) (_:a4)
inductive A6(a0 a1 a2 a3 a4 a5:Prop):Prop
 |mk (_:a0) (_:a1) (_:a2) (_:a3) (_:a4) (_:a5)
inductive A7(a0 a1 a2 a3 a4 a5 a6:Prop):Prop
 |mk (_:a0) (_:a1) (_:a2) (_:a3) (_:a4) (_:a5) (_:a6)
inductive A8(a0 a1 a2 a3 a4 a5 a6 a7:Prop):Prop
 |mk (_:a0) (_:a1) (_:a2) (_:a3) (_:a4) (_:a5) (_:a6) (_:a7)
inductive A9(a0 a1 a2 a3 a4 a5 a6 a7 a8:Prop):Prop
 |mk (_:a0) (_:a1) (_:a2) (_:a3) (_:a4) (_:a5) (_:a6) (_:a7) (_:a8)
end L2
namespace L2
open PySem.Spec PyProof.Rows
abbrev GG(x:NB):It:=(λi _=>i<x.β,λi H v H'=>H'=H/\∃c,x.Tc[i]?=δ c/\v=.NA ⟨#[c]⟩,λi _=>x.β≤i)
def on{K:Nn}(x:NB)(t:XM)(it:υ):dJ P w K M (GG x) [it] it (λi h=>h.IsStrIter it "str_ascii_iterator" x t i)  where
 mem:=by simp
 Uf:=λi h st b g=>by
  let e:b=it:=by simpa using g
  subst e;let⟨o,e,c,d⟩:=st;show(o,e,λv z=>by rw[d]at z;cases z)
 QC:=λi h h' st k=>by
  let⟨o,e,r⟩:=st;show(o,k it (!1) o e,r)
 Uy:=by
  intro X m hw n C i a s B H E I l st f;subst m hw n;let f:i<x.Tc.MX:=f;let⟨A,y,F,u,q,p⟩:=l it (!1);refine wpAny_pyNext_ascii_item st (c:=x.Tc[i]) (by simp[f]) λh' j D=>?_;let L:f' X a B H {s with π:=h',MW:=s.MW+1}:=I.OJ (t':=s.MW+1) (λb o g e=>(D.2 b g).ν e) A y u q p;let⟨o,e,c,d⟩:=id j;show(0,fq (s:={s with π:=h',MW:=s.MW+1}) e c d (!0) (.NA ⟨#[x.Tc[i]]⟩,H,L,(_,ζ),(1,_,by simp[f],1),j,λb g=>(l b g).1))
 done:=by
  intro X m hw n C i a s B H E I l st f;subst m hw n;let f:x.Tc.MX≤i:=f;let⟨A,y,F,u,q,p⟩:=l it (!1);show wpAny_pyNext_ascii_end (I.ok.hd C) st (by simp[f]) λh' J=>(1,I.OJ (t':=s.MW) (λb o g e=>J b o g e) A y u q p)
 Yn:=λ_ _ _ _ _ st h=>wpAny_pyIter_striter_ascii st h
def oj{K:Nn}(x:NB)(t:XM)(it:υ):dJ P w K M (GG x) [it] it (λi h=>h.IsStrIter it "str_iterator" x t i)  where
 mem:=by simp
 Uf:=λi h st b g=>by
  let e:b=it:=by simpa using g
  subst e;let⟨o,e,c,d⟩:=st;show(o,e,λv z=>by rw[d]at z;cases z)
 QC:=λi h h' st k=>by
  let⟨o,e,r⟩:=st;show(o,k it (!1) o e,r)
 Uy:=by
  intro X m hw n C i a s B H E I l st f;subst m hw n;let f:i<x.Tc.MX:=f;let⟨A,y,F,u,q,p⟩:=l it (!1);refine wpAny_pyNext_wide_item st (c:=x.Tc[i]) (by simp[f]) λh' j D=>?_;let L:f' X a B H {s with π:=h',MW:=s.MW+1}:=I.OJ (t':=s.MW+1) (λb o g e=>(D.2 b g).ν e) A y u q p;let⟨o,e,c,d⟩:=id j;show(0,fq (s:={s with π:=h',MW:=s.MW+1}) e c d (!0) (.NA ⟨#[x.Tc[i]]⟩,H,L,(_,ζ),(1,_,by simp[f],1),j,λb g=>(l b g).1))
 done:=by
  intro X m hw n C i a s B H E I l st f;subst m hw n;let f:x.Tc.MX≤i:=f;let⟨A,y,F,u,q,p⟩:=l it (!1);show wpAny_pyNext_wide_end (I.ok.hd C) st (by simp[f]) λh' J=>(1,I.OJ (t':=s.MW) (λb o g e=>J b o g e) A y u q p)
 Yn:=λ_ _ _ _ _ st h=>wpAny_pyIter_striter_wide st h
inductive ze(R:It->Hp->Prop)(v:V)(H1:Hp):Prop
 |mk (x:_) (_:v=.str x) (_:R (GG x) H1)
abbrev zf(tl:TE):TI:=λσ H R=>tl σ H (ze R)
def gD(r:PE X l m):PI X u l (zf m):=by
 intro d s k H R I h;refine ri (r d s k H _ I h) λv a g=>?_;let⟨y,j,c,n,p⟩:=g;let⟨x,ζ,q⟩:=p;let⟨t,ζ⟩:=n;cases i:x.Tc.QD (· < 128)
 .refine wpAny_pyIter_wide i ?_;refine(a⁻¹,[a⁻¹],7,j,1,c.SW (t':=a.MW) λb o e=>sy _ e,oj x t _,(_,MV _ ζ,5),λb f=>?_,q);let e:b=a⁻¹:=by simpa using f
  subst e;show c.Yw (LE _) (c.Og.OG (LE _))
 .refine wpAny_pyIter_ascii i ?_;refine(a⁻¹,[a⁻¹],7,j,1,c.SW (t':=a.MW) λb o e=>sy _ e,on x t _,(_,MV _ ζ,5),λb f=>?_,q);let e:b=a⁻¹:=by simpa using f
  subst e;show c.Yw (LE _) (c.Og.OG (LE _))
def nB{g:TG}{k:TS}{D:XR}(f:Φ->St->Hp->Prop)(h0:f 0 a H)(o:∀i c a H,x.Tc[i]?<*c->f i a H->g (.NA ⟨#[c]⟩) a H λb j=>k {D with nx:=f (i+1),ct:=f (i+1),bk:=D.nx} b j)(r:∀a H,f x.β a H->D.nx a H):∃W:Φ->Φ->St->Hp->Prop,(∃m,W 0 m a H)/\∀i m a H,W i m a H->
   ((GG x).Sx i H/\D.nx a H)\/((GG x).go i H/\∃N:St->Hp->Prop,(∀d H',N d H'->∃l,l<m/\W (i+1) l d H')/\∀y H',(GG x).X_ i H y H'->g y a H' λb j=>k {D with nx:=N,ct:=N,bk:=D.nx} b j):=by
 refine(λi m a H=>m=x.β-i/\i≤x.β/\f i a H,(x.β,!1,Nf _,h0),3);rintro i m a H⟨rfl,u,p⟩;by_cases h:i<x.β
 .refine .NU (h,f (i+1),λd H' n=>(x.β-(i+1),!2,1,h,n),λy H' q=>?_);let⟨e,c,s,t⟩:=q;subst e t;show o i c a _ s p
 .let e:i=x.β:=by lia
  subst e;show .NJ (LE _,r a H p)
section
variable{X:Cx}
inductive rSlS(x:V)(lo:Option Int)(hi:Option Int)(H:Hp)(Q:VK):Prop
 |mk (z:_) (_:x=.str z) (_:z.length≤sizeLine) (_:Q (.str (Txt.slice z lo hi)) H)
def qo:HR X rSlS:=by
 intro b s g H x v r vu lo p w Q I m n pl f h;let⟨z,ζ,hz,q⟩:=h;let⟨t,ζ⟩:=m;refine("str",_,Δ.F.slot_str_getitem.ρ,typeIs_str _ _ _,3);let a:∀t' k,EP X b g Q (.NA (SI.VB z lo p) t') {s with MW:=k}:=λt' k=>(.NA _,H,I.Tw k,(t',1),q);let⟨o,c,e,d⟩:=n;cases pl with
 |ε=>
  cases f with
  |ε=>show SN (l:=ε) (u:=ε) (st:=ε) (o,c,e,d) ζ (VC (IO (SI.Wa z _ _) hz,λt' k=>a t' k))
  |MS j uj=>show SN (l:=ε) (u:=δ (j,uj,)) (st:=ε) (o,c,e,d) ζ (VC (IO (SI.Wa z _ _) hz,λt' k=>a t' k))
 |MS i ui=>
  cases f with
  |ε=>show SN (l:=δ (i,ui,)) (u:=ε) (st:=ε) (o,c,e,d) ζ (VC (IO (SI.Wa z _ _) hz,λt' k=>a t' k))
  |MS j uj=>show SN (l:=δ (i,ui,)) (u:=δ (j,uj,)) (st:=ε) (o,c,e,d) ζ (VC (IO (SI.Wa z _ _) hz,λt' k=>a t' k))
def rF:JM X "str.count" (λx xs H Q=>∃z y,x=.NA z/\xs=[.NA y]/\Q (.MS (SI.Xd z y)) H):=by
 intro a s c H x xs v us Q I b rs h;let⟨z,y,ζ,ζ,q⟩:=h;let⟨t,ζ⟩:=b;let⟨u,ζ,t',ζ⟩:=Dr rs;show SC.Xd (.MS _,H,I.Tw _,(_,ζ),q)
def eM:AQ X (O8 .LtE) (λx y H Q=>∃i j,x=.NA i/\y=.NA j/\Q (.bl (!decide (j.Tc.NF<i.Tc.NF))) H):=by
 intro a s d H x y v u Q I c b h;let⟨i,j,ζ,ζ,q⟩:=h;let⟨t,ζ⟩:=c;let⟨t',ζ⟩:=b;show Δ.P.le_str (.bl _,H,I,1,q)
def jU:Dg X (.Nk "isinstance") (λxs H Q=>∃x t,xs=[x,.ty T]/\ai X.K H x t/\Pr X.K t (.MO T)=δ b/\Q (.bl b) H):=by
 intro a s g H xs us Q I r h;let⟨x,t,ζ,ty,e,q⟩:=h;let⟨u,i,ζ,f,d⟩:=bz r;cases d;show pE I f ty e λc=>(.bl b,H,I.Tw c,1,q)
end
abbrev oI(X:Cx)(x:NB)(sc:RZ)(cl:γ (NB×υ))(C:υ)(fp:γ υ)(s:MJ)(H:Hp):Cx where
 Ξ:=X.Ξ
 w:=X.w
 K:=X.K
 mg:=X.mg
 ς:=X.ς
 A:=X.A
 N:=x::X.N
 RN:=s
 XQ:=H
 KK:=Vg sc cl C X.KK
 Fr:=X.NC
 NC:=X.NC
 ex:=fp
 fn:=λ_=>η
 T9:=X.T9
 pn:=[]
 xe:=λ_ _=>NX
abbrev FH(X:Cx)(Xn:γ Rb)(t:TT):Prop:=
 ∀(M1:γ (υ×Rp))(s:MJ)(σ:St)(H:Hp)(Q:MZ->Hp->Prop),f' X M1 σ H s->t σ H Q->
  Ω (Cl X.Ξ X.w) X.A (YW Xn ξ λc r=>if r=ξ then do let ok <-isTrue c X.KK (OM c X.KK);pure (Tt.Y0 ok)else pure (Tt.Y0 r)) (TP X M1 σ Q) X.xe s
abbrev Xx:TT:=λ_ H Q=>Q ξ H
def l_{A B:Hp->Prop}(h:A H):Xx c H (λb a=>if b=ξ then A a else B a):=aw (A:=A H) (B:=B H) h
def B3:FH X [] Xx:=λ_ _ _ H _ I h=>wpAny_tests_nil (H,I,h)
def mV(h:PT X c t):FH X [c] t:=λa s b H Q I hw=>wpAny_tests_one (h a s b H Q I hw)
abbrev FI(wi:TI)(tt:TT)(te:TE):TE:=λσ H Q=>wi σ H λJ H1=>∀D,H1 D=ε->∃W:Φ->Φ->γ V->Hp->Prop,
 (∃m,W 0 m [] (MT H1 D (.M7 [])))/\∀i m ys H2,W i m ys H2->H2 D=δ (.M7 ys)/\((J.Sx i H2/\Q (.ο D) H2)\/(J.go i H2/\ys.β<Λ/\∀x H3,J.X_ i H2 x H3->
  tt (δ x::σ) H3 λb H4=>if b=ξ then te (δ x::σ) H4 λy H5=>H5 D=δ (.M7 ys)/\∃m',m'<m/\W (i+1) m' (ys++[y]) (MT H5 D (.M7 (ys++[y])))
   else ∃m',m'<m/\W (i+1) m' ys H4))
def GH{a b:Φ}(h:a≠b):(show υ from a)≠(show υ from b):=h
def JO(z:∀y∈sc.MR,y.2=.N6->∃c,KK.Rm.ρ y.1<*c):∃f,closureFor sc KK=pure f/\(∀y c,f.ρ y<*c->KK.Rm.ρ y<*c)/\∀y∈sc.MR,y.2=.N6->∃c,f.ρ y.1<*c:=by
 let B:∀(l:γ (NB×QE))(b:γ (NB×υ)),(∀y∈l,y.2=.N6->∃c,KK.Rm.ρ y.1<*c)->(∀y c,b.ρ y<*c->KK.Rm.ρ y<*c)->
   ∃f,(YW l b λ(p:NB×QE)r=>if (p.2==.N6)=ξ then do let a <-cellOf KK p.1;pure (Tt.Y0 ((p.1,a,)::r))else pure (Tt.Y0 r):ZD (γ (NB×υ)))=pure f/\
    (∀y c,f.ρ y<*c->KK.Rm.ρ y<*c)/\(∀y c,b.ρ y<*c->∃g,f.ρ y<*g)/\∀y∈l,y.2=.N6->∃c,f.ρ y.1<*c:=by
  intro l;induction l with
  |Ow=>intro b _ o;show(b,1,o,λy c e=>(c,e),λy d=>by simp at d)
  |NZ p r w=>
   intro b t o;let⟨n,k⟩:=p;by_cases u:k=.N6
   .subst u;let⟨c,x⟩:=t (n,.N6,) N8 ζ;let C:cellOf KK n=pure c:=by unfold cellOf;rw[x]
    let v:∀y g,((n,c,)::b).ρ y<*g->KK.Rm.ρ y<*g:=λy g e=>by
     by_cases d:(y==n)=ξ
     .rw [OL,d]at e;cases e;rw[SU d];show x
     .rw [OL,MZ.U4.Ot d]at e;show o y g e
    let⟨f,h1,h2,q,m⟩:=w ((n,c,)::b) (λy d=>t y (M4 _ d)) v;let j:∀y g,b.ρ y<*g->∃i,((n,c,)::b).ρ y<*i:=λy g e=>by
     by_cases d:(y==n)=ξ
     .exact (c,by rw[OL,d])
     .exact (g,by rw[OL,MZ.U4.Ot d];show e)
    refine(f,3,h2,λy g e=>?_,λy d h=>?_)
    .rw [Qi];simp only[Ul,Wj,C,pure_bind];show h1
    .obtain ⟨i,e'⟩:=j y g e;show q y i e'
    .rcases MP.mp d with ζ|d
     .exact q n c (by rw[OL,Ul])
     .exact m y d h
   .let A:(k==QE.N6)=η:=by simpa using u
    let⟨f,h1,h2,q,m⟩:=w b (λy d=>t y (M4 _ d)) o;refine(f,3,h2,q,λy d h=>?_)
    .rw [Qi];simp only[A,MZ.UW,Uh,pure_bind];show h1
    .rcases MP.mp d with ζ|d
     .exact MM h u
     .exact m y d h
 let⟨f,h1,h2,_,m⟩:=B sc.MR [] z (λy c e=>by simp at e);refine(f,3,h2,m);change ((YW sc.MR [] λ(p:NB×QE)r=>if (p.2==.N6)=ξ then do let a <-cellOf KK p.1;pure (Tt.Y0 ((p.1,a,)::r))else pure (Tt.Y0 r):ZD (γ (NB×υ)))>>=λs=>pure s)=pure f;rw[bind_pure,h1]
def vr(h:(Ut sc KK).MR.ρ y<*k):sc.MR.ρ y<*k\/(k=.OA/\sc.MR.ρ y=δ .N6/\KK.Om y<*.OA):=by
 let f:∀(l:γ (NB×QE)),(l.NN λ(n,k)=>if (k==.N6&&KK.NG.RT==.RP&&KK.Om n==δ .OA)then(n,QE.OA,)else(n,k,)).ρ y<*k->
   l.ρ y<*k\/(k=.OA/\l.ρ y=δ .N6/\KK.Om y<*.OA):=by
  intro l;induction l with
  |Ow=>intro h;simp at h
  |NZ p r d=>
   let⟨n,c⟩:=p;intro h;simp only[Qr]at h;by_cases b:(c==QE.N6&&KK.NG.RT==.RP&&KK.Om n==δ .OA)=ξ
   .rw [Id b]at h;rw[OL]at h⊢;cases a:y==n with
    |ξ=>
     rw[a]at h;let e:k=.OA:=(ω.δ.QK h).MQ;let i:c=.N6:=by
      have:=(Oh.mp (Oh.mp b).1).1;simpa using this
     let g:KK.Om n<*.OA:=by
      have:=(Oh.mp b).2;simpa using this
     rw[SU a];show .NU (e,by rw[i],g)
    |η=>
     rw[a]at h;show d h
   .rw [BT b]at h;rw[OL]at h⊢;cases a:y==n with
    |ξ=>rw[a]at h;show .NJ h
    |η=>rw[a]at h;show d h
 show f sc.MR h
section
variable{X:Cx}{elt iter:Expr}{x:Str}{px pos:Pos}{ifs:List Expr}{sc:Scope}{wi:TI}{tt:TT}{te:TE}
end
abbrev Df(P:NE)(w:N1)(K:Nn)(mg:NB->ω θ)(ς:NR)(x:NB)(k:Φ)(ps:γ NB)(sp:Sp):Prop:=
 ∃(f:υ)(fd:Sg),mg x=δ (.ο f)/\UR K (.ο f)=ξ/\Ao K fd ps []/\aa P w K mg ς pu k f fd ps sp
def wx{p Nj:Sh}(D:Df X.Ξ X.w X.K X.mg X.ς x k ps d)(g:ak k X.A)(j:PA X (e::a) t)(h:Gl X x>>>4)(c:((x==("__debug__":NB))=η)>>>0)(i:(Θ (e::a) X.KK=(η,OM e X.KK,)::Θ a X.KK)>>>4)(b:((OF Nj (Θ a X.KK)).Ql (·.1)=η)>>>4):PE X (.QG (.N0 x p) (e::a) [] Nj) (Cq d [] E0 t):=by
 let⟨f,m,h1,h2,l,F⟩:=D;show mY F g h h1 h2 l .Ow CV j c i b
def am{c A B:Prop}[ZJ c](a:c)(h:A):if decide c=ξ then A else B:=by
 rw[NM a];show aw h
def ac{c A B:Prop}[ZJ c](a:¬ c)(h:B):if decide c=ξ then A else B:=by
 rw[M5 a];show aj h
def jp{A B:Prop}(h1:c=ξ->A)(h2:c=η->B):if c=ξ then A else B:=by
 cases c
 .exact aj (h2 ζ)
 .exact aw (h1 ζ)
def aQ{c A B:Prop}[ZJ c](h1:c->A)(h2:¬ c->B):if decide c=ξ then A else B:=by
 by_cases h:c
 .exact am h (h1 h)
 .exact ac h (h2 h)
def a'.MT(n:H D=ε):a' H (MT H D o):=λb u e=>by rw[a_ (e_ e n)];show e
def sT(h:n≤16777216):n≤Λ:=by rw[OQ];show h
def mr{xs:γ b}{i:MN}(h0:0≤i)(h1:i<xs.β):∃v,AN xs i=δ v/\xs[i.Ou]?<*v:=by
 let⟨j,ζ⟩:=MN.eq_ofNat_of_zero_le h0;let a:j<xs.β:=by lia
 show(xs[j],AG (by simp[a]),by simp[a])
abbrev zQ(t u:TS):TS:=λD σ H=>∃M:St->Hp->Prop,t {D with nx:=M} σ H/\∀WJ H',M WJ H'->u D WJ H'
def FJ{st:Nu}(h1:PS X st t)(h2:BA X Ru u):BA X (st::Ru) (zQ t u):=by
 intro a s c H D I h;let⟨M,h,e⟩:=h;refine Ss (ri (h1 a s c H {D with nx:=M} I h) λf d q=>?_);cases f with
 |next=>
  let⟨b,H',g,q⟩:=q;show h2 a d b H' D g (e b H' q)
 |UX v=>show q
 |Yk=>show q
 |UC=>show q
abbrev sS(ns:γ MN)(lo hi:ω MN):γ MN:=(ns.Py (HT.Sn ns.β 0 lo)).OE (HT.Sn ns.β ns.β hi-HT.Sn ns.β 0 lo)
def pO(ns:γ MN)(lo a:ω MN):AL (ns.NN V.MS) lo a=(sS ns lo a).NN V.MS:=by
 unfold AL sS;rw[ol,γ.map_take,γ.map_drop]
section
variable{X:Cx}
def JP:AQ X (Rn .FloorDiv) (rI (λ_ j=>0<j/\j<1073741824) λi j=>.MS (i/j)):=gM
def jd:AQ X (Rn .Add) (Fp λi j=>.MS (i+j)):=lg
def yP:AQ X (Rn .Sub) (Fp λi j=>.MS (i-j)):=wU
def wV:AQ X (Rn .Mult) (rI (λi j=>(-(2^64)<i/\i<2^64)\/(-(2^64)<j/\j<2^64)) λi j=>.MS (i*j)):=wW
end
section
variable{X:Cx}
def Gk:AQ X (Rn .Mod) (λx y H Q=>∃i j,x=.MS i/\y=.MS j/\0<j/\∀r,0≤r->r<j->Q (.MS r) H):=by
 intro a s c H x y v u Q I e d h;let⟨i,j,g,f,b,q⟩:=h;show gL a s c H x y v u Q I e d (i,j,g,f,b,q _ (MN.Xa _ (!6)) (MN.YZ _ b))
end
def Ai(h:H a<*o)(n:H b=ε):MT H b u a<*o:=by
 rw[a_ (e_ h n)];show h
def tf(h:H a<*o)(n:H b<*v)(d:o≠v):MT H b u a<*o:=by
 rw[a_ (qN h n d)];show h
def lG(K:Nn):Pr K (.MO "int") (.MO "bool")<*η:=by kernel_rfl
def lF(K:Nn):Pr K (.MO "int") (.MO "int")<*ξ:=by with_unfolding_all rfl
def Du(K:Nn):Pr K (.MO "bool") (.MO "bool")<*ξ:=by with_unfolding_all rfl
def Dv(K:Nn):Pr K (.MO "str") (.MO "str")<*ξ:=by with_unfolding_all rfl
section
variable{X:Cx}
end
end L2
namespace RA
end RA
namespace RA
open PySem.StrLaws Builtin Builtin.Str
abbrev tx(l:LN):NB:=⟨l.χ⟩
def Fs(l:LN):(tx l).Tc.NF=l:=by simp[tx]
def oh(l:LN):(tx l).β=l.β:=by simp[tx,β]
def Ct(a b:LN):tx a++tx b=tx (a++b):=by
 apply NB.ext';change a.χ++b.χ=(a++b).χ;simp
def gf(h:tx a=tx b):a=b:=by
 have:=Nb (λs:NB=>s.Tc.NF) h;simpa[tx]using this
def kl(l:LN)(i:Φ):(tx l).Tc[i]?=l[i]?:=by simp[tx]
def Dt(l:LN)(c i:Φ):At (tx l) ⟨#[c]⟩ (tx l).β i↔l[i]?<*c:=by
 let h:=subAt_one (tx l) c i;rw[Fs]at h;show h
def ia(l:LN)(c:Φ):SI.M9 (tx l) ⟨#[c]⟩=decide (c∈l):=by
 let h:=found_one (tx l) c;rw[Fs]at h;show h
def jt:∀{l:LN}{c i:Φ},l[i]?<*c->l.M3 c≤i
 |[],_,_,h=>by simp at h
 |a::l,c,0,h=>by
  let e:a=c:=by simpa using h
  subst e;simp
 |a::l,c,i+1,h=>by
  rw[Uz];cases e:a==c with
  |ξ=>simp
  |η=>
   have:=jt (l:=l) (c:=c) (i:=i) (by simpa using h);simp;omega
def qm(x:NB)(h:0≤j):SI.VB x ε (δ j)=tx (x.Tc.NF.OE j.Ou):=by
 let c:∀j:MN,0≤j->j≤x.Tc.NF.β->SI.VB x ε (δ j)=tx (x.Tc.NF.OE j.Ou):=λj h0 h1=>by
  let e:SI.VB x ε (δ j)=sliceText x ε (δ j):=ζ;rw[e,sliceText_to (h0,h1)];simp[tx]
 by_cases f:j≤x.Tc.NF.β
 .exact c j h f
 .let e:SI.VB x ε (δ j)=SI.VB x ε (δ (x.β:MN)):=by
   let d:x.β=x.Tc.NF.β:=by simp[β]
   let g:Xh ε (δ j) 1 x.β=Xh ε (δ (x.β:MN)) 1 x.β:=by
    let a:¬ (j<0):=by lia
    let b:¬ ((x.β:MN)<0):=by lia
    let m:min j (x.β:MN)=(x.β:MN):=by lia
    simp[Xh,a,b,m]
   unfold SI.VB;rw[g]
  rw[e,c _ (!6) (by simp[β])];let d:x.β=x.Tc.NF.β:=by simp[β]
  rw[N9 (i:=j.Ou) (!6),N9 (!6)]
def kF(x:NB){i:MN}(h:0≤i)(h1:i≤x.Tc.NF.β):SI.VB x (δ i) ε=tx (x.Tc.NF.Py i.Ou):=by
 let e:SI.VB x (δ i) ε=sliceText x (δ i) ε:=ζ;rw[e,sliceText_from (h,h1)];let a:((x.Tc.NF.β:MN)-i).Ou=(x.Tc.NF.Py i.Ou).β:=by rw[UI];lia
 rw[a,SO];rfl
def rO(a b:Φ):(!decide ((⟨#[b]⟩:NB).Tc.NF<(⟨#[a]⟩:NB).Tc.NF))=decide (a≤b):=by
 change (!decide ([b]<[a]))=decide (a≤b);rw[lt_cons_cons,lt_nil_nil,MZ.and_false,MZ.N7];by_cases h:a≤b
 .rw [M5 (!6),NM h];rfl
 .rw [NM (!6),M5 h];rfl
def jP(l:LN)(c:Φ):∀(b:LN)(a f:Φ),ChainG (tx l) ⟨#[c]⟩ (tx l).β a b f->(∀k,f≤k->¬ At (tx l) ⟨#[c]⟩ (tx l).β k)->(l.Py a).Xd c=b.β:=by
 intro b;induction b with
 |Ow=>
  intro a f h j;let e:f=a:=h;subst e;rw[WP,γ.count_eq_zero];intro m;let⟨i,g⟩:=NO.mp m;rw[γ.V']at g;show j _ (Od _ _) ((Dt l c _).Ot g)
 |NZ d r o=>
  intro a f h j;let⟨h1,h2,u,t⟩:=h;let s:=(Dt l c d).mp h2;let q:=o (d+1) f t j;let⟨n,v⟩:=q5 s;let split:l.Py a=(l.Py a).OE (d-a)++c::l.Py (d+1):=by
   conv=>lhs;rw[<-Rt (d-a) (l.Py a)]
   rw[γ.drop_drop,show a+(d-a)=d by lia,γ.TR n,v]
  rw[split,γ.count_append,γ.count_cons_self,q,NW];let z:((l.Py a).OE (d-a)).Xd c=0:=by
   rw[γ.count_eq_zero];intro m;let⟨i,g⟩:=NO.mp m;rw[γ.UV]at g;split at g
   .rename_i p;rw[γ.V']at g;show u (a+i) (Od _ _) (!6) ((Dt l c _).Ot g)
   .cases g
  lia
def D_(l:LN)(c:Φ):SI.Xd (tx l) ⟨#[c]⟩=(l.Xd c:Φ):=by
 unfold SI.Xd;let⟨f,h1,h2⟩:=occ_tight (tx l) ⟨#[c]⟩ (by simp[β]);let q:=jP l c _ 0 f h1 h2;rw[γ.drop_zero]at q;rw[q]
structure CK(L:LN):Prop where
 lo:1≤L.length
 hi:L.length≤3
 nd:L.Nodup
 az:∀c∈L,97≤c/\c≤122
def HU{L:LN}(b:L.Nz)(h:i<L.β):L.M3 L[i]=i:=by
 let h1:=jt (l:=L) (c:=L[i]) (i:=i) (by simp[h]);let a:L.M3 L[i]<L.β:=by omega
 let e:=O_ a;by_cases d:L.M3 L[i]<i
 .exact MM e (γ.pairwise_iff_getElem.mp b _ _ a h d)
 .lia
def sL{f l:LN}(b:i<l.β)(a:(f++l).Nz):((f++[l[i]])++(l.OE i++l.Py (i+1))).Nz/\∀c,c∈(f++[l[i]])++(l.OE i++l.Py (i+1))->c∈f++l:=by
 let e:l=l.OE i++l[i]::l.Py (i+1):=by
  conv=>lhs;rw[<-Rt i l,γ.TR b]
 let p:(f++l).Xu ((f++[l[i]])++(l.OE i++l.Py (i+1))):=by
  conv=>lhs;rw[e]
  rw[Na];refine Xu.append_left f ?_;change (l.OE i++l[i]::l.Py (i+1)).Xu (l[i]::(l.OE i++l.Py (i+1)));show γ.perm_middle
 show(p.nodup_iff.mp a,λc d=>p.mem_iff.Ot d)
end RA
namespace RA
open L2
def xK:(NB.Ni "abcdefghijklmnopqrstuvwxyz")=tx (γ.range' 97 26):=by decide +kernel
def dD:(NB.Ni "")=tx []:=by decide +kernel
structure g_(L:LN)(W:LL)(B:List Bool):Prop where
 lt:CK L
 n1:1≤W.length
 n60:W.length≤2100
 bl:B.length=W.length
 row:∀ws∈W,ws.length=L.length/\∀x∈ws,x<W.length
abbrev Bw(L:LN)(W:LL)(r c:Φ):Φ:=(W.ML r []).ML (L.M3 c) 0
abbrev PM(L:LN)(W:LL)(r:Φ)(w:LN):Φ:=w.foldl (Bw L W) r
def g_.at(h:g_ L W B)(b:r<W.β)(e:c∈L):∃ws x,W[r]?=δ ws/\ws[L.M3 c]?=δ x/\Bw L W r c=x/\x<W.β:=by
 let hw:W[r]?<*W[r]:=by simp[b]
 let⟨h1,h2⟩:=h.Vx W[r] (Nv b);let d:L.M3 c<W[r].β:=by rw[h1];show M8 e
 let a:W[r][L.M3 c]?<*W[r][L.M3 c]:=by simp[d]
 refine(W[r],W[r][L.M3 c],hw,a,3,h2 _ (Nv d));unfold Bw;let f:W.ML r []=W[r]:=by
  rw[u6,hw];rfl
 rw[f,u6,a];rfl
def ER(L:LN)(W:LL)(r:Φ)(w:LN)(c:Φ):PM L W r (w++[c])=Bw L W (PM L W r w) c:=by
 unfold PM;rw[γ.U3];rfl
def Di{L:LN}{W:LL}{B:γ MZ}(h:g_ L W B):∀{w:LN}{r:Φ},r<W.β->(∀c∈w,c∈L)->PM L W r w<W.β
 |[],_,a,_=>a
 |c::w,r,a,hw=>by
  let⟨ws,x,_,_,e,b⟩:=h.at a (hw c (!1));show Di h (w:=w) (r:=Bw L W r c) (by rw[e];show b) λd f=>hw d (by simp[f])
abbrev c_(ws:LN):γ V:=ws.NN λ(n:Φ)=>V.MS (n:MN)
abbrev dL(H:Hp)(S0:γ υ)(W:LL):Prop:=∀(i:Φ)(r:υ),S0[i]?<*r->∃ws,W[i]?=δ ws/\H r<*.No (c_ ws)
inductive zl(H:Hp)(m:Addr)(L:LN)(W:LL)(B:List Bool):Prop
 |mk (wy mk:Addr) (rows:List Addr) (_:H m<*.tup [.str (tx L),.ref wy,.ref mk]) (_:H wy<*.tup (rows.map V.ref)) (_:H mk<*.tup (B.map V.bl)) (_:rows.length=W.length) (_:dL H rows W)
def dL.OR(h:dL H a W)(s:a' H H'):dL H' a W:=λi r e=>by
 let⟨ws,h1,h2⟩:=h i r e;show(ws,h1,s _ _ h2)
def zl.OR(h:zl H m L W B)(s:a' H H'):zl H' m L W B:=by
 let⟨b,mk,a,h1,h2,e,d,c⟩:=h;show(b,mk,a,s _ _ h1,s _ _ h2,s _ _ e,d,c.OR s)
def Ea{a b:Type}{xs:γ a}(f:a->b){x:a}(h:xs[i]?<*x):AN (xs.NN f) ((i:Φ):MN)<*f x:=AG (by rw[tS,h];rfl)
end RA
namespace L2
namespace RV
section
variable{prog:Program}{w:World}{A:Around}{E:Value->Shared->Prop}{s:Shared}
end
end RV
namespace ZP
abbrev bc(S:γ υ)(h h':NR):Prop:=h'.Nr.MX=h.Nr.MX/\∀c o,c∉S->h.ψ c<*o->h'.ψ c<*o
def bc.Ol(x:Pg a h h')(m:a∈S):bc S h h':=(x.1,λc o b e=>(x.2 c λq=>b (q▸m)).ν e)
def bc.ν(x:bc S h h1)(y:bc S h1 h2):bc S h h2:=(y.1.ν x.1,λc o a e=>y.2 c o a (x.2 c o a e))
section
variable{prog:Program}{w:World}{A:Around}{E:Value->Shared->Prop}{s:Shared}{z TI TO i1 i2:Addr}{f1 f2:List Addr}{n1 n2 k:Nat}{P1 P2:Nat->Value->Prop}{S1 S2:Nat->Heap->Prop}{a b:Value}
def Gm{Q:θ->MJ->Prop}(D1:TW Ξ w A i1 f1 n1 P1 S1)(Z:TW Ξ w A i2 f2 n2 P2 S2)(m1:∀c∈f1,c=i1\/c∉[z,TO,i1,i2])(m2:∀c∈f2,c=i2\/c∉[z,TO,i1,i2])(d:TV z TI TO i1 i2 TI TI)(hz:VF s.π z TI TO .ε)(B:Pn s.π TI (.ο i1) (.ο i2))(P:Pn s.π TO a b)(h1:S1 k s.π)(h2:S2 k s.π)(l1:k<n1)(l2:k<n2)(hQ:∀x y h' tk,P1 k x->P2 k y->VF h' z TI TO (Ny s⁻¹)->Pn h' TI (.ο i1) (.ο i2)->Pn h' TO x y->S1 (k+1) h'->S2 (k+1) h'->Pn h' s⁻¹ x y->
   (∀c o,c∉[z,TO,i1,i2]->s.π.ψ c<*o->h'.ψ c<*o)->Q (.ο s⁻¹) {s with π:=h',MW:=tk}):Ω (Cl Ξ w) A (Builtin.«zip.__next__» ([.ο z],[])) (λR s'=>∃v,R=.done (.UX v)/\Q v s') E s:=by
 unfold Builtin.«zip.__next__»;refine d_ (Rc (a:=(θ.ο z,[],)) ζ (d_ (NQ hz ζ (x:=.Ph η) ζ (d_ (NQ hz ζ (x:=.ο TI) ζ (d_ (O9 B ζ ?_)))))));refine OI (!1) (d_ ?_);unfold Builtin.OV.Ue;refine d_ (NQ hz ζ (x:=.ε) ζ (j' (VP (!0) (d_ (WL (d_ (NQ hz ζ (x:=.ο TO) ζ (d_ (Q9 hz (!1) λg1 z1 c1=>?_)))))))));let k1:bc [z,TO,i1,i2] s.π g1:=.Ol c1 (!1);let n:∀{j:Φ}{g g':NR},(∀c o,c∉[z,TO,i1,i2]->g.ψ c<*o->g'.ψ c<*o)->S1 j g->(∀o,g.ψ i1<*o->g'.ψ i1<*o)->S1 j g':=λk st e=>D1.RQ _ _ _ st λc h=>by
  rcases m1 c h with ζ|O
  .exact e
  .exact λo q=>k c o O q
 let l:∀{j:Φ}{g g':NR},(∀c o,c∉[z,TO,i1,i2]->g.ψ c<*o->g'.ψ c<*o)->S2 j g->(∀o,g.ψ i2<*o->g'.ψ i2<*o)->S2 j g':=λk st e=>Z.RQ _ _ _ st λc h=>by
  rcases m2 c h with ζ|O
  .exact e
  .exact λo q=>k c o O q
 simp only[γ.zipIdx_cons,γ.zipIdx_nil,Qi,ST];refine d_ (d_ (d_ (UN (d_ (m:=Builtin.OV.UQ (.ο i1)) (D1.Uy k _ _ _ l1 (n k1.2 h1 λo e=>(c1.2 i1 d.i1z).ν e) λx g2 t2 p1 d1 D=>j' ?_)))));let W:Pn g2 TO a b:=(D.2 TO d.TOi1).ν ((c1.2 TO d.TOz).ν P);refine d_ (O9 W ζ (d_ (VL W λg3 o3 r=>d_ (VO (j' (d_ (d_ (UN (d_ (m:=Builtin.OV.UQ (.ο i2)) (Z.Uy k _ _ _ l2 (l ((k1.ν (.Ol D (!1))).ν (.Ol r (!1))).2 h2 λo e=>?_) λy g4 t4 p2 d2 C=>j' ?_))))))))))
 .exact (r.2 i2 d.TOi2.MQ).ν ((D.2 i2 d.i12.MQ).ν ((c1.2 i2 d.i2z).ν e))
 let U:Pn g4 TO x b:=(C.2 TO d.TOi2).ν o3;refine d_ (O9 U ζ (d_ (VL U λf H p=>d_ (VO (j' (j' ?_))))));replace H:Pn f TO x y:=H;let k5:bc [z,TO,i1,i2] s.π f:=(((k1.ν (.Ol D (!1))).ν (.Ol r (!1))).ν (.Ol C (!1))).ν (.Ol p (!1));let T:VF f z TI TO .ellipsis:=(p.2 z d.TOz.MQ).ν ((C.2 z d.i2z.MQ).ν ((r.2 z d.TOz.MQ).ν ((D.2 z d.i1z.MQ).ν z1)));let N:S1 (k+1) f:=n (((bc.Ol (S:=[z,TO,i1,i2]) r (!1)).ν (.Ol C (!1))).ν (.Ol p (!1))).2 d1 λo e=>(p.2 i1 d.TOi1.MQ).ν ((C.2 i1 d.i12).ν ((r.2 i1 d.TOi1.MQ).ν e));let M:S2 (k+1) f:=l (bc.Ol (S:=[z,TO,i1,i2]) p (!1)).2 d2 λo e=>(p.2 i2 d.TOi2.MQ).ν e;refine d_ (O9 H ζ (d_ (wpAny_newTuple ?_)));unfold Builtin.OV.ownedTupleHandOut;let z6:VF (f.Nh {OO:=.MO "tuple",NL:=.Sz #[x,y]}) z TI TO .ellipsis:=sy _ T;refine d_ (d_ (Q9 z6 (!1) λg7 J Y=>?_));replace J:VF g7 z TI TO (Ny f.Nr.MX):=J;refine Q9 J (!1) λI F X=>j' (0,3);replace F:VF I z TI TO (Ny f.Nr.MX):=F;let i:∀c o,c≠z->f.ψ c<*o->I.ψ c<*o:=λc o h e=>(X.2 c h).ν ((Y.2 c h).ν (sy _ e));let t:f.Nr.MX≠z:=Qg (lt_size T);let u:Pn I f.Nr.MX x y:=(X.2 _ t).ν ((Y.2 _ t).ν (MV _ ζ));let sz:f.Nr.MX=s⁻¹:=k5.1;let L:Pn f TI (.ο i1) (.ο i2):=k5.2 TI _ (by simp[d.TIz,d.TITO,d.TIi1,d.TIi2]) B;change Q (.ο f.Nr.MX) _;rw[sz]at F u⊢;show hQ x y I t4 p1 p2 F (i _ _ d.TIz L) (i _ _ d.TOz H) (n (λc o h e=>i c o (λq=>h (by simp[q])) e) N λo e=>i _ o d.i1z e) (l (λc o h e=>i c o (λq=>h (by simp[q])) e) M λo e=>i _ o d.i2z e) u λc o h e=>i c o (λq=>h (by simp[q])) (k5.2 c o h e)
def ES(J:TW Ξ w A i1 f1 n1 P1 S1)(S:TW Ξ w A i2 f2 n2 P2 S2)(Y:∀c∈f1,c=i1\/c∉[z,TO,i1,i2])(m2:∀c∈f2,c=i2\/c∉[z,TO,i1,i2])(d:TV z TI TO i1 i2 TI TI)(hz:VF s.π z TI TO .ε)(D:Pn s.π TI (.ο i1) (.ο i2))(C:Pn s.π TO a b)(h1:S1 k s.π)(h2:S2 k s.π)(p:k=n1\/(k<n1/\k=n2))(hE:∀h' e l,(∀c o,c∉[z,TO,i1,i2]->s.π.ψ c<*o->h'.ψ c<*o)->(∃o,h'.ψ e=δ o/\o.OO=.MO "StopIteration")->E (.ο e) {s with π:=h',MW:=l}):Ω (Cl Ξ w) A (Builtin.«zip.__next__» ([.ο z],[])) Q E s:=by
 unfold Builtin.«zip.__next__»;refine d_ (Rc (a:=(θ.ο z,[],)) ζ (d_ (NQ hz ζ (x:=.Ph η) ζ (d_ (NQ hz ζ (x:=.ο TI) ζ (d_ (O9 D ζ (OI (!1) (d_ ?_)))))))));unfold Builtin.OV.Ue;refine d_ (NQ hz ζ (x:=.ε) ζ (j' (VP (!0) (d_ (WL (d_ (NQ hz ζ (x:=.ο TO) ζ (d_ (Q9 hz (!1) λF M c1=>?_)))))))));let k1:bc [z,TO,i1,i2] s.π F:=.Ol c1 (!1);let I:∀{j:Φ}{g g':NR},(∀c o,c∉[z,TO,i1,i2]->g.ψ c<*o->g'.ψ c<*o)->S1 j g->(∀o,g.ψ i1<*o->g'.ψ i1<*o)->S1 j g':=λk st e=>J.RQ _ _ _ st λc i=>by
  rcases Y c i with ζ|y
  .exact e
  .exact λo q=>k c o y q
 let H:∀{j:Φ}{g g':NR},(∀c o,c∉[z,TO,i1,i2]->g.ψ c<*o->g'.ψ c<*o)->S2 j g->(∀o,g.ψ i2<*o->g'.ψ i2<*o)->S2 j g':=λk st e=>S.RQ _ _ _ st λc i=>by
  rcases m2 c i with ζ|y
  .exact e
  .exact λo q=>k c o y q
 let N:S1 k F:=I k1.2 h1 λo e=>(c1.2 i1 d.i1z).ν e;let TL:∀(it:υ)(g g':NR)(e:υ)(l:Φ),it=i1\/it=i2->bc [z,TO,i1,i2] s.π g->VF g z TI TO .ellipsis->NR.ExtBut it g g'->(∃o,g'.ψ e=δ o/\o.OO=.MO "StopIteration")->
   Ω (Cl Ξ w) A (VT (.ο z) 0 .ε) (λ_ s'=>E (.ο e) s') E {s with π:=g',MW:=l}:=λit g g' e l n Z hg P f=>by
  let⟨X,f,R⟩:=f;let v:z≠it:=by rcases n with q|q<;>rw[q];show d.i1z.MQ;show d.i2z.MQ
  let L:VF g' z TI TO .ellipsis:=P z _ v hg;let ez:e≠z:=λq=>by
   rw[q]at f;have:=Nb (ω.NN Rp.OO) (f.MQ.ν L);rw[ω.map_some,ω.map_some,R]at this;show MM (show θ.MO "StopIteration"=θ.MO "zip" from ω.δ.QK this) (!0)
  refine Q9 (s:={s with π:=g',MW:=l}) L (!1) λt _ h=>hE t e l (λc o i q=>?_) (X,(h.2 e ez).ν f,R);refine(h.2 c λr=>i (by simp[r])).ν (P c o (λr=>i ?_) (Z.2 c o i q));rcases n with q|q<;>rw[r,q]<;>simp
 simp only[γ.zipIdx_cons,γ.zipIdx_nil,Qi,ST];rcases p with ζ|⟨B,ζ⟩
 .refine d_ (d_ (d_ (UN (d_ (m:=Builtin.OV.UQ (.ο i1)) (J.done _ _ _ N λt e U f=>?_)))));show TL i1 F t e s.MW (.NJ ζ) k1 M U f
 .refine d_ (d_ (d_ (UN (d_ (m:=Builtin.OV.UQ (.ο i1)) (J.Uy k _ _ _ B N λx t W p1 d1 h=>j' ?_)))));let O:Pn t TO a b:=(h.2 TO d.TOi1).ν ((c1.2 TO d.TOz).ν C);refine d_ (O9 O ζ (d_ (VL O λg3 o3 u=>d_ (VO (j' (d_ (d_ (UN (d_ (m:=Builtin.OV.UQ (.ο i2)) (S.done _ _ _ (H ((k1.ν (.Ol h (!1))).ν (.Ol u (!1))).2 h2 λo e=>?_) λg4 e T f=>?_))))))))))
  .exact (u.2 i2 d.TOi2.MQ).ν ((h.2 i2 d.i12.MQ).ν ((c1.2 i2 d.i2z).ν e))
  .exact TL i2 g3 g4 e W (.NU ζ) ((k1.ν (.Ol h (!1))).ν (.Ol u (!1))) ((u.2 z d.TOz.MQ).ν ((h.2 z d.i1z.MQ).ν M)) T f
end
section
variable{prog:Program}{w:World}{A:Around}{E:Value->Shared->Prop}{s:Shared}{z TI TO i1 i2:Addr}{n1 n2 k:Nat}{P1 P2:Nat->Value->Prop}{S1 S2:Nat->Heap->Prop}{a b:Value}
abbrev ET(x:NB)(t:XM):Rp:={OO:=.MO (if x.Tc.QD (· < 128)then "str_ascii_iterator" else "str_iterator"),NL:=.OB #[.NA x t,.MS 0 0]}
def pD(h:Q (.ο s⁻¹) {s with π:=s.π.Nh (ET x t)}):Ω (Cl Ξ w) A (VV (.NA x t)) Q E s:=by
 unfold ET at h;cases e:x.Tc.QD (· < 128)<;>rw[e]at h
 .exact wpAny_pyIter_wide e h
 .exact wpAny_pyIter_ascii e h
abbrev CW(x:NB)(t:XM)(it:υ)(i:Φ)(h:NR):Prop:=h.IsStrIter it (if x.Tc.QD (· < 128)then "str_ascii_iterator" else "str_iterator") x t i
def draws(d:A.PR=ε)(it:υ)(x:NB)(t:XM):TW Ξ w A it [it] x.Tc.MX (λi v=>∃c u,x.Tc[i]?=δ c/\v=.NA ⟨#[c]⟩ u) (CW x t it):=by
 unfold CW;cases x.Tc.QD (· < 128)
 .exact TW.strWide d it x t
 .exact TW.strAscii d it x t
end
end ZP
end L2
namespace RA
open L2 Builtin Builtin.Str
def JQ:(NB.Ni "a")=⟨#[97]⟩:=by decide +kernel
def zH:(NB.Ni "z")=⟨#[122]⟩:=by decide +kernel
end RA
namespace L2
open PySem.Spec PyProof.Rows
section
variable{X:Cx}{pins:List (Addr×Obj)}{σ:St}{H:Hp}{s:Shared}{h':Heap}
def Ar{S:γ υ}(f:∀b∈S,H b=ε)(e:H b<*u):b∉S:=λa=>by rw[f b a]at e;cases e
def f'.ZQ{S:γ υ}(I:f' X M1 σ H s)(k:∀b o,b∉S->s.π.ψ b<*o->h'.ψ b<*o)(f:∀b∈S,be X M1 H b):f' X M1 σ H {s with π:=h',MW:=t'}:=by
 refine I.Qk (g':=s.T7) (d':=s.T8) (ch:=S) (λb o e _ _ d=>k b o d e,λb o e _ _ d=>(o.Ry,k b o d e),λ_ _ _ n _=>n,λb o e d=>(o,k b o d e),λ_ _ e=>e,λ_ _ _ e=>e,λ_ ps e=>(#[],by rw[e];simp))
  (λb u e=>(I.Og b u e).SX (λc v d q=>k c v ?_ q) (λ_ q=>q) λ_ _ q=>q) I.R5 λb a=>((f b a).2.2.2.1,(f b a).2.1,(f b a).2.2.2.2.1,(f b a).2.2.2.2.2)
 rcases d with z|z
 .rw [z];show Ar (λb a=>(f b a).1) e
 .exact Ar (λb a=>(f b a).1) z
def f'.Wx{S:γ υ}{t':Φ}{o:HO}(I:f' X M1 σ H s)(k:∀b o,b∉S->s.π.ψ b<*o->h'.ψ b<*o)(f:∀b∈S,be X M1 H b)(h:Az X.Ξ X.w (MT H s⁻¹ o) h' s⁻¹ o):f' X M1 σ (MT H s⁻¹ o) {s with π:=h',MW:=t'}:=by
 let i:H s⁻¹=ε:=I.Og.OG (LE _);let g:∀b u,H b<*u->b≠s⁻¹:=λb u e=>e_ e i;refine I.Qk (g':=s.T7) (d':=s.T8) (ch:=S) (λb o e _ _ d=>k b o d e,λb o e _ _ d=>(o.Ry,k b o d e),λb o e n _=>?_,λb o e d=>(o,k b o d e),λb xs e=>by rw[a_ (g b _ e)];show e,λb o u e=>by rw[a_ (g b _ e)];show e,λb ps e=>(#[],by rw[a_ (g b _ e),e];simp))
  (λb u e=>?_) I.R5 λb a=>((f b a).2.2.2.1,(f b a).2.1,(f b a).2.2.2.2.1,(f b a).2.2.2.2.2)
 .rw [a_ (M_ (lt_size e))];show n
 .by_cases a:b=s⁻¹
  .subst a;rw[j_]at e;cases e;show h
  .rw [a_ a]at e;refine(I.Og b u e).SX (λc v d q=>k c v ?_ q) (λc q=>by rw[a_ (g c _ q)];show q) λc xs q=>by rw[a_ (g c _ q)];show q
   rcases d with z|z
   .rw [z];show Ar (λb a=>(f b a).1) e
   .exact Ar (λb a=>(f b a).1) z
end
end L2
namespace L2
open PySem.Spec PyProof.Rows Builtin Builtin.Str
section
variable{X:Cx}{e:Expr}{te:TE}
end
end L2
namespace L2
open PySem.Spec PyProof.Rows
abbrev mu(o:Rp):ω υ×ω θ:=(o.Pz,match o.NL with|.OB vs=>vs[2]?|_=>ε,)
abbrev Aj{α:Type}:ZD α->Prop
 |.pure _=>Os
 |.raise _=>Os
 |.Z3 _=>Os
 |.load _ _ k=>∀o,Aj (k o)
 |.O4 _ _ f k=>(∀o,mu (f o)=mu o)/\Aj (k ())
 |.alloc _ k=>∀a,Aj (k a)
 |.NC k=>∀a,Aj (k a)
 |.ask k=>∀a,Aj (k a)
 |.PR _ k=>∀a,Aj (k a)
 |_=>NX
abbrev DK(h h':NR):Prop:=∀(b:υ)(o:Rp),h.Nr[b]?<*o->∃o',h'.Nr[b]?=δ o'/\mu o'=mu o
def DK.Tn:DK h h:=λ_ o e=>(o,e,1)
def DK.ν(a:DK h h1)(b:DK h1 h2):DK h h2:=λx o e=>let⟨_,f,d1⟩:=a x o e;let⟨c,d,d2⟩:=b x _ f;(c,d,d2.ν d1)
def l'{f:c->ZD e}(d:∀a,Aj (f a)):∀{t:ZD c},Aj t->Aj (t>>=f):=by
 intro t;change Aj t->Aj (ZD.Wr t f);induction t with
 |pure a=>show λ_=>d a
 |raise=>show id
 |Z3=>show id
 |load a p k b=>show λh o=>b o (h o)
 |O4 a p g k b=>show λh=>(h.1,b () h.2)
 |alloc o k b=>show λh a=>b a (h a)
 |NC k b=>show λh a=>b a (h a)
 |ask k b=>show λh a=>b a (h a)
 |PR o k b=>show λh a=>b a (h a)
 |_=>show λh=>h.Nx
def uT{Q:i->Sh->MJ->Prop}:∀(t:ZD i)(p:Sh)(s:MJ),Aj t->DK h0 s.π->ZD.wp M Γ t (λa p s'=>DK h0 s'.π->Q a p s') E p s->ZD.wp M Γ t Q E p s:=by
 intro t;induction t with
 |pure a=>show λp s _ d h=>h d
 |raise=>show λp s _ d h=>h
 |Z3=>show λp s _ d h=>h
 |load a q k c=>show λp s g d⟨o,e,h⟩=>(o,e,c o p s (g o) d h)
 |O4 a q f k c=>
  refine λp s g d⟨e,h⟩=>(e,c () p _ g.2 (d.ν λb o z=>?_) h);change ∃j,(s.π.Nr.modify a f)[b]?=δ j/\_;rw[Nt.getElem?_modify];split
  .rw [z];show(f o,1,g.1 o)
  .exact (o,z,1)
 |alloc o k c=>
  refine λp s g d h=>c _ p _ (g _) (d.ν λb u z=>(u,3,1)) h;change (s.π.Nr.Nh o)[b]?<*u;rw[Nt.Yu,BT (M_ (Nt.Ox.mp z).1)];show z
 |NC k c=>show λp s g d h=>c _ p s (g _) d h
 |ask k c=>show λp s g d h=>c _ p s (g _) d h
 |PR o k c=>show λp s g d h=>c _ p s (g _) d h
 |_=>show λp s g=>g.Nx
def AR{t:ZD b}{Q:b->MJ->Prop}(g:Aj t)(h:Ω M A t (λa s'=>DK s.π s'.π->Q a s') E s):Ω M A t Q E s:=
 λΓ p c=>uT t p s g .Tn (h Γ p c)
def jx(h:∀o,mu (f o)=mu o):Aj (O4 a f):=(h,Os.Of)
def JR(a:υ):Aj (load a):=λ_=>Os.Of
def Ba:Aj NC:=λ_=>Os.Of
def AE(v:θ)(i:Φ):Aj (field v i):=by
 unfold field fieldsOf;refine l' (λa=>by split<;>show Os.Of) ?_;split
 .refine l' (λo=>by split<;>show Os.Of) (JR _)
 .exact Os.Of
def GI(a:i≠2)(o:Rp):mu (o.O7 (·.NY i x))=mu o:=by
 let⟨c,d,b,e⟩:=o;cases b with
 |OB vs=>change (d,(vs.NY i x)[2]?,)=(d,vs[2]?,);rw[Nt.getElem?_setIfInBounds_ne a]
 |_=>rfl
def dw(v:θ)(i:Φ)(x:θ)(a:(i≠2)>>>0):Aj (VT v i x):=by
 unfold VT updateField;split
 .refine l' (λo=>?_) (JR _);split
  .split
   .exact (λo=>GI a o,Os.Of)
   .exact Os.Of
  .exact Os.Of
 .exact Os.Of
def AS(e:θ)(f:ω υ):Aj (Sy e f):=by
 unfold Sy;show l' (λa=>by split;show dw _ _ _;show Os.Of) (AE _ _)
def Ll:∀l:γ WH,Aj (readyFrames l)
 |[]=>Os.Of
 |KK::r=>by
  unfold readyFrames;split
  .refine l' (λo=>?_) (JR _);split
   .exact Os.Of
   .refine l' (λb=>l' (λv=>l' (λ_=>Ll r) ?_) ?_) ?_
    .exact jx λ_=>rfl
    .unfold keptBack;split
     .split
      .exact Os.Of
      .refine l' (λ_=>?_) ?_
       .exact Os.Of
       unfold underTheClaimsCaller;show l' (λ_=>by first|show Os.Of|(split<;>show Os.Of)) Ba
     .exact Os.Of
    .unfold behindIsImport;split
     .exact Os.Of
     .split
      .exact Os.Of
      .refine l' (λ_=>?_) (AE _ _);show Os.Of
  .exact Os.Of
def EU(T:Yg)(vs:γ θ):Aj (newFields T vs):=by
 unfold newFields newObj newObjAsIs;dsimp only;split
 .exact Os.Of
 .refine l' (λa=>?_) ?_
  .exact Os.Of
  .exact λ_=>Os.Of
def Cf(e:θ)(KK:WH):Aj (Ts e KK):=by
 unfold Ts;split
 .refine l' (λh=>?_) (AE _ _);let Ru:∀b:MZ,Aj (do VT e 1 (<-EntryCells.newEntry h (<-Δ.frameOf KK) .ε (Ny ‹υ›) .ε (<-entryPlaceOf ‹υ› b))):=λb=>by
   refine l' (λc=>l' (λpl=>l' (λx=>dw _ _ _) ?_) ?_) ?_
   .exact EU _ _
   .unfold entryPlaceOf;refine l' (λa=>by split<;>show Os.Of) Ba
   .unfold Δ.frameOf frameEnvs;refine l' (λd=>l' (λo=>by split<;>show Os.Of) ?_) (l' (λ_=>?_) Ba)
    rotate_left
    .exact Os.Of
    unfold frameObject;split
    .exact Os.Of
    .refine l' (λ_=>?_) (Ll _);show Os.Of
  split
  .refine l' (λx=>?_) (AE _ _);split
   .exact Os.Of
   .exact l' (λ_=>Ru _) (dw _ _ _)
  .exact Ru _
 .exact Os.Of
def Bi(KK:WH)(e:θ):Aj (SE KK e):=l' (λ_=>AS _ _) (Cf _ _)
inductive FK(h:Heap)(e T:Addr)(cls a0:Value)(d:Option Addr):Prop
 |mk (oe vs oT ts:_) (_:h.get? e<*oe) (_:(oe.cls=cls/\vs[0]?<*a0)) (_:oe.data=.fields vs) (_:vs[1]?<*.ref T) (_:T≠e) (_:h.get? T<*oT) (_:oT.data=.fields ts) (_:ts[3]?<*.none) (_:∀x,d<*x->mu oe=(some x,some .none,))
def FK.traced(x:FK h e T OO a0 d)(n:ς.ψ T=ε):h.TracedW ς e OO a0:=by
 let⟨a,vs,b,ts,h1,h2,k,j,i,g,f,c,_⟩:=x;show(a,vs,T,b,ts,h1,h2,k,j,n,i,g,f,c)
def gZ(x:h.TracedW ς e OO a0):∃T,ς.ψ T=ε/\FK h e T OO a0 ε:=by
 let⟨a,vs,T,b,ts,h1,h2,j,i,n,g,f,d,c⟩:=x;show(T,n,a,vs,b,ts,h1,h2,j,i,g,f,d,c,λ_ z=>nomatch z)
def bO{h:NR}(e:h.ψ a<*o):h.Nr[a]?<*o:=by
 unfold NR.ψ at e;split at e
 .cases e
 .exact e
def FK.up(f:FK h' e T OO a0 ε)(k:DK h h')(g:h.ψ e<*o)(q:∀x,d<*x->mu o=(δ x,δ .ε,)):FK h' e T OO a0 d:=by
 let⟨b,vs,c,ts,h1,h2,p,n,m,l,j,i,_⟩:=f;let⟨s,a,r⟩:=k e o (bO g);rw[bO h1]at a;cases a;show(b,vs,c,ts,h1,h2,p,n,m,l,j,i,λx z=>r.ν (q x z))
inductive Am(P:Program)(w:World)(outer:List Env)(H:Hp)(s:Shared)(E:XK)(ev:Value)(s':Shared):Prop
 |mk (e T:Addr) (C a0:Value) (dd:Option Addr) (H':Hp) (_:ev=.ref e) (_:s'.os=s.os) (_:AllBare s'.gens) (_:Un (s_ outer) [] H H' s.heap s'.heap) (_:Au P w H' s'.heap) (_:s.heap.get? e=none) (_:s.heap.get? T=none) (_:H' e=none) (_:H' T=none) (_:FK s'.heap e T C a0 dd) (_:E C dd H')
def FL{h ς:NR}{a:γ υ}:∀{l:γ WH},h.O2 ς l->(∀b∈s_ l,b∈a)->h.O2 (Qq h a) l
 |[],_,_=>trivial
 |KK::r,i,c=>by
  let⟨j,⟨L,o,d,n,g,k⟩,f⟩:=i;let e:s_ (KK::r)=L::s_ r:=by unfold s_;rw[Sa,d]
  show(j,(L,o,d,PJ _ (c L (by rw[e];show N8)),g,k),FL f λb m=>c b (by rw[e];show M4 _ m))
def Gn{h ς:NR}:∀{l:γ WH},h.O2 ς l->∀b∈s_ l,∃o,h.ψ b=δ o/\∀vs,o.NL≠.OB vs
 |KK::r,f,b,a=>by
  let⟨k,⟨L,o,g,j,d,i⟩,c⟩:=f;let e:s_ (KK::r)=L::s_ r:=by unfold s_;rw[Sa,g]
  rw[e]at a;rcases MP.mp a with ζ|a
  .exact (o,d,i)
  .exact Gn c b a
section
variable{X:Cx}{pins:List (Addr×Obj)}{σ:St}{H H':Hp}{s:Shared}{h1 h2:Heap}
def f'.flown{S:γ υ}(I:f' X M1 σ H s)(un:Un (s_ X.NC) [] H H' s.π h1)(x:Au X.Ξ X.w H' h1)(t:∀b∈S,s.π.ψ b=ε)(m:∀b∈S,H' b=ε)(d:∀b o,h1.ψ b<*o->b∉S->b∉s_ X.NC->h2.ψ b<*o)(D:h1.Um h2)(M:Wu g'):f' X M1 σ H' {s with π:=h2,T7:=g',T8:=d',MW:=t'}/\Un (s_ X.NC) [] H H' s.π h2/\Au X.Ξ X.w H' h2:=by
 let g:∀b o,s.π.ψ b<*o->b∉S:=λb o e a=>by rw[t b a]at e;cases e
 let A:∀b∈s_ X.NC,∃o,s.π.ψ b=δ o/\∀vs,o.NL≠.OB vs:=Gn I.NC;let r:∀b∈s_ X.NC,H' b=ε:=λb a=>by
  let⟨o,L,_⟩:=A b a;show un.N6 b o L (I.Tj b a) (!1)
 let k:Un (s_ X.NC) [] H H' s.π h2:=by
  refine(λb o e n a j=>d b o (un.QC b o e n a j) (g b o e) a,λb o e n a j=>?_,un.N6,λb o e j=>?_,un.QT,un.Vd,un.VR)
  .obtain ⟨F,C⟩:=un.Ud b o e n a j;let⟨J,f,y⟩:=A b a;rw[e]at f;cases f;let⟨l,B⟩:=D b _ C y;show(l,B)
  .obtain ⟨E,C⟩:=un.QU b o e j;by_cases a:b∈s_ X.NC
   .obtain ⟨J,f,y⟩:=A b a;rw[e]at f;cases f;let⟨F,B⟩:=un.Ud b o e (I.Tj b a) a j;let⟨l,N⟩:=D b _ B y;show(_,N)
   .exact (E,d b E C (g b o e) a)
 let h:Au X.Ξ X.w H' h2:=λb u e=>(x b u e).SX (λc v i q=>d c v q (λp=>?_) λp=>?_) (λ_ q=>q) λ_ _ q=>q
 .exact (I.Qk (g':=g') (d':=d') (t':=t') (ch:=[]) k h M (λ_ z=>nomatch z),k,h)
 .rcases i with ζ|i
  .rw [m c p]at e;cases e
  .rw [m c p]at i;cases i
 .rcases i with ζ|i
  .rw [r c p]at e;cases e
  .rw [r c p]at i;cases i
def AH(I:f' X M1 σ H s)(a:X.ex=[])(d:s.π.ψ b=ε):X.RN.π.ψ b=ε:=by
 cases e:X.RN.π.ψ b with
 |ε=>rfl
 |δ o=>
  let⟨c,q⟩:=I.ς.QU b o e (by rw[a];simp);rw[d]at q;cases q
def Hc(c:Au P w H h)(d:h.ψ b=ε):H b=ε:=by
 cases e:H b with
 |ε=>rfl
 |δ u=>
  obtain⟨o,q⟩:∃o,h.ψ b<*o:=by
   let z:=c b u e;cases u with
   |M7=>let⟨_,a,n,_,q⟩:=z;show(_,q)
   |No=>let⟨_,a,_,o,q,_⟩:=z;show(_,q)
   |dK=>let⟨_,_,vs,_,o,f,g,q,_⟩:=z;show(_,q)
   |dT=>let⟨_,_,xs,_,o,f,g,q,_⟩:=z;show(_,q)
   |Ra=>let⟨o,f,g,t,q,_⟩:=z;show(o,q)
   |Uq=>let⟨_,_,_,q,_⟩:=z;show(_,q)
   |Xk=>show z
   |xd=>let⟨i,⟨o,f,g,q,_⟩,_⟩:=z;show(o,q)
   |rng=>let⟨t,u,v,q⟩:=z;show(_,q)
   |frz=>show(_,z.1)
   |Wy=>show(_,z)
   |met=>show(_,z)
   |ext=>show z.2.1
  rw[d]at q;cases q
def IU(j:FK h e T OO a0 d)(f:h.O2 ς l):T∉s_ l:=λc=>by
 let⟨k,vs,m,ts,_,_,_,_,_,i,a,_⟩:=j;let⟨o,b,g⟩:=Gn f T c;rw[i]at b;cases b;show g ts a
end
section
variable{X:Cx}{E:XK}
def pk(f:X.ex=[])(Rx:X.NC=X.KK::X.Fr)(g:X.KK.RQ<*X.KK.Oc){p:St}(I:f' X k p H s)(mk:NR.ZE s.π h1 e C vs)(q:E C ε H):Ω (Cl X.Ξ X.w) X.A (SE X.KK (.ο e)) (λ_ a=>Am X.Ξ X.w X.Fr X.XQ X.RN E (.ο e) a) (λe' a=>Am X.Ξ X.w X.Fr X.XQ X.RN E e' a) {s with π:=h1}:=by
 let d:s.π.O2 X.ς (X.KK::X.Fr):=Rx▸I.NC;refine wpAny_leaves_madeW (s:={s with π:=h1}) (ς:=Qq s.π (s_ X.NC)) (h:=s.π) (by rw[<-Rx];show I.ok.Qc) g (λb o z=>SJ _ z) (FL d (by rw[Rx];show λ_ z=>z)) mk λh' t m No B r=>?_;let⟨i,u,c⟩:=I.flown (H':=H) (h1:=s.π) (h2:=h') (g':=s.T7) (d':=s.T8) (t':=s.MW) (S:=[]) Un.Tn I.Og (λ_ z=>nomatch z) (λ_ z=>nomatch z) (λb o z _ x=>m.1 b o (Ps _ z x))
  (λb o z v=>r b o (mk.Oq b o z) v) I.R5
 let⟨T,l,n⟩:=gZ m.2.2.2;let dT:s.π.ψ T=ε:=by
  cases z:s.π.ψ T with
  |ε=>rfl
  |δ o=>
   let y:=IU n i.NC;rw[Ps _ z y]at l;cases l
 let j:=i.ς;rw[f]at j;show(e,T,C,.ο t,ε,H,1,i.os,I.R5,j,c,AH I f mk.X0,AH I f dT,Hc I.Og mk.X0,Hc I.Og dT,n,q)
def rN(D:X.ex=[])(Rx:X.NC=X.KK::X.Fr)(F:X.KK.RQ<*X.KK.Oc)(hE:∀C d H,E' C d H->E C d H){N:St}(I:f' X k N H s)(cx:Am X.Ξ X.w X.NC H s E' Y s'):Ω (Cl X.Ξ X.w) X.A (SE X.KK Y) (λ_ f=>Am X.Ξ X.w X.Fr X.XQ X.RN E Y f) (λe' f=>Am X.Ξ X.w X.Fr X.XQ X.RN E e' f) s':=by
 let⟨e,T,C,a0,dd,H',ζ,os,a,un,h,Z,dT,Q,R,W,q⟩:=cx;let⟨c,g,d,j,B⟩:=s';obtain ζ:B=s.os:=os;let I1:f' X k N H' {s with π:=c,T7:=g,T8:=d,MW:=j}:=I.Qk (g':=g) (d':=d) (t':=j) (ch:=[]) un h a (λ_ z=>nomatch z);let x:c.O2 X.ς (X.KK::X.Fr):=Rx▸I1.NC;let fl:Zp (Qq c (e::T::s_ X.NC)) (X.KK::X.Fr) e C a0 c:=
  (λb o z=>SJ _ z,PJ _ (!1),FL x (by rw[<-Rx];show λb z=>M4 _ (M4 _ z)),W.traced (PJ _ (!1)))
 refine AR (s:=(c,g,d,j,s.os)) (Bi _ _) (wpAny_leaves_onW (s:=(c,g,d,j,s.os)) (by rw[<-Rx];show I.ok.Qc) F fl λh' u up dk=>?_);let l:∀b o,c.ψ b<*o->b∉[e,T]->b∉s_ X.NC->h'.ψ b<*o:=λb o z U p=>u.1 b o (Ps _ z λn=>by
  rcases MP.mp n with y|n
  .exact U (by rw[y];simp)
  .rcases MP.mp n with y|n
   .exact U (by rw[y];simp)
   .exact p n)
 let⟨M,ab,m⟩:=I.flown (H':=H') (h1:=c) (h2:=h') (g':=g) (d':=d) (t':=j) (S:=[e,T]) un h (λb p=>by rcases MP.mp p with z|z;rw[z];show Z;rw[Ay z];show dT)
  (λb p=>by rcases MP.mp p with z|z;rw[z];show Q;rw[Ay z];show R) l up a
 let⟨T',P,i⟩:=gZ u.2.2.2;let v:s.π.ψ T'=ε/\H' T'=ε:=by
  cases z:c.ψ T' with
  |ε=>
   refine(3,Hc h z);cases y:s.π.ψ T' with
   |ε=>rfl
   |δ o=>
    let⟨o',r⟩:=un.QU T' o y (!1);rw[z]at r;cases r
  |δ o=>
   by_cases t:T'=T
   .rw [t];show(dT,R)
   .let L:T'≠e:=by let⟨_,_,_,_,_,_,_,_,z,_⟩:=i;show z
    let J:=IU i M.NC;rw[Ps _ z (by simp[t,L,J])]at P;cases P
 let O:=M.ς;rw[D]at O;let⟨oe,_,_,_,g1,_,_,_,_,_,_,_,g2⟩:=W;show(e,T',C,a0,dd,H',1,M.os,a,O,m,AH I D Z,AH I D v.1,Q,v.2,i.up dk g1 g2,hE _ _ _ q)
end
section
variable{X:Cx}
abbrev tK(X:Cx)(e:Rb)(c:St->Prop):Prop:=∀(M1:γ (υ×Rp))(s:MJ)(σ:St)(H:Hp)(Q:θ->MJ->Prop),f' X M1 σ H s->c σ->(∀y t s',f' X M1 σ H s'->y.β≤100000->Q (.NA y t) s')->
 Ω (Cl X.Ξ X.w) X.A (OM e X.KK) Q X.xe s
abbrev mE(X:Cx):γ Rb->(St->Prop)->Prop
 |[],_=>Os
 |e::es,c=>tK X e c/\mE X es c
def jz(h:(x.β≤100000)>>>0):tK X (.Vm (.NA x) j Nj) c:=λ_ _ _ _ _ I _ q=>SB.Constant_str (q x _ _ (I.Tw _) h)
abbrev vq(i:Φ)(σ:St):Prop:=∃x:NB,σ[i]?=δ (δ (.NA x))/\x.β≤5000/\∀c∈x.Tc.NF,c<1000000
def wE(h:n≤100000):n≤Λ:=by rw[OQ];omega
def jy(i:Φ)(j:PE X v (bC i))(k:∀a,c a->vq i a):tK X (.FormattedValue v (-1) ε Nj) c:=λb s a H Q I l q=>by
 let⟨x,e,r,_⟩:=k a l;refine Oi.Sf.FormattedValue_plain (ri (j b s a H (λw f=>w=.NA x/\f=H) I (_,e,5)) λu p d=>?_);let⟨w,f,o,h,n,m⟩:=d;subst n m;let⟨t,ζ⟩:=h;show Oi.Sf.formatField_str (λt' g=>q x t' _ (o.Tw g) (!2)) (wE (!2))
def Lm{c:St->Prop}{a:γ (υ×Rp)}{f:St}{H:Hp}{Q:NB->MJ->Prop}(g:c f)(q:∀TL s,f' X a f H s->TL.β≤3000000->Q TL s):∀{d:γ Rb}{b:NB}{s:MJ},mE X d c->d.β≤20->b.β+d.β*100000≤3000000->f' X a f H s->
  Joins (Cl X.Ξ X.w) X.A X.xe (evalEach d X.KK) b Q s
 |[],b,s,_,_,hz,I=>by
  rw[show evalEach [] X.KK=[] by rfl];show q b s I (by simpa using hz)
 |e::d,b,s,h,i,hz,I=>by
  rw[show evalEach (e::d) X.KK=OM e X.KK::evalEach d X.KK by rfl];refine h.1 a s f H _ I g λy t s' j k=>(y,t,1,3,3)
  .rw [NB.Ys,OQ];simp at hz;lia
  .refine Lm g q h.2 (by simp at i;omega) ?_ j;rw[NB.Ys];simp at hz;lia
abbrev zM(c:St->Prop):TE:=λσ H Q=>c σ/\∀x,Q (.NA x) H
def wO(h:mE X (b::a::Ru) c)(e:((b::a::Ru).β≤20)>>>0):PE X (.JoinedStr (b::a::Ru) Nj) (zM c):=by
 intro d s i H Q I ⟨f,q⟩;refine wpAny_JoinedStr (Lm f (λTL s' g hz=>(3,.NA TL,H,g.Tw _,(_,ζ),q TL)) h e ?_ I)
 .have:NB.Rj.β=0:=ζ;simp at e⊢;lia
 .rw [OQ];omega
end
abbrev Dx(K:Nn)(C:υ):Prop:=Δ.W.excIn K C [.MO "ValueError",.MO "Exception",.MO "BaseException",.MO "object"] "ValueError.__new__"=ξ
def Dx.Uf{K:Nn}(q:Dx K C)(X:K.In h):∃bm N nm j bs UT sn Rr ab VJ dd k0 k1 k2 k3 k5 mN,h.ψ C=δ (Ri nm j C N bs bm UT sn Rr ab VJ dd k0 k1 k2 k3 k5 "ValueError.__new__")/\h.Ns N mN/\mN "__init__"=ε/\
  Zo h [.MO "ValueError",.MO "Exception",.MO "BaseException",.MO "object"] bm:=by
 unfold Dx Δ.W.excIn at q;split at q;case h_2=>cases q
 case h_1 o dd n i c=>
  split at q;case h_2=>cases q
  case h_1 D bm k0 k1 k2 k3 mk k5 m k=>
   let⟨q,a⟩:=Oh.mp q;let⟨q,b⟩:=Oh.mp q;let⟨q,g⟩:=Oh.mp q;let⟨q,d⟩:=Oh.mp q;let⟨f,e⟩:=Oh.mp q;cases Oy.mp f;cases Oy.mp e;let⟨l⟩:=i;cases k;cases n;cases m;cases RC _▸d;show(bm,7,7,7,7,_,dd,k0,k1,k2,k3,k5,_,X _ _ c,.of_isNs (Δ.W.isNs_of_in X b),Δ.W.nsMap_none_of_in X b (Oy.mp a),Δ.W.tail_of_in X g)
abbrev tE(X:Cx)(E:XK):Prop:=∀(M1:γ (υ×Rp))(σ:St)(H:Hp)(s:MJ)(h1:NR)(e:υ)(C:θ)(vs:γ θ),f' X M1 σ H s->NR.ZE s.π h1 e C vs->E C ε H->X.xe (.ο e) {s with π:=h1}
abbrev wj(C:υ)(E:XK)(t:TA):TS:=λ_ σ H=>t σ H λvs H1=>vs.β≤Λ/\E (.ο C) ε H1
def qH{r a Nj:Sh}(z:X.T9=ξ)(B:tE X E)(J:Dx X.K C)(u:X.mg x<*.ο C)(A:PA X (j::Ru) t)(w:Gl X x>>>4)(y:((x==("__debug__":NB))=η)>>>0)(l:(Θ (j::Ru) X.KK=(η,OM j X.KK,)::Θ Ru X.KK)>>>4)(d:((OF a (Θ Ru X.KK)).Ql (·.1)=η)>>>4):PS X (.Raise (δ (.QG (.N0 x r) (j::Ru) [] a)) ε Nj) (wj C E t):=by
 intro b s k H D I h;let⟨bm,N,nm,p,bs,UT,sn,Rr,ab,VJ,dd,k0,k1,k2,k3,k5,mN,i,F,f,n⟩:=J.Uf I.ok.VX.Vz;refine wpAny_Raise_call_subT (C:=C) (nm:=nm) (q:=p) (N:=N) (bs:=bs) (bm:=bm) (UT:=UT) (sn:=sn) (Rr:=Rr) (ab:=ab) (VJ:=VJ) (dd:=dd) (k0:=k0) (k1:=k1) (k2:=k2) (k3:=k3) (k5:=k5) RF (mN:=mN)
  (n.hasType RF.hasBase) (I.ok.hd z) (by rw[l];change (η||(OF a (Θ Ru X.KK)).Ql (·.1))=η;rw[d];rfl) f (v_ I w u (1,3) y)
 let m:=A a b s k H _ I h;rw[l]at m⊢;show SB.Sb (ri m λus s2 g=>by let⟨vs,L,c,o,v,q⟩:=g;show(1,by rw[<-o.β];show v,c.bk _ _ i,F.Oq c.bk,n.Oq c.bk,λh' e mk=>B b k L s2 h' e _ _ c mk q))
section
variable{P:Program}{w:World}{K:Frag}{mg:Str->Option Value}{base:Heap}{N:List Str}{qual:Str}{scope:Scope}{f:Addr}{cd:Value}{A:Around}{outer:List Env}{s:Shared}{H:Hp}{E:XK}
def ky:tE (aG (Am P w) P w K mg ς N M6 NG f cd A Fr s H E) E:=λa b d c h1 e C vs I mk q=>pk (X:=aG (Am P w) P w K mg ς N M6 NG f cd A Fr s H E) ζ ζ ζ I mk q
def CL(b:∀C d H,e C d H->E C d H):Eu (Am P w) (aG (Am P w) P w K mg ς N M6 NG f cd A Fr s H E) e:=λa g j h i s' I c=>rN (X:=aG (Am P w) P w K mg ς N M6 NG f cd A Fr s H E) ζ ζ ζ b I c
end
def vh.okX{P:NE}{w:N1}{K:Nn}{st:Nu}(F:vh K x M6 st f h)(S:vw N ps (h_ st))(PQ:∀vs H Q E,d vs H Q E->vs.β=ps.β)(a:∀(Qm:θ)(A:N2)(Fr:γ WH)(s:MJ)(H:Hp)(vs:γ V)(Q:VK)(E:XK),ak k (A.RH (S7 M6 (h_ st) s⁻¹ f Qm))->d vs H Q E->
   ∃t,BA (aG (Am P w) P w K mg ς N M6 (h_ st) f Qm A Fr s H E) (p_ st) t/\t {nx:=λ_ H'=>Q .Rv H',rt:=Q} (SQ N vs) H):aa P w K mg ς (Am P w) (k+1) f h ps d:=by
 let⟨j,i,kV,Pm,pm,an,Qm,ct,e,ζ,lk,c⟩:=F.ex;show jC lk c S PQ λA Fr s H vs Q E g b=>a Qm A Fr s H vs Q E g b
abbrev AT(P:NE)(w:N1)(K:Nn)(mg:NB->ω θ)(ς:NR)(x:NB)(k:Φ)(ps:γ NB)(sp:Sp):Prop:=
 ∃(f:υ)(fd:Sg),mg x=δ (.ο f)/\UR K (.ο f)=ξ/\Ao K fd ps []/\aa P w K mg ς (Am P w) k f fd ps sp
def Cu{X:Cx}{p Nj:Sh}(D:AT X.Ξ X.w X.K X.mg X.ς x k ps d)(g:ak k X.A)(hp:Eu (Am X.Ξ X.w) X E)(j:PA X (e::a) t)(h:Gl X x>>>4)(c:((x==("__debug__":NB))=η)>>>0)(i:(Θ (e::a) X.KK=(η,OM e X.KK,)::Θ a X.KK)>>>4)(b:((OF Nj (Θ a X.KK)).Ql (·.1)=η)>>>4):PE X (.QG (.N0 x p) (e::a) [] Nj) (Cq d [] E t):=by
 let⟨f,m,h1,h2,l,F⟩:=D;show mY F g h h1 h2 l .Ow hp j c i b
abbrev dC(e:υ)(C:θ)(d:ω υ):HO:=.ext λh=>∃o,h.ψ e=δ o/\o.OO=C/\(∃vs,o.NL=.OB vs)/\∀x,d<*x->mu o=(δ x,δ .ε,)
instance Cx.US(X:Cx)(v:θ):Cx:={X with A:=X.A.Zb (δ v),T9:=η,xe:=λ_ _=>NX}
section
variable{X:Cx}{pins:List (Addr×Obj)}{σ:St}{H:Hp}{s:Shared}
def f'.US(I:f' X M1 σ H s)(v:θ):f' (X.US v) M1 σ H s:=
 ((I.ok.VX,I.ok.RT,I.ok.Wk,I.ok.blt,I.ok.WE,I.ok.QK,I.ok.UU,I.ok.cab,λz=>MZ.noConfusion z,I.ok.Qc,I.ok.stk,I.ok.exf,I.ok.bs,I.ok.bsz,I.ok.noex,I.ok.exfs,I.ok.Vc,I.ok.frf),I.os,I.R5,I.ς,I.X1,I.OA,I.N6,I.UK,I.Y4,I.Og,I.PQ)
def f'.unheld(I:f' (X.US v) M1 σ H s)(ok:X.Ok):f' X M1 σ H s:=(ok,I.os,I.R5,I.ς,I.X1,I.OA,I.N6,I.UK,I.Y4,I.Og,I.PQ)
def f'.track(I:f' X M1 σ H s)(l:H e=ε)(m:X.RN.π.ψ e=ε)(i:X.KK.Oc≠e)(j:∀x c,X.KK.Rm.ρ x<*c->c≠e)(h:∀p∈X.pn++M1,p.1≠e)(k:φ s.π)(a:∃o,s.π.ψ e<*o)(st:∀h1 h2:NR,φ h1->(∀o,h1.ψ e<*o->h2.ψ e<*o)->φ h2):f' X M1 σ (MT H e (.ext φ)) s:=by
 let d:∀b u,H b<*u->b≠e:=λb u q=>e_ q l;let g:∀b o,X.RN.π.ψ b<*o->b≠e:=λb o q z=>by rw[z,m]at q;cases q
 refine(I.ok,I.os,I.R5,(I.ς.QC,I.ς.Ud,λb o q n f=>?_,I.ς.QU,λb xs q=>?_,λb o u q=>?_,λb ps q=>?_),I.X1,I.OA,3,λx c q=>?_,λp hp=>?_,λb u q=>?_,I.PQ)
 .rw [a_ (g b o q)];show I.ς.N6 b o q n f
 .let z:=I.ς.QT b xs q;rw[a_ (d b _ z)];show z
 .let z:=I.ς.Vd b o u q;rw[a_ (d b _ z)];show z
 .obtain ⟨Ta,z⟩:=I.ς.VR b ps q;show(Ta,by rw[a_ (d b _ z)];show z)
 .rw [a_ i];show I.N6
 .rw [a_ (j x c q)];show I.UK x c q
 .obtain ⟨w,v,t⟩:=I.Y4 p hp;show(w,by rw[a_ (h p hp)];show v,t)
 .by_cases f:b=e
  .subst f;rw[j_]at q;cases q;show(k,a,st)
  .rw [a_ f]at q;show(I.Og b u q).SX (λ_ _ _ r=>r) (λc r=>by rw[a_ (d c _ r)];show r) λc xs r=>by rw[a_ (d c _ r)];show r
def f'.reframed{e:St}(I:f' X M1 σ H s)(f:Pg X.KK.Oc s.π h')(ns:h'.Ns X.KK.Oc k)(lk:∀(i:Φ)(x:NB)(v:V),X.N[i]?<*x->e[i]?<*δ v->G5 X.KK.NG x->∃u,ae v u/\zC X.KK h' k x u)(w:e.β=X.N.β):f' X M1 e H {s with π:=h',MW:=t'}:=by
 let g:∀b o,X.RN.π.ψ b<*o->b≠X.KK.Oc:=λb o q=>M_ (Ψ (lt_size q) I.ok.WE);let j:∀b u,H b<*u->b≠X.KK.Oc:=λb u q=>e_ q I.N6;refine(I.ok,I.os,I.R5,(λb o q n h a=>(f.2 b (g b o q)).ν (I.ς.QC b o q n h a),λb o q n h a=>?_,I.ς.N6,λb o q a=>?_,I.ς.QT,I.ς.Vd,I.ς.VR),(k,ns,lk),λx c q=>?_,I.N6,I.UK,λp hp=>?_,λb u q=>?_,w)
 .obtain ⟨m,z⟩:=I.ς.Ud b o q n h a;show(m,(f.2 b (g b o q)).ν z)
 .obtain ⟨t,z⟩:=I.ς.QU b o q a;show(t,(f.2 b (g b o q)).ν z)
 .obtain ⟨v,o,z,d⟩:=I.OA x c q;show(v,o,(f.2 c (I.cne x c q)).ν z,d)
 .obtain ⟨B,A,l,y⟩:=I.Y4 p hp;show((f.2 p.1 l).ν B,A,l,y)
 .refine (I.Og b u q).SX (λc v a r=>(f.2 c ?_).ν r) (λ_ r=>r) λ_ _ r=>r;rcases a with ζ|a
  .exact j c u q
  .exact j c _ a
def f'.goes2(I:f' X M1 σ H s)(g:X.N.Nz)(B:X.N[i]?<*n)(y:X.KK.Om n<*.local)(q:∀s',Pg X.KK.Oc s.π s'.π->s'.T7=s.T7->f' X M1 (σ.Ra i ε) H s'->Q () s'):Ω (Cl X.Ξ X.w) A (do bindName X.KK n .ε;unbindBehindTheSuite X.KK n Nj) Q E s:=by
 let⟨m,p,t⟩:=id I.X1;refine wpAny_nameGoes_keeps y p (by rw[I.ok.RT];rfl) λh' v ns b=>q _ b ζ (I.reframed b ns (λj x w f hw k=>?_) (by rw[γ.length_set];show I.PQ));let a:j≠i:=λz=>by
  subst z;let e:j<σ.β:=by rw[I.PQ];show(q5 f).1
  rw[γ.Wm e]at hw;cases hw
 rw[γ.Xp (Ne.MQ a)]at hw;let d:x≠n:=λz=>a (Bc g f (by rw[z];show B));let⟨u,r,l⟩:=t j x w f hw k;refine(u,r,3);rcases l with⟨k1,k2⟩|⟨k1,c,k2,o,k3,h⟩
 .exact .NJ (k1,by change (if x=n then v else m x)<*u;rw[BT d];show k2)
 .exact .NU (k1,c,k2,o,(b.2 c (I.cne x c k2)).ν k3,h)
end
def ml{Ec:XK}{X:Cx}{l:γ (υ×Rp)}{Y:St}{H:Hp}(hex:X.ex=[])(Rx:X.NC=X.KK::X.Fr)(as:X.KK.RQ<*X.KK.Oc)(nd:X.N.Nz)(hi:X.N[i]?<*n)(hk:X.KK.Om n<*.local)(hl:DJ X.KK.NG n)(hf:X.fn n=ξ\/X.KK.NG.MR.ρ n<*.local)(hg:Gl X x)(hm:X.mg x<*.ο R)(go:∀e C d H' Z,Ec C d H'->H' e=ε->X.RN.π.ψ e=ε->f' X l (Y.Ra i (δ (.ο e))) (MT H' e (dC e C d)) Z->Ω (Cl X.Ξ X.w) (X.A.Zb (δ (.ο e))) (execs (b0::suite) X.KK) (λf s6=>Ω (Cl X.Ξ X.w) X.A (do bindName X.KK n .ε;unbindBehindTheSuite X.KK n E) (λ_ s7=>Qf f s7) X.xe s6) (Yz (Cl X.Ξ X.w) (X.A.Zb (δ (.ο e))) X.KK n E (Tp (Cl X.Ξ X.w) (X.A.Zb (δ (.ο e))) X.KK (cameBackBy (Cl X.Ξ X.w) X.A X.KK X.xe))) Z)(I:f' X l Y H s)(cx:Am X.Ξ X.w X.NC H s (λC d H'=>Zh X.K C (.ο R)=δ ξ/\Ec C d H') ev s')(hd:(x==("__debug__":NB))=η):Ω (Cl X.Ξ X.w) X.A (Ts ev X.KK) (λ_ s2=>Ω (Cl X.Ξ X.w) X.A (Sy ev ε) (λ_ s3=>Ω (Cl X.Ξ X.w) X.A (handleBy ev X.KK [.WG (δ (.N0 x np)) (δ n) (b0::suite) E]) Qf X.xe s3) X.xe s2) X.xe s':=by
 let⟨e,T,C,a0,dd,H',ζ,os,F,un,P,de,dT,he,hT,fT,B,q⟩:=cx;let⟨D,g,d,u,an⟩:=s';obtain ζ:an=s.os:=os;let I1:f' X l Y H' {s with π:=D,T7:=g,T8:=d,MW:=u}:=I.Qk (g':=g) (d':=d) (t':=u) (ch:=[]) un P F (λ_ z=>nomatch z);let ag:D.O2 X.ς (X.KK::X.Fr):=Rx▸I1.NC;let fl:Zp (Qq D (e::T::s_ X.NC)) (X.KK::X.Fr) e C a0 D:=
  (λb o z=>SJ _ z,PJ _ (!1),FL ag (by rw[<-Rx];show λb z=>M4 _ (M4 _ z)),fT.traced (PJ _ (!1)))
 let seen:∀(h':NR),(Qq D (e::T::s_ X.NC)).X5 h'->D.Um h'->f' X l Y H' {s with π:=h',T7:=g,T8:=d,MW:=u}:=λh' fk up=>
  (I.flown (H':=H') (h1:=D) (h2:=h') (g':=g) (d':=d) (t':=u) (S:=[e,T]) un P (λb Q=>by rcases MP.mp Q with z|z;rw[z];show de;rw[Ay z];show dT)
   (λb Q=>by rcases MP.mp Q with z|z;rw[z];show he;rw[Ay z];show hT) (λb o z hS Q=>fk b o (Ps _ z λj=>by
    rcases MP.mp j with y|j
    .exact hS (by rw[y];simp)
    .rcases MP.mp j with y|j
     .exact hS (by rw[y];simp)
     .exact Q j)) up F).1
 refine AR (s:=(D,g,d,u,s.os)) (Cf _ _) (Xf (s:=(D,g,d,u,s.os)) (by rw[<-Rx];show I.ok.Qc) as fl λh2 aM O aT=>AR (s:=(h2,g,d,u,s.os)) (AS _ _) (ZM (s:=(h2,g,d,u,s.os)) aM λh3 L M aS=>?_));let I3:=seen h3 L.1 (O.ν M);let⟨oe,ar,aB⟩:=L.QU;let ty:Ws (Cl X.Ξ X.w) h3 (typeOf (.ο e)) C:=aB▸(Ws.ld ar).X4 .now;refine wpAny_handleBy_cons (Zt (v_ (X:=X.US (.ο e)) (I3.US _) hg hm ?_ hd)) (!5);refine(Δ.W.exm_one I3.Tb ty B).here ?_;refine codeAny_handlers_suite_as (AR (s:=(h3,g,d,u,s.os)) (AS _ _) (lands_againW (s:=(h3,g,d,u,s.os)) L λh4 U ab aN=>?_));let I4:=seen h4 U.1 ((O.ν M).ν ab);let⟨o4,v4,J,aC,az,_⟩:=U.first;let t:∀b o,s.π.ψ b<*o->b≠e:=λb o z y=>by rw[y,de]at z;cases z
 let aA:∀x,dd<*x->mu o4=(δ x,δ .ε,):=λx z=>by
  let⟨ap,_,_,_,g1,_,_,_,_,_,_,_,g2⟩:=fT;let⟨o',e1,e2⟩:=((aT.ν aS).ν aN) e ap (bO g1);rw[bO J]at e1;cases e1;show e2.ν (g2 x z)
 let I5:=I4.track (e:=e) (φ:=λh=>∃o,h.ψ e=δ o/\o.OO=C/\(∃vs,o.NL=.OB vs)/\∀x,dd<*x->mu o=(δ x,δ .ε,)) he (AH I hex de) (by let⟨m,⟨o,es,ep,z,_⟩,_⟩:=I.X1;show t _ o z) (λy c z=>by let⟨v,o,r,_⟩:=I.OA y c z;show t c o r)
  (λp hp=>t p.1 p.2 (I.Y4 p hp).1) (o4,J,aC,(v4,az),aA) (o4,J) λa b aH k=>by let⟨o,y,z⟩:=aH;show(o,k o y,z)
 show AO I5 nd hi hl (v:=.ο e) ζ (λZ I6=>go e C dd H' Z q he (AH I hex de) I6) hf
section
variable{X:Cx}{pins:List (Addr×Obj)}{σ:St}{H:Hp}{s:Shared}{x n y fx:Str}{R:Addr}{i j k:Nat}{np hpos pos p cp yp ap:Pos}{b0:Stmt}{suite:List Stmt}{ts:TS}{D:Ends}{ps:List Str}{sp:Sp}{e:Expr}{es:List Expr}{t:TA}
end
section
variable{X:Cx}
end
end L2
namespace L2
open PySem.Spec PySem.W PyProof.Rows Builtin Builtin.ObjectAttr Builtin.Getset_descriptor
structure GJ(K:Frag)(C:Addr):Prop where
 ga:findIn K (.ref C) "__getattribute__"<*some (.builtin "BaseException.__getattribute__")
 noHook:findIn K (.ref C) "__getattr__"<*none
 cls:findIn K (.ref C) "__class__"<*some (.builtin "object.__class__")
 get:specialIn K (.builtin "object.__class__") "__get__"<*some (.builtin "getset_descriptor.__get__")
 tk:takesIn K (.builtin "object.__class__")<*true
 obj:mroIn K C (.type "object")<*true
 exc:mroIn K C (.type "BaseException")<*true
 isC:isClsIn K C=true
section
variable{prog:Program}{w:World}{A:Around}{E:Value->Shared->Prop}{s:Shared}{K:Frag}{e C:Addr}
end
end L2
namespace RA
open L2
structure Sm(w:LN):Prop where
 len:w.length≤4000
 cod:∀c∈w,c<1000000
def CK.sm(h:CK L):Sm L:=(by have:=h.hi;lia,λc a=>by have:=(h.az c a).2;lia)
def Sm.txt(h:Sm w)(e:a[i]?<*δ (.NA (tx w))):vq i a:=(tx w,e,by rw[oh];have:=h.PQ;lia,by rw[Fs];show h.cod)
abbrev j4(H:Hp)(S0:γ υ)(Rs:γ (γ MN)):Prop:=S0.β=Rs.β/\∀(i:Φ)(r:υ),S0[i]?<*r->∃R,Rs[i]?=δ R/\H r<*.No (R.NN V.MS)
def j4.at(h:j4 H a Rs){i:Φ}(e:(a.NN V.ο)[i]?<*x):∃r R,x=.ο r/\a[i]?=δ r/\Rs[i]?=δ R/\H r<*.No (R.NN V.MS):=by
 rw[tS]at e;cases b:a[i]? with
 |ε=>rw[b]at e;cases e
 |δ r=>
  rw[b]at e;let⟨R,h1,h2⟩:=h.2 i r b;show(r,R,(ω.δ.QK e).MQ,1,h1,h2)
abbrev tI(H:Hp)(m:υ)(L:LN)(Rs:γ (γ MN))(Bs:γ MZ):Prop:=
 ∃(wy mk:υ)(S0:γ υ),H m=δ (.No [.NA (tx L),.ο wy,.ο mk])/\H wy=δ (.No (S0.NN V.ο))/\H mk=δ (.No (Bs.NN V.bl))/\j4 H S0 Rs
abbrev dB:V->MZ
 |.bl _=>ξ
 |.MS _=>ξ
 |.NA _=>ξ
 |_=>η
abbrev ip(H:Hp):Φ->V->V->Prop
 |0,x,y=>x=y/\dB x=ξ
 |d+1,x,y=>(x=y/\dB x=ξ)\/∃p q xs ys,x=.ο p/\y=.ο q/\((H p=δ (.No xs)/\H q<*.No ys)\/(H p=δ (.M7 xs)/\H q<*.M7 ys))/\xs.β=ys.β/\xs.β≤2100/\
   ∀(i:Φ)(x y:V),xs[i]?<*x->ys[i]?<*y->ip H d x y
def eU(h:dB x=ξ):ip H d x x:=by
 cases d with
 |TF=>show(1,h)
 |Si d=>show Or.NJ (1,h)
def Lo{xs:γ V}(h:xs.QD dB=ξ):∀(i:Φ)(x y:V),xs[i]?<*x->xs[i]?<*y->ip H d x y:=λi x y b a=>by
 rw[b]at a;cases a;show eU (NP.mp h x (AC b))
def pG(R:γ MN):(R.NN V.MS).QD dB=ξ:=by
 rw[NP];intro x a;let⟨z,_,ζ⟩:=PH.mp a;rfl
def sW(R:γ MZ):(R.NN V.bl).QD dB=ξ:=by
 rw[NP];intro x a;let⟨z,_,ζ⟩:=PH.mp a;rfl
def lx(h1:j4 H g Rs)(h2:j4 H f Rs)(hz:∀R∈Rs,R.β≤2100):∀(i:Φ)(x y:V),(g.NN V.ο)[i]?<*x->(f.NN V.ο)[i]?<*y->ip H (d+1) x y:=λi x y j h=>by
 let⟨a,R,ζ,_,e,l⟩:=h1.at j;let⟨b,m,ζ,_,c,k⟩:=h2.at h;rw[e]at c;cases c;show Or.NU (a,b,8,.NJ (l,k),1,by rw[ol];show hz R (AC e),Lo (pG R))
def pj(h1:tI H h L Rs Bs)(h2:tI H m2 L Rs Bs)(l:Rs.β≤2100)(m:Bs.β≤2100)(hz:∀R∈Rs,R.β≤2100):ip H 3 (.ο h) (.ο m2):=by
 let⟨k,mk,g,t,s,r,f⟩:=h1;let⟨c,e,d,q,p,o,j⟩:=h2;refine Or.NU (h,m2,8,.NJ (t,q),1,by change 3≤2100;decide,λi x y a b=>?_);match i,a,b with
 |0,a,b=>cases a;cases b;show eU ζ
 |1,a,b=>cases a;cases b;show Or.NU (k,c,8,.NJ (s,p),by rw[ol,ol,f.1,j.1],by rw[ol,f.1];show l,lx f j hz)
 |2,a,b=>cases a;cases b;show Or.NU (mk,e,8,.NJ (r,o),1,by rw[ol];show m,Lo (sW Bs))
 |n+3,a,b=>cases a
end RA
namespace RA
abbrev aq(L:LN):LN->LN->MZ
 |c::a,d::b=>if c=d then aq L a b else decide (L.M3 c<L.M3 d)
 |_,_=>η
abbrev AF(L a b:LN):MZ:=if a.β≠b.β then decide (a.β<b.β)else aq L a b
section
variable{κ:Type}[DecidableEq κ]
abbrev aO(acc:γ κ):γ κ->γ κ
 |[]=>acc
 |k::ks=>aO (if k∈acc then acc else acc++[k]) ks
abbrev zg(ks:γ κ):γ κ:=aO [] ks
abbrev ay(ks:γ κ):LN:=ks.NN λk=>(zg ks).M3 k
def fF(k:κ):∀(ks a:γ κ),aO a (ks++[k])=if k∈aO a ks then aO a ks else aO a ks++[k]
 |[],_=>rfl
 |_::ks,_=>fF k ks _
def jI:∀(ks b:γ κ)(k:κ),k∈b\/k∈ks↔k∈aO b ks
 |[],b,k=>by simp[aO]
 |a::ks,b,k=>by
  change _↔k∈aO (if a∈b then b else b++[a]) ks;rw[<-jI ks];by_cases h:a∈b
  .rw [Id h,MP];constructor
   .rintro (x|rfl|x)
    .exact .NJ x
    .exact .NJ h
    .exact .NU x
   .rintro (x|x)
    .exact .NJ x
    .exact .NU (.NU x)
  .rw [BT h,MP,Nd,R_];constructor
   .rintro (x|x|x)
    .exact .NJ (.NJ x)
    .exact .NJ (.NU x)
    .exact .NU x
   .rintro ((x|x)|x)
    .exact .NJ x
    .exact .NU (.NJ x)
    .exact .NU (.NU x)
def SY{ks:γ κ}{k:κ}:k∈zg ks↔k∈ks:=by
 rw[zg,<-jI];simp
def AU(ks:γ κ)(k:κ):zg (ks++[k])=if k∈zg ks then zg ks else zg ks++[k]:=fF k ks []
def jJ:∀(ks b:γ κ),(aO b ks).β≤b.β+ks.β
 |[],_=>by simp[aO]
 |a::ks,b=>by
  let h:=jJ ks (if a∈b then b else b++[a]);let h2:(if a∈b then b else b++[a]).β≤b.β+1:=by
   split
   .lia
   .simp
  change (aO (if a∈b then b else b++[a]) ks).β≤_;rw[NW];lia
def nK(ks:γ κ):(zg ks).β≤ks.β:=by
 have:=jJ ks [];simpa[zg]using this
def DQ{l:γ κ}{a b:κ}(c:a∈l)(h:l.M3 a=l.M3 b):a=b:=by
 let h1:l.M3 a<l.β:=M8 c;let h2:l.M3 b<l.β:=by lia
 let e:=O_ h1;let d:=O_ h2;rw[<-e,<-d];congr 1
def Hd{l:γ κ}{c:κ}:∀{i:Φ},l[i]?<*c->l.M3 c≤i:=by
 induction l with
 |Ow=>intro i e;simp at e
 |NZ a l d=>
  intro i e;by_cases b:a=c
  .subst b;rw[γ.Xo];show Nf _
  .cases i with
   |TF=>simp at e;show MM e b
   |Si i=>
    let h1:=d (i:=i) (by simpa using e);let h2:(a::l).M3 c=l.M3 c+1:=by
     rw[Uz,ND.Ot b];rfl
    lia
def HV(ks:γ κ):(ay ks).β=ks.β:=by simp[ay]
def HW{ks:γ κ}{i:Φ}{k:κ}(h:ks[i]?<*k):(ay ks).ML i 0=(zg ks).M3 k:=by
 rw[u6,ay,tS,h];rfl
def Lp{ks:γ κ}{x:Φ}(h:x∈ay ks):x<ks.β:=by
 let⟨k,a,ζ⟩:=PH.mp h;show Ψ (M8 (SY.Ot a)) (nK ks)
def He{ks:γ κ}{i j:Φ}{a b:κ}(c:ks[i]?<*a)(d:ks[j]?<*b):(ay ks).ML i 0=(ay ks).ML j 0↔a=b:=by
 rw[HW c,HW d];constructor
 .exact DQ (SY.Ot (AC c))
 .rintro ζ;rfl
def BL{l m:γ κ}{a:κ}(h:a∈l):(l++m).M3 a=l.M3 a:=by
 rw[γ.idxOf_append,Id h]
def nn{l:γ κ}{a:κ}(h:a∉l):(l++[a]).M3 a=l.β:=by
 rw[γ.idxOf_append,BT h];simp
def o7{q:Type}[Qz q]:∀(n:Φ)(ks:γ κ)(c:γ q),ks.β=n->c.β=n->
  (∀(i j:Φ)(a b:κ)(f x:q),ks[i]?<*a->ks[j]?<*b->c[i]?<*f->c[j]?<*x->(a=b↔f=x))->
  (zg ks).β=(zg c).β/\∀(i:Φ)(a:κ)(f:q),ks[i]?<*a->c[i]?<*f->(zg ks).M3 a=(zg c).M3 f:=by
 intro n;induction n with
 |TF=>
  intro ks c h1 h2 _;rw[PL]at h1 h2;subst h1 h2;show(1,λi a f h=>by simp at h)
 |Si n D=>
  intro ks c h1 h2 hp;obtain⟨k,l,ζ⟩:∃k l,ks=l++[k]:=(ks.Wl (by intro z;rw[z]at h1;cases h1),ks.RR,(γ.PP _).MQ);obtain⟨k',r,ζ⟩:∃k l,c=l++[k]:=(c.Wl (by intro z;rw[z]at h2;cases h2),c.RR,(γ.PP _).MQ);let l1:l.β=n:=by simpa using h1
  let l2:r.β=n:=by simpa using h2
  let s:∀{w:Type}{l:γ w}{k:w}{i:Φ}{a:w},l[i]?<*a->(l++[k])[i]?<*a:=λ{w l k i a}e=>by
   rw[M0 (q5 e).1];show e
  let p:(l++[k])[n]?<*k:=by rw[MY (!6),l1];simp
  let d:(r++[k'])[n]?<*k':=by rw[MY (!6),l2];simp
  let⟨A,y⟩:=D l r l1 l2 λi j a b f x m o F E=>hp i j a b f x (s m) (s o) (s F) (s E);let C:k∈zg l↔k'∈zg r:=by
   rw[SY,SY];constructor
   .intro t;let⟨i,v⟩:=NO.mp t;let g:i<r.β:=by have:=(q5 v).1;lia
    let e:=(hp i n k k r[i] k' (s v) p (s (n_ g)) d).mp ζ;rw[<-e];show Nv g
   .intro t;let⟨i,v⟩:=NO.mp t;let g:i<l.β:=by have:=(q5 v).1;lia
    let e:=(hp i n l[i] k k' k' (s (n_ g)) p (s v) d).Ot ζ;rw[<-e];show Nv g
  let split:∀{i:Φ}{a:κ}{f:q},(l++[k])[i]?<*a->(r++[k'])[i]?<*f->(l[i]?=δ a/\r[i]?<*f)\/(i=n/\a=k/\f=k'):=λ{i a f}m o=>by
   by_cases v:i<n
   .rw [M0 (!6)]at m o;show .NJ (m,o)
   .have:i=n:=by
     have:=(q5 m).1;simp at this;lia
    subst this;rw[p]at m;rw[d]at o;show .NU (1,(ω.δ.QK m).MQ,(ω.δ.QK o).MQ)
  rw[AU,AU];by_cases t:k∈zg l
  .let u:=C.mp t;rw[Id t,Id u];refine(A,λi a f m o=>?_);rcases split m o with⟨m,o⟩|⟨rfl,ζ,ζ⟩
   .exact y i a f m o
   .obtain ⟨j,B⟩:=NO.mp (SY.mp t);let g:j<r.β:=by have:=(q5 B).1;lia
    let e:=(hp j i a a r[j] f (s B) p (s (n_ g)) d).mp ζ;show y j a f B (by rw[<-e];show n_ g)
  .let u:k'∉zg r:=λz=>t (C.Ot z);rw[BT t,BT u];refine(by simp[A],λi a f m o=>?_);rcases split m o with⟨m,o⟩|⟨rfl,ζ,ζ⟩
   .rw [BL (SY.Ot (AC m)),BL (SY.Ot (AC o))];show y i a f m o
   .rw [nn t,nn u,A]
def IV{d:Type}[Qz d]{ks:γ κ}{c:γ d}(l:ks.β=c.β)(hp:∀(i j:Φ)(a b:κ)(k g:d),ks[i]?<*a->ks[j]?<*b->c[i]?<*k->c[j]?<*g->(a=b↔k=g)):ay ks=ay c:=by
 let⟨_,h⟩:=o7 c.β ks c l ζ hp;refine γ.Zg λi=>?_;by_cases m:i<ks.β
 .let f:ks[i]?<*ks[i]:=n_ m;let e:c[i]?<*(c[i]'(!6)):=n_ (!6);rw[ay,ay,tS,tS,f,e];show Nb δ (h i _ _ f e)
 .rw [Pl (by rw[HV];lia),Pl (by rw[HV];lia)]
end
abbrev eZ(W:LL)(W8:LN)(i:Φ):Φ×LN:=(W8.ML i 0,(W.ML i []).NN λg=>W8.ML g 0,)
abbrev FM(W:LL)(W8:LN):γ (Φ×LN):=(γ.N4 W.β).NN (eZ W W8)
abbrev Rd(W:LL)(B:γ MZ):Φ->LN
 |0=>ay B
 |k+1=>ay (FM W (Rd W B k))
def JS(h:i<W.β):(FM W a)[i]?<*eZ W a i:=by
 rw[FM,tS,O' h];rfl
def DS(W:LL)(a:LN):(FM W a).β=W.β:=by simp[FM]
def DU{L:LN}{W:LL}{B:γ MZ}(h:g_ L W B):∀k,(Rd W B k).β=W.β
 |0=>by rw[Rd,HV,h.bl]
 |k+1=>by rw[Rd,HV,DS]
def dM(h:g_ L W B)(a:x∈Rd W B k):x<W.β:=by
 cases k with
 |TF=>rw[<-h.bl];show Lp a
 |Si k=>rw[<-DS W (Rd W B k)];show Lp a
abbrev r_(W:LL)(B:γ MZ)(k r:Φ):Φ:=(Rd W B k).ML r 0
def jk(h:g_ L W B)(d:r<W.β)(c:s<W.β):r_ W B 0 r=r_ W B 0 s↔B.ML r η=B.ML s η:=by
 let b:B[r]?<*(B[r]'(by rw[h.bl];show d)):=n_ _;let a:B[s]?<*(B[s]'(by rw[h.bl];show c)):=n_ _;rw[r_,r_,Rd,He b a,u6,u6,b,a];rfl
def Eb(h:g_ L W B)(a:r<W.β):(W.ML r []).β=L.β/\∀x∈W.ML r [],x<W.β:=by
 let e:W.ML r []=W[r]:=by rw[u6,n_ a];rfl
 rw[e];show h.Vx _ (Nv a)
abbrev QY(W:LL)(r i:Φ):Φ:=(W.ML r []).ML i 0
def Ew(h:g_ L W B)(a:r<W.β)(b:i<L.β):QY W r i<W.β:=by
 let⟨h1,h2⟩:=Eb h a;rw[QY,u6,n_ (!6)];show h2 _ (Nv _)
def Hf(L:LN)(W:LL)(r c:Φ):Bw L W r c=QY W r (L.M3 c):=ζ
def Go(h:g_ L W B)(b:r<W.β)(a:s<W.β):r_ W B (k+1) r=r_ W B (k+1) s↔r_ W B k r=r_ W B k s/\∀i<L.β,r_ W B k (QY W r i)=r_ W B k (QY W s i):=by
 rw[r_,r_,Rd,He (JS b) (JS a),eZ,eZ,Up.mk.injEq];let⟨f,_⟩:=Eb h b;let⟨d,_⟩:=Eb h a;refine and_congr Iff.rfl (λe i c=>?_,λe=>γ.Zg λi=>?_)
 .have:=Nb (λl=>l[i]?) e;simp only[tS]at this;rw[n_ (!6),n_ (!6)]at this;rw[QY,QY,u6 (l:=W.ML r []),u6 (l:=W.ML s []),n_ (!6),n_ (!6)];show ω.δ.QK this
 .by_cases c:i<L.β
  .have:=e i c;rw[QY,QY,u6 (l:=W.ML r []),u6 (l:=W.ML s []),n_ (!6),n_ (!6)]at this;rw[tS,tS,n_ (!6),n_ (!6)];show Nb δ this
  .rw [tS,tS,Pl (!6),Pl (!6)]
def rJ(h:g_ L W B)(f:r<W.β)(d:s<W.β):∀{j:Φ},j≤k->r_ W B k r=r_ W B k s->r_ W B j r=r_ W B j s:=by
 induction k with
 |TF=>intro j b e;rw[Φ.le_zero.mp b];show e
 |Si k c=>
  intro j b e;by_cases a:j=k+1
  .subst a;show e
  .exact c (!6) ((Go h f d).mp e).1
abbrev iB(n:Φ)(W8:LN):Φ:=(γ.N4 n).Zl λx=>decide (∃y,y<x/\W8.ML y 0=W8.ML x 0)
def JT{f:Type}{p q:f->MZ}:∀{l:γ f},(∀x∈l,p x=ξ->q x=ξ)->(∃x∈l,q x=ξ/\p x=η)->l.Zl p<l.Zl q
 |[],_,⟨x,b,_⟩=>by simp at b
 |a::l,e,⟨x,b,g,hp⟩=>by
  let h:l.Zl p≤l.Zl q:=γ.countP_mono_left λy c=>e y (by simp[c]);rw[γ.countP_cons,γ.countP_cons];rcases MP.mp b with ζ|b
  .rw [g,hp];simp;lia
  .have:=JT (l:=l) (λy c=>e y (by simp[c])) (x,b,g,hp);let h1:=e a (!1);cases d:p a with
   |η=>simp;lia
   |ξ=>rw[h1 d];simp;omega
def iA(h:g_ L W B)(e:Rd W B (k+1)≠Rd W B k):iB W.β (Rd W B (k+1))<iB W.β (Rd W B k):=by
 refine JT (λx o hp=>?_) ?_
 .let o:=Np.mp o;let⟨y,D,f⟩:=OX hp;show NM (y,D,((Go h (QB D o) o).mp f).1)
 .refine XS.Td λF=>e ?_;let A:∀s,s<W.β->∀r,r<s->r_ W B k r=r_ W B k s->r_ W B (k+1) r=r_ W B (k+1) s:=by
   intro s;induction s using Φ.strongRecOn with
   |_ s C=>
    intro d r g q;refine XS.Td λp=>F (s,Np.Ot d,NM (r,g,q),M5 ?_);rintro⟨z,hz,l⟩;let l:r_ W B (k+1) z=r_ W B (k+1) s:=l;let E:=((Go h (QB hz d) d).mp l).1;rcases Φ.TC r z with c|c|c
    .exact p ((C z hz (QB hz d) r c (q.ν E.MQ)).ν l)
    .subst c;show p l
    .exact p ((C r g (QB g d) z c (E.ν q.MQ)).MQ.ν l)
  let m:∀r s,r<W.β->s<W.β->(r_ W B (k+1) r=r_ W B (k+1) s↔r_ W B k r=r_ W B k s):=λr s g d=>by
   refine(λq=>((Go h g d).mp q).1,λq=>?_);rcases Φ.TC r s with c|c|c
   .exact A s d r c q
   .rw [c]
   .exact (A r g s c q.MQ).MQ
  cases k with
  |TF=>
   change ay (FM W (Rd W B 0))=ay B;refine IV (by rw[DS,h.bl]) λi j a b I H f n w v=>?_;let u:i<W.β:=by have:=(q5 f).1;rwa [DS]at this
   let t:j<W.β:=by have:=(q5 n).1;rwa [DS]at this
   rw[<-He f n,<-He w v];show m i j u t
  |Si k=>
   change ay (FM W (Rd W B (k+1)))=ay (FM W (Rd W B k));refine IV (by rw[DS,DS]) λi j a b I H f n w v=>?_;let u:i<W.β:=by have:=(q5 f).1;rwa [DS]at this
   let t:j<W.β:=by have:=(q5 n).1;rwa [DS]at this
   rw[<-He f n,<-He w v];show m i j u t
abbrev aX(W:LL)(B:γ MZ)(k r s:Φ):γ MZ:=((W.ML r []).Th (W.ML s [])).NN λp=>decide (r_ W B k p.1=r_ W B k p.2)
abbrev Re(W:LL)(B:γ MZ)(k r s:Φ):Φ:=(aX W B k r s).M3 η
abbrev pw(L:LN)(W:LL)(B:γ MZ):Φ->Φ->Φ->LN
 |0,_,_=>[]
 |k+1,r,s=>L.ML (Re W B k r s) 0::pw L W B k (QY W r (Re W B k r s)) (QY W s (Re W B k r s))
def IW(h:g_ L W B)(b:r<W.β)(a:s<W.β)(c:i<L.β):(aX W B k r s)[i]?<*decide (r_ W B k (QY W r i)=r_ W B k (QY W s i)):=by
 let⟨f,_⟩:=Eb h b;let⟨d,_⟩:=Eb h a;rw[aX,tS,QY,QY,u6 (l:=W.ML r []),u6 (l:=W.ML s [])];let e:((W.ML r []).Th (W.ML s []))[i]?<*((W.ML r [])[i]'(!6),(W.ML s [])[i]'(!6),):=by
  rw[Pu];show(n_ _,n_ _)
 rw[e,n_ (!6),n_ (!6)];rfl
def JU(h:g_ L W B)(b:r<W.β)(a:s<W.β):(aX W B k r s).β=L.β:=by
 let⟨d,_⟩:=Eb h b;let⟨c,_⟩:=Eb h a;rw[aX,ol,γ.length_zip];lia
def qI(h:g_ L W B)(d:r<W.β)(c:s<W.β)(l:r_ W B (k+1) r≠r_ W B (k+1) s)(n:r_ W B k r=r_ W B k s):Re W B k r s<L.β/\r_ W B k (QY W r (Re W B k r s))≠r_ W B k (QY W s (Re W B k r s))/\∀i<Re W B k r s,r_ W B k (QY W r i)=r_ W B k (QY W s i):=by
 let m:η∈aX W B k r s:=by
  refine XS.Td λj=>l ((Go h d c).Ot (n,λi f=>XS.Td λq=>j ?_));have:=IW h (k:=k) d c f;rw[M5 q]at this;show AC this
 let a:Re W B k r s<(aX W B k r s).β:=M8 m;let g:Re W B k r s<L.β:=by rw[JU h d c]at a;show a
 refine(g,3,λi f=>?_)
 .let p:=O_ a;let b:=IW h (k:=k) d c g;rw[n_ a]at b;let o:decide (r_ W B k (QY W r (Re W B k r s))=r_ W B k (QY W s (Re W B k r s)))=η:=by
   rw[<-ω.δ.QK b];show p
  show of_decide_eq_false o
 .let b:=IW h (k:=k) d c (i:=i) (!2);refine XS.Td λq=>?_;rw[M5 q]at b;have:(aX W B k r s).M3 η≤i:=by
   let e:=(q5 b);let⟨h1,h2⟩:=e;show Hd b
  let t:Re W B k r s≤i:=this;lia
def d7{L:LN}{W:LL}{B:γ MZ}(h:g_ L W B){k:Φ}(e:∀i<k,Rd W B (i+1)≠Rd W B i):∀j≤k,iB W.β (Rd W B j)+j≤W.β
 |0,_=>by
  have:=γ.countP_le_length (p:=λx=>decide (∃y,y<x/\(Rd W B 0).ML y 0=(Rd W B 0).ML x 0)) (l:=γ.N4 W.β);rw[OD]at this;show this
 |j+1,a=>by
  let h1:=d7 h e j (!6);let h2:=iA h (e j (!6));lia
def lY(h:g_ L W B)(e:∀i<k,Rd W B (i+1)≠Rd W B i):k≤4410000:=by
 let h1:=d7 h e k (LE _);let h2:=h.n60;lia
end RA
namespace L2
open PySem.Spec PyProof.Rows
def a'.Ra(s:a' H H')(n:H a=ε):a' H (L2.MT H' a o):=λb u e=>by
 rw[a_ (e_ e n)];show s b u e
def pR{J:It}{xs:γ V}{s:TT}{t:TE}{p:St}{Q:VK}(n:υ->Φ->γ V->Hp->Prop)(hz:xs.β≤Λ)(z:∀i d,a' H d->i<xs.β->J.go i d)(w:∀i d x j,a' H d->J.X_ i d x j->j=d/\xs[i]?<*x)(v:∀d,a' H d->J.Sx xs.β d)(h0:∀D,H D=ε->n D 0 [] (MT H D (.M7 [])))(B:∀(D:υ)(i:Φ)(x:V)(ys:γ V)(H':Hp)(u:VK)(R2:Hp->Prop),H D=ε->xs[i]?<*x->a' H H'->H' D<*.M7 ys->n D i ys H'->
   (∀y h,h D<*.M7 ys->a' H (MT h D (.M7 (ys++[y])))->n D (i+1) (ys++[y]) (MT h D (.M7 (ys++[y])))->u y h)->(∀g,a' H g->g D<*.M7 ys->n D (i+1) ys g->R2 g)->
   s (δ x::p) H' λb g=>if b=ξ then t (δ x::p) g u else R2 g)(C:∀D ys H',H D=ε->a' H H'->H' D<*.M7 ys->n D xs.β ys H'->Q (.ο D) H'):∀D,H D=ε->∃W:Φ->Φ->γ V->Hp->Prop,
 (∃m,W 0 m [] (MT H D (.M7 [])))/\∀i m ys d,W i m ys d->d D=δ (.M7 ys)/\((J.Sx i d/\Q (.ο D) d)\/(J.go i d/\ys.β<Λ/\∀x j,J.X_ i d x j->
  s (δ x::p) j λb g=>if b=ξ then t (δ x::p) g λy h=>h D=δ (.M7 ys)/\∃o,o<m/\W (i+1) o (ys++[y]) (MT h D (.M7 (ys++[y])))
   else ∃o,o<m/\W (i+1) o ys g)):=by
 intro D q;refine(λi m ys d=>m=xs.β-i/\i≤xs.β/\ys.β≤i/\a' H d/\d D=δ (.M7 ys)/\n D i ys d,(xs.β,!1,Nf _,!1,a'.MT q,j_,h0 D q),3);rintro i m ys d⟨rfl,F,E,f,l,hp⟩;refine(l,3);by_cases k:i<xs.β
 .refine .NU (z i d f k,!6,λx j r=>?_);let⟨e,A⟩:=w i d x j f r;subst e;show B D i x ys j _ _ q A f l hp (λy h a b c=>(a,xs.β-(i+1),!6,1,k,by rw[w_];change ys.β+1≤i+1;lia,b,j_,c)) (λg a b c=>(xs.β-(i+1),!6,1,k,!6,a,b,c))
 .let e:i=xs.β:=by lia
  subst e;show .NJ (v d f,C D ys d q f l hp)
section
variable{K:Frag}{tl:TE}{a:Addr}{xs:List V}{tt:TT}{te:TE}{σ:St}{H:Hp}{Q:VK}
end
def Ft(K:Nn):Pr K (.MO "tuple") (.MO "tuple")=δ ξ/\Pr K (.MO "list") (.MO "list")=δ ξ/\Pr K (.MO "str") (.MO "str")<*ξ:=
 (by with_unfolding_all rfl,by with_unfolding_all rfl,by with_unfolding_all rfl)
def rP(K:Nn):Pr K (.MO "tuple") (.MO "list")<*η:=by kernel_rfl
def lE(K:Nn):Pr K (.MO "list") (.MO "tuple")<*η:=by kernel_rfl
def xm(K:Nn):Pr K (.MO "int") (.MO "tuple")<*η:=by kernel_rfl
def xn(K:Nn):Pr K (.MO "int") (.MO "list")<*η:=by kernel_rfl
def xp(K:Nn):Pr K (.MO "bool") (.MO "tuple")<*η:=by kernel_rfl
def xq(K:Nn):Pr K (.MO "bool") (.MO "list")<*η:=by kernel_rfl
def xi(K:Nn):Pr K (.MO "str") (.MO "tuple")<*η:=by kernel_rfl
def xj(K:Nn):Pr K (.MO "str") (.MO "list")<*η:=by kernel_rfl
def xl(K:Nn):Pr K (.MO "str") (.MO "bool")<*η:=by kernel_rfl
def xk(K:Nn):Pr K (.MO "str") (.MO "int")<*η:=by kernel_rfl
def jV:Dg X (.Nk "isinstance") (λxs H Q=>∃x t b,xs=[x,.ty T]/\ai X.K H x t/\Pr X.K t (.MO T)=δ b/\Q (.bl b) H):=by
 intro a s c H xs us Q I r h;let⟨x,t,b,h1,h2,d,q⟩:=h;show jU (b:=b) a s c H xs us Q I r (x,t,h1,h2,d,q)
section
variable{X:Cx}{elt iter:Expr}{x:Str}{px pos:Pos}{ifs:List Expr}{sc:Scope}{wi:TI}{tt:TT}{te:TE}
def Cg(f:Sw (.QF Xq [(c,Qt,Xn,(0))] sc Nj) (δ (.N0 y d)) a.SZ KK=pure ξ)(h:∀p,Ω M A (comprehension (.QF Xq [(c,Qt,Xn,(0))] sc Nj) sc KK p (newList []) η (OM Qt KK) (δ (U7 (.N0 y d) KK))) (λ_ s'=>Q .next s') E s):Ω M A (exec (.WS [.N0 y d] (.QF Xq [(c,Qt,Xn,(0))] sc Nj) a) KK) Q E s:=by
 let b:Ω M A (evalThenUse (.QF Xq [(c,Qt,Xn,(0))] sc Nj) KK (U7 (.N0 y d) KK)) (λ_ s'=>Q .next s') E s:=
  d_ (NI (h Qt.Nj) (λ_ _ q=>j' q) λ_ _ e=>e)
 let Ol:=exec_Assign_Name_used (KK:=KK) y d (.QF Xq [(c,Qt,Xn,(0))] sc Nj) a f;show Ol▸d_ (PY (d_ (NI b (λ_ _ q=>j' q) λ_ _ e=>e)))
end
def sV(K:Nn)(a:(X.K=K)>>>4):Dg X (.Nk "isinstance") (λxs H Q=>∃x t b,xs=[x,.ty T]/\ai K H x t/\Pr K t (.MO T)=δ b/\Q (.bl b) H):=by
 subst a;show jV
def Ln(K:Nn)(a:(X.K=K)>>>4):Dg X (.MO "tuple") (λxs H Q=>∃p ys,xs=[.ο p]/\((o5 K H p ys/\∀l,H l=ε->Q (.ο l) (MT H l (.No ys)))\/(u0 K H p ys/\Q (.ο p) H))):=by
 subst a;show Gi
section
variable{X:Cx}{elt iter:Expr}{x:Str}{px pos:Pos}{ifs:List Expr}{sc:Scope}{wi:TI}{tt:TT}{te:TE}
end
section
variable{κ:Type}[DecidableEq κ]
abbrev aF(NS:γ (κ×V))(k:κ):ω V:=(NS.find? λkv=>decide (kv.1=k)).NN (·.2)
def iz{p:κ×V}{r:γ (κ×V)}{k:κ}(e:p.1=k):aF (p::r) k<*p.2:=by simp[aF,Qj,e]
def Bj{p:κ×V}{r:γ (κ×V)}{k:κ}(e:¬ p.1=k):aF (p::r) k=aF r k:=by simp[aF,Qj,e]
def au.ML(r:au o u)(a:ae d d'):ae (o.ML d) (u.ML d'):=by
 cases o with
 |ε=>cases u with
  |ε=>show a
  |δ _=>show(show NX from r).Nx
 |δ _=>cases u with
  |ε=>show(show NX from r).Nx
  |δ _=>show r
def KV.Zz{NS:γ (κ×V)}{vs:γ (κ×θ)}(r:KV NS vs)(k:κ):au (aF NS k) (RY vs k):=by
 unfold KV at r;induction r with
 |Ow=>show Os.Of
 |@NZ p q ps a h t c=>
  let⟨h1,h2⟩:=h;by_cases e:p.1=k
  .let e':q.1=k:=h1.MQ.ν e;let b:RY (q::a) k<*q.2:=by simp[RY,Qj,e']
   rw[iz e,b];show h2
  .let e':¬ q.1=k:=λz=>e (h1.ν z);let b:RY (q::a) k=RY a k:=by simp[RY,Qj,e']
   rw[Bj e,b];show c
end
def vI(r:ae (kV k) u):(EI P w).is k u=ξ:=by
 cases k with
 |NJ i=>let⟨t,e⟩:=(show ∃t,u=θ.MS i t from r);subst e;show CN P w i t
 |NU x=>let⟨t,e⟩:=(show ∃t,u=θ.NA x t from r);subst e;show Lb P w x t
structure j8(P:Program)(w:World)(K:Frag)(d:Addr)(kvs:List (Bu×V)):Prop where
 at_:∀h:Heap,K.In h->∃vs,KV kvs vs/\h.DictOf (EI P w) d vs
 ns:(d==sysModules)=false
section
variable{X:Cx}{d:Addr}{kvs:List (Bu×V)}
inductive z4(d:Addr)(kvs:List (Bu×V))(x:V)(y:V)(H:Hp)(Q:VK):Prop
 |mk (k v:_) (_:x=.ref d) (_:y=kV k) (_:aF kvs k<*v) (_:Q v H)
def EV(D:j8 X.Ξ X.w X.K d NS):CT X (z4 d NS):=by
 intro a b f s m H x y v u Q I i g h l;let⟨k,z,ζ,ζ,j,q⟩:=h;cases i;let⟨vs,e,dd⟩:=D.at_ _ I.Tb;let⟨n,hw,c⟩:=au.Vn (v:=z) (o:=RY vs k) (by rw[<-j];show e.Zz k);show WZ (ops:=[.ο d,u]) dd.Q' Δ.F.UE.ρ (Uc (vI g) dd.mapOf hw (z,H,I.Tw _,c,q)) l
abbrev yc(d:υ)(NS:γ (Bu×V))(to:TE)(t:TA):TE:=λσ H Q=>to σ H λx H1=>x=.ο d/\t σ H1 λxs H2=>∃k z,xs=[kV k,z]/\Q ((aF NS k).ML z) H2
def DV(D:j8 X.Ξ X.w X.K d NS){i b:Sh}(W:PE X o to)(Y:PA X [e,f] t)(l:(QL o "get" X.KK (OM o X.KK)=OM o X.KK)>>>4)(n:(((OF b (Θ [e,f] X.KK)).QD (λx=>!x.1)&&(Vi b (TQ [] X.KK)).QD (λx=>x.1.Rz)
   && decide (([e,f]:γ Rb).β+([]:γ Vs).β+(if ([]:γ Vs).SG then 0 else 1)<30))=ξ)>>>4)(j:((i.Zk==b.SZ)=ξ)>>>4)(U:(Θ [e,f] X.KK=(η,OM e X.KK,)::Θ [f] X.KK)>>>4)(c:((OF b (Θ [f] X.KK)).Ql (·.1)=η)>>>4):PE X (.QG (.O3 o "get" i) [e,f] [] b) (yc d NS to t):=by
 intro g s r H Q I h;refine ZO l n j ζ (ri (W g s r H _ I h) λv J q=>?_);let⟨x,H1,B,P,Z,S⟩:=q;subst Z;cases P;let⟨vs,N,dd⟩:=D.at_ _ B.Tb;let⟨T,es,ep,h1,h2,h3⟩:=id dd;refine("dict",_,Δ.F.plainAttrs_dict,Δ.F.slot_dict_get,Δ.F.type_dict_get,dd.Q',λa e=>?_,3)
 .cases e;show(T,h1,h2.2.1)
 .let u:=Y b g J r H1 _ B S;rw[U]at u⊢;refine SB.Uj (by change (η||(OF b (Θ [f] X.KK)).Ql (·.1))=η;rw[c]<;>rfl) (SB.Sb ?_);refine ri u λus s2 z=>?_;let⟨xs,H2,A,O,k,y,ζ,R⟩:=z;let⟨u1,E,ζ,M,L⟩:=bz O;let⟨C,m,p⟩:=D.at_ _ A.Tb;show call_meetsIn Δ.F.slot_dict_get p.Q' Δ.F.entry_dict_get (Δ.F.args_dict_get_3 _ _ _) (meets_dict_get_default (EI X.Ξ X.w) d (vI M) D.ns E) (_,p.mapOf,(_,H2,A.Tw _,(m.Zz k).ML L,R))
end
abbrev rX(b:MZ):θ->MZ
 |.Ph c=>c==b
 |_=>η
def Hg(h:rX b v=ξ):v=.Ph b:=by
 cases v with
 |Ph c=>rw[SU (show(c==b)=ξ from h)]
 |_=>show MM (show η=ξ from h) MZ.M'
abbrev EW(P:NE)(w:N1):Δ.X8 P w MZ where
 is:=rX
 Yt:=λb=>YL (if b then 1 else 0)
 QK:=λv a b ha hb=>by
  let e:=(Hg ha).MQ.ν (Hg hb)
  cases e
  rfl
 X3:=λk v h=>by rw[Hg h];rfl
 UP:=λ{A E s k v Q}h q=>by
  cases Hg h
  refine Δ.W.Z_ (T:="bool") ζ F.slot_bool_hash entry_int_hash (args_int_hash _) (XJ _) (.NJ ζ) ?_
  cases k
  .exact (show Ω _ _ (do UX (<-mkInt 0)) _ _ s from d_ (UD (j' (4,q))))
  .exact (show Ω _ _ (do UX (<-mkInt 1)) _ _ s from d_ (UD (j' (4,q))))
 Zi:=λ{A E s a b u v Q}ha hb q=>by
  cases Hg ha
  cases Hg hb
  let e:(a==b)=decide (a=b):=by cases a<;>cases b<;>rfl
  show PV.R6.Y8 a b _ _ _ _ (by rw[e];show q)
 «strs»:=λk x t v h=>MM (show η=ξ from h) MZ.M'
@[reducible]def NK:=Nat×LN
abbrev zs(ks:LN):γ MN:=ks.NN λ(n:Φ)=>(n:MN)
def gb(h:zs a=zs b):a=b:=by
 induction a generalizing b with
 |Ow=>cases b with
  |Ow=>rfl
  |NZ y b=>cases h
 |NZ x a c=>cases b with
  |Ow=>cases h
  |NZ y b=>
   let h:((x:MN)::zs a)=((y:MN)::zs b):=h;injection h with h1 h2;rw[c h2,MN.ofNat.QK h1]
section
variable(P:Program)(w:World)
abbrev z7(h:NR)(k:NK)(a:υ):Prop:=∃(o:Rp)(n:Φ)(t:XM)(b:υ),h.ψ a=δ o/\o.OO=.MO "tuple"/\o.NL=.Sz #[.MS (k.1:MN) t,.ο b] n/\U8 (N5 P w) h (zs k.2) b
abbrev cY(k:NK):MN:=YL (Builtin.Qw.tupleHashOf [hashInt (k.1:MN),tupleKeyHash (N5 P w) (zs k.2)])
end
section
variable{P:Program}{w:World}
def z7.QK(i:z7 P w h x a)(g:z7 P w h y a):x=y:=by
 let⟨o,n,t,b,h1,_,k,j⟩:=i;let⟨E,F,t',z,d,_,c,l⟩:=g;rw[h1]at d;cases d;rw[k]at c;injection c with v _;let u:[θ.MS (x.1:MN) t,.ο b]=[θ.MS (y.1:MN) t',.ο z]:=Nb Nt.NF v;injection u with s r;injection s with q _;injection r with p _;injection p with m;subst m;let f:=gb (j.QK l);let e:x.1=y.1:=MN.ofNat.QK q;let⟨D,C⟩:=x;let⟨B,A⟩:=y;simp only at f e;rw[f,e]
def z7.Oq{l m}(x:z7 P w h k a)(c:h.ψ d<*o)(e:o.NL=.Pz l m)(f:Pg d h h'):z7 P w h' k a:=by
 let⟨i,n,t,b,h1,h2,g,j⟩:=x;refine(i,n,t,b,(f.2 a ?_).ν h1,h2,g,j.Oq c e f);rintro ζ;rw[h1]at c;cases c;rw[g]at e;cases e
def z7.No(x:z7 P w h k a):∃t b,h.O1 a #[.MS (k.1:MN) t,.ο b]/\U8 (N5 P w) h (zs k.2) b:=by
 let⟨o,n,t,b,h1,h2,d,c⟩:=x;show(t,b,(o,h1,h2,n,d),c)
def pe(c:A.Pa+1<Qn)(x:z7 P w s.π k a)(q:Q (cY P w k) {s with MW:=s.MW+(k.2.β+3)}):Ω (Cl P w) A (UP (.ο a)) Q E s:=by
 let⟨o,n,t,b,h1,h2,f,d⟩:=x;refine Δ.W.Z_ (T:="tuple") (o,h1,h2) F.slot_tuple_hash F.entry_tuple_hash (F.args_tuple_hash_1 _) (XJ _) (.NU (!6)) ?_;refine d_ (m:=Builtin.Qw.ZR (.ο a)) (wpAny_tupleItemsOf h1 f (d_ ?_));rw[<-U1];change Ω _ _ (YW [θ.MS (k.1:MN) t,.ο b] _ _) _ _ _;rw[Qi];refine d_ (d_ (wpAny_pyHash_int (d_ (j' (j' ?_)))));dsimp only;rw[Qi];refine d_ (d_ (wpAny_pyHash_tuple (Va:=N5 P w) (by change A.S5.Pa<Qn;rw[N2.Ug];show c) d (d_ (j' (j' ?_)))));dsimp only;rw[ST];refine j' ?_;refine d_ (UD (j' (4,3)));let e:s.MW+1+((zs k.2).β+1)+1=s.MW+(k.2.β+3):=by
  have:(zs k.2).β=k.2.β:=by simp[zs]
  lia
 simpa[e,cY]using q
def gh(x:U8 (N5 P w) h ks b):U8 (N5 i g) h ks b:=by
 let⟨o,c,n,h1,h2,f,d⟩:=x;refine(o,c,n,h1,h2,f,3);generalize c.NF=l at d⊢;induction d with
 |Ow=>show .Ow
 |NZ a _ e=>show .NZ a e
def uF(D:A.Pa+1<Qn)(v:z7 P w s.π x a)(r:z7 P w s.π y b)(E:θ->MJ->Prop)(Q:MZ->MJ->Prop)(q:Q (decide (x=y)) s):Ω (Cl P w) A (Zi (.ο a) (.ο b)) Q E s:=by
 by_cases g:a=b
 .subst g;let e:=v.QK r;rw[NM e]at q;show PV.R6.OR (.ο a) P w E Q q
 .obtain ⟨t,c,h1,h2⟩:=v.No;let⟨u,d,H,F⟩:=r.No;let i:A.S5.Pa<Qn:=by rw[N2.Ug];show D
  let f:PV.R6 A.S5 s (.ο c) (.ο d) (decide (zs x.2=zs y.2)):=λI B L J C=>wpAny_eqBool_tuple (Va:=N5 I B) i (gh h2) (gh F) C;let QD:=PV.R6.of_refs (A:=A) g (PV.RcAt.tuples (s:=s) (e:=λj=>if j=0 then((x.1:MN)==(y.1:MN))else decide (zs x.2=zs y.2)) h1 H (!6) (λj l1 l2=>by
   match j,l1,l2 with
   |0,_,_=>show PV.R6.Zd _ t _ u
   |1,_,_=>show f
   | n+2,l1,_=>show MM l1 (by change ¬ (n+2<2);lia)))
  refine QD P w E Q ?_;let e:((γ.N4 (min (#[θ.MS (x.1:MN) t,.ο c]:Nt θ).MX (#[θ.MS (y.1:MN) u,.ο d]:Nt θ).MX)).QD (λj=>if j=0 then((x.1:MN)==(y.1:MN))else decide (zs x.2=zs y.2))&&(#[θ.MS (x.1:MN) t,.ο c]:Nt θ).MX==(#[θ.MS (y.1:MN) u,.ο d]:Nt θ).MX)=decide (x=y):=by
   change (((x.1:MN)==(y.1:MN))&&(decide (zs x.2=zs y.2)&&ξ)&&ξ)=_;let⟨p,o⟩:=x;let⟨m,l⟩:=y;by_cases h:p=m
   .by_cases k:o=l
    .subst h k;simp
    .have:zs o≠zs l:=λz=>k (gb z);simp[h,k,this]
   .have:¬ ((p:MN)=(m:MN)):=λz=>h (MN.ofNat.QK z);simp[h,this]
  rw[e];show q
def IX(x:s.π.O1 a b)(g:∀v∈b.NF,∀(R:MZ->MJ->Prop),R ξ s->Ω (Cl P w) A (XF n v) R E s)(q:Q ξ s):Ω (Cl P w) A (XF (n+1) (.ο a)) Q E s:=by
 let⟨o,h1,h2,m,h⟩:=x;let d:s.Se (.ο a) "tuple":=(o,h1,h2);unfold XF;refine d_ (U' d F.slot_tuple_eq.ρ (d_ (m:=YU (.ο a) (.MO "tuple")) (Sr d isSubtype_tuple_tuple ?_)));simp only[MZ.not_true,MZ.UW,Uh];refine d_ (O9 h1 h (d_ ?_));change Ω _ _ (YW b _ _) _ _ _;rw[<-U1];refine wpAny_forIn_list _ (λRu r s'=>r.1=ε/\s'=s/\∀v∈Ru,v∈b.NF) _ ?_ ?_ _ _ (5,λv e=>e)
 .rintro v Ru r s'⟨c,ζ,QD⟩;refine d_ (g v (QD v N8) _ ?_);simp only[MZ.not_true,MZ.UW,Uh];show j' (5,λu f=>QD u (M4 _ f))
 .rintro⟨j,i⟩s'⟨c,ζ,_⟩;simp only at c;subst c;show j' q
def lq(x:z7 P w s.π k a)(q:Q ξ s):Ω (Cl P w) A (XF 8 (.ο a)) Q E s:=by
 let⟨t,b,h1,h2⟩:=x.No;refine IX (n:=7) h1 (λv c R r=>?_) q;let c:v∈[θ.MS (k.1:MN) t,.ο b]:=c;rcases MP.mp c with ζ|c
 .rw [UL _ ζ];show j' r
 .rw [Ay c];let⟨o,d,n,h,g,f,e⟩:=h2;refine IX (n:=6) (o,h,g,n,f) (λv c R r=>?_) r;rw[UL _ (e.X3 v c)];show j' r
end
abbrev rD(P:NE)(w:N1):HeapKind P w NK where
 is:=z7 P w
 Yt:=cY P w
 draws:=λk=>k.2.β+3
 Yo:=λA=>A.Pa+1<Qn
 QK:=λa b=>a.QK b
 Oq:=λx ho hd hs=>x.Oq ho hd hs
 UP:=λhu hk h=>pe hu hk h
 Zi:=λhu hx hy h=>uF hu hx hy _ _ h
 Y3:=λhk h=>lq hk h
section
variable{X:Cx}{elt iter:Expr}{x y:Str}{px py pt pos:Pos}{kt:Nat}{sc:Scope}{wi:TI}{te:TE}
abbrev kC(K:Nn)(wi:TI)(te:TE):TE:=λσ H Q=>wi σ H λJ H1=>∀D,H1 D=ε->∃W:Φ->Φ->γ V->Hp->Prop,
 (∃m,W 0 m [] (MT H1 D (.M7 [])))/\∀i m ys H2,W i m ys H2->H2 D=δ (.M7 ys)/\((J.Sx i H2/\Q (.ο D) H2)\/(J.go i H2/\ys.β<Λ/\∀x H3,J.X_ i H2 x H3->
  ∃p a b,x=.ο p/\u0 K H3 p [a,b]/\te (δ a::δ b::σ) H3 λy H5=>H5 D=δ (.M7 ys)/\∃m',m'<m/\W (i+1) m' (ys++[y]) (MT H5 D (.M7 (ys++[y])))))
end
section
variable{prog:Program}{w:World}{A:Around}{E:Value->Shared->Prop}{s:Shared}{it t:Addr}{i:Nat}{items:Array Value}
def ll(a:s.π.Rq it t i)(g:s.π.O1 t Y6)(f:Y6[i]?<*x)(j:∀h',h'.Rq it t (i+1)->Pg it s.π h'->Q x {s with π:=h'}):Ω (Cl Ξ w) A (Builtin.OV.UQ (.ο it)) Q E s:=by
 let⟨o,c,h,b⟩:=id a;let⟨k,d,_,l,e⟩:=g;unfold Builtin.OV.UQ;refine d_ (OT (OH:=NB.Ni "__next__") a.Q' F.R8 (Oj F.R8 a.Q' F.Yj ?_ (F.Yd _)));refine d_ (m:=field (.ο it) 0) (NQ c b (x:=.ο t) ζ (OI ζ (d_ (m:=field (.ο it) 1) (NQ c b (x:=.MS i 0) ζ (d_ (m:=seqItems? (.ο t)) (O9 d e ?_))))));simp only[MN.V6,f];refine d_ (QP c b (!1) (j' (x,1,j' (j _ (_,N3 _ c (Pb (OU b _)),(Rp.Yx ..).ν h,3) (Pg.O4 ..)))));rw[OU b];simp[Ny]
def o8(h:A.PR=ε)(b:s.π.Rq it t i)(k:s.π.O1 t Y6)(j:Y6[i]?=ε)(l:∀h' e,NR.ExtBut it s.π h'->(∃o,h'.ψ e=δ o/\o.OO=.MO "StopIteration")->E (.ο e) {s with π:=h'}):Ω (Cl Ξ w) A (Builtin.OV.UQ (.ο it)) Q E s:=by
 let⟨o,d,q,g⟩:=id b;let⟨n,c,_,p,f⟩:=k;unfold Builtin.OV.UQ;refine d_ (OT (OH:=NB.Ni "__next__") b.Q' F.R8 (Oj F.R8 b.Q' F.Yj ?_ (F.Yd _)));refine d_ (m:=field (.ο it) 0) (NQ d g (x:=.ο t) ζ (OI ζ (d_ (m:=field (.ο it) 1) (NQ d g (x:=.MS i 0) ζ (d_ (m:=seqItems? (.ο t)) (O9 c f ?_))))));simp only[MN.V6,j];refine d_ (WL (d_ (QP d g (!1) (d_ (m:=newExc (.MO "StopIteration") []) ?_))));simp only[newExc,newTuple];refine d_ (On (d_ (m:=Ve _ _) (Rc (a:=θ.ε) (by first|rfl|(simp only[Ve];rfl)) (On ?_ (by size_fits)))) (by size_fits));simp only[Z9];refine d_ (Yl ?_);first|rw[show A.S5.PR=ε from h]|rw[h]
 show d_ (j' (VM (l _ _ (((Pg.O4 ..).S6.Nh _).Nh _) (_,MV _ ζ,1))))
end
def WF.Oq{h h':NR}(x:h.O1 t a)(k:∀o,h.ψ t<*o->h'.ψ t<*o):h'.O1 t a:=let⟨o,e,r⟩:=x;(o,k o e,r)
def dF(k:A.PR=ε)(it t:υ)(d:t≠it)(a:Nt θ):TW Ξ w A it [it,t] a.MX (λi v=>a[i]?<*v) (λi h=>h.Rq it t i/\h.O1 t a)  where
 live:=λ_ _ st=>let⟨o,j,_⟩:=st.1;(o,j)
 RQ:=λ_ _ _ st f=>(st.1.at λo e=>f it (!1) o e,WF.Oq st.2 λo e=>f t (!1) o e)
 Uy:=λi s Q E g st l=>ll st.1 st.2 (x:=a[i]) (by simp[g]) λh' c b=>l _ h' s.MW (by simp[g]) (c,WF.Oq st.2 λo e=>(b.2 t d).ν e) b
 done:=λs Q E st m=>o8 k st.1 st.2 (!1) m
def ow:isSubtype (.MO "enumerate") (.MO "enumerate")=pure ξ:=by rw[Vb];kernel_rfl
set_option maxHeartbeats 1000000 in
def ji(l:υ)(a:Nt θ)(n:Φ)(e:ω υ)(i:Nt (ω θ)):Meets (Builtin.«enumerate.__new__» ([.MO "enumerate",.ο l],[])) (λ_ R s=>s.π.ψ l=δ {OO:=.MO "tuple",Pz:=e,NL:=.Sz a n,Ry:=i}/\
   R (.ok (.UX (.ο (s.π.Nh {OO:=.MO "tuple_iterator",NL:=.OB #[.ο l,.MS 0 0]}).Nr.MX)))
    {s with π:=(s.π.Nh {OO:=.MO "tuple_iterator",NL:=.OB #[.ο l,.MS 0 0]}).Nh {OO:=.MO "enumerate",NL:=.OB #[.ε,.Ph η,.ο s⁻¹,Ny 0,.ε,.ε]} }):=
 .of_wp λΞ w A R s h=>by
  let⟨hp,g,d,k,os⟩:=s;let⟨j,h⟩:=h;let f:=ow;let b:hp.O1 l a:=(_,j,1,n,1)
  wp_walk using Q_ b
  refine wpAny_stack_any λst=>j' ?_;split
  .rename_i c _ _ _ _ _;cases(c==θ.MO "enumerate")<;>(wp_walk using Q_ b;show(0,h))
  .wp_walk using Q_ b
   show(0,h)
def mo(p:s.π.O1 l a)(h:∀h',IsEnum h' (s⁻¹+1) s⁻¹ 0 .ε->h'.Rq s⁻¹ l 0->(∀b o,s.π.ψ b<*o->h'.ψ b<*o)->Q (.ο (s⁻¹+1)) {s with π:=h'}):Ω (Cl Ξ w) A (Qk (.MO "enumerate") [.ο l]) Q E s:=by
 let⟨⟨c,f,r,k⟩,m,j,n,i⟩:=p;simp only at j i;subst j i;refine callType_new F.called_enumerate (!0) (F.typeCall_enumerate_1 _) (F.newCall_enumerate_1 _) (λd=>F.args_object_init_2 d _) F.entry_enumerate_new (ji l a n f k) (m,3);generalize e:s.π.Nh {OO:=.MO "tuple_iterator",NL:=.OB #[.ο l,.MS 0 0]}=G;let hz:G.Nr.MX=s⁻¹+1:=by rw[<-e];show Op ..
 let g:IsEnum (G.Nh {OO:=.MO "enumerate",NL:=.OB #[.ε,.Ph η,.ο s⁻¹,Ny 0,.ε,.ε]}) (s⁻¹+1) s⁻¹ 0 .ε:=by
  let q:=MV G (o:={OO:=.MO "enumerate",NL:=.OB #[.ε,.Ph η,.ο s⁻¹,Ny 0,.ε,.ε]}) ζ;rw[hz]at q;show q
 change _/\_;rw[hz];show((_,g,1),h _ g (_,sy _ (by rw[<-e];show MV _ ζ),5) λb o x=>sy _ (by rw[<-e];show sy _ x))
abbrev vv(a:υ):It:=⟨λi H=>∃xs x,H a=δ (.No xs)/\xs[i]?<*x,λi H v H'=>∃p x xs,H a=δ (.No xs)/\xs[i]?=δ x/\v=.ο p/\H p=ε/\H'=MT H p (.No [.MS (i:MN),x]),λi H=>∃xs,H a=δ (.No xs)/\i=xs.β⟩
def ko{K:Nn}(a e it:υ)(r:e≠it):dJ P w K (.Qw es kt pt) (vv a) [e,it] e (λi h=>(∃f,IsEnum h e it i f)/\h.Rq it a i)  where
 mem:=by simp
 Uf:=λi h Z c C=>by
  let⟨⟨f,j⟩,⟨M,m,_,d1⟩⟩:=Z;simp only[MP,NV,N7]at C;rcases C with ζ|rfl
  .exact (_,j,λv q=>by cases q)
  .exact (M,m,λv q=>by rw[d1]at q;cases q)
 QC:=λi h h' ab k=>by let⟨⟨f,j⟩,⟨M,m,r1⟩⟩:=ab;show((f,k e (!1) _ j),(M,k it (!1) _ m,r1))
 Uy:=by
  rintro X hP hw hK C i D s σ H E I O⟨⟨f,j⟩,y⟩hg;subst hP hw hK;let⟨xs,x,N,hx⟩:=hg;let⟨d,T,p,hz⟩:=I.P_ (u0.of N);let⟨u,hu,ru⟩:=T.VI hx;let B:s.π.O1 a d.χ:=p;let W:i<d.χ.MX:=by
   have:=(q5 hu).1;simpa using this
  let t:a≠it:=by
   let⟨o,m,c1,_⟩:=B;let⟨o2,J,L,_⟩:=y;rintro ζ;rw[m]at J;cases J;rw[c1]at L;show MM L (!0)
  let Y:e≠a:=by
   let⟨o,m,c1,_⟩:=B;rintro ζ;let F:s.π.ψ e<*_:=j;rw[m]at F;cases F;show MM (show θ.MO "enumerate"=θ.MO "tuple" from c1) (!0)
  refine Ua (dF (A:=X.A.S5) (I.ok.hd C) it a t d.χ) j (y,B) W r (by simp[r,Y]) λv g R pv ho st U V_ gk=>(0,3);let ev:v=u:=by
   have:d.χ[i]?<*v:=pv;rw[QM,hu]at this;show(ω.δ.QK this).MQ
  subst ev;refine Tv (s:={s with π:=g,MW:=R+1}) ho λg' ge gs=>?_;let Q:∀b o,b≠e->g.ψ b<*o->g'.ψ b<*o:=λb o l q=>(gs.2 b l).ν q;let ne:s⁻¹≠e:=Qg (lt_size j);let No:Az X.Ξ X.w (MT H s⁻¹ (.No [.MS (i:MN),x])) g' s⁻¹ (.No [.MS (i:MN),x]):=
   (sT (by change 2≤16777216;decide),[.MS i R,v],.NZ (_,ζ) (.NZ ru .Ow),(_,Q _ _ ne U,1,(0),1))
  refine(.ο s⁻¹,_,I.Wx (S:=[e,it]) (h':=g') (t':=R+1) (λb o l q=>Q b o (λz=>l (by simp[z])) (gk b o (λz=>l (by simp[z])) (λz=>l (by simp[z])) q)) O No,1,
   (_,x,xs,N,hx,1,I.Og.OG (LE _),1),((_,by rw[MN.Za];show ge),st.1.at λo q=>Q _ o (λz=>r z.MQ) q),λb l=>?_)
  let lt:b<s⁻¹:=by
   let⟨M,m,_⟩:=y;simp only[MP,NV,N7]at l;rcases l with ζ|rfl
   .exact lt_size j
   .exact lt_size m
  rw[a_ (M_ lt)];show(O b l).1
 done:=by
  rintro X hP hw hK C i D s σ H E I O⟨⟨f,j⟩,y⟩n;subst hP hw hK;let⟨xs,N,ζ⟩:=n;let⟨d,T,p,hz⟩:=I.P_ (u0.of N);let B:s.π.O1 a d.χ:=p;let t:a≠it:=by
   let⟨o,m,c1,_⟩:=B;let⟨o2,J,L,_⟩:=y;rintro ζ;rw[m]at J;cases J;rw[c1]at L;show MM L (!0)
  let V_:xs.β=d.χ.MX:=by rw[T.β];simp
  refine Ur (dF (A:=X.A.S5) (I.ok.hd C) it a t d.χ) j (by rw[<-V_];show y,B) λg gs=>(1,3);show I.ZQ (S:=[e,it]) (λb o l q=>gs b o (λz=>l (by simp[z])) q) O
 Yn:=λ_ _ _ _ _ st h=>by
  let⟨⟨f,j⟩,_⟩:=st;show RX j h
section
variable{X:Cx}{elt iter:Expr}{x:Str}{px pos:Pos}{ifs:List Expr}{sc:Scope}{wi:TI}{tt:TT}{te:TE}
end
structure EX(P:Program)(w:World)(κ:Type)[DecidableEq κ] where
 knd:HeapKind P w κ
 kin:Hp->κ->Addr->Prop
 ok:∀{H:Hp}{h:Heap}{k:κ}{a:Addr},kin H k a->Au P w H h->knd.is h k a
 room:∀{A:Around},A.units+64<cLine->knd.room A.in1/\knd.room A
 stay:∀{H H':Hp}{k:κ}{a:Addr},(∀b xs,H b<*.tup xs->H' b<*.tup xs)->kin H k a->kin H' k a
abbrev FN(H:Hp)(k:γ MN)(a:υ):Prop:=H a<*.No (k.NN V.MS)
abbrev Fu(H:Hp)(k:NK)(a:υ):Prop:=∃b,H a=δ (.No [.MS (k.1:MN),.ο b])/\H b<*.No ((zs k.2).NN V.MS)
def Y5{P:NE}{w:N1}:∀{ks:γ MN}{us:γ θ},ad (ks.NN V.MS) us->ItemsAre (N5 P w) ks us
 |[],_,r=>by rw[γ.map_nil]at r;cases r;show .Ow
 |k::ks,_,r=>by
  rw[Qr]at r;cases r with
  |NZ h t=>
   let⟨u,ζ⟩:=(show ∃t,_=θ.MS k t from h);show .NZ (by change θ.YT k (.MS k u)=ξ;simp[θ.YT]) (Y5 t)
def kx(e:FN H k a)(ok:Au P w H h):U8 (N5 P w) h k a:=by
 let⟨_,b,r,o,h1,h2,n,c⟩:=(show Az P w H h a (.No (k.NN V.MS))from ok a _ e);show(o,b.χ,n,h1,h2,c,by simpa using Y5 r)
abbrev Fv(P:NE)(w:N1):EX P w (γ MN) where
 Va:=tupleKind (N5 P w)
 Vz:=FN
 ok:=λe ok=>kx e ok
 Yo:=λ{A}hu=>(by change A.S5.Pa<Qn;rw[N2.Ug];lia,by change A.Pa<Qn;lia)
 SX:=λs e=>s _ _ e
abbrev Ex(P:NE)(w:N1):EX P w NK where
 Va:=rD P w
 Vz:=Fu
 ok:=λ{H h k a}e ok=>by
  let⟨b,e1,e2⟩:=e
  let⟨_,Zr,r,o,h1,h2,n,h3⟩:=(show Az P w H h a (.No [.MS (k.1:MN),.ο b])from ok a _ e1)
  let⟨u1,u2,ζ,r1,r2⟩:=bz r
  let⟨t,ζ⟩:=(show ∃t,u1=θ.MS (k.1:MN) t from r1)
  cases(show u2=θ.ο b from r2)
  show(o,n,t,b,h1,h2,h3,kx e2 ok)
 Yo:=λ{A}hu=>(by change A.S5.Pa+1<Qn;rw[N2.Ug];lia,by change A.Pa+1<Qn;lia)
 SX:=λs hZ1=>by let⟨b,e1,e2⟩:=hZ1;show(b,s _ _ e1,s _ _ e2)
abbrev B4{P:NE}{w:N1}{κ:Type}[Qz κ](Va:Δ.X8 P w κ)(d:υ)(NS:γ (κ×V)):HO:=.ext λh=>(d==Ov)=η/\NS.β≤Λ/\∃vs,KV NS vs/\h.Yi Va d vs
instance Hh(κ:Type):(κ×υ×V)->(κ×υ×θ)->Prop:=λp q=>p.1=q.1/\p.2.1=q.2.1/\ae p.2.2 q.2.2
abbrev Bx{P:NE}{w:N1}{κ:Type}[Qz κ](D:EX P w κ)(d:υ)(NS:γ (κ×υ×V)):HO:=.ext λh=>(d==Ov)=η/\NS.β≤Λ/\∃xs,Ro (Hh κ) NS xs/\
 ∃o es ep,h.ψ d=δ o/\o.ZG/\o.NL=.Pz es ep/\es.NF=xs.NN (entryOfKey D.Va)/\(xs.NN (·.1)).Nz
section
variable{P:Program}{w:World}{κ:Type}[DecidableEq κ]
def BS{Va:Δ.X8 P w κ}{H:Hp}{h:NR}{d:υ}{NS:γ (κ×V)}{vs:γ (κ×θ)}(ns:(d==Ov)=η)(c:NS.β≤Λ)(r:KV NS vs)(dd:h.Yi Va d vs):Az P w H h d (B4 Va d NS):=by
 refine((ns,c,vs,r,dd),let⟨o,_,_,e,_⟩:=dd;(o,e),λh1 h2 a b=>?_);let⟨j,i,vs,r,o,f,g,e,q⟩:=a;show(j,i,vs,r,o,f,g,b o e,q)
def fh{D:EX P w κ}{H:Hp}{h:NR}{d:υ}{NS:γ (κ×υ×V)}{xs:γ (κ×υ×θ)}(ns:(d==Ov)=η)(l:NS.β≤Λ)(r:Ro (Hh κ) NS xs)(dd:h.Vu D.Va d xs):Az P w H h d (Bx D d NS):=by
 let⟨o,c,f,e,k,j,i,_,g⟩:=dd;refine((ns,l,xs,r,o,c,f,e,k,j,i,g),(o,e),λh1 h2 a b=>?_);let⟨n,m,vs,r,o,c,f,e,q⟩:=a;show(n,m,vs,r,o,c,f,b o e,q)
def Ey{Va:Δ.X8 P w κ}{H:Hp}{h:NR}{d:υ}{NS:γ (κ×V)}(ok:Au P w H h)(e:H d<*B4 Va d NS):(d==Ov)=η/\NS.β≤Λ/\∃vs,KV NS vs/\h.Yi Va d vs:=(ok d _ e).1
def du{D:EX P w κ}{H:Hp}{h:NR}{d:υ}{NS:γ (κ×υ×V)}(ok:Au P w H h)(e:H d<*Bx D d NS)(f:∀x∈NS,D.Vz H x.1 x.2.1):(d==Ov)=η/\NS.β≤Λ/\∃xs,Ro (Hh κ) NS xs/\h.Vu D.Va d xs:=by
 let⟨u,g,xs,r,o,m,n,s,j,i,c,b⟩:=(ok d _ e).1;refine(u,g,xs,r,o,m,n,s,j,i,c,3,b);clear c b e g;induction r with
 |Ow=>intro x a;simp at a
 |@NZ p q ps v h t k=>
  intro x a;rcases MP.mp a with ζ|a
  .have:=D.ok (f p (!1)) ok;rw[<-h.1,<-h.2.1];show this
  .exact k (λy l=>f y (by simp[l])) x a
abbrev aE(NS:γ (κ×υ×V))(k:κ):ω V:=(NS.find? λx=>decide (x.1=k)).NN (·.2.2)
def lJ{NS:γ (κ×υ×V)}{xs:γ (κ×υ×θ)}(r:Ro (Hh κ) NS xs)(k:κ):au (aE NS k) ((ZB xs k).NN (·.2)):=by
 induction r with
 |Ow=>show Os.Of
 |@NZ p q ps a h t d=>
  by_cases e:p.1=k
  .let e':q.1=k:=h.1.MQ.ν e;let c:aE (p::ps) k<*p.2.2:=by simp[aE,Qj,e]
   let b:ZB (q::a) k<*q.2:=by simp[ZB,Qj,e']
   rw[c,b];show h.2.2
  .let e':¬ q.1=k:=λz=>e (h.1.ν z);let c:aE (p::ps) k=aE ps k:=by simp[aE,Qj,e]
   let b:ZB (q::a) k=ZB a k:=by simp[ZB,Qj,e']
   rw[c,b];show d
def gG{d c:Type}{F:d->c->Prop}{a:d}{b:c}(h:F a b):∀{l:γ d}{m:γ c},Ro F l m->Ro F (l++[a]) (m++[b])
 |_,_,.Ow=>.NZ h .Ow
 |_,_,.NZ r t=>.NZ r (gG h t)
def JV(r:au o u):o.Rz=u.Rz:=by
 cases o<;>cases u<;>first|rfl|show(show NX from r).Nx
end
section
variable{X:Cx}{pins:List (Addr×Obj)}{σ:St}{H:Hp}{s:Shared}{d:Addr}
def f'.bigS(I:f' X M1 σ H s):Ov<s⁻¹:=by
 let h:LT<s⁻¹:=(I.VX.Wk.Oq I.bk).lt;show QB (!0) h
abbrev vA(P:NE)(w:N1)(H:Hp)(d:υ)(y:V)(r:ω V):Prop:=
 (∃NS k,H d=δ (B4 (EW P w) d NS)/\y=.bl k/\r=aF NS k) \/
 (∃NS k b,H d=δ (Bx (Ex P w) d NS)/\(∀x∈NS,Fu H x.1 x.2.1)/\y=.ο b/\Fu H k b/\r=aE NS k) \/
 ∃NS k b,H d=δ (Bx (Fv P w) d NS)/\(∀x∈NS,FN H x.1 x.2.1)/\y=.ο b/\FN H k b/\r=aE NS k
abbrev zE(P:NE)(w:N1)(H:Hp)(d:υ)(y v:V)(H':Hp):Prop:=
 (∃NS k,H d=δ (B4 (EW P w) d NS)/\y=.bl k/\aF NS k=ε/\NS.β<Λ/\H'=MT H d (B4 (EW P w) d (NS++[(k,v,)]))) \/
 (∃NS k b,H d=δ (Bx (Ex P w) d NS)/\(∀x∈NS,Fu H x.1 x.2.1)/\y=.ο b/\Fu H k b/\aE NS k=ε/\NS.β<Λ/\H'=MT H d (Bx (Ex P w) d (NS++[(k,b,v,)]))) \/
 ∃NS k b,H d=δ (Bx (Fv P w) d NS)/\(∀x∈NS,FN H x.1 x.2.1)/\y=.ο b/\FN H k b/\aE NS k=ε/\NS.β<Λ/\H'=MT H d (Bx (Fv P w) d (NS++[(k,b,v,)]))
abbrev zF(P:NE)(w:N1)(H:Hp)(d:υ)(n:Φ):Prop:=
 (∃NS,H d=δ (B4 (EW P w) d NS)/\n=NS.β)\/∃NS,H d=δ (Bx (Ex P w) d NS)/\n=NS.β
def sg{a:Type}[Qz a]{D:EX X.Ξ X.w a}{NS:γ (a×υ×V)}{k:a}{b:υ}{v:V}{A:N2}{E:θ->MJ->Prop}{Q:θ->MJ->Prop}(m:A.Pa+64<Qn)(I:f' X M1 σ H s)(e:H d<*Bx D d NS)(n:∀x∈NS,D.Vz H x.1 x.2.1)(j:D.Vz H k b)(l:δ v=aE NS k)(h:∀c s',f' X M1 σ H s'->ae v c->Q c s'):Ω (Cl X.Ξ X.w) A (X2 (.ο d) (.ο b)) Q E s:=by
 let⟨_,_,xs,g,dd⟩:=du I.Og e n;let⟨c,hw,f⟩:=au.Vn (v:=v) (o:=(ZB xs k).NN (·.2)) (by rw[l];show lJ g k);let⟨p,hp,i⟩:=BG hw;refine wpAny_getItem_heap (D.Yo m).1 (D.ok j I.Og) dd hp ?_;rw[i];show h c _ (I.Tw _) f
def gY{a:Type}[Qz a]{D:EX X.Ξ X.w a}{NS:γ (a×υ×V)}{k:a}{b:υ}{A:N2}{E:θ->MJ->Prop}{Q:θ->MJ->Prop}(g:A.Pa+64<Qn)(I:f' X M1 σ H s)(e:H d<*Bx D d NS)(i:∀x∈NS,D.Vz H x.1 x.2.1)(f:D.Vz H k b)(h:∀s',f' X M1 σ H s'->Q (.Ph (!(aE NS k).Rz)) s'):Ω (Cl X.Ξ X.w) A (O8 .NotIn (.ο b) (.ο d)) Q E s:=by
 let⟨ns,_,xs,c,dd⟩:=du I.Og e i;refine wpAny_notIn_heap (D.Yo g).1 (D.ok f I.Og) ns dd ?_;let q:=JV (lJ c k);rw[ω.isSome_map]at q;rw[<-q];show h _ (I.Tw _)
def HX(I:f' X M1 σ H s)(mu:HJ (H d))(f:Pg d s.π h')(g:∃q,h'.ψ d<*q)(a:Az X.Ξ X.w (MT H d c) h' d c):f' X M1 σ (MT H d c) {s with π:=h',MW:=t'}:=
 I.WW (x:=d) (e:=d) mu (.NJ ζ) (λb q h z=>(f.2 b h).ν z) g a
def vL{a:Type}[Qz a]{D:EX X.Ξ X.w a}{NS:γ (a×υ×V)}{xs:γ (a×υ×θ)}{k:a}{b:υ}{v:V}{r:θ}{h':NR}{t':Φ}(I:f' X M1 σ H s)(e:H d<*Bx D d NS)(ns:(d==Ov)=η)(i:NS.β<Λ)(c:Ro (Hh a) NS xs)(h:aE NS k=ε)(f:ae v r)(dd:h'.Vu D.Va d (storedH xs k b r))(g:Pg d s.π h'):f' X M1 σ (MT H d (Bx D d (NS++[(k,b,v,)]))) {s with π:=h',MW:=t'}:=by
 let q:=au.UG (show au ε ((ZB xs k).NN (·.2)) by rw[<-h];show lJ c k);rw[storedH_new (ω.map_eq_none_iff.mp q)]at dd;show HX I (by rw[e];show Os.Of) g (let⟨o,_,_,q,_⟩:=dd;(o,q)) (fh ns (by rw[w_];show i) (gG (F:=Hh a) (5,f) c) dd)
def sf{c:Type}[Qz c]{D:EX X.Ξ X.w c}{NS:γ (c×υ×V)}{k:c}{b:υ}{v:V}{r:θ}{A:N2}{E:θ->MJ->Prop}{Q:Unit->MJ->Prop}(j:A.Pa+64<Qn)(I:f' X M1 σ H s)(e:H d<*Bx D d NS)(o:∀x∈NS,D.Vz H x.1 x.2.1)(i:D.Vz H k b)(m:aE NS k=ε)(n:NS.β<Λ)(g:ae v r)(h:∀s',f' X M1 σ (MT H d (Bx D d (NS++[(k,b,v,)]))) s'->Q () s'):Ω (Cl X.Ξ X.w) A (setItem (.ο d) (.ο b) r) Q E s:=by
 let⟨ns,hz,xs,a,dd⟩:=du I.Og e o;show wpAny_setItem_heap (V_:=by rw[<-Ro.β a];show hz) (D.Yo j).1 (D.ok i I.Og) dd λh' f l=>h _ (vL I e ns n a m g f l)
def bT{NS:γ (a×V)}{vs:γ (a×θ)}{k:a}(b:KV NS vs)(c:ae v r):KV (NS++[(k,v,)]) (vs++[(k,r,)]):=gG (F:=λ(p:a×V)(q:a×θ)=>p.1=q.1/\ae p.2 q.2) (1,c) b
def IY{a:Type}[Qz a]{vs:γ (a×θ)}{k:a}{r:θ}(h:RY vs k=ε):stored vs k r=vs++[(k,r,)]:=by
 unfold stored;rw[BT];intro q;rw[Vj]at q;let⟨x,b,e⟩:=q;unfold RY at h;rw[ω.map_eq_none_iff,γ.find?_eq_none]at h;show h x b e
def ng(ns:(d==Ov)=η)(b:s.π.ψ d<*o)(f:o.ZG)(e:o.NL=.Pz a i)(hz:a.MX≤Λ)(h:∀t t',Q (.MS (a.MX:Φ) t) {s with MW:=t'}):Ω (Cl X.Ξ X.w) A (Qk (.Nk "len") [.ο d]) Q E s:=by
 let c:s.Se (.ο d) "dict":=(o,b,f.1);let g:(a.MX:MN)<2^63:=by rw[OQ]at hz;lia
 refine SB.call_function_entry kind_len plain_len entry_len (args_len1 _) ?_;unfold Builtin.«len»;refine d_ (m:=oneArg "len" _) (j' (d_ (m:=callSpecial? (.ο d) (NB.Ni "__len__")) (OT (OH:=NB.Ni "__len__") c F.slot_dict_len (Oj F.slot_dict_len c F.entry_dict_len ?_ (F.args_dict_len_1 _)))));refine d_ (m:=dictSize d) ?_;unfold dictSize;refine d_ (wpAny_dictEntries b e (j' (d_ (m:=Builtin.Dict.pendingCount d) (wpAny_pendingCount_other ns (d_ (UD (j' (0,d_ (NT (j' (d_ (VO ?_))))))))))));refine OI (!1) (OI (by simp;lia) (d_ (UD (j' (0,3)))));simpa using h _ _
end
section
variable{X:Cx}
inductive ug(P:Program)(w:World)(x:V)(y:V)(H:Hp)(Q:VK):Prop
 |mk (d o:_) (_:y=.ref d) (_:vA P w H d x o) (_:Q (.bl (!o.isSome)) H)
def oR(m:X.A.Pa+64<Qn):AQ X (O8 .NotIn) (ug X.Ξ X.w):=by
 intro l s p H x y v u Q I a n h;let⟨d,o,ζ,g,q⟩:=h;cases n;rcases g with⟨NS,k,e,ζ,ζ⟩|⟨NS,k,b,e,i,ζ,f,ζ⟩|⟨NS,k,b,e,i,ζ,f,ζ⟩
 .cases a;let⟨ns,_,vs,c,dd⟩:=Ey I.Og e;refine wpAny_notIn_of (Va:=EW X.Ξ X.w) (k:=k) (show rX k (.Ph k)=ξ by cases k<;>rfl) ns dd.mapOf ?_;rw[<-JV (c.Zz k)];show(.bl _,H,I.Tw _,1,q)
 .cases a;show gY (D:=Ex X.Ξ X.w) m I e i f λs' j=>(.bl _,H,j,1,q)
 .cases a;show gY (D:=Fv X.Ξ X.w) m I e i f λs' j=>(.bl _,H,j,1,q)
def vd{f:St}(I:f' X c f H s)(g:vA X.Ξ X.w H d y o):s.Se (.ο d) "dict":=by
 rcases g with⟨NS,k,e,_⟩|⟨NS,k,b,e,a,_⟩|⟨NS,k,b,e,a,_⟩
 .obtain ⟨_,_,vs,_,dd⟩:=Ey I.Og e;show dd.Q'
 .obtain ⟨_,_,vs,_,dd⟩:=du (D:=Ex X.Ξ X.w) I.Og e a;show dd.Q'
 .obtain ⟨_,_,vs,_,dd⟩:=du (D:=Fv X.Ξ X.w) I.Og e a;show dd.Q'
inductive yL(P:Program)(w:World)(x:V)(y:V)(H:Hp)(Q:VK):Prop
 |mk (d v:_) (_:x=.ref d) (_:vA P w H d y (some v)) (_:Q v H)
def rS(B:X.A.Pa+64<Qn):CT X (yL X.Ξ X.w):=by
 intro c f t s J H x y v u Q I C i h E;let⟨d,z,ζ,g,q⟩:=h;cases C;refine WZ (ops:=[.ο d,u]) (vd I g) Δ.F.UE.ρ ?_ E;rcases g with⟨NS,k,e,ζ,l⟩|⟨NS,k,b,e,n,ζ,m,l⟩|⟨NS,k,b,e,n,ζ,m,l⟩
 .cases i;let⟨ns,_,vs,j,dd⟩:=Ey I.Og e;let⟨r,hw,a⟩:=au.Vn (v:=z) (o:=RY vs k) (by rw[l];show j.Zz k);show Uc (Va:=EW X.Ξ X.w) (k:=k) (show rX k (.Ph k)=ξ by cases k<;>rfl) dd.mapOf hw (z,H,I.Tw _,a,q)
 .cases i;show sg (D:=Ex X.Ξ X.w) B I e n m l λr s' p a=>(z,H,p,a,q)
 .cases i;show sg (D:=Fv X.Ξ X.w) B I e n m l λr s' p a=>(z,H,p,a,q)
inductive yK(P:Program)(w:World)(o:V)(i:V)(v:V)(H:Hp)(Q:Hp->Prop):Prop
 |mk (d H':_) (_:o=.ref d) (_:zE P w H d i v H') (_:Q H')
def Ed(x:X.A.Pa+64<Qn):xN X (yK X.Ξ X.w):=by
 intro t s C H o i v E F u Q I y m l h;let⟨d,H',ζ,g,q⟩:=h;cases y;rcases g with⟨NS,k,e,ζ,f,j,ζ⟩|⟨NS,k,b,e,p,ζ,n,f,j,ζ⟩|⟨NS,k,b,e,p,ζ,n,f,j,ζ⟩
 .cases m;let⟨ns,hz,vs,a,dd⟩:=Ey I.Og e;refine wpAny_setItem_pairs (Va:=EW X.Ξ X.w) (k:=k) (V_:=by rw[<-a.β];show hz) (show rX k (.Ph k)=ξ by cases k<;>rfl) dd λh' c B=>(_,3,q);let z:=au.UG (show au ε (RY vs k) by rw[<-f];show a.Zz k);rw[IY z]at c;show HX I (by rw[e];show Os.Of) B (let⟨o,_,_,q,_⟩:=c;(o,q)) (BS ns (by rw[w_];show j) (bT a l) c)
 .cases m;show sf (D:=Ex X.Ξ X.w) x I e p n f j l λs' r=>(_,r,q)
 .cases m;show sf (D:=Fv X.Ξ X.w) x I e p n f j l λs' r=>(_,r,q)
def Ee:Dg X (.Nk "len") (λxs H Q=>∃d n,xs=[V.ο d]/\zF X.Ξ X.w H d n/\Q (.MS (n:Φ)) H):=by
 intro i s m H xs us Q I r h;let⟨d,n,ζ,g,q⟩:=h;let⟨p,ζ,j⟩:=Dr r;cases j;rcases g with⟨NS,e,ζ⟩|⟨NS,e,ζ⟩
 .obtain ⟨ns,hz,vs,a,o,f,l,h1,h2,c,_,hp,_⟩:=Ey I.Og e;let b:f.MX=NS.β:=by rw[a.β,<-hp.β];simp
  refine ng (X:=X) ns h1 h2 c (!6) λt t'=>(.MS (NS.β:Φ),H,I.Tw _,(t,by rw[b]),q)
 .obtain ⟨ns,hz,xs,a,o,f,l,h1,h2,c,k,_⟩:=(I.Og d _ e).1;let b:f.MX=NS.β:=by rw[Ro.β a,<-Po,k,ol]
  refine ng (X:=X) ns h1 h2 c (!6) λt t'=>(.MS (NS.β:Φ),H,I.Tw _,(t,by rw[b]),q)
inductive Lq where
 |bl|nest|pair
abbrev uE(P:NE)(w:N1)(d:υ):Lq->HO
 |.bl=>B4 (EW P w) d []
 |.TZ=>Bx (Ex P w) d []
 |.pair=>Bx (Fv P w) d []
def wY(h:NR)(a:Ov<h.Nr.MX)(k:Lq):Az P w H (h.Nh {OO:=.MO "dict",NL:=.Pz #[]}) h.Nr.MX (uE P w h.Nr.MX k):=by
 let ns:(h.Nr.MX==Ov)=η:=ND.Ot (Ne.MQ (M_ a));cases k with
 |bl=>show BS (Va:=EW P w) ns (Nf _) .Ow (NR.Yi.X0 h)
 |TZ=>show fh (D:=Ex P w) ns (Nf _) .Ow (Vu.X0 h)
 |pair=>show fh (D:=Fv P w) ns (Nf _) .Ow (Vu.X0 h)
inductive yh(P:Program)(w:World)(_0:St)(H:Hp)(Q:VK):Prop
 |mk (k:_) (_:∀p,H p=none->Q (.ref p) (upd H p (uE P w p k)))
def uq:PE X (.Dict [] [] Nj) (yh X.Ξ X.w):=λb s c H Q I⟨k,h⟩=>
 wpAny_Dict_empty (.ο s⁻¹,_,I.T0 (a:=s⁻¹) (o:=uE X.Ξ X.w s⁻¹ k) (t':=s.MW) (λ_ _ q=>sy _ q) (LE _) (wY s.π I.bigS k),1,h _ (I.Og.OG (LE _)))
end
namespace ZP
section
variable{prog:Program}{w:World}{A:Around}{E:Value->Shared->Prop}{s:Shared}{z TI TO i1 i2:Addr}{f1 f2:List Addr}{n1 n2 k:Nat}{P1 P2:Nat->Value->Prop}{S1 S2:Nat->Heap->Prop}{a b:Value}
abbrev Gp(a:υ):Rp:={OO:=.MO "tuple_iterator",NL:=.OB #[.ο a,.MS 0 0]}
def rT{a:υ}(d:s.π.O1 a c)(h:Q (.ο s⁻¹) {s with π:=s.π.Nh (Gp a)}):Ω (Cl Ξ w) A (VV (.ο a)) Q E s:=Q_ d h
end
end ZP
def jr:∀{ns:γ MN}{us:γ θ},ad (ns.NN V.MS) us->TD us ns
 |[],_,r=>by rw[γ.map_nil]at r;cases r;show .Ow
 |n::ns,_,r=>by
  rw[Qr]at r;cases r with
  |NZ h t=>
   let⟨u,ζ⟩:=(show ∃t,_=θ.MS n t from h);show .NZ n u (jr t)
section
variable{X:Cx}
inductive rIndexB(x:V)(vs:List V)(H:Hp)(Q:VK):Prop
 |mk (l:Addr) (bs:List Bool) (_:x=.ref l) (_:vs=[.bl false]) (_:H l<*.lst (bs.map V.bl)) (_:false∈bs) (_:Q (.int (bs.idxOf false:Nat)) H)
def eQ:IT X "list.index" rIndexB:=by
 intro C s T H x vs v us Q I J L h;let⟨l,bs,ζ,ζ,E,P,q⟩:=h;cases J;let⟨u,ζ,M⟩:=L.Ol;cases M;let⟨z,f,n,r,U,e⟩:=I.lstM E;let d:f.β=bs.β:=by rw[<-r.β,ol]
 let o:bs.M3 η<bs.β:=M8 P;let k:∀(j:Φ)(t:j<f.χ.MX),∃g:j<bs.β,f.χ[j]=.Ph bs[j]:=λj t=>by
  let g:j<bs.β:=by simpa[d]using t
  refine(g,3);let⟨a,S,N⟩:=r.VI (i:=j) (x:=.bl bs[j]) (by rw[tS,n_ g];rfl);cases N;let⟨_,q⟩:=q5 S;simpa using q
 let w:((bs.M3 η:Φ):MN)<2^63-1:=by
  let R:(bs.NN V.bl).β≤Λ:=(I.M7 E).Vh.Vh.2.2;rw[ol,OQ]at R;lia
 refine Yb F.TX (_,e,1) F.entry_list_index (F.args_list_index_2 _ _) (PV.list_indexAt l f.χ n ε #[] (.Ph η) (λy=>match y with|.Ph b=>b==η|_=>η) (bs.M3 η) (by simpa[d]using o) w ?_ ?_) (e,3,(.MS _,H,I.Tw _,(_,ζ),q))
 .obtain ⟨g,p⟩:=k (bs.M3 η) (by simpa[d]using o);rw[p];have:=O_ g;rw[this];rfl
 .intro m A D;let⟨g,p⟩:=k m A;rw[p];change (bs[m]==η)=η;cases B:bs[m]with
  |ξ=>rfl
  |η=>
   have:=RA.Hd (l:=bs) (c:=η) (i:=m) (by rw[n_ g,B]);lia
 .intro y O;let⟨j,t,ζ⟩:=Nt.Xl.mp O;let⟨g,p⟩:=k j t;rw[p];show PV.R6.Y8 _ _
inductive z9(K:Frag)(x:V)(y:V)(H:Hp)(Q:VK):Prop
 |mk (p q:Addr) (xs ys:List Int) (_:x=.ref p) (_:y=.ref q) (_:H p<*.lst (xs.map V.int)) (_:H q<*.lst (ys.map V.int)) (_:xs.length=ys.length) (_:Q (.bl (decide (xs=ys))) H)
def wX(L:X.A.Pa<Qn):AQ X (O8 .Eq) (z9 X.K):=by
 intro r s U H x y v u Q I C B h;let⟨p,q,xs,ys,ζ,ζ,hp,N,W,k⟩:=h;cases C;cases B;let⟨c,o,l,J⟩:=I.Qx (o5.of hp);let⟨d,n,g,F⟩:=I.Qx (o5.of N);let l1:=o.β;let l2:=n.β;rw[ol]at l1 l2;refine PV.eq_listAt (e:=λj=>decide (xs.ML j 0=ys.ML j 0)) l.QW g.QW (by simp;lia) L (λj h1 h2=>?_) (.bl _,H,I,1,3)
 .let w:j<xs.β:=by simp at h1;lia
  let f:j<ys.β:=by lia
  let⟨a,P,E⟩:=o.VI (i:=j) (x:=.MS xs[j]) (by rw[tS,n_ w];rfl);let⟨b,O,D⟩:=n.VI (i:=j) (x:=.MS ys[j]) (by rw[tS,n_ f];rfl);let⟨t,ζ⟩:=E;let⟨t',ζ⟩:=D;let T:c.χ[j]=.MS xs[j] t:=by
   let⟨_,e⟩:=q5 P;simpa using e
  let S:d.χ[j]=.MS ys[j] t':=by
   let⟨_,e⟩:=q5 O;simpa using e
  rw[T,S];let R:decide (xs.ML j 0=ys.ML j 0)=(xs[j]==ys[j]):=by
   rw[u6,u6,n_ w,n_ f];by_cases z:xs[j]=ys[j]<;>simp[z]
  change PV.R6 _ _ _ _ (decide (xs.ML j 0=ys.ML j 0));rw[R];show PV.R6.Zd _ t _ t'
 .let e:((γ.N4 c.χ.MX).QD λj=>decide (xs.ML j 0=ys.ML j 0))=decide (xs=ys):=by
   let M:c.χ.MX=xs.β:=by simp;lia
   rw[M];by_cases z:xs=ys
   .subst z;simp
   .rw [M5 z,MZ.U4];intro QD;refine z (γ.Zg λi=>?_);rw[NP]at QD;by_cases m:i<xs.β
    .have:=OX (QD i (Np.Ot m));rw[u6,u6,n_ m,n_ (!6)]at this;rw[n_ m,n_ (!6)];show Nb δ this
    .rw [Pl (!6),Pl (!6)]
  rw[e];show k
end
abbrev IZ(a:υ)(n:Φ):It:=⟨λi H=>∃xs,H a=δ (.M7 xs)/\xs.β=n/\i<n,λi H v H'=>H'=H/\∃xs,H a=δ (.M7 xs)/\xs[n-1-i]?<*v,λi _=>i=n⟩
def qf{K:Nn}(a it:υ)(n:Φ):dJ P w K tg (IZ a n) [it] it (λi h=>h.IsRevIter it a ((n:MN)-1-(i:MN)))  where
 mem:=by simp
 Uf:=λi h st b j=>by
  let e:b=it:=by simpa using j
  subst e;let⟨o,e,c,d⟩:=st;show(o,e,λv z=>by rw[d]at z;cases z)
 QC:=λi h h' st k=>st.at λo e=>k it (!1) o e
 Uy:=by
  intro X y hw A O i f s L H E I r st l;subst y hw A;let⟨xs,N,hl,hi⟩:=l;let J:(n:MN)-1-(i:MN)=((n-1-i:Φ):MN):=by omega
  rw[J]at st;let M:xs[n-1-i]?<*(xs[n-1-i]'(!2)):=n_ _;let⟨S,Q,p,hz⟩:=I.Qx (o5.of N);let⟨u,T,R⟩:=Q.VI M;let⟨m,F,Y,D,C,B⟩:=r it (!1);refine wpAny_pyNext_rev_item st p.QW (x:=u) (by simpa using T) λh' g q=>?_;let I1:f' X f L H {s with π:=h'}:=I.OJ (t':=s.MW) (λb o j e=>(q.2 b j).ν e) m F D C B;let Z:((n-1-i:Φ):MN)-1=(n:MN)-1-((i+1:Φ):MN):=by lia
  rw[Z]at g;let⟨o,U,t,W⟩:=id g;refine(u,1,fq (s:={s with π:=h'}) U t W (!0) (_,H,I1,R,(1,xs,N,M),g,λb j=>?_));let e:b=it:=by simpa using j
  subst e;show m
 done:=by
  intro X y hw A O i f s L H E I r st l;subst y hw A;let l:i=n:=l;let J:(n:MN)-1-(i:MN)=-1:=by lia
  rw[J]at st;let⟨m,F,Y,D,C,B⟩:=r it (!1);show wpAny_pyNext_rev_end (I.ok.hd O) st λh' q=>(1,I.OJ (t':=s.MW) (λb o j e=>q b o j e) m F D C B)
 Yn:=λ_ _ _ _ _ st h=>Zy st h
inductive zi(R:It->Hp->Prop)(vs:List V)(H1:Hp):Prop
 |mk (a xs:_) (_:vs=[.ref a]) (_:H1 a<*.lst xs) (_:R (IZ a xs.length) H1)
abbrev JW(t:TA):TI:=λσ H R=>t σ H (zi R)
def wM{m a:Rb}{p Nj:Sh}(y:Gl X "reversed")(x:X.mg "reversed"=ε)(B:PA X [a] ta)(v:(Θ [a] X.KK=(η,OM a X.KK,)::Θ [] X.KK)>>>4)(j:((OF Nj (Θ [] X.KK)).Ql (·.1)=η)>>>4):PI X m (.QG (.N0 "reversed" p) [a] [] Nj) (JW ta):=by
 intro g s l H R I h;refine Nc (Ad I y x Oi.Sf.boot_reversed (Oi.Sf.Pw (ri (B Nj g s l H _ I h) λus d z=>?_) v j));let⟨vs,C,i,t,b,xs,ζ,w,q⟩:=z;let⟨D,ζ,r⟩:=Dr t;cases r;let⟨f,n,u,hz⟩:=i.Qx (o5.of w);let V_:f.χ.MX=xs.β:=by rw[n.β];simp
 refine call_reversed_list u.QW ?_;let k:(d.π.Nh (revObj b ((f.χ.MX:MN)-1))).IsRevIter d⁻¹ b ((xs.β:MN)-1-((0:Φ):MN)):=(_,MV _ ζ,1,by rw[V_];simp[revObj]);refine Zy (s:={d with π:=d.π.Nh (revObj b ((f.χ.MX:MN)-1))}) k ?_;refine(_,[d⁻¹],_,IZ b xs.β,C,1,i.SW (t':=d.MW) λb o e=>sy _ e,qf b _ _,k,λc A=>?_,q);let e:c=d⁻¹:=by simpa using A
 subst e;show i.Yw (LE _) (i.Og.OG (LE _))
end L2
namespace RA
def eV(L:LN)(c d:Φ):∀{a b:LN},aq L a b=ξ->aq L (a++[c]) (b++[d])=ξ
 |[],_,h=>by simp[aq]at h
 |_::_,[],h=>by simp[aq]at h
 |x::a,y::b,h=>by
  rw[Rk,Rk,aq];rw[aq]at h;by_cases e:x=y
  .rw [Id e]at h⊢;show eV L c d h
  .rw [BT e]at h⊢;show h
def Lr(L:LN)(c:Φ):∀{a b:LN},a.β=b.β->aq L (a++[c]) (b++[c])=ξ->aq L a b=ξ
 |[],[],_,h=>by simp[aq]at h
 |[],_::_,e,_=>by simp at e
 |_::_,[],e,_=>by simp at e
 |x::a,y::b,e,h=>by
  rw[Rk,Rk,aq]at h;rw[aq];by_cases q:x=y
  .rw [Id q]at h⊢;show Lr L c (by simpa using e) h
  .rw [BT q]at h⊢;show h
def eW(L:LN){c d:Φ}(b:L.M3 c<L.M3 d):∀a:LN,aq L (a++[c]) (a++[d])=ξ
 |[]=>by
  rw[WO,WO,aq,BT (λe=>by rw[e]at b;lia)];show NM b
 |x::a=>by
  rw[Rk,Rk,aq,Id ζ];show eW L b a
def Ls(L:LN):∀{a b:LN},aq L a b=ξ->aq L b a=η
 |[],_,h=>by simp[aq]at h
 |_::_,[],h=>by simp[aq]at h
 |x::a,y::b,h=>by
  rw[aq]at h⊢;by_cases e:x=y
  .rw [Id e]at h;rw[Id e.MQ];show Ls L h
  .rw [BT e]at h;rw[BT (Ne.MQ e)];have:=OX h;show M5 (!6)
def Lu(L:LN):∀{a b c:LN},aq L a b=ξ->aq L b c=ξ->aq L a c=ξ
 |[],_,_,h,_=>by simp[aq]at h
 |_::_,[],_,h,_=>by simp[aq]at h
 |_::_,_::_,[],_,h=>by simp[aq]at h
 |x::a,y::b,z::c,h,k=>by
  rw[aq]at h k⊢;by_cases e:x=y
  .subst e;rw[Id ζ]at h;by_cases f:x=z
   .rw [Id f]at k⊢;show Lu L h k
   .rw [BT f]at k⊢;show k
  .rw [BT e]at h;let h1:=OX h;by_cases f:y=z
   .subst f;rw[BT e];show h
   .rw [BT f]at k;let k1:=OX k;rw[BT (λg=>by rw[g]at h1;lia)];show NM (!2)
def Lv{L:LN}:∀{a b:LN},a.β=b.β->(∀c∈a,c∈L)->(∀c∈b,c∈L)->aq L a b=ξ\/a=b\/aq L b a=ξ
 |[],[],_,_,_=>.NU (.NJ ζ)
 |[],_::_,e,_,_=>by simp at e
 |_::_,[],e,_,_=>by simp at e
 |x::a,y::b,e,f,g=>by
  rw[aq,aq];by_cases q:x=y
  .subst q;rw[Id ζ,Id ζ];rcases Lv (a:=a) (b:=b) (by simpa using e) (λc d=>f c (by simp[d])) (λc d=>g c (by simp[d]))with h|h|h
   .exact .NJ h
   .exact .NU (.NJ (by rw[h]))
   .exact .NU (.NU h)
  .rw [BT q,BT (Ne.MQ q)];rcases Φ.TC (L.M3 x) (L.M3 y)with h|h|h
   .exact .NJ (NM h)
   .exact MM (DQ (f x (!1)) h) q
   .exact .NU (.NU (NM h))
section
variable{L a b c:LN}
def Hi(h:a.β<b.β):AF L a b=ξ:=by
 unfold AF;rw[Id (!6)];show NM h
def EY(h:a.β=b.β):AF L a b=aq L a b:=by
 unfold AF;rw[BT (by simpa using h)]
def dE(h:AF L a b=ξ):a.β≤b.β:=by
 by_cases e:a.β=b.β
 .lia
 .unfold AF at h;rw[Id e]at h;have:=OX h;lia
def sI(x y:Φ)(h:AF L a b=ξ):AF L (a++[x]) (b++[y])=ξ:=by
 let d:=dE h;by_cases e:a.β=b.β
 .rw [EY (by simp[e])];rw[EY e]at h;show eV L x y h
 .exact Hi (by simp;lia)
def sJ(h:L.M3 x<L.M3 y):AF L (a++[x]) (a++[y])=ξ:=by
 rw[EY (!1)];show eW L h a
def I_(h:AF L a b=ξ):AF L b a=η:=by
 let d:=dE h;by_cases e:a.β=b.β
 .rw [EY e]at h;rw[EY e.MQ];show Ls L h
 .unfold AF;rw[Id (Ne.MQ e)];show M5 (!6)
def By(h:AF L a b=ξ)(k:AF L b c=ξ):AF L a c=ξ:=by
 let h1:=dE h;let h2:=dE k;by_cases e:a.β=c.β
 .rw [EY (!6)]at h k;rw[EY e];show Lu L h k
 .exact Hi (!6)
def uZ:AF L a []=η:=by
 unfold AF;by_cases e:a.β=([]:LN).β
 .rw [BT (by simpa using e)];cases a<;>simp[aq]
 .rw [Id e];simp
def fE(f:∀x∈a,x∈L)(d:∀x∈b,x∈L):AF L a b=ξ\/a=b\/AF L b a=ξ:=by
 by_cases e:a.β=b.β
 .rw [EY e,EY e.MQ];show Lv e f d
 .by_cases h:a.β<b.β
  .exact .NJ (Hi h)
  .exact .NU (.NU (Hi (!6)))
def g9(e:∀x∈a,x∈L)(d:∀x∈b,x∈L)(h:AF L b a=η)(k:AF L c b=η):AF L c a=η:=by
 cases q:AF L c a with
 |η=>rfl
 |ξ=>
  rcases fE e d with t|t|t
  .rw [By q t]at k;cases k
  .rw [<-t,q]at k;cases k
  .rw [t]at h;cases h
def jH(x:Φ)(h:AF L b a=η):AF L (b++[x]) (a++[x])=η:=by
 cases q:AF L (b++[x]) (a++[x])with
 |η=>rfl
 |ξ=>
  let d:=dE q;by_cases e:b.β=a.β
  .rw [EY (by simp[e])]at q;rw[EY e,Lr L x e q]at h;cases h
  .rw [Hi (by simp at d;lia)]at h;cases h
end
section
variable{κ:Type}[DecidableEq κ]
abbrev aR(g:κ->Φ->κ)(L:LN)(s:κ)(w:LN):κ:=w.foldl (λt c=>g t (L.M3 c)) s
def JX(g:κ->Φ->κ)(L:LN)(s:κ)(w:LN)(c:Φ):aR g L s (w++[c])=g (aR g L s w) (L.M3 c):=by
 unfold aR;rw[γ.U3];rfl
structure Bf(g:κ->Nat->κ)(L:LN)(s:κ)(ts:List κ)(ws:LL)(n k:Nat):Prop where
 len:ts.length=ws.length
 nd:ts.Nodup
 t0:ts[0]?<*s
 w0:ws[0]?<*[]
 srt:∀(i j:Nat)(a b:LN),i<j->ws[i]?<*a->ws[j]?<*b->AF L a b=true
 lead:∀(i:Nat)(t:κ)(a:LN),ts[i]?<*t->ws[i]?<*a->(∀c∈a,c∈L)/\aR g L s a=t
 par:∀(j:Nat)(b:LN),ws[j]?<*b->b=[]\/∃(p q:Nat)(a:LN),ws[p]?=some a/\q<L.length/\b=a++[L.getD q 0]/\(p<n\/(p=n/\q<k))
 fin:∀(r q:Nat)(t:κ)(a:LN),(r<n\/(r=n/\q<k))->q<L.length->ts[r]?<*t->ws[r]?<*a->∃(j:Nat)(b:LN),ts[j]?=some (g t q)/\ws[j]?=some b/\AF L (a++[L.getD q 0]) b=false
variable{g:κ->Nat->κ}{L:LN}{s:κ}{ts:List κ}{ws:LL}{n k:Nat}
def Bf.SQ(g:κ->Φ->κ)(L:LN)(s:κ):Bf g L s [s] [[]] 0 0 where
 PQ:=ζ
 nd:=by simp
 t0:=ζ
 w0:=ζ
 srt:=λi j a b l f d=>by
  have:=(q5 d).1;simp at this;lia
 lead:=λi t a e f=>by
  match i,e,f with
  |0,e,f=>cases e;cases f;show(λc m=>by simp at m,1)
  |i+1,e,_=>simp at e
 YN:=λj b d=>by
  match j,d with
  |0,d=>cases d;show .NJ ζ
  |j+1,d=>simp at d
 VE:=λr q t a h=>by lia
def Bf.behind(h:Bf g L s ts ws n k)(d:L.Nz){a:LN}(i:ws[n]?<*a)(f:k<L.β){j:Φ}{b:LN}(l:ws[j]?<*b):AF L b (a++[L.ML k 0])=ξ:=by
 rcases h.YN j b l with ζ|⟨p,q,r,hp,e,ζ,c⟩
 .exact Hi (!1)
 .rcases c with c|⟨rfl,c⟩
  .exact sI _ _ (h.srt p n r a c hp i)
  .rw [i]at hp;cases hp;refine sJ ?_;let o:L.M3 (L.ML q 0)=q:=by rw[u6,n_ e];show HU d e
   let m:L.M3 (L.ML k 0)=k:=by rw[u6,n_ f];show HU d f
   rw[o,m];show c
def m9(h:r<n\/(r=n/\q<k+1)):(r<n\/(r=n/\q<k))\/(r=n/\q=k):=by lia
def Bf.old(h:Bf g L s ts ws n k)(u:L.Nz){t:κ}{a:LN}(v:ts[n]?<*t)(o:ws[n]?<*a)(y:k<L.β)(x:g t k∈ts):Bf g L s ts ws n (k+1):=
 {h with
  YN:=λj b z=>by
   rcases h.YN j b z with e|⟨p,q,i,h1,h2,A,B⟩
   .exact .NJ e
   .exact .NU (p,q,i,h1,h2,A,!6)
  VE:=λr q t' i f w c d=>by
   rcases m9 f with f|⟨rfl,ζ⟩
   .exact h.VE r q t' i f w c d
   .rw [v]at c;rw[o]at d;cases c;cases d;let⟨j,m⟩:=NO.mp x;let l:j<ws.β:=by rw[<-h.PQ];show(q5 m).1
    show(j,ws[j],m,n_ l,I_ (h.behind u o y (n_ l)))}
def Bf.X0(h:Bf g L s ts ws n k)(O:L.Nz){t:κ}{a:LN}(F:ts[n]?<*t)(E:ws[n]?<*a)(C:k<L.β)(R:g t k∉ts):Bf g L s (ts++[g t k]) (ws++[a++[L.ML k 0]]) n (k+1):=by
 let P:L.ML k 0=L[k]:=by rw[u6,n_ C];rfl
 let w:∀{o:Type}{l:γ o}{x y:o}{i:Φ},l[i]?<*y->(l++[x])[i]?<*y:=λ{o l x y i}e=>by
  rw[M0 (q5 e).1];show e
 let split:∀{o:Type}{l:γ o}{x y:o}{i:Φ},(l++[x])[i]?<*y->l[i]?<*y\/(i=l.β/\y=x):=λ{o l x y i}e=>by
  by_cases S:i<l.β
  .rw [M0 S]at e;show .NJ e
  .rw [MY (!6)]at e;have:i-l.β=0:=by
    have:=(q5 e).1;simp at this;omega
   rw[this]at e;show .NU (!6,(ω.δ.QK e).MQ)
 let A:(ts++[g t k])[ts.β]?<*g t k:=by rw[MY (LE _),VS];rfl
 let u:(ws++[a++[L.ML k 0]])[ws.β]?<*(a++[L.ML k 0]):=by rw[MY (LE _),VS];rfl
 let⟨I,B⟩:=h.lead n t a F E;refine(by simp[h.PQ],3,w h.t0,w h.w0,λi j x y J d z=>?_,λi t' x f d=>?_,λj b M=>?_,λr q t' x H Q f d=>?_)
 .rw [γ.Wg];show(h.nd,!1,λx d y z e=>R (by rw[Ay z]at e;rw[<-e];show d))
 .rcases split z with z|⟨rfl,ζ⟩
  .rcases split d with d|⟨rfl,ζ⟩
   .exact h.srt i j x y J d z
   .have:=(q5 z).1;lia
  .rcases split d with d|⟨rfl,ζ⟩
   .exact h.behind O E C d
   .lia
 .rcases split f with f|⟨rfl,ζ⟩
  .rcases split d with d|⟨rfl,ζ⟩
   .exact h.lead i t' x f d
   .have:=(q5 f).1;rw[h.PQ]at this;lia
  .rcases split d with d|⟨_,ζ⟩
   .have:=(q5 d).1;rw[h.PQ]at this;lia
   .refine (λc D=>?_,3)
    .rcases Nd.mp D with D|D
     .exact I c D
     .rw [Ay D,P];show Nv C
    .rw [JX,B,P,HU O C]
 .rcases split M with M|⟨rfl,ζ⟩
  .rcases h.YN j b M with e|⟨p,q,Y,h1,h2,T,h4⟩
   .exact .NJ e
   .exact .NU (p,q,Y,w h1,h2,T,!6)
  .exact .NU (n,k,a,w E,C,1,.NU (1,OC k))
 .let hrn:r≤n:=by lia
  let Z:=(q5 F).1;let m:ts[r]?<*t':=by rw[M0 (!2)]at f;show f
  let v:ws[r]?<*x:=by rw[M0 (by rw[<-h.PQ];omega)]at d;show d
  rcases m9 H with H|⟨rfl,ζ⟩
  .obtain ⟨j,b,X,W,U⟩:=h.VE r q t' x H Q m v;show(j,b,w X,w W,U)
  .rw [F]at m;rw[E]at v;cases m;cases v;refine(ts.β,_,A,by rw[h.PQ];show u,3);cases N:AF L (a++[L.ML q 0]) (a++[L.ML q 0])with
   |η=>rfl
   |ξ=>show N.MQ.ν (I_ N)
def Bf.next(h:Bf g L s ts ws n L.β):Bf g L s ts ws (n+1) 0:=
 {h with
  YN:=λj b f=>by
   rcases h.YN j b f with e|⟨p,q,m,h1,h2,l,u⟩
   .exact .NJ e
   .exact .NU (p,q,m,h1,h2,l,!6)
  VE:=λr q t a o d c i=>h.VE r q t a (!6) d c i}
def Bf.told(h:Bf g L s ts ws ts.β 0)(F:L.Nz):∀(w:LN)(m:Φ),w.β=m->(∀c∈w,c∈L)->∃(j:Φ)(b:LN),ts[j]?=δ (aR g L s w)/\ws[j]?=δ b/\AF L w b=η:=by
 intro w m;induction m generalizing w with
 |TF=>
  intro e _;rw[PL.mp e];show((0),[],h.t0,h.w0,uZ)
 |Si m u=>
  intro e hw;obtain⟨c,v,ζ⟩:∃c v,w=v++[c]:=(w.Wl (by intro z;rw[z]at e;cases e),w.RR,(γ.PP _).MQ);let y:∀x∈v,x∈L:=λx d=>hw x (by simp[d]);let l:c∈L:=hw c (!1);let⟨r,a,i,t,E⟩:=u v (by simpa using e) y;let A:=(q5 i).1;let f:L.M3 c<L.β:=M8 l;let⟨j,b,q,p,o⟩:=h.VE r (L.M3 c) _ a (.NJ A) f i t;let D:L.ML (L.M3 c) 0=c:=by rw[u6,n_ f];show O_ f
  rw[D]at o;let⟨C,_⟩:=h.lead r _ a i t;refine(j,b,by rw[JX];show q,p,3);let⟨B,_⟩:=h.lead j _ b q p;refine g9 (b:=a++[c]) B (λx d=>?_) o (jH c E);rcases Nd.mp d with d|d
  .exact C x d
  .rw [Ay d];show l
abbrev BU(U ts:γ κ):Φ:=U.Zl λx=>!decide (x∈ts)
def eX{U ts:γ κ}{x:κ}(b:x∈U)(a:x∉ts):BU U (ts++[x])<BU U ts:=by
 refine JT (λz hz h=>?_) (x,b,3,3)
 .simp only[RC,Y7]at h⊢;show λq=>h (RO _ q)
 .simp only[RC,Y7];show a
 .simp only[MZ.not_eq_false',Sc];show Nq _ (R_.Ot ζ)
end
end RA
namespace L2
open PySem.Spec PyProof.Rows
abbrev Dy(J:It)(a:υ)(o:HO)(xs:γ V):Prop:=∀H2:Hp,H2 a<*o->(∀i,i<xs.β->J.go i H2)/\(∀i x H3,i<xs.β->J.X_ i H2 x H3->H3=H2/\xs[i]?<*x)/\J.Sx xs.β H2
def wT{K:Nn}:Dy (G8 K a) a (.M7 xs) xs:=λf e=>
 (λi h=>(xs,xs[i],o5.of e,n_ h),λi x d _ b=>by let⟨c,h⟩:=b;show(c,h xs (o5.of e)),(xs,o5.of e,LE _))
def wS{K:Nn}:Dy (G9 K a) a (.No xs) xs:=λf e=>
 (λi h=>(xs,xs[i],u0.of e,n_ h),λi x d _ b=>by let⟨c,h⟩:=b;show(c,h xs (u0.of e)),(xs,u0.of e,LE _))
inductive JY(R:It->Hp->Prop)(x:V)(H1:Hp):Prop
 |mk (a o xs:_) (_:x=.ref a) (_:(o=.lst xs\/o=.tup xs)) (_:H1 a<*o) (_:∀J,Dy J a o xs->R J H1)
abbrev JZ(tl:TE):TI:=λσ H R=>tl σ H (JY R)
def Dz(z:PE X l r):PI X B l (JZ r):=by
 intro f s n H R I h;refine ri (z f s n H _ I h) λv c j=>?_;let⟨x,k,g,u,w⟩:=j;let⟨a,o,xs,e,y,m,q⟩:=w;subst e;cases u;let d:∀b∈[c⁻¹],be X f k b:=λb A=>by
  let e:b=c⁻¹:=by simpa using A
  subst e;show g.Yw (LE _) (g.Og.OG (LE _))
 rcases y with ζ|rfl
 .obtain ⟨i,t,p,hz⟩:=g.Qx (o5.of m);refine RW p.QW ?_;show(c⁻¹,[c⁻¹],7,k,1,g.SW (t':=c.MW) λb o e=>sy _ e,d9 a _,(_,MV _ ζ,5),d,q _ wT)
 .obtain ⟨i,t,p,hz⟩:=g.P_ (u0.of m);refine Q_ (show c.π.O1 a i.χ from p) ?_;show(c⁻¹,[c⁻¹],7,k,1,g.SW (t':=c.MW) λb o e=>sy _ e,Lc a _,(_,MV _ ζ,5),d,q _ wS)
def jA{g:TG}{k:TS}{D:XR}(u:Dy J a o xs)(d:Φ->St->Hp->Prop)(h0:d 0 b H)(w:∀i b H,d i b H->H a<*o)(v:∀i x b H,xs[i]?<*x->d i b H->g x b H λf j=>k {D with nx:=d (i+1),ct:=d (i+1),bk:=D.nx} f j)(A:∀b H,d xs.β b H->D.nx b H):∃W:Φ->Φ->St->Hp->Prop,(∃m,W 0 m b H)/\∀i m b H,W i m b H->
   (J.Sx i H/\D.nx b H)\/(J.go i H/\∃N:St->Hp->Prop,(∀h H',N h H'->∃l,l<m/\W (i+1) l h H')/\∀x H',J.X_ i H x H'->g x b H' λf j=>k {D with nx:=N,ct:=N,bk:=D.nx} f j):=by
 refine(λi m b H=>m=xs.β-i/\i≤xs.β/\d i b H,(xs.β,!1,Nf _,h0),3);rintro i m b H⟨rfl,z,p⟩;let⟨s,r,q⟩:=u H (w i b H p);by_cases c:i<xs.β
 .refine .NU (s i c,d (i+1),λh H' t=>(xs.β-(i+1),Pi _ _ c,1,c,t),λx H' y=>?_);let⟨e,n⟩:=r i x H' c y;subst e;show v i x b _ n p
 .let e:i=xs.β:=Rh z (OS c);subst e;show .NJ (q,A b H p)
def J0{u:TT}{v:TE}{q:St}{Q:VK}(C:Dy J a o xs)(M:H a<*o)(l:υ->Φ->γ V->Hp->Prop)(hz:xs.β≤Λ)(h0:∀D,H D=ε->l D 0 [] (MT H D (.M7 [])))(F:∀(D:υ)(i:Φ)(x:V)(ys:γ V)(H':Hp)(w:VK)(R2:Hp->Prop),H D=ε->xs[i]?<*x->a' H H'->H' D<*.M7 ys->l D i ys H'->
   (∀y h,h D<*.M7 ys->a' H (MT h D (.M7 (ys++[y])))->l D (i+1) (ys++[y]) (MT h D (.M7 (ys++[y])))->w y h)->(∀g,a' H g->g D<*.M7 ys->l D (i+1) ys g->R2 g)->
   u (δ x::q) H' λb g=>if b=ξ then v (δ x::q) g w else R2 g)(I:∀D ys H',H D=ε->a' H H'->H' D<*.M7 ys->l D xs.β ys H'->Q (.ο D) H'):∀D,H D=ε->∃W:Φ->Φ->γ V->Hp->Prop,
 (∃m,W 0 m [] (MT H D (.M7 [])))/\∀i m ys f,W i m ys f->f D=δ (.M7 ys)/\((J.Sx i f/\Q (.ο D) f)\/(J.go i f/\ys.β<Λ/\∀x p,J.X_ i f x p->
  u (δ x::q) p λb g=>if b=ξ then v (δ x::q) g λy h=>h D=δ (.M7 ys)/\∃n,n<m/\W (i+1) n (ys++[y]) (MT h D (.M7 (ys++[y])))
   else ∃n,n<m/\W (i+1) n ys g)):=by
 intro D r;refine(λi m ys f=>m=xs.β-i/\i≤xs.β/\ys.β≤i/\a' H f/\f D=δ (.M7 ys)/\l D i ys f,(xs.β,!1,Nf _,!1,a'.MT r,j_,h0 D r),3);rintro i m ys f⟨rfl,L,t,j,k,hp⟩;refine(k,3);let⟨B,A,z⟩:=C f (j _ _ M);by_cases d:i<xs.β
 .refine .NU (B i d,Nm t (Ψ d hz),λx p s=>?_);let⟨e,E⟩:=A i x p d s;subst e;show F D i x ys p _ _ r E j k hp (λy h a b c=>(a,xs.β-(i+1),Pi _ _ d,1,d,by rw[w_];show QH t,b,j_,c)) (λg a b c=>(xs.β-(i+1),Pi _ _ d,1,d,Φ.V8 t,a,b,c))
 .let e:i=xs.β:=Rh L (OS d);subst e;show .NJ (z,I D ys f r j k hp)
abbrev mF(K:Nn)(J:It)(te:TE)(σ:St)(H1:Hp)(Q:VK):Prop:=∀D,H1 D=ε->∃W:Φ->Φ->γ V->Hp->Prop,
 (∃m,W 0 m [] (MT H1 D (.M7 [])))/\∀i m ys H2,W i m ys H2->H2 D=δ (.M7 ys)/\((J.Sx i H2/\Q (.ο D) H2)\/(J.go i H2/\ys.β<Λ/\∀x H3,J.X_ i H2 x H3->
  ∃p a b,x=.ο p/\u0 K H3 p [a,b]/\te (δ a::δ b::σ) H3 λy H5=>H5 D=δ (.M7 ys)/\∃m',m'<m/\W (i+1) m' (ys++[y]) (MT H5 D (.M7 (ys++[y])))))
def J1{K:Nn}{s:St}(v:Φ->V->V->Prop)(j:υ->Φ->γ V->Hp->Prop)(hz:n≤Λ)(B:∀i c,a' H c->i<n->J.go i c)(A:∀i c x h,a' H c->i<n->J.X_ i c x h->∃p a b,x=.ο p/\v i a b/\c p=ε/\h=MT c p (.No [a,b]))(z:∀c,a' H c->J.Sx n c)(h0:∀D,H D=ε->j D 0 [] (MT H D (.M7 [])))(C:∀(D:υ)(i:Φ)(a b:V)(ys:γ V)(H' h:Hp)(u:VK),H D=ε->i<n->v i a b->a' H H'->H' D<*.M7 ys->j D i ys H'->a' H' h->
   (∀y k,k D<*.M7 ys->a' H (MT k D (.M7 (ys++[y])))->j D (i+1) (ys++[y]) (MT k D (.M7 (ys++[y])))->u y k)->w (δ a::δ b::s) h u)(E:∀D ys H',H D=ε->a' H H'->H' D<*.M7 ys->j D n ys H'->Q (.ο D) H'):mF K J w s H Q:=by
 intro D l;refine(λi m ys c=>m=n-i/\i≤n/\ys.β≤i/\a' H c/\c D=δ (.M7 ys)/\j D i ys c,(n,!1,Nf _,!1,a'.MT l,j_,h0 D l),3);rintro i m ys c⟨rfl,F,t,f,g,hp⟩;refine(g,3);by_cases d:i<n
 .refine .NU (B i c f d,Nm t (Ψ d hz),λx h o=>?_);let⟨p,a,b,ζ,r,q,ζ⟩:=A i c x h f d o;refine(p,a,b,1,u0.of j_,C D i a b ys c _ _ l d r f g hp (a'.MT q) λy k M L I=>(M,n-(i+1),Pi _ _ d,1,d,by rw[w_];show QH t,L,j_,I))
 .let e:i=n:=Rh F (OS d);subst e;show .NJ (z c f,E D ys c l f g hp)
def mi{K:Nn}{k:St}(j:H c<*.No xs)(d:υ->Φ->γ V->Hp->Prop)(hz:xs.β≤Λ)(h0:∀D,H D=ε->d D 0 [] (MT H D (.M7 [])))(q:∀(D:υ)(i:Φ)(x:V)(ys:γ V)(H' e:Hp)(f:VK),H D=ε->xs[i]?<*x->a' H H'->H' D<*.M7 ys->d D i ys H'->a' H' e->
   (∀y g,g D<*.M7 ys->a' H (MT g D (.M7 (ys++[y])))->d D (i+1) (ys++[y]) (MT g D (.M7 (ys++[y])))->f y g)->o (δ (.MS (i:MN))::δ x::k) e f)(r:∀D ys H',H D=ε->a' H H'->H' D<*.M7 ys->d D xs.β ys H'->Q (.ο D) H'):mF K (vv c) o k H Q:=by
 refine J1 (n:=xs.β) (λi a b=>a=.MS (i:MN)/\xs[i]?<*b) d hz (λi m s h=>(xs,xs[i],s _ _ j,n_ h)) ?_ (λm s=>(xs,s _ _ j,1)) h0 ?_ r
 .rintro i m x e s h⟨p,y,zs,l,A,z,w,v⟩;rw[s _ _ j]at l;cases l;show(p,_,y,z,(1,A),w,v)
 .rintro D i a b ys H' e f u J⟨rfl,t⟩I F E C B;show q D i b ys H' e f u t I F E C B
def Fx(K:Nn)(a:(X.K=K)>>>4):CT X (qD K):=by
 subst a;show bW
def Hj(K:Nn)(a:(X.K=K)>>>4):CT X (kY K):=by
 subst a;show dh
def pC{X:Cx}(P:NE)(w:N1)(a:X.A.Pa+64<Qn)(b:(X.Ξ=P)>>>4)(hw:(X.w=w)>>>4):CT X (yL P w):=by
 subst b hw;show rS a
def qV:Dy (IZ a ys.β) a (.M7 ys) ys.Ng:=λj e=>by
 refine(λi h=>(ys,e,1,by simpa using h),λi x g c h=>?_,3)
 .obtain ⟨f,xs,b,d⟩:=h;rw[e]at b;cases b;refine(f,3);rw[γ.getElem?_reverse (by simpa using c)];show d
 .change ys.Ng.β=ys.β;rw[QV]
def fG{xs:γ V}(h:t≤xs.β):AL xs ε (δ (t:MN))=xs.OE t:=by
 unfold AL;rw[HT.CS,HT.DP,γ.drop_zero,Φ.sub_zero,Φ.min_eq_left h]
end L2
namespace RA
open L2
inductive KS where
 |inl (b:Bool)
 |inr (k:NK)
instance:DecidableEq KS:=λa b=>match a,b with
 |.inl a,.inl b=>if h:a=b then isTrue (by rw[h])else isFalse λz=>h (KS.inl.inj z)
 |.inr a,.inr b=>if h:a=b then isTrue (by rw[h])else isFalse λz=>h (KS.inr.inj z)
 |.inl _,.inr _=>isFalse λz=>by cases z
 |.inr _,.inl _=>isFalse λz=>by cases z
abbrev Ja:KS->MZ
 |.NJ _=>η
 |.NU _=>ξ
abbrev j6(H:Hp):KS->V->Prop
 |.NJ b,x=>x=.bl b
 |.NU k,x=>∃p,x=.ο p/\Fu H k p
def AV(s:∀b xs,H b<*.No xs->H' b<*.No xs)(h:Fu H k a):Fu H' k a:=by
 let⟨b,d,c⟩:=h;show(b,s _ _ d,s _ _ c)
def j6.SX(s:∀b xs,H b<*.No xs->H' b<*.No xs)(h:j6 H k x):j6 H' k x:=by
 cases k with
 |NJ b=>show h
 |NU k=>
  let⟨p,e,h⟩:=h;show(p,e,AV s h)
def HY{g f:Type}[Qz f](b:g->f)(c:g->V)(k:f):∀(NS:γ g)(n:Φ),(∀i x,NS[i]?<*x->c x=.MS ((n+i:Φ):MN))->
  (NS.find? λx=>decide (b x=k)).NN c=if k∈NS.NN b then δ (.MS ((n+(NS.NN b).M3 k:Φ):MN))else ε
 |[],n,_=>by simp
 |a::NS,n,h=>by
  by_cases e:b a=k
  .let h0:=h 0 a ζ;rw[Id (by simp[e])];subst e;simp[Qj,h0]
  .let j:=HY b c k NS (n+1) λi x l=>by
    have:=h (i+1) x (by simpa using l);rw[this];congr 2;lia
   let m:(NS.NN b).M3 k+1=((a::NS).NN b).M3 k:=by
    rw[Qr,Uz,ND.Ot e];rfl
   rw[Qj,M5 e];change (NS.find? λx=>decide (b x=k)).NN c=_;rw[j];by_cases d:k∈NS.NN b
   .rw [Id d,Id (by rw[Qr];show M4 _ d),<-m];congr 3;lia
   .rw [BT d,BT (by rw[Qr,MP];rintro(z|z);show e z.MQ;show d z)]
abbrev x_(P:NE)(w:N1)(H:Hp)(d:υ)(TZ:MZ)(ks:γ KS):Prop:=
 (TZ=η/\∃NS:γ (MZ×V),H d=δ (B4 (EW P w) d NS)/\(NS.NN λx=>(KS.NJ x.1:KS))=zg ks/\∀(i:Φ)(x:MZ×V),NS[i]?<*x->x.2=V.MS (i:MN)) \/
 (TZ=ξ/\∃NS:γ (NK×υ×V),H d=δ (Bx (Ex P w) d NS)/\(∀x∈NS,Fu H x.1 x.2.1)/\(NS.NN λx=>(KS.NU x.1:KS))=zg ks/\∀(i:Φ)(x:NK×υ×V),NS[i]?<*x->x.2.2=V.MS (i:MN))
section
variable{P:Program}{w:World}{H:Hp}{d:Addr}{nest:Bool}{ks:List KS}
abbrev gN(ks:γ KS)(k:KS):ω V:=if k∈zg ks then δ (.MS ((zg ks).M3 k:Φ))else ε
def x_.VI(h:x_ P w H d TZ ks)(j:j6 H k x)(g:Ja k=TZ):vA P w H d x (gN ks k):=by
 rcases h with⟨rfl,NS,e,f,c⟩|⟨rfl,NS,e,l,f,c⟩
 .cases k with
  |NU k=>cases g
  |NJ b=>
   refine .NJ (NS,b,e,j,3);have:=HY (λx:MZ×V=>(KS.NJ x.1:KS)) (·.2) (KS.NJ b) NS 0 (λi x a=>by rw[c i x a,Φ.QA]);rw[f]at this;unfold gN aF;rw[Φ.QA]at this;rw[<-this];congr 2;funext x;show Ui.Ot (λz=>KS.NJ.QK z,λz=>by rw[z])
 .cases k with
  |NJ k=>cases g
  |NU b=>
   let⟨p,n,m⟩:=j;refine .NU (.NJ (NS,b,p,e,l,n,m,3));have:=HY (λx:NK×υ×V=>(KS.NU x.1:KS)) (·.2.2) (KS.NU b) NS 0 (λi x a=>by rw[c i x a,Φ.QA]);rw[f]at this;unfold gN aE;rw[Φ.QA]at this;rw[<-this];congr 2;funext x;show Ui.Ot (λz=>KS.NU.QK z,λz=>by rw[z])
def x_.PQ(h:x_ P w H d TZ ks):zF P w H d (zg ks).β:=by
 rcases h with⟨_,NS,e,a,_⟩|⟨_,NS,e,_,a,_⟩
 .exact .NJ (NS,e,by rw[<-a,ol])
 .exact .NU (NS,e,by rw[<-a,ol])
def x_.OR(h:x_ P w H d TZ ks)(a:k∈zg ks):x_ P w H d TZ (ks++[k]):=by
 unfold x_ at h⊢;rw[AU,Id a];show h
def x_.Pk(h:x_ P w H d TZ ks)(s:a' H H'):x_ P w H' d TZ ks:=by
 rcases h with⟨a,NS,e,c⟩|⟨a,NS,e,g,c⟩
 .exact .NJ (a,NS,s _ _ e,c)
 .exact .NU (a,NS,s _ _ e,λx f=>AV (λb xs z=>s _ _ z) (g x f),c)
def x_.QT(h:x_ P w H d TZ ks)(e:H'=MT H d c):∀b xs,H b<*.No xs->H' b<*.No xs:=λb xs z=>by
 rw[e,a_ (λq=>?_)]
 .exact z
 .subst q;rcases h with⟨_,NS,a,_⟩|⟨_,NS,a,_⟩
  .rw [a]at z;cases z
  .rw [a]at z;cases z
def rj(h:¬ j<n)(h2:j-n<1):j=n:=by lia
def x_.put(h:x_ P w H d TZ ks)(u:j6 H k x)(t:Ja k=TZ)(c:k∉zg ks)(A:(zg ks).β<Λ):∃v,zE P w H d x (.MS ((zg ks).β:Φ)) (MT H d v)/\x_ P w (MT H d v) d TZ (ks++[k]):=by
 let l:gN ks k=ε:=BT c;let q:=h.VI u t;rw[l]at q;let h0:=h;rcases h with⟨rfl,NS,e,m,o⟩|⟨rfl,NS,e,B,m,o⟩
 .cases k with
  |NU k=>cases t
  |NJ b=>
   let f:(zg ks).β=NS.β:=by rw[<-m,ol]
   let g:aF NS b=ε:=by
    have:=HY (λx:MZ×V=>(KS.NJ x.1:KS)) (·.2) (KS.NJ b) NS 0 (λi x s=>by rw[o i x s,Φ.QA]);rw[m,BT c]at this;unfold aF;rw[<-this];congr 2;funext x;show Ui.Ot (λz=>by rw[z],λz=>KS.NJ.QK z)
   refine(_,.NJ (NS,b,e,u,g,by rw[<-f];show A,1),.NJ (1,NS++[(b,.MS ((zg ks).β:Φ),)],j_,3,λi y a=>?_))
   .rw [AU,BT c,Nw,m];rfl
   .by_cases n:i<NS.β
    .rw [M0 n]at a;show o i y a
    .rw [MY (OS n)]at a;let r:=rj n (q5 a).1;rw[r,VS]at a;cases a;change V.MS ((zg ks).β:Φ)=_;rw[f,r]
 .cases k with
  |NJ k=>cases t
  |NU b=>
   let f:(zg ks).β=NS.β:=by rw[<-m,ol]
   let⟨p,D,C⟩:=u;let g:aE NS b=ε:=by
    have:=HY (λx:NK×υ×V=>(KS.NU x.1:KS)) (·.2.2) (KS.NU b) NS 0 (λi x s=>by rw[o i x s,Φ.QA]);rw[m,BT c]at this;unfold aE;rw[<-this];congr 2;funext x;show Ui.Ot (λz=>by rw[z],λz=>KS.NU.QK z)
   let j:=h0.QT (H':=MT H d (Bx (Ex P w) d (NS++[(b,p,.MS ((zg ks).β:Φ),)]))) ζ;refine(_,.NU (.NJ (NS,b,p,e,B,D,C,g,by rw[<-f];show A,1)),.NU (1,NS++[(b,p,.MS ((zg ks).β:Φ),)],j_,λy a=>?_,3,λi y a=>?_))
   .rcases Nd.mp a with a|a
    .exact AV j (B y a)
    .rw [Ay a];show AV j C
   .rw [AU,BT c,Nw,m];rfl
   .by_cases n:i<NS.β
    .rw [M0 n]at a;show o i y a
    .rw [MY (OS n)]at a;let r:=rj n (q5 a).1;rw[r,VS]at a;cases a;change V.MS ((zg ks).β:Φ)=_;rw[f,r]
def x_.X0(P:NE)(w:N1)(H:Hp)(p:υ)(TZ:MZ):x_ P w (MT H p (uE P w p (if TZ=ξ then .TZ else .bl))) p TZ []:=by
 cases TZ with
 |η=>show .NJ (1,[],j_,1,λi x h=>by simp at h)
 |ξ=>show .NU (1,[],j_,λx h=>by simp at h,1,λi x h=>by simp at h)
end
def rn(bs:γ MZ):ay (bs.NN λb=>(KS.NJ b:KS))=ay bs:=IV (by rw[ol]) λi j a b f e h1 h2 d c=>by
 rw[tS,d]at h1;rw[tS,c]at h2;cases h1;cases h2;show(λz=>KS.NJ.QK z,λz=>by rw[z])
def rk(bs:γ NK):ay (bs.NN λb=>(KS.NU b:KS))=ay bs:=IV (by rw[ol]) λi j a b f e h1 h2 d c=>by
 rw[tS,d]at h1;rw[tS,c]at h2;cases h1;cases h2;show(λz=>KS.NU.QK z,λz=>by rw[z])
def ik{a b x:Φ}(h:a=b)(c:x<b):x<a:=Φ.lt_of_lt_of_eq c h.MQ
def zv(h:i<j+1)(n:¬ i=j):i<j:=Φ.lt_of_le_of_ne (Φ.V9 h) n
def td{n:Φ}(h:n≤2100):-(2^62)≤(n:MN)/\(n:MN)<2^62:=by lia
def sZ{r:MN}{n:Φ}(h0:0≤r)(h1:r<n):r.Ou<n:=(MN.toNat_lt h0).Ot h1
def vN(h:¬ j<n)(h2:j-n<1):j=n:=by lia
def vo{n:Φ}(h:1≤n):(0:MN)<(n:MN):=MN.YO.Ot h
def vm(h:i<t):t-1-i<t:=by omega
def xG(h:i<t):∃u,t-i=u+1/\t-1-i=u/\t-(i+1)=u:=(t-i-1,!6,!6,!6)
def zu(h1:w=i)(h2:i<t)(b:t<k+1)(a:k≤4410000):w+1≤16777216:=by lia
def J2(h:k≤4410000):k+1<Λ:=by
 have:16777216≤Λ:=sT (!0);lia
def vn(z:MN)(b m:Φ)(a:0<m):∃n:Φ,(n:MN)=(b:MN)+z%(m:MN)/\b≤n/\n<b+m:=by
 let h0:=MN.Xa z (show(m:MN)≠0 by lia);let h1:=MN.YZ z (show(0:MN)<(m:MN) by lia);show(b+(z%(m:MN)).Ou,!6,!6,!6)
def xH(h:l+i=26)(a:i≤3):1≤l/\l≤26:=by lia
def zw{n:Φ}(h:n≤26):(n:MN)<1073741824:=by lia
def xF(h1:a≤n)(h2:b≤n)(c:n≤26):a+b≤16777216:=by lia
def vk{x:MN}(h:0≤x):(x+1).Ou=x.Ou+1:=by lia
def vp(h:k<l)(a:l+i=26):min k l+(l-(k+1))+(i+1)=26:=by lia
def HZ(ws:LN):c_ ws=(zs ws).NN V.MS:=by
 unfold c_ zs;rw[γ.map_map];rfl
def fY(ws:LN):(zs ws).β=ws.β:=by simp[zs]
def f_(ws:LN):(c_ ws).β=ws.β:=by simp[c_]
def CY(h:i<ws.β):(c_ ws)[i]?<*.MS ((ws.ML i 0:Φ):MN):=by
 unfold c_;rw[tS,u6,n_ h];rfl
def DW{ns:LN}(h:r<ns.β):AN (c_ ns) (r:MN)<*.MS ((ns.ML r 0:Φ):MN):=AG (CY h)
def DX{a:Type}{l:γ a}{x:a}(h:l[i]?<*x):l.OE (i+1)=l.OE i++[x]:=by
 rw[Ti,h];rfl
def b7{a b:Φ}:decide (V.MS (a:MN)=V.MS (b:MN))=decide (a=b):=by
 by_cases h:a=b
 .subst h;simp
 .have:¬ V.MS (a:MN)=V.MS (b:MN):=λz=>h (by injection z with z;show MN.ofNat.QK z);rw[M5 h,M5 this]
abbrev GK(H:Hp)(W8:γ υ)(W:LL)(B:γ MZ):Prop:=∀(i:Φ)(r:υ),W8[i]?<*r->H r<*.M7 (c_ (Rd W B i))
def GK.OR(h:GK H a W B)(s:a' H H'):GK H' a W B:=λi r e=>s _ _ (h i r e)
def jD(g:j<n)(k:f j=η):η∈(γ.N4 n).NN f/\((γ.N4 n).NN f).M3 η<n/\f (((γ.N4 n).NN f).M3 η)=η/\∀i<((γ.N4 n).NN f).M3 η,f i=ξ:=by
 let VI:∀i,i<n->((γ.N4 n).NN f)[i]?<*f i:=λi d=>by rw[tS,O' d];rfl
 let c:η∈(γ.N4 n).NN f:=PH.Ot (j,Np.Ot g,k);let b:=M8 c;let a:((γ.N4 n).NN f).M3 η<n:=by simpa using b
 refine(c,a,3,λi d=>?_)
 .let e:=VI _ a;rw[n_ b,O_ b]at e;show(ω.δ.QK e).MQ
 .let e:=VI i (!2);cases h:f i with
  |ξ=>rfl
  |η=>
   rw[h]at e;have:=Hd e;lia
def zl.Vx(d:a.β=W.β)(h:dL H a W)(c:r<W.β):∃b,a[r]?=δ b/\H b<*.No (c_ (W.ML r [])):=by
 let e:a[r]?<*(a[r]'(!6)):=n_ _;let⟨ws,h1,h2⟩:=h r _ e;refine(_,e,3);rw[h2,u6,h1];rfl
def GL(s:a' H H')(h:H' p=ε):H p=ε:=by
 cases e:H p with
 |ε=>rfl
 |δ o=>rw[s _ _ e]at h;cases h
def mh{u:TT}{v:TE}{p:St}{Q:VK}(k:υ->Φ->γ V->Hp->Prop)(hz:n≤Λ)(h0:∀D,H D=ε->k D 0 [] (L2.MT H D (.M7 [])))(A:∀(D:υ)(i:Φ)(ys:γ V)(H':Hp)(w:VK)(R2:Hp->Prop),H D=ε->i<n->a' H H'->H' D<*.M7 ys->k D i ys H'->
   (∀y h,h D<*.M7 ys->a' H (L2.MT h D (.M7 (ys++[y])))->k D (i+1) (ys++[y]) (L2.MT h D (.M7 (ys++[y])))->w y h)->(∀g,a' H g->g D<*.M7 ys->k D (i+1) ys g->R2 g)->
   u (δ (.MS (lo+(i:MN)))::p) H' λb g=>if b=ξ then v (δ (.MS (lo+(i:MN)))::p) g w else R2 g)(B:∀D ys H',H D=ε->a' H H'->H' D<*.M7 ys->k D n ys H'->Q (.ο D) H'):∀D,H D=ε->∃W:Φ->Φ->γ V->Hp->Prop,
 (∃m,W 0 m [] (L2.MT H D (.M7 [])))/\∀i m ys f,W i m ys f->f D=δ (.M7 ys)/\(((Fn lo n).Sx i f/\Q (.ο D) f)\/((Fn lo n).go i f/\ys.β<Λ/\∀x r,(Fn lo n).X_ i f x r->
  u (δ x::p) r λb g=>if b=ξ then v (δ x::p) g λy h=>h D=δ (.M7 ys)/\∃l,l<m/\W (i+1) l (ys++[y]) (L2.MT h D (.M7 (ys++[y])))
   else ∃l,l<m/\W (i+1) l ys g)):=by
 intro D q;refine(λi m ys f=>m=n-i/\i≤n/\ys.β≤i/\a' H f/\f D=δ (.M7 ys)/\k D i ys f,(n,!1,Nf _,!1,a'.MT q,j_,h0 D q),3);rintro i m ys f⟨rfl,C,t,o,j,hp⟩;refine(j,3);by_cases d:i<n
 .refine .NU (d,Nm t (Ψ d hz),λx r s=>?_);let⟨e,z⟩:=s;subst e z;show A D i ys r _ _ q d o j hp (λy h a b c=>(a,n-(i+1),Pi _ _ d,1,d,by rw[w_];show QH t,b,j_,c)) (λg a b c=>(n-(i+1),Pi _ _ d,1,d,Φ.V8 t,a,b,c))
 .let e:i=n:=Rh C (OS d);subst e;show .NJ (LE _,B D ys f q o j hp)
def Jb{a:γ υ}(c:a.β=k+1)(h:a[k]?<*b):AN (a.NN V.ο) (-1)<*.ο b:=by
 let e:a=a.OE k++[b]:=by rw[<-DX h,N9 (!6)]
 rw[e,Nw];show IR _ _
def c9{ws:LN}(h:j<ws.β):(ws.NN f).ML j 0=f (ws.ML j 0):=by
 rw[u6,u6,tS,n_ h];rfl
def GM{ws:LN}(h:j<ws.β):ws.ML j 0∈ws:=by
 rw[u6,n_ h];show Nv h
def nc{H:Hp}(h1:H r<*.M7 (c_ ns))(h2:H p<*.M7 (ls.NN V.ο))(c:ls≠[]):r≠p:=by
 rintro ζ;rw[h1]at h2;injection h2 with h2;injection h2 with h2;cases ls with
 |Ow=>show c ζ
 |NZ a l=>
  cases ns with
  |Ow=>cases h2
  |NZ n ns=>
   rw[Qr,c_,Qr]at h2;injection h2 with b _;cases b
section
variable{K:Frag}{te:TE}{tt:TT}{σ:St}{H:Hp}{Q:VK}{a c d:Addr}{o:HO}{xs zs:List V}
def EZ(h:∀R:VK,R (.ο a) H->l σ H R)(q:o=.M7 xs\/o=.No xs)(j:H a<*o)(f:υ->Φ->γ V->Hp->Prop)(hz:xs.β≤Λ)(h0:∀D,H D=ε->f D 0 [] (L2.MT H D (.M7 [])))(n:∀(D:υ)(i:Φ)(x:V)(ys:γ V)(H':Hp)(k:VK)(R2:Hp->Prop),H D=ε->xs[i]?<*x->a' H H'->H' D<*.M7 ys->f D i ys H'->
   (∀y g,g D<*.M7 ys->a' H (L2.MT g D (.M7 (ys++[y])))->f D (i+1) (ys++[y]) (L2.MT g D (.M7 (ys++[y])))->k y g)->(∀e,a' H e->e D<*.M7 ys->f D (i+1) ys e->R2 e)->
   tt (δ x::σ) H' λb e=>if b=ξ then te (δ x::σ) e k else R2 e)(p:∀D ys H',H D=ε->a' H H'->H' D<*.M7 ys->f D xs.β ys H'->Q (.ο D) H'):FI (JZ l) tt te σ H Q:=
 h _ (a,o,xs,1,q,j,λJ m=>J0 m j f hz h0 n p)
def Jc{n:Φ}(j:∀R:γ V->Hp->Prop,R [.MS (n:MN)] H->t σ H R)(m:n≤2100)(f:υ->Φ->γ V->Hp->Prop)(h0:∀D,H D=ε->f D 0 [] (L2.MT H D (.M7 [])))(k:∀(D:υ)(i:Φ)(ys:γ V)(H':Hp)(h:VK)(R2:Hp->Prop),H D=ε->i<n->a' H H'->H' D<*.M7 ys->f D i ys H'->
   (∀y g,g D<*.M7 ys->a' H (L2.MT g D (.M7 (ys++[y])))->f D (i+1) (ys++[y]) (L2.MT g D (.M7 (ys++[y])))->h y g)->(∀e,a' H e->e D<*.M7 ys->f D (i+1) ys e->R2 e)->
   tt (δ (.MS (0+(i:MN)))::σ) H' λb e=>if b=ξ then te (δ (.MS (0+(i:MN)))::σ) e h else R2 e)(l:∀D ys H',H D=ε->a' H H'->H' D<*.M7 ys->f D n ys H'->Q (.ο D) H'):FI (vK t) tt te σ H Q:=
 j _ ((n:MN),1,!6,!6,mh (n:=n) f (sT (!2)) h0 k l)
end
def CZ(L:LN)(W:LL)(r c:Φ)(u:LN):PM L W r (c::u)=PM L W (Bw L W r c) u:=ζ
section
variable{P:Program}{w:World}{H:Hp}{d q:Addr}{ps:List (Nat×Nat)}
end
def H_{B:γ MZ}(h:r<B.β):AN (B.NN V.bl) ((r:Φ):MN)<*.bl (B.ML r η):=Ea V.bl (by rw[u6,n_ h];rfl)
def J3{b:Type}{l:γ b}(h:l.β=1):∃a,l=[a]:=match l,h with|[a],_=>(a,1)
def J4{c:Type}{l:γ c}(h:l.β=2):∃a b,l=[a,b]:=match l,h with|[a,b],_=>(a,b,1)
def y0{d:Type}{l:γ d}(h:l.β=3):∃a b c,l=[a,b,c]:=match l,h with|[a,b,c],_=>(a,b,c,1)
def yZ{e:Type}{l:γ e}(h:l.β=4):∃a b c d,l=[a,b,c,d]:=match l,h with|[a,b,c,d],_=>(a,b,c,d,1)
end RA
namespace L2
open PySem.Spec PyProof.Rows
structure C0(N ps fr:List Str)(sc:Scope):Prop where
 kind:sc.kind=.function
 co:sc.isCoroutine=false
 gen:sc.isGenerator=false
 nd:N.Nodup
 pre:N.take ps.length=ps
 suf:N.drop (N.length-fr.length)=fr
 fit:ps.length+fr.length≤N.length
 par:∀x∈ps,sc.names.lookup x<*.local
 nocell:∀y∈sc.names,y.2≠.cell
structure A2(h:Heap)(clos:List (Str×Addr))(sc:Scope)(fr:List Str)(fvs:List V):Prop where
 inj:∀y z c,clos.lookup y<*c->clos.lookup z<*c->y=z
 has:∀y∈sc.names,y.2=.free->∃c,clos.lookup y.1<*c
 cell:∀y c,clos.lookup y<*c->∃v,h.IsCell c v
 len:fvs.length=fr.length
 val:∀(i:Nat)(y:Str)(v:V),fr[i]?<*y->fvs[i]?<*v->(sc.names.lookup y<*.free)/\∃c u,clos.lookup y=some c/\h.IsCell c (some u)/\ae v u
abbrev bB(CX:CXT)(P:NE)(w:N1)(K:Nn)(mg:NB->ω θ)(ς:NR)(N:γ NB)(M6:NB)(NG:RZ)(f:υ)(cd:θ)(OW:γ (NB×υ))(A:N2)(Fr:γ WH)(s:MJ)(H:Hp)(E:XK):Cx where
 Ξ:=P
 w:=w
 K:=K
 mg:=mg
 ς:=ς
 A:=A.RH (envX M6 NG s⁻¹ f cd OW)
 N:=N
 RN:=s
 XQ:=H
 KK:=envX M6 NG s⁻¹ f cd OW
 Fr:=Fr
 NC:=envX M6 NG s⁻¹ f cd OW::Fr
 ex:=[]
 T9:=ξ
 fn:=λ_=>η
 pn:=[]
 xe:=λe s'=>Ω (Cl P w) (A.RH (envX M6 NG s⁻¹ f cd OW)) (SE (envX M6 NG s⁻¹ f cd OW) e) (λ_ s''=>CX Fr H s E e s'') (λe' s''=>CX Fr H s E e' s'') s'
abbrev DA(N:γ NB)(vs UY:γ V):St:=vs.NN δ++(W5 (N.β-vs.β-UY.β) ε++UY.NN δ)
def ue:∀{ps:γ NB}{us:γ θ}{i:Φ},ps.Nz->ps[i]?<*x->us[i]?<*v->(ps.Th us).Ng.ρ x<*v:=by
 intro ps us i f h1 h2;let g:(x,v,)∈(ps.Th us).Ng:=by
  rw[VY];let hz:(ps.Th us)[i]?<*(x,v,):=by rw[Pu];show(h1,h2)
  show AC hz
 let b:∀a,(x,a,)∈(ps.Th us).Ng->a=v:=λa c=>by
  rw[VY]at c;let⟨j,d⟩:=NO.mp c;rw[Pu]at d;let e:j=i:=Bc f d.1 h1;subst e;have:=d.2;rw[h2]at this;show(ω.δ.QK this).MQ
 cases e:(ps.Th us).Ng.ρ x with
 |ε=>
  have:=γ.lookup_eq_none_iff.mp e _ g;simp at this
 |δ a=>rw[b a (Δ.OY e)]
section
variable{CX:CXT}{P:Program}{w:World}{K:Frag}{mg:Str->Option Value}{base:Heap}{N ps fr:List Str}{qual:Str}{scope:Scope}{f:Addr}{cd:Value}{clos:List (Str×Addr)}{A:Around}{outer:List Env}{s:Shared}{H:Hp}{E:XK}{us:List Value}{vs fvs:List V}
def Lw(S:C0 N ps fr NG)(C:A2 ς OW NG fr UY)(I:A.PR=ε)(d:bx P w K mg ς A Fr s H)(T:vs.β=ps.β)(r:ad vs us)(D:h'.Ns s⁻¹ (λx=>(ps.Th us).Ng.ρ x))(t:Pg s⁻¹ (s.π.Nh {OO:=.MO "frame",NL:=.Pz #[]}) h'):f' (bB CX P w K mg ς N M6 NG f cd OW A Fr s H E) [] (DA N vs UY) H {s with π:=h',MW:=Z}:=by
 let F:∀b o,s.π.ψ b<*o->h'.ψ b<*o:=λb o e=>t.S6 b o (M_ (lt_size e)) (sy _ e);let j:∀b:υ,b∉(bB CX P w K mg ς N M6 NG f cd OW A Fr s H E).ex:=λb z=>MM (show b∈([]:γ υ)from z) (!1);let g:∀c v,ς.Tf c v->h'.Tf c v:=λc v J=>by let⟨o,B,I⟩:=J;show(o,F c o (d.bs c o B).1,I)
 let Q:us.β=ps.β:=by rw[<-r.β];show T
 let L:=S.fit;let U:=C.PQ;refine((d.VX,S.RT,5,LE _,λy z c h1 h2=>C.QK y z c h1 h2,λy k=>?_,λy c h=>MM (show η=ξ from h) MZ.M',λ_=>I,N2.Yv d.Qc,.NU (1,1),λb z=>MM z (j b),d.bs,d.bsz,λb _ _=>j b,λb z=>MM z (j b),d.Vc,d.frf),
  rfl,d.R5,Un.SW F,(_,D,λi y v h1 h2 h3=>?_),λy c h=>?_,d.Og.OG (LE _),λy c h=>?_,λp hp=>MM (show p∈([]:γ (υ×Rp))from hp) (!1),d.Og.SW F,3)
 .let k:NG.MR.ρ y<*.OA\/NG.MR.ρ y<*.N6:=k;rcases k with k|k
  .exact MM ζ (S.nocell _ (Δ.OY k))
  .exact C.UU _ (Δ.OY k) ζ
 .let h1:N[i]?<*y:=h1;let hi:i<N.β:=(q5 h1).1;unfold DA at h2;by_cases m:i<vs.β
  .let X:vs[i]?<*v:=by
    rw[M0 (by simpa using m),tS]at h2;cases e:vs[i]? with
    |ε=>rw[e]at h2;cases h2
    |δ a=>rw[e]at h2;cases h2;rfl
   let⟨u,R,M⟩:=r.VI X;let hp:ps[i]?<*y:=by
    rw[<-S.pre,γ.V3 (!6)];show h1
   let n:ps.Nz:=by rw[<-S.pre];show S.nd.sublist (γ.take_sublist _ _)
   show(u,M,.NJ (S.YN y (AC hp),ue n hp R))
  .rw [MY (by simpa using m)]at h2;rw[ol]at h2;by_cases l:i-vs.β<N.β-vs.β-UY.β
   .rw [M0 (by simpa using l),γ.T6,Id l]at h2;cases h2
   .rw [MY (by simpa using l),PN,tS]at h2;let Y:i-vs.β-(N.β-vs.β-UY.β)=i-(N.β-fr.β):=by lia
    rw[Y]at h2;cases e:UY[i-(N.β-fr.β)]? with
    |ε=>rw[e]at h2;cases h2
    |δ a=>
     rw[e]at h2;cases h2;let W:fr[i-(N.β-fr.β)]?<*y:=by
      let q:(N.Py (N.β-fr.β))[i-(N.β-fr.β)]?<*y:=by
       rw[γ.V',show N.β-fr.β+(i-(N.β-fr.β))=i by omega];show h1
      rw[S.suf]at q;show q
     let⟨k1,c,u,k2,k3,O⟩:=C.Zz _ _ _ W e;show(u,O,.NU (.NU k1,c,k2,g c _ k3))
 .obtain ⟨v,z⟩:=C.OA y c h;show(v,g c v z)
 .obtain ⟨v,o,B,_⟩:=C.OA y c h;show(d.bs c o B).2
 .unfold DA;change _=N.β;simp only[w_,ol,PN];lia
def Gq(ho:ς.ψ f<*o)(hd:o.NL=.Qb (Δ.W.fnX OH M6 d g NG OW .ε .ε Pm pm ε (.ο j) U))(R:ς.N_ (.ο j) M6)(S:C0 N ps fr NG)(C:A2 ς OW NG fr UY)(PQ:∀vs H Q E,X vs H Q E->vs.β=ps.β)(i:∀(A:N2)(Fr:γ WH)(s:MJ)(H:Hp)(vs:γ V)(Q:VK)(E:XK),ak k (A.RH (envX M6 NG s⁻¹ f (.ο j) OW))->X vs H Q E->
   ∃t,BA (bB pu P w K mg ς N M6 NG f (.ο j) OW A Fr s H E).nox g t/\t {nx:=λ_ H'=>Q .Rv H',rt:=Q} (DA N vs UY) H):aa P w K mg ς pu (k+1) f (Δ.W.fnX OH M6 d g NG OW .ε .ε Pm pm ε (.ο j) U) ps X:=by
 refine(PQ,λA Fr s H ab us vs Q E L B hb r m=>?_);let Z:=PQ _ _ _ _ m;let F:s.π.X7:=B.VX.Wf.Oq λb o e=>(B.bs b o e).1;let ag:us.β=ps.β:=by rw[<-r.β];show Z
 let h:∀y∈ps.Th us,NG.MR.ρ y.1<*.local:=λT hy=>by let⟨n,v⟩:=T;show S.YN n (Uw hy).1
 let x:s.π.N_ (.ο j) M6:=by
  let⟨c,Y,ws,t,e1,e2,e3,e4⟩:=R;show(c,Y,ws,t,e1,(B.bs c Y e2).1,e3,e4)
 refine So L.Wo (B.bs f o ho).1 hd S.co S.gen ζ x (hb _ _ _ _ ?_);refine VN (closure:=OW) (around:=ε) S.nocell h (λh' M p=>?_) S.RT;let O:∀b o,s.π.ψ b<*o->h'.ψ b<*o:=λb o e=>p.S6 b o (M_ (lt_size e)) (sy _ e);refine(F.Oq O,Wp ?_);let⟨t,ht,hq⟩:=i A Fr s H vs Q E (L.RH _) m;let I:f' (bB pu P w K mg ς N M6 NG f (.ο j) OW A Fr s H E) [] (DA N vs UY) H {s with π:=h',MW:=s.MW+(ps.Th us).β}:=Lw S C L.hd B Z r M p;refine NI (ht.nox [] _ (DA N vs UY) H _ I hq) (λfl s' l=>?_) λe s' l=>l;let z:∀{a:St}{H':Hp}{v:V}{u:θ},f' (bB pu P w K mg ς N M6 NG f (.ο j) OW A Fr s H E) [] a H' s'->ae v u->Q v H'->CE Fr P w H s Q u s':=
  λ{a H' v u}J D q=>(v,H',J.os,J.R5,J.ς,J.Og,D,q)
 cases fl with
 |UX u=>
  let⟨v,a,H',J,D,q⟩:=l;show z J D q
 |next=>
  let⟨a,H',J,q⟩:=l;show z (v:=V.Rv) (u:=θ.ε) J ζ q
 |Yk=>
  let⟨_,_,_,q⟩:=l;show NX.Nx q
 |UC=>
  let⟨_,_,_,q⟩:=l;show NX.Nx q
end
abbrev wz(i:Φ)(f:υ)(sp:Sp)(t:TA):TE:=λσ H Q=>σ[i]?=δ (δ (.ο f))/\t σ H λvs H1=>sp vs H1 Q E0
def Ia{X:Cx}{k i:Φ}{f:υ}{u b:Sg}{d:θ}{p Nj:Sh}(F:aa X.Ξ X.w X.K X.mg X.ς pu k f u ps B)(J:ak k X.A)(o:X.ς.ψ f<*(d,n,.Qb b,m))(N:Ao X.K u ps [])(E:PE X (.N0 x p) (bC i))(O:PA X (e::c) t)(M:(Θ (e::c) X.KK=(η,OM e X.KK,)::Θ c X.KK)>>>4)(g:((OF Nj (Θ c X.KK)).Ql (·.1)=η)>>>4):PE X (.QG (.N0 x p) (e::c) [] Nj) (wz i f B t):=by
 intro a s l H Q I h;refine Nc (ri (E a s l H (λv j=>v=.ο f/\j=H) I (_,h.1,5)) λP C L=>?_);let⟨v,j,z,D,ζ,ζ⟩:=L;obtain ζ:P=.ο f:=D;refine Δ.W.callWith_F (d,n,b,m,(z.bs f _ o).1) (ri (O Nj a C l j _ z h.2) λus s2⟨vs,R,y,r,q⟩=>((d,n,b,m,(y.bs f _ o).1),3)) M g;show kQ F J N .Ow CV y r (by rw[Oe];show q)
def fR(q:Sh)(r:γ θ)(l:γ θ)(h:S9 l):Qu q (l++r)=(Qu q l).or (Qu q r):=by
 induction l using S9.induct with
 |case1=>simp[Qu]
 |case2 a t b u c Ru d=>
  let h:S9 Ru:=h;simp only[Rk,Qu];split
  .rfl
  .exact d h
 |case3 l h1 h2=>
  exfalso;unfold S9 at h;split at h
  .exact h1 ζ
  .exact h2 _ _ _ _ _ _ ζ
  .exact h
def Lx(x y:MN)(t u:XM)(c:θ)(l:γ θ)(h:S9 l):S9 (l++[.MS x t,.MS y u,c]):=by
 induction l using S9.induct with
 |case1=>show Os.Of
 |case2 a t b u c Ru d=>show d h
 |case3 l h1 h2=>
  exfalso;unfold S9 at h;split at h
  .exact h1 ζ
  .exact h2 _ _ _ _ _ _ ζ
  .exact h
abbrev pd(c:υ)(q:NB):HO:=.ext λh=>h.N_ (.ο c) q
abbrev Ak(f:υ)(OH M6:NB)(O5:QO)(Yy:γ Nu)(NG:RZ)(OW:γ (NB×υ))(c:υ):HO:=.ext λh=>∃Pm pm Xc,h.ψ f<*R0 OH M6 O5 Yy NG OW Pm pm c Xc
inductive A_(H:Hp)(P0:Addr)(sites:List (Pos×Str)):Prop
 |mk (ps:_) (_:H P0<*.tbl ps) (_:TriplesOk ps.toList) (_:∀q∈sites,codeAmong q.1 ps.toList=none\/∃c,codeAmong q.1 ps.toList=some (.ref c)/\H c<*(pd c q.2))
abbrev Cv(P0:υ)(H H':Hp):Prop:=∀b o,b≠P0->H b<*o->H' b<*o
structure DB(h:Heap)(mg:Str->Option Value):Prop where
 ex:∃bm o,mg "__builtins__"=some (.ref bm)/\bm≠builtinsNs/\bm≠mainGlobals/\h.get? bm=some o/\o.cls=.type "module"/\o.dict=some builtinsNs/\o.data=.plain
abbrev ya(X:Cx)(P0:υ)(ON:γ (Sh×NB))(i:Φ)(OH M6:NB)(O5:QO)(Yy:γ Nu)(sc:RZ):TS:=λD σ H=>A_ H P0 ON/\
 ∀(OW:γ (NB×υ))(f c:υ)(H1:Hp),(∀y a,OW.ρ y<*a->X.KK.Rm.ρ y<*a)->(∀y∈sc.MR,y.2=.N6->∃a,OW.ρ y.1<*a)->H f=ε->f≠c->Cv P0 H H1->A_ H1 P0 ON->
  H1 c<*pd c M6->H1 f<*Ak f OH M6 O5 Yy sc OW c->D.nx (σ.Ra i (δ (.ο f))) H1
def fK(x:h.N_ (.ο c) q):Az P w H h c (pd c q):=by
 let⟨g,a,vs,t,e,b,f,d⟩:=id x;cases e;refine(x,(a,b),λh1 h2 y k=>?_);let⟨g,a,vs,t,e,b,f,d⟩:=y;cases e;show(_,a,vs,t,1,k _ b,f,d)
def nF{P:NE}{w:N1}(x:h.ψ f<*R0 OH M6 a i b g Pm pm c l):Az P w H h f (Ak f OH M6 a i b g c):=
 ((Pm,pm,l,x),(_,x),λ_ _ j k=>by let⟨d,p,v,e⟩:=j;show(d,p,v,k _ e))
def FO{X:Cx}{d:QO}{g:γ Nu}{sc:RZ}(hN:X.N.Nz)(hi:X.N[i]?<*OH)(hx:DJ X.KK.NG OH)(J:X.KK.code=.ο c)(hC:QI X.ς c P0)(hB:DB X.ς X.mg)(an:(Nj,M6,)∈ON)(R:∀q∈ON,q.1.SZ=Nj.SZ->q.1.VJ=Nj.VJ->q.2=M6)(hq:(qualnameIn X.KK OH OH=M6)>>>4)(bD:(d.defaults=[])>>>4)(bg:(d.kw_defaults=[])>>>4)(ha:(annTrees d ε X.KK=[])>>>4)(az:((sc.MR.QD λy=>y.2 != .N6||X.KK.NG.MR.ρ y.1==δ .OA)=ξ)>>>4)(hf:(X.fn OH=ξ\/X.KK.NG.MR.ρ OH<*.local)>>>8):PS X (.Vl OH d g [] ε [] sc ε OH Nj) (ya X P0 ON i OH M6 d g sc):=by
 intro B s σ H D I h;let⟨⟨ps,hP,ht,M⟩,h⟩:=h;let bl:∀y∈sc.MR,y.2=.N6->X.KK.Om y.1<*.OA:=λy hy e=>by
  let q:=NP.mp az y hy;rw[e]at q;simpa[WH.Om]using q
 let⟨m,L,Y,Z⟩:=JO (KK:=X.KK) (sc:=sc) λy hy e=>I.ok.UU y.1 (.NJ (bl y hy e));let aH:s.π.ψ P0<*ZS ps:=I.Og P0 _ hP;let ab:P0<s⁻¹:=I.Og.lt hP;let U:s.π.BuiltinsAt X.mg P0:=by
  let⟨bm,o,e1,e2,e3,e4,e5,e6,e7⟩:=hB.ex;refine(bm,o,e1,e2,e3,λz=>?_,(I.bs bm o e4).1,e5,e6,e7);let n:=(I.bs bm o e4).2;rw[z,hP]at n;cases n
 let ar:s.π.Ns LT X.mg:=I.VX.Wk.Oq I.bk;let bi:LT≠P0:=λz=>by
  let⟨o,es,ep,e,hd,_⟩:=ar;rw[z,aH]at e;cases e;cases hd
 let a5:=hC.Oq I.bk;refine Δ.W.nestDef_K bD bg ha ?_;rw[hq];let a6:∀{f:υ}{s1:MJ}{Q:Hp},f' X B σ Q s1->D.nx (σ.Ra i (δ (.ο f))) Q->Ω (Cl X.Ξ X.w) X.A (storeName X.KK OH (.ο f)) (λ_ a7=>SP X B D .next a7) X.xe s1:=λ{f s1 Q}I1 q=>
  AO I1 hN hi hx (v:=.ο f) ζ (λs' I'=>(_,Q,I',q)) hf
 let a8:∀{b:υ}{u:HO},H b<*u->b<s⁻¹:=λe=>I.Og.lt e;rcases M _ an with bf|⟨c0,a0,a1⟩
 .refine Δ.W.makeFunction_K (mg:=X.mg) L I.ok.Wk ar J a5 aH ht bf bi U λj r Pm h' tk a9 as aV aN bd=>?_;let bM:P0≠j:=M_ (Ψ ab as);let C:s⁻¹<h'.Nr.MX:=Nm as aV;let a4:P0≠h'.Nr.MX:=M_ (QB ab C);let aB:j≠h'.Nr.MX:=M_ aV;generalize bo:h'.Nr.MX=f at a4 aB C⊢;let kp:∀b o,b≠P0->s.π.ψ b<*o->(h'.Nh (R0 OH M6 d g sc m Pm ((X.mg "__name__").ML .ε) j r)).ψ b<*o:=λb o k e=>sy _ (a9 b o k e);let aT:(h'.Nh (R0 OH M6 d g sc m Pm ((X.mg "__name__").ML .ε) j r)).ψ f<*R0 OH M6 d g sc m Pm ((X.mg "__name__").ML .ε) j r:=by rw[<-bo];show MV _ ζ
  let aU:(h'.Nh (R0 OH M6 d g sc m Pm ((X.mg "__name__").ML .ε) j r)).N_ (.ο j) M6:=by
   let⟨c2,oc,vs,t,e,e1,e2,e3⟩:=aN;show(c2,oc,vs,t,e,sy _ e1,e2,e3)
  let T:(h'.Nh (R0 OH M6 d g sc m Pm ((X.mg "__name__").ML .ε) j r)).ψ P0<*ZS (ps++#[Ny Nj.SZ,Ny Nj.VJ,.ο j]):=sy _ bd;generalize h'.Nh (R0 OH M6 d g sc m Pm ((X.mg "__name__").ML .ε) j r)=hh at kp aT aU T⊢;generalize ap:ps++#[Ny Nj.SZ,Ny Nj.VJ,.ο j]=WU at T;let aM:∀{b:υ},b<s⁻¹->b≠j/\b≠f:=λk=>(M_ (Ψ k as),M_ (QB k C));let P:∀{b:υ},b<s⁻¹->b≠P0->MT (MT (MT H P0 (.Wy WU)) j (pd j M6)) f (Ak f OH M6 d g sc m j) b=H b:=λk U=>by
   rw[a_ (aM k).2,a_ (aM k).1,a_ U]
  let ag:∀{b:υ},b≠P0->b≠j->b≠f->MT (MT (MT H P0 (.Wy WU)) j (pd j M6)) f (Ak f OH M6 d g sc m j) b=H b:=λh1 h2 h3=>by
   rw[a_ h3,a_ h2,a_ h1]
  let F:MT (MT (MT H P0 (.Wy WU)) j (pd j M6)) f (Ak f OH M6 d g sc m j) P0<*.Wy WU:=by rw[a_ a4,a_ bM,j_]
  let E:MT (MT (MT H P0 (.Wy WU)) j (pd j M6)) f (Ak f OH M6 d g sc m j) j<*pd j M6:=by rw[a_ aB,j_]
  let O:MT (MT (MT H P0 (.Wy WU)) j (pd j M6)) f (Ak f OH M6 d g sc m j) f<*Ak f OH M6 d g sc m j:=j_;generalize MT (MT (MT H P0 (.Wy WU)) j (pd j M6)) f (Ak f OH M6 d g sc m j)=Q at P ag F E O;let nP:∀{b:υ},H b=ε->b≠P0:=λn z=>by rw[z,hP]at n;cases n
  let x:∀{b:υ}{u:HO},H b<*u->b≠P0->Q b<*u:=λe k=>by rw[P (a8 e) k];show e
  let p:∀{b:υ}{u:HO},H b<*u->(∀ps,u≠.Wy ps)->Q b<*u:=λe hu=>x e λz=>by
   rw[z,hP]at e;cases e;show hu _ ζ
  let un:Un X.fs [] H Q s.π hh:=by
   refine(λb o e n _ _=>kp b o (nP n) e,λb o e n _ _=>(o.Ry,kp b o (nP n) e),λb o e n _=>by rw[P (lt_size e) (nP n)];show n,λb o e _=>?_,λb xs e=>p e (λ_ z=>nomatch z),λb o u e=>p e (λ_ z=>nomatch z),λb qs e=>?_)
   .by_cases k:b=P0
    .rw [k];show(_,T)
    .exact (o,kp b o k e)
   .by_cases k:b=P0
    .rw [k,hP]at e;cases e;rw[k];show(_,by rw[F,ap])
    .exact (#[],by rw[x e k];simp)
  let aS:Au X.Ξ X.w Q hh:=λa o e=>by
   by_cases a2:a=f
   .rw [a2]at e⊢;rw[O]at e;cases e;show nF aT
   by_cases a3:a=j
   .rw [a3]at e⊢;rw[E]at e;cases e;show fK aU
   by_cases aC:a=P0
   .rw [aC]at e⊢;rw[F]at e;cases e;show T
   rw[ag aC a3 a2]at e;refine(I.Og a o e).SX (λb u k q=>kp b u (λz=>?_) q) (λb q=>p q (λ_ z=>nomatch z)) λb xs q=>p q (λ_ z=>nomatch z);rcases k with k|k
   .exact aC (k▸z)
   .rw [z,hP]at k;cases k
  let I1:f' X B σ Q {s with π:=hh,MW:=tk}:=I.un un aS;refine a6 I1 (h m f j Q Y Z (I.Og.OG (Pq C)) (Ne.MQ aB) (λb o k e=>x e k) (WU,F,3,λq S=>?_) E O)
  .rw [<-ap,Nt.V7];show Lx _ _ _ _ _ _ ht
  .rw [<-ap,Nt.V7,fR _ _ _ ht];rcases M q S with hn|⟨c1,h1,h2⟩
   .rw [hn,ω.none_or];by_cases l:q.1.SZ=Nj.SZ/\q.1.VJ=Nj.VJ
    .refine .NU (j,3,3)
     .change Qu q.1 [Ny Nj.SZ,Ny Nj.VJ,.ο j]=_;simp[Qu,Ny,l.1,l.2]
     .rw [R q S l.1 l.2];show E
    .refine .NJ ?_;change Qu q.1 [Ny Nj.SZ,Ny Nj.VJ,.ο j]=_;simp only[Qu,Ny];rw[BT];intro z;simp at z;show l (!6,!6)
   .rw [h1,ω.some_or];show .NU (c1,1,p h2 (λ_ z=>nomatch z))
 .refine Δ.W.makeFunction_hit (mg:=X.mg) L I.ok.Wk ar J a5 aH ht a0 U λr Pm h' tk hk V_=>?_;let I1:f' X B σ (MT H h'.Nr.MX (Ak h'.Nr.MX OH M6 d g sc m c0)) {s with π:=h'.Nh (R0 OH M6 d g sc m Pm ((X.mg "__name__").ML .ε) c0 r),MW:=tk}:=
   I.T0 (λb u e=>sy _ (hk b u e)) V_ (nF (MV _ ζ))
  let aA:H h'.Nr.MX=ε:=I.Og.OG V_;let kH:∀{b:υ}{u:HO},H b<*u->MT H h'.Nr.MX (Ak h'.Nr.MX OH M6 d g sc m c0) b<*u:=λe=>by rw[a_ (e_ e aA)];show e
  refine a6 I1 (h m _ c0 _ Y Z aA (Ne.MQ (e_ a1 aA)) (λb o _ e=>kH e) (ps,kH hP,ht,λq S=>?_) (kH a1) j_);rcases M q S with hn|⟨c1,h1,h2⟩
  .exact .NJ hn
  .exact .NU (c1,h1,kH h2)
abbrev Al(U:γ υ)(H:Hp):Hp:=λb=>if b∈U then ε else H b
abbrev UB(U:γ υ)(H H':Hp):Hp:=λb=>if b∈U then H b else H' b
def Ib(h:b∈U):Al U H b=ε:=Id h
def BH(h:b∉U):Al U H b=H b:=BT h
def GN(h:b∈U):UB U H H' b=H b:=Id h
def Ef(h:b∉U):UB U H H' b=H' b:=BT h
def Mod.Oq{K:Nn}(M:Mod K mg h)(k:∀b o,h.ψ b<*o->h'.ψ b<*o):Mod K mg h':=
 (M.Vz.Oq k,M.Wk.Oq k,let⟨c,a,b⟩:=M.blt;(c,a.Oq k,b),M.Wf.Oq k)
section
variable{P:Program}{w:World}{K:Frag}{mg:Str->Option Value}{base:Heap}{A:Around}{outer:List Env}{s:Shared}{H:Hp}{U:List Addr}
def ix(f:bx P w K mg ς A Fr s H)(l:∀u∈U,∃φ,H u<*.ext φ):∃c,bx P w K mg c A Fr s (Al U H)/\(∀b o,ς.ψ b<*o->c.ψ b<*o)/\∀b o,s.π.ψ b<*o->b∉s_ Fr->Al U H b=ε->c.ψ b<*o:=by
 let h:∀b o,s.π.ψ b<*o->b∉s_ Fr->Al U H b=ε->(Qq s.π (Gf s.π (Al U H)++s_ Fr)).ψ b<*o:=λb o e r p=>Ps _ e λk=>by
  rcases Nd.mp k with z|z
  .let q:((Al U H) b).Rz=ξ:=(RD.mp z).2;rw[p]at q;cases q
  .exact r z
 let g:∀b,H b=ε->b∉U:=λb n z=>by
  let⟨φ,e⟩:=l b z;rw[n]at e;cases e
 let Rr:∀b o,ς.ψ b<*o->(Qq s.π (Gf s.π (Al U H)++s_ Fr)).ψ b<*o:=λb o e=>by
  let⟨j,n⟩:=f.bs b o e;refine h b o j (λz=>?_) (by rw[BH (g b n)];show n);have:=(f.Vc.mem z).1;rw[e]at this;cases this
 let d:∀{b:υ}{u:HO},H b<*u->(∀φ,u≠.ext φ)->Al U H b<*u:=λ{b u}e m=>by
  rw[BH λz=>?_]
  .exact e
  .obtain ⟨φ,e'⟩:=l b z;rw[e]at e';show m φ (ω.δ.QK e')
 refine(Qq s.π (Gf s.π (Al U H)++s_ Fr),(f.Qc,f.VX.Oq Rr,λb o e=>?_,Rg (Δ.W.hideAll_size _ _),FL f.Vc λb i=>Nq _ i,λb i=>?_,λa o e=>?_,f.R5),Rr,h)
 .let j:=SJ _ e;refine(j,3);cases q:Al U H b with
  |ε=>rfl
  |δ u=>
   let k:b∈Gf s.π (Al U H)++s_ Fr:=RO _ (RD.Ot (Np.Ot (lt_size j),by simp[q]));rw[PJ _ k]at e;cases e
 .rw [BH (g b (f.frf b i))];show f.frf b i
 .let t:a∉U:=λz=>by rw[Ib z]at e;cases e
  rw[BH t]at e;show(f.Og a o e).SX (λ_ _ _ q=>q) (λb q=>d q (λ_ z=>nomatch z)) λb xs q=>d q (λ_ z=>nomatch z)
def dZ(C:bx P w K mg ς A Fr s H)(y:∀u∈U,∃φ,H u<*.ext φ)(h:CE Fr P w (Al U H) s (λv E=>(∀u∈U,E u=ε)->Q v (UB U H E)) u s'):CE Fr P w H s Q u s':=by
 let⟨v,H',os,p,un,B,r,q⟩:=h;let d:∀b,H b=ε->b∉U:=λb n z=>by
  let⟨φ,e⟩:=y b z;rw[n]at e;cases e
 let k:∀b∈U,b∉s_ Fr:=λb c z=>d b (C.frf b z) c;let f:∀b∈U,∃o,s.π.ψ b=δ o/\s'.π.ψ b=δ o/\H' b=ε:=λb c=>by
  let⟨φ,e⟩:=y b c;let⟨_,⟨o,m⟩,_⟩:=C.Og b _ e;show(o,m,un.QC b o m (Ib c) (k b c) (!1),un.N6 b o m (Ib c) (!1))
 let g:∀{b:υ}{x:HO},H b<*x->(∀φ,x≠.ext φ)->b∉U:=λ{b x}e j z=>by
  let⟨φ,e'⟩:=y b z;rw[e]at e';show j φ (ω.δ.QK e')
 let i:∀{b:υ}{x:HO},H' b<*x->UB U H H' b<*x:=λ{b x}e=>by
  rw[Ef λz=>?_]
  .exact e
  .obtain ⟨_,_,_,n⟩:=f b z;rw[e]at n;cases n
 refine(v,UB U H H',os,p,(λb o e n c j=>?_,λb o e n c j=>?_,λb o e n j=>?_,un.QU,λb xs e=>?_,λb o x e=>?_,λb ps e=>?_),λa o e=>?_,r,q λb c=>(f b c).Vh.2.2)
 .exact un.QC b o e (by rw[BH (d b n)];show n) c j
 .exact un.Ud b o e (by rw[BH (d b n)];show n) c j
 .rw [Ef (d b n)];show un.N6 b o e (by rw[BH (d b n)];show n) j
 .let c:=g e (λ_ z=>nomatch z);rw[Ef c];show un.QT b xs (by rw[BH c];show e)
 .let c:=g e (λ_ z=>nomatch z);rw[Ef c];show un.Vd b o x (by rw[BH c];show e)
 .let c:=g e (λ_ z=>nomatch z);rw[Ef c];show un.VR b ps (by rw[BH c];show e)
 .by_cases t:a∈U
  .rw [GN t]at e;let⟨φ,e'⟩:=y a t;rw[e']at e;cases e;let⟨o,m,l,_⟩:=f a t;let⟨F,_,D⟩:=C.Og a _ e';show(D _ _ F (λI z=>by rw[m]at z;cases z;show l),(o,l),D)
  .rw [Ef t]at e;show(B a o e).SX (λ_ _ _ z=>z) (λb z=>i z) λb xs z=>i z
end
structure GO(X:Cx)(U:List Addr)(σ:St)(H:Hp)(base':Heap):Prop where
 sub:∀b o,X.base.get? b<*o->base'.get? b<*o
 mod:Mod X.K X.mg base'
 ext:∀u φ,u∈U->H u<*.ext φ->φ base'
 inj:∀y z c,X.env.cells.lookup y<*c->X.env.cells.lookup z<*c->y=z
 cell:∀y c,X.env.cells.lookup y<*c->∃v,base'.IsCell c v
 val:∀(i:Nat)(y:Str)(v:V),X.N[i]?<*y->σ[i]?<*some v->X.env.scope.names.lookup y<*.cell->∃c u,X.env.cells.lookup y=some c/\base'.IsCell c (some u)/\ae v u
abbrev xX(X:Cx)(f:υ)(fd:Sg)(ps:γ NB)(Xb:γ V)(t:TA):TE:=λσ H Q=>t σ H λvs H1=>∃U:γ υ,(∀u∈U,∃φ,H1 u<*.ext φ)/\∀base':NR,GO X U σ H1 base'->
 ∃(k:Φ)(sp:Sp),ak k X.A/\aa X.Ξ X.w X.K X.mg base' pu k f fd ps sp/\sp (vs++Xb) (Al U H1) (λv H2=>(∀u∈U,H2 u=ε)->Q v (UB U H1 H2)) E0
def Ic{X:Cx}{f:υ}{p Nj:Sh}(hg:Gl X x)(hm:X.mg x<*.ο f)(hk:UR X.K (.ο f)=ξ)(hb:Ao X.K fd ps ds)(hd:ad Xb ds)(ha:PA X (e::C) t)(M:∀y,X.fn y=ξ)(O:((x==("__debug__":NB))=η)>>>0)(he:(Θ (e::C) X.KK=(η,OM e X.KK,)::Θ C X.KK)>>>4)(E:((OF Nj (Θ C X.KK)).Ql (·.1)=η)>>>4):PE X (.QG (.N0 x p) (e::C) [] Nj) (xX X f fd ps Xb t):=by
 intro l s R H Q I h;refine Nc (v_ I hg hm ?_ O);refine WQ (h₀:=X.ς) I.ok.VX.Vz hk (ri (ha Nj l s R H _ I h) λus D⟨vs,H1,b,r,q⟩=>(b.Tb,3)) he E;let⟨U,Z,q⟩:=q;let⟨a,e0,n,j⟩:=ix b.Zj Z;let d:∀y c v,X.KK.Rm.ρ y<*c->D.π.Tf c v->a.Tf c v:=λy c v g P=>by
  let⟨o,T,N⟩:=P;let Y:=b.UK y c g;refine(o,j c o T (λz=>?_) ?_,N)
  .rcases MP.mp (b.ZW c z)with z|z
   .exact b.cne y c g z
   .obtain ⟨_,o',J,_⟩:=b.ok.Vc.mem z;show MM (lt_size J) (TY.Ot (b.ok.cab y c (M y) g))
  .unfold Al;split
   .rfl
   .exact Y
 let W:GO X U R H1 a:=by
  refine(n,e0.VX,λu φ hu e=>?_,b.ok.QK,λy c g=>?_,λi y v e1 e2 e3=>?_)
  .obtain ⟨p1,⟨o,T⟩,p3⟩:=b.Og u _ e;refine p3 _ _ p1 λo2 z=>j u o2 z (λy=>?_) (Ib hu);rw[b.Tj u y]at e;cases e
  .obtain ⟨v,z⟩:=b.OA y c g;show(v,d y c v g z)
  .obtain ⟨m,Y,L⟩:=b.X1;let⟨u,ru,lk⟩:=L i y v e1 e2 (.NU (.NJ e3));rcases lk with⟨k1,_⟩|⟨_,c,g,z⟩
   .have:X.KK.NG.MR.ρ y<*.local:=k1;rw[e3]at this;cases this
   .exact (c,u,g,d y c _ g z,ru)
 let⟨k,sp,hr,F,w⟩:=q a W;let S:ad (vs++Xb) (us++ds):=r.Ye hd;let L:(us++ds).β=ps.β:=by rw[<-S.β];show F.PQ _ _ _ _ w
 refine QS (Pd (F.PM X.A X.NC D (Al U H1) (us,[]) (us++ds) (vs++Xb) _ E0 hr e0 (hb D us b.Tb L) S w) λr s' B=>?_);cases r with
 |SA e=>show NX.Nx B
 |ok fl=>
  cases fl with
  |UX u=>show b.Xe (dZ b.Zj Z B)
  |next=>show NX.Nx B
  |Yk=>show NX.Nx B
  |UC=>show NX.Nx B
abbrev Ch(ts:γ υ)(K:Nn):Nn:=K.SL λq=>!ts.M9 q.1
def FP{ts:γ υ}{a:υ}(d:ts.M9 a=η):∀{K:Nn},(Ch ts K).ρ a=K.ρ a
 |[]=>rfl
 |(b,x)::r=>by
  unfold Ch;rw[γ.filter_cons];by_cases e:a=b
  .subst e;rw[Id (by simpa using d),OL,OL];simp
  .let c:(a==b)=η:=ND.Ot e;split
   .rw [OL,OL,c];show FP (K:=r) d
   .rw [OL,c];show FP (K:=r) d
def bN{ts:γ υ}{a:υ}{o:Rp}:∀{K:Nn},(Ch ts K).ρ a<*o->ts.M9 a=η
 |[],e=>by cases e
 |(b,x)::r,e=>by
  unfold Ch at e;rw[γ.filter_cons]at e;split at e
  .rename_i d;rw[OL]at e;by_cases c:a=b
   .subst c;simpa using d
   .rw [ND.Ot c]at e;show bN (K:=r) e
  .exact bN (K:=r) e
def J5{K:Nn}(e:K.ρ a<*o)(b:ts.M9 a=η):(Ch ts K).ρ a<*o:=(FP b).ν e
def Ly{K:Nn}(e:Pp K a x=r)(b:ts.M9 a=η):Pp (Ch ts K) a x=r:=by
 unfold Pp at e⊢;rw[FP b];show e
def J6{K:Nn}(e:PD K (.ο c) x=ξ)(a:ts.M9 c=η):PD (Ch ts K) (.ο c) x=ξ:=by
 unfold PD at e⊢;dsimp only at e⊢;rw[FP a];show e
abbrev ib(K:Nn)(c P:υ):MZ:=match K.ρ c with
 | δ ⟨.MO n,_,.OB vs,_⟩=>n=="code"&&c != P&&(match (vs[11]?:ω θ),(vs[18]?:ω θ),(vs[7]?:ω θ),(vs[9]?:ω θ),(vs[10]?:ω θ)with
   |δ (.ο Q),δ (.NA _ _),δ (.MS _ _),δ (.Ph _),δ (.MS _ _)=>Q==P
   | _,_,_,_,_=>η)
 |_=>η
def mj{K:Nn}(X:K.In h)(e:ib K c P=ξ):QI h c P:=by
 unfold ib at e;split at e
 .rename_i n dd vs w g;let f:=X _ _ g;rw[Oz,Oz]at e;let⟨⟨r,q⟩,d⟩:=e;split at d
  .rename_i Q s t i u b j v h1 h2 p o m;let l:Q=P:=SU d;subst l;let a:∀{k:Φ}{x:θ},vs[k]?<*x->vs.ML k .ε=x:=λ{k x}z=>by
    rw[Nt.getD_eq_getD_getElem?,z];rfl
   show(_,vs,s,t,i,u,b,j,v,f,by rw[SU r],1,h1,a h1,a h2,a p,a o,a m,by simpa using q)
  .cases d
 .cases e
structure vO(K:Frag)(q:Addr×Addr):Prop where
 code:ib K q.1 q.2=true
 tab:K.lookup q.2<*(tabObj #[])
abbrev gp(K:Nn)(RM:γ (υ×υ)):Sp:=λvs H Q _=>∃(a:υ)(ns:γ MN),vs=[.ο a]/\o5 K H a (ns.NN V.MS)/\ns.β≤63/\(∀q∈RM,H q.2<*(.Wy #[]))/\∀H',Q (.bl ξ) H'
def jT(x:QI h c P)(k:∀o,o.OO=.MO "code"->h.ψ c<*o->h'.ψ c<*o):QI h' c P:=by
 let⟨o,vs,d,l,a,j,f,b,i,e,g,r⟩:=x;show(o,vs,d,l,a,j,f,b,i,k o g e,g,r)
def pq{P:NE}{w:N1}{K:Nn}(KX:K.In c.π)(hT:∀q∈RM,vO K q)(R:c.π.Ns LT mg)(hB:DB c.π mg)(i:c.π.Ns builtinsNs mb)(ag:∀x:NB,x≠"__name__"->mb x=Tr x)(T:c.π.X7)(hg:c.T7=#[])(L:c.π.ψ a<*{OO:=.MO "list",NL:=.Sz vs.χ})(hi:TD vs ns)(hl:ns.β≤63)(hr:ak k Wq)(F:∀ς:NR,(Ch (RM.NN (·.2)) K).In ς->ς.Ns LT mg->DB ς mg->(∀q∈RM,QI ς q.1 q.2)->aa P w (Ch (RM.NN (·.2)) K) mg ς pu k fa fd [x] (gp (Ch (RM.NN (·.2)) K) RM))(J:∀(s:MJ)(u:θ),X9 s fd ([u],[]) [(x,u,)]):Qh (Cl P w) Wq (.Qk (.ο fa) ([.ο a],[])) (λr s'=>r=.ok (.UX (.Ph ξ))/\OldK c.π s'.π/\s'.os=c.os/\Wu s'.T7) c:=by
 let rv:=d_D hi;let O:=hi.β;let S:ns.β≤Λ:=IO hl (by rw[OQ];decide);let j:∀q∈RM,c.π.ψ q.2<*(ZS #[]):=λq g=>KX _ _ (hT q g).tab;let hd:∀q∈RM,QI c.π q.1 q.2:=λq g=>mj KX (hT q g).code;let inT:∀{b:υ},(RM.NN (·.2)).M9 b=ξ->∃q∈RM,q.2=b:=λ{b}i=>by
  rw[QN]at i;let⟨q,g,e⟩:=PH.mp i;show(q,g,e)
 let t:∀{q:υ×υ},q∈RM->(RM.NN (·.2)).M9 q.2=ξ:=λ{q}g=>by
  rw[QN];show γ.mem_map_of_mem g
 let aT:(RM.NN (·.2)).M9 a=η:=by
  cases z:(RM.NN (·.2)).M9 a with
  |η=>rfl
  |ξ=>
   let⟨q,g,e⟩:=inT z;let p:=j q g;rw[e,L]at p;cases p
 let E:∀H:Hp,o5 (Ch (RM.NN (·.2)) K) H a (ns.NN V.MS)->Au P w H c.π->(∀b,H b=ε\/(b=a/\K.ρ a=ε/\H b<*.frz {OO:=.MO "list",NL:=.Sz vs.χ} (.M7 (ns.NN V.MS)))\/((RM.NN (·.2)).M9 b=ξ/\H b<*(.Wy #[])))->
   (∀q∈RM,H q.2<*(.Wy #[]))->
   Qh (Cl P w) Wq (.Qk (.ο fa) ([.ο a],[])) (λr s'=>r=.ok (.UX (.Ph ξ))/\OldK c.π s'.π/\s'.os=c.os/\Wu s'.T7) c:=by
  intro H hS Q hO ap;let f:∀{b:υ}{o:Rp},c.π.ψ b<*o->H b=ε->(dr c.π H).ψ b<*o:=λe n=>r9 e n;let freeOf:∀{b:υ}{o:Rp},c.π.ψ b<*o->b≠a->o≠ZS #[]->H b=ε:=λ{b o}e I ab=>by
   rcases hO b with z|⟨z,_⟩|⟨z,_⟩
   .exact z
   .exact MM z I
   .obtain ⟨q,g,D⟩:=inT z;let p:=j q g;rw[D,e]at p;show MM (ω.δ.QK p) ab
  let A:∀{b:υ}{m:NB->ω θ},c.π.Ns b m->(dr c.π H).Ns b m:=λ{b m}an=>by let⟨o,es,ep,e,d,r⟩:=an;show(o,es,ep,f e (freeOf e (λz=>by rw[z,L]at e;cases e;cases d) (λz=>by rw[z]at d;cases d)),d,r)
  let W:(Ch (RM.NN (·.2)) K).In (dr c.π H):=λb o e=>by
   let hn:=bN e;let p:=KX b o ((FP hn).MQ.ν e);refine f p ?_;rcases hO b with z|⟨z,N,_⟩|⟨z,_⟩
   .exact z
   .rw [FP hn,z,N]at e;cases e
   .rw [hn]at z;cases z
  let as:DB (dr c.π H) mg:=by
   let⟨bm,o,p,D,e3,M,e5,e6,Z⟩:=hB.ex;show(bm,o,p,D,e3,f M (freeOf M (λz=>by rw[z,L]at M;cases M;cases Z) (λz=>by rw[z]at Z;cases Z)),e5,e6,Z)
  let ar:∀q∈RM,QI (dr c.π H) q.1 q.2:=λq g=>jT (hd q g) λo U e=>f e (freeOf e (λz=>by rw[z,L]at e;cases e;injection U with U;show MM U (!0)) (λz=>by rw[z]at U;cases U));let hM:Mod (Ch (RM.NN (·.2)) K) mg (dr c.π H):=(W,A R,(mb,A i,ag),let⟨mc,h1,h2⟩:=T;(mc,A h1,h2));let e0:bx P w (Ch (RM.NN (·.2)) K) mg (dr c.π H) Wq [] c H:=(1,hM,λb o e=>uy e,Rg (pH _ _),trivial,λb i=>MM (show b∈([]:γ υ)from i) (!1),Q,.of_eq hg);refine Pd ((F _ W (A R) as ar).PM Wq [] c H ([.ο a],[]) [.ο a] [.ο a] (λv _=>v=.bl ξ) (λ_ _ _=>NX) hr e0 (J c (.ο a)) (.NZ ζ .Ow) (a,ns,1,hS,hl,ap,λ_=>rfl)) λr s' h=>?_;cases r with
  |SA e=>show NX.Nx h
  |ok fl=>
   cases fl with
   |next=>show NX.Nx h
   |Yk=>show NX.Nx h
   |UC=>show NX.Nx h
   |UX u=>
    let⟨v,H',os,X,un,C,r',q⟩:=h;let q':v=.bl ξ:=q;subst q';obtain ζ:u=θ.Ph ξ:=r';refine(1,(λb o e=>?_,λb o e=>un.QU b o e (!1)),os,X);rcases hO b with z|⟨z1,_,z⟩|⟨z1,z⟩
    .exact .NJ (un.QC b o e z (by intro y;show MM (show b∈([]:γ υ)from y) (!1)) (!1))
    .obtain ⟨p,_⟩:=Q b _ z;let⟨D,_⟩:=C b _ (un.Vd b _ _ z);rw[e]at p;cases p;show .NJ D
    .obtain ⟨q,g,D⟩:=inT z1;let⟨Ta,z3⟩:=un.VR b _ z;let e3:s'.π.ψ b<*{OO:=.ε,NL:=.OB (#[]++Ta)}:=C b _ z3;let M:=j q g;rw[D,e]at M;cases M;refine .NU (.NJ (3,1,#[],Ta,1,e3));have:=((hd q g).tab (j q g)).isCodeTable;rw[D]at this;show this
 let Y:∀{H:Hp}{b:υ},(RM.NN (·.2)).M9 b=ξ->Az P w H c.π b (.Wy #[]):=λ{H b}z=>by
  let⟨q,g,e⟩:=inT z;let p:=j q g;rw[e]at p;show p
 cases hk:K.ρ a with
 |δ o=>
  let e:=KX a o hk;rw[L]at e;cases e;refine E (λb=>if (RM.NN (·.2)).M9 b=ξ then δ (.Wy #[])else ε) (.NU (_,vs.χ,_,(FP aT).ν hk,5,1,by rw[NH,O];show S,by simpa using rv)) (λb u z=>?_) (λb=>?_) (λq g=>Id (t g))
  .by_cases i:(RM.NN (·.2)).M9 b=ξ
   .let B:=(Id i).MQ.ν z;cases B;show Y i
   .let B:=(BT i).MQ.ν z;cases B
  .by_cases i:(RM.NN (·.2)).M9 b=ξ
   .exact .NU (.NU (i,Id i))
   .exact .NJ (BT i)
 |ε=>
  refine E (λb=>if b=a then δ (.frz {OO:=.MO "list",NL:=.Sz vs.χ} (.M7 (ns.NN V.MS)))else if (RM.NN (·.2)).M9 b=ξ then δ (.Wy #[])else ε) (.NJ (.NU ({OO:=.MO "list",NL:=.Sz vs.χ},Id ζ))) (λb u z=>?_) (λb=>?_) (λq g=>?_)
  .by_cases i:b=a
   .let B:=(Id i).MQ.ν z;cases B;subst i;show(L,by rw[ol];show S,vs,_,rv,L)
   .let B:=(BT i).MQ.ν z;by_cases l:(RM.NN (·.2)).M9 b=ξ
    .let N:=(Id l).MQ.ν B;cases N;show Y l
    .let N:=(BT l).MQ.ν B;cases N
  .by_cases i:b=a
   .exact .NU (.NJ (i,hk,Id i))
   .by_cases l:(RM.NN (·.2)).M9 b=ξ
    .exact .NU (.NU (l,(BT i).ν (Id l)))
    .exact .NJ ((BT i).ν (BT l))
  .let I:q.2≠a:=λz=>by
    have:=t g;rw[z,aT]at this;cases this
   show(BT I).ν (Id (t g))
def FQ{l:Δ.W.X6}{K:Params->Nn}(I:l.most<*63)(r:d.O5.defaults=[])(H:ak k Wq)(N:∀p,∀q∈RM,vO (K p) q)(F:∀(w:N1)(mg:NB->ω θ)(fa:υ)(h:NR),(Ch (RM.NN (·.2)) (K w.O5)).In h->h.Ns LT mg->mg d.OH<*.ο fa->
   ∃v:Sg,(∀(s:MJ)(u:θ),X9 s v ([u],[]) [(x,u,)])/\∀ς:NR,(Ch (RM.NN (·.2)) (K w.O5)).In ς->ς.Ns LT mg->DB ς mg->(∀q∈RM,QI ς q.1 q.2)->
    aa l.Ξ w (Ch (RM.NN (·.2)) (K w.O5)) mg ς pu k fa v [x] (gp (Ch (RM.NN (·.2)) (K w.O5)) RM)):Δ.W.WalkO q loose XP (λw h=>(K w.O5).In h) l.Vx.toRowW d [] (λf vs=>Δ.Qk f vs):=by
 refine Att.CU I r λw B c mg X fa o pm cd Pm a vs ns G Y Z C L n j i m J=>?_;let D:(K w.O5).In c.π:=Y;let U:(Ch (RM.NN (·.2)) (K w.O5)).In c.π:=λb o e=>D b o ((FP (bN e)).MQ.ν e);let⟨v,M,O⟩:=F w mg fa _ U G.T.g n;let⟨bm,E,S,R,A,Q,P,y⟩:=G.T.bmain;let t:bm≠LT:=λz=>by
  let⟨o,es,ep,e,C,_⟩:=G.T.g;rw[z,e]at A;cases A;rw[C]at y;cases y
 show pq D (N w.O5) G.T.g (bm,E,S,R,t,A,Q,P,y) G.T.b G.T.builtins G.T.Wf J j i m H O M
inductive Sd where
 |tx (x:Str) (k:Tok)|tp (a:Addr)|ls (a:Addr)
namespace Sd
abbrev vu:Sd->θ
 |.tx x t=>.NA x t
 |.tp a=>.ο a
 |.ls a=>.ο a
abbrev pl:Sd->υ->Φ->NR->Prop
 |.tx x t,it,i,h=>ZP.CW x t it i h
 |.tp a,it,i,h=>h.Rq it a i
 |.ls a,it,i,h=>h.Yh it a i
abbrev it0:Sd->Rp
 |.tx x t=>ZP.ET x t
 |.tp a=>ZP.Gp a
 |.ls a=>{OO:=.MO "list_iterator",NL:=.OB #[.ο a,.MS 0 0]}
abbrev hp:Sd->Nt θ->NR->Prop
 |.tx _ _,_,_=>Os
 |.tp a,Zr,h=>h.O1 a Zr
 |.ls a,Zr,h=>h.SM a Zr
abbrev UU:Sd->Hp->γ V->Prop
 |.tx x _,_,xs=>xs=x.Tc.NF.NN λc=>V.NA ⟨#[c]⟩
 |.tp a,H,xs=>H a<*.No xs
 |.ls a,H,xs=>H a<*.M7 xs
end Sd
def rV{d:Sd}(e:h.ψ it<*d.it0):d.pl it 0 h:=by
 cases d with
 |tx x t=>show(_,e,5)
 |tp a=>show(_,e,5)
 |ls a=>show(_,e,5)
def jq(d:Sd):d.it0.isFreed=η:=by cases d<;>rfl
namespace ZP
abbrev db(h:NR)(o1 o2:Rp):NR:=
 ((((h.Nh o1).Nh o2).Nh {OO:=.MO "tuple",NL:=.Sz #[.ο h.Nr.MX,.ο (h.Nr.MX+1)]}).Nh {OO:=.MO "tuple",NL:=.Sz #[.ε,.ε]}).Nh
  {OO:=.MO "zip",NL:=.OB #[.ε,.Ph η,.Ph η,.ο (h.Nr.MX+2),.ο (h.Nr.MX+3)]}
section
variable{prog:Program}{w:World}{A:Around}{E:Value->Shared->Prop}{s:Shared}
def Jd(c:s.π.SM a b)(h:Q (.ο s⁻¹) {s with π:=s.π.Nh (Sd.ls a).it0}):Ω (Cl Ξ w) A (VV (.ο a)) Q E s:=RW c h
def ni(h:Q (.ο s⁻¹) {s with π:=s.π.Nh (Sd.tx x t).it0}):Ω (Cl Ξ w) A (VV (.NA x t)) Q E s:=pD h
def bX(c:s.π.O1 a b)(h:Q (.ο s⁻¹) {s with π:=s.π.Nh (Sd.tp a).it0}):Ω (Cl Ξ w) A (VV (.ο a)) Q E s:=rT c h
end
instance BV(d1 d2:Sd):Prop:=∀xs ys:Nt θ,Meets (Builtin.«zip.__new__» ([.MO "zip",d1.vu,d2.vu],[])) (λ_ R s=>d1.hp xs s.π/\d2.hp ys s.π/\R (.ok (.UX (.ο (s⁻¹+4)))) {s with π:=db s.π d1.it0 d2.it0})
def FR(x:NB)(t:XM)(b:υ):BV (.tx x t) (.tp b):=λxs ys=>.of_wp λΞ w A R s h=>by
 let⟨hp,g,d,f,os⟩:=s;let⟨i,a,h⟩:=h;let c:=ZV;let a:(hp.Nh (Sd.tx x t).it0).O1 b ys:=WF.Oq a λo e=>sy _ e;change Ω _ _ (Builtin.«zip.__new__» ([.MO "zip",.NA x t,.ο b],[])) _ _ _
 wp_walk using ni,bX a
 refine(0,3);simp only[db]at h;simpa[Op,Builtin.OV.S3,Φ.XL]using h
def FS(x:NB)(t:XM)(b:υ):BV (.tx x t) (.ls b):=λxs ys=>.of_wp λΞ w A R s h=>by
 let⟨hp,g,d,e,os⟩:=s;let⟨f,a,h⟩:=h;let c:=ZV;let a:(hp.Nh (Sd.tx x t).it0).SM b ys:=NR.SM.Nh a _;change Ω _ _ (Builtin.«zip.__new__» ([.MO "zip",.NA x t,.ο b],[])) _ _ _
 wp_walk using ni,Jd a
 refine(0,3);simp only[db]at h;simpa[Op,Builtin.OV.S3,Φ.XL]using h
def FT(a b:υ):BV (.ls a) (.ls b):=λxs ys=>.of_wp λΞ w A R s h=>by
 let⟨hp,g,d,i,os⟩:=s;let⟨e,c,h⟩:=h;let f:=ZV;let e:hp.SM a xs:=e;let c:(hp.Nh (Sd.ls a).it0).SM b ys:=NR.SM.Nh c _;change Ω _ _ (Builtin.«zip.__new__» ([.MO "zip",.ο a,.ο b],[])) _ _ _
 wp_walk using Jd e,Jd c
 refine(0,3);simp only[db]at h;simpa[Op,Builtin.OV.S3,Φ.XL]using h
section
variable{prog:Program}{w:World}{A:Around}{E:Value->Shared->Prop}{s:Shared}
def Cw(M:BV d1 d2)(j:d1.hp xs s.π)(i:d2.hp ys s.π)(h:∀h',VF h' (s⁻¹+4) (s⁻¹+2) (s⁻¹+3) .ε->Pn h' (s⁻¹+2) (.ο s⁻¹) (.ο (s⁻¹+1))->Pn h' (s⁻¹+3) .ε .ε->
   d1.pl s⁻¹ 0 h'->d2.pl (s⁻¹+1) 0 h'->(∀c o,s.π.ψ c<*o->h'.ψ c<*o)->Q (.ο (s⁻¹+4)) {s with π:=h'}):Ω (Cl Ξ w) A (Qk (.MO "zip") [d1.vu,d2.vu]) Q E s:=by
 refine callType_new F.called_zip (!0) (F.typeCall_zip_2 _ _) (F.newCall_zip_2 _ _) (λb=>F.args_object_init_3 b _ _) F.entry_zip_new (M xs ys) (j,i,3);let a:∀(g:NR)(o:Rp)(n:Φ),g.Nr.MX=n->o.isFreed=η->(g.Nh o).ψ n<*o:=λg o n e f=>by rw[<-e];show MV g f
 let d:VF (db s.π d1.it0 d2.it0) (s⁻¹+4) (s⁻¹+2) (s⁻¹+3) .ε:=a _ _ _ (by simp[Op]) ζ;show((_,d,1),h _ d (sy _ (sy _ (a _ _ _ (by simp[Op]) ζ))) (sy _ (a _ _ _ (by simp[Op]) ζ))
  (rV (sy _ (sy _ (sy _ (sy _ (a _ _ _ ζ (jq _))))))) (rV (sy _ (sy _ (sy _ (a _ _ _ (by simp[Op]) (jq _))))))
  λc o e=>sy _ (sy _ (sy _ (sy _ (sy _ e)))))
end
end ZP
abbrev E1(d1 d2:Sd):It:=⟨λi H=>∃xs ys a b,d1.UU H xs/\d2.UU H ys/\xs[i]?=δ a/\ys[i]?<*b,λi H v H'=>∃p xs ys a b,d1.UU H xs/\d2.UU H ys/\xs[i]?=δ a/\ys[i]?=δ b/\v=.ο p/\H p=ε/\H'=MT H p (.No [a,b]),
 λi H=>∃xs ys,d1.UU H xs/\d2.UU H ys/\xs.β=ys.β/\i=xs.β⟩
def gB{d:Sd}(x:d.pl it i h):∃o,h.ψ it=δ o/\∀v,o.NL≠.OA v:=by
 cases d with
 |tx y t=>let⟨o,e,_,dd⟩:=x;show(o,e,λv q=>by rw[dd]at q;cases q)
 |tp a=>let⟨o,e,_,dd⟩:=x;show(o,e,λv q=>by rw[dd]at q;cases q)
 |ls a=>let⟨o,e,_,dd⟩:=x;show(o,e,λv q=>by rw[dd]at q;cases q)
def bJ{d:Sd}(x:d.pl it i h)(k:∀o,h.ψ it<*o->h'.ψ it<*o):d.pl it i h':=by
 cases d with
 |tx y t=>let⟨o,e,r⟩:=x;show(o,k o e,r)
 |tp a=>let⟨o,e,r⟩:=x;show(o,k o e,r)
 |ls a=>let⟨o,e,r⟩:=x;show(o,k o e,r)
def mT{g:St}{d:Sd}(I:f' X f g H s)(h:d.UU H xs):∃b,d.hp b s.π:=by
 cases d with
 |tx y t=>show(#[],Os.Of)
 |tp a=>
  let⟨b,_,p,_⟩:=I.P_ (u0.of (show H a=_ from h));show(_,p)
 |ls a=>
  let⟨b,_,⟨o,n,e,c,_,dd⟩,_⟩:=I.Qx (o5.of (show H a=_ from h));show(b.χ,o,e,c,n,dd)
def Je{X:Cx}{L:St}{d:Sd}(I:f' X J L H s)(F:A.PR=ε)(h:d.UU H xs)(l:H it=ε)(hp:d.pl it i s.π):∃f P S,TW X.Ξ X.w A it f xs.β P S/\(∀c∈f,c=it\/∃u,H c<*u)/\S i s.π/\(∀j g,S j g->d.pl it j g)/\∀j v x,P j v->xs[j]?<*x->ae x v:=by
 cases d with
 |tx y t=>
  let h:xs=y.Tc.NF.NN λc=>V.NA ⟨#[c]⟩:=h;refine([it],λi v=>∃c u,y.Tc[i]?=δ c/\v=.NA ⟨#[c]⟩ u,ZP.CW y t it,?_,λc B=>.NJ (Ay B),hp,λj g z=>z,λj v x k q=>?_)
  .let e:xs.β=y.Tc.MX:=by rw[h];simp
   rw[e];show ZP.draws F it y t
  .obtain ⟨c,u,N,ζ⟩:=k;rw[h,tS,Qd,N]at q;cases q;show(u,1)
 |tp a=>
  let⟨b,r,p,_⟩:=I.P_ (u0.of (show H a=_ from h));let D:s.π.O1 a b.χ:=p;let m:a≠it:=λz=>by rw[<-z,show H a=_ from h]at l;cases l
  let e:xs.β=b.χ.MX:=by rw[r.β];simp
  refine([it,a],λi v=>b.χ[i]?<*v,λi h=>h.Rq it a i/\h.O1 a b.χ,by rw[e];show dF F it a m b.χ,λc B=>?_,(hp,D),λj g z=>z.1,λj v x k q=>?_)
  .rcases MP.mp B with z|z
   .exact .NJ z
   .rw [Ay z];show .NU (_,h)
  .obtain ⟨u,E,C⟩:=r.VI q;let k:b.χ[j]?<*v:=k;rw[QM,E]at k;cases k;show C
 |ls a=>
  let⟨b,r,⟨o,n,M,O,_,dd⟩,_⟩:=I.Qx (o5.of (show H a=_ from h));let D:s.π.SM a b.χ:=(o,M,O,n,dd);let m:a≠it:=λz=>by rw[<-z,show H a=_ from h]at l;cases l
  let e:xs.β=b.χ.MX:=by rw[r.β];simp
  refine([it,a],λi v=>b.χ[i]?<*v,λi h=>h.Yh it a i/\h.SM a b.χ,by rw[e];show TW.Qx F it a m b.χ,λc B=>?_,(hp,D),λj g z=>z.1,λj v x k q=>?_)
  .rcases MP.mp B with z|z
   .exact .NJ z
   .rw [Ay z];show .NU (_,h)
  .obtain ⟨u,E,C⟩:=r.VI q;let k:b.χ[j]?<*v:=k;rw[QM,E]at k;cases k;show C
def d8{K:Nn}(d1 d2:Sd)(z TI TO i1 i2:υ)(M:TV z TI TO i1 i2 TI TI):dJ P w K (.Qw es kt pt) (E1 d1 d2) [z,TI,TO,i1,i2] z (λi h=>VF h z TI TO .ε/\Pn h TI (.ο i1) (.ο i2)/\(∃a b,Pn h TO a b)/\d1.pl i1 i h/\d2.pl i2 i h)  where
 mem:=by simp
 Uf:=λi h J c j=>by
  let⟨hz,f,⟨a,b,d⟩,t,s2⟩:=J;simp only[MP,NV,N7]at j;rcases j with ζ|rfl|rfl|rfl|rfl
  .exact (_,hz,λv q=>by cases q)
  .exact (_,f,λv q=>by cases q)
  .exact (_,d,λv q=>by cases q)
  .exact gB t
  .exact gB s2
 QC:=λi h h'⟨hz,f,⟨a,b,d⟩,t,s2⟩k=>
  (k z (!1) _ hz,k TI (!1) _ f,(a,b,k TO (!1) _ d),bJ t (k i1 (!1)),bJ s2 (k i2 (!1)))
 Uy:=by
  rintro X hP hw hK j i N s σ H E I n⟨hz,f,⟨a,b,d⟩,t,s2⟩⟨xs,ys,U,R,r,p,C,B⟩;subst hP hw hK;let l1:i<xs.β:=(q5 C).1;let l2:i<ys.β:=(q5 B).1;let⟨f1,P1,S1,D1,Z,y,b1,r1⟩:=Je (A:=X.A.S5) I (I.ok.hd j) r (n i1 (!1)).1 t;let⟨f2,P2,S2,D2,m2,x,b2,r2⟩:=Je (A:=X.A.S5) I (I.ok.hd j) p (n i2 (!1)).1 s2;let m:∀{c:υ}{u:HO},H c<*u->c∉[z,TO,i1,i2]:=λ{c u}e O=>by
   have:c∈[z,TI,TO,i1,i2]:=by simp at O⊢;rcases O with q|q|q|q<;>simp[q]
   rw[(n c this).1]at e;cases e
  let Q:s.Se (.ο z) "zip":=(_,hz,1);unfold Uu;refine d_ (S_ (OT (OH:=NB.Ni "__next__") Q F.S' (Oj F.S' Q F.YY (ZP.Gm D1 D2
   (λc j=>(Z c j).Wi id λag=>by let⟨u,e⟩:=ag;show m e) (λc j=>(m2 c j).Wi id λD=>by let⟨u,e⟩:=D;show m e)
   M hz f d y x l1 l2 λv1 v2 g W p1 p2 gz as ar g1 g2 Y gk=>j' (0,3)) (F.Xt _))))
  let ra:=r1 i v1 U p1 C;let rb:=r2 i v2 R p2 B;refine wpAny_letOwnedTupleGo_zip (s:={s with π:=g,MW:=W}) gz λg' an gs=>?_;let L:∀b o,b≠z->g.ψ b<*o->g'.ψ b<*o:=λb o l e=>(gs.2 b l).ν e;let nz:s⁻¹≠z:=Qg (lt_size hz);let No:Az X.Ξ X.w (MT H s⁻¹ (.No [U,R])) g' s⁻¹ (.No [U,R]):=
   (sT (by change 2≤16777216;decide),[v1,v2],.NZ ra (.NZ rb .Ow),(_,L _ _ nz Y,1,(0),1))
  refine(.ο s⁻¹,_,I.Wx (S:=[z,TO,i1,i2]) (h':=g') (t':=W) (λb o l e=>L b o (λq=>l (by simp[q])) (gk b o l e)) (λb l=>n b (by simp at l⊢;rcases l with q|q|q|q<;>simp[q])) No,1,
   (_,xs,ys,U,R,r,p,C,B,1,I.Og.OG (LE _),1),(an,L _ _ M.TIz as,(7,L _ _ M.TOz ar),bJ (b1 _ _ g1) λo e=>L _ o M.i1z e,bJ (b2 _ _ g2) λo e=>L _ o M.i2z e),λb l=>?_)
  let lt:b<s⁻¹:=by
   let⟨o1,e1,_⟩:=gB t;let⟨o2,e2,_⟩:=gB s2;simp only[MP,NV,N7]at l;rcases l with ζ|rfl|rfl|rfl|rfl
   .exact lt_size hz
   .exact lt_size f
   .exact lt_size d
   .exact lt_size e1
   .exact lt_size e2
  rw[a_ (M_ lt)];show(n b l).1
 done:=by
  rintro X hP hw hK j i N s σ H E I n⟨hz,f,⟨a,b,d⟩,t,s2⟩⟨xs,ys,r,p,hl,hi⟩;subst hP hw hK;let⟨f1,P1,S1,D1,Z,y,b1,r1⟩:=Je (A:=X.A.S5) I (I.ok.hd j) r (n i1 (!1)).1 t;let⟨f2,P2,S2,D2,m2,x,b2,r2⟩:=Je (A:=X.A.S5) I (I.ok.hd j) p (n i2 (!1)).1 s2;let m:∀{c:υ}{u:HO},H c<*u->c∉[z,TO,i1,i2]:=λ{c u}e O=>by
   have:c∈[z,TI,TO,i1,i2]:=by simp at O⊢;rcases O with q|q|q|q<;>simp[q]
   rw[(n c this).1]at e;cases e
  let Q:s.Se (.ο z) "zip":=(_,hz,1);unfold Uu;refine d_ (S_ (OT (OH:=NB.Ni "__next__") Q F.S' (Oj F.S' Q F.YY (ZP.ES D1 D2
   (λc j=>(Z c j).Wi id λD=>by let⟨u,e⟩:=D;show m e) (λc j=>(m2 c j).Wi id λJ=>by let⟨u,e⟩:=J;show m e)
   M hz f d y x (.NJ hi) λg e W gk he=>?_) (F.Xt _))))
  let⟨o,ho,ab⟩:=he;refine d_ (Sr (s:={s with π:=g,MW:=W}) (T:="StopIteration") (b:=ξ) (o,ho,ab) YS (j' (1,3)));show I.ZQ (S:=[z,TO,i1,i2]) (λb o l e=>gk b o l e) λb l=>n b (by simp at l⊢;rcases l with q|q|q|q<;>simp[q])
 Yn:=λ_ _ _ _ _ st h=>Ub st.1 h
abbrev zB(H:Hp)(v1 v2:V)(R:(XM->Sd)->Sd->Prop):Prop:=
 (∃x b xs,v1=.NA x/\v2=.ο b/\H b=δ (.No xs)/\R (.tx x) (.tp b))\/(∃x b xs,v1=.NA x/\v2=.ο b/\H b=δ (.M7 xs)/\R (.tx x) (.ls b))\/∃a b xs ys,v1=.ο a/\v2=.ο b/\H a=δ (.M7 xs)/\H b=δ (.M7 ys)/\R (λ_=>.ls a) (.ls b)
abbrev vJ(t:TA):TI:=λσ H R=>t σ H λvs H1=>∃v1 v2,vs=[v1,v2]/\zB H1 v1 v2 λd1 d2=>∀k,R (E1 (d1 k) d2) H1
def mX{N:γ Rb}{F:Φ}{E:Sh}{p Nj:Sh}(hg:Gl X "zip")(Z:X.mg "zip"=ε)(ha:PA X [a,b] ta)(Y:(Θ [a,b] X.KK=(η,OM a X.KK,)::Θ [b] X.KK)>>>4)(m:((OF Nj (Θ [b] X.KK)).Ql (·.1)=η)>>>4):PI X (.Qw N F E) (.QG (.N0 "zip" p) [a,b] [] Nj) (vJ ta):=by
 intro e s C H R I h;refine Nc (Ad I hg Z boot_zip (Oi.Sf.Pw (ri (ha Nj e s C H _ I h) λus d o=>?_) Y m));let⟨vs,l,j,O,v1,v2,ev,hz⟩:=o;subst ev;let⟨k,D,ζ,B,z⟩:=bz O;let r:∀(d1 d2:Sd)(xs ys:γ V),ZP.BV d1 d2->k=d1.vu->D=d2.vu->d1.UU l xs->d2.UU l ys->R (E1 d1 d2) l->Ω (Cl X.Ξ X.w) X.A (Qk (.MO "zip") [k,D]) (λv s2=>Ω (Cl X.Ξ X.w) X.A (VV v) (JG X e C (.Qw N F E) R) X.xe s2) X.xe d:=by
  rintro d1 d2 xs ys M ζ ζ W U q;let⟨T,Q⟩:=mT j W;let⟨S,P⟩:=mT j U;refine ZP.Cw M Q P λg L y u g1 g2 gk=>Ub (s:={d with π:=g}) L ?_;let ap:TV (d⁻¹+4) (d⁻¹+2) (d⁻¹+3) d⁻¹ (d⁻¹+1) (d⁻¹+2) (d⁻¹+2):=by
   constructor<;>show GH (!6)
  refine(_,[d⁻¹+4,d⁻¹+2,d⁻¹+3,d⁻¹,d⁻¹+1],_,E1 d1 d2,l,1,j.SW (t':=d.MW) gk,d8 d1 d2 _ _ _ _ _ ap,
   (L,y,(7,u),g1,g2),λc J=>?_,q)
  let f:d⁻¹≤c:=by
   simp only[MP,NV,N7]at J;rcases J with ζ|rfl|rfl|rfl|rfl
   .exact Od _ _
   .exact Od _ _
   .exact Od _ _
   .exact LE _
   .exact Od _ _
  show j.Yw f (j.Og.OG f)
 rcases hz with⟨x,b,xs,ζ,ζ,i,q⟩|⟨x,b,xs,ζ,ζ,i,q⟩|⟨a,b,xs,ys,ζ,ζ,n,i,q⟩
 .obtain ⟨t,ζ⟩:=(show ∃t,k=θ.NA x t from B);cases z;show r (.tx x t) (.tp b) _ _ (ZP.FR x t b) ζ ζ ζ i (q t)
 .obtain ⟨t,ζ⟩:=(show ∃t,k=θ.NA x t from B);cases z;show r (.tx x t) (.ls b) _ _ (ZP.FS x t b) ζ ζ ζ i (q t)
 .cases B;cases z;show r (.ls a) (.ls b) _ _ (ZP.FT a b) ζ ζ n i (q 0)
abbrev mD(a:υ):It:=⟨λi H=>∃xs x,H a=δ (.M7 xs)/\xs[i]?<*x,λi H v H'=>∃p x xs,H a=δ (.M7 xs)/\xs[i]?=δ x/\v=.ο p/\H p=ε/\H'=MT H p (.No [.MS (i:MN),x]),λi H=>∃xs,H a=δ (.M7 xs)/\i=xs.β⟩
def kr{K:Nn}(a e it:υ)(r:e≠it):dJ P w K (.Qw es kt pt) (mD a) [e,it] e (λi h=>(∃f,IsEnum h e it i f)/\h.Yh it a i)  where
 mem:=by simp
 Uf:=λi h ab c C=>by
  let⟨⟨f,j⟩,⟨M,m,_,d1⟩⟩:=ab;simp only[MP,NV,N7]at C;rcases C with ζ|rfl
  .exact (_,j,λv q=>by cases q)
  .exact (M,m,λv q=>by rw[d1]at q;cases q)
 QC:=λi h h' Z k=>by let⟨⟨f,j⟩,⟨M,m,r1⟩⟩:=Z;show((f,k e (!1) _ j),(M,k it (!1) _ m,r1))
 Uy:=by
  rintro X hP hw hK C i D s σ H E I O⟨⟨f,j⟩,y⟩hg;subst hP hw hK;let⟨xs,x,N,hx⟩:=hg;let⟨d,T,p,hz⟩:=I.Qx (o5.of N);let⟨u,hu,ru⟩:=T.VI hx;let B:s.π.SM a d.χ:=p.QW;let W:i<d.χ.MX:=by
   have:=(q5 hu).1;simpa using this
  let t:a≠it:=by
   let⟨o,m,c1,_⟩:=B;let⟨o2,J,L,_⟩:=y;rintro ζ;rw[m]at J;cases J;rw[c1]at L;show MM L (!0)
  let Y:e≠a:=by
   let⟨o,m,c1,_⟩:=B;rintro ζ;let F:s.π.ψ e<*_:=j;rw[m]at F;cases F;show MM (show θ.MO "enumerate"=θ.MO "list" from c1) (!0)
  refine Ua (TW.Qx (Ξ:=X.Ξ) (w:=X.w) (A:=X.A.S5) (I.ok.hd C) it a t d.χ) j (y,B) W r (by simp[r,Y]) λv g R pv ho st U V_ gk=>(0,3);let ev:v=u:=by
   have:d.χ[i]?<*v:=pv;rw[QM,hu]at this;show(ω.δ.QK this).MQ
  subst ev;refine Tv (s:={s with π:=g,MW:=R+1}) ho λg' ge gs=>?_;let Q:∀b o,b≠e->g.ψ b<*o->g'.ψ b<*o:=λb o l q=>(gs.2 b l).ν q;let ne:s⁻¹≠e:=Qg (lt_size j);let No:Az X.Ξ X.w (MT H s⁻¹ (.No [.MS (i:MN),x])) g' s⁻¹ (.No [.MS (i:MN),x]):=
   (sT (by change 2≤16777216;decide),[.MS i R,v],.NZ (_,ζ) (.NZ ru .Ow),(_,Q _ _ ne U,1,(0),1))
  refine(.ο s⁻¹,_,I.Wx (S:=[e,it]) (h':=g') (t':=R+1) (λb o l q=>Q b o (λz=>l (by simp[z])) (gk b o (λz=>l (by simp[z])) (λz=>l (by simp[z])) q)) O No,1,
   (_,x,xs,N,hx,1,I.Og.OG (LE _),1),((_,by rw[MN.Za];show ge),st.1.at λo q=>Q _ o (λz=>r z.MQ) q),λb l=>?_)
  let lt:b<s⁻¹:=by
   let⟨M,m,_⟩:=y;simp only[MP,NV,N7]at l;rcases l with ζ|rfl
   .exact lt_size j
   .exact lt_size m
  rw[a_ (M_ lt)];show(O b l).1
 done:=by
  rintro X hP hw hK C i D s σ H E I O⟨⟨f,j⟩,y⟩n;subst hP hw hK;let⟨xs,N,ζ⟩:=n;let⟨d,T,p,hz⟩:=I.Qx (o5.of N);let B:s.π.SM a d.χ:=p.QW;let t:a≠it:=by
   let⟨o,m,c1,_⟩:=B;let⟨o2,J,L,_⟩:=y;rintro ζ;rw[m]at J;cases J;rw[c1]at L;show MM L (!0)
  let V_:xs.β=d.χ.MX:=by rw[T.β];simp
  refine Ur (TW.Qx (Ξ:=X.Ξ) (w:=X.w) (A:=X.A.S5) (I.ok.hd C) it a t d.χ) j (by rw[<-V_];show y,B) λg gs=>(1,3);show I.ZQ (S:=[e,it]) (λb o l q=>gs b o (λz=>l (by simp[z])) q) O
 Yn:=λ_ _ _ _ _ st h=>by
  let⟨⟨f,j⟩,_⟩:=st;show RX j h
inductive uQ(R:It->Hp->Prop)(vs:List V)(H1:Hp):Prop
 |mk (a xs:_) (_:vs=[.ref a]) (_:((H1 a=some (.tup xs)/\R (vv a) H1)\/(H1 a=some (.lst xs)/\R (mD a) H1)))
abbrev lT(t:TA):TI:=λσ H R=>t σ H (uQ R)
def Jf{L:γ Rb}{C:Φ}{B:Sh}{p Nj:Sh}(F:Gl X "enumerate")(E:X.mg "enumerate"=ε)(J:PA X [a] ta)(D:(Θ [a] X.KK=(η,OM a X.KK,)::Θ [] X.KK)>>>4)(n:((OF Nj (Θ [] X.KK)).Ql (·.1)=η)>>>4):PI X (.Qw L C B) (.QG (.N0 "enumerate" p) [a] [] Nj) (lT ta):=by
 intro e s w H R I h;refine Nc (Ad I F E Oi.Sf.boot_enumerate (Oi.Sf.Pw (ri (J Nj e s w H _ I h) λus d z=>?_) D n));let⟨vs,t,f,A,b,xs,ζ,z⟩:=z;let⟨M,ζ,y⟩:=Dr A;cases y;let v:∀c∈[d⁻¹+1,d⁻¹],be X e t c:=λc u=>by
  let j:d⁻¹≤c:=by
   simp only[MP,NV,N7]at u;rcases u with ζ|rfl
   .exact Od _ _
   .exact LE _
  show f.Yw j (f.Og.OG j)
 rcases z with⟨m,q⟩|⟨m,q⟩
 .obtain ⟨i,x,l,hz⟩:=f.P_ (u0.of m);refine mo (show d.π.O1 b i.χ from l) λg k r o=>RX (s:={d with π:=g}) k ?_;show(_,[d⁻¹+1,d⁻¹],_,vv b,t,1,f.SW (t':=d.MW) o,ko b _ _ (GH (!6)),((_,k),r),v,q)
 .obtain ⟨i,x,l,hz⟩:=f.Qx (o5.of m);refine call_enumerate_list l.QW λg k r N o=>RX (s:={d with π:=g}) k ?_;show(_,[d⁻¹+1,d⁻¹],_,mD b,t,1,f.SW (t':=d.MW) o,kr b _ _ (GH (!6)),((_,k),r),v,q)
def jS{K:Nn}{k:St}(j:H c<*.M7 xs)(d:υ->Φ->γ V->Hp->Prop)(hz:xs.β≤Λ)(h0:∀D,H D=ε->d D 0 [] (MT H D (.M7 [])))(q:∀(D:υ)(i:Φ)(x:V)(ys:γ V)(H' e:Hp)(f:VK),H D=ε->xs[i]?<*x->a' H H'->H' D<*.M7 ys->d D i ys H'->a' H' e->
   (∀y g,g D<*.M7 ys->a' H (MT g D (.M7 (ys++[y])))->d D (i+1) (ys++[y]) (MT g D (.M7 (ys++[y])))->f y g)->o (δ (.MS (i:MN))::δ x::k) e f)(r:∀D ys H',H D=ε->a' H H'->H' D<*.M7 ys->d D xs.β ys H'->Q (.ο D) H'):mF K (mD c) o k H Q:=by
 refine J1 (n:=xs.β) (λi a b=>a=.MS (i:MN)/\xs[i]?<*b) d hz (λi m s h=>(xs,xs[i],s _ _ j,n_ h)) ?_ (λm s=>(xs,s _ _ j,1)) h0 ?_ r
 .rintro i m x e s h⟨p,y,zs,l,A,z,w,v⟩;rw[s _ _ j]at l;cases l;show(p,_,y,z,(1,A),w,v)
 .rintro D i a b ys H' e f u J⟨rfl,t⟩I F E C B;show q D i b ys H' e f u t I F E C B
end L2
namespace RA
open L2
def jR{e:St}(l:∀R:γ V->Hp->Prop,R [.ο c] H->t e H R)(m:o=.M7 xs\/o=.No xs)(b:H c<*o)(a:υ->Φ->γ V->Hp->Prop)(hz:xs.β≤Λ)(h0:∀D,H D=ε->a D 0 [] (L2.MT H D (.M7 [])))(f:∀(D:υ)(i:Φ)(x:V)(ys:γ V)(H' j:Hp)(h:VK),H D=ε->xs[i]?<*x->a' H H'->H' D<*.M7 ys->a D i ys H'->a' H' j->
   (∀y d,d D<*.M7 ys->a' H (L2.MT d D (.M7 (ys++[y])))->a D (i+1) (ys++[y]) (L2.MT d D (.M7 (ys++[y])))->h y d)->k (δ (.MS (i:MN))::δ x::e) j h)(g:∀D ys H',H D=ε->a' H H'->H' D<*.M7 ys->a D xs.β ys H'->Q (.ο D) H'):kC K (lT t) k e H Q:=by
 refine l _ (c,xs,1,3);rcases m with ζ|rfl
 .exact .NU (b,jS (K:=K) b a hz h0 f g)
 .exact .NJ (b,mi (K:=K) b a hz h0 f g)
end RA
namespace L2
open PySem.Spec PyProof.Rows
abbrev E7(fv:MZ)(x:MN)(v:θ):Prop:=(fv=ξ/\∃b:MZ,v=.Ph b/\x=if b then 1 else 0)\/(fv=η/\∃t,v=.MS x t)
abbrev Lz(P:NE)(w:N1)(fv:MZ)(x:MN):MN:=if fv=ξ then YL x else(N5 P w).Yt x
section
variable{P:Program}{w:World}{fv:Bool}
def E7.QK(a:E7 fv x v)(b:E7 fv y v):x=y:=by
 rcases a with⟨rfl,c,ζ,ζ⟩|⟨rfl,t,ζ⟩
 .rcases b with⟨_,d,e,ζ⟩|⟨e,_⟩
  .cases e;rfl
  .cases e
 .rcases b with⟨e,_⟩|⟨_,t',e⟩
  .cases e
  .cases e;rfl
def E7.UP(a:E7 fv x v)(q:Q (Lz P w fv x) {s with MW:=s.MW+1}):Ω (Cl P w) A (UP v) Q E s:=by
 rcases a with⟨rfl,b,ζ,ζ⟩|⟨rfl,t,ζ⟩
 .exact (EW P w).UP (k:=b) (by cases b<;>rfl) q
 .exact (N5 P w).UP (k:=x) (YV _ _ _ _) q
def E7.eq(a:E7 fv x u)(b:E7 fv y v):PV.R6 A s u v (decide (x=y)):=by
 rcases a with⟨rfl,c,ζ,ζ⟩|⟨rfl,t,ζ⟩
 .rcases b with⟨_,d,ζ,ζ⟩|⟨e,_⟩
  .let h:=PV.R6.Y8 (A:=A) (s:=s) c d;rw[show(c==d)=decide ((if c then(1:MN)else 0)=if d then 1 else 0) by cases c<;>cases d<;>rfl]at h;show h
  .cases e
 .rcases b with⟨e,_⟩|⟨_,t',ζ⟩
  .cases e
  .let h:=PV.R6.Zd (A:=A) (s:=s) x t y t';rw[show(x==y)=decide (x=y) by rw[MZ.RG];simp]at h;show h
def E7.X3(a:E7 fv x v):carriedByValue v=ξ:=by
 rcases a with⟨rfl,c,ζ,ζ⟩|⟨rfl,t,ζ⟩<;>rfl
end
section
variable(P:Program)(w:World)(fv:Bool)
abbrev E8(h:NR)(k:γ MN)(a:υ):Prop:=∃(o:Rp)(n:Φ)(v:θ)(b:υ)(x:MN)(ks:γ MN),k=x::ks/\h.ψ a=δ o/\o.OO=.MO "tuple"/\o.NL=.Sz #[v,.ο b] n/\E7 fv x v/\U8 (N5 P w) h ks b
abbrev gg:γ MN->MN
 |[]=>0
 |x::ks=>YL (Builtin.Qw.tupleHashOf [Lz P w fv x,tupleKeyHash (N5 P w) ks])
end
section
variable{P:Program}{w:World}{fv:Bool}
def E8.QK(g:E8 P w fv h x a)(f:E8 P w fv h y a):x=y:=by
 let⟨o,n,v,b,A,xs,ζ,h1,_,k,j,i⟩:=g;let⟨B,C,e,u,z,ys,ζ,d,_,c,m,l⟩:=f;rw[h1]at d;cases d;rw[k]at c;injection c with t _;let s:[v,θ.ο b]=[e,.ο u]:=Nb Nt.NF t;injection s with r q;injection q with p _;cases p;subst r;rw[j.QK m,i.QK l]
def E8.Oq{p q}(x:E8 P w fv h k a)(c:h.ψ d<*o)(e:o.NL=.Pz p q)(f:Pg d h h'):E8 P w fv h' k a:=by
 let⟨j,n,v,b,i,xs,ζ,h1,h2,g,m,l⟩:=x;refine(j,n,v,b,i,xs,1,(f.2 a ?_).ν h1,h2,g,m,l.Oq c e f);rintro ζ;rw[h1]at c;cases c;rw[g]at e;cases e
def E9(d:A.Pa+1<Qn)(x:E8 P w fv s.π k a)(q:Q (gg P w fv k) {s with MW:=s.MW+(k.β+2)}):Ω (Cl P w) A (UP (.ο a)) Q E s:=by
 let⟨o,n,v,b,c,xs,ζ,h1,h2,h,g,f⟩:=x;refine Δ.W.Z_ (T:="tuple") (o,h1,h2) F.slot_tuple_hash F.entry_tuple_hash (F.args_tuple_hash_1 _) (XJ _) (.NU (!6)) ?_;refine d_ (m:=Builtin.Qw.ZR (.ο a)) (wpAny_tupleItemsOf h1 h (d_ ?_));rw[<-U1];change Ω _ _ (YW [v,θ.ο b] _ _) _ _ _;rw[Qi];refine d_ (d_ (g.UP (d_ (j' (j' ?_)))));dsimp only;rw[Qi];refine d_ (d_ (wpAny_pyHash_tuple (Va:=N5 P w) (by change A.S5.Pa<Qn;rw[N2.Ug];show d) f (d_ (j' (j' ?_)))));dsimp only;rw[ST];refine j' (d_ (UD (j' (4,3))));let e:s.MW+1+(xs.β+1)+1=s.MW+((c::xs).β+2):=by rw[NW];lia
 simpa[e,gg]using q
def vX(B:A.Pa+1<Qn)(p:E8 P w fv s.π x a)(m:E8 P w fv s.π y b)(E:θ->MJ->Prop)(Q:MZ->MJ->Prop)(q:Q (decide (x=y)) s):Ω (Cl P w) A (Zi (.ο a) (.ο b)) Q E s:=by
 by_cases h:a=b
 .subst h;rw[NM (p.QK m)]at q;show PV.R6.OR (.ο a) P w E Q q
 .obtain ⟨o,n,v,c,g,xs,ζ,h1,h2,F,D,C⟩:=p;let⟨u,z,l,k,f,ys,ζ,M,L,J,I,H⟩:=m;let i:A.S5.Pa<Qn:=by rw[N2.Ug];show B
  let d:PV.R6 A.S5 s (.ο c) (.ο k) (decide (xs=ys)):=λR r T S t=>wpAny_eqBool_tuple (Va:=N5 R r) i (gh C) (gh H) t;let QD:=PV.R6.of_refs (A:=A) h (PV.RcAt.tuples (s:=s) (e:=λj=>if j=0 then decide (g=f)else decide (xs=ys)) (o,h1,h2,n,F) (u,M,L,z,J) (!6) (λj l1 l2=>by
   match j,l1,l2 with
   |0,_,_=>show D.eq I
   |1,_,_=>show d
   | n+2,l1,_=>show MM l1 (by change ¬ (n+2<2);lia)))
  refine QD P w E Q ?_;let e:((γ.N4 (min (#[v,.ο c]:Nt θ).MX (#[l,.ο k]:Nt θ).MX)).QD (λj=>if j=0 then decide (g=f)else decide (xs=ys))&&(#[v,.ο c]:Nt θ).MX==(#[l,.ο k]:Nt θ).MX)=decide (g::xs=f::ys):=by
   change (decide (g=f)&&(decide (xs=ys)&&ξ)&&ξ)=_;by_cases O:g=f<;>by_cases N:xs=ys<;>simp[O,N]
  rw[e];show q
def oi(x:E8 P w fv s.π k a)(q:Q ξ s):Ω (Cl P w) A (XF 8 (.ο a)) Q E s:=by
 let⟨o,n,v,b,m,xs,ζ,h1,h2,g,f,e⟩:=x;refine IX (n:=7) (o,h1,h2,n,g) (λu c R r=>?_) q;rcases MP.mp (show u∈[v,.ο b]from c)with ζ|c
 .rw [UL _ f.X3];show j' r
 .rw [Ay c];let⟨o,d,n,l,j,i,h⟩:=e;refine IX (n:=6) (o,l,j,n,i) (λv c R r=>?_) r;rw[UL _ (h.X3 v c)];show j' r
end
abbrev tR(P:NE)(w:N1)(fv:MZ):HeapKind P w (γ MN) where
 is:=E8 P w fv
 Yt:=gg P w fv
 draws:=λk=>k.β+2
 Yo:=λA=>A.Pa+1<Qn
 QK:=λa b=>a.QK b
 Oq:=λx ho hd hs=>x.Oq ho hd hs
 UP:=λhu hk h=>E9 hu hk h
 Zi:=λhu hx hy h=>vX hu hx hy _ _ h
 Y3:=λhk h=>oi hk h
abbrev sd(fv:MZ)(x:MN):V:=if fv=ξ then .bl (decide (x=1))else .MS x
abbrev J7(fv:MZ)(H:Hp)(k:γ MN)(a:υ):Prop:=∃(b:υ)(x:MN)(ks:γ MN),k=x::ks/\(fv=ξ->x=0\/x=1)/\H a=δ (.No [sd fv x,.ο b])/\FN H ks b
abbrev xS(P:NE)(w:N1)(fv:MZ):EX P w (γ MN) where
 Va:=tR P w fv
 Vz:=J7 fv
 ok:=λ{H h k a}e ok=>by
  let⟨b,x,ks,ζ,e0,e1,e2⟩:=e
  let⟨_,Zr,r,o,h1,h2,n,h3⟩:=(show Az P w H h a (.No [sd fv x,.ο b])from ok a _ e1)
  let⟨u1,u2,ζ,r1,r2⟩:=bz r
  cases(show u2=θ.ο b from r2)
  refine(o,n,u1,b,x,ks,1,h1,h2,h3,3,kx e2 ok)
  cases fv with
  |ξ=>
   cases(show u1=θ.Ph (decide (x=1))from r1)
   rcases e0 ζ with ζ|rfl
   .exact .NJ (1,η,5)
   .exact .NJ (1,ξ,5)
  |η=>
   let⟨t,ζ⟩:=(show ∃t,u1=θ.MS x t from r1)
   show .NU (1,t,1)
 Yo:=λ{A}hu=>(by change A.S5.Pa+1<Qn;rw[N2.Ug];lia,by change A.Pa+1<Qn;lia)
 SX:=λs hZ0=>by let⟨b,x,ks,e,e0,e1,e2⟩:=hZ0;show(b,x,ks,e,e0,s _ _ e1,s _ _ e2)
inductive TK where
 |i|t|q|p
 deriving DecidableEq
abbrev dK(P:NE)(w:N1):TK->EX P w (γ MN)
 |.q=>xS P w ξ
 |.p=>xS P w η
 |_=>Fv P w
def Jg(k:MN)(t:XM):θ.YT k (.MS k t)=ξ:=by simp[θ.YT]
abbrev nY(P:NE)(w:N1)(H:Hp)(d:υ)(y:V)(r:ω V):Prop:=
 (∃NS k,H d=δ (B4 (N5 P w) d NS)/\y=.MS k/\r=aF NS k) \/
 ∃ti NS k b,H d=δ (Bx (dK P w ti) d NS)/\(∀x∈NS,(dK P w ti).Vz H x.1 x.2.1)/\y=.ο b/\(dK P w ti).Vz H k b/\r=aE NS k
abbrev vT(P:NE)(w:N1)(H:Hp)(d:υ)(y v:V)(H':Hp):Prop:=
 (∃NS k,H d=δ (B4 (N5 P w) d NS)/\y=.MS k/\aF NS k=ε/\NS.β<Λ/\H'=MT H d (B4 (N5 P w) d (NS++[(k,v,)]))) \/
 ∃ti NS k b,H d=δ (Bx (dK P w ti) d NS)/\(∀x∈NS,(dK P w ti).Vz H x.1 x.2.1)/\y=.ο b/\(dK P w ti).Vz H k b/\aE NS k=ε/\NS.β<Λ/\H'=MT H d (Bx (dK P w ti) d (NS++[(k,b,v,)]))
section
variable{X:Cx}
inductive uf(P:Program)(w:World)(x:V)(y:V)(H:Hp)(Q:VK):Prop
 |mk (d o:_) (_:y=.ref d) (_:nY P w H d x o) (_:Q (.bl (!o.isSome)) H)
def oQ(m:X.A.Pa+64<Qn):AQ X (O8 .NotIn) (uf X.Ξ X.w):=by
 intro f s r H x y v u Q I c j h;let⟨d,o,ζ,g,q⟩:=h;cases j;rcases g with⟨NS,k,e,ζ,ζ⟩|⟨i,NS,k,b,e,n,ζ,l,ζ⟩
 .obtain ⟨t,ζ⟩:=(show ∃t,v=θ.MS k t from c);let⟨ns,_,vs,a,dd⟩:=Ey I.Og e;refine wpAny_notIn_of (Va:=N5 X.Ξ X.w) (k:=k) (Jg k t) ns dd.mapOf ?_;rw[<-JV (a.Zz k)];show(.bl _,H,I.Tw _,1,q)
 .cases c;show gY (D:=dK X.Ξ X.w i) m I e n l λs' p=>(.bl _,H,p,1,q)
def sO{c:St}(I:f' X a c H s)(g:nY X.Ξ X.w H d y o):s.Se (.ο d) "dict":=by
 rcases g with⟨NS,k,e,_⟩|⟨f,NS,k,b,e,h,_⟩
 .obtain ⟨_,_,vs,_,dd⟩:=Ey I.Og e;show dd.Q'
 .obtain ⟨_,_,vs,_,dd⟩:=du (D:=dK X.Ξ X.w f) I.Og e h;show dd.Q'
inductive zZ(P:Program)(w:World)(x:V)(y:V)(H:Hp)(Q:VK):Prop
 |mk (d v:_) (_:x=.ref d) (_:nY P w H d y (some v)) (_:Q v H)
def rR(C:X.A.Pa+64<Qn):CT X (zZ X.Ξ X.w):=by
 intro c f m s M H x y v u Q I r j h E;let⟨d,z,ζ,g,q⟩:=h;cases r;refine WZ (ops:=[.ο d,u]) (sO I g) Δ.F.UE.ρ ?_ E;rcases g with⟨NS,k,e,ζ,l⟩|⟨p,NS,k,b,e,J,ζ,B,l⟩
 .obtain ⟨t,ζ⟩:=(show ∃t,u=θ.MS k t from j);let⟨ns,_,vs,i,dd⟩:=Ey I.Og e;let⟨n,hw,a⟩:=au.Vn (v:=z) (o:=RY vs k) (by rw[l];show i.Zz k);show Uc (Va:=N5 X.Ξ X.w) (k:=k) (Jg k t) dd.mapOf hw (z,H,I.Tw _,a,q)
 .cases j;show sg (D:=dK X.Ξ X.w p) C I e J B l λn s' L a=>(z,H,L,a,q)
inductive yJ(P:Program)(w:World)(o:V)(i:V)(v:V)(H:Hp)(Q:Hp->Prop):Prop
 |mk (d H':_) (_:o=.ref d) (_:vT P w H d i v H') (_:Q H')
def oB(B:X.A.Pa+64<Qn):xN X (yJ X.Ξ X.w):=by
 intro n s J H o i v L z u Q I r m l h;let⟨d,H',ζ,g,q⟩:=h;cases r;rcases g with⟨NS,k,e,ζ,f,j,ζ⟩|⟨p,NS,k,b,e,E,ζ,y,f,j,ζ⟩
 .obtain ⟨t,ζ⟩:=(show ∃t,z=θ.MS k t from m);let⟨ns,hz,vs,a,dd⟩:=Ey I.Og e;refine wpAny_setItem_pairs (Va:=N5 X.Ξ X.w) (k:=k) (V_:=by rw[<-a.β];show hz) (Jg k t) dd λh' c C=>(_,3,q);let x:=au.UG (show au ε (RY vs k) by rw[<-f];show a.Zz k);rw[IY x]at c;show HX I (by rw[e];show Os.Of) C (let⟨o,_,_,q,_⟩:=c;(o,q)) (BS ns (by rw[w_];show j) (bT a l) c)
 .cases m;show sf (D:=dK X.Ξ X.w p) B I e E y f j l λs' F=>(_,F,q)
abbrev rB(P:NE)(w:N1)(d:υ):TK->HO
 |.i=>B4 (N5 P w) d []
 |k=>Bx (dK P w k) d []
def uC(h:NR)(a:Ov<h.Nr.MX)(k:TK):Az P w H (h.Nh {OO:=.MO "dict",NL:=.Pz #[]}) h.Nr.MX (rB P w h.Nr.MX k):=by
 let ns:(h.Nr.MX==Ov)=η:=ND.Ot (Ne.MQ (M_ a));cases k with
 |i=>show BS (Va:=N5 P w) ns (Nf _) .Ow (NR.Yi.X0 h)
 |t=>show fh (D:=dK P w .t) ns (Nf _) .Ow (Vu.X0 h)
 |q=>show fh (D:=dK P w .q) ns (Nf _) .Ow (Vu.X0 h)
 |p=>show fh (D:=dK P w .p) ns (Nf _) .Ow (Vu.X0 h)
def uD(h:k≠.i):rB P w d k=Bx (dK P w k) d []:=by
 cases k with
 |i=>show MM ζ h
 |_=>rfl
abbrev xY(P:NE)(w:N1)(tk tv:TE):TE:=λσ H Q=>∃ti:TK,∀p,H p=ε->tk σ (MT H p (rB P w p ti)) λx H1=>tv σ H1 λy H2=>H2 p=δ (rB P w p ti)/\
 ((ti=.i/\∃k,x=.MS k/\Q (.ο p) (MT H2 p (B4 (N5 P w) p [(k,y,)])))\/(ti≠.i/\∃b k,x=.ο b/\(dK P w ti).Vz H2 k b/\Q (.ο p) (MT H2 p (Bx (dK P w ti) p [(k,b,y,)]))))
def um(N:X.A.Pa+64<Qn)(R:PE X k B)(M:PE X v tv):PE X (.Dict [δ k] [v] Nj) (xY X.Ξ X.w B tv):=by
 intro e s m H Q I h;let⟨f,h⟩:=h;let P:=I.Og.OG (LE s⁻¹);let T:=I.T0 (a:=s⁻¹) (o:=rB X.Ξ X.w s⁻¹ f) (t':=s.MW) (λ_ _ q=>sy {OO:=.MO "dict",NL:=.Pz #[]} q) (LE _) (uC s.π I.bigS f);let j:=zip_pairTrees [δ k] [v] X.KK Nj ζ ζ;rw[arm_eval_Dict,j,dictDisplay_pairs (W7 [δ k] [v] X.KK Nj) (!5) (by change 1<17;decide)];refine d_ (PY (d_ ?_));unfold subDict;refine d_ (VQ (d_ (NT ?_)));rw[Id (show(W7 [δ k] [v] X.KK Nj).β≤15 by change 1≤15;decide)];refine d_ (pairTrees_cons_walk (ri (R e _ m _ _ T (h _ P)) λu C⟨x,U,S,p,F⟩=>ri (M e C m U _ S F) λr s2⟨y,W,i,n,hp,g⟩=>pairTrees_nil_walk (NT (d_ ?_))));rw[Qi];rcases g with⟨rfl,k,ζ,g⟩|⟨O,b,k,ζ,J,g⟩
 .obtain ⟨t,ζ⟩:=(show ∃t,u=θ.MS k t from p);let⟨ns,hz,vs,c,dd⟩:=Ey (Va:=N5 X.Ξ X.w) (NS:=[]) i.Og hp;refine d_ (d_ (wpAny_dictSet_pairs (Va:=N5 X.Ξ X.w) (k:=k) (V_:=by rw[<-c.β];show hz) (Jg k t) dd λh' d l=>j' ?_));dsimp only;rw[ST];refine j' (j' (j' (j' (.ο s⁻¹,_,3,1,g))));let E:=au.UG (show au ε (RY vs k)from c.Zz k);rw[IY E]at d;show HX i (by rw[hp];show Os.Of) l (let⟨o,_,_,q,_⟩:=d;(o,q)) (BS ns (sT (by change 1≤16777216;decide)) (bT (NS:=[]) c n) d)
 .cases p;rw[uD O]at hp;let⟨ns,hz,xs,c,dd⟩:=du (D:=dK X.Ξ X.w f) (NS:=[]) i.Og hp (λx L=>by simp at L);refine d_ (d_ (wpAny_dictSet_heap (Va:=(dK X.Ξ X.w f).Va) (V_:=by rw[<-Ro.β c];show hz) ((dK X.Ξ X.w f).Yo N).2 ((dK X.Ξ X.w f).ok J i.Og) dd λh' d l=>j' ?_));dsimp only;rw[ST];refine j' (j' (j' (j' (.ο s⁻¹,_,3,1,g))));show vL (D:=dK X.Ξ X.w f) (NS:=[]) i hp ns (sT (by change 1≤16777216;decide)) c ζ n d l
end
end L2
namespace RA
open L2
abbrev bq:TK->Hp->LN->υ->Prop
 |.q,H,k,b=>∃(c:υ)(x:Φ)(ks:LN),k=x::ks/\x≤1/\H b=δ (.No [.bl (decide (x=1)),.ο c])/\H c<*.No (c_ ks)
 |.p,H,k,b=>∃(c:υ)(x:Φ)(ks:LN),k=x::ks/\H b=δ (.No [.MS (x:MN),.ο c])/\H c<*.No (c_ ks)
 |_,H,k,b=>H b<*.No (c_ k)
abbrev Av(ti:TK)(H:Hp)(k:LN)(v:V):Prop:=if ti=.i then ∃n:Φ,k=[n]/\v=.MS (n:MN)else ∃b,v=.ο b/\bq ti H k b
def bq.OR(h:bq f H k b)(s:∀b xs,H b<*.No xs->H' b<*.No xs):bq f H' k b:=by
 cases f with
 |q=>
  let⟨c,x,ks,e,g,d,a⟩:=h;show(c,x,ks,e,g,s _ _ d,s _ _ a)
 |p=>
  let⟨c,x,ks,e,d,a⟩:=h;show(c,x,ks,e,s _ _ d,s _ _ a)
 |_=>show s _ _ h
def ir(k:LN):(zs k).NN V.MS=c_ k:=by rw[zs,c_,γ.map_map];rfl
def bq.Vz(h:bq g H k b):(dK P w g).Vz H (zs k) b:=by
 let a:∀{ks:LN}{c:υ},H c<*.No (c_ ks)->FN H (zs ks) c:=λe=>by unfold FN;rw[ir];show e
 cases g with
 |q=>
  let⟨c,x,ks,ζ,i,f,d⟩:=h;refine(c,(x:MN),zs ks,1,λ_=>?_,3,a d)
  .lia
  .rw [f,show sd ξ (x:MN)=.bl (decide ((x:MN)=1))from ζ,show decide ((x:MN)=1)=decide (x=1) by rw[MZ.RG];simp;lia]
 |p=>
  let⟨c,x,ks,ζ,f,d⟩:=h;show(c,(x:MN),zs ks,1,λz=>(by cases z),f,a d)
 |_=>show a h
def Av.OR(h:Av a H k v)(s:∀b xs,H b<*.No xs->H' b<*.No xs):Av a H' k v:=by
 unfold Av at h⊢;split
 .rename_i c;rw[Id c]at h;show h
 .rename_i c;rw[BT c]at h;let⟨b,e,d⟩:=h;show(b,e,d.OR s)
abbrev Ez:LL->Φ->γ (MN×V)
 |[],_=>[]
 |k::r,n=>(((k.headD 0:Φ):MN),.MS (n:MN),)::Ez r (n+1)
def nh:∀(ts:LL)(n:Φ),(Ez ts n).β=ts.β
 |[],_=>rfl
 |k::r,n=>by rw[Ez,NW,NW,nh r]
def jn(k:LN):∀(ts:LL)(n:Φ),Ez (ts++[k]) n=Ez ts n++[(((k.headD 0:Φ):MN),.MS ((n+ts.β:Φ):MN),)]
 |[],n=>rfl
 |t::r,n=>by
  rw[Rk,Ez,jn k r (n+1),Ez,Rk,NW,show n+1+r.β=n+(r.β+1) by lia]
abbrev Eg(ts:LL)(k:LN):ω Φ:=if k∈ts then δ (ts.M3 k)else ε
def jo(h:t≠k):Eg (t::r) k=(Eg r k).NN (·+1):=by
 unfold Eg;by_cases a:k∈r
 .rw [Id (M4 _ a),Id a,Uz,show(t==k)=η from ND.Ot h];rfl
 .rw [BT (λz=>(MP.mp z).Nx (λy=>h y.MQ) a),BT a];rfl
def gU{m:Φ}:∀{ts:LL}{n:Φ},(∀t∈ts,∃a,t=[a])->aF (Ez ts n) (m:MN)=(Eg ts [m]).NN λ(i:Φ)=>V.MS ((n+i:Φ):MN)
 |[],_,_=>rfl
 |t::r,n,h=>by
  let⟨a,ζ⟩:=h t (!1);by_cases e:a=m
  .subst e;rw[Ez,iz (k:=(a:MN)) (show((([a]:LN).headD 0:Φ):MN)=(a:MN)from ζ),Eg,Id (!1),γ.Xo];rfl
  .rw [Ez,Bj (λz=>e (MN.ofNat.QK z)),gU (n:=n+1) (λt b=>h t (by simp[b])),jo (λz=>e (by injection z))];cases Eg r [m]with
   |ε=>rfl
   |δ i=>
    change δ (V.MS ((n+1+i:Φ):MN))<*V.MS ((n+(i+1):Φ):MN);rw[show n+1+i=n+(i+1) by lia]
abbrev Aq(P:NE)(w:N1)(H:Hp)(d:υ)(ti:TK)(ts:LL):Prop:=
 if ti=.i then H d=δ (B4 (N5 P w) d (Ez ts 0))/\∀t∈ts,∃a,t=[a]
 else ∃NS:γ (γ MN×υ×V),H d=δ (Bx (dK P w ti) d NS)/\(∀x∈NS,(dK P w ti).Vz H x.1 x.2.1)/\NS.β=ts.β/\∀(i:Φ)(k:LN)(x:γ MN×υ×V),ts[i]?<*k->NS[i]?<*x->x.1=zs k/\x.2.2=.MS (i:MN)
def mH:∀{n:Φ},NS.β=ts.β->(∀(i:Φ)(k:LN)(x:γ MN×υ×V),ts[i]?<*k->NS[i]?<*x->x.1=zs k/\x.2.2=.MS ((n+i:Φ):MN))->aE NS (zs k)=(Eg ts k).NN λ(i:Φ)=>V.MS ((n+i:Φ):MN):=by
 induction NS generalizing ts with
 |Ow=>
  intro n a h;cases ts with
  |Ow=>rfl
  |NZ t r=>cases a
 |NZ x xs d=>
  intro n a h;cases ts with
  |Ow=>cases a
  |NZ t r=>
   let⟨b,j⟩:=h 0 t x ζ ζ;by_cases e:t=k
   .subst e;rw[Eg,Id (!1),γ.Xo];simp[aE,Qj,b,j]
   .let e':¬ x.1=zs k:=λz=>e (gb (b.MQ.ν z));let l:aE (x::xs) (zs k)=aE xs (zs k):=by simp[aE,Qj,e']
    rw[l,d (n:=n+1) (by simpa using a) (λi k' c h1 h2=>by
     let⟨g,f⟩:=h (i+1) k' c h1 h2;show(g,by rw[f,show n+(i+1)=n+1+i by lia])),jo e]
    cases Eg r k with
    |ε=>rfl
    |δ i=>
     change δ (V.MS ((n+1+i:Φ):MN))<*V.MS ((n+(i+1):Φ):MN);rw[show n+1+i=n+(i+1) by lia]
section
variable{P:Program}{w:World}{H:Hp}{d:Addr}{ti:TK}{ts:LL}{k:LN}{v:V}
def Aq.VI(h:Aq P w H d ti ts)(e:Av ti H k v):nY P w H d v ((Eg ts k).NN λ(i:Φ)=>V.MS (i:MN)):=by
 unfold Aq at h;unfold Av at e;by_cases c:ti=.i
 .subst c;rw[Id ζ]at h e;let⟨n,ζ,ζ⟩:=e;refine .NJ (7,h.1,1,3);rw[gU h.2];simp
 .rw [BT c]at h e;let⟨NS,h1,h2,j,g⟩:=h;let⟨b,ζ,f⟩:=e;refine .NU (ti,NS,zs k,b,h1,h2,1,f.Vz,3);rw[mH (n:=0) j (λi k x a b=>by rw[Φ.QA];show g i k x a b)];simp
def Aq.put(h:Aq P w H d ti ts)(m:Av ti H k v)(y:k∉ts)(r:ts.β<Λ):∃f,vT P w H d v (.MS (ts.β:MN)) (L2.MT H d f)/\Aq P w (L2.MT H d f) d ti (ts++[k]):=by
 let o:Eg ts k=ε:=BT y;let A:∀b xs,H b<*.No xs->∀φ,H d<*.ext φ->∀f,L2.MT H d f b<*.No xs:=λb xs e φ C f=>by
  rw[a_ (qN e C (!5))];show e
 unfold Aq at h;unfold Av at m;by_cases c:ti=.i
 .subst c;rw[Id ζ]at h m;let⟨n,ζ,ζ⟩:=m;refine(B4 (N5 P w) d (Ez (ts++[[n]]) 0),.NJ (7,h.1,1,3,by rw[nh];show r,3),3)
  .rw [gU h.2,o];rfl
  .rw [jn,Φ.QA];rfl
  .unfold Aq;rw[Id ζ];refine(j_,λt u=>?_);rcases Nd.mp u with z|z
   .exact h.2 t z
   .exact (n,Ay z)
 .rw [BT c]at h m;let⟨NS,h1,h2,l,s⟩:=h;let⟨b,ζ,B⟩:=m;let p:(dK P w ti).Vz H (zs k) b:=B.Vz;let Rx:∀f b xs,H b<*.No xs->L2.MT H d f b<*.No xs:=λf b xs e=>A b xs e _ h1 f;refine(Bx (dK P w ti) d (NS++[(zs k,b,.MS (ts.β:MN),)]),.NU (ti,NS,zs k,b,h1,h2,1,p,3,by rw[l];show r,1),3)
  .rw [mH (n:=0) l (λi k x a b=>by rw[Φ.QA];show s i k x a b),o];rfl
  .unfold Aq;rw[BT c];refine(_,j_,λx g=>?_,by rw[w_,w_,l];rfl,λi k' x j g=>?_)
   .rcases Nd.mp g with z|z
    .exact (dK P w ti).SX (Rx _) (h2 x z)
    .rw [Ay z];show(dK P w ti).SX (Rx _) p
   .by_cases q:i<ts.β
    .rw [M0 q]at j;rw[M0 (by rw[l];show q)]at g;show s i k' x j g
    .rw [MY (OS q)]at j;rw[MY (by rw[l];show OS q),l]at g;let hz:i-ts.β=0:=by
      have:=(q5 j).1;simp at this;omega
     rw[hz]at j g;cases j;cases g;show(1,by rw[show i=ts.β by lia])
def Aq.OR(h:Aq P w H d ti ts)(s:∀b o,H b<*o->(b=d\/∃xs,o=.No xs)->H' b<*o):Aq P w H' d ti ts:=by
 unfold Aq at h⊢;by_cases c:ti=.i
 .subst c;rw[Id ζ]at h⊢;show(s _ _ h.1 (.NJ ζ),h.2)
 .rw [BT c]at h⊢;let⟨NS,h1,h2,g,f⟩:=h;show(NS,s _ _ h1 (.NJ ζ),λx a=>(dK P w ti).SX (λb xs e=>s _ _ e (.NU (_,ζ))) (h2 x a),g,f)
end
end RA
namespace L2
open PySem.Spec PyProof.Rows
namespace ZP
abbrev iw(T:υ)(b:MZ)(TI TO:υ):Rp:={OO:=.MO "zip",Pz:=ε,NL:=.OB #[Ny T,.Ph b,.Ph η,.ο TI,.ο TO],Ry:=#[]}
section
variable{prog:Program}{w:World}{A:Around}{E:Value->Shared->Prop}{s:Shared}{z TI TO i1 i2 T:Addr}{f1 f2:List Addr}{n1 n2 k:Nat}{P1 P2:Nat->Value->Prop}{S1 S2:Nat->Heap->Prop}{b1:Bool}{oT:Obj}
def m7(hz:s.π.ψ z<*iw T b1 TI TO)(a:s.π.ψ T<*oT)(h:∀h',h'.ψ z<*iw T ξ TI TO->Pg z s.π h'->Q η {s with π:=h'}):Ω (Cl Ξ w) A (Builtin.OV.Ue (.ο z)) Q E s:=by
 unfold Builtin.OV.Ue;refine d_ (NQ hz ζ (x:=Ny T) ζ ?_);change Ω _ _ (loadIfAlive ((T:MN).Ou)>>=_) _ _ _;rw[MN.V6];refine d_ (Δ.W.kdx_alive a ?_);refine OI (!1) (d_ (NQ hz ζ (x:=.Ph b1) ζ ?_));cases b1 with
 |ξ=>show OI (!0) (j' (h _ hz (1,λ_ _=>rfl)))
 |η=>show VP (!0) (d_ (Q9 hz (!1) λh' e c=>j' (h h' e c)))
def xT{Q:θ->MJ->Prop}(F:TW Ξ w A i1 f1 n1 P1 S1)(D:TW Ξ w A i2 f2 n2 P2 S2)(P:∀c∈f1,c=i1\/c∉[z,TO,i1,i2])(m2:∀c∈f2,c=i2\/c∉[z,TO,i1,i2])(b:TV z TI TO i1 i2 TI TI)(hz:s.π.ψ z<*iw T b1 TI TO)(R:s.π.ψ T<*oT)(i:Pn s.π TI (.ο i1) (.ο i2))(h1:S1 k s.π)(h2:S2 k s.π)(l1:k<n1)(l2:k<n2)(U:∀x y h' J,P1 k x->P2 k y->h'.ψ z<*iw T ξ TI TO->Pn h' TI (.ο i1) (.ο i2)->S1 (k+1) h'->S2 (k+1) h'->Pn h' s⁻¹ x y->
   (∀c o,c∉[z,TO,i1,i2]->s.π.ψ c<*o->h'.ψ c<*o)->Q (.ο s⁻¹) {s with π:=h',MW:=J}):Ω (Cl Ξ w) A (Builtin.«zip.__next__» ([.ο z],[])) (λB s'=>∃v,B=.done (.UX v)/\Q v s') E s:=by
 unfold Builtin.«zip.__next__»;refine d_ (Rc (a:=(θ.ο z,[],)) ζ (d_ (NQ hz ζ (x:=.Ph η) ζ (d_ (NQ hz ζ (x:=.ο TI) ζ (d_ (O9 i ζ (OI (!1) (d_ (m7 hz R λW I c1=>OI (!0) ?_))))))))));dsimp only;let k1:bc [z,TO,i1,i2] s.π W:=.Ol c1 (!1);let l:∀{j:Φ}{g g':NR},(∀c o,c∉[z,TO,i1,i2]->g.ψ c<*o->g'.ψ c<*o)->S1 j g->(∀o,g.ψ i1<*o->g'.ψ i1<*o)->S1 j g':=λk st e=>F.RQ _ _ _ st λc h=>by
  rcases P c h with ζ|u
  .exact e
  .exact λo q=>k c o u q
 let C:∀{j:Φ}{g g':NR},(∀c o,c∉[z,TO,i1,i2]->g.ψ c<*o->g'.ψ c<*o)->S2 j g->(∀o,g.ψ i2<*o->g'.ψ i2<*o)->S2 j g':=λk st e=>D.RQ _ _ _ st λc h=>by
  rcases m2 c h with ζ|u
  .exact e
  .exact λo q=>k c o u q
 rw[<-U1];change Ω _ _ (YW [θ.ο i1,.ο i2] _ _>>=_) _ _ _;simp only[Qi,ST];refine d_ (d_ (d_ (NT (d_ (m:=Builtin.OV.UQ (.ο i1)) (F.Uy k _ _ _ l1 (l k1.2 h1 λo e=>(c1.2 i1 b.i1z).ν e) λx Y X O d1 p=>j' ?_)))));dsimp only;refine j' (d_ (d_ (NT (d_ (m:=Builtin.OV.UQ (.ο i2)) (D.Uy k _ _ _ l2 (C (k1.ν (.Ol p (!1))).2 h2 λo e=>(p.2 i2 b.i12.MQ).ν ((c1.2 i2 b.i2z).ν e)) λy d L N d2 n=>j' ?_)))));dsimp only;refine j' (j' (d_ (wpAny_newTuple (V_:=sT (by change 2≤16777216;decide)) (j' (0,3)))));let k3:bc [z,TO,i1,i2] s.π d:=(k1.ν (.Ol p (!1))).ν (.Ol n (!1));let H:d.ψ z<*iw T ξ TI TO:=(n.2 z b.i2z.MQ).ν ((p.2 z b.i1z.MQ).ν I);let r:Pn d TI (.ο i1) (.ο i2):=k3.2 TI _ (by simp[b.TIz,b.TITO,b.TIi1,b.TIi2]) i;let M:d.Nr.MX=s⁻¹:=k3.1;let t:S1 (k+1) d:=l (bc.Ol (S:=[z,TO,i1,i2]) n (!1)).2 d1 λo e=>(n.2 i1 b.i12).ν e;let f:Pn (d.Nh {OO:=.MO "tuple",NL:=.Sz #[x,y]}) d.Nr.MX x y:=MV _ ζ;change Q (.ο d.Nr.MX) _;rw[M]at f⊢;show U x y _ L O N (sy _ H) (sy _ r) (F.RQ _ _ _ t λc _ o e=>sy _ e) (D.RQ _ _ _ d2 λc _ o e=>sy _ e) f λc o h e=>sy _ (k3.2 c o h e)
def xE(f:TW Ξ w A i1 f1 n1 P1 S1)(j:∀c∈f1,c=i1\/c∉[z,TO,i1,i2])(y:TV z TI TO i1 i2 TI TI)(hz:s.π.ψ z<*iw T b1 TI TO)(p:s.π.ψ T<*oT)(d:Pn s.π TI (.ο i1) (.ο i2))(h1:S1 n1 s.π)(t:∀h' e h,(∀c o,c∉[z,TO,i1,i2]->s.π.ψ c<*o->h'.ψ c<*o)->(∃o,h'.ψ e=δ o/\o.OO=.MO "StopIteration")->E (.ο e) {s with π:=h',MW:=h}):Ω (Cl Ξ w) A (Builtin.«zip.__next__» ([.ο z],[])) Q E s:=by
 unfold Builtin.«zip.__next__»;refine d_ (Rc (a:=(θ.ο z,[],)) ζ (d_ (NQ hz ζ (x:=.Ph η) ζ (d_ (NQ hz ζ (x:=.ο TI) ζ (d_ (O9 d ζ (OI (!1) (d_ (m7 hz p λv B c1=>OI (!0) ?_))))))))));dsimp only;rw[<-U1];change Ω _ _ (YW [θ.ο i1,.ο i2] _ _>>=_) _ _ _;simp only[Qi,ST];let i:S1 n1 v:=f.RQ _ _ _ h1 λc b o e=>by
  rcases j c b with ζ|l
  .exact (c1.2 _ y.i1z).ν e
  .exact (c1.2 c λq=>l (by simp[q])).ν e
 refine d_ (d_ (d_ (NT (d_ (m:=Builtin.OV.UQ (.ο i1)) (f.done _ _ _ i λu e g n=>?_)))));show t u e s.MW (λc o b q=>g c o (λr=>b (by simp[r])) ((c1.2 c λr=>b (by simp[r])).ν q)) n
end
section
variable{prog:Program}{w:World}{A:Around}{R:Result->Shared->Prop}{z TI TO i1 i2 S:Addr}{f1 f2:List Addr}{n:Nat}{P1 P2:Nat->Value->Prop}{S1 S2:Nat->Heap->Prop}
structure LZ(h0:Heap)(z TI TO i1 i2 S:Addr)(P1 P2:Nat->Value->Prop)(S1 S2:Nat->Heap->Prop)(k:Nat)(h:Heap)(acc:Array Value):Prop where
 zip:(k=0/\IsZip h z TI TO .none/\∃a b,IsPair h TO a b)\/(0<k/\∃b1 T oT,h.get? z=some (iw T b1 TI TO)/\h.get? T=some oT/\h0.objs.size≤T)
 ti:IsPair h TI (.ref i1) (.ref i2)
 s1:S1 k h
 s2:S2 k h
 sz:h0.objs.size≤h.objs.size
 len:acc.size=k
 items:∀(j:Nat)(v:Value),acc[j]?<*v->∃t x y,v=.ref t/\P1 j x/\P2 j y/\IsPair h t x y/\h0.objs.size≤t
 inj:∀(i j:Nat)(t:Addr),acc[i]?<*.ref t->acc[j]?<*.ref t->i=j
 keep:∀c o,c∉[z,TO,i1,i2,S]->h0.get? c<*o->h.get? c<*o
def Jh(d:s.Se (.ο z) "zip")(h:Ω (Cl Ξ w) A.S5 (Builtin.«zip.__next__» ([.ο z],[])) (λa s'=>∃v,a=.done (.UX v)/\Q (δ v) s') (λe s'=>∃o e',e=.ο e'/\s'.π.ψ e'=δ o/\o.OO=.MO "StopIteration"/\Q ε s') s):Ω (Cl Ξ w) A (Uu (.ο z)) Q E s:=by
 unfold Uu;refine d_ (S_ (OT (OH:=NB.Ni "__next__") d F.S' (Oj F.S' d F.YY (NI h (λa s' c=>?_) λe s' c=>?_) (F.Xt _))))
 .obtain ⟨v,ζ,q⟩:=c;show(v,1,j' q)
 .obtain ⟨o,e',ζ,f,g,q⟩:=c;show d_ (Sr (T:="StopIteration") (b:=ξ) (o,f,g) YS (j' q))
def p5(D1:TW Ξ w A.S5.S5 i1 f1 n P1 S1)(D2:TW Ξ w A.S5.S5 i2 f2 n P2 S2)(ap:TV z TI TO i1 i2 TI TI)(hn:n≤1000000)(m1:∀c∈f1,c=i1\/c∉[z,TO,i1,i2,S])(m2:∀c∈f2,c=i2\/c∉[z,TO,i1,i2,S])(lt:∀c∈[z,TI,TO,i1,i2,S],c<h0.Nr.MX)(hS:S∉[z,TI,TO,i1,i2])(M:θ)(ς:MJ)(hR:∀h C g c,LZ h0 z TI TO i1 i2 S P1 P2 S1 S2 n h g->h.ψ S<*{OO:=.MO "list",Pz:=ε,NL:=.Sz g c,Ry:=#[]}->∀h',(∀c o,c∉[z,TO,i1,i2]->h.ψ c<*o->h'.ψ c<*o)->R (.ok (.UX M)) {ς with π:=h',MW:=C}):∀(m k:Φ)(h:NR)(C:Φ)(g:Nt θ)(c:Φ),n-k=m->k≤n->LZ h0 z TI TO i1 i2 S P1 P2 S1 S2 k h g->h.ψ S<*{OO:=.MO "list",Pz:=ε,NL:=.Sz g c,Ry:=#[]}->
   Qh (Cl Ξ w) A (.Nk "list.extend.loop" ([.ο S,.ο z,M],[])) R {ς with π:=h,MW:=C}:=by
 let N:∀c∈f1,c=i1\/c∉[z,TO,i1,i2]:=λc l=>(m1 c l).Wi id λq z=>q (by simp at z⊢;rcases z with y|y|y|y<;>simp[y]);let P:∀c∈f2,c=i2\/c∉[z,TO,i1,i2]:=λc l=>(m2 c l).Wi id λq z=>q (by simp at z⊢;rcases z with y|y|y|y<;>simp[y]);let as:S≠z:=λq=>hS (by simp[q]);let aA:S≠TI:=λq=>hS (by simp[q]);let az:S≠TO:=λq=>hS (by simp[q]);let aC:S≠i1:=λq=>hS (by simp[q]);let aB:S≠i2:=λq=>hS (by simp[q]);let aS:S∉[z,TO,i1,i2]:=by simp[as,az,aC,aB]
 let I:S<h0.Nr.MX:=lt S (!1);intro m;induction m with
 |TF=>
  intro k h C g c J hk L W;let e:k=n:=by lia
  subst e;refine Pf F.entry_extend_loop ?_;rw[N2.R7 F.UF _];change Ω _ A.S5 (Uu (.ο z)>>=_) _ _ _;let D:∀h' e d,(∀c o,c∉[z,TO,i1,i2]->h.ψ c<*o->h'.ψ c<*o)->(∃o,h'.ψ e=δ o/\o.OO=.MO "StopIteration")->
    ∃o e',(θ.ο e)=.ο e'/\({ς with π:=h',MW:=d}:MJ).π.ψ e'=δ o/\o.OO=.MO "StopIteration"/\Ω (Cl Ξ w) A.S5 (UX M) (λD s'=>match D with|.done f=>R (.ok f) s'|.again c'=>c'.Y3=ξ/\Qh (Cl Ξ w) A c' R s') (λe s'=>R (.SA e) s') {ς with π:=h',MW:=d}:=λh' e d u⟨o,ho,l⟩=>
   (o,e,1,ho,l,j' (hR h d g c L W h' u))
  rcases L.Th with⟨Q,hz,a,b,U⟩|⟨Q,b1,T,Y,hz,hT,_⟩
  .refine d_ (Jh (s:={ς with π:=h,MW:=C}) (_,hz,1) (ES (s:={ς with π:=h,MW:=C}) D1 D2 N P ap hz L.ti U L.s1 L.s2 (.NJ ζ) λh' e d u he=>D h' e d u he))
  .refine d_ (Jh (s:={ς with π:=h,MW:=C}) (_,hz,1) (xE (s:={ς with π:=h,MW:=C}) D1 N ap hz hT L.ti L.s1 λh' e d u he=>D h' e d u he))
 |Si m ih=>
  intro k h C g c J hk L W;let E:k<n:=by lia
  refine Pf F.entry_extend_loop ?_;rw[N2.R7 F.UF _];change Ω _ A.S5 (Uu (.ο z)>>=_) _ _ _;let go:∀x y h' d(zs:∃b1 T Y,h'.ψ z=δ (iw T b1 TI TO)/\h'.ψ T=δ Y/\h0.Nr.MX≤T),P1 k x->P2 k y->Pn h' TI (.ο i1) (.ο i2)->S1 (k+1) h'->S2 (k+1) h'->Pn h' h.Nr.MX x y->(∀c o,c∉[z,TO,i1,i2]->h.ψ c<*o->h'.ψ c<*o)->
    Ω (Cl Ξ w) A.S5 (Builtin.γ.listUpdate (.ο S) (·.Nh (.ο h.Nr.MX))>>=λ_=>again (.Nk "list.extend.loop" ([.ο S,.ο z,M],[]))) (λD s'=>match D with|.done f=>R (.ok f) s'|.again c'=>c'.Y3=ξ/\Qh (Cl Ξ w) A c' R s') (λe s'=>R (.SA e) s') {ς with π:=h',MW:=d}:=by
   intro x y h' d zs p1 Z ti aN aM p u;let aH:=u S _ aS W;refine d_ ?_;change Ω _ A.S5 (Y1 S (·.Nh (.ο h.Nr.MX))) _ _ _;let B:g.MX=k:=L.PQ;refine U_ (s:={ς with π:=h',MW:=d}) aH ζ (j' (R9 F.UF _,3)) (by rw[B,OQ];omega) (by change (g.Nh _).MX≤Λ+1;rw[Nt.Op,B,OQ];lia);let O:∀c o,c≠S->h'.ψ c<*o->(h'.O4 S (S4 (·.Nh (.ο h.Nr.MX)))).ψ c<*o:=λc o l e=>(OZ _ _ (Ne.MQ l)).ν e;let ag:h.Nr.MX≠S:=Qg (Ψ I L.sz);let an:h.Nr.MX<h'.Nr.MX:=lt_size p;let aU:∀c∈f1,c≠S:=λc l q=>by
    rcases m1 c l with r|r
    .exact aC (q.MQ.ν r)
    .exact r (by simp[q])
   let aT:∀c∈f2,c≠S:=λc l q=>by
    rcases m2 c l with r|r
    .exact aB (q.MQ.ν r)
    .exact r (by simp[q])
   refine ih (k+1) _ d (g.Nh (.ο h.Nr.MX)) _ (!6) E (3,O TI _ (Ne.MQ aA) ti,D1.RQ _ _ _ aN λc l o e=>O c o (aU c l) e,D2.RQ _ _ _ aM λc l o e=>O c o (aT c l) e,3,by rw[Nt.Op,B],λj v H=>?_,λi j t hi H=>?_,λc o l e=>?_) (N3 _ aH ζ)
   .obtain ⟨b1,T,Y,e1,e2,e3⟩:=zs;show .NU (Φ.Z5 k,b1,T,Y,O z _ (Ne.MQ as) e1,O T _ (Qg (Ψ I e3)) e2,e3)
   .rw [NR.XW];show IO L.sz (Pq an)
   .rw [Nt.Yu]at H;split at H
    .rename_i ej;cases H;rw[B]at ej;rw[ej];show(_,x,y,1,p1,Z,O _ _ ag p,L.sz)
    .obtain ⟨t,x',y',ζ,q1,q2,q3,q4⟩:=L.Y6 j v H;refine(t,x',y',1,q1,q2,O t _ (Qg (Ψ I q4)) (u t _ (λJ=>?_) q3),q4);show MM (lt t (by simp at J⊢;rcases J with y|y|y|y<;>simp[y])) (TY.Ot q4)
   .let ab:∀(a:Φ),g[a]?<*.ο h.Nr.MX->NX:=λa e=>by
     let⟨t,x',y',e1,_,_,q3,_⟩:=L.Y6 a _ e;cases e1;show MM (lt_size q3) (Qs _)
    rw[Nt.Yu]at hi H;split at hi
    .rename_i ei;cases hi;split at H
     .rename_i ej;lia
     .exact (ab _ H).Nx
    .split at H
     .cases H;show(ab _ hi).Nx
     .exact L.QK i j t hi H
   .let hcS:c≠S:=λq=>l (by simp[q]);show O c o hcS (u c o (λJ=>l (by simp at J⊢;rcases J with y|y|y|y<;>simp[y])) (L.QC c o l e))
  rcases L.Th with⟨Q,hz,a,b,U⟩|⟨Q,b1,T,Y,hz,hT,ar⟩
  .refine d_ (Jh (s:={ς with π:=h,MW:=C}) (_,hz,1) (Gm (s:={ς with π:=h,MW:=C}) D1 D2 N P ap hz L.ti U L.s1 L.s2 E E λx y h' d p1 Z gz X aV g1 g2 p u=>?_));show go x y h' d (η,h.Nr.MX,_,gz,p,L.sz) p1 Z X g1 g2 p u
  .refine d_ (Jh (s:={ς with π:=h,MW:=C}) (_,hz,1) (xT (s:={ς with π:=h,MW:=C}) D1 D2 N P ap hz hT L.ti L.s1 L.s2 E E λx y h' d p1 Z gz X g1 g2 p u=>?_));refine go x y h' d (ξ,T,Y,gz,u T _ (λJ=>?_) hT,ar) p1 Z X g1 g2 p u;show MM (lt T (by simp at J⊢;rcases J with y|y|y|y<;>simp[y])) (TY.Ot ar)
end
section
variable{prog:Program}{w:World}{A:Around}{E:Value->Shared->Prop}{z TI TO i1 i2:Addr}{f1 f2:List Addr}{n:Nat}{P1 P2:Nat->Value->Prop}{S1 S2:Nat->Heap->Prop}
def j9:YF (.MO "zip") "__len__"=pure ε:=by rw[VA,Sq];kernel_rfl
def iu:YF (.MO "zip") "__length_hint__"=pure ε:=by rw[VA,Sq];kernel_rfl
def E_(D1:TW Ξ w A.S5.S5.S5 i1 f1 n P1 S1)(D2:TW Ξ w A.S5.S5.S5 i2 f2 n P2 S2)(ap:TV z TI TO i1 i2 TI TI)(hn:n≤1000000)(m1:∀c∈f1,c=i1\/(c∉[z,TO,i1,i2]/\c<s⁻¹))(m2:∀c∈f2,c=i2\/(c∉[z,TO,i1,i2]/\c<s⁻¹))(hz:VF s.π z TI TO .ε)(T:Pn s.π TI (.ο i1) (.ο i2))(R:Pn s.π TO a b)(h1:S1 0 s.π)(h2:S2 0 s.π)(l1:i1<s⁻¹)(l2:i2<s⁻¹)(hQ:∀h' Z(k:Nt θ)c,(∀b o,b∉[z,TO,i1,i2]->s.π.ψ b<*o->h'.ψ b<*o)->h'.ψ s⁻¹<*{OO:=.MO "list",Pz:=ε,NL:=.Sz k c,Ry:=#[]}->k.MX=n->
   (∀(j:Φ)(v:θ),k[j]?<*v->∃t x y,v=.ο t/\P1 j x/\P2 j y/\Pn h' t x y/\s⁻¹<t)->(∀(i j:Φ)(t:υ),k[i]?<*.ο t->k[j]?<*.ο t->i=j)->Q (.ο s⁻¹) {s with π:=h',MW:=Z}):Ω (Cl Ξ w) A (Qk (.MO "list") [.ο z]) Q E s:=by
 refine callType_codes (Q₁:=λO u=>O=.ο s⁻¹/\u={s with π:=s.π.Nh {OO:=.MO "list",NL:=.Sz #[]} }) F.called_list (F.typeCall_list_1 _) F.entry_list_init
  (code_list_new _ (1,1)) λO u P=>?_
 let⟨rfl,ζ⟩:=P;let Y:(s.π.Nh {OO:=.MO "list",NL:=.Sz #[]}).ψ s⁻¹<*{OO:=.MO "list",NL:=.Sz #[]}:=MV _ ζ;refine((_,Y,1),F.args_list_init_2 _ _,3);let m:z<s⁻¹:=lt_size hz;let H:TI<s⁻¹:=lt_size T;let p:TO<s⁻¹:=lt_size R;let d:∀c,c<s⁻¹->c≠s⁻¹:=λc g=>M_ g;generalize J:s⁻¹=S at *;change Ω _ _ (do let ab <-Builtin.γ.listItems (.ο S);Builtin.γ.listUpdate (.ο S) (λ_=>#[]);letGo ab.NF.Ng;Builtin.γ.VZ (.ο S) (.ο z) .ε) _ _ _;refine d_ ?_;unfold Builtin.γ.listItems;refine d_ (O9 Y ζ (j' ?_));change Ω _ _ (Y1 S (λ_=>#[])>>=λ_=>letGo (#[]:Nt θ).NF.Ng>>=λ_=>Builtin.γ.VZ (.ο S) (.ο z) .ε) _ _ _;refine d_ (U_ Y ζ ?_);let M:=N3 (S4 (λ_=>(#[]:Nt θ))) Y ζ;let D:∀b o,b≠S->s.π.ψ b<*o->((s.π.Nh {OO:=.MO "list",NL:=.Sz #[]}).O4 S (S4 (λ_=>(#[]:Nt θ)))).ψ b<*o:=
  λb o l e=>(OZ _ _ (Ne.MQ l)).ν (sy _ e)
 let B:((s.π.Nh {OO:=.MO "list",NL:=.Sz #[]}).O4 S (S4 (λ_=>(#[]:Nt θ)))).Nr.MX=S+1:=by rw[NR.XW,Op,J]
 refine d_ (VO ?_);generalize (s.π.Nh {OO:=.MO "list",NL:=.Sz #[]}).O4 S (S4 (λ_=>(#[]:Nt θ)))=h0 at M D B;let zz:VF h0 z TI TO .ε:=D z _ (d z m) hz;let hT:({s with π:=h0}:MJ).Se (.ο z) "zip":=(_,zz,1);let I:S≠z:=Ne.MQ (d z m);unfold Builtin.γ.VZ;refine d_ (WX hT ?_);let e1:Builtin.γ.listSameRef (.ο S) (.ο z)=η:=by simp[Builtin.γ.listSameRef,I]
 let e2:(θ.MO "zip"==θ.MO "list")=η:=by decide
 let e3:(θ.MO "zip"==θ.MO "tuple")=η:=by decide
 simp only[e1,e2,e3,MZ.N7,MZ.UW,Uh];refine d_ (Ub (s:={s with π:=h0}) zz ?_);refine d_ (NT ?_);unfold Builtin.γ.YQ;refine d_ (U' hT j9 ?_);change Ω _ _ (specialOf (θ.ο z) (NB.Ni "__length_hint__")>>=_) _ _ _;refine d_ (U' hT iu ?_);refine j' ?_;change Ω _ _ (Wc "list.extend.makes-room" >>= λ_=>Builtin.γ.listTouch (.ο S)>>=λ_=>again (.Nk "list.extend.loop" ([.ο S,.ο z,.ε],[]))) _ _ _;refine d_ (WL ?_);refine d_ ?_;change Ω _ _ (Y1 S (·.Nh .ε)>>=λ_=>Y1 S (·.pop)) _ _ _;refine d_ (U_ (s:={s with π:=h0}) M ζ ?_);let W:=N3 (S4 (·.Nh θ.ε)) M ζ;refine U_ (hz:=by seq_fits) W ζ ?_;let U:=N3 (S4 (·.pop)) W ζ;let f:∀b o,b≠S->s.π.ψ b<*o->((h0.O4 S (S4 (·.Nh θ.ε))).O4 S (S4 (·.pop))).ψ b<*o:=
  λb o l e=>(OZ _ _ (Ne.MQ l)).ν ((OZ _ _ (Ne.MQ l)).ν (D b o l e))
 let r:((h0.O4 S (S4 (·.Nh θ.ε))).O4 S (S4 (·.pop))).Nr.MX=S+1:=by rw[NR.XW,NR.XW];show B
 generalize ((h0.O4 S (S4 (·.Nh θ.ε))).O4 S (S4 (·.pop)))=X at U f r;let az:∀c∈f1,c<S:=λc g=>(m1 c g).Nx (λq=>q▸l1) λq=>q.2;let as:∀c∈f2,c<S:=λc g=>(m2 c g).Nx (λq=>q▸l2) λq=>q.2;let N:∀c:υ,c∉[z,TO,i1,i2]->c<S->c∉[z,TO,i1,i2,S]:=λc h1 h2 C=>by
  simp at C h1;rcases C with y|y|y|y|y
  .exact h1.1 y
  .exact h1.2.1 y
  .exact h1.2.2.1 y
  .exact h1.2.2.2 y
  .exact MM h2 (by rw[y];show Qs _)
 refine j' (R9 F.UF _,p5 (S:=S) (h0:=X) (n:=n) (ς:=s) D1 D2 ap hn (λc g=>(m1 c g).Wi id λq=>N c q.1 q.2) (λc g=>(m2 c g).Wi id λq=>N c q.1 q.2) (λc g=>?_) ?_ .ε ?_ n 0 X _ #[] _ (!6) (Nf _)
  (.NJ (1,f z _ (d z m) hz,a,b,f TO _ (d TO p) R),f TI _ (d TI H) T,D1.RQ _ _ _ h1 λc g o e=>f c o (d c (az c g)) e,D2.RQ _ _ _ h2 λc g o e=>f c o (d c (as c g)) e,LE _,1,λj v hj=>by simp at hj,λi j t hi=>by simp at hi,λc o _ e=>e) U)
 .rw [r];simp only[MP,NV,N7]at g;rcases g with y|y|y|y|y|y
  .rw [y];show QJ m
  .rw [y];show QJ H
  .rw [y];show QJ p
  .rw [y];show QJ l1
  .rw [y];show QJ l2
  .rw [y];show OC _
 .simp [I,Ne.MQ (d TI H),Ne.MQ (d TO p),Ne.MQ (d i1 l1),Ne.MQ (d i2 l2)]
 .intro h Z k c L an h' kp;let ar:S∉[z,TO,i1,i2]:=by simp[I,Ne.MQ (d TO p),Ne.MQ (d i1 l1),Ne.MQ (d i2 l2)]
  refine(1,hQ h' Z k c (λb o l e=>kp b o l (L.QC b o (λC=>?_) (f b o (d b (by rw[<-J];show lt_size e)) e))) (kp S _ ar an) L.PQ (λj v hj=>?_) L.QK)
  .simp at C l;rcases C with y|y|y|y|y
   .exact l.1 y
   .exact l.2.1 y
   .exact l.2.2.1 y
   .exact l.2.2.2 y
   .exact MM (lt_size e) (by rw[J,y];show Qs _)
  .obtain ⟨t,x,y,ζ,p1,p2,q,q2⟩:=L.Y6 j v hj;rw[r]at q2;refine(t,x,y,1,p1,p2,kp t _ (λC=>?_) q,q2);let ag:t<S:=by
    simp at C;rcases C with y|y|y|y
    .rw [y];show m
    .rw [y];show p
    .rw [y];show l1
    .rw [y];show l2
   show MM (Ψ ag (SF S)) (TY.Ot q2)
end
end ZP
section
variable{X:Cx}{pins:List (Addr×Obj)}{σ:St}{H H':Hp}{s:Shared}{h':Heap}
def f'.many(I:f' X M1 σ H s)(k:∀b o,s.π.ψ b<*o->h'.ψ b<*o)(a:∀b,b<s⁻¹->H' b=H b)(f:∀b o,s⁻¹≤b->H' b<*o->Az X.Ξ X.w H' h' b o):f' X M1 σ H' {s with π:=h',MW:=t'}:=by
 let d:∀{b:υ}{u:HO},H b<*u->H' b<*u:=λ{b u}e=>by rw[a b (I.Og.lt e)];show e
 refine I.un (H':=H') (λb o e _ _ _=>k b o e,λb o e _ _ _=>(o.Ry,k b o e),λb o e n _=>by rw[a b (lt_size e)];show n,λb o e _=>(o,k b o e),λb xs e=>d e,λb o u e=>d e,λb ps e=>(#[],by rw[d e];simp)) λb o e=>?_;by_cases h:s⁻¹≤b
 .exact f b o h e
 .let g:b<s⁻¹:=Φ.lt_of_not_le h;rw[a b g]at e;show(I.Og b o e).SX (λc u _ q=>k c u q) (λc q=>d q) λc xs q=>d q
end
abbrev pb(ts:γ υ)(xs ys:γ V)(b:υ):ω HO:=((ts.Th (xs.Th ys)).ρ b).NN λq=>HO.No [q.1,q.2]
def LA{d:Type}{b:υ}{v:d}:∀{ts:γ υ}{vs:γ d}{i:Φ},ts.Nz->ts[i]?<*b->vs[i]?<*v->(ts.Th vs).ρ b<*v
 |[],_,_,_,h,_=>by simp at h
 |_::_,[],_,_,_,h=>by simp at h
 |t::ts,w::vs,0,a,h1,h2=>by
  simp at h1 h2;subst h1 h2;simp[OL]
 |t::ts,w::vs,i+1,a,h1,h2=>by
  let c:b≠t:=λz=>(Ty.mp a).1 (by rw[<-z];show AC (by simpa using h1));rw[γ.zip_cons_cons,OL,ND.Ot c];show LA (i:=i) (Ty.mp a).2 (by simpa using h1) (by simpa using h2)
def LB{b:Type}:∀{l:γ b},(∀(i j:Φ)(t:b),l[i]?<*t->l[j]?<*t->i=j)->l.Nz
 |[],_=>γ.nodup_nil
 |a::r,h=>by
  rw[Ty];refine(λc=>?_,LB λi j t h1 h2=>?_)
  .obtain ⟨j,d⟩:=NO.mp c;have:=h 0 (j+1) a ζ (by simpa using d);lia
  .have:=h (i+1) (j+1) t (by simpa using h1) (by simpa using h2);lia
def eT{a:Type}{b:υ}{v:a}:∀{l:γ (υ×a)},l.ρ b<*v->(b,v,)∈l
 |[],e=>by cases e
 |(c,x)::r,e=>by
  rw[OL]at e;by_cases d:b=c
  .subst d;simp at e;simp[e]
  .rw [ND.Ot d]at e;show M4 _ (eT e)
def ju{d:Sd}(a:d.UU H xs)(b:d.UU H ys):xs=ys:=by
 cases d with
 |tx x k=>show(show xs=_ from a).ν (show ys=_ from b).MQ
 |tp c=>
  let a:H c=_:=a;let b:H c=_:=b;rw[a]at b;cases b;rfl
 |ls c=>
  let a:H c=_:=a;let b:H c=_:=b;rw[a]at b;cases b;rfl
def su{g:TG}{n:TS}{D:XR}(t:xs.β=ys.β)(c:Φ->St->Hp->Prop)(h0:c 0 b H)(u:∀i b H,c i b H->d1.UU H xs/\d2.UU H ys)(s:∀i x y p b H,xs[i]?<*x->ys[i]?<*y->H p=ε->c i b H->g (.ο p) b (MT H p (.No [x,y])) λd l=>n {D with nx:=c (i+1),ct:=c (i+1),bk:=D.nx} d l)(w:∀b H,c xs.β b H->D.nx b H):∃W:Φ->Φ->St->Hp->Prop,(∃m,W 0 m b H)/\∀i m b H,W i m b H->
   ((E1 d1 d2).Sx i H/\D.nx b H)\/((E1 d1 d2).go i H/\∃N:St->Hp->Prop,(∀f H',N f H'->∃o,o<m/\W (i+1) o f H')/\∀v H',(E1 d1 d2).X_ i H v H'->g v b H' λd l=>n {D with nx:=N,ct:=N,bk:=D.nx} d l):=by
 refine(λi m b H=>m=xs.β-i/\i≤xs.β/\c i b H,(xs.β,!1,Nf _,h0),3);rintro i m b H⟨rfl,F,p⟩;let⟨h1,h2⟩:=u i b H p;by_cases k:i<xs.β
 .refine .NU ((xs,ys,xs[i],ys[i]'(!6),h1,h2,n_ _,n_ _),c (i+1),λf H' r=>(xs.β-(i+1),!6,1,k,r),λv H' q=>?_);let⟨a,j,h,x,y,E,C,B,A,ζ,z,ζ⟩:=q;have:=ju E h1;have:=ju C h2;subst j h;show s i x y a b H B A z p
 .let e:i=xs.β:=by lia
  subst e;show .NJ ((xs,ys,h1,h2,t,1),w b H p)
def tN(h:H a<*.No xs\/H a<*.M7 xs)(b:∀d2:Sd,(∀H':Hp,H' a=H a->d2.UU H' xs)->R (.tx x) d2):zB H (.NA x) (.ο a) R:=by
 rcases h with h|h
 .exact .NJ (x,a,xs,5,h,b (.tp a) λH' e=>show H' a=_ from e.ν h)
 .exact .NU (.NJ (x,a,xs,5,h,b (.ls a) λH' e=>show H' a=_ from e.ν h))
structure j7(K:Frag)(x qual:Str)(st:Stmt)(f:Addr)(fd:FuncData):Prop where
 ex:∃(oc:Value)(od:Option Addr)(dV kV doc pm:Value)(an:Option Addr)(cdv ct:Value)(osl:Array (Option Value)),
  fd=fnOf x qual (t5 st) (p_ st) (h_ st) dV kV doc pm an cdv ct/\K.lookup f=some (oc,od,.func fd,osl)/\codeIn K cdv qual=true
 kp:keepIn K (.ref f)=true
def j7.ok{P:NE}{w:N1}{K:Nn}{st:Nu}(F:j7 K x M6 st f i)(S:vw N ps (h_ st))(PQ:∀vs H Q E,d vs H Q E->vs.β=ps.β)(a:∀(Qm:θ)(A:N2)(Fr:γ WH)(s:MJ)(H:Hp)(vs:γ V)(Q:VK)(E:XK),ak k (A.RH (S7 M6 (h_ st) s⁻¹ f Qm))->d vs H Q E->
   ∃t,BA (aG pu P w K mg ς N M6 (h_ st) f Qm A Fr s H E).nox (p_ st) t/\t {nx:=λ_ H'=>Q .Rv H',rt:=Q} (SQ N vs) H):aa P w K mg ς pu (k+1) f i ps d:=by
 let⟨l,j,m,kV,Pm,pm,an,Qm,ct,e,ζ,lk,c⟩:=F.ex;refine jC lk c S PQ λA Fr s H vs Q E g b=>?_;let⟨t,h,q⟩:=a Qm A Fr s H vs Q E g b;show(t,h.nox,q)
def nE{P:NE}{w:N1}{K:Nn}{mg:NB->ω θ}{ς:NR}{st:Nu}{h e kV Pm pm ct:θ}(lk:K.ρ f<*(h,i,.Qb (Px x M6 (t5 st) (p_ st) (h_ st) e kV Pm pm an (.ο c) ct),g))(b:PD K (.ο c) M6=ξ)(S:vw N ps (h_ st))(PQ:∀vs H Q E,d vs H Q E->vs.β=ps.β)(a:∀(A:N2)(Fr:γ WH)(s:MJ)(H:Hp)(vs:γ V)(Q:VK)(E:XK),ak k (A.RH (S7 M6 (h_ st) s⁻¹ f (.ο c)))->d vs H Q E->
   ∃t,BA (aG pu P w K mg ς N M6 (h_ st) f (.ο c) A Fr s H E) (p_ st) t/\t {nx:=λ_ H'=>Q .Rv H',rt:=Q} (SQ N vs) H):aa P w K mg ς pu (k+1) f (Px x M6 (t5 st) (p_ st) (h_ st) e kV Pm pm an (.ο c) ct) ps d:=jC lk b S PQ a
end L2
namespace RA
open L2
structure Gr(H:Hp)(cW wk:Addr)(L:LN)(t wd y m:Addr):Prop where
 ex:∃dx,H wk<*.ins cW dx [("letters",.str (tx L),),("things",.ref t,),("words",.ref wd,),("ways",.ref y,),("marks",.ref m,)]
abbrev DY(ws:LL):γ V:=ws.NN λw=>V.NA (tx w)
abbrev br(ti:TK)(H:Hp)(ks:LL)(vs:γ V):Prop:=vs.β=ks.β/\∀(i:Φ)(k:LN)(v:V),ks[i]?<*k->vs[i]?<*v->Av ti H k v
def br.OR(h:br c H ks vs)(s:∀b xs,H b<*.No xs->H' b<*.No xs):br c H' ks vs:=(h.1,λi k v a b=>(h.2 i k v a b).OR s)
def br.snoc(h:br d H ks vs)(f:Av d H k v):br d H (ks++[k]) (vs++[v]):=by
 refine(by rw[w_,w_,h.1];rfl,λi k' e a b=>?_);by_cases c:i<ks.β
 .rw [M0 c]at a;rw[M0 (by rw[h.1];show c)]at b;show h.2 i k' e a b
 .rw [MY (OS c)]at a;rw[MY (by rw[h.1];show OS c),h.1]at b;let hz:i-ks.β=0:=by
   have:=(q5 a).1;simp at this;omega
  rw[hz]at a b;cases a;cases b;show f
abbrev DC(H:Hp)(S0:γ υ)(R:LL):Prop:=S0.β=R.β/\∀(i:Φ)(a:υ)(r:LN),S0[i]?<*a->R[i]?<*r->H a<*.M7 (c_ r)
structure Dj(g:LN->Nat->LN)(nL:Nat)(ks:LL)(R:LL):Prop where
 row:∀(r:Nat)(row:LN)(k:LN),R[r]?<*row->ks[r]?<*k->row.length=nL/\∀(q x:Nat),row[q]?<*x->ks[x]?<*g k q
inductive Hk(ti:TK)(L:LN)(g:LN->Nat->LN)(U:LL)(Rest:Hp->Prop)(vs:List V)(H:Hp)(Q:VK)(_E:XK):Prop
 |mk (k v:_) (_:vs=[v]) (_:Av ti H k v) (_:k∈U) (_:Rest H) (_:∀gs xs H',a' H H'->(H' gs<*.tup xs\/(H gs=none/\H' gs<*.lst xs))->xs.length=L.length->(∀(q:Nat)(x:V),xs[q]?<*x->Av ti H' (g k q) x)->Q (.ref gs) H')
inductive Hl(ti:TK)(mk:LN->Bool)(U:LL)(Rest:Hp->Prop)(vs:List V)(H:Hp)(Q:VK)(_E:XK):Prop
 |mk (k v:_) (_:vs=[v]) (_:Av ti H k v) (_:k∈U) (_:Rest H) (_:∀H',a' H H'->Q (.bl (mk k)) H')
abbrev c6:ω Φ->V
 |ε=>.Rv
 |δ n=>.MS (n:MN)
inductive qj(cW:Addr)(vs:List V)(H:Hp)(Q:VK)(_E:XK):Prop
 |mk (x dx L v:_) (_:vs=[.ref x,.str (tx L),v]) (_:H x<*.ins cW dx []) (_:∀t wd y m H',t≠wd->t≠y->t≠m->wd≠y->wd≠m->y≠m->H t=none->H wd=none->H y=none->H m=none->(∀b o,b≠x->H b<*o->H' b<*o)->Gr H' cW x L t wd y m->H' t<*.lst [v]->H' wd<*.lst [.str (tx [])]->H' y<*.lst []->H' m<*.lst []->Q .non H')
inductive Hm(cW:Addr)(ti:TK)(L:LN)(g:LN->Nat->LN)(mk:LN->Bool)(U:LL)(Rest:Hp->Prop)(fg fm:Addr)(vs:List V)(H:Hp)(Q:VK)(_E:XK):Prop
 | mk (s:LN) (sv:V) (most:Option Nat) (_:vs=[.str (tx L),sv,.ref fg,.ref fm,c6 most]) (_:CK L) (_:Av ti H s sv) (_:s∈U) (_:(∀k∈U,∀q,q<L.length->g k q∈U)) (_:U.length≤100000) (_:Rest H) (_:∀(wk t wd y m:Addr)(ks:LL)(vks:List V)(ws:LL)(rows:List Addr)(R:LL)(B:List Bool)(H':Hp),a' H H'->Gr H' cW wk L t wd y m->H' t<*.lst vks->br ti H' ks vks->H' wd<*.lst (DY ws)->H' y<*.lst (rows.map V.ref)->DC H' rows R->H' m<*.lst (B.map V.bl)->
  Bf g L s ks ws R.length 0->Dj g L.length ks R->B.length=R.length->(∀(r:Nat)(k:LN)(b:Bool),ks[r]?<*k->B[r]?<*b->b=mk k)->(∀k∈ks,k∈U)->ks.length≤U.length->(R.length=ks.length\/∃n,most=some n/\n<ks.length)->Q (.ref wk) H')
def Hn(h:n≤100000):n<Λ:=by rw[OQ];omega
def zc{A B:Prop}(h:A):if (!decide (V.MS n=V.Rv))=ξ then A else B:=by
 rw[M5 (λz=>by cases z)];show aw h
structure WI(P:Program)(w:World)(H0 H:Hp)(cW:Addr)(ti:TK)(L:LN)(wk t wd y m d:Addr)(ks:LL)(vks:List V)(ws:LL)(rows:List Addr)(R:LL)(B:List Bool):Prop where
 sm:a' H0 H
 obj:Gr H cW wk L t wd y m
 ht:H t<*.lst vks
 th:br ti H ks vks
 hw:H wd<*.lst (DY ws)
 hy:H y<*.lst (rows.map V.ref)
 wr:DC H rows R
 hm:H m<*.lst (B.map V.bl)
 rm:Aq P w H d ti ks
 n1:H0 t=none
 n2:H0 wd=none
 n3:H0 y=none
 n4:H0 m=none
 n5:H0 d=none
 d1:t≠wd
 d2:t≠y
 d3:t≠m
 d4:wd≠y
 d5:wd≠m
 d6:y≠m
 e1:d≠t
 e2:d≠wd
 e3:d≠y
 e4:d≠m
 e5:d≠wk
 nr:∀a∈rows,a≠t/\a≠wd/\a≠y/\a≠m/\a≠d
section
variable{P:Program}{w:World}{H0 H:Hp}{cW:Addr}{ti:TK}{L:LN}{wk t wd y m d:Addr}{ks:LL}{vks:List V}{ws:LL}{rows:List Addr}{R:LL}{B:List Bool}
def WI.Ql(h:WI P w H0 H cW ti L wk t wd y m d ks vks ws S0 R B)(s:a' H H'):WI P w H0 H' cW ti L wk t wd y m d ks vks ws S0 R B:=
 {h with
  sm:=h.sm.ν s
  Uf:=let⟨dx,e⟩:=h.Uf.ex;(dx,s _ _ e)
  ht:=s _ _ h.ht
  th:=h.th.OR λb xs e=>s _ _ e
  hw:=s _ _ h.hw
  hy:=s _ _ h.hy
  wr:=(h.wr.1,λi a r h1 h2=>s _ _ (h.wr.2 i a r h1 h2))
  hm:=s _ _ h.hm
  rm:=h.rm.OR λb o e _=>s _ _ e}
def WI.beside(h:WI P w H0 H cW ti L wk t wd y m d ks vks ws S0 R B)(j:H a<*.M7 xs)(h0:H0 a=ε)(s:a≠t)(q:a≠wd)(p:a≠y)(n:a≠m)(l:a≠d)(k:a∉S0):WI P w H0 (MT H a o) cW ti L wk t wd y m d ks vks ws S0 R B:=by
 let f:∀{b:υ}{u:HO},H b<*u->b≠a->MT H a o b<*u:=λe g=>by rw[a_ g];show e
 let c:∀b zs,H b<*.No zs->MT H a o b<*.No zs:=λb zs e=>f e (qN e j (!5));show {h with
  sm:=a'.Ra h.sm h0
  Uf:=let⟨dx,e⟩:=h.Uf.ex;(dx,f e (qN e j (!5)))
  ht:=f h.ht (Ne.MQ s)
  th:=h.th.OR c
  hw:=f h.hw (Ne.MQ q)
  hy:=f h.hy (Ne.MQ p)
  wr:=(h.wr.1,λi b r h1 h2=>f (h.wr.2 i b r h1 h2) λz=>k (by rw[<-z];show AC h1))
  hm:=f h.hm (Ne.MQ n)
  rm:=h.rm.OR λb u e g=>by
   rcases g with ζ|⟨zs,ζ⟩
   .exact f e (Ne.MQ l)
   .exact c b zs e}
def WI.X0(h:WI P w H0 H cW ti L wk t wd y m d ks vks ws S0 R B)(A:Av ti H k v)(s:Aq P w (MT H d n) d ti (ks++[k])):WI P w H0 (MT (MT (MT H d n) t (.M7 (vks++[v]))) wd (.M7 (DY ws++[.NA (tx a)]))) cW ti L wk t wd y m d (ks++[k]) (vks++[v]) (ws++[a]) S0 R B:=by
 let o:∃φ,H d<*.ext φ:=by
  let j:=h.rm;unfold Aq at j;by_cases c:ti=.i
  .rw [Id c]at j;show(_,j.1)
  .rw [BT c]at j;let⟨NS,e,_⟩:=j;show(_,e)
 let⟨φ,o⟩:=o;let l:∀{b:υ}{u:HO},H b<*u->b≠d->b≠t->b≠wd->MT (MT (MT H d n) t (.M7 (vks++[v]))) wd (.M7 (DY ws++[.NA (tx a)])) b<*u:=λe h1 h2 D=>by rw[a_ D,a_ h2,a_ h1];show e
 let g:∀b zs,H b<*.No zs->MT (MT (MT H d n) t (.M7 (vks++[v]))) wd (.M7 (DY ws++[.NA (tx a)])) b<*.No zs:=λb zs e=>l e (qN e o (!5)) (qN e h.ht (!5)) (qN e h.hw (!5));let E:=h.Uf.ex;let⟨dx,q⟩:=E;show {h with
  sm:=a'.Ra (a'.Ra (a'.Ra h.sm h.n5) h.n1) h.n2
  Uf:=(dx,l q (Ne.MQ h.e5) (qN q h.ht (!5)) (qN q h.hw (!5)))
  ht:=by rw[a_ h.d1,j_]
  th:=(h.th.OR g).snoc (A.OR g)
  hw:=by rw[j_,DY,DY,Nw];rfl
  hy:=l h.hy (Ne.MQ h.e3) (Ne.MQ h.d2) (Ne.MQ h.d4)
  wr:=(h.wr.1,λi b r h1 h2=>l (h.wr.2 i b r h1 h2) (h.nr b (AC h1)).2.2.2.2 (h.nr b (AC h1)).1 (h.nr b (AC h1)).2.1)
  hm:=l h.hm (Ne.MQ h.e4) (Ne.MQ h.d3) (Ne.MQ h.d5)
  rm:=s.OR λb u e C=>by
   rcases C with ζ|⟨zs,ζ⟩
   .rw [a_ h.e2,a_ h.e1];show e
   .let p:b≠d:=λz=>by
     rw[z,j_]at e;let f:=s;unfold Aq at f;by_cases c:ti=.i
     .rw [Id c,j_]at f;rw[e]at f;cases f.1
     .rw [BT c]at f;let⟨NS,x,_⟩:=f;rw[j_,e]at x;cases x
    rw[a_ p]at e;show g b zs e}
def WI.Vx(h:WI P w H0 H cW ti L wk t wd y m d ks vks ws S0 R B)(o:H a<*.M7 (c_ r))(x:a≠t)(v:a≠wd)(l:a≠y)(s:a≠m)(q:a≠d):WI P w H0 (MT H y (.M7 (S0.NN V.ο++[.ο a]))) cW ti L wk t wd y m d ks vks ws (S0++[a]) (R++[r]) B:=by
 let f:∀{b:υ}{u:HO},H b<*u->b≠y->MT H y (.M7 (S0.NN V.ο++[.ο a])) b<*u:=λe g=>by rw[a_ g];show e
 let c:∀b zs,H b<*.No zs->MT H y (.M7 (S0.NN V.ο++[.ο a])) b<*.No zs:=λb zs e=>f e (qN e h.hy (!5));let p:=h.Uf.ex;let⟨dx,k⟩:=p;show {h with
  sm:=a'.Ra h.sm h.n3
  Uf:=(dx,f k (qN k h.hy (!5)))
  ht:=f h.ht h.d2
  th:=h.th.OR c
  hw:=f h.hw h.d4
  hy:=by rw[j_,Nw];rfl
  wr:=by
   refine(by rw[w_,w_,h.wr.1];rfl,λi b n h1 h2=>?_);by_cases j:i<S0.β
   .rw [M0 j]at h1;rw[M0 (by rw[<-h.wr.1];show j)]at h2;show f (h.wr.2 i b n h1 h2) (h.nr b (AC h1)).2.2.1
   .rw [MY (OS j)]at h1;rw[MY (by rw[<-h.wr.1];show OS j),<-h.wr.1]at h2;let hz:i-S0.β=0:=by
     have:=(q5 h1).1;simp at this;omega
    rw[hz]at h1 h2;cases h1;cases h2;show f o l
  hm:=f h.hm (Ne.MQ h.d6)
  rm:=h.rm.OR λb u e g=>by
   rcases g with ζ|⟨zs,ζ⟩
   .exact f e h.e3
   .exact c b zs e
  nr:=λb g=>by
   rcases Nd.mp g with z|z
   .exact h.nr b z
   .rw [Ay z];show(x,v,l,s,q)}
def WI.Zb(h:WI P w H0 H cW ti L wk t wd y m d ks vks ws S0 R B):WI P w H0 (MT H m (.M7 (B.NN V.bl++[.bl b]))) cW ti L wk t wd y m d ks vks ws S0 R (B++[b]):=by
 let f:∀{c:υ}{u:HO},H c<*u->c≠m->MT H m (.M7 (B.NN V.bl++[.bl b])) c<*u:=λe g=>by rw[a_ g];show e
 let a:∀c zs,H c<*.No zs->MT H m (.M7 (B.NN V.bl++[.bl b])) c<*.No zs:=λc zs e=>f e (qN e h.hm (!5));let k:=h.Uf.ex;let⟨dx,j⟩:=k;show {h with
  sm:=a'.Ra h.sm h.n4
  Uf:=(dx,f j (qN j h.hm (!5)))
  ht:=f h.ht h.d3
  th:=h.th.OR a
  hw:=f h.hw h.d5
  hy:=f h.hy h.d6
  wr:=(h.wr.1,λi c r h1 h2=>f (h.wr.2 i c r h1 h2) (h.nr c (AC h1)).2.2.2.1)
  hm:=by rw[j_,Nw];rfl
  rm:=h.rm.OR λc u e g=>by
   rcases g with ζ|⟨zs,ζ⟩
   .exact f e h.e4
   .exact a c zs e}
end
def Ji(l:LN)(x:Φ):c_ (l++[x])=c_ l++[V.MS (x:MN)]:=by simp[c_]
def bY{a:Type}{l:γ a}{x y:a}{i:Φ}(h:l[i]?<*y):(l++[x])[i]?<*y:=by
 rw[M0 (q5 h).1];show h
def J8{a:Type}{l:γ a}{x y:a}(b:i<l.β)(h:(l++[x])[i]?<*y):l[i]?<*y:=by
 rw[M0 b]at h;show h
def Fy{a:Type}{l:γ a}{x y:a}(e:(l++[x])[i]?<*y):l[i]?<*y\/(i=l.β/\y=x):=by
 by_cases b:i<l.β
 .rw [M0 b]at e;show .NJ e
 .rw [MY (!6)]at e;have:i-l.β=0:=by
   have:=(q5 e).1;simp at this;omega
  rw[this]at e;show .NU (!6,(ω.δ.QK e).MQ)
def lK(h:k∈ts):Eg ts k=δ (ts.M3 k)/\ts[ts.M3 k]?<*k:=(Id h,by rw[n_ (M8 h),O_])
structure C4(g:LN->Nat->LN)(L s0:LN)(mk:LN->Bool)(U ks ws R:LL)(B:List Bool)(q:Nat):Prop where
 bf:Bf g L s0 ks ws R.length q
 le:R.length≤ks.length
 ways:Dj g L.length ks R
 bl:B.length=R.length
 mks:∀(r:Nat)(k:LN)(b:Bool),ks[r]?<*k->B[r]?<*b->b=mk k
 sub:∀k∈ks,k∈U
 left:BU U ks+ks.length≤U.length
 wl:∀a∈ws,a.length≤ks.length
abbrev EA(g:LN->Φ->LN)(ks:LL)(n:Φ)(r:LN)(q:Φ):Prop:=r.β=q/\∀(q' x:Φ)(k:LN),ks[n]?<*k->r[q']?<*x->ks[x]?<*g k q'
section
variable{g:LN->Nat->LN}{L s0:LN}{mk:LN->Bool}{U ks ws R:LL}{B:List Bool}{q n:Nat}{r a k0:LN}
def C4.SQ(c:s0∈U):C4 g L s0 mk U [s0] [[]] [] [] 0 where
 bf:=Bf.SQ g L s0
 le:=Nf _
 ways:=⟨λr d k h=>by simp at h⟩
 bl:=ζ
 mks:=λr k b _ h=>by simp at h
 Rr:=λk e=>by rw[Ay e];show c
 left:=by
  let h1:=eX (U:=U) (ts:=[]) c (!1);let h2:BU U ([]:LL)≤U.β:=γ.countP_le_length;simp at h1⊢;lia
 wl:=λa f=>by rw[Ay f];show Nf _
def C4.old(h:C4 g L s0 mk U ks ws R B q)(b:L.Nz)(e:ks[R.β]?<*k0)(f:ws[R.β]?<*a)(c:q<L.β)(d:g k0 q∈ks):C4 g L s0 mk U ks ws R B (q+1):=
 {h with bf:=h.bf.old b e f c d}
def C4.X0(h:C4 g L s0 mk U ks ws R B q)(j:L.Nz)(d:ks[R.β]?<*k0)(f:ws[R.β]?<*a)(o:q<L.β)(e:g k0 q∉ks)(i:g k0 q∈U):C4 g L s0 mk U (ks++[g k0 q]) (ws++[a++[L.ML q 0]]) R B (q+1) where
 bf:=h.bf.X0 j d f o e
 le:=by rw[w_];show IO h.le (Od _ _)
 ways:=⟨λr c k h1 h2=>by
  let m:r<ks.β:=Ψ (q5 h1).1 h.le;let⟨t,s⟩:=h.ways.Vx r c k h1 (J8 m h2);show(t,λq x l=>bY (s q x l))⟩
 bl:=h.bl
 mks:=λr k b h1 h2=>h.mks r k b (J8 (Ψ (by rw[<-h.bl];show(q5 h2).1) h.le) h1) h2
 Rr:=λk d=>by
  rcases Nd.mp d with z|z
  .exact h.Rr k z
  .rw [Ay z];show i
 left:=by
  let h1:=eX (U:=U) (ts:=ks) i e;let h2:=h.left;rw[w_];change BU U (ks++[g k0 q])+(ks.β+1)≤U.β;lia
 wl:=λb p=>by
  rw[w_];rcases Nd.mp p with z|z
  .exact IO (h.wl b z) (Od _ _)
  .rw [Ay z,w_];show Φ.add_le_add_right (h.wl a (AC f)) 1
def C4.next(h:C4 g L s0 mk U ks ws R B L.β)(e:ks[R.β]?<*k0)(d:EA g ks R.β r L.β):C4 g L s0 mk U ks ws (R++[r]) (B++[mk k0]) 0 where
 bf:=by rw[w_];show h.bf.next
 le:=by rw[w_];show(q5 e).1
 ways:=⟨λi c k h1 h2=>by
  rcases Fy h1 with z|⟨rfl,ζ⟩
  .exact h.ways.Vx i c k z h2
  .exact (d.1,λq x f=>d.2 q x k h2 f)⟩
 bl:=by rw[w_,w_,h.bl];rfl
 mks:=λi k b h1 h2=>by
  rcases Fy h2 with z|⟨rfl,ζ⟩
  .exact h.mks i k b h1 z
  .rw [h.bl,e]at h1;cases h1;rfl
 Rr:=h.Rr
 left:=h.left
 wl:=h.wl
def EA.Ow:EA g ks n [] 0:=(1,λq x k _ h=>by simp at h)
def EA.grow(h:EA g ks n r q)(c:n<ks.β):EA g (ks++[x]) n r q:=(h.1,λb y k h1 h2=>bY (h.2 b y k (J8 c h1) h2))
def EA.snoc(h:EA g ks n r q)(d:ks[n]?<*k0)(c:g k0 q∈ks):EA g ks n (r++[ks.M3 (g k0 q)]) (q+1):=by
 refine(by rw[w_,h.1];rfl,λb x k h1 h2=>?_);rcases Fy h2 with z|⟨rfl,ζ⟩
 .exact h.2 b x k h1 z
 .rw [d]at h1;cases h1;rw[h.1];show(lK c).2
end
abbrev gW(W:LL)(k:LN)(q:Φ):LN:=[(W.ML (k.headD 0) []).ML q 0]
abbrev uW(W:LL):LL:=(γ.N4 W.β).NN λn=>[n]
abbrev mkW(B:γ MZ)(k:LN):MZ:=B.ML (k.headD 0) η
def p8:[n]∈uW W↔n<W.β:=by
 unfold uW;rw[PH];constructor
 .rintro⟨m,a,e⟩;injection e with e;rw[<-e];show Np.mp a
 .exact λh=>(n,Np.Ot h,1)
def p9(W:LL):(uW W).β=W.β:=by rw[uW,ol,OD]
def kg(h:k∈uW W):∃n,k=[n]/\n<W.β:=by
 unfold uW at h;let⟨n,a,e⟩:=PH.mp h;show(n,e.MQ,Np.mp a)
def xQ(d:g_ L W B):∀k∈uW W,∀q,q<L.β->gW W k q∈uW W:=λk c q a=>by
 let⟨n,ζ,b⟩:=kg c;refine p8.Ot ?_;change (W.ML n []).ML q 0<W.β;let e:W.ML n []=W[n]:=by rw[u6,n_ b];rfl
 rw[e];let⟨h1,h2⟩:=d.Vx W[n] (Nv b);let f:W[n].ML q 0=W[n][q]'(by rw[h1];show a):=by rw[u6,n_ (by rw[h1];show a)];rfl
 rw[f];show h2 _ (Nv _)
def cr(r:Φ):∀(m:Φ)(w:LN),w.β=m->aR (gW W) L [r] w=[PM L W r w]:=by
 intro m;induction m with
 |TF=>
  intro w hw;rw[PL.mp hw];rfl
 |Si m a=>
  intro w hw;obtain⟨c,v,ζ⟩:∃c v,w=v++[c]:=(w.Wl (by intro z;rw[z]at hw;cases hw),w.RR,(γ.PP _).MQ);rw[JX,a v (by simpa using hw),ER];rfl
def zl.QT(h:zl H m L W B)(s:∀b xs,H b<*.No xs->H' b<*.No xs):zl H' m L W B:=by
 let⟨d,mk,c,h1,h2,j,g,f⟩:=h;show(d,mk,c,s _ _ h1,s _ _ h2,s _ _ j,g,λi r e=>let⟨ws,a,b⟩:=f i r e;(ws,a,s _ _ b))
def FU(s:Cv P0 H H')(a:A_ H P0 ON):∀b xs,H b<*.No xs->H' b<*.No xs:=λb xs e=>s b _ (λz=>by
 let⟨ps,c,_⟩:=a;rw[z,c]at e;cases e) e
def Ie(a:Cv P0 H g)(b:Cv P0 g f):Cv P0 H f:=λc o d e=>b c o d (a c o d e)
def qA(s:a' H H'):Cv P0 H H':=λb o _ e=>s b o e
def sP{n:Φ}(h:n≠0):decide (V.MS (n:MN)=V.MS 0)=η:=M5 λz=>h (MN.ofNat_inj.mp (V.MS.QK z))
def iC:S9 (#[]:Nt θ).NF:=trivial
def Gs(h:A_ H P0 ON)(s:a' H H'):A_ H' P0 ON:=by
 let⟨ps,c,h2,d⟩:=h;show(ps,s _ _ c,h2,λx b=>(d x b).Wi id λa=>by let⟨g,f,e⟩:=a;show(g,f,s _ _ e))
end RA
namespace L2
open PySem.Spec PyProof.Rows
section
variable{X:Cx}
def pU(y:X.T9=ξ):Dg X (.Nk "max") (λxs H Q=>∃(a:υ)(ns:γ MN),xs=[V.ο a]/\H a=δ (.M7 (ns.NN V.MS))/\0<ns.β/\∀M∈ns,(∀x∈ns,x≤M)->Q (.MS M) H):=by
 intro f s B H xs us Q I r h;let⟨a,ns,ζ,z,i,q⟩:=h;let⟨C,ζ,o⟩:=Dr r;cases o;let⟨c,n,p,hz⟩:=I.Qx (o5.of z);let m:=jr n;let k:s.π.SM a c.χ:=p.QW;let⟨xs,e⟩:=m.allInts.Y6;let b:ns=xs.NF.NN (·.1):=by rw[<-m.numsOf,<-nums_intItems,<-e]
 let V_:0<xs.MX:=by
  rw[b,ol,Po]at i;show i
 rw[e]at k;refine max_intList (I.ok.hd y) k V_ λv h' D u w=>?_;let⟨t,ζ⟩:=intItems_at u;let⟨h1,h2⟩:=argBest_gt (numAt xs) (xs.MX-1);refine(.MS _,H,I.SW w,(t,1),q _ ?_ λx g=>?_)
 .rw [b,numAt_eq];show Δ.getD_mem (by rw[ol,Po];lia)
 .rw [b]at g;let⟨j,l⟩:=NO.mp g;let d:=(q5 l).1;rw[ol,Po]at d;have:=h2 j (!6);let A:numAt xs j=x:=by
   rw[numAt_eq,u6,l];rfl
  rw[<-A];show this
inductive rIndexI(x:V)(vs:List V)(H:Hp)(Q:VK):Prop
 |mk (l:Addr) (ns:List Int) (n:Int) (_:x=.ref l) (_:vs=[.int n]) (_:H l<*.lst (ns.map V.int)) (_:n∈ns) (_:Q (.int (ns.idxOf n:Nat)) H)
def pf:IT X "list.index" rIndexI:=by
 intro E s Y H x vs v us Q I N O h;let⟨l,bs,d,ζ,ζ,L,T,q⟩:=h;cases N;let⟨u,ζ,P⟩:=O.Ol;let⟨M,ζ⟩:=(show ∃t,u=θ.MS d t from P);let⟨z,g,n,r,Z,e⟩:=I.lstM L;let f:g.β=bs.β:=by rw[<-r.β,ol]
 let p:bs.M3 d<bs.β:=M8 T;let o:∀(j:Φ)(B:j<g.χ.MX),∃(k:j<bs.β)(t:XM),g.χ[j]=.MS bs[j] t:=λj B=>by
  let k:j<bs.β:=by simpa[f]using B
  refine(k,3);let⟨a,W,R⟩:=r.VI (i:=j) (x:=.MS bs[j]) (by rw[tS,n_ k];rfl);let⟨t,ζ⟩:=(show ∃t,a=θ.MS bs[j] t from R);let⟨_,q⟩:=q5 W;show(t,by simpa using q)
 let C:((bs.M3 d:Φ):MN)<2^63-1:=by
  let U:(bs.NN V.MS).β≤Λ:=(I.M7 L).Vh.Vh.2.2;rw[ol,OQ]at U;lia
 refine Yb F.TX (_,e,1) F.entry_list_index (F.args_list_index_2 _ _) (PV.list_indexAt l g.χ n ε #[] (.MS d M) (λy=>match y with|.MS b _=>b==d|_=>η) (bs.M3 d) (by simpa[f]using p) C ?_ ?_) (e,3,(.MS _,H,I.Tw _,(_,ζ),q))
 .obtain ⟨k,t,A⟩:=o (bs.M3 d) (by simpa[f]using p);rw[A];change (bs[bs.M3 d]==d)=ξ;rw[O_ k];show Ul d
 .intro m D J;let⟨k,t,A⟩:=o m D;rw[A];change (bs[m]==d)=η;by_cases w:bs[m]=d
  .have:=RA.Hd (l:=bs) (c:=d) (i:=m) (by rw[n_ k,w]);lia
  .exact ND.Ot w
 .intro y S;let⟨j,B,ζ⟩:=Nt.Xl.mp S;let⟨k,t,A⟩:=o j B;rw[A];show PV.R6.Zd _ _ _ _
def gF(K:Nn)(a:PE X e ta)(b:QL e f X.KK (OM e X.KK)=OM e X.KK)(c:(X.K=K)>>>4):PE X (.O3 e f Nj) (yf K ta f):=by
 subst c;show AD a b
def oP{c a:Sh}(K:Nn)(i:PE X o to)(j:PA X [e] t)(k:(X.K=K)>>>4)(f:(QL o "index" X.KK (OM o X.KK)=OM o X.KK)>>>4)(g:(((OF a (Θ [e] X.KK)).QD (λx=>!x.1)&&(Vi a (TQ [] X.KK)).QD (λx=>x.1.Rz)
   && decide ([e].β+([]:γ Vs).β+(if ([]:γ Vs).SG then 0 else 1)<30))=ξ)>>>4)(d:((c.Zk==a.SZ)=ξ)>>>4)(h:(Θ [e] X.KK=(η,OM e X.KK,)::Θ [] X.KK)>>>4)(b:((OF a (Θ [] X.KK)).Ql (·.1)=η)>>>4):PE X (.QG (.O3 o "index" c) [e] [] a) (Cr K "list" rIndexI to t):=by
 subst k;show jb P' Δ.F.TX Δ.F.Xg pf i j f g d h b
end
end L2
namespace RA
open L2
abbrev vP(H:Hp)(S0:γ υ)(W:LL):Prop:=∀(i:Φ)(r:υ),S0[i]?<*r->∃ws,W[i]?=δ ws/\∃o,(o=.M7 (c_ ws)\/o=.No (c_ ws))/\H r<*o
def rG:∀{ns:LN},0<ns.β->∃M∈ns,∀x∈ns,x≤M
 |[],h=>by simp at h
 |[a],_=>(a,!1,λx c=>by rw[Ay c];show LE _)
 |a::b::r,_=>by
  let⟨M,h1,h2⟩:=rG (ns:=b::r) (!1);by_cases h:a≤M
  .exact (M,M4 _ h1,λx c=>by
    rcases MP.mp c with ζ|z
    .exact h
    .exact h2 x z)
  .exact (a,!1,λx c=>by
    rcases MP.mp c with ζ|z
    .exact LE _
    .have:=h2 x z;lia)
def pZ(n:Φ):∀(l:LN),(zs l).M3 (n:MN)=l.M3 n
 |[]=>rfl
 |x::l=>by
  change ((x:MN)::zs l).M3 (n:MN)=_;rw[Uz,Uz,pZ n l];by_cases h:x=n
  .rw [h];simp
  .rw [ND.Ot h,ND.Ot (λe=>h (MN.ofNat_inj.mp e))]
def ly(h1:zl H f L W B)(h2:zl H m2 L W B)(c:g_ L W B):ip H 3 (.ο f) (.ο m2):=by
 let d:∀{m:υ},zl H m L W B->tI H m L (W.NN zs) B:=λ{m}h=>by
  let⟨e,mk,b,r,q,p,o,n⟩:=h;refine(e,mk,b,r,q,p,by rw[ol];show o,λi a l=>?_);let⟨ws,k,j⟩:=n i a l;show(zs ws,by rw[tS,k];rfl,by rw[ir];show j)
 refine pj (d h1) (d h2) (by rw[ol];show IO c.n60 (!0)) (by rw[c.bl];show IO c.n60 (!0)) λR g=>?_;let⟨ws,hw,ζ⟩:=PH.mp g;rw[fY,(c.Vx ws hw).1];show IO c.lt.hi (!0)
end RA
namespace RA
section
variable{κ:Type}[DecidableEq κ]
def Jj:∀(ks b:γ κ),∃r,aO b ks=b++r
 |[],b=>([],(Oe b).MQ)
 |a::ks,b=>by
  change ∃r,aO (if a∈b then b else b++[a]) ks=b++r;by_cases h:a∈b
  .rw [Id h];show Jj ks b
  .rw [BT h];let⟨r,e⟩:=Jj ks (b++[a]);show([a]++r,by rw[e,Na])
def hZ:∀(ks b:γ κ),b.Nz->(aO b ks).Nz
 |[],_,h=>h
 |a::ks,b,h=>by
  change (aO (if a∈b then b else b++[a]) ks).Nz;by_cases c:a∈b
  .rw [Id c];show hZ ks b h
  .rw [BT c];refine hZ ks _ ?_;rw[γ.Wg];refine(h,!1,λx d y f e=>?_);rw[Ay f]at e;rw[e]at d;show c d
def sN(ks:γ κ):(zg ks).Nz:=hZ ks [] γ.nodup_nil
def rq{ks:γ κ}(h:0<ks.β):(ay ks).ML 0 0=0:=by
 cases ks with
 |Ow=>simp at h
 |NZ k ks=>
  rw[HW (k:=k) ζ];let⟨r,e⟩:=Jj ks [k];have:zg (k::ks)=[k]++r:=by
   change aO (if k∈[]then[]else[]++[k]) ks=_;rw[BT (!1)];show e
  rw[this];simp
def eP{ks:γ κ}{M j:Φ}(h:M∈ay ks)(e:j≤M):j∈ay ks:=by
 let⟨k,d,ζ⟩:=PH.mp h;let a:j<(zg ks).β:=Nm e (M8 (SY.Ot d));let c:(zg ks)[j]∈ks:=SY.mp (Nv a);refine PH.Ot ((zg ks)[j],c,3);let b:=sN ks;let h2:(zg ks).M3 (zg ks)[j]<(zg ks).β:=M8 (Nv a);show(UJ b).mp (O_ h2)
end
section
variable{L:LN}{W:LL}{B:List Bool}{k:Nat}
def xM(h:g_ L W B):(Rd W B k).ML 0 0=0:=by
 cases k with
 |TF=>show rq (by rw[h.bl];show h.n1)
 |Si k=>show rq (by rw[DS];show h.n1)
def nX(h:M∈Rd W B k)(a:j≤M):j∈Rd W B k:=by
 cases k with
 |TF=>show eP h a
 |Si k=>show eP h a
end
abbrev AM(R:LL)(W8:LN)(m:Φ):LL:=(γ.N4 m).NN λj=>(R.ML (W8.M3 j) []).NN λg=>W8.ML g 0
abbrev Dk(Bm:γ MZ)(W8:LN)(m:Φ):γ MZ:=(γ.N4 m).NN λj=>Bm.ML (W8.M3 j) η
def fz(h:j<m):(AM R a m).ML j []=(R.ML (a.M3 j) []).NN λg=>a.ML g 0:=by
 rw[AM,u6,tS,O' h];rfl
def pK(h:j<m):(Dk Bm a m).ML j η=Bm.ML (a.M3 j) η:=by
 rw[Dk,u6,tS,O' h];rfl
structure bb(lots:LN)(m:Nat):Prop where
 pos:0<m
 lt:∀x∈lots,x<m
 has:∀j<m,j∈lots
section
variable{L:LN}{R:LL}{Bm:List Bool}{k m:Nat}
def pI{l:LN}(h:i<l.β):l.ML i 0∈l:=by
 rw[u6,n_ h];show Nv h
def Cy(b:bb (Rd R Bm k) m)(a:g_ L R Bm)(c:j<m):(Rd R Bm k).M3 j<R.β/\r_ R Bm k ((Rd R Bm k).M3 j)=j:=by
 let h1:=M8 (b.UU j c);refine(by rw[DU a]at h1;show h1,3);rw[r_,u6,n_ h1];show O_ h1
def lu(c:bb (Rd R Bm k) m)(a:g_ L R Bm)(b:r<R.β):r_ R Bm k r<m:=c.lt _ (pI (by rw[DU a];show b))
def GP(b:bb (Rd R Bm k) m)(a:g_ L R Bm):g_ L (AM R (Rd R Bm k) m) (Dk Bm (Rd R Bm k) m) where
 lt:=a.lt
 n1:=by rw[AM,ol,OD];show b.Nj
 n60:=by
  rw[AM,ol,OD];let h1:=dM a (b.UU (m-1) (by have:=b.Nj;omega));have:=a.n60;lia
 bl:=by rw[Dk,AM,ol,ol]
 Vx:=λws h=>by
  rw[AM]at h;let⟨j,c,ζ⟩:=PH.mp h;let c:=Np.mp c;let⟨h1,h2⟩:=Eb a (Cy b a c).1;refine(by rw[ol];show h1,λx d=>?_);let⟨g,e,ζ⟩:=PH.mp d;rw[AM,ol,OD];show lu b a (h2 g e)
def sB(b:bb (Rd R Bm k) m)(a:g_ L R Bm):(AM R (Rd R Bm k) m).β≤R.β:=by
 rw[AM,ol,OD];let h1:=dM a (b.UU (m-1) (by have:=b.Nj;omega));lia
def sw(d:bb (Rd R Bm k) m)(a:g_ L R Bm)(st:Rd R Bm (k+1)=Rd R Bm k)(b:r<R.β)(i:c∈L):Bw L (AM R (Rd R Bm k) m) (r_ R Bm k r) c=r_ R Bm k (Bw L R r c):=by
 let g:L.M3 c<L.β:=M8 i;let f:=lu d a b;let⟨h,j⟩:=Cy d a f;let p:r_ R Bm (k+1) ((Rd R Bm k).M3 (r_ R Bm k r))=r_ R Bm (k+1) r:=by
  change (Rd R Bm (k+1)).ML _ 0=(Rd R Bm (k+1)).ML _ 0;rw[st];show j
 let o:=((Go a h b).mp p).2 _ g;unfold Bw;rw[fz f];let e:L.M3 c<(R.ML ((Rd R Bm k).M3 (r_ R Bm k r)) []).β:=by rw[(Eb a h).1];show g
 rw[u6,tS,n_ e];change (Rd R Bm k).ML _ 0=_;let n:QY R ((Rd R Bm k).M3 (r_ R Bm k r)) (L.M3 c)=(R.ML ((Rd R Bm k).M3 (r_ R Bm k r)) [])[L.M3 c]:=by
  rw[QY,u6 (l:=R.ML _ []),n_ e];rfl
 rw[<-n];show o
def Gu(e:bb (Rd R Bm k) m)(a:g_ L R Bm)(st:Rd R Bm (k+1)=Rd R Bm k):∀{w:LN}{r:Φ},r<R.β->(∀c∈w,c∈L)->PM L (AM R (Rd R Bm k) m) (r_ R Bm k r) w=r_ R Bm k (PM L R r w)
 |[],_,_,_=>rfl
 |c::w,r,b,hw=>by
  let f:c∈L:=hw c (!1);change PM L (AM R (Rd R Bm k) m) (Bw L (AM R (Rd R Bm k) m) (r_ R Bm k r) c) w=r_ R Bm k (PM L R (Bw L R r c) w);rw[sw e a st b f];show Gu e a st (Ew a b (M8 f)) λd g=>hw d (by simp[g])
def Ig(c:bb (Rd R Bm k) m)(a:g_ L R Bm)(b:r<R.β):(Dk Bm (Rd R Bm k) m).ML (r_ R Bm k r) η=Bm.ML r η:=by
 let d:=lu c a b;let⟨e,f⟩:=Cy c a d;rw[pK d];show(jk a e b).mp (rJ a e b (Nf k) f)
def Ho(b:bb (Rd R Bm k) m)(a:g_ L R Bm)(st:Rd R Bm (k+1)=Rd R Bm k)(hw:∀c∈w,c∈L):(Dk Bm (Rd R Bm k) m).ML (PM L (AM R (Rd R Bm k) m) 0 w) η=Bm.ML (PM L R 0 w) η:=by
 let e:r_ R Bm k 0=0:=xM a;have:=Gu b a st a.n1 hw;rw[e]at this;rw[this];show Ig b a (Di a a.n1 hw)
end
section
variable{L:LN}{W:LL}{B:List Bool}{ks ws R:LL}{Bm:List Bool}
def oa(b:g_ L W B)(k:Bf (gW W) L [0] ks ws ks.β 0)(a:Dj (gW W) L.β ks R)(c:R.β=ks.β)(bl:Bm.β=R.β)(f:ks.β≤W.β):g_ L R Bm where
 lt:=b.lt
 n1:=by rw[c];show(q5 k.t0).1
 n60:=by rw[c];show IO f b.n60
 bl:=bl
 Vx:=λr h=>by
  let⟨i,e⟩:=NO.mp h;let d:i<ks.β:=by rw[<-c];show(q5 e).1
  let⟨h1,h2⟩:=a.Vx i r _ e (n_ d);refine(h1,λx g=>?_);let⟨q,j⟩:=NO.mp g;rw[c];show(q5 (h2 q x j)).1
def J9(j:g_ L W B)(p:Bf (gW W) L [0] ks ws ks.β 0)(a:Dj (gW W) L.β ks R)(i:R.β=ks.β):∀(n:Φ)(w:LN),w.β=n->(∀c∈w,c∈L)->ks[PM L R 0 w]?<*[PM L W 0 w]:=by
 intro n;induction n with
 |TF=>
  intro w hw _;rw[PL.mp hw];show p.t0
 |Si n g=>
  intro w hw f;obtain⟨c,v,ζ⟩:∃c v,w=v++[c]:=(w.Wl (by intro z;rw[z]at hw;cases hw),w.RR,(γ.PP _).MQ);let h1:=g v (by simpa using hw) λx h=>f x (by simp[h]);let b:L.M3 c<L.β:=M8 (f c (!1));let e:PM L R 0 v<R.β:=by rw[i];show(q5 h1).1
  let⟨d,o⟩:=a.Vx _ _ _ (n_ e) h1;let m:=o (L.M3 c) _ (n_ (by rw[d];show b));rw[ER,ER];let k:Bw L R (PM L R 0 v) c=R[PM L R 0 v][L.M3 c]'(by rw[d];show b):=by
   unfold Bw;rw[u6 (l:=R),n_ e];change (R[PM L R 0 v]).ML _ 0=_;rw[u6,n_ (by rw[d];show b)];rfl
  rw[k];show m
def ka(e:g_ L W B)(h:Bf (gW W) L [0] ks ws ks.β 0)(a:Dj (gW W) L.β ks R)(g:R.β=ks.β)(bl:Bm.β=R.β)(d:∀(r:Φ)(k:LN)(b:MZ),ks[r]?<*k->Bm[r]?<*b->b=mkW B k)(hw:∀c∈w,c∈L):Bm.ML (PM L R 0 w) η=B.ML (PM L W 0 w) η:=by
 let h1:=J9 e h a g _ w ζ hw;let f:PM L R 0 w<Bm.β:=by rw[bl,g];show(q5 h1).1
 rw[u6,n_ f];show d _ _ _ h1 (n_ f)
end
inductive Eh(L:LN)(W:LL)(B:List Bool)(W':LL)(B':List Bool):Prop
 |mk (ks ws R:LL) (Bm:List Bool) (k m:Nat) (_:Bf (gW W) L [0] ks ws ks.length 0) (_:Dj (gW W) L.length ks R) (_:R.length=ks.length) (_:Bm.length=R.length) (_:(∀(r:Nat)(k:LN)(b:Bool),ks[r]?<*k->Bm[r]?<*b->b=mkW B k)) (_:(∀k∈ks,k∈uW W)) (_:ks.length≤W.length) (_:g_ L R Bm) (_:Rd R Bm (k+1)=Rd R Bm k) (_:bb (Rd R Bm k) m) (_:W'=AM R (Rd R Bm k) m) (_:B'=Dk Bm (Rd R Bm k) m)
def Eh.Sj(h:Eh L W B c d):g_ L c d:=by
 let⟨ks,ws,R,Bm,k,m,_,_,_,_,_,_,_,a,_,b,ζ,ζ⟩:=h;show GP b a
def Eh.PQ(h:Eh L W B c f):c.β≤W.β:=by
 let⟨ks,ws,R,Bm,k,m,_,_,e,_,_,_,d,a,_,b,ζ,ζ⟩:=h;have:=sB b a;lia
def Eh.YH(h:Eh L W B j l)(b:g_ L W B)(hw:∀c∈w,c∈L):l.ML (PM L j 0 w) η=B.ML (PM L W 0 w) η:=by
 let⟨ks,ws,R,Bm,k,m,i,a,g,bl,d,_,n,e,st,f,ζ,ζ⟩:=h;rw[Ho f e st hw];show ka b i a g bl d hw
section
variable{L:LN}{W:LL}{B:List Bool}{ls:LN}{W2:LL}{B2:List Bool}
end
end RA
namespace L2
open PySem.Spec PyProof.Rows
def pW(D:X.T9=ξ):Dg X (.Nk "all") (λxs H Q=>∃(a:υ)(bs:γ MZ),xs=[V.ο a]/\H a=δ (.M7 (bs.NN V.bl))/\(∀b∈bs,b=ξ)/\Q (.bl ξ) H):=by
 intro l s M H xs us Q I r h;let⟨a,bs,ζ,F,E,q⟩:=h;let⟨N,ζ,B⟩:=Dr r;cases B;let⟨c,k,p,hz⟩:=I.Qx (o5.of F);let g:s.π.SM a c.χ:=p.QW;let f:a<s⁻¹:=by
  let⟨o,e,_⟩:=g;show lt_size e
 refine call_all_walk (RW g ?_);refine(s⁻¹,7,7,_,λ_=>ξ,1,Walks.Qx (Ξ:=X.Ξ) (w:=X.w) (A:=X.A.S5) (I.ok.hd D) s⁻¹ a (M_ f) c.χ,((_,MV _ ζ,5),g.at λo e=>sy _ e),3,λh' u C=>?_)
 .intro i v s' O P m J;let n:i<bs.β:=by
   have:=(Nt.Ox.mp m).1;let h2:=k.β;rw[ol]at h2;simp at this;lia
  let⟨y,L,z⟩:=k.VI (i:=i) (x:=.bl bs[i]) (by rw[tS,n_ n];rfl);have:v=y:=by
   let d:c.χ[i]?<*v:=m;rw[QM,L]at d;show(ω.δ.QK d).MQ
  subst this;cases z;let j:=E _ (Nv n);rw[j];show PZ J
 .let e:(γ.N4 c.χ.MX).QD (λ_=>ξ)=ξ:=by simp
  rw[e];show(.bl ξ,H,I.SW (t':=u) λb o t=>C b o (by simp;show M_ (lt_size t)) (sy _ t),1,q)
section
variable{X:Cx}{pins:List (Addr×Obj)}{σ:St}{H:Hp}{s:Shared}
end
section
variable{prog:Program}{w:World}{A:Around}{E:Value->Shared->Prop}{s:Shared}
end
section
variable{X:Cx}{elt iter:Expr}{x:Str}{px pos:Pos}{ifs:List Expr}{sc:Scope}{wi:TI}{tt:TT}{te:TE}
end
end L2
namespace RA
section
variable{κ:Type}[DecidableEq κ]
def jK:∀(a b c:γ κ),aO c (a++b)=aO (aO c a) b
 |[],_,_=>rfl
 |x::a,b,c=>jK a b _
def LC{ks:γ κ}{i j:Φ}(o:i<ks.β)(e:j<(ay ks).ML i 0):∃i1,i1<i/\(ay ks).ML i1 0=j:=by
 let d:ks[i]?<*ks[i]:=n_ o;rw[HW d]at e;let⟨r,l⟩:=Jj (ks.Py (i+1)) (zg (ks.OE (i+1)));let f:zg ks=zg (ks.OE (i+1))++r:=by
  have:=jK (ks.OE (i+1)) (ks.Py (i+1)) [];rw[Rt]at this;show this.ν l
 let m:ks[i]∈ks.OE (i+1):=by
  rw[NO];show(i,by rw[γ.UV,Id (OC i)];show d)
 let b:ks[i]∈zg (ks.OE (i+1)):=SY.Ot m;rw[f,BL b]at e;let n:=M8 b;let a:j<(zg (ks.OE (i+1))).β:=QB e n;let⟨i1,c⟩:=NO.mp (SY.mp (Nv a));let h1:i1<i+1:=by
  have:=(q5 c).1;rw[Qy]at this;lia
 rw[γ.UV,Id h1]at c;let k:=sN (ks.OE (i+1));let g:(zg (ks.OE (i+1))).M3 (zg (ks.OE (i+1)))[j]=j:=by
  let h2:(zg (ks.OE (i+1))).M3 (zg (ks.OE (i+1)))[j]<(zg (ks.OE (i+1))).β:=M8 (Nv a);show(UJ k).mp (O_ h2)
 let q:(zg ks).M3 (zg (ks.OE (i+1)))[j]=j:=by
  rw[f,BL (Nv a)];show g
 refine(i1,3,by rw[HW c];show q);by_cases h:i1=i
 .rw [h,d]at c;let p:=ω.δ.QK c;rw[<-p]at g;lia
 .lia
end
section
variable{L:LN}{R:LL}{Bm:List Bool}{k m:Nat}
def tF(a:g_ L R Bm)(c:i<R.β)(b:j<r_ R Bm k i):∃i1,i1<i/\r_ R Bm k i1=j:=by
 cases k with
 |TF=>show LC (by rw[a.bl];show c) b
 |Si k=>show LC (by rw[DS];show c) b
def ny(f:bb (Rd R Bm k) m)(c:g_ L R Bm)(d:a<b)(g:b<m):(Rd R Bm k).M3 a<(Rd R Bm k).M3 b:=by
 let⟨j,h⟩:=Cy f c g;let⟨i1,h1,h2⟩:=tF c j (by rw[h];show d);refine Nm (Hd (i:=i1) ?_) h1;let e:i1<(Rd R Bm k).β:=by rw[DU c];omega
 rw[n_ e];rw[r_,u6,n_ e]at h2;show Nb δ h2
def vM(a:g_ L R Bm)(c:i<R.β):(Rd R Bm k).M3 (r_ R Bm k i)≤i:=by
 let b:i<(Rd R Bm k).β:=by rw[DU a];show c
 refine Hd ?_;rw[r_,u6,n_ b];rfl
def Jk(a:g_ L R Bm):∀(k:Φ){r s:Φ},r<R.β->s<R.β->(∀u:LN,(∀c∈u,c∈L)->Bm.ML (PM L R r u) η=Bm.ML (PM L R s u) η)->r_ R Bm k r=r_ R Bm k s
 |0,r,s,d,b,h=>(jk a d b).Ot (h [] λc g=>by simp at g)
 | k+1,r,s,d,b,h=>(Go a d b).Ot (Jk a k d b h,λi f=>Jk a k (Ew a d f) (Ew a b f) λu j=>by
   let e:=h (L[i]::u) λc g=>by
    rcases MP.mp g with ζ|z
    .exact Nv f
    .exact j c z
   rw[CZ,CZ,Hf,Hf,HU a.lt.nd f]at e;show e)
end
def Eh.unlike(h:Eh L W B f q)(o:r<f.β)(n:s<f.β)(e:∀u:LN,(∀c∈u,c∈L)->q.ML (PM L f r u) η=q.ML (PM L f s u) η):r=s:=by
 let⟨ks,ws,R,Bm,k,m,x,j,w,bl,t,_,v,a,st,b,ζ,ζ⟩:=h;rw[AM,ol,OD]at o n;let⟨i,l⟩:=Cy b a o;let⟨g,s2⟩:=Cy b a n;have:=Jk a k i g λu d=>by
  let p:=e u d;rw[<-l,<-s2,Gu b a st i d,Gu b a st g d,Ig b a (Di a i d),Ig b a (Di a g d)]at p;show p
 rw[l,s2]at this;show this
section
variable{L:LN}{W:LL}{B:List Bool}{ks ws R:LL}
def gO{b:Type}{l:γ b}(c:l.Nz){i j:Φ}{a:b}(e:l[i]?<*a)(d:l[j]?<*a):i=j:=by
 let⟨h1,g⟩:=q5 e;let⟨h2,f⟩:=q5 d;show(UJ c).mp (g.ν f.MQ)
def n9(d:g_ L W B)(b:Bf (gW W) L [0] ks ws ks.β 0)(a:Dj (gW W) L.β ks R)(f:R.β=ks.β)(hw:ws[i]?<*w):(∀c∈w,c∈L)/\PM L R 0 w=i:=by
 let e:i<ks.β:=by rw[b.PQ];show(q5 hw).1
 let⟨l1,l2⟩:=b.lead i ks[i] w (n_ e) hw;refine(l1,3);let h1:=J9 d b a f _ w ζ l1;rw[cr 0 _ w ζ]at l2;rw[l2]at h1;show gO b.nd h1 (n_ e)
def kf(d:g_ L W B)(e:Bf (gW W) L [0] ks ws ks.β 0)(a:Dj (gW W) L.β ks R)(l:R.β=ks.β)(hw:ws[i]?<*w)(f:∀c∈v,c∈L)(k:PM L R 0 v=i):AF L v w=η:=by
 let⟨j,b,h,g,m⟩:=e.told d.lt.nd v _ ζ f;rw[cr 0 _ v ζ]at h;let h1:=J9 d e a l _ v ζ f;rw[k]at h1;have:j=i:=gO e.nd h h1;rw[this,hw]at g;cases g;show m
end
structure tJ(L:LN)(W':LL)(v:Nat->LN):Prop where
 over:∀j,j<W'.length->(∀c∈v j,c∈L)/\run L W' 0 (v j)=j
 lt:∀i j,i<j->j<W'.length->AF L (v i) (v j)=true
 least:∀u:LN,(∀c∈u,c∈L)->AF L u (v (run L W' 0 u))=false
def Eh.firsts(h:Eh L W B H J)(p:g_ L W B):∃v,tJ L H v:=by
 let⟨ks,ws,R,Bm,k,m,q,d,x,bl,C,_,I,a,st,n,ζ,ζ⟩:=h;let f:(AM R (Rd R Bm k) m).β=m:=by rw[AM,ol,OD]
 let s:ws.β=R.β:=by rw[x,q.PQ]
 let b:∀{i:Φ},i<R.β->ws[i]?<*ws.ML i []:=λ{i}D=>by
  rw[u6,n_ (by rw[s];show D)];rfl
 let l0:r_ R Bm k 0=0:=xM a;let A:∀{u:LN},(∀c∈u,c∈L)->PM L (AM R (Rd R Bm k) m) 0 u=r_ R Bm k (PM L R 0 u):=λ{u}l=>by
  have:=Gu n a st a.n1 l;rw[l0]at this;show this
 refine(λj=>ws.ML ((Rd R Bm k).M3 j) [],(λj g=>?_,λi j w g=>?_,λu l=>?_))
 .rw [f]at g;let⟨F,E⟩:=Cy n a g;let⟨y,w2⟩:=n9 p q d x (b F);refine(y,3);rw[A y,w2];show E
 .rw [f]at g;let o:=ny n a w g;show q.srt _ _ _ _ o (b (QB o (Cy n a g).1)) (b (Cy n a g).1)
 .rw [A l];let r:=Di a a.n1 l;let t:=vM (k:=k) a r;let h1:=kf p q d x (b r) l ζ;rcases Φ.lt_or_eq_of_le t with z|z
  .let h2:=q.srt _ _ _ _ z (b (QB z r)) (b r);cases e:AF L u (ws.ML ((Rd R Bm k).M3 (r_ R Bm k (PM L R 0 u))) [])with
   |η=>rfl
   |ξ=>rw[By e h2]at h1;cases h1
  .change AF L u (ws.ML ((Rd R Bm k).M3 (r_ R Bm k (PM L R 0 u))) [])=η;rw[z];show h1
def kS{rs:LN}(o:∀(i j a b:Φ),i<j->rs[i]?<*a->rs[j]?<*b->a<b)(d:∀r∈rs,r<m)(c:∀j<m,j∈rs):rs.β=m/\∀(i r:Φ),rs[i]?<*r->r=i:=by
 let l:∀(i r:Φ),rs[i]?<*r->i≤r:=by
  intro i;induction i with
  |TF=>show λr _=>Nf r
  |Si i f=>
   intro r e;let g:i<rs.β:=QB (OC i) (q5 e).1;let h1:=f _ (n_ g);let h2:=o i (i+1) _ _ (OC i) (n_ g) e;lia
 let k:∀(n i r:Φ),i<n->rs[i]?<*r->r=i:=by
  intro n;induction n with
  |TF=>show λi r h=>MM h (Φ.not_lt_zero i)
  |Si n f=>
   intro i r g e;let h1:=l i r e;let q:=d r (AC e);let⟨p,hp⟩:=NO.mp (c i (!2));let h2:=l p i hp;rcases Φ.TC p i with z|z|z
   .have:=f p i (!6) hp;lia
   .rw [z,e]at hp;show ω.δ.QK hp
   .lia
 refine(3,λi r e=>k (i+1) i r (OC i) e);rcases Φ.TC rs.β m with z|z|z
 .obtain ⟨p,hp⟩:=NO.mp (c rs.β z);let h1:=(q5 hp).1;have:=k (p+1) p _ (OC p) hp;lia
 .exact z
 .let e:=n_ z;have:=k (m+1) m _ (OC m) e;let h2:=d _ (Nv z);lia
structure BI(L:LN)(W:LL)(B:List Bool)(v:Nat->LN):Prop where
 mach:g_ L W B
 fs:tJ L W v
 un:∀{r s:Nat},r<W.length->s<W.length->(∀u:LN,(∀c∈u,c∈L)->B.getD (run L W r u) false=B.getD (run L W s u) false)->r=s
def Eh.canon(h:Eh L W B d g)(c:g_ L W B):∃v,BI L d g v:=by
 let⟨v,f⟩:=h.firsts c;show(v,h.Sj,f,λb a e=>h.unlike b a e)
def BM(L:LN)(W:LL)(r:Φ)(a b:LN):PM L W r (a++b)=PM L W (PM L W r a) b:=by
 unfold PM;rw[γ.U3]
section
variable{L:LN}{W1 W2:LL}{B1 B2:List Bool}{v1 v2:Nat->LN}
def BI.move(c1:BI L W1 B1 v1)(d:BI L W2 B2 v2)(h:∀u:LN,(∀c∈u,c∈L)->B1.ML (PM L W1 0 u) η=B2.ML (PM L W2 0 u) η)(g:∀c∈a,c∈L)(f:∀c∈b,c∈L)(e:PM L W1 0 a=PM L W1 0 b):PM L W2 0 a=PM L W2 0 b:=by
 refine d.un (Di d.Sj d.Sj.n1 g) (Di d.Sj d.Sj.n1 f) λu j=>?_;let o:∀{x:LN},(∀c∈x,c∈L)->∀c∈x++u,c∈L:=λi c k=>by
  rcases Nd.mp k with z|z
  .exact i c z
  .exact j c z
 rw[<-BM,<-BM,<-h _ (o g),<-h _ (o f),BM,BM,e]
def BI.word(c1:BI L W1 B1 v1)(a:BI L W2 B2 v2)(h:∀u:LN,(∀c∈u,c∈L)->B1.ML (PM L W1 0 u) η=B2.ML (PM L W2 0 u) η)(f:j<W1.β):v2 (PM L W2 0 (v1 j))=v1 j:=by
 let⟨b,l⟩:=c1.fs.To j f;let g:=Di a.Sj a.Sj.n1 b;let⟨d,k⟩:=a.fs.To _ g;let l2:=a.fs.least (v1 j) b;let i:PM L W1 0 (v2 (PM L W2 0 (v1 j)))=j:=by
  rw[a.move c1 (λu e=>(h u e).MQ) d b k];show l
 let l1:=c1.fs.least _ d;rw[i]at l1;rcases fE b d with z|z|z
 .rw [z]at l2;cases l2
 .exact z.MQ
 .rw [z]at l1;cases l1
def C6(c1:BI L W1 B1 v1)(e:BI L W2 B2 v2)(h:∀u:LN,(∀c∈u,c∈L)->B1.ML (PM L W1 0 u) η=B2.ML (PM L W2 0 u) η):W1.β=W2.β/\∀j<W1.β,PM L W2 0 (v1 j)=j:=by
 let f:=kS (rs:=(γ.N4 W1.β).NN λj=>PM L W2 0 (v1 j)) (m:=W2.β) (λi j a b k s o=>?_) (λr w=>?_) (λj d=>?_)
 .refine (by have:=f.1;rwa [ol,OD]at this,λj d=>?_);refine f.2 j _ ?_;rw[tS,O' d];rfl
 .let d:j<W1.β:=by have:=(q5 o).1;rwa [ol,OD]at this
  let l:i<W1.β:=QB k d;rw[tS,O' l]at s;rw[tS,O' d]at o;cases s;cases o;let h1:=c1.fs.lt i j k d;let t:=Di e.Sj e.Sj.n1 (c1.fs.To i l).1;rcases Φ.TC (PM L W2 0 (v1 i)) (PM L W2 0 (v1 j))with z|z|z
  .exact z
  .let n:=c1.word e h l;let p:=c1.word e h d;rw[z]at n;rw[<-n,p]at h1;rw[I_ h1]at h1;cases h1
  .let h2:=e.fs.lt _ _ z t;rw[c1.word e h l,c1.word e h d]at h2;rw[I_ h2]at h1;cases h1
 .obtain ⟨j,d,ζ⟩:=PH.mp w;show Di e.Sj e.Sj.n1 (c1.fs.To j (Np.mp d)).1
 .obtain ⟨q,p⟩:=e.fs.To j d;let g:=Di c1.Sj c1.Sj.n1 q;refine PH.Ot (PM L W1 0 (v2 j),Np.Ot g,3);let⟨v,n⟩:=c1.fs.To _ g;change PM L W2 0 (v1 (PM L W1 0 (v2 j)))=j;rw[c1.move e h v q n];show p
def sU(c1:BI L W1 B1 v1)(f:BI L W2 B2 v2)(h:∀u:LN,(∀c∈u,c∈L)->B1.ML (PM L W1 0 u) η=B2.ML (PM L W2 0 u) η):W1=W2/\B1=B2:=by
 let⟨o,v⟩:=C6 c1 f h;let i:∀{u:LN},(∀c∈u,c∈L)->PM L W2 0 u=PM L W1 0 u:=λ{u}m=>by
  let d:=Di c1.Sj c1.Sj.n1 m;let⟨a,b⟩:=c1.fs.To _ d;rw[<-v _ d];show(c1.move f h a m b).MQ
 refine(γ.XZ o λj h1 h2=>?_,γ.XZ (by rw[c1.Sj.bl,f.Sj.bl,o]) λj h1 h2=>?_)
 .obtain ⟨a,b⟩:=c1.fs.To j h1;let⟨p,A⟩:=c1.Sj.Vx _ (Nv h1);let⟨x,y⟩:=f.Sj.Vx _ (Nv h2);refine γ.XZ (by rw[p,x]) λq k s=>?_;let n:q<L.β:=by rw[<-p];show k
  let g:∀c∈v1 j++[L[q]],c∈L:=λc w=>by
   rcases Nd.mp w with z|z
   .exact a c z
   .rw [Ay z];show Nv n
  let e:=i g;let t:=HU c1.Sj.lt.nd n;rw[ER,ER,i a,b,Hf,Hf,t]at e;let r:QY W1 j q=W1[j][q]:=by
   rw[QY,u6 (l:=W1),n_ h1];change (W1[j]).ML q 0=_;rw[u6,n_ k];rfl
  let w2:QY W2 j q=W2[j][q]:=by
   rw[QY,u6 (l:=W2),n_ h2];change (W2[j]).ML q 0=_;rw[u6,n_ s];rfl
  rw[<-r,<-w2];show e.MQ
 .let d:j<W1.β:=by rw[<-c1.Sj.bl];show h1
  let⟨a,b⟩:=c1.fs.To j d;let e:=h _ a;rw[i a,b,u6,u6,n_ h1,n_ h2]at e;show e
end
section
variable{κ:Type}[DecidableEq κ]{g:κ->Nat->κ}{L:LN}{s:κ}{ts ts':List κ}{ws ws':LL}
end
abbrev gA(W:LL)(k:LN)(q:Φ):LN:=k.NN λr=>(W.ML r []).ML q 0
section
variable{L:LN}{W ks ws R:LL}{B:List Bool}
end
end RA
namespace L2
open PySem.Spec PyProof.Rows
def pP{xs:γ V}(h:t≤xs.β):AL xs (δ (t:MN)) ε=xs.Py t:=by
 unfold AL;rw[HT.CS,HT.DP,Φ.min_eq_left h,N9 (by rw[UI];show LE _)]
section
variable{X:Cx}{elt iter:Expr}{x y:Str}{px py pt pos:Pos}{kt:Nat}{sc:Scope}{wi:TI}{te:TE}{tt:TT}{ifs:List Expr}
abbrev gm(K:Nn)(wi:TI)(tt:TT)(te:TE):TE:=λσ H Q=>wi σ H λJ H1=>∀D,H1 D=ε->∃W:Φ->Φ->γ V->Hp->Prop,
 (∃m,W 0 m [] (MT H1 D (.M7 [])))/\∀i m ys H2,W i m ys H2->H2 D=δ (.M7 ys)/\((J.Sx i H2/\Q (.ο D) H2)\/(J.go i H2/\ys.β<Λ/\∀x H3,J.X_ i H2 x H3->
  ∃p a b,x=.ο p/\u0 K H3 p [a,b]/\tt (δ a::δ b::σ) H3 λbo H4=>if bo=ξ then te (δ a::δ b::σ) H4 λy H5=>H5 D=δ (.M7 ys)/\∃m',m'<m/\W (i+1) m' (ys++[y]) (MT H5 D (.M7 (ys++[y])))else ∃m',m'<m/\W (i+1) m' ys H4))
def lv{st:MJ}(Z:Φ->MJ->Prop)(J:∀k t,Z k t->Ω (Cl pg d) B (Uu p) (λr o=>match r with
   |ε=>Rf (.ok .next) o
   | δ u=>Ω (Cl pg d) B (Xm m p u) (λ_ A=>Ω (Cl pg d) B (U7 m g u) (λ_ w=>
     Ω (Cl pg d) B (YW Xn ξ λc r=>if r=ξ then do let ok <-isTrue c g (OM c g);pure (Tt.Y0 ok)else pure (Tt.Y0 r)) (λi n=>
      if i=ξ then Ω (Cl pg d) B (OM Xq g) (λz v=>Ω (Cl pg d) B (Qk (.Nk "list.append") [C,z]) (λ_ s=>∃j,j<k/\Z j s) (Tp (Cl pg d) B g λe s'=>Rf (.SA e) s') v) (Tp (Cl pg d) B g λe s'=>Rf (.SA e) s') n
      else ∃j,j<k/\Z j n) (Tp (Cl pg d) B g λe s'=>Rf (.SA e) s') w) (Tp (Cl pg d) B g λe s'=>Rf (.SA e) s') A) (Tp (Cl pg d) B g λe s'=>Rf (.SA e) s') o) (Tp (Cl pg d) B g λe s'=>Rf (.SA e) s') t)(k:Φ)(hz:Z k st):Qh (Cl pg d) B (.compLoop (.QF Xq [(m,Qt,Xn,(0))] sc Nj) 0 p C g) Rf st:=by
 let b:∀{q:Type}{x:ZD q}{Q1 D:q->MJ->Prop}{N:θ->MJ->Prop}{t:MJ},Ω (Cl pg d) B x Q1 N t->(∀a t',Q1 a t'->D a t')->Ω (Cl pg d) B x D N t:=λh f=>NI h f λ_ _ z=>z;refine codeAny_loop ζ Z (λk t E=>?_) k hz;change Ω _ B ((compTurn (.QF Xq [(m,Qt,Xn,(0))] sc Nj) 0 p C g).onRaise λx=>do Ts x g;theTreesLotGoes x) _ _ t;refine wpAny_noted ?_;rw[compTurn_list];refine d_ (PY (d_ (b (J k t E) λr o h1=>?_)));match r,h1 with
 |ε,h1=>show j' h1
 |δ u,h1=>
  refine d_ (b h1 λ_ A h2=>d_ (b h2 λ_ w I=>d_ (b I λi n l=>?_)));match i,l with
  |η,l=>show j' (1,l)
  |ξ,l=>show d_ (d_ (b l λz v H=>d_ (b H λ_ s F=>j' (j' (1,F)))))
end
section
variable{X:Cx}{elt iter tg:Expr}{x y:Str}{px py pt pos:Pos}{kt:Nat}{sc:Scope}{wi:TI}{te:TE}{tt:TT}{ifs:List Expr}
instance tH(sc:RZ)(WV:NB->MZ):Prop:=∀{M:Model}{A:N2}{E:θ->MJ->Prop}{s:MJ}{g:υ}{cl:γ (NB×υ)}{M6:NB}{Qb:ω υ}{code:θ}{Fr:WH}{bl:υ}{Q:WH->MJ->Prop},
  (∀h' cl',h'.Ns s⁻¹ (λ_=>ε)->(∀b o,s.π.ψ b<*o->h'.ψ b<*o)->(∀y c,γ.ρ y cl'<*c->WV y=η/\cl.ρ y<*c\/WV y=ξ/\s⁻¹<c/\∃v o,h'.ψ c=δ o/\o.NL=.OA v)->(∀y c,WV y=η->cl.ρ y<*c->γ.ρ y cl'<*c)->(∀y,WV y=ξ->∃c,γ.ρ y cl'<*c)->
   Q (newEnv sc s⁻¹ g cl' M6 Qb code (δ Fr) bl) {s with π:=h'})->Ω M A (VW sc g cl [] M6 Qb code (δ Fr) bl) Q E s
def An{xx:Cx->θ->MJ->Prop}{WV:NB->MZ}{ns:γ NB}{gx:V->Hp->γ V->Prop}(L:γ NB)(hc:X.T9=ξ)(cf:(ns++L).Nz)(hi:PI X tg Qt wi)(a:∀(Z:γ (NB×υ))(C:υ)(F:γ υ)(s:MJ)(H:Hp),FH {oI X x sc Z C F s H with N:=ns++L,fn:=WV} Xn tt/\PE (Cx.Vw {oI X x sc Z C F s H with N:=ns++L,fn:=WV} (xx {oI X x sc Z C F s H with N:=ns++L,fn:=WV})) Xq te)(b2:∀(Z:γ (NB×υ))(C:υ)(F:γ υ)(s0:MJ)(H0:Hp)(g:γ (υ×Rp))(s:MJ)(O:St)(os:γ (ω V))(H:Hp)(y:V)(u:θ)(vs:γ V),os.β=ns.β->gx y H vs->f' {oI X x sc Z C F s0 H0 with N:=ns++L,fn:=WV} g (os++O) H s->ae y u->Ω (Cl X.Ξ X.w) X.A (U7 tg (Vg sc Z C X.KK) u) (λ_ s'=>f' {oI X x sc Z C F s0 H0 with N:=ns++L,fn:=WV} g (vs.NN δ++O) H s') (λ_ _=>NX) s)(as:sc.RT=.RP)(aA:∀y∈sc.MR,y.2=.local->sc.MR.ρ y.1<*.local)(a9:tH sc WV)(az:∀y∈sc.MR,y.2=.OA->WV y.1=ξ)(aU:∀y,WV y=ξ->y=x/\y∈ns/\sc.MR.ρ y<*.OA)(aV:(sc.MR.QD λy=>y.2 != .N6||X.KK.NG.MR.ρ y.1==δ .OA||X.KK.NG.MR.ρ y.1==δ .N6)=ξ)(b4:(L.QD λy=>sc.MR.ρ y != δ .local)=ξ)(b5:L.β=X.N.β)(b0:((L.Th X.N).QD λy=>y.1==y.2||sc.MR.ρ y.1==ε)=ξ)(hs:∀x,Pc Qt X.KK x=pure x){O:St}{Q:VK}(I:f' X g O H s)(h:wi O H R)(hR:∀J H1,R J H1->∀D,H1 D=ε->∃W:Φ->Φ->γ V->Hp->Prop,(∃m,W 0 m [] (MT H1 D (.M7 [])))/\∀i m ys l,W i m ys l->l D=δ (.M7 ys)/\((J.Sx i l/\Q (.ο D) l)\/(J.go i l/\ys.β<Λ/\∀x H3,J.X_ i l x H3->
   ∃vs,vs.β=ns.β/\gx x H3 vs/\tt (vs.NN δ++O) H3 λbo H4=>if bo=ξ then te (vs.NN δ++O) H4 λy H5=>H5 D=δ (.M7 ys)/\∃m',m'<m/\W (i+1) m' (ys++[y]) (MT H5 D (.M7 (ys++[y])))else ∃m',m'<m/\W (i+1) m' ys H4)))(cp:∀{s2 s4:MJ}{l H3:Hp}{F:γ υ}{Z:γ (NB×υ)}{D C:υ}{os:γ (ω V)},f' X g O l s2->(∀b∈F,be X g l b)->(∀b o,s2.π.ψ b<*o->b≠C)->s2⁻¹≤C->f' {oI X x sc Z C F s2 l with N:=ns++L,fn:=WV} [] (os++O) H3 s4->Q (.ο D) H3->Vf (Cl X.Ξ X.w) X.A X.xe use QQ (.ο D) C (.ok .next) s4)(cd:∀{s2:MJ}{l:Hp}{F:γ υ}{Z:γ (NB×υ)}{D C:υ}{ev:θ}{s3:MJ},f' X g O l s2->(∀b∈F,be X g l b)->s2⁻¹≤C->xx {oI X x sc Z C F s2 l with N:=ns++L,fn:=WV} ev s3->Tp (Cl X.Ξ X.w) X.A (Vg sc Z C X.KK) (λe s4=>Vf (Cl X.Ξ X.w) X.A X.xe use QQ (.ο D) C (.SA e) s4) ev s3:=by show λ_ _ _ f=>f.Nx):Ω (Cl X.Ξ X.w) X.A (comprehension (.QF Xq [(tg,Qt,Xn,(0))] sc Nj) sc X.KK p (newList []) η (OM Qt X.KK) use) QQ X.xe s:=by
 let bk:∀y∈sc.MR,y.2=.N6->(X.KK.Om y.1<*.OA\/X.KK.Om y.1<*.N6):=λy hy e=>by
  let q:=NP.mp aV y hy;rw[e]at q;simpa[WH.Om]using q
 let bd:∀y∈L,sc.MR.ρ y≠δ .local:=λy hy e=>by
  let q:=NP.mp b4 y hy;rw[e]at q;simp at q
 let⟨Z,a0,t,aM⟩:=JO (KK:=X.KK) (sc:=sc) λy hy e=>I.ok.UU y.1 (bk y hy e);refine wpAny_comprehension_free ζ hs a0 as aA (ri (hi g s O H _ I h) λv s1 h1=>ri h1 λcA s2 h2=>?_);let⟨it,F,tn,J,l,e,j,T,aS,f2,hW⟩:=h2;subst e

 refine On ?_;refine a9 λS an M k lk a7 bV=>?_;dsimp only at M k lk⊢;generalize a1:s2.π.Nh {OO:=.MO "list",Pz:=ε,NL:=.Sz ([]:γ θ).χ}=Ha at M k lk⊢;let hC:Ha.Nr.MX=s2⁻¹+1:=by rw[<-a1,Op]
 let E:s2⁻¹≤Ha.Nr.MX:=by rw[hC];show SF _
 let bU:∀b o,s2.π.ψ b<*o->b≠Ha.Nr.MX:=λb o e=>M_ (Ψ (lt_size e) E);let ab:∀b o,s2.π.ψ b<*o->S.ψ b<*o:=λb o e=>k b o (a1▸sy _ e);let bl:S.ψ s2⁻¹<*{OO:=.MO "list",Pz:=ε,NL:=.Sz ([]:γ θ).χ}:=k _ _ (a1▸MV _ ζ);let a4:∀{y:NB}{c:υ},Z.ρ y<*c->c<s2⁻¹:=λ{y c}e=>by
  let⟨v,o,ho,_⟩:=j.OA y c (t y c e);show lt_size ho
 let a3:∀{y:NB},sc.MR.ρ y<*.N6\/y∈L->WV y=η:=λ{y}hy=>by
  cases q:WV y with
  |η=>rfl
  |ξ=>
   let⟨_,z,w⟩:=aU y q;rcases hy with e|e
   .rw [e]at w;cases w
   .exact MM e ((γ.Wg.mp cf).2.2 y z y · ζ)
 generalize ag:s2⁻¹=D at *;generalize cC:Ha.Nr.MX=C at *;let bm:l D=ε:=j.Og.OG (Rg ag);let cg:l C=ε:=j.Og.OG (!6);let⟨W,⟨m0,w0⟩,a5⟩:=hR _ _ hW D bm;let Y:∀b∈F,b<D:=λb a=>by
  let⟨o,e,_⟩:=T.Uf _ _ aS b a;rw[<-ag];show lt_size e
 let bM:∀{b},b∈F->∀{y c},γ.ρ y an<*c->c≠b:=λ{b}a{y c}e=>by
  rcases lk y c e with⟨_,w⟩|⟨_,w,_⟩
  .exact (f2 b a).2.2.2.2.1 y c (t y c w)
  .exact Qg (QB (Y b a) (Nm E w))
 let aN:∀{y},sc.MR.ρ y<*.N6->∃c,γ.ρ y an<*c:=λ{y}e=>by
  let⟨c,aB⟩:=aM _ (Δ.OY e) ζ;show(c,a7 y c (a3 (.NJ e)) aB)
 letI X':Cx:={oI X x sc an C F s2 l with N:=ns++L,fn:=WV}
 let aC:∀b∈F,b∉s_ X.NC:=λb a z=>by
  rcases MP.mp (j.ZW b z)with e|e
  .exact (f2 b a).2.1 e
  .exact (f2 b a).2.2.1 e
 let bS:X'.Ok:=by
  refine(j.ok.VX,as,j.ok.Wk,j.ok.blt,3,λy z c e1 e2=>?_,λy hy=>?_,λy c e e2=>?_,j.ok.hd,j.ok.Qc,.NJ ζ,λb a=>(3,λy c e=>?_),j.bs,
   IO j.ok.bsz j.sz,λb o e a=>?_,aC,j.NC,j.Tj)
  .change s2⁻¹≤C;lia
  .rcases lk y c e1 with⟨_,w1⟩|⟨z1,w1,_⟩<;>rcases lk z c e2 with⟨_,w2⟩|⟨z2,w2,_⟩
   .exact j.ok.QK y z c (t y c w1) (t z c w2)
   .exact MM (Nm E w2) (Φ.lt_asymm (a4 w1))
   .exact MM (Nm E w1) (Φ.lt_asymm (a4 w2))
   .rw [(aU y z1).1,(aU z z2).1]
  .rcases hy with hy|hy
   .rcases vr (show(Ut sc X.KK).MR.ρ y<*.OA from hy)with e|⟨_,e,_⟩
    .exact bV y (az _ (Δ.OY e) ζ)
    .exact aN e
   .rcases vr (show(Ut sc X.KK).MR.ρ y<*.N6 from hy)with e|⟨e,_⟩
    .exact aN e
    .cases e
  .rcases lk y c e2 with⟨w,_⟩|⟨_,w,_⟩
   .rw [show WV y=ξ from e]at w;cases w
   .exact ag▸Pq (Nm E w)
  .exact M_ (Ψ (Y b a) (by omega:D≤C))
  .exact bM a e
  .rcases (f2 b a).2.2.2.1 with z|z
   .exact j.ok.noex b o e z
   .exact MM (Ψ (Ψ (lt_size e) j.ok.bsz) z) (Qs _)
 let I4:∀tk,f' X' [] (W5 ns.β ε++O) (MT l D (.M7 [])) {s2 with π:=S,MW:=tk}:=λtk=>by
  refine(bS,1,j.R5,Un.T0 ab (Rg ag) bm,(_,M,λi P v e1 e2 e3=>?_),λy c e=>?_,3,λy c e=>?_,λp hp=>?_,j.Og.T0 ab (Rg ag) ?_,3)
  .let e1:(ns++L)[i]?<*P:=e1;by_cases bg:i<ns.β
   .rw [M0 (by rw[PN];show bg),γ.T6,Id bg]at e2;cases e2
   .rw [MY (by rw[PN];lia),PN]at e2;rw[MY (!6)]at e1;let e0:=e1;generalize i-ns.β=i at e0 e1 e2;let e3:G5 (Ut sc X.KK) P:=e3;let aT:P∈L:=AC e0;let U:sc.MR.ρ P=δ .N6/\(Ut sc X.KK).MR.ρ P≠δ .local:=by
     rcases e3 with e|e|e
     .rcases vr e with q|⟨q,_⟩
      .exact MM q (bd P aT)
      .cases q
     .rcases vr e with q|⟨_,q,_⟩
      .exact MM ((a3 (.NU aT)).MQ.ν (az _ (Δ.OY q) ζ)) MZ.M'
      .exact (q,by rw[e];decide)
     .rcases vr e with q|⟨q,_⟩
      .exact (q,by rw[e];decide)
      .cases q
    let e1:X.N[i]?<*P:=by
     let hi:i<L.β:=(q5 e0).1;let bi:i<X.N.β:=by lia
     let hm:(P,X.N[i],)∈L.Th X.N:=by
      let hz:(L.Th X.N)[i]?<*(P,X.N[i],):=by
       rw[Pu];show(e0,n_ bi)
      show AC hz
     let q:=NP.mp b0 _ hm;rcases MZ.or_eq_true_iff.mp q with q|q
     .have:P=X.N[i]:=SU q;rw[n_ bi,<-this]
     .let q2:sc.MR.ρ P=ε:=by simpa using q
      rw[U.1]at q2;cases q2
    let kc:X.KK.Om P<*.OA\/X.KK.Om P<*.N6:=bk _ (Δ.OY U.1) ζ;let⟨m,hn,hl⟩:=j.X1;let⟨u,ru,lk⟩:=hl i P v e1 e2 (.NU kc);rcases lk with⟨q,_⟩|⟨_,c,ce,⟨o,ho,hd⟩⟩
    .rcases kc with z|z<;>(rw[z]at q;cases q)
    .obtain ⟨c',aB⟩:=aM _ (Δ.OY U.1) ζ;let e4:=t _ _ aB;rw[ce]at e4;cases e4;refine(u,ru,.NU (3,c,a7 _ _ (a3 (.NU aT)) aB,(o,ab c o ho,hd)));rcases e3 with e|e|e
     .exact MM e U.2
     .exact .NJ e
     .exact .NU e
  .rcases lk y c e with⟨_,w⟩|⟨_,_,v,o,w⟩
   .obtain ⟨v,o,ho,hd⟩:=j.OA y c (t y c w);show(v,o,ab c o ho,hd)
   .exact (v,o,w)
  .change MT l D (.M7 []) C=ε;rw[a_ (GH (!6))];show cg
  .change MT l D (.M7 []) c=ε;rcases lk y c e with⟨_,w⟩|⟨_,w,_⟩
   .rw [a_ (M_ (a4 w))];show j.UK y c (t y c w)
   .rw [a_ (Qg (Nm E w))];show j.Og.OG (ag▸Pq (Nm E w))
  .exact MM (show p∈([]:γ (υ×Rp))from hp) (!1)
  .exact (Nf _,[],(0),.Ow,bl)
  .change (W5 ns.β ε++O).β=(ns++L).β;rw[w_,w_,PN,j.PQ,b5]
 let⟨ct,cv⟩:=a an C F s2 l;let a2:∀{ar:γ (υ×Rp)}{H':Hp},(∀b∈F,H' b=ε)->(∀p∈ar,p.1∉F)->∀b∈F,be X' ar H' b:=λhn hp b a=>by
  refine(hn b a,3,aC b a,.NJ a,λy c e=>bM a e,λp q z=>?_)
  .exact M_ (Ψ (Y b a) (by omega:D≤C))
  .rcases Nd.mp q with q|q
   .exact MM (show p∈([]:γ (υ×Rp))from q) (!1)
   .exact hp p q (by rw[z];show a)
 let aH:∀tk,Qh (Cl X.Ξ X.w) X.A (.compLoop (.QF Xq [(tg,Qt,Xn,(0))] sc Nj) 0 (.ο it) (.ο D) (Vg sc an C X.KK)) (Vf (Cl X.Ξ X.w) X.A X.xe use QQ (.ο D) C) {s2 with π:=S,MW:=tk}:=λtk=>by
  refine lv (λn s'=>∃i ys os H',os.β=ns.β/\f' X' [] (os++O) H' s'/\tn i s'.π/\(∀b∈F,H' b=ε)/\W i n ys H') ?_ m0 ((0),[],7,PN,I4 tk,T.QC _ _ _ aS λb a o e=>ab b o e,λb a=>?_,w0)
  .rintro n s3⟨i,ys,os,H3,b3,I3,a6,bD,w3⟩;let⟨cB,cs⟩:=a5 i n ys H3 w3;rcases cs with⟨Sx,qn⟩|⟨go,bf,Xi⟩
   .refine NI (T.done X' ζ ζ ζ hc i [] s3 _ H3 (λ_ _=>NX) I3 (a2 bD (!1)) a6 Sx) (λr s4 B=>?_) λ_ _ f=>f.Nx;let⟨hr,cx⟩:=B;subst hr;show cp j f2 bU (!6) cx qn
   .refine NI (T.Uy X' ζ ζ ζ hc i [] s3 _ H3 (λ_ _=>NX) I3 (a2 bD (!1)) a6 go) (λr s4 B=>?_) λ_ _ f=>f.Nx;let⟨u,hr,h4⟩:=B;subst hr;refine NI h4 (λ_ s5 B=>?_) λ_ _ f=>f.Nx;let⟨z,H5,I5,r5,y5,ap,co⟩:=B;let cw:=I5.pinned (a2 co (!1)) (T.Uf _ _ ap);let⟨vs,a8,b6,b1⟩:=Xi z _ y5;refine NI (b2 an C F s2 l _ s5 O os H5 z u vs b3 b6 cw r5) (λ_ s6 I6=>?_) λ_ _ f=>f.Nx;refine NI (ct _ s6 _ _ _ I6 b1) (λbP s7 B=>?_) λ_ _ f=>f.Nx;let⟨H7,I7,q7⟩:=B;cases bP with
    |η=>
     let⟨m',hm,w8⟩:=q7;refine(m',hm,i+1,ys,7,by rw[ol];show a8,I7.WY,T.QC _ _ _ ap λb a o e=>(I7.Y4 (b,o,) (Nq _ (Nq _ (G' a e)))).1,λb a=>?_,w8);let⟨o,e,d⟩:=T.Uf _ _ ap b a;show(I7.Y4 (b,o,) (Nq _ (Nq _ (G' a e)))).2.1
    |ξ=>
    refine NI (cv _ s7 _ _ _ (I7.Vw _) q7) (λz s8 B=>?_) λev s8 f=>cd j f2 (!6) f;let⟨yv,H8,I8,r8,ch,q8⟩:=B;let I8:=I8.Sv;refine NI (eR (X:=X') _ s8 _ H8 (.ο D) [yv] (.ο D) [z] (λ_ H9=>H9=MT H8 D (.M7 (ys++[yv]))) I8 ζ (.NZ r8 .Ow) (D,ys,yv,5,ch,bf,1)) (λ_ s9 B=>?_) λ_ _ f=>f.Nx;let⟨_,H9,I9,_,e9⟩:=B;subst e9;let⟨m',hm,w8⟩:=q8;refine(m',hm,i+1,7,_,by rw[ol];show a8,I9.WY,T.QC _ _ _ ap λb a o e=>(I9.Y4 (b,o,) (Nq _ (Nq _ (G' a e)))).1,λb a=>?_,w8);let⟨o,e,d⟩:=T.Uf _ _ ap b a;show(I9.Y4 (b,o,) (Nq _ (Nq _ (G' a e)))).2.1
  .change MT l D (.M7 []) b=ε;rw[a_ (M_ (Y b a))];show(f2 b a).1
 show codeAny_compStart_list (aH _) (T.Yn _ _ _ _ _ (T.QC _ _ _ aS λb a o e=>ab b o e) (aH _))
def Jl{WV:NB->MZ}{t l:St}(M:f' X f t s s2)(k:∀b∈F,be X f s b)(g:∀b o,s2.π.ψ b<*o->b≠C)(a:f' {oI X x sc O C F s2 s with N:=N,fn:=WV} [] l h B)(I:Q (.ο D) h):Vf (Cl X.Ξ X.w) X.A X.xe ε (EP X f t Q) (.ο D) C (.ok .next) B:=by
 let⟨L,p,_⟩:=a.X1;refine(L,p,λh' d=>?_);let E:∀b u,h b<*u->b≠C:=λb u e z=>by rw[z]at e;rw[show h C=ε from a.N6]at e;cases e
 let i:Au X.Ξ X.w h h':=λb u e=>(a.Og b u e).SX (λc v r q=>d.S6 c v (by
  rcases r with z|z
  .rw [z];show E b u e
  .exact E c _ z) q) (λ_ q=>q) λ_ _ q=>q
 let un:Un (s_ X.NC) F s h s2.π h':=
  (λb o e n1 n m=>d.S6 b o (g b o e) (a.ς.QC b o e n1 n m),λb o e n1 n m=>by
    let⟨H,q⟩:=a.ς.Ud b o e n1 n m;show(H,d.S6 b _ (g b o e) q),a.ς.N6,λb o e n1=>by
    let⟨J,q⟩:=a.ς.QU b o e n1;show(J,d.S6 b _ (g b o e) q),a.ς.QT,a.ς.Vd,a.ς.VR)
 show(.ο D,h,M.call' (s':={B with π:=h'}) a.os un i a.R5 λb j=>((k b j).2.2.2.1,(k b j).2.1,(k b j).2.2.2.2.1,(k b j).2.2.2.2.2),1,I)
def Ih(d:sc.RT=.RP)(f:∀y∈sc.MR,y.2≠.OA):tH sc λ_=>η:=λ{_ _ _ s _ j _ _ _ _ _ _}i=>by
 refine VN f (λy h=>MM h (!1)) (λg c a=>i g j c (λb o e=>a.S6 b o (M_ (lt_size e)) (sy _ e)) (λ_ _ e=>.NJ (1,e)) (λ_ _ _ e=>e) λ_ e=>nomatch e) d
def jg{P:NB->Prop}:∀y,(λ_=>η:NB->MZ) y=ξ->P y:=λ_ e=>nomatch e
def Ii(h:(x::k).Nz)(n:DJ (Ut sc X.KK) x)(t:WV x=ξ\/(Ut sc X.KK).MR.ρ x<*.local)(b:γ (NB×υ))(C:υ)(j:γ υ)(e:MJ)(l:Hp)(a:γ (υ×Rp))(s:MJ)(d:St)(os:γ (ω V))(H:Hp)(y:V)(u:θ)(vs:γ V)(p:os.β=1)(q:vs=[y])(I:f' {oI X x sc b C j e l with N:=[x]++k,fn:=WV} a (os++d) H s)(r:ae y u):Ω (Cl X.Ξ X.w) X.A (U7 (.N0 x px) (Vg sc b C X.KK) u) (λ_ s'=>f' {oI X x sc b C j e l with N:=[x]++k,fn:=WV} a (vs.NN δ++d) H s') (λ_ _=>NX) s:=by
 let⟨o,ζ⟩:=γ.length_eq_one_iff.mp p;refine NI (bL (X:={oI X x sc b C j e l with N:=[x]++k,fn:=WV}) (i:=0) (Nj:=px) h ζ n t _ s _ H y u (λc H'=>c=δ y::d/\H'=H) I r (1,1)) (λ_ D g=>?_) λ_ _ f=>f;let⟨m,E,B,z,v⟩:=g;subst z v q;show B
def Ij{g:St}{Q:VK}{J:It}{W:Φ->Φ->γ V->Hp->Prop}(h:∀i m ys a,W i m ys a->a D=δ (.M7 ys)/\((J.Sx i a/\Q (.ο D) a)\/(J.go i a/\ys.β<Λ/\∀x d,J.X_ i a x d->tt (δ x::g) d λj f=>if j=ξ then te (δ x::g) f λy e=>e D=δ (.M7 ys)/\∃c,c<m/\W (i+1) c (ys++[y]) (MT e D (.M7 (ys++[y])))else ∃c,c<m/\W (i+1) c ys f))):∀i m ys a,W i m ys a->a D=δ (.M7 ys)/\((J.Sx i a/\Q (.ο D) a)\/(J.go i a/\ys.β<Λ/\∀x d,J.X_ i a x d->∃vs:γ V,vs.β=1/\vs=[x]/\tt (vs.NN δ++g) d λj f=>if j=ξ then te (vs.NN δ++g) f λy e=>e D=δ (.M7 ys)/\∃c,c<m/\W (i+1) c (ys++[y]) (MT e D (.M7 (ys++[y])))else ∃c,c<m/\W (i+1) c ys f)):=
 λi m ys a w=>(h i m ys a w).Wi id λb=>b.Wi id λb=>(b.1,b.2.1,λx d k=>([x],5,b.2.2 x d k))
def EB(f:γ NB)(A:X.T9=ξ)(i:(x::f).Nz)(z:PI X (.N0 x px) Qt wi)(B:∀(u:γ (NB×υ))(C:υ)(t:γ υ)(s:MJ)(H:Hp),FH {oI X x sc u C t s H with N:=x::f} Xn tt/\PE {oI X x sc u C t s H with N:=x::f} Xq te)(p:(sc.MR.ρ x<*.local)>>>4)(a:(sc.RT=.RP)>>>4)(c:(∀y∈sc.MR,y.2=.local->sc.MR.ρ y.1<*.local)>>>3)(b:(∀y∈sc.MR,y.2≠.OA)>>>3)(d:((sc.MR.QD λy=>y.2 != .N6||X.KK.NG.MR.ρ y.1==δ .OA)=ξ)>>>4)(l:((f.QD λy=>sc.MR.ρ y != δ .local)=ξ)>>>4)(n:(f.β=X.N.β)>>>4)(k:(((f.Th X.N).QD λy=>y.1==y.2||sc.MR.ρ y.1==ε)=ξ)>>>4)(w:(∀x,Pc Qt X.KK x=pure x)>>>7):PE X (.QF Xq [(.N0 x px,Qt,Xn,(0))] sc Nj) (FI wi tt te):=by
 intro o s O H Q I h;rw[WA];refine An (xx:=λ_ _ _=>NX) (WV:=λ_=>η) (ns:=[x]) (gx:=λy _ vs=>vs=[y]) f A i z B (Ii i (.NJ (Oa p)) (.NU (Oa p))) a c (Ih a b) (λy h e=>MM e (b y h)) jg (NP.Ot λy v=>by rw[NP.mp d y v];rfl) l n k w I h (λJ P r D E=>?_) λM F j _ L q=>Jl M F j L q;let⟨W,m,g⟩:=r D E;show(W,m,Ij g)
def eK(f:γ NB)(z:X.T9=ξ)(i:(x::f).Nz)(w:PI X (.N0 x px) Qt wi)(A:∀(u:γ (NB×υ))(C:υ)(t:γ υ)(s:MJ)(H:Hp),FH {oI X x sc u C t s H with N:=x::f} Xn tt/\PE {oI X x sc u C t s H with N:=x::f} Xq te)(p:(sc.MR.ρ x<*.local)>>>4)(a:(sc.RT=.RP)>>>4)(c:(∀y∈sc.MR,y.2=.local->sc.MR.ρ y.1<*.local)>>>3)(b:(∀y∈sc.MR,y.2≠.OA)>>>3)(d:((sc.MR.QD λy=>y.2 != .N6||X.KK.NG.MR.ρ y.1==δ .OA||X.KK.NG.MR.ρ y.1==δ .N6)=ξ)>>>4)(l:((f.QD λy=>sc.MR.ρ y != δ .local)=ξ)>>>4)(n:(f.β=X.N.β)>>>4)(k:(((f.Th X.N).QD λy=>y.1==y.2||sc.MR.ρ y.1==ε)=ξ)>>>4)(v:(∀x,Pc Qt X.KK x=pure x)>>>7):PE X (.QF Xq [(.N0 x px,Qt,Xn,(0))] sc Nj) (FI wi tt te):=by
 intro o s M H Q I h;rw[WA];refine An (xx:=λ_ _ _=>NX) (WV:=λ_=>η) (ns:=[x]) (gx:=λy _ vs=>vs=[y]) f z i w A (Ii i (.NJ (Oa p)) (.NU (Oa p))) a c (Ih a b) (λy h e=>MM e (b y h)) jg d l n k v I h (λJ O r D B=>?_) λL E j _ F q=>Jl L E j F q;let⟨W,m,g⟩:=r D B;show(W,m,Ij g)
def mR{N:γ NB}{j:Φ}{y:NB}{Q P:St}(hN:X.N.Nz)(hj:X.N[j]?<*y)(T:DJ X.KK.NG y)(Y:X.fn y=ξ\/X.KK.NG.MR.ρ y<*.local)(L:f' X h Q H2 s2)(O:∀b∈fp,be X h H2 b)(l:∀b o,s2.π.ψ b<*o->b≠C)(ag:s2⁻¹≤C)(d:f' {oI X x sc cl C fp s2 H2 with N:=N} [] P k M)(qn:Bv j (.ο D) Q k DD.nx):Vf (Cl X.Ξ X.w) X.A X.xe (δ (U7 (.N0 y py) X.KK)) (λ_ s'=>SP X h DD .next s') (.ο D) C (.ok .next) M:=by
 let⟨mC,I,_⟩:=d.X1;let nC:∀b u,k b<*u->b≠C:=λb u e z=>by rw[z]at e;rw[show k C=ε from d.N6]at e;cases e
 let un:Un (s_ X.NC) fp H2 k s2.π M.π:=
  (λb o e n1 F n=>d.ς.QC b o e n1 F n,λb o e n1 F n=>d.ς.Ud b o e n1 F n,d.ς.N6,λb o e n1=>d.ς.QU b o e n1,d.ς.QT,d.ς.Vd,d.ς.VR)
 let I5:f' X h Q k M:=L.call' (s':=M) d.os un d.Og d.R5 λb B=>((O b B).2.2.2.1,(O b B).2.1,(O b B).2.2.2.2.1,(O b B).2.2.2.2.2);let⟨oC,ap,an,W,_⟩:=id I;let s:∃o,s2.π.ψ X.KK.Oc<*o:=by let⟨m,⟨o,es,ep,z,_⟩,_⟩:=L.X1;show(o,z)
 let E:X.KK.Oc≠C:=by let⟨o,z⟩:=s;show l _ o z
 let g:∀y c,X.KK.Rm.ρ y<*c->c≠C:=λy c e=>by let⟨v,o,r,_⟩:=L.OA y c e;show l c o r
 dsimp only[Vf];refine wpAny_assign_Name (eh I5 hN hj T (v:=.ο D) ζ (λS I6 U=>?_) Y);let⟨a,sb,ha⟩:=U;let J:C≠a:=by
  rcases ha with z|z
  .rw [z];show Ne.MQ E
  .exact Ne.MQ (g _ _ z)
 let H:S.π.ψ C<*oC:=(sb.2 C J).ν W;refine(mC,I.Wb sb J,λi f=>?_);let ab:C<i.Nr.MX:=by rw[f.1];show lt_size H
 let t:Au X.Ξ X.w k i:=λb u e=>(I6.Og b u e).SX (λc v Z q=>f.S6 c v (by
  rcases Z with z|z
  .rw [z];show nC b u e
  .exact nC c _ z) q) (λ_ q=>q) λ_ _ q=>q
 let R:Un (s_ X.NC) [C] k k S.π i:=
  (λb o e n1 F n=>f.S6 b o (λz=>n (by simp[z])) e,λb o e n1 F n=>(o.Ry,f.S6 b o (λz=>n (by simp[z])) e),λb o e n1 _=>n1,λb o e n1=>(o,f.S6 b o (λz=>n1 (by simp[z])) e),λ_ _ q=>q,λ_ _ _ q=>q,λb ps q=>(#[],by rw[Nt.Zm];show q))
 refine(_,k,I6.call' (s':={S with π:=i}) ζ R t I6.R5 (λb B=>?_),qn);let eb:b=C:=by simpa using B
 subst eb;refine(.NU (IO L.sz (!2)),Ne.MQ E,g,λp hp z=>?_);let⟨z1,_⟩:=L.Y4 p hp;show l p.1 p.2 z1 z
def Jm(g:γ NB){py d:Sh}(Y:X.T9=ξ)(hN:X.N.Nz)(k:(x::g).Nz)(T:X.N[j]?<*y)(p:DJ X.KK.NG y)(U:PI X (.N0 x px) Qt wi)(Z:∀(M:γ (NB×υ))(C:υ)(L:γ υ)(s:MJ)(H:Hp),FH {oI X x sc M C L s H with N:=x::g} Xn tt/\PE {oI X x sc M C L s H with N:=x::g} Xq te)(F:(sc.MR.ρ x<*.local)>>>4)(a:(sc.RT=.RP)>>>4)(c:(∀y∈sc.MR,y.2=.local->sc.MR.ρ y.1<*.local)>>>3)(b:(∀y∈sc.MR,y.2≠.OA)>>>3)(f:((sc.MR.QD λy=>y.2 != .N6||X.KK.NG.MR.ρ y.1==δ .OA)=ξ)>>>4)(t:((g.QD λy=>sc.MR.ρ y != δ .local)=ξ)>>>4)(w:(g.β=X.N.β)>>>4)(o:(((g.Th X.N).QD λy=>y.1==y.2||sc.MR.ρ y.1==ε)=ξ)>>>4)(S:(∀x,Pc Qt X.KK x=pure x)>>>7)(q:(Sw (.QF Xq [(.N0 x px,Qt,Xn,(0))] sc Nj) (δ (.N0 y py)) d.SZ X.KK=pure ξ)>>>4)(z:(X.fn y=ξ\/X.KK.NG.MR.ρ y<*.local)>>>8):PS X (.WS [.N0 y py] (.QF Xq [(.N0 x px,Qt,Xn,(0))] sc Nj) d) (aK (FI wi tt te) (Bv j)):=by
 intro E s B H O I h;refine Cg q λ_=>An (xx:=λ_ _ _=>NX) (WV:=λ_=>η) (Q:=λv l=>Bv j v B l O.nx) (ns:=[x]) (gx:=λy _ vs=>vs=[y]) g Y k U Z (Ii k (.NJ (Oa F)) (.NU (Oa F))) a c (Ih a b) (λy h e=>MM e (b y h)) jg (NP.Ot λy R=>by rw[NP.mp f y R];rfl) t w o S I h (λJ l r D hD=>?_) λI2 f2 n u A P=>mR hN T p z I2 f2 n u A P;let⟨W,m,i⟩:=r D hD;show(W,m,Ij (Q:=λv l=>Bv j v B l O.nx) i)
def qd(L:X.T9=ξ)(g:(x::y::t).Nz)(F:sc.MR.ρ x<*.local)(E:sc.MR.ρ y<*.local)(j:γ (NB×υ))(C:υ)(q:γ υ)(m:MJ)(z:Hp)(c:γ (υ×Rp))(s:MJ)(l:St)(os:γ (ω V))(H:Hp)(v:V)(u:θ)(vs:γ V)(I:os.β=2)(J:∃p a b,v=.ο p/\u0 X.K H p [a,b]/\vs=[a,b])(S:f' {oI X x sc j C q m z with N:=[x,y]++t} c (os++l) H s)(D:ae v u):Ω (Cl X.Ξ X.w) X.A (U7 (.Qw [.N0 x px,.N0 y py] kt pt) (Vg sc j C X.KK) u) (λ_ s'=>f' {oI X x sc j C q m z with N:=[x,y]++t} c (vs.NN δ++l) H s') (λ_ _=>NX) s:=by
 obtain⟨o,h,ζ⟩:∃o h,os=[o,h]:=match os,I with|[o,h],_=>(o,h,1)
 let⟨p,Q,P,ζ,hp,ζ⟩:=J;let e:(Ut sc X.KK).MR.ρ x<*.local:=Oa F;let d:(Ut sc X.KK).MR.ρ y<*.local:=Oa E;let r:PG {oI X x sc j C q m z with N:=[x,y]++t} (.Qw [.N0 x px,.N0 y py] kt pt) (zo X.K 2 (ss (Bv 0) (ss (Bv 1) gNil))):=gE L (Gg (bL (i:=0) g ζ (.NJ e) (.NU e)) (Gg (bL (i:=1) g ζ (.NJ d) (.NU d)) bK));refine NI (r _ s _ H (.ο p) u (λk H'=>k=δ Q::δ P::l/\H'=H) S D (p,0,hp,1,4,4,5,1)) (λ_ T n=>?_) λ_ _ f=>f;let⟨B,U,R,O,M⟩:=n;subst O M;show R

def Jn(j:γ NB)(A:X.T9=ξ)(l:(x::y::j).Nz)(T:PI X (.Qw [.N0 x px,.N0 y py] kt pt) Qt wi)(U:∀(E:γ (NB×υ))(C:υ)(B:γ υ)(s:MJ)(H:Hp),FH {oI X x sc E C B s H with N:=x::y::j} Xn tt/\PE {oI X x sc E C B s H with N:=x::y::j} Xq te)(P:(sc.MR.ρ x<*.local)>>>4)(O:(sc.MR.ρ y<*.local)>>>4)(c:(sc.RT=.RP)>>>4)(f:(∀y∈sc.MR,y.2=.local->sc.MR.ρ y.1<*.local)>>>3)(d:(∀y∈sc.MR,y.2≠.OA)>>>3)(g:((sc.MR.QD λy=>y.2 != .N6||X.KK.NG.MR.ρ y.1==δ .OA||X.KK.NG.MR.ρ y.1==δ .N6)=ξ)>>>4)(t:((j.QD λy=>sc.MR.ρ y != δ .local)=ξ)>>>4)(u:(j.β=X.N.β)>>>4)(o:(((j.Th X.N).QD λy=>y.1==y.2||sc.MR.ρ y.1==ε)=ξ)>>>4)(S:(∀x,Pc Qt X.KK x=pure x)>>>7):PE X (.QF Xq [(.Qw [.N0 x px,.N0 y py] kt pt,Qt,Xn,(0))] sc Nj) (gm X.K wi tt te):=by
 intro z s σ H Q I h;rw[WA];refine An (xx:=λ_ _ _=>NX) (WV:=λ_=>η) (ns:=[x,y]) (gx:=λv H vs=>∃p a b,v=.ο p/\u0 X.K H p [a,b]/\vs=[a,b]) j A l T U (qd A l P O) c f (Ih c d) (λy h e=>MM e (d y h)) jg g t u o S I h (λJ H1 r D Y=>?_) λI2 Z n _ I4 q=>Jl I2 Z n I4 q
 .obtain ⟨W,m,k⟩:=r D Y;show(W,m,λi m ys H2 w=>(k i m ys H2 w).Wi id λb=>b.Wi id λb=>(b.1,b.2.1,λv H3 M=>by
   let⟨p,L,F,e,hp,R⟩:=b.2.2 v H3 M;show([L,F],1,(p,L,F,e,hp,1),R)))
def LD{KK:WH}:∀{a:γ (NB×QE)}{x:NB},a.ρ x<*.OA->
  (a.NN λ(n,k)=>if (k==QE.N6&&KK.NG.RT==.RP&&KK.Om n==δ .OA)then(n,QE.OA,)else(n,k,)).ρ x<*.OA
 |[],_,h=>by simp at h
 |(n,k)::r,x,h=>by
  rw[Qr];by_cases z:x=n
  .subst z;rw[γ.W9]at h;cases h;change γ.ρ x ((x,QE.OA,)::_)=_;show γ.W9
  .let zb:(x==n)=η:=ND.Ot z;let h2:r.ρ x<*.OA:=by simpa only[γ.ρ,zb]using h
   let b:=LD (KK:=KK) h2;dsimp only;split
   .simp only[γ.ρ,zb];show b
   .simp only[γ.ρ,zb];show b
def rA(f:∀n a,Vq n sc.MR a=(x,n,)::a)(d:∀h:NR,pushCells h sc.MR=h.Nh {OO:=.MO "cell",NL:=.OA ε}):tH sc λy=>y==x:=λ{_ _ _ s _ a _ _ _ Fr _ _}g=>by
 unfold VW;rw[show(δ Fr).Rz=ξ from ζ,Id ζ];refine d_ (VQ (d_ (wpAny_layCells _ (λ_ k _=>by cases q:k==QE.OA<;>simp only[q]<;>rfl) _ _ _ _ ?_)));rw[f,d];let e:({s with π:=s.π.Nh {OO:=.MO "dict",NL:=.Pz #[]} }:MJ).π.Nr.MX=s⁻¹+1:=Op ..;rw[e];refine d_ ?_;rw[ST];refine j' (j' (g _ ((x,s⁻¹+1,)::a) ?_ (λb o z=>sy _ (sy _ z)) (λy c e=>?_) (λy c z e=>?_) λy z=>(s⁻¹+1,by cases SU z;show γ.W9)))
 .exact (NR.Ns.X0 s.π (.MO "dict")).Oq λb o z=>sy _ z
 .cases z:y==x<;>simp only[γ.ρ,z]at e
  .exact .NJ (z,e)
  .cases e;have:=MV (s.π.Nh {OO:=.MO "dict",NL:=.Pz #[]}) (o:={OO:=.MO "cell",NL:=.OA ε}) ζ;rw[Op]at this;show .NU (z,OC _,ε,_,this,1)
 .simp only[γ.ρ,z];show e
def qR(f:γ NB)(F:X.T9=ξ)(i:(x::f).Nz)(E:PI X (.N0 x px) Qt wi)(L:∀(j:γ (NB×υ))(C:υ)(z:γ υ)(s:MJ)(H:Hp),FH {oI X x sc j C z s H with N:=x::f,fn:=λy=>y==x} Xn tt/\PE {oI X x sc j C z s H with N:=x::f,fn:=λy=>y==x} Xq te)(w:(sc.MR.ρ x<*.OA)>>>4)(u:(∀n j,Vq n sc.MR j=(x,n,)::j)>>>7)(o:(∀h:NR,pushCells h sc.MR=h.Nh {OO:=.MO "cell",NL:=.OA ε})>>>7)(b:(sc.RT=.RP)>>>4)(a:(∀y∈sc.MR,y.2=.local->sc.MR.ρ y.1<*.local)>>>3)(d:(∀y∈sc.MR,y.2=.OA->y.1=x)>>>3)(c:((sc.MR.QD λy=>y.2 != .N6||X.KK.NG.MR.ρ y.1==δ .OA)=ξ)>>>4)(p:((f.QD λy=>sc.MR.ρ y != δ .local)=ξ)>>>4)(t:(f.β=X.N.β)>>>4)(l:(((f.Th X.N).QD λy=>y.1==y.2||sc.MR.ρ y.1==ε)=ξ)>>>4)(B:(∀x,Pc Qt X.KK x=pure x)>>>7):PE X (.QF Xq [(.N0 x px,Qt,Xn,(0))] sc Nj) (FI wi tt te):=by
 intro v s S H Q I h;rw[WA];refine An (xx:=λ_ _ _=>NX) (WV:=λy=>y==x) (ns:=[x]) (gx:=λy _ vs=>vs=[y]) f F i E L (Ii i (.NU (LD w)) (.NJ (Ul x))) b a (rA u o) (λy h e=>Oy.Ot (d y h e)) (λy e=>by cases SU e;show(1,N8,w)) (NP.Ot λy A=>by rw[NP.mp c y A];rfl) p t l B I h (λJ T r D M=>?_) λR O k _ P q=>Jl R O k P q;let⟨W,m,g⟩:=r D M;show(W,m,Ij g)
end
section
variable{X:Cx}{elt iter:Expr}{x y:Str}{px py pt pos:Pos}{kt:Nat}{sc:Scope}{wi:TI}{te:TE}
def ja(e:γ NB)(p:X.T9=ξ)(i:(x::y::e).Nz)(o:PI X (.Qw [.N0 x px,.N0 y py] kt pt) Qt wi)(q:∀(k:γ (NB×υ))(C:υ)(j:γ υ)(s:MJ)(H:Hp),PE {oI X x sc k C j s H with N:=x::y::e} Xq te)(m:(sc.MR.ρ x<*.local)>>>4)(l:(sc.MR.ρ y<*.local)>>>4)(b:(sc.RT=.RP)>>>4)(a:(∀y∈sc.MR,y.2=.local->sc.MR.ρ y.1<*.local)>>>3)(d:(∀y∈sc.MR,y.2≠.OA)>>>3)(c:((sc.MR.QD λy=>y.2 != .N6||X.KK.NG.MR.ρ y.1==δ .OA||X.KK.NG.MR.ρ y.1==δ .N6)=ξ)>>>4)(g:((e.QD λy=>sc.MR.ρ y != δ .local)=ξ)>>>4)(h:(e.β=X.N.β)>>>4)(f:(((e.Th X.N).QD λy=>y.1==y.2||sc.MR.ρ y.1==ε)=ξ)>>>4)(n:(∀x,Pc Qt X.KK x=pure x)>>>7):PE X (.QF Xq [(.Qw [.N0 x px,.N0 y py] kt pt,Qt,[],(0))] sc Nj) (kC X.K wi te):=Jn e p i o (λk C j s H=>(B3,q k C j s H)) m l b a d c g h f n
end
def J_{K:Nn}{J:It}{C:TT}{E:TE}{r:St}{Q:VK}(I:Φ->V->V->Prop)(o:υ->Φ->γ V->Hp->Prop)(hz:n≤Λ)(N:∀i d,a' H d->i<n->J.go i d)(M:∀i d x j,a' H d->i<n->J.X_ i d x j->∃p a b,x=.ο p/\I i a b/\d p=ε/\j=MT d p (.No [a,b]))(L:∀d,a' H d->J.Sx n d)(h0:∀D,H D=ε->o D 0 [] (MT H D (.M7 [])))(O:∀(D:υ)(i:Φ)(a b:V)(ys:γ V)(H' j:Hp)(F:VK)(R2:Hp->Prop),H D=ε->i<n->I i a b->a' H H'->H' D<*.M7 ys->o D i ys H'->a' H' j->
   (∀y k,k D<*.M7 ys->a' H (MT k D (.M7 (ys++[y])))->o D (i+1) (ys++[y]) (MT k D (.M7 (ys++[y])))->F y k)->(∀h,a' H h->h D<*.M7 ys->o D (i+1) ys h->R2 h)->
   C (δ a::δ b::r) j λc h=>if c=ξ then E (δ a::δ b::r) h F else R2 h)(P:∀D ys H',H D=ε->a' H H'->H' D<*.M7 ys->o D n ys H'->Q (.ο D) H'):∀D,H D=ε->∃W:Φ->Φ->γ V->Hp->Prop,
   (∃m,W 0 m [] (MT H D (.M7 [])))/\∀i m ys d,W i m ys d->d D=δ (.M7 ys)/\((J.Sx i d/\Q (.ο D) d)\/(J.go i d/\ys.β<Λ/\∀x j,J.X_ i d x j->
    ∃p a b,x=.ο p/\u0 K j p [a,b]/\C (δ a::δ b::r) j λS h=>if S=ξ then E (δ a::δ b::r) h λy k=>k D=δ (.M7 ys)/\∃q,q<m/\W (i+1) q (ys++[y]) (MT k D (.M7 (ys++[y])))else ∃q,q<m/\W (i+1) q ys h)):=by
 intro D s;refine(λi m ys d=>m=n-i/\i≤n/\ys.β≤i/\a' H d/\d D=δ (.M7 ys)/\o D i ys d,(n,!1,Nf _,!1,a'.MT s,j_,h0 D s),3);rintro i m ys d⟨rfl,R,u,g,l,hp⟩;refine(l,3);by_cases f:i<n
 .refine .NU (N i d g f,Nm u (Ψ f hz),λx j t=>?_);let⟨p,a,b,ζ,w,v,ζ⟩:=M i d x j g f t;show(p,a,b,1,u0.of j_,O D i a b ys d _ _ _ s f w g l hp (a'.MT v) (λy k B A z=>(B,n-(i+1),Pi _ _ f,1,f,by rw[w_];show QH u,A,j_,z)) (λh B A z=>(n-(i+1),Pi _ _ f,1,f,Φ.V8 u,B,A,z)))
 .let e:i=n:=Rh R (OS f);subst e;show .NJ (L d g,P D ys d s g l hp)
abbrev AI(f:υ)(M6:NB)(O5:QO)(Yy:Rb)(NG:RZ)(OW:γ (NB×υ))(c:υ):HO:=.ext λh=>∃pm Xc,h.ψ f<*Rw "<lambda>" M6 O5 Yy NG OW pm c Xc
def jl{P:NE}{w:N1}(x:h.ψ f<*Rw "<lambda>" M6 a g b d pm c j):Az P w H h f (AI f M6 a g b d c):=
 ((pm,j,x),(_,x),λ_ _ i k=>by let⟨p,v,e⟩:=i;show(p,v,k _ e))
abbrev zN(X:Cx)(P0:υ)(ON:γ (Sh×NB))(M6:NB)(O5:QO)(Yy:Rb)(sc:RZ):TE:=λ_ H Q=>A_ H P0 ON/\
 ∀(OW:γ (NB×υ))(f c:υ)(H1:Hp),(∀y a,OW.ρ y<*a->X.KK.Rm.ρ y<*a)->(∀y∈sc.MR,y.2=.N6->∃a,OW.ρ y.1<*a)->H f=ε->f≠c->Cv P0 H H1->A_ H1 P0 ON->
  H1 c<*pd c M6->H1 f<*AI f M6 O5 Yy sc OW c->Q (.ο f) H1
def Hq{X:Cx}{d:QO}{g:Rb}{sc:RZ}(C:X.KK.code=.ο c)(hC:QI X.ς c P0)(hB:DB X.ς X.mg)(Z:(Nj,M6,)∈ON)(M:∀q∈ON,q.1.SZ=Nj.SZ->q.1.VJ=Nj.VJ->q.2=M6)(hq:(X.KK.M6++"<lambda>"=M6)>>>4)(aU:(defaultsOf d X.KK=([],[],))>>>4)(ap:((sc.MR.QD λy=>y.2 != .N6||X.KK.NG.MR.ρ y.1==δ .OA)=ξ)>>>4):PE X (.Qa d g sc Nj) (zN X P0 ON M6 d g sc):=by
 intro v s σ H Q I h;let⟨⟨ps,U,ht,E⟩,h⟩:=h;let bd:∀y∈sc.MR,y.2=.N6->X.KK.Om y.1<*.OA:=λy hy e=>by
  let q:=NP.mp ap y hy;rw[e]at q;simpa[WH.Om]using q
 let⟨l,D,R,S⟩:=JO (KK:=X.KK) (sc:=sc) λy hy e=>I.ok.UU y.1 (.NJ (bd y hy e));let aA:s.π.ψ P0<*ZS ps:=I.Og P0 _ U;let T:P0<s⁻¹:=I.Og.lt U;let P:s.π.BuiltinsAt X.mg P0:=by
  let⟨bm,o,e1,e2,e3,e4,e5,e6,e7⟩:=hB.ex;refine(bm,o,e1,e2,e3,λz=>?_,(I.bs bm o e4).1,e5,e6,e7);let n:=(I.bs bm o e4).2;rw[z,U]at n;cases n
 let ag:s.π.Ns LT X.mg:=I.VX.Wk.Oq I.bk;let a9:LT≠P0:=λz=>by
  let⟨o,es,ep,e,hd,_⟩:=ag;rw[z,aA]at e;cases e;cases hd
 let a3:=hC.Oq I.bk;refine Δ.W.kla_eval aU ?_;rw[hq];let a4:∀{f:υ}{s1:MJ}{L:Hp},f' X v σ L s1->Q (.ο f) L->EP X v σ Q (.ο f) s1:=λ{f s1 L}I1 q=>(.ο f,L,I1,1,q);let a5:∀{b:υ}{u:HO},H b<*u->b<s⁻¹:=λe=>I.Og.lt e;rcases E _ Z with a8|⟨c0,aT,aV⟩
 .refine Δ.W.kla_makeFunction (mg:=X.mg) D I.ok.Wk ag C a3 aA ht a8 a9 P λi p h' tk a6 an aS aC a7=>?_;let bg:P0≠i:=M_ (Ψ T an);let x:s⁻¹<h'.Nr.MX:=Nm an aS;let a2:P0≠h'.Nr.MX:=M_ (QB T x);let as:i≠h'.Nr.MX:=M_ aS;generalize bf:h'.Nr.MX=f at a2 as x⊢;let kp:∀b o,b≠P0->s.π.ψ b<*o->(h'.Nh (Rw "<lambda>" M6 d g sc l ((X.mg "__name__").ML .ε) i p)).ψ b<*o:=λb o j e=>sy _ (a6 b o j e);let aM:(h'.Nh (Rw "<lambda>" M6 d g sc l ((X.mg "__name__").ML .ε) i p)).ψ f<*Rw "<lambda>" M6 d g sc l ((X.mg "__name__").ML .ε) i p:=by rw[<-bf];show MV _ ζ
  let aN:(h'.Nh (Rw "<lambda>" M6 d g sc l ((X.mg "__name__").ML .ε) i p)).N_ (.ο i) M6:=by
   let⟨c2,oc,vs,t,e,e1,e2,e3⟩:=aC;show(c2,oc,vs,t,e,sy _ e1,e2,e3)
  let O:(h'.Nh (Rw "<lambda>" M6 d g sc l ((X.mg "__name__").ML .ε) i p)).ψ P0<*ZS (ps++#[Ny Nj.SZ,Ny Nj.VJ,.ο i]):=sy _ a7;generalize h'.Nh (Rw "<lambda>" M6 d g sc l ((X.mg "__name__").ML .ε) i p)=hh at kp aM aN O⊢;generalize ab:ps++#[Ny Nj.SZ,Ny Nj.VJ,.ο i]=WU at O;let aB:∀{b:υ},b<s⁻¹->b≠i/\b≠f:=λj=>(M_ (Ψ j an),M_ (QB j x));let J:∀{b:υ},b<s⁻¹->b≠P0->MT (MT (MT H P0 (.Wy WU)) i (pd i M6)) f (AI f M6 d g sc l i) b=H b:=λj P=>by
   rw[a_ (aB j).2,a_ (aB j).1,a_ P]
  let Y:∀{b:υ},b≠P0->b≠i->b≠f->MT (MT (MT H P0 (.Wy WU)) i (pd i M6)) f (AI f M6 d g sc l i) b=H b:=λh1 h2 h3=>by
   rw[a_ h3,a_ h2,a_ h1]
  let B:MT (MT (MT H P0 (.Wy WU)) i (pd i M6)) f (AI f M6 d g sc l i) P0<*.Wy WU:=by rw[a_ a2,a_ bg,j_]
  let A:MT (MT (MT H P0 (.Wy WU)) i (pd i M6)) f (AI f M6 d g sc l i) i<*pd i M6:=by rw[a_ as,j_]
  let F:MT (MT (MT H P0 (.Wy WU)) i (pd i M6)) f (AI f M6 d g sc l i) f<*AI f M6 d g sc l i:=j_;generalize MT (MT (MT H P0 (.Wy WU)) i (pd i M6)) f (AI f M6 d g sc l i)=L at J Y B A F;let nP:∀{b:υ},H b=ε->b≠P0:=λn z=>by rw[z,U]at n;cases n
  let r:∀{b:υ}{u:HO},H b<*u->b≠P0->L b<*u:=λe j=>by rw[J (a5 e) j];show e
  let m:∀{b:υ}{u:HO},H b<*u->(∀ps,u≠.Wy ps)->L b<*u:=λe hu=>r e λz=>by
   rw[z,U]at e;cases e;show hu _ ζ
  let un:Un X.fs [] H L s.π hh:=by
   refine(λb o e n _ _=>kp b o (nP n) e,λb o e n _ _=>(o.Ry,kp b o (nP n) e),λb o e n _=>by rw[J (lt_size e) (nP n)];show n,λb o e _=>?_,λb xs e=>m e (λ_ z=>nomatch z),λb o u e=>m e (λ_ z=>nomatch z),λb qs e=>?_)
   .by_cases j:b=P0
    .rw [j];show(_,O)
    .exact (o,kp b o j e)
   .by_cases j:b=P0
    .rw [j,U]at e;cases e;rw[j];show(_,by rw[B,ab])
    .exact (#[],by rw[r e j];simp)
  let aH:Au X.Ξ X.w L hh:=λa o e=>by
   by_cases a0:a=f
   .rw [a0]at e⊢;rw[F]at e;cases e;show jl aM
   by_cases a1:a=i
   .rw [a1]at e⊢;rw[A]at e;cases e;show fK aN
   by_cases az:a=P0
   .rw [az]at e⊢;rw[B]at e;cases e;show O
   rw[Y az a1 a0]at e;refine(I.Og a o e).SX (λb u j q=>kp b u (λz=>?_) q) (λb q=>m q (λ_ z=>nomatch z)) λb xs q=>m q (λ_ z=>nomatch z);rcases j with j|j
   .exact az (j▸z)
   .rw [z,U]at j;cases j
  let I1:f' X v σ L {s with π:=hh,MW:=tk}:=I.un un aH;refine a4 I1 (h l f i L R S (I.Og.OG (Pq x)) (Ne.MQ as) (λb o j e=>r e j) (WU,B,3,λq N=>?_) A F)
  .rw [<-ab,Nt.V7];show Lx _ _ _ _ _ _ ht
  .rw [<-ab,Nt.V7,fR _ _ _ ht];rcases E q N with hn|⟨c1,h1,h2⟩
   .rw [hn,ω.none_or];by_cases k:q.1.SZ=Nj.SZ/\q.1.VJ=Nj.VJ
    .refine .NU (i,3,3)
     .change Qu q.1 [Ny Nj.SZ,Ny Nj.VJ,.ο i]=_;simp[Qu,Ny,k.1,k.2]
     .rw [M q N k.1 k.2];show A
    .refine .NJ ?_;change Qu q.1 [Ny Nj.SZ,Ny Nj.VJ,.ο i]=_;simp only[Qu,Ny];rw[BT];intro z;simp at z;show k (!6,!6)
   .rw [h1,ω.some_or];show .NU (c1,1,m h2 (λ_ z=>nomatch z))
 .refine Δ.W.kla_makeFunctionHit (mg:=X.mg) D I.ok.Wk ag C a3 aA ht aT P λp h' tk hk V_=>?_;let I1:f' X v σ (MT H h'.Nr.MX (AI h'.Nr.MX M6 d g sc l c0)) {s with π:=h'.Nh (Rw "<lambda>" M6 d g sc l ((X.mg "__name__").ML .ε) c0 p),MW:=tk}:=
   I.T0 (λb u e=>sy _ (hk b u e)) V_ (jl (MV _ ζ))
  let ar:H h'.Nr.MX=ε:=I.Og.OG V_;let kH:∀{b:υ}{u:HO},H b<*u->MT H h'.Nr.MX (AI h'.Nr.MX M6 d g sc l c0) b<*u:=λe=>by rw[a_ (e_ e ar)];show e
  refine a4 I1 (h l _ c0 _ R S ar (Ne.MQ (e_ aV ar)) (λb o _ e=>kH e) (ps,kH U,ht,λq N=>?_) (kH aV) j_);rcases E q N with hn|⟨c1,h1,h2⟩
  .exact .NJ hn
  .exact .NU (c1,h1,kH h2)
def Hr{P:NE}{w:N1}{K:Nn}{mg:NB->ω θ}{ς:NR}{N ps Z:γ NB}{M6:NB}{a:RZ}{f:υ}{d:γ (NB×υ)}{UY:γ V}{k:Φ}{g:QO}{h:Rb}{pm B:θ}{l:υ}{F:Sp}{o:Rp}(ho:ς.ψ f<*o)(hd:o.NL=.Qb (XA "<lambda>" M6 g h a d pm (.ο l) B))(U:ς.N_ (.ο l) M6)(S:C0 N ps Z a)(C:A2 ς d a Z UY)(PQ:∀vs H Q E,F vs H Q E->vs.β=ps.β)(j:∀(A:N2)(Fr:γ WH)(s:MJ)(H:Hp)(vs:γ V)(Q:VK)(E:XK),ak k (A.RH (envX M6 a s⁻¹ f (.ο l) d))->F vs H Q E->
   ∃t,PE (bB pu P w K mg ς N M6 a f (.ο l) d A Fr s H E).nox h t/\t (DA N vs UY) H Q):aa P w K mg ς pu (k+1) f (XA "<lambda>" M6 g h a d pm (.ο l) B) ps F:=by
 refine(PQ,λA Fr s H ab us vs Q E O z hb r m=>?_);let hl:=PQ _ _ _ _ m;let L:s.π.X7:=z.VX.Wf.Oq λb o e=>(z.bs b o e).1;let i:∀y∈ps.Th us,a.MR.ρ y.1<*.local:=λX hy=>by let⟨n,v⟩:=X;show S.YN n (Uw hy).1
 let x:s.π.N_ (.ο l) M6:=by
  let⟨c,Y,ws,t,e1,e2,e3,e4⟩:=U;show(c,Y,ws,t,e1,(z.bs c Y e2).1,e3,e4)
 refine Δ.W.kla_callFunE O.Wo (z.bs f o ho).1 hd S.co S.gen ζ x (hb _ _ _ _ ?_);refine VN (closure:=d) (around:=ε) S.nocell i (λh' R p=>?_) S.RT;let T:∀b o,s.π.ψ b<*o->h'.ψ b<*o:=λb o e=>p.S6 b o (M_ (lt_size e)) (sy _ e);refine(L.Oq T,Δ.W.kla_codeExpr ?_);let⟨t,ht,hq⟩:=j A Fr s H vs Q E (O.RH _) m;let I:f' (bB pu P w K mg ς N M6 a f (.ο l) d A Fr s H E) [] (DA N vs UY) H {s with π:=h',MW:=s.MW+(ps.Th us).β}:=Lw S C O.hd z hl r R p;refine NI (ht [] _ (DA N vs UY) H _ (I.Vw _) hq) (λu s' M=>?_) λe s' M=>M.Nx;let⟨v,H',J,rv,q⟩:=M;let D:=J.Sv;show(v,H',D.os,D.R5,D.ς,D.Og,rv,q)
end L2
namespace RA
open L2
section
variable{X:Cx}{pins:List (Addr×Obj)}{σ:St}{H:Hp}{s:Shared}
end
def LF{K:Nn}{l:St}(E:∀R:γ V->Hp->Prop,R [.ο c] H->t l H R)(I:o=.M7 xs\/o=.No xs)(j:H c<*o)(e:υ->Φ->γ V->Hp->Prop)(hz:xs.β≤Λ)(h0:∀D,H D=ε->e D 0 [] (L2.MT H D (.M7 [])))(F:∀(D:υ)(i:Φ)(x:V)(ys:γ V)(H' g:Hp)(k:VK)(R2:Hp->Prop),H D=ε->xs[i]?<*x->a' H H'->H' D<*.M7 ys->e D i ys H'->a' H' g->
   (∀y f,f D<*.M7 ys->a' H (L2.MT f D (.M7 (ys++[y])))->e D (i+1) (ys++[y]) (L2.MT f D (.M7 (ys++[y])))->k y f)->(∀d,a' H d->d D<*.M7 ys->e D (i+1) ys d->R2 d)->
   A (δ (.MS (i:MN))::δ x::l) g λc d=>if c=ξ then B (δ (.MS (i:MN))::δ x::l) d k else R2 d)(C:∀D ys H',H D=ε->a' H H'->H' D<*.M7 ys->e D xs.β ys H'->Q (.ο D) H'):gm K (lT t) A B l H Q:=by
 let m:∀(D:υ)(i:Φ)(a b:V)(ys:γ V)(H' g:Hp)(k:VK)(R2:Hp->Prop),H D=ε->i<xs.β->(a=.MS (i:MN)/\xs[i]?<*b)->a' H H'->H' D<*.M7 ys->e D i ys H'->a' H' g->
   (∀y f,f D<*.M7 ys->a' H (L2.MT f D (.M7 (ys++[y])))->e D (i+1) (ys++[y]) (L2.MT f D (.M7 (ys++[y])))->k y f)->(∀d,a' H d->d D<*.M7 ys->e D (i+1) ys d->R2 d)->
   A (δ a::δ b::l) g λc d=>if c=ξ then B (δ a::δ b::l) d k else R2 d:=by
  rintro D i a b ys H' g k R2 L _⟨rfl,J⟩T S P O N M;show F D i b ys H' g k R2 L J T S P O N M
 refine E _ (c,xs,1,3);rcases I with ζ|rfl
 .refine .NU (j,J_ (K:=K) (n:=xs.β) (λi a b=>a=.MS (i:MN)/\xs[i]?<*b) e hz (λi r s h=>(xs,xs[i],s _ _ j,n_ h)) ?_ (λr s=>(xs,s _ _ j,1)) h0 m C);rintro i r x g s h⟨p,y,zs,q,z,w,v,u⟩;rw[s _ _ j]at q;cases q;show(p,_,y,w,(1,z),v,u)
 .refine .NJ (j,J_ (K:=K) (n:=xs.β) (λi a b=>a=.MS (i:MN)/\xs[i]?<*b) e hz (λi r s h=>(xs,xs[i],s _ _ j,n_ h)) ?_ (λr s=>(xs,s _ _ j,1)) h0 m C);rintro i r x g s h⟨p,y,zs,q,z,w,v,u⟩;rw[s _ _ j]at q;cases q;show(p,_,y,w,(1,z),v,u)
def jQ{xs zs:γ V}{r:St}(v:∀R:γ V->Hp->Prop,R [.ο c,.ο d] H->t r H R)(j:H c<*.M7 xs)(g:H d<*.M7 zs)(B:xs.β=zs.β)(e:υ->Φ->γ V->Hp->Prop)(hz:xs.β≤Λ)(h0:∀D,H D=ε->e D 0 [] (L2.MT H D (.M7 [])))(w:∀(D:υ)(i:Φ)(x z:V)(ys:γ V)(H' f:Hp)(m:VK),H D=ε->xs[i]?<*x->zs[i]?<*z->a' H H'->H' D<*.M7 ys->e D i ys H'->a' H' f->
   (∀y o,o D<*.M7 ys->a' H (L2.MT o D (.M7 (ys++[y])))->e D (i+1) (ys++[y]) (L2.MT o D (.M7 (ys++[y])))->m y o)->u (δ x::δ z::r) f m)(A:∀D ys H',H D=ε->a' H H'->H' D<*.M7 ys->e D xs.β ys H'->Q (.ο D) H'):kC K (vJ t) u r H Q:=by
 refine v _ (4,.NU (.NU (c,d,xs,zs,5,j,g,λ_=>?_)));refine J1 (K:=K) (J:=E1 (.ls c) (.ls d)) (n:=xs.β) (λi a b=>xs[i]?=δ a/\zs[i]?<*b) e hz (λi q s h=>(xs,zs,xs[i],zs[i]'(!6),s _ _ j,s _ _ g,n_ h,n_ _)) ?_ (λq s=>(xs,zs,s _ _ j,s _ _ g,B,1)) h0 ?_ A
 .rintro i q x f s h⟨p,P,bs,a,b,l,k,O,N,M,L,I⟩;let l:q c<*.M7 P:=l;let k:q d<*.M7 bs:=k;rw[s _ _ j]at l;rw[s _ _ g]at k;cases l;cases k;show(p,a,b,M,(O,N),L,I)
 .rintro D i a b ys H' f m F Y⟨E,C⟩X W U T S;show w D i a b ys H' f m F E C X W U T S
def LG(l:LN):(c_ l).QD bp=ξ:=by
 rw[c_,γ.all_map,NP];show λ_ _=>rfl
inductive sp_lotsafter(vs:List V)(H:Hp)(Q:VK)(_E:XK):Prop
 |mk (m:Addr) (v:Addr) (o:HO) (L:LN) (W:LL) (B:List Bool) (k:LN) (_:vs=[.ref m,.ref v]) (_:zl H m L W B) (_:g_ L W B) (_:(o=.lst (c_ k)\/o=.tup (c_ k))) (_:H v<*o) (_:k.length≤60) (_:(∀x∈k,x<W.length)) (_:∀(l:Addr)(ls:List Addr)(H':Hp),a' H H'->H' l<*.lst (ls.map V.ref)->ls.length=L.length->(∀(q:Nat)(a:Addr),ls[q]?<*a->H' a<*.lst (c_ (gA W k q)))->Q (.ref l) H')
end RA
namespace L2
open PySem.Spec PyProof.Rows
structure Jo(N:List Str)(x:Str)(fr:List Str)(sc:Scope):Prop where
 kind:sc.kind=.function
 co:sc.isCoroutine=false
 gen:sc.isGenerator=false
 nd:N.Nodup
 pre:N.take 1=[x]
 suf:N.drop (N.length-fr.length)=fr
 fit:1+fr.length≤N.length
 par:sc.names.lookup x<*.cell
 only:∀y∈sc.names,y.2=.cell->y.1=x
 lay:∀n acc,cellsFrom n sc.names acc=(x,n,)::acc
 push:∀h,pushCells h sc.names=h.push {cls:=.type "cell",data:=.cell none}
def FV{M:Model}{A:N2}{E:θ->MJ->Prop}{s:MJ}{a:RZ}{globals:υ}{code:θ}(S:Jo N x q a)(n:∀h' j,h'.Ns s⁻¹ (λ_=>ε)->h'.Tf (s⁻¹+1) (δ u)->(∀b o,s.π.ψ b<*o->h'.ψ b<*o)->Q (newEnv a s⁻¹ globals ((x,s⁻¹+1,)::d) M6 Qb code ε builtins) {s with π:=h',MW:=j}):Ω M A (VW a globals d [(x,u,)] M6 Qb code ε builtins) Q E s:=by
 simp only[ω.isSome_none,VW,Uh,MZ.UW];refine d_ (VQ (d_ (wpAny_layCells _ (λnm l r=>by cases z:l==QE.OA<;>simp[z]) _ _ _ _ ?_)));rw[S.lay,S.Nh];let i:(s.π.Nh {OO:=.MO "frame",NL:=.Pz #[]}).Nr.MX=s⁻¹+1:=Op ..;let k1:∀b o,s.π.ψ b<*o->((s.π.Nh {OO:=.MO "frame",NL:=.Pz #[]}).Nh {OO:=.MO "cell",NL:=.OA ε}).ψ b<*o:=λb o e=>sy _ (sy _ e);let g:((s.π.Nh {OO:=.MO "frame",NL:=.Pz #[]}).Nh {OO:=.MO "cell",NL:=.OA ε}).Tf (s⁻¹+1) ε:=(_,by rw[<-i];show MV _ ζ,1);let f:((s.π.Nh {OO:=.MO "frame",NL:=.Pz #[]}).Nh {OO:=.MO "cell",NL:=.OA ε}).Ns s⁻¹ (λ_=>ε):=(NR.Ns.X0 s.π (.MO "frame")).Oq λb o e=>sy _ e;dsimp only;rw[i];generalize (s.π.Nh {OO:=.MO "frame",NL:=.Pz #[]}).Nh {OO:=.MO "cell",NL:=.OA ε}=p at k1 g f⊢;refine d_ ?_;rw[Qi];let lk:((x,s⁻¹+1,)::d).ρ x<*(s⁻¹+1):=by rw[OL];simp
 refine d_ (d_ (Zx (c:=s⁻¹+1) (v₀:=ε) S.RT S.YN lk g λh' m h=>j' ?_));dsimp only;rw[ST];refine j' (j' ?_);let k:∀{b:υ}{o:Rp},s.π.ψ b<*o->b≠s⁻¹+1:=λe=>M_ (QJ (lt_size e));show n h' _ (f.Wb h (M_ (OC _))) m λb o e=>h.S6 b o (k e) (k1 b o e)
abbrev jN(CX:CXT)(P:NE)(w:N1)(K:Nn)(mg:NB->ω θ)(ς:NR)(N:γ NB)(x:NB)(M6:NB)(NG:RZ)(f:υ)(cd:θ)(OW:γ (NB×υ))(A:N2)(Fr:γ WH)(s:MJ)(H:Hp)(E:XK):Cx:=bB CX P w K mg ς N M6 NG f cd ((x,s⁻¹+1,)::OW) A Fr s H E
section
variable{CX:CXT}{P:Program}{w:World}{K:Frag}{mg:Str->Option Value}{base:Heap}{N fr:List Str}{x:Str}{qual:Str}{scope:Scope}{f:Addr}{cd:Value}{clos:List (Str×Addr)}{A:Around}{outer:List Env}{s:Shared}{H:Hp}{E:XK}{u:Value}{v:V}{fvs:List V}
def lO(S:Jo N x fr NG)(C:A2 ς OW NG fr UY)(M:A.PR=ε)(g:bx P w K mg ς A Fr s H)(r:ae v u)(J:h'.Ns s⁻¹ (λ_=>ε))(j:h'.Tf (s⁻¹+1) (δ u))(L:∀b o,s.π.ψ b<*o->h'.ψ b<*o):f' (jN CX P w K mg ς N x M6 NG f cd OW A Fr s H E) [] (DA N [v] UY) H {s with π:=h',MW:=tk}:=by
 let l:∀b:υ,b∉(jN CX P w K mg ς N x M6 NG f cd OW A Fr s H E).ex:=λb z=>MM (show b∈([]:γ υ)from z) (!1);let k:∀c v,ς.Tf c v->h'.Tf c v:=λc v O=>by let⟨o,B,M⟩:=O;show(o,L c o (g.bs c o B).1,M)
 let d:∀y c,OW.ρ y<*c->c<s⁻¹:=λy c h=>by
  let⟨v,o,B,_⟩:=C.OA y c h;show lt_size (g.bs c o B).1
 let Q:=S.fit;let Y:=C.PQ;let t:((x,s⁻¹+1,)::OW).ρ x<*(s⁻¹+1):=by rw[OL];simp
 let lk:∀{y c},((x,s⁻¹+1,)::OW).ρ y<*c->(y=x/\c=s⁻¹+1)\/OW.ρ y<*c:=λ{y c}h=>by
  rw[OL]at h;by_cases z:y=x
  .subst z;simp at h;show .NJ (1,h.MQ)
  .rw [show(y==x)=η by simpa using z]at h;show .NU h
 let D:∀{y c},OW.ρ y<*c->∃c',((x,s⁻¹+1,)::OW).ρ y<*c':=λ{y c}h=>by
  rw[OL];cases(y==x)with
  |ξ=>show(_,ζ)
  |η=>show(c,h)
 refine((g.VX,S.RT,5,LE _,λy z c h1 h2=>?_,λy m=>?_,λy c h=>MM (show η=ξ from h) MZ.M',λ_=>M,N2.Yv g.Qc,.NU (1,1),λb z=>MM z (l b),g.bs,g.bsz,λb _ _=>l b,λb z=>MM z (l b),g.Vc,g.frf),
  rfl,g.R5,Un.SW L,(_,J,λi y R h1 h2 h3=>?_),λy c h=>?_,g.Og.OG (LE _),λy c h=>?_,λp hp=>MM (show p∈([]:γ (υ×Rp))from hp) (!1),g.Og.SW L,3)
 .rcases lk h1 with⟨a1,a2⟩|a<;>rcases lk h2 with⟨b1,b2⟩|b
  .rw [a1,b1]
  .let q:=d _ _ b;rw[a2]at q;show MM q (Φ.not_lt_of_le (SF _))
  .let q:=d _ _ a;rw[b2]at q;show MM q (Φ.not_lt_of_le (SF _))
  .exact C.QK y z c a b
 .let m:NG.MR.ρ y<*.OA\/NG.MR.ρ y<*.N6:=m;rcases m with m|m
  .obtain ζ:y=x:=S.only _ (Δ.OY m) ζ;show(_,t)
  .obtain ⟨c,hc⟩:=C.UU _ (Δ.OY m) ζ;show D hc
 .let h1:N[i]?<*y:=h1;let hi:i<N.β:=(q5 h1).1;unfold DA at h2;by_cases X:i<1
  .obtain ζ:i=0:=by lia
   let e:v=R:=by simpa using h2
   subst e;let W:N[0]?<*x:=by
    let q:(N.OE 1)[0]?<*x:=by rw[S.pre];rfl
    rw[γ.V3 (!0)]at q;show q
   rw[W]at h1;cases h1;show(u,r,.NU (.NJ S.YN,_,t,j))
  .rw [MY (by simp;lia)]at h2;rw[ol,γ.W_]at h2;by_cases n:i-1<N.β-1-UY.β
   .rw [M0 (by simpa using n),γ.T6,Id n]at h2;cases h2
   .rw [MY (by simpa using n),PN,tS]at h2;let ej:i-1-(N.β-1-UY.β)=i-(N.β-fr.β):=by lia
    rw[ej]at h2;cases e:UY[i-(N.β-fr.β)]? with
    |ε=>rw[e]at h2;cases h2
    |δ a=>
     rw[e]at h2;cases h2;let Z:fr[i-(N.β-fr.β)]?<*y:=by
      let q:(N.Py (N.β-fr.β))[i-(N.β-fr.β)]?<*y:=by
       rw[γ.V',show N.β-fr.β+(i-(N.β-fr.β))=i by omega];show h1
      rw[S.suf]at q;show q
     let⟨k1,c,T,k2,k3,U⟩:=C.Zz _ _ _ Z e;let I:y≠x:=λz=>by rw[z,S.YN]at k1;cases k1
     let F:((x,s⁻¹+1,)::OW).ρ y<*c:=by rw[OL,show(y==x)=η by simpa using I];show k2
     show(T,U,.NU (.NU k1,c,F,k c _ k3))
 .rcases lk h with⟨_,z⟩|z
  .rw [z];show(_,j)
  .obtain ⟨v,q⟩:=C.OA y c z;show(v,k c v q)
 .rcases lk h with⟨_,z⟩|z
  .rw [z];show g.Og.OG (SF _)
  .obtain ⟨v,o,B,_⟩:=C.OA y c z;show(g.bs c o B).2
 .unfold DA;change _=N.β;simp only[w_,ol,PN,γ.W_];omega
def GQ(ho:ς.ψ f<*o)(hd:o.NL=.Qb (Δ.W.fnX OH M6 d g NG OW .ε .ε Pm pm ε (.ο j) O))(M:ς.N_ (.ο j) M6)(S:Jo N x fr NG)(C:A2 ς OW NG fr UY)(PQ:∀vs H Q E,R vs H Q E->vs.β=[x].β)(i:∀(A:N2)(Fr:γ WH)(s:MJ)(H:Hp)(v:V)(Q:VK)(E:XK),ak k (A.RH (envX M6 NG s⁻¹ f (.ο j) ((x,s⁻¹+1,)::OW)))->R [v] H Q E->
   ∃t,BA (jN pu P w K mg ς N x M6 NG f (.ο j) OW A Fr s H E).nox g t/\t {nx:=λ_ H'=>Q .Rv H',rt:=Q} (DA N [v] UY) H):aa P w K mg ς pu (k+1) f (Δ.W.fnX OH M6 d g NG OW .ε .ε Pm pm ε (.ο j) O) [x] R:=by
 refine(PQ,λA Fr s H U us vs Q E F z hb r m=>?_);let hl:=PQ _ _ _ _ m;obtain⟨v,ζ⟩:∃v,vs=[v]:=by
  match vs,hl with
  |[v],_=>show(v,1)
 let⟨u,ζ,Y⟩:=Dr r;let D:s.π.X7:=z.VX.Wf.Oq λb o e=>(z.bs b o e).1;let p:s.π.N_ (.ο j) M6:=by
  let⟨c,T,ws,t,e1,e2,e3,e4⟩:=M;show(c,T,ws,t,e1,(z.bs c T e2).1,e3,e4)
 refine So F.Wo (z.bs f o ho).1 hd S.co S.gen ζ p (hb _ _ _ _ ?_);refine FV S λh' X L h n=>?_;refine(D.Oq n,Wp ?_);let⟨t,Z,hq⟩:=i A Fr s H v Q E (F.RH _) m;let I:f' (jN pu P w K mg ς N x M6 NG f (.ο j) OW A Fr s H E) [] (DA N [v] UY) H {s with π:=h',MW:=X}:=lO S C F.hd z Y L h n;refine NI (Z.nox [] _ (DA N [v] UY) H _ I hq) (λfl s' l=>?_) λe s' l=>l;let y:∀{a:St}{H':Hp}{v:V}{u:θ},f' (jN pu P w K mg ς N x M6 NG f (.ο j) OW A Fr s H E) [] a H' s'->ae v u->Q v H'->CE Fr P w H s Q u s':=
  λ{a H' v u}J B q=>(v,H',J.os,J.R5,J.ς,J.Og,B,q)
 cases fl with
 |UX u=>
  let⟨v,a,H',J,B,q⟩:=l;show y J B q
 |next=>
  let⟨a,H',J,q⟩:=l;show y (v:=V.Rv) (u:=θ.ε) J ζ q
 |Yk=>
  let⟨_,_,_,q⟩:=l;show NX.Nx q
 |UC=>
  let⟨_,_,_,q⟩:=l;show NX.Nx q
end
instance vBM:γ θ:=[.MO "ValueError",.MO "Exception",.MO "BaseException",.MO "object"]
instance Ab(C:υ)(dd:ω υ)(a0:θ):Rp:={OO:=.ο C,Pz:=dd,NL:=.OB #[a0,.ε,.ε,.ε,.Ph η,.ε]}
section
variable{P:Program}{w:World}{A:Around}{E:Value->Shared->Prop}{h:Heap}{g:Array GenState}{d:Drawn}{t:Nat}{os:OsState}
variable{nm q:Str}{C N:Addr}{bs bm:List Value}{hdct:Bool}{sn:List Str}{sub:List Value}{ab:Bool}{col:Option Bool}{dd:Option Addr}{k0 k1 k2 k3 k5:Option Value}
def sC(i:Zo h vBM bm)(f:h.ψ C<*Ri nm q C N bs bm UT sn Rr ab VJ dd k0 k1 k2 k3 k5 "ValueError.__new__")(p:h.Ns N mN)(s:mN "__init__"<*.ο fI)(D:h.ψ fI<*n)(B:n.OO=.MO "function")(u:us.β≤Λ)(y:∀h' e,h.Nr.MX≤e->NR.ZE h h' e (.ο C) us->Ω (Cl P w) A (Qk (.ο fI) (.ο e::us)) (λr s'=>r=.ε/\Q (.done (.UX (.ο e))) s') E (h',g,d,t,os)):Ω (Cl P w) A (Builtin.«type.__call__» (.ο C::us,[])) Q E (h,g,d,t,os):=by
 let a:=RF;let l:vBM.M9 (.MO "ValueError")=ξ:=ζ;repeat (first|with_reducible refine Qe f ?_|with_reducible refine wpAny_madeBy_exc f ?_|wp_step)
 refine codeAny_call_builtin_code (Xv.Yp _ a.Y3) (wpAny_check_new_subU a l i f ?_);refine codeAny_exc_new_subU a l a i f ?_ u;change Ω _ _ _ _ _ _;let c:∀b o,h.ψ b<*o->((h.Nh {OO:=.MO "tuple",NL:=.Sz us.χ}).Nh (Ab C ε (.ο h.Nr.MX))).ψ b<*o:=λb o z=>sy _ (sy _ z);let c1:=c _ _ f;let F:=c _ _ D;let n1:((h.Nh {OO:=.MO "tuple",NL:=.Sz us.χ}).Nh (Ab C ε (.ο h.Nr.MX))).Ns N mN:=let⟨o,H,I,z,r⟩:=p;(o,H,I,c _ _ z,r);let k:((h.Nh {OO:=.MO "tuple",NL:=.Sz us.χ}).Nh (Ab C ε (.ο h.Nr.MX))).ψ (h.Nr.MX+1)<*Ab C ε (.ο h.Nr.MX):=by heap_get
 let j:(θ.ο C::bm).M9 (.ο C)=ξ:=by simp
 let m:=i.Oq (h':=(h.Nh {OO:=.MO "tuple",NL:=.Sz us.χ}).Nh (Ab C ε (.ο h.Nr.MX))) c;unfold YU;repeat (first|with_reducible refine Qe k ?_|(with_reducible refine Vv c1 ?_;rw[j])|wp_step)
 change Ω _ _ (YF (.ο C) _) _ _ _;refine wpAny_typeLookup_tail c1 n1 m a.mroIs a.init.ρ ?_;rw[s];refine NT (d_ ?_);unfold bindSpecial;refine d_ (WX (T:="function") (_,F,B) ?_);rw[Id (!0)];refine j' (d_ (NI (y _ (h.Nr.MX+1) (SF _) (c,NR.VD (SF _),h.Nr.MX,k,NR.VD (LE _),3)) (λr s' v=>?_) λ_ _ z=>z))
 .exact sy _ (NR.get?_push_at ζ ζ)
 .obtain ⟨rfl,x⟩:=v
  wp_walk
  show x
def jE(c:Zo h vBM bm)(a:h.ψ C<*Ri nm q C N bs bm UT sn Rr ab VJ dd k0 k1 k2 k3 k5 "ValueError.__new__")(i:h.Ns N mN)(k:mN "__init__"<*.ο fI)(o:h.ψ fI<*f)(n:f.OO=.MO "function")(l:us.β≤Λ)(m:∀h' e,h.Nr.MX≤e->NR.ZE h h' e (.ο C) us->Ω (Cl P w) (A.XU (.Nk "type.__call__" (.ο C::us,[]))) (Qk (.ο fI) (.ο e::us)) (λr s'=>r=.ε/\Q (.ο e) s') E (h',g,d,t,os)):Ω (Cl P w) A (Qk (.ο C) us) Q E (h,g,d,t,os):=by
 let s:=tc_lookup;let p:=tc_bind (.ο C);let b:((h,g,d,t,os):MJ).Se (.ο C) "type":=(_,a,1);refine QS (Xs ?_);change Ω _ _ (callAny (.ο C) _) _ _ _;repeat (any_goals (first|assumption|with_reducible refine Qe a ?_|wp_step))
 refine(1,3);refine codeAny_call_builtin_at (Xv.Yp _ (!3)) entry_typeCall (wpAny_check_type_call_sub a (sC c a i k o n l λh' e j mk=>?_));show m h' e j mk
def pL(f:Zo h vBM bm)(l:h.ψ C<*Ri nm q C N bs bm UT sn Rr ab VJ dd k0 k1 k2 k3 k5 "ValueError.__new__")(a:h.ψ e<*Ab C ε (.ο m))(k:∀h',(∀b o,b≠e->h.ψ b<*o->h'.ψ b<*o)->h'.ψ e<*Ab C ε (.ο h.Nr.MX)->Q .ε (h',g,d,t,os)):Ω (Cl P w) A (Qk (.Nk "ValueError.__init__") [.ο e,u]) Q E (h,g,d,t,os):=by
 let c:=RF;let i:e≠h.Nr.MX:=M_ (lt_size a);refine QS (Rl c.init.plain c.initEntry (wpAny_check_init_subU c f l a ζ ?_))
 wp_walk
 refine k _ (λb o j z=>?_) ?_
 .rw [OZ _ _ (Ne.MQ j)];show sy _ z
 .rw [N3 _ (sy _ a) ζ];rfl
def kU(a:bm.M9 (.MO "BaseException")=ξ)(i:A.PR=ε)(k:Ω M A x (λv b=>∃e d2 a0,v=.ο e/\b.π.ψ C=δ (Ri nm q C N bs bm UT sn Rr ab VJ dd k0 k1 k2 k3 k5 "ValueError.__new__")/\b.π.ψ e=δ (Ab C d2 a0)/\E (.ο e) b) E s):Ω M A (Y2 KK (δ x) ε) Q E s:=by
 let c:(θ.ο C::bm).M9 (.MO "BaseException")=ξ:=by rw[γ.WB,a,MZ.or_true]
 unfold Y2;refine d_ (NI k (λv b h1=>?_) λ_ _ z=>z);let⟨e,d2,a0,ζ,f,l,j⟩:=h1;let⟨hp,g,d,m,os⟩:=b;repeat (first|with_reducible refine Qe l ?_|with_reducible refine Qe f ?_|(with_reducible refine Vv f ?_;rw[c])|wp_step)
 show wpAny_raiseNew_none i j
end
abbrev BW(K:Nn)(C f:υ):Prop:=(match K.ρ C with
 | δ ⟨.MO "type",_,.OO c,z⟩=>(match c.mro,z.NF with
  |.ο D::r,[_,_,_,_,δ (.Nk m),_]=>D==C&&m=="ValueError.__new__"&&!c.hasDel&&Δ.W.tailIn K vBM r&&Δ.W.nsOkIn K c.ns&&Pp K c.ns "__init__"==δ (δ (.ο f))
  | _,_=>η)
 | _=>η)=ξ
def uz{K:Nn}(X:K.In h)(G:h.Ns N m)(e:Pp K N n<*δ v):m n<*v:=by
 let⟨o,f,g,a,d,_,b⟩:=G;unfold Pp at e;split at e
 .rename_i q;let z:=X _ _ q;rw[a]at z;cases z;cases d;split at e
  .rename_i c;rw[<-b];unfold nsFind findBy;rw[<-Nt.find?_toList,c];injection e
  .split at e<;>cases e
 .cases e
def BW.Uf{K:Nn}(q:BW K C f)(X:K.In h):∃bm N nm k bs UT sn Rr ab VJ dd k0 k1 k2 k3 k5 mN,h.ψ C=δ (Ri nm k C N bs bm UT sn Rr ab VJ dd k0 k1 k2 k3 k5 "ValueError.__new__")/\h.Ns N mN/\mN "__init__"=δ (.ο f)/\Zo h vBM bm:=by
 unfold BW at q;split at q;case h_2=>cases q
 case h_1 p dd o j a=>
  split at q;case h_2=>cases q
  case h_1 D bm k0 k1 k2 k3 mk k5 n m=>
   let⟨q,e⟩:=Oh.mp q;let⟨q,c⟩:=Oh.mp q;let⟨q,i⟩:=Oh.mp q;let⟨q,b⟩:=Oh.mp q;let⟨g,d⟩:=Oh.mp q;cases Oy.mp g;cases Oy.mp d;let⟨l⟩:=j;cases m;cases o;cases n;cases RC _▸b;let G:h.Ns _ _:=.of_isNs (Δ.W.isNs_of_in X c);show(bm,7,7,7,7,_,dd,k0,k1,k2,k3,k5,_,X _ _ a,G,uz X G (Oy.mp e),Δ.W.tail_of_in X i)
abbrev Hs:γ θ->MZ
 |.ο _::r=>Hs r
 |[.MO a,.MO b,.MO c,.MO d]=>a=="ValueError"&&b=="Exception"&&c=="BaseException"&&d=="object"
 |_=>η
def eL:∀{l:γ θ},Hs l=ξ->(∀f,refuseLoop f "__setattr__" l=pure ())/\l.M9 (.MO "object")=ξ/\l.SG=η
 |.ο c::r,e=>by
  let⟨h1,h2,_⟩:=eL (l:=r) (by rw[Hs]at e;show e);show(λf=>(refuseLoop_ref f _ c r).ν (h1 f),by rw[γ.WB,h2,MZ.or_true],1)
 |[.MO a,.MO b,.MO c,.MO d],e=>by
  simp only[Hs,Oz,Oy]at e;let⟨⟨⟨rfl,ζ⟩,ζ⟩,ζ⟩:=e;show(λf=>Δ.F.store_ValueError.passes f,!0,1)
def m3{Ξ:NE}{w:N1}{A:N2}{K:Nn}(X:K.In s.π)(I:Δ.W.InstAt s.π x t C u)(hp:(Δ.W.clsIn K C).Ql (λi=>Hs i.mro)=ξ)(m:Xw K C OH<*ε)(h:∀b,Ω (Cl Ξ w) A.S5 (Builtin.ObjectAttr.storeInOwnDict (.ο x) (.ο C) (.NA OH d) OH v b) (λg s'=>match g with|.done f=>R (.ok f) s'|.again k=>k.Y3=ξ/\Qh (Cl Ξ w) A k R s') (λe s'=>R (.SA e) s') s):Qh (Cl Ξ w) A (.Qk (.Nk "object.__setattr__") ([.ο x,.NA OH d,v],[])) R s:=by
 let⟨i,j,o⟩:=any_some hp;let⟨c,UU,l⟩:=eL o;let Rr:Ws (Cl Ξ w) s.π (YU (.ο x) (.MO "object")) ξ:=I.MO.X4 (Δ.W.looks_mroIn X (by unfold Δ.W.mroIn;rw[j,ω.bind_some,BT (by rw[l];decide),UU]));let⟨attr,q,n⟩:=ω.Uk.mp m;let r:Ws (Cl Ξ w) s.π (Builtin.ObjectAttr.storeTaker? attr) ε:=by
  cases attr with
  |ε=>show .now
  |δ a=>
   let⟨b,p,e⟩:=BG n;cases b
   .exact (Δ.W.looks_takesIn X p).X4 .now
   .cases e
 refine Rl Us.Ud.plain Us.entry (@Δ.W.check_slot (Cl Ξ w) _ _ s "object.__setattr__" "object" "__setattr__" (.ο x) [.NA OH d,v] [] _ Us.RT Us.split Rr (Us.args (.ο x) (.NA OH d) v) ?_);rw[Δ.W.osa_eq,refuse_eq];refine d_ (d_ (I.MO.here (d_ (((XX X j).X4 .now:Ws (Cl Ξ w) s.π (mroOf (.ο C)) i.mro).here ?_))));rw[c];show j' (d_ (I.MO.here (d_ ((Δ.W.Ux X q).here (d_ (r.here (h _)))))))
structure j0(K:Frag)(C:Addr):Prop where
 sa:PySem.W.findIn K (.ref C) "__setattr__"<*some (.builtin "object.__setattr__")
 po:(PySem.W.clsIn K C).any (λcd=>Hs cd.mro)=true
 hd:PySem.W.hasDictIn K C=true
structure tL(K:Frag)(R:Addr):Prop where
 ga:PySem.W.specialIn K (.ref R) "__getattribute__"<*some (.builtin "type.__getattribute__")
 rd:PySem.W.readsIn K R (.type "type")=true
 fc:PySem.W.findCls K (.ref R) (.type "type") "__init__"<*.val (.builtin "ValueError.__init__")
section
variable{prog:Program}{w:World}{A:Around}{E:Value->Shared->Prop}{s:Shared}{K:Frag}{x C dx:Addr}{a0:Value}{name:Str}{v:Value}{mA:Str->Option Value}
def qu(X:K.In s.π)(h:s.π.ψ x<*Ab C ε a0)(c:j0 K C)(u:Xw K C OH<*ε)(H:∀h' d,s⁻¹≤d->h'.ψ x<*Ab C (δ d) a0->h'.Ns1 d (λy=>if y=OH then δ v else ε)->(∀b o,b≠x->s.π.ψ b<*o->h'.ψ b<*o)->Q () {s with π:=h',MW:=s.MW+2}):Ω (Cl Ξ w) A (Xz (.ο x) OH v) Q E s:=by
 let J:Δ.W.InstAt s.π x (Ab C ε a0) C ε:=(h,5,trivial);refine set_plain X J c.sa (m3 (s:={s with MW:=s.MW+1}) X J c.po u λb=>?_);let⟨I,D,k⟩:=any_some c.hd;refine d_ (j' (d_ (d_ (YD h (d_ (Ws.here (s:={s with MW:=s.MW+1}) (XX X D) ?_))))));rw[k];let n:(s.π.Nh {OO:=.MO "dict",NL:=.Pz #[]}).ψ x<*Ab C ε a0:=sy _ h;let f:x≠s⁻¹:=M_ (lt_size h);refine d_ (wpAny_alloc' (d_ (wpAny_update' n (j' (d_ ?_)))));let j:((s.π.Nh {OO:=.MO "dict",NL:=.Pz #[]}).O4 x λo=>{o with Pz:=δ s⁻¹}).ψ s⁻¹<*{OO:=.MO "dict",NL:=.Pz #[]}:=
  (NR.get?_update_ne _ _ _ _ f.MQ).ν (NR.get?_push_at ζ ζ)
 let i:((s.π.Nh {OO:=.MO "dict",NL:=.Pz #[]}).O4 x λo=>{o with Pz:=δ s⁻¹}).Ns s⁻¹ (λ_=>ε):=(_,#[],_,j,1,λe B=>MM B (!1),λ_=>rfl);refine j' (d_ (ZK (NR.Ns1.of_empty i) λh' g m=>?_));let l:=g.Xd (WR.NZ OH v WR.Ow);let⟨t,_,_,r,q,p⟩:=l;let a:t.NL.pastItsLine=ε:=q▸W6 (IO p (by rw[OQ];change 1≤_;lia));refine d_ (Ww r a ?_);refine j' (H _ _ (LE _) ?_ g λb o F z=>?_)
 .exact (m.2 x f).ν (N3 _ n ζ)
 .exact (m.2 b (M_ (lt_size z))).ν ((NR.get?_update_ne _ _ _ _ F).ν (sy _ z))
def qt(X:K.In s.π)(i:s.π.ψ x<*Ab C (δ dx) a0)(h:s.π.Ns1 dx mA)(c:j0 K C)(n:Xw K C OH<*ε)(hw:Δ.WR mA ns)(V_:ns.β≤Λ)(q:∀h',h'.Ns1 dx (λy=>if y=OH then δ v else mA y)->Pg dx s.π h'->Q () {s with π:=h',MW:=s.MW+2}):Ω (Cl Ξ w) A (Xz (.ο x) OH v) Q E s:=by
 let⟨m,o,t⟩:=JL h;let J:Δ.W.InstAt s.π x (Ab C (δ dx) a0) C (δ m):=(i,5,o);refine set_plain X J c.sa (m3 (s:={s with MW:=s.MW+1}) X J c.po n λb=>?_);let⟨u,p,f⟩:=any_some c.hd;refine d_ (j' (d_ (d_ (YD i (d_ (Ws.here (s:={s with MW:=s.MW+1}) (XX X p) ?_))))));rw[f];refine j' (a:=δ dx) (d_ (j' (d_ ?_)));refine ZK (s:={s with MW:=s.MW+1}) h λh' d e=>?_;let g:=d.Xd (Δ.WR.NZ OH v hw);let⟨r,_,_,l,k,j⟩:=g;refine d_ (Ww l (k▸W6 (IO j (by rw[NW];lia))) ?_);show j' (q _ d e)
end
abbrev t_(e C:υ)(dd:ω υ):HO:=.ext λh=>∃t0:υ,h.ψ e<*Ab C dd (.ο t0)
abbrev Bb(dx:υ)(fs:γ (NB×V)):HO:=.ext λh=>∃mA,h.Ns1 dx mA/\(∀f,au (fs.ρ f) (mA f))/\Δ.WR mA (fs.NN (·.1))
abbrev BX(H:Hp)(e:υ):Hp:=λb=>if b=e then ε else H b
def Ei(h:b≠e):BX H e b=H b:=BT h
def Jp:BX H e e=ε:=Id ζ
section
variable{X:Cx}{pins:List (Addr×Obj)}{σ:St}{H:Hp}{s:Shared}{a C dx:Addr}{fs:List (Str×V)}{f:Str}{y:V}{u:Value}{A:Around}{E:Value->Shared->Prop}
def yw(N:X.ex=[])(I:f' X M1 σ H s)(e:H a<*t_ a C ε)(c:j0 X.K C)(n:Ah X.K C f)(L:ae y u)(P:∀d s',H d=ε->d≠a->f' X M1 σ (MT (MT H a (t_ a C (δ d))) d (Bb d [(f,y,)])) s'->Q () s'):Ω (Cl X.Ξ X.w) A (Xz (.ο a) f u) Q E s:=by
 let⟨⟨a0,R⟩,_,_⟩:=I.Og a _ e;refine qu I.Tb R c n.taker λh' d D i ns j=>?_;let F:s.π.ψ d=ε:=NR.VD D;let l:H d=ε:=I.Og.OG D;let J:d≠a:=(e_ e l).MQ;let S:=I.WW (x:=a) (e:=a) (o:=t_ a C (δ d)) (h':=h') (t':=s.MW+2) (by rw[e];show Os.Of) (.NJ ζ) j (_,i) ((a0,i),(_,i),λh1 h2 B k=>by let⟨z,q⟩:=B;show(z,k _ q));let h:∀b o,s.π.ψ b<*o->b≠d:=λb o q z=>by rw[z,F]at q;cases q
 refine P d _ l J (S.track (e:=d) (by rw[a_ J];show l) (AH I N F) ?_ (λx c q=>?_) (λp hp=>?_) (_,ns,λg=>?_,λg O=>?_) ?_ ?_)
 .obtain ⟨m,⟨o,T,U,z,_⟩,_⟩:=I.X1;show h _ o z
 .obtain ⟨v,o,r,_⟩:=I.OA x c q;show h c o r
 .exact h p.1 p.2 (I.Y4 p hp).1
 .change au (γ.ρ g [(f,y,)]) (if g=f then δ u else ε);by_cases q:g=f
  .let t:(g==f)=ξ:=Oy.Ot q;rw[Id q];simp only[γ.ρ,t];show L
  .let t:(g==f)=η:=ND.Ot q;rw[BT q];simp only[γ.ρ,t];show Os.Of
 .by_cases q:g=f
  .rw [q];show R_.Ot ζ
  .exact MM (show(if g=f then δ u else ε)=ε by rw[BT q]) O
 .obtain ⟨o,_,_,z,_⟩:=ns;show(o,z)
 .exact λh1 h2⟨M,z,r⟩k=>(M,z.at k,r)
def yu(I:f' X M1 σ H s)(e:H a<*t_ a C (δ dx))(l:H dx<*Bb dx fs)(c:j0 X.K C)(n:Ah X.K C f)(J:fs.β<1000)(p:ae y u)(D:∀s',f' X M1 σ (MT H dx (Bb dx (af f y fs))) s'->Q () s'):Ω (Cl X.Ξ X.w) A (Xz (.ο a) f u) Q E s:=by
 let⟨⟨a0,F⟩,_,_⟩:=I.Og a _ e;let⟨⟨d,t,r,i⟩,_,_⟩:=I.Og dx _ l;let hz:(fs.NN (·.1)).β≤Λ:=by rw[ol,OQ];omega
 refine qt I.Tb F t c n.taker i hz λh' ns m=>D _ ?_;let j:∃o,h'.ψ dx<*o:=let⟨o,_,_,z,_⟩:=ns;(o,z);refine I.WW (x:=dx) (e:=dx) (by rw[l];show Os.Of) (.NJ ζ) (λb q B z=>(m.2 b B).ν z) j ((_,ns,λg=>?_,λg v=>?_),j,λh1 h2 h k=>by let⟨d,z,r⟩:=h;show(d,z.at k,r))
 .change au ((af f y fs).ρ g) (if g=f then δ u else d g);rw[Co];by_cases q:g=f
  .rw [Id q,Id q];show p
  .rw [BT q,BT q];show r g
 .by_cases q:g=f
  .rw [q];show(HP f y fs).1
  .refine (HP f y fs).2 g (i g λz=>v ?_);change (if g=f then δ u else d g)=ε;rw[BT q];show z
end
inductive wJ(K:Frag)(f:Str)(D:Ends)(σ:St)(y:V)(x:V)(H2:Hp):Prop
 | mk (a C:_) (_:x=.ref a) (_:j0 K C) (_:Ah K C f) (_:((H2 a=some (t_ a C none)/\∀d,H2 d=none->d≠a->D.nx σ (upd (upd H2 a (t_ a C (some d))) d (Bb d [(f,y,)]))) \/
  ∃dx fs,H2 a=some (t_ a C (some dx))/\H2 dx=some (Bb dx fs)/\fs.length<1000/\D.nx σ (upd H2 dx (Bb dx (af f y fs)))))
abbrev yF(K:Nn)(ta tv:TE)(f:NB):TS:=λD σ H=>tv σ H λy H1=>ta σ H1 (wJ K f D σ y)
def gy(E:X.ex=[])(M:PE X o ta)(F:PE X b tv)(J:Sw b (δ (.O3 o f i)) Nj.SZ X.KK=pure η):PS X (.WS [.O3 o f i] b Nj) (yF X.K ta tv f):=by
 intro g s j H D I h;refine Wv (ri (F g s j H _ I h) λu z⟨y,R,Q,t,q⟩=>ri (M g z j R _ Q q) λB s2 k=>?_) J;let⟨x,S,v,A,a,C,N,c,n,r⟩:=k;subst N;obtain ζ:B=θ.ο a:=A;rcases r with⟨e,m⟩|⟨dx,fs,e,O,l,m⟩
 .exact yw E v e c n t λd w L P p=>(j,_,p,m d L P)
 .exact yu v e O c n l t λw p=>(j,_,p,m)
inductive tU(K:Frag)(Q:VK)(vs:List V)(H1:Hp):Prop
 |mk (e C f u:_) (_:vs=[.ref e,u]) (_:H1 e<*t_ e C none) (_:BW K C f) (_:Q .non H1)
abbrev wA(K:Nn)(t:TA):TE:=λσ H Q=>t σ H (tU K Q)
def qS{p a Nj:Sh}{pl:ZD MZ}(B:tL X.K R)(Z:X.mg x<*.ο R)(ha:PA X (e::c) t)(hg:Gl X x>>>4)(hd:((x==("__debug__":NB))=η)>>>0)(he:(Θ (e::c) X.KK=(η,OM e X.KK,)::Θ c X.KK)>>>4)(v:((OF Nj (Θ c X.KK)).Ql (·.1)=η)>>>4)(Y:(OM (.QG (.O3 (.N0 x p) "__init__" a) (e::c) [] Nj) X.KK=(do
   let F <-OM (.N0 x p) X.KK
   standAt a.atName
   let(f,first,) <-holding [F] (XB F "__init__" pl)
   Yc Nj f first (OF Nj (Θ (e::c) X.KK)) (Vi Nj (TQ [] X.KK))))>>>4):PE X (.QG (.O3 (.N0 x p) "__init__" a) (e::c) [] Nj) (wA X.K t):=by
 intro l s M H Q I h;refine Δ.W.Yr (pl:=pl) (v_ I hg Z ?_ hd) Y;refine Δ.W.method_cls I.Tb B.ga (Δ.W.cls_value I.Tb B.rd B.fc ζ ?_);let J:=ha Nj l {s with MW:=s.MW+1} M H _ (I.Tw _) h;rw[he]at J⊢;let n:(OF Nj ((η,OM e X.KK,)::Θ c X.KK)).Ql (·.1)=η:=by
  change (η||(OF Nj (Θ c X.KK)).Ql (·.1))=η;rw[v];rfl
 refine SB.Uj n (SB.Sb (ri J λus s2 w=>?_));let⟨vs,E,D,r,j,C,f,u,ev,A,U,q⟩:=w;subst ev;let⟨O,u2,ζ,T,ru⟩:=bz r;obtain ζ:O=θ.ο j:=T;let⟨⟨a0,eO⟩,_,_⟩:=D.Og j _ A;let⟨bm,N,nm,qn,bs,UT,sn,Rr,ab,VJ,dd,k0,k1,k2,k3,k5,mN,cO,nO,iO,P⟩:=U.Uf D.Tb;let⟨hh,g,d,S,os⟩:=s2;refine pL P cO eO λh' m i=>(.Rv,E,3,1,q);let L:=D.WW (x:=j) (e:=j) (o:=t_ j C ε) (h':=h') (t':=S) (by rw[A];show Os.Of) (.NJ ζ) m (_,i) ((_,i),(_,i),λh1 h2 y k=>by let⟨z,q⟩:=y;show(z,k _ q));let eu:MT E j (t_ j C ε)=E:=by
  funext b;unfold MT;split
  .rename_i z;rw[z,A]
  .rfl
 rw[eu]at L;show L
section
variable{X:Cx}{CX:CXT}{k:Nat}{f C:Addr}{fd:FuncData}{ps:List Str}{sp:Sp}{E E':XK}{x:Str}{np cpos pos:Pos}{e0:Expr}{es:List Expr}{t:TA}
def ud{j:St}{Q:VK}(T:X.ex=[])(M:BW X.K C f)(fn:isFn X.K (.ο f)=ξ)(F:aa X.Ξ X.w X.K X.mg X.ς CX k f fd ps sp)(W:ak (k+1) X.A)(Z:Ao X.K fd ps [])(hp:Eu CX X E')(I:f' X b j H s)(r:ad vs us)(U:us.β≤Λ)(h:∀e,H e=ε->sp (.ο e::vs) (MT H e (t_ e C ε)) (λv H2=>v=.Rv/\Q (.ο e) H2) E'):Ω (Cl X.Ξ X.w) X.A (Qk (.ο C) us) (λu s'=>∃e H',u=.ο e/\X.RN.π.ψ e=ε/\f' X b j H' s'/\Q (.ο e) H') X.xe s:=by
 let⟨bm,N,nm,qn,bs,UT,sn,Rr,ab,VJ,dd,k0,k1,k2,k3,k5,mN,cO,R,S,L⟩:=M.Uf I.Tb;obtain⟨n,fO,fc⟩:∃n,s.π.ψ f=δ n/\n.OO=.MO "function":=by
  let⟨o,q,e⟩:=BG (show ω.NN (λx:Rp=>x.OO) (γ.ρ f X.K)<*.MO "function"from Oy.mp fn);show(o,I.Tb _ _ q,e)
 let⟨hh,g,d,m,os⟩:=s;refine jE L cO R S fO fc U λh' e es mk=>?_;let⟨t0,J,tn,tO⟩:=mk.QU;let l:f' X b j (MT H e (t_ e C ε)) (h',g,d,m,os):=I.T0 (a:=e) (o:=t_ e C ε) (h':=h') (t':=m) mk.Oq es ((_,J),(_,J),λh1 h2 p k=>by let⟨z,q⟩:=p;show(z,k _ q));let D:=h e (I.Og.OG es);let B:ad (V.ο e::vs) (θ.ο e::us):=.NZ ζ r;let Y:(θ.ο e::us).β=ps.β:=by
  let z:=B.β;rw[F.PQ _ _ _ _ D]at z;show z.MQ
 let i:=Z (h',g,d,m,os) (θ.ο e::us) l.Tb;rw[Oe]at i;refine QS (Pd (F.PM _ X.NC _ _ (θ.ο e::us,[]) (θ.ο e::us) _ _ E' (W.make C us []) (l.Zj.make C us []) (i Y) B D) λr s' c=>?_);cases r with
 |SA y=>show hp b j _ _ y s' l c
 |ok fl=>
  cases fl with
  |UX u=>
   let⟨v,H',I3,O,y,P⟩:=l.Xe c;subst y;show(O,e,H',1,AH I T mk.X0,I3,P)
  |next=>show NX.Nx c
  |Yk=>show NX.Nx c
  |UC=>show NX.Nx c
abbrev QX(C:υ)(E:XK):VK:=λv H=>match v with
 |.ο e=>∃d,H e=δ (t_ e C d)/\E (.ο C) d (BX H e)
 |_=>NX
abbrev nV(X:Cx)(E:XK):Prop:=∀(M1:γ (υ×Rp))(σ:St)(H:Hp)(s:MJ)(e C:υ)(d:ω υ),f' X M1 σ H s->H e<*t_ e C d->X.RN.π.ψ e=ε->E (.ο C) d (BX H e)->X.xe (.ο e) s
def uM(Z:X.ex=[])(Rx:X.NC=X.KK::X.Fr)(M:X.KK.RQ<*X.KK.Oc){R:St}(I:f' X m R H s)(j:H e<*t_ e C d)(d0:X.RN.π.ψ e=ε)(q:E (.ο C) d (BX H e)):Ω (Cl X.Ξ X.w) X.A (SE X.KK (.ο e)) (λ_ l=>Am X.Ξ X.w X.Fr X.XQ X.RN E (.ο e) l) (λe' l=>Am X.Ξ X.w X.Fr X.XQ X.RN E e' l) s:=by
 let L:s.π.O2 X.ς (X.KK::X.Fr):=Rx▸I.NC;let⟨⟨a0,eO⟩,_,_⟩:=I.Og e _ j;let Rr:∀b∈s_ (X.KK::X.Fr),b∈e::s_ X.NC:=λb a=>M4 _ (Rx▸a);let r:∀b u,H b<*u->b≠e->BX H e b<*u:=λb u z n=>(Ei n).ν z;refine AR (Bi _ _) (wpAny_leaving_firstW (ς:=Qq s.π (e::s_ X.NC)) (a0:=.ο a0) (by rw[<-Rx];show I.ok.Qc) (FL L Rr) M eO (λb o z=>SJ _ z) (PJ _ N8) ζ ζ ζ λh' hL dk=>?_);let⟨k1,⟨_,_,k2⟩,k3,U⟩:=hL;let fr:∀b∈s_ X.NC,∃o,s.π.ψ b=δ o/\∀vs,o.NL≠.OB vs:=Gn I.NC;let g:∀b o,s.π.ψ b<*o->b≠e->b∉s_ X.NC->h'.ψ b<*o:=λb o z n a=>k1 b o (Ps _ z λp=>(MP.mp p).Nx n a);let⟨T,Y,D⟩:=gZ k3;let P:∀b,H b=ε->b≠e:=λb z y=>by rw[y,j]at z;cases z
 let J:Un (s_ X.NC) [] H (BX H e) s.π h':=by
  refine(λb o z n a _=>g b o z (P b n) a,λb o z n a _=>?_,λb o z n _=>by rw[Ei (P b n)];show n,λb o z _=>?_,λb xs z=>r b _ z (qN z j (by intro y;cases y)),λb o u z=>r b _ z (qN z j (by intro y;cases y)),λb ps z=>(#[],3))
  .obtain ⟨o',h,N⟩:=fr b a;rw[z]at h;cases h;show U b _ z N
  .by_cases a:b∈s_ X.NC
   .obtain ⟨o',h,N⟩:=fr b a;rw[z]at h;cases h;let⟨sl,F⟩:=U b _ z N;show(_,F)
   .by_cases he:b=e
    .subst he;let⟨oe,_,_,_,F,_⟩:=D;show(oe,F)
    .exact (o,g b o z he a)
  .rw [Nt.Zm];show r b _ z (qN z j (by intro y;cases y))
 let i:Au X.Ξ X.w (BX H e) h':=λb u z=>by
  let a:b≠e:=λy=>by rw[y,Jp]at z;cases z
  rw[Ei a]at z;refine(I.Og b u z).SX (λc v B y=>?_) (λc y=>r c _ y (qN y j (!5))) λc xs y=>r c _ y (qN y j (!5));let hH:∃S,H c=δ S/\c≠e:=by
   rcases B with ζ|B
   .exact (u,z,a)
   .exact (_,B,qN B j (!5))
  let⟨S,hw,O⟩:=hH;show g c v y O λp=>by rw[I.Tj c p]at hw;cases hw
 let Q:f' X m R (BX H e) {s with π:=h',T7:=s.T7,T8:=s.T8,MW:=s.MW}:=I.Qk (g':=s.T7) (d':=s.T8) (t':=s.MW) (ch:=[]) J i I.R5 (λ_ z=>nomatch z);let dT:s.π.ψ T=ε:=by
  cases z:s.π.ψ T with
  |ε=>rfl
  |δ o=>
   let h1:=IU D Q.NC;let h2:T≠e:=by let⟨_,_,_,_,_,_,_,_,y,_⟩:=D;show y
   rw[Ps _ z λp=>(MP.mp p).Nx h2 h1]at Y;cases Y
 let W:=Q.ς;rw[Z]at W;let TN:=Hc I.Og dT;show(e,T,.ο C,.ο a0,d,BX H e,1,Q.os,I.R5,W,i,d0,AH I Z dT,Jp,by rw[Ei (P T TN)];show TN,D.up dk eO (λx z=>by rw[z];rfl),q)
abbrev mK(s0:NR)(C:υ)(sp:Sp)(E E':XK)(t:TA):TS:=λ_ σ H=>t σ H λvs H1=>vs.β≤Λ/\∀e,H1 e=ε->sp (.ο e::vs) (MT H1 e (t_ e C ε)) (λv H2=>v=.Rv/\∃d,H2 e=δ (t_ e C d)/\E (.ο C) d (BX H2 e)) E'
def oM(Z:X.ex=[])(hc:X.T9=ξ)(hT:nV X E)(M:BW X.K C f)(fn:isFn X.K (.ο f)=ξ)(F:aa X.Ξ X.w X.K X.mg X.ς CX k f fd ps sp)(hr:ak (k+1) X.A)(hb:Ao X.K fd ps [])(hp:Eu CX X E')(hm:X.mg x<*.ο C)(ha:PA X (e0::es) t)(hg:Gl X x>>>4)(hd:((x==("__debug__":NB))=η)>>>0)(P:(Θ (e0::es) X.KK=(η,OM e0 X.KK,)::Θ es X.KK)>>>4)(p:((OF Xr (Θ es X.KK)).Ql (·.1)=η)>>>4):PS X (.Raise (δ (.QG (.N0 x np) (e0::es) [] Xr)) ε Nj) (mK X.ς C sp E E' t):=by
 intro b s n H D I h;let⟨bm,N,nm,O,bs,UT,sn,Rr,ab,VJ,dd,k0,k1,k2,k3,k5,mN,cO,nO,iO,T⟩:=M.Uf I.ok.VX.Vz;rw[arm_exec_Raise];refine d_ (PY (kU (C:=C) (nm:=nm) (q:=O) (N:=N) (bs:=bs) (bm:=bm) (UT:=UT) (sn:=sn) (Rr:=Rr) (ab:=ab) (VJ:=VJ) (dd:=dd) (k0:=k0) (k1:=k1) (k2:=k2) (k3:=k3) (k5:=k5) (T.hasType RF.hasBase) (I.ok.hd hc)
  (d_ (NI (wpAny_Call_ofName (v_ I hg hm ?_ hd)) (λv L h3=>d_ (PY (j' h3))) λ_ _ z=>z))))
 let R:=ha Xr b s n H _ I h;let o:(OF Xr (Θ (e0::es) X.KK)).Ql (·.1)=η:=by rw[P];change (η||(OF Xr (Θ es X.KK)).Ql (·.1))=η;rw[p];rfl
 let S:∀{m:St}{H':Hp}{s':MJ},f' X b m H' s'->s'.π.ψ C<*Ri nm O C N bs bm UT sn Rr ab VJ dd k0 k1 k2 k3 k5 "ValueError.__new__":=λI'=>I'.bk _ _ cO;unfold Yc;refine d_ (NT (NI (Q:=λ(a:Args)s2=>a.kw=[]/\∃vs g,f' X b n g s2/\ad vs a.Nj/\vs.β≤Λ/\∀e,g e=ε->sp (.ο e::vs) (MT g e (t_ e C ε)) (λv l=>v=.Rv/\∃d,l e=δ (t_ e C d)/\E (.ο C) d (BX l e)) E') ?_ (λa s2 h2=>d_ (PY ?_)) λ_ _ z=>z))
 .rw [P]at R⊢;show SB.Sb (ri R λus s2 y=>by let⟨vs,g,j,i,r,q⟩:=y;show(1,vs,g,j,i,r,q))
 let⟨c,B⟩:=a;let⟨u,vs,g,j,i,r,q⟩:=h2;obtain ζ:B=[]:=u;let⟨ag,g2,d2,U,Y⟩:=s2;simp only[o];refine d_ (wpAny_keeperOf_exc (S j) ?_);refine d_ (NI (ud (Q:=QX C E) Z M fn F hr hb hp j i (by change c.β≤Λ;let z:vs.β=c.β:=i.β;rw[<-z];show r) λe hn=>q e hn) (λv L hv=>d_ (NT (wpAny_point (j' ?_)))) λ_ _ z=>z);let⟨e,l,ζ,d0,J,d,h1,h2⟩:=hv;let⟨⟨W,eO⟩,_,_⟩:=J.Og e _ h1;show(e,d,.ο W,1,S J,eO,hT b n l L e C d J h1 d0 h2)
def iE{P:NE}{w:N1}{K:Nn}{mg:NB->ω θ}{ς:NR}{N:γ NB}:nV (aG (Am P w) P w K mg ς N M6 a f g A Fr s H E) E:=
 λb h j i e C d I h1 h2 c=>uM (X:=aG (Am P w) P w K mg ς N M6 a f g A Fr s H E) ζ ζ ζ I h1 h2 c
end
abbrev jh(D:XR):XR:={nx:=D.nx,rt:=λ_ _=>NX}
abbrev n6(K:Nn)(R:υ)(ts:TS)(D:XR)(σ:St):XK:=λC _ H'=>Zh K C (.ο R)=δ ξ/\ts (jh D) σ H'
def pS{X:Cx}{a:γ (υ×Rp)}{t:St}{H:Hp}(hex:X.ex=[])(Rx:X.NC=X.KK::X.Fr)(N:X.KK.RQ<*X.KK.Oc)(hg:Gl X x)(hm:X.mg x<*.ο R)(hs:∀v,BA (X.US v) (b0::suite) ts)(I:f' X a t H s)(cx:Am X.Ξ X.w X.NC H s (n6 X.K R ts D t) Y s')(hd:(x==("__debug__":NB))=η):Ω (Cl X.Ξ X.w) X.A (Ts Y X.KK) (λ_ s2=>Ω (Cl X.Ξ X.w) X.A (Sy Y ε) (λ_ s3=>Ω (Cl X.Ξ X.w) X.A (handleBy Y X.KK [.WG (δ (.N0 x np)) ε (b0::suite) Z]) (SP X a D) X.xe s3) X.xe s2) X.xe s':=by
 let⟨e,T,C,a0,dd,H',ζ,os,j,un,p,de,dT,he,hT,fT,h,q⟩:=cx;let⟨i,g,d,k,L⟩:=s';obtain ζ:L=s.os:=os;let I1:f' X a t H' {s with π:=i,T7:=g,T8:=d,MW:=k}:=I.Qk (g':=g) (d':=d) (t':=k) (ch:=[]) un p j (λ_ z=>nomatch z);let J:i.O2 X.ς (X.KK::X.Fr):=Rx▸I1.NC;let fl:Zp (Qq i (e::T::s_ X.NC)) (X.KK::X.Fr) e C a0 i:=
  (λb o z=>SJ _ z,PJ _ (!1),FL J (by rw[<-Rx];show λb z=>M4 _ (M4 _ z)),fT.traced (PJ _ (!1)))
 let seen:∀(h':NR),(Qq i (e::T::s_ X.NC)).X5 h'->i.Um h'->f' X a t H' {s with π:=h',T7:=g,T8:=d,MW:=k}:=λh' fk up=>
  (I.flown (H':=H') (h1:=i) (h2:=h') (g':=g) (d':=d) (t':=k) (S:=[e,T]) un p (λb r=>by rcases MP.mp r with z|z;rw[z];show de;rw[Ay z];show dT)
   (λb r=>by rcases MP.mp r with z|z;rw[z];show he;rw[Ay z];show hT) (λb o z hS r=>fk b o (Ps _ z λc=>by
    rcases MP.mp c with y|c
    .exact hS (by rw[y];simp)
    .rcases MP.mp c with y|c
     .exact hS (by rw[y];simp)
     .exact r c)) up j).1
 refine Xf (s:=(i,g,d,k,s.os)) (by rw[<-Rx];show I.ok.Qc) N fl λh2 U n=>ZM (s:=(h2,g,d,k,s.os)) U λP l m=>?_;let I3:=seen P l.1 (n.ν m);let⟨oe,M,O⟩:=l.QU;let ty:Ws (Cl X.Ξ X.w) P (typeOf (.ο e)) C:=O▸(Ws.ld M).X4 .now;refine wpAny_handleBy_cons (Zt (v_ (X:=X.US (.ο e)) (I3.US _) hg hm ?_ hd)) (!5);refine(Δ.W.exm_one I3.Tb ty h).here ?_;refine codeAny_handlers_suite (lands_againW (s:=(P,g,d,k,s.os)) l λh4 Q F=>?_);let I4:=seen h4 Q.1 ((n.ν m).ν F);refine NI (hs (.ο e) a _ _ _ (jh D) (I4.US _) q) (λf s6 B=>?_) λ_ _ z=>z.Nx;cases f with
 |next=>
  let⟨E,H7,I7,q7⟩:=B;show(E,H7,I7.unheld I.ok,q7)
 |UX u=>
  let⟨_,_,_,_,_,z⟩:=B;show z.Nx
 |Yk=>
  let⟨_,_,_,z⟩:=B;show z.Nx
 |UC=>
  let⟨_,_,_,z⟩:=B;show z.Nx
section
variable{X:Cx}{pins:List (Addr×Obj)}{σ:St}{H:Hp}{s:Shared}{x y fx:Str}{R:Addr}{j k:Nat}{np hpos pos p cp yp ap:Pos}{b0:Stmt}{suite:List Stmt}{ts:TS}{D:Ends}{ps:List Str}{sp:Sp}{e:Expr}{es:List Expr}{t:TA}
structure J'(X:Cx)(x:Str)(R:Addr)(b0:Stmt)(suite:List Stmt)(ts:TS):Prop where
 hex:X.ex=[]
 hst:X.stack=X.env::X.outer
 hfr:X.env.frame<*X.env.locals
 hg:Gl X x
 hm:X.mg x<*.ref R
 hs:∀v,BA (X.held v) (b0::suite) ts
 hd:(x==("__debug__":Str))=false
end
def pJ{g:TG}{l:TS}{D:XR}(d:Φ->St->Hp->Prop)(h0:d 0 c H)(u:∀i c H,d i c H->H a<*.M7 xs)(t:∀i x p c H,xs[i]?<*x->H p=ε->d i c H->g (.ο p) c (MT H p (.No [.MS (i:MN),x])) λf k=>l {D with nx:=d (i+1),ct:=d (i+1),bk:=D.nx} f k)(w:∀c H,d xs.β c H->D.nx c H):∃W:Φ->Φ->St->Hp->Prop,(∃m,W 0 m c H)/\∀i m c H,W i m c H->
   ((mD a).Sx i H/\D.nx c H)\/((mD a).go i H/\∃N:St->Hp->Prop,(∀h H',N h H'->∃n,n<m/\W (i+1) n h H')/\∀v H',(mD a).X_ i H v H'->g v c H' λf k=>l {D with nx:=N,ct:=N,bk:=D.nx} f k):=by
 refine(λi m c H=>m=xs.β-i/\i≤xs.β/\d i c H,(xs.β,!1,Nf _,h0),3);rintro i m c H⟨rfl,A,p⟩;let h1:=u i c H p;by_cases j:i<xs.β
 .refine .NU ((xs,xs[i],h1,n_ _),d (i+1),λh H' s=>(xs.β-(i+1),!2,1,j,s),λv H' q=>?_);let⟨b,x,r,o,z,ζ,y,ζ⟩:=q;rw[h1]at o;cases o;show t i x b c H z y p
 .let e:i=xs.β:=by lia
  subst e;show .NJ ((xs,h1,1),w c H p)
end L2
namespace RA
open L2
inductive vQ(H:Hp)(wy mk p:Addr)(W:LL)(B:List Bool)(most:Nat)(m:Nat)(σ:St)(H':Hp):Prop
 |mk (k:Nat) (lots:List Addr) (s4 s5:Option V) (_:m=iB W.length (Rd W B k)) (_:σ=[some (.ref wy),some (.ref mk),some (.int (most:Int)),some (.ref p),s4,s5]) (_:a' H H') (_:H' p<*.lst (lots.map V.ref)) (_:lots.length=k+1) (_:GK H' lots W B) (_:∀i<k,Rd W B (i+1)≠Rd W B i)
def DC.sameL(h:DC H b R)(s:a' H H'):DC H' b R:=(h.1,λi a r d c=>s _ _ (h.2 i a r d c))
def DC.Vx(h:DC H b R)(c:r<R.β):∃a,b[r]?=δ a/\H a<*.M7 (c_ (R.ML r [])):=by
 let d:r<b.β:=by rw[h.1];show c
 refine(b[r],n_ d,3);rw[u6,n_ c];show h.2 r _ _ (n_ d) (n_ c)
def DC.toQ(h:DC H a R):vP H a R:=λi r e=>by
 let b:i<R.β:=by rw[<-h.1];show(q5 e).1
 show(R[i],n_ b,_,.NJ ζ,h.2 i r _ e (n_ b))
abbrev dO:Φ->LL
 |0=>[[]]
 |n+1=>dO n++(dO n).NN (·++[n])
def iG:∀n,(dO n).β=2^n
 |0=>rfl
 |n+1=>by
  rw[dO,w_,ol,iG n,Φ.pow_succ];lia
def iH(h:n≤8):(dO n).β≤256:=by
 rw[iG];show Φ.pow_le_pow_right (!0) h
def Jq(p:Φ->MZ):∀n,(γ.N4 n).SL p∈dO n
 |0=>by simp[dO]
 |n+1=>by
  rw[γ.YM,γ.filter_append,dO];cases h:p n with
  |η=>
   rw[γ.filter_cons_of_neg (by simp[h]),γ.YX,Oe];show RO _ (Jq p n)
  |ξ=>
   rw[γ.filter_cons_of_pos h,γ.YX];show Nq _ (PH.Ot (_,Jq p n,1))
abbrev bn(W:LL)(S:LN)(j:Φ):LN:=(γ.N4 W.β).SL λr=>S.M9 (QY W r j)
abbrev BD(W:LL)(B:γ MZ):LN:=(γ.N4 W.β).SL λr=>B.ML r η
abbrev se(S:LN):MZ:=S.M9 0
section
variable{L:LN}{W:LL}{B:List Bool}{g:LN->Nat->LN}{s:LN}{mk:LN->Bool}{ks ws R:LL}{Bm:List Bool}
def Ik(k:CK L)(l:Bf g L s ks ws ks.β 0)(a:Dj g L.β ks R)(b:R.β=ks.β)(bl:Bm.β=R.β)(e:ks.β≤2100):g_ L R Bm where
 lt:=k
 n1:=by rw[b];show(q5 l.t0).1
 n60:=by rw[b];show e
 bl:=bl
 Vx:=λr h=>by
  let⟨i,d⟩:=NO.mp h;let c:i<ks.β:=by rw[<-b];show(q5 d).1
  let⟨h1,h2⟩:=a.Vx i r _ d (n_ c);refine(h1,λx f=>?_);let⟨q,j⟩:=NO.mp f;rw[b];show(q5 (h2 q x j)).1
def Jr(v:LN)(c:Φ):aR g L s (v++[c])=g (aR g L s v) (L.M3 c):=by
 unfold aR;rw[γ.U3];rfl
def Ka(p:Bf g L s ks ws ks.β 0)(a:Dj g L.β ks R)(j:R.β=ks.β):∀(n:Φ)(w:LN),w.β=n->(∀c∈w,c∈L)->ks[PM L R 0 w]?<*aR g L s w:=by
 intro n;induction n with
 |TF=>
  intro w hw _;rw[PL.mp hw];show p.t0
 |Si n h=>
  intro w hw f;obtain⟨c,v,ζ⟩:∃c v,w=v++[c]:=(w.Wl (by intro z;rw[z]at hw;cases hw),w.RR,(γ.PP _).MQ);let h1:=h v (by simpa using hw) λx i=>f x (by simp[i]);let b:L.M3 c<L.β:=M8 (f c (!1));let e:PM L R 0 v<R.β:=by rw[j];show(q5 h1).1
  let⟨d,o⟩:=a.Vx _ _ _ (n_ e) h1;let m:=o (L.M3 c) _ (n_ (by rw[d];show b));rw[ER,Jr];let k:Bw L R (PM L R 0 v) c=R[PM L R 0 v][L.M3 c]'(by rw[d];show b):=by
   unfold Bw;rw[u6 (l:=R),n_ e];change (R[PM L R 0 v]).ML _ 0=_;rw[u6,n_ (by rw[d];show b)];rfl
  rw[k];show m
def Il(h:Bf g L s ks ws ks.β 0)(a:Dj g L.β ks R)(f:R.β=ks.β)(bl:Bm.β=R.β)(d:∀(r:Φ)(k:LN)(b:MZ),ks[r]?<*k->Bm[r]?<*b->b=mk k)(hw:∀c∈w,c∈L):Bm.ML (PM L R 0 w) η=mk (aR g L s w):=by
 let h1:=Ka h a f _ w ζ hw;let e:PM L R 0 w<Bm.β:=by rw[bl,f];show(q5 h1).1
 rw[u6,n_ e];show d _ _ _ h1 (n_ e)
def qe(e:g_ L W B):∀(u:LN),(∀c∈u,c∈L)->∀r,r<W.β->((aR (bn W) L (BD W B) u).M9 r=B.ML (PM L W r u.Ng) η):=by
 intro u f;obtain⟨n,b⟩:∃n,u.β=n:=(_,ζ);induction n generalizing u with
 |TF=>
  intro r a;rw[PL.mp b];change (BD W B).M9 r=_;unfold BD;rw[MZ.RG,QN,RD,Np];show(λz=>z.2,λz=>(a,z))
 |Si n h=>
  intro r a;obtain⟨c,v,ζ⟩:∃c v,u=v++[c]:=(u.Wl (by intro z;rw[z]at b;cases b),u.RR,(γ.PP _).MQ);let j:c∈L:=f c (!1);let d:QY W r (L.M3 c)<W.β:=Ew e a (M8 j);rw[Jr,γ.VU];change _=B.ML (PM L W (Bw L W r c) v.Ng) η;rw[<-h v (λx i=>f x (by simp[i])) (by simpa using b) _ (by rw[Hf];show d),Hf];unfold bn;rw[MZ.RG,QN,RD,Np];show(λz=>z.2,λz=>(a,z))
def km(a:g_ L W B)(b:∀c∈u,c∈L):se (aR (bn W) L (BD W B) u)=B.ML (PM L W 0 u.Ng) η:=qe a u b 0 a.n1
end
def dj(a:Φ):∀S:LN,EQ (.MS (a:MN)) (c_ S)=S.M9 a
 |[]=>rfl
 |x::S=>by
  let e:EQ (.MS (a:MN)) (c_ (x::S))=(((x:MN)==(a:MN))||EQ (.MS (a:MN)) (c_ S)):=ζ;rw[e,dj a S,γ.WB];congr 1;rw[MZ.RG,Oy,Oy];constructor
  .intro z;show(MN.ofNat_inj.mp z).MQ
  .intro z;rw[z]
def As:(γ.N4 (i+1)).SL p=(γ.N4 i).SL p++(if p i then[i]else[]):=by
 rw[γ.YM,γ.filter_append];cases h:p i with
 |η=>rw[γ.filter_cons_of_neg (by simp[h]),γ.YX];rfl
 |ξ=>rw[γ.filter_cons_of_pos h,γ.YX];rfl
end RA
namespace L2
open PySem.Spec PyProof.Rows
section
variable{X:Cx}{elt iter:Expr}{x:Str}{px pos:Pos}{ifs:List Expr}{sc:Scope}{wi:TI}{tt:TT}{te:TE}
end
def lf(K:Nn)(a:(X.K=K)>>>4):AQ X (O8 .In) (Li K η):=by
 subst a;show IS
namespace ZP
def FW(a b:υ):BV (.tp a) (.tp b):=λxs ys=>.of_wp λΞ w A R s h=>by
 let⟨hp,g,d,j,os⟩:=s;let⟨f,c,h⟩:=h;let i:=ZV;let f:hp.O1 a xs:=f;let c:(hp.Nh (Sd.tp a).it0).O1 b ys:=WF.Oq c λo e=>sy _ e;change Ω _ _ (Builtin.«zip.__new__» ([.MO "zip",.ο a,.ο b],[])) _ _ _
 wp_walk using bX f,bX c
 refine(0,3);simp only[db]at h;simpa[Op,Builtin.OV.S3,Φ.XL]using h
end ZP
inductive kz(Q:VK)(vs:List V)(H1:Hp):Prop
 |mk (a b xs ys:_) (_:vs=[.ref a,.ref b]) (_:H1 a<*.tup xs) (_:H1 b<*.tup ys) (_:xs.length=ys.length) (_:xs.length≤1000000) (_:∀(l:Addr)(ts:List Addr)(H2:Hp),ts.length=xs.length->ts.Nodup->H1 l=none->a' H1 H2->H2 l<*.lst (ts.map V.ref)->(∀(i:Nat)(t:Addr)(x y:V),ts[i]?<*t->xs[i]?<*x->ys[i]?<*y->H2 t<*.tup [x,y])->Q (.ref l) H2)
abbrev oq(ta:TA):TE:=λσ H Q=>ta σ H (kz Q)
def i8{p N Nj f:Sh}(hc:X.T9=ξ)(a6:Gl X "list")(a3:X.mg "list"=ε)(a5:Gl X "zip")(a2:X.mg "zip"=ε)(ha:PA X [a,b] ta)(hs:(Θ [.QG (.N0 "zip" N) [a,b] [] f] X.KK=[(η,OM (.QG (.N0 "zip" N) [a,b] [] f) X.KK,)])>>>4)(aV:(Θ [a,b] X.KK=(η,OM a X.KK,)::Θ [b] X.KK)>>>4)(aA:((OF f (Θ [b] X.KK)).Ql (·.1)=η)>>>4):PE X (.QG (.N0 "list" p) [.QG (.N0 "zip" N) [a,b] [] f] [] Nj) (oq ta):=by
 intro ar s σ H Q I h;refine Nc (Ad I a6 a3 Vr ?_);refine Oi.Sf.Pw (e:=.QG (.N0 "zip" N) [a,b] [] f) (Ru:=[]) ?_ hs ζ;rw[hs];change Ω _ _ (spliced ((η,OM (.QG (.N0 "zip" N) [a,b] [] f) X.KK,)::OF Nj [])) _ _ s;refine SB.spliced_cons (Nc (Ad I a5 a2 boot_zip (Oi.Sf.Pw (ri (ha f ar s σ H _ I h) λus d a7=>?_) aV aA)));let⟨vs,H1,Y,r1,W,U,xs,ys,ev,az,as,hl,aB,q⟩:=a7;subst ev;let⟨u1,u2,ζ,e1,e2⟩:=bz r1;cases e1;cases e2;let⟨D,rx,px,_⟩:=Y.P_ (u0.of az);let⟨C,ry,py,_⟩:=Y.P_ (u0.of as);let px:d.π.O1 W D.χ:=px;let py:d.π.O1 U C.χ:=py;let hh:X.A.PR=ε:=Y.ok.hd hc;let ag:W<d⁻¹:=Y.Og.lt az;let ab:U<d⁻¹:=Y.Og.lt as;refine ZP.Cw (d1:=.tp W) (d2:=.tp U) (xs:=D.χ) (ys:=C.χ) (ZP.FW W U) px py λg gz a9 a8 g1 g2 gk=>?_;let aC:d⁻¹+5≤g.Nr.MX:=lt_size gz;refine SB.spliced_nil ?_;let ap:TV (d⁻¹+4) (d⁻¹+2) (d⁻¹+3) d⁻¹ (d⁻¹+1) (d⁻¹+2) (d⁻¹+2):=by
  constructor<;>show GH (!6)
 let ex:D.χ.MX=xs.β:=by rw[rx.β];simp
 let ey:C.χ.MX=xs.β:=by rw[hl,ry.β];simp
 let aS:g.O1 W D.χ:=WF.Oq px λo e=>gk W o e;let aN:g.O1 U C.χ:=WF.Oq py λo e=>gk U o e;let D1:=dF (Ξ:=X.Ξ) (w:=X.w) (A:=X.A.S5.S5.S5) hh d⁻¹ W (M_ ag) D.χ;let D2:=dF (Ξ:=X.Ξ) (w:=X.w) (A:=X.A.S5.S5.S5) hh (d⁻¹+1) U (M_ (QJ ab)) C.χ;rw[ex]at D1;rw[ey]at D2;let E:∀c:υ,c<d⁻¹->c∉[d⁻¹+4,d⁻¹+3,d⁻¹,d⁻¹+1]:=λc k hm=>by
  let k:(c:Φ)<d⁻¹:=k;simp only[MP,NV,N7]at hm;rcases hm with y|y|y|y
  .exact MM k (by rw[y];show TY.Ot (Od _ _))
  .exact MM k (by rw[y];show TY.Ot (Od _ _))
  .exact MM k (by rw[y];show Qs _)
  .exact MM k (by rw[y];show TY.Ot (Od _ _))
 refine ZP.E_ (s:={d with π:=g}) (n:=xs.β) D1 D2 ap aB (λc k=>?_) (λc k=>?_) gz a9 a8 (g1,aS) (g2,aN) (Ψ (!6) aC) (Ψ (!6) aC) λh' tk T c kp hS V_ L aT=>?_
 .rcases MP.mp k with z|z
  .exact .NJ z
  .rw [Ay z];show .NU (E W ag,Ψ ag (by change d⁻¹≤g.Nr.MX;lia))
 .rcases MP.mp k with z|z
  .exact .NJ z
  .rw [Ay z];show .NU (E U ab,Ψ ab (by change d⁻¹≤g.Nr.MX;lia))
 let hS:h'.ψ g.Nr.MX<*{OO:=.MO "list",Pz:=ε,NL:=.Sz T c,Ry:=#[]}:=hS;obtain⟨ts,R⟩:∃ts:γ υ,T.NF=ts.NN θ.ο:=by
  have:∀(l:γ θ),(∀v∈l,∃t:υ,v=.ο t)->∃ts:γ υ,l=ts.NN θ.ο:=by
   intro l;induction l with
   |Ow=>show λ_=>([],1)
   |NZ v r ih=>
    intro hv;let⟨t,ζ⟩:=hv v (!1);let⟨ts,ζ⟩:=ih λv aU=>hv v (by simp[aU]);show(t::ts,1)
  refine this T.NF λv hv=>?_;let⟨j,hj⟩:=NO.mp hv;rw[Qd]at hj;let⟨t,_,_,e,_⟩:=L j v hj;show(t,e)
 let O:ts.β=xs.β:=by rw[<-V_,<-Po,R,ol]
 let P:∀{i:Φ}{t:υ},ts[i]?<*t->T[i]?<*.ο t:=λ{i t}e=>by rw[<-Qd,R,tS,e];rfl
 let Z:ts.Nz:=LB λi j t h1 h2=>aT i j t (P h1) (P h2);let B:∀{i:Φ}{t:υ}{x y:V},ts[i]?<*t->xs[i]?<*x->ys[i]?<*y->g.Nr.MX<t/\∃u v,ae x u/\ae y v/\Pn h' t u v:=λ{i t x y}ht hx hy=>by
  let⟨t',u,v,e,p1,N,pr,S⟩:=L i _ (P ht);cases e;let p1:D.χ[i]?<*u:=p1;let N:C.χ[i]?<*v:=N;let⟨u',hu,ru⟩:=rx.VI hx;let⟨v',hv,rv⟩:=ry.VI hy;rw[QM,hu]at p1;rw[QM,hv]at N;cases p1;cases N;show(S,7,ru,rv,pr)
 let M:∀{i:Φ},i<xs.β->∃t x y,ts[i]?=δ t/\xs[i]?=δ x/\ys[i]?<*y:=λ{i}hi=>(ts[i],xs[i],ys[i],n_ _,n_ _,n_ _);let aM:∀t∈ts,g.Nr.MX<t:=λt ht=>by
  let⟨i,hi⟩:=NO.mp ht;let a4:i<xs.β:=by rw[<-O];show(q5 hi).1
  let⟨t',x,y,h1,h2,h3⟩:=M a4;rw[hi]at h1;cases h1;show(B hi h2 h3).1
 letI H2:Hp:=λb=>if b<d⁻¹ then H1 b else if b=g.Nr.MX then δ (.M7 (ts.NN V.ο))else pb ts xs ys b
 let gS:¬ g.Nr.MX<d⁻¹:=by lia
 let m:∀b,b<d⁻¹->H2 b=H1 b:=λb hb=>Id hb;let an:H2 g.Nr.MX<*.M7 (ts.NN V.ο):=(BT gS).ν (Id ζ);let aH:∀(i:Φ)(t:υ)(x y:V),ts[i]?<*t->xs[i]?<*x->ys[i]?<*y->H2 t<*.No [x,y]:=λi t x y h1 h2 h3=>by
  let S:=(B h1 h2 h3).1;let a1:¬ t<d⁻¹:=λz=>MM (QB S z) gS;let a0:t≠g.Nr.MX:=Qg S;change (if t<d⁻¹ then H1 t else if t=g.Nr.MX then δ (.M7 (ts.NN V.ο))else pb ts xs ys t)=_;rw[BT a1,BT a0,pb,LA Z h1 (v:=(x,y,)) (by rw[Pu];show(h2,h3))];rfl
 let F:∀b o,d.π.ψ b<*o->h'.ψ b<*o:=λb o e=>kp b o (E b (lt_size e)) (gk b o e);refine(.ο g.Nr.MX,H2,3,1,q g.Nr.MX ts H2 O Z (Y.Og.OG (!6)) (λb o e=>by rw[m b (Y.Og.lt e)];show e) an aH);let J:=Y.many (H':=H2) (h':=h') (t':=tk) F m λb o hb e=>?_
 .exact J
 .by_cases hbg:b=g.Nr.MX
  .subst hbg;rw[an]at e;cases e;refine(by rw[ol,O,OQ];omega,ts.NN θ.ο,c,3,3)
   .clear R O P Z B M aM H2 m an aH;induction ts with
    |Ow=>show .Ow
    |NZ t r ih=>show .NZ ζ ih
   .rw [<-R];simpa using hS
  .let e':pb ts xs ys b<*o:=by
    let e:(if b<d⁻¹ then H1 b else if b=g.Nr.MX then δ (.M7 (ts.NN V.ο))else pb ts xs ys b)<*o:=e;rw[BT (TY.Ot hb),BT hbg]at e;show e
   unfold pb at e';cases hlk:(ts.Th (xs.Th ys)).ρ b with
   |ε=>rw[hlk]at e';cases e'
   |δ q2=>
    rw[hlk]at e';cases e';let⟨i,hi⟩:=NO.mp (eT hlk);rw[Pu]at hi;let⟨h1,h2⟩:=hi;rw[Pu]at h2;let⟨_,u,v,ru,rv,pr⟩:=B h1 h2.1 h2.2;show(sT (by change 2≤16777216;decide),[u,v],.NZ ru (.NZ rv .Ow),(_,pr,1,(0),1))
def Gv(Wd:GO X U l H d)(Rr:∀y a,b.ρ y<*a->X.KK.Rm.ρ y<*a)(UU:∀y∈sc.MR,y.2=.N6->∃a,b.ρ y.1<*a)(m:UY.β=f.β)(n:∀(i:Φ)(y:NB)(v:V),f[i]?<*y->UY[i]?<*v->(∃j:Φ,X.N[j]?=δ y/\l[j]?<*δ v)/\X.KK.NG.MR.ρ y=δ .OA/\sc.MR.ρ y<*.N6):A2 d b sc f UY:=by
 refine(λy z c h1 h2=>Wd.QK y z c (Rr y c h1) (Rr z c h2),UU,λy c h=>Wd.OA y c (Rr y c h),m,λi y v h1 h2=>?_);let⟨⟨j,t,s⟩,r,k⟩:=n i y v h1 h2;let⟨a,e⟩:=UU (y,.N6,) (Δ.OY k) ζ;let⟨c,u,q,p,o⟩:=Wd.Zz j y v t s r;let g:=Rr _ _ e;rw[q]at g;cases g;show(k,_,u,e,p,o)
def ic(b:∀y,a.ρ y=ε)(f:∀y∈sc.MR,y.2≠.N6):A2 h a sc [] []:=by
 refine(λy z c h1 _=>?_,λy d e=>MM e (f y d),λy c e=>?_,1,λi y v h1 _=>by simp at h1)
 .rw [b]at h1;cases h1
 .rw [b]at e;cases e
def Ht{P:NE}{w:N1}{K:Nn}{mg:NB->ω θ}{ς:NR}{st:Nu}{h e kV Pm pm ct:θ}(lk:K.ρ f<*(h,i,.Qb (Px x M6 (t5 st) (p_ st) (h_ st) e kV Pm pm an (.ο c) ct),g))(b:PD K (.ο c) M6=ξ)(S:vw N ps (h_ st))(PQ:∀vs H Q E,d vs H Q E->vs.β=ps.β)(a:∀(A:N2)(Fr:γ WH)(s:MJ)(H:Hp)(vs:γ V)(Q:VK)(E:XK),ak k (A.RH (S7 M6 (h_ st) s⁻¹ f (.ο c)))->d vs H Q E->
   ∃t,BA (aG (Am P w) P w K mg ς N M6 (h_ st) f (.ο c) A Fr s H E) (p_ st) t/\t {nx:=λ_ H'=>Q .Rv H',rt:=Q} (SQ N vs) H):aa P w K mg ς (Am P w) (k+1) f (Px x M6 (t5 st) (p_ st) (h_ st) e kV Pm pm an (.ο c) ct) ps d:=jC lk b S PQ a
abbrev Ci(H H':Hp):Prop:=∀b o,(∀ps,o≠.Wy ps)->H b<*o->H' b<*o
def Ci.of(s:a' H H'):Ci H H':=λb o _ e=>s b o e
def Ci.ν(a:Ci H d)(b:Ci d H'):Ci H H':=λx o c e=>b x o c (a x o c e)
def Ci.ofX(s:Cv P0 H H')(c:A_ H P0 ON):Ci H H':=λb o a e=>s b o (λz=>by
 let⟨ps,d,_⟩:=c;rw[z,d]at e;cases e;show a _ ζ) e
def Ci.No(s:Ci H H'):∀b xs,H b<*.No xs->H' b<*.No xs:=λb xs e=>s b _ (λ_ z=>nomatch z) e
def Ci.M7(s:Ci H H')(e:H b<*.M7 xs):H' b<*.M7 xs:=s b _ (λ_ z=>nomatch z) e
abbrev Im(H:Hp)(a:υ)(xs:γ V):Prop:=H a<*.No xs\/H a<*.M7 xs
def Im.OR(h:Im H a xs)(t:∀b xs,H b<*.No xs->H' b<*.No xs)(l:∀b xs,H b<*.M7 xs->H' b<*.M7 xs):Im H' a xs:=h.Wi (t _ _) (l _ _)
inductive rIxV(x:V)(y:V)(H:Hp)(Q:VK):Prop
 |mk (p:Addr) (xs:List V) (i:Int) (z:V) (_:x=.ref p) (_:y=.int i) (_:Im H p xs) (_:AN xs i<*z) (_:Q z H)
def xw:CT X rIxV:=by
 intro a b c s e H x y v u Q I g f h j;obtain⟨p,xs,i,z,m,l,d|d,k,q⟩:=h
 .exact dh a b c s e H x y v u Q I g f (p,xs,i,z,m,l,u0.of d,k,q) j
 .exact bW a b c s e H x y v u Q I g f (p,xs,i,z,m,l,o5.of d,k,q) j
end L2
namespace RA
open L2
inductive DE(H:Hp)(m:Addr)(L:LN)(W:LL)(B:List Bool):Prop
 |mk (wy mk:Addr) (rows:List Addr) (_:H m<*.tup [.str (tx L),.ref wy,.ref mk]) (_:H wy<*.tup (rows.map V.ref)) (_:Im H mk (B.map V.bl)) (_:rows.length=W.length) (_:∀(i:Nat)(a:Addr),rows[i]?<*a->∃ws,W[i]?=some ws/\H a<*.tup (c_ ws))
def DE.QC(h:DE H m L W B)(t:∀b xs,H b<*.No xs->H' b<*.No xs)(l:∀b xs,H b<*.M7 xs->H' b<*.M7 xs):DE H' m L W B:=by
 let⟨d,mk,c,h1,h2,j,g,f⟩:=h;refine(d,mk,c,t _ _ h1,t _ _ h2,j.OR t l,g,λi a e=>?_);let⟨ws,n,k⟩:=f i a e;show(ws,n,t _ _ k)
def zl.l:zl H m L W B->DE H m L W B:=λ⟨b,c,a,h1,h2,f,e,d⟩=>(b,c,a,h1,h2,.NJ f,e,d)
def DE.OR(h:DE H m L W B)(s:a' H H'):DE H' m L W B:=h.QC (λb xs e=>s b _ e) λb xs e=>s b _ e
def DE.ofT(h:DE H m L W B)(s:Ci H H'):DE H' m L W B:=h.QC s.No λb xs e=>s.M7 e
def vF(s:Ci H H')(h:o5 K H a xs):o5 K H' a xs:=by
 rcases h with(h|⟨o,h⟩)|h
 .exact .NJ (.NJ (s.M7 h))
 .exact .NJ (.NU (o,s _ _ (λ_ z=>nomatch z) h))
 .exact .NU h
inductive Js(cW P0:Addr)(sites:List (Pos×Str))(vs:List V)(H:Hp)(Q:VK)(_E:XK):Prop
 | mk (m:Addr) (L:LN) (W:LL) (B:List Bool) (_:vs=[.ref m]) (_:DE H m L W B) (_:g_ L W B) (_:A_ H P0 sites) (_:∀(wk t wd y md:Addr)(ks:LL)(vks:List V)(ws:LL)(rows:List Addr)(R:LL)(Bm:List Bool)(H':Hp),Cv P0 H H'->A_ H' P0 sites->Gr H' cW wk L t wd y md->H' t<*.lst vks->br .i H' ks vks->H' wd<*.lst (DY ws)->H' y<*.lst (rows.map V.ref)->DC H' rows R->H' md<*.lst (Bm.map V.bl)->
  Bf (gW W) L [0] ks ws ks.length 0->Dj (gW W) L.length ks R->R.length=ks.length->Bm.length=R.length->(∀(r:Nat)(k:LN)(b:Bool),ks[r]?<*k->Bm[r]?<*b->b=mkW B k)->(∀k∈ks,k∈uW W)->ks.length≤W.length->Q (.ref wk) H')
abbrev gP(W1 W2:LL)(k:LN)(j:Φ):LN:=[QY W1 (k.ML 0 0) j,QY W2 (k.ML 1 0) j]
abbrev uP(n1 n2:Φ):LL:=(γ.N4 n1).flatMap λa=>(γ.N4 n2).NN λb=>[a,b]
abbrev LH(Wc:MZ->MZ->MZ)(B1 B2:γ MZ)(k:LN):MZ:=Wc (B1.ML (k.ML 0 0) η) (B2.ML (k.ML 1 0) η)
def qa(e:a<n1)(d:b<c):[a,b]∈uP n1 c:=by
 unfold uP;rw[UH];show(a,Np.Ot e,PH.Ot (b,Np.Ot d,1))
def kj(h:k∈uP n1 c):∃a b,k=[a,b]/\a<n1/\b<c:=by
 unfold uP at h;let⟨a,e,h⟩:=UH.mp h;let⟨b,d,ζ⟩:=PH.mp h;show(a,b,1,Np.mp e,Np.mp d)
def vW(n1 a:Φ):(uP n1 a).β=n1*a:=by
 unfold uP;rw[γ.YR];simp[γ.map_const',γ.sum_replicate_nat]
def vB(h1:n1≤8)(h2:a≤8):(uP n1 a).β≤64:=by
 rw[vW];show Φ.mul_le_mul h1 h2
def xR(h1:g_ L d j)(h2:g_ L c i):∀k∈uP d.β c.β,∀q,q<L.β->gP d c k q∈uP d.β c.β:=λk f q e=>by
 let⟨a,b,ζ,h,g⟩:=kj f;show qa (Ew h1 h e) (Ew h2 g e)
def yH{L:LN}{e d:LL}:∀(u:LN)(a b:Φ),aR (gP e d) L [a,b] u=[PM L e a u,PM L d b u]
 |[],_,_=>rfl
 |c::u,a,b=>yH u (QY e a (L.M3 c)) (QY d b (L.M3 c))
inductive b9(rule:Bool->Bool->Bool)(vs:List V)(H:Hp)(Q:VK)(_E:XK):Prop
 |mk (a b:Bool) (_:vs=[.bl a,.bl b]) (_:Q (.bl (rule a b)) H)
structure xL(P:Program)(w:World)(K:Frag)(mg:Str->Option Value)(H:Hp)(g cg:Addr)(rule:Bool->Bool->Bool):Prop where
 ex:∃(qual:Str)(params:Arguments)(body:Expr)(sc:Scope)(clos:List (Str×Addr)),H g=some (AI g qual params body sc clos cg)/\H cg=some (pd cg qual)/\
  (∀(base':Heap)(pm ctv:Value),base'.get? g<*kla_obj "<lambda>" qual params body sc clos pm cg ctv->base'.CodeRec (.ref cg) qual->aa P w K mg base' pu 1 g (kla_fn "<lambda>" qual params body sc clos pm (.ref cg) ctv) ["one","two"] (b9 rule))/\
  ∀pm ctv:Value,Ao K (kla_fn "<lambda>" qual params body sc clos pm (.ref cg) ctv) ["one","two"] []
end RA
namespace L2
open PySem.Spec PyProof.Rows
section
variable{X:Cx}{elt iter:Expr}{x y:Str}{px py pt pos:Pos}{kt:Nat}{sc:Scope}{wi:TI}{te:TE}
end
def pY(bs:γ MZ):(γ.N4 bs.β).Ql (λi=>bs.ML i η)=bs.Ql id:=by
 rw[MZ.RG,Vj,Vj];constructor
 .rintro⟨i,a,h⟩;let a:=Np.mp a;rw[u6,n_ a]at h;show(bs[i],Nv a,h)
 .rintro⟨b,c,h⟩;let⟨i,a,ζ⟩:=γ.Xl.mp c;refine(i,Np.Ot a,3);rw[u6,n_ a];show h
def pV(F:X.T9=ξ):Dg X (.Nk "any") (λxs H Q=>∃(a:υ)(bs:γ MZ),xs=[V.ο a]/\H a=δ (.M7 (bs.NN V.bl))/\Q (.bl (bs.Ql id)) H):=by
 intro k s M H xs us Q I r h;let⟨a,bs,ζ,u,q⟩:=h;let⟨N,ζ,D⟩:=Dr r;cases D;let⟨c,j,p,hz⟩:=I.Qx (o5.of u);let n:s.π.SM a c.χ:=p.QW;let g:a<s⁻¹:=I.Og.lt u;let m:c.χ.MX=bs.β:=by
  let h2:=j.β;rw[ol]at h2;simp;lia
 refine call_any_walk (RW n ?_);refine(s⁻¹,7,7,_,λi=>bs.ML i η,1,Walks.Qx (Ξ:=X.Ξ) (w:=X.w) (A:=X.A.S5) (I.ok.hd F) s⁻¹ a (M_ g) c.χ,((_,MV _ ζ,5),n.at λo e=>sy _ e),3,λh' B E=>?_)
 .intro i v s' L O l f;let t:i<bs.β:=by rw[<-m];show(Nt.Ox.mp l).1
  let⟨y,J,C⟩:=j.VI (i:=i) (x:=.bl bs[i]) (by rw[tS,n_ t];rfl);have:v=y:=by
   let d:c.χ[i]?<*v:=l;rw[QM,J]at d;show(ω.δ.QK d).MQ
  subst this;cases C;let e:bs.ML i η=bs[i]:=by rw[u6,n_ t];rfl
  let f:L (bs.ML i η) s':=f;rw[e]at f;show PZ f
 .rw [m,pY];show(.bl (bs.Ql id),H,I.SW (t':=B) λb o z=>E b o (by simp;show M_ (lt_size z)) (sy _ z),1,q)
abbrev b_(m:Φ):LN:=(γ.N4 8).SL λk=>m.testBit k
abbrev ao(led:MZ)(ks:LN):RS:=(if ks.β<5 then 7 else 31,ks.χ,#[],(0),led,if ks.β<5 then 0 else 1,ξ)
abbrev AZ(ks:LN)(k:Φ):Φ:=(ks.SL (· < k)).β
abbrev yl(ks:LN)(k:Φ):LN:=ks.OE (AZ ks k)++k::ks.Py (AZ ks k)
abbrev Ej(t:RS)(ks:LN):RS:={t with Re:=ks.χ}
abbrev im(led:MZ)(m k:Φ):MZ:=
 letI ks:=b_ m
 letI t:=ao led ks
 letI ks':=yl ks k
 ks.M9 k||(decide (t.freeSlot (k:MN)<*(k,η,))&&decide (t.put k=(Ej t ks',AZ ks k,))&&(Ej t ks').Zf ks'.β &&
  (if (Ej t ks').tooFull then decide ((Ej t ks').relaid (ks'.NN λ(n:Φ)=>(n:MN)).χ (RS.grown ks'.β)<*(ao led ks',(γ.N4 ks'.β).χ,))&&coversAll (γ.N4 ks'.β).χ ks'.β&&(ao led ks').Zf ks'.β
   else decide (Ej t ks'=ao led ks'))&&decide (ks'=b_ (m ||| 2^k)))
def tj(h:∀j,j<8->(γ.N4 32).QD (λm=>p (32*j+m))=ξ):(γ.N4 256).QD p=ξ:=by
 rw[NP];intro m a;let a:=Np.mp a;have:=NP.mp (h (m/32) (!6)) (m%32) (Np.Ot (Φ.mod_lt _ (!0)))
 rwa [Φ.div_add_mod]at this
def xJ:(γ.N4 256).QD (λm=>(γ.N4 8).QD λk=>im ξ m k&&im η m k)=ξ:=tj fun
 |0,_=>by decide +kernel
 |1,_=>by decide +kernel
 |2,_=>by decide +kernel
 |3,_=>by decide +kernel
 |4,_=>by decide +kernel
 |5,_=>by decide +kernel
 |6,_=>by decide +kernel
 |7,_=>by decide +kernel
 |n+8,h=>MM h (!6)
abbrev vE(m k:Φ):MZ:=(!(b_ m).M9 k||decide (m ||| 2^k=m))&&decide (m ||| 2^k<256)&&decide ((b_ m).β≤8)&&(b_ m).QD (· < 8)
set_option maxRecDepth 100000 in
def yr:(γ.N4 256).QD (λm=>(γ.N4 8).QD λk=>vE m k)=ξ:=by decide +kernel
def gr(b:m<256)(c:k<8):(k∈b_ m->m ||| 2^k=m)/\m ||| 2^k<256/\(b_ m).β≤8/\∀x∈b_ m,x<8:=by
 let h:=NP.mp (NP.mp yr m (Np.Ot b)) k (Np.Ot c);simp only[vE,Oz,Uv,RC,Sc]at h;let⟨⟨⟨h1,h2⟩,e⟩,d⟩:=h;refine(λz=>h1.Nx (λy=>?_) id,h2,e,λx a=>OX (NP.mp d x a));rw[QN.Ot z]at y;cases y
def zA(a:MZ)(e:m<256)(f:k<8)(d:k∉b_ m):(ao a (b_ m)).freeSlot (k:MN)=δ (k,η,)/\(ao a (b_ m)).put k=(Ej (ao a (b_ m)) (yl (b_ m) k),AZ (b_ m) k,)/\(Ej (ao a (b_ m)) (yl (b_ m) k)).Zf (yl (b_ m) k).β=ξ/\yl (b_ m) k=b_ (m ||| 2^k)/\
  (if (Ej (ao a (b_ m)) (yl (b_ m) k)).tooFull=ξ then(Ej (ao a (b_ m)) (yl (b_ m) k)).relaid ((yl (b_ m) k).NN λ(n:Φ)=>(n:MN)).χ (RS.grown (yl (b_ m) k).β)=δ (ao a (yl (b_ m) k),(γ.N4 (yl (b_ m) k).β).χ,)/\coversAll (γ.N4 (yl (b_ m) k).β).χ (yl (b_ m) k).β=ξ/\(ao a (yl (b_ m) k)).Zf (yl (b_ m) k).β=ξ
   else Ej (ao a (b_ m)) (yl (b_ m) k)=ao a (yl (b_ m) k)):=by
 let h:=NP.mp (NP.mp xJ m (Np.Ot e)) k (Np.Ot f);let h:im a m k=ξ:=by
  rw[Oz]at h;cases a
  .exact h.2
  .exact h.1
 unfold im at h;rw[Uv]at h;rcases h with h|h
 .exact MM (QN.mp h) d
 .simp only[Oz,Sc]at h;let⟨⟨⟨⟨h1,h2⟩,i⟩,b⟩,g⟩:=h;refine(h1,h2,i,g,3);split at b
  .rename_i c;rw[Id c];simpa[and_assoc]using b
  .rename_i c;rw[BT c];simpa using b
abbrev Pv(ks:LN)(ts:γ XM):γ (MN×θ):=γ.zipWith (λ(k:Φ)t=>((k:MN),θ.MS (k:MN) t,)) ks ts
def DF(h:ts.β=ks.β):(Pv ks ts).β=ks.β:=by simp[Pv,h]
def jF:∀{ks:LN}{ts:γ XM},ts.β=ks.β->(Pv ks ts).NN Up.fst=ks.NN λ(n:Φ)=>(n:MN)
 |[],[],_=>rfl
 |k::ks,t::ts,h=>by
  have:=jF (ks:=ks) (ts:=ts) (by simpa using h);change (k:MN)::(Pv ks ts).NN Up.fst=_;rw[this];rfl
def sF{ks:LN}(h:ts.β=ks.β):Pv (ks.OE p++k::ks.Py p) (ts.OE p++t::ts.Py p)=(Pv ks ts).OE p++((k:MN),θ.MS (k:MN) t,)::(Pv ks ts).Py p:=by
 unfold Pv;rw[γ.zipWith_append (by simp[h]),γ.zipWith_cons_cons,γ.take_zipWith,γ.drop_zipWith]
def Kb(l:γ a)(p:Φ)(x:a):RS.insertAt l.χ p x=(l.OE p++x::l.Py p).χ:=by
 unfold RS.insertAt;simp only[γ.extract_toArray,γ.push_toArray,γ.append_toArray];congr 1;simp[N9]
def eI{a:Type}(l:γ a):∀n,(γ.N4 n).XC (λi=>l[i]?)=l.OE n
 |0=>rfl
 |n+1=>by
  rw[γ.YM,γ.filterMap_append,eI l n,Ti];cases q:l[n]?<;>simp[q]
def qK{a:Type}(l:γ a):(γ.N4 l.β).χ.XC (λi=>l.χ[i]?)=l.χ:=by
 rw[γ.filterMap_toArray];congr 1;let h:=eI l l.β;rw[SO]at h;simpa using h
abbrev av(w:N1):MZ:=!w.O5.SK "set-order"
abbrev ba(w:N1)(h:NR)(a:υ)(m:Φ):Prop:=∃(o:Rp)(ts:γ XM)(ep:Φ),h.ψ a=δ o/\o.ExactSet/\ts.β=(b_ m).β/\o.NL=.Ra (Pv (b_ m) ts).χ ep (ao (av w) (b_ m))
abbrev bQ(led:MZ)(m i:Φ):MZ:=
 letI ks:=b_ m
 !(decide (i≤ks.β))||decide (RS.below ks.χ (if i=0 then 0 else ks.ML (i-1) 0+1)=i)&&(ao led ks).Zf ks.β
def uA:(γ.N4 256).QD (λm=>(γ.N4 9).QD λi=>bQ ξ m i&&bQ η m i)=ξ:=tj fun
 |0,_=>by decide +kernel
 |1,_=>by decide +kernel
 |2,_=>by decide +kernel
 |3,_=>by decide +kernel
 |4,_=>by decide +kernel
 |5,_=>by decide +kernel
 |6,_=>by decide +kernel
 |7,_=>by decide +kernel
 |n+8,h=>MM h (!6)
def Hu(a:MZ)(b:m<256)(c:i≤(b_ m).β):RS.below (b_ m).χ (if i=0 then 0 else(b_ m).ML (i-1) 0+1)=i/\(ao a (b_ m)).Zf (b_ m).β=ξ:=by
 let d:=(gr (k:=0) b (!0)).2.2.1;let h:=NP.mp (NP.mp uA m (Np.Ot b)) i (Np.Ot (!6));let h:bQ a m i=ξ:=by
  rw[Oz]at h;cases a
  .exact h.2
  .exact h.1
 unfold bQ at h;rw[NM c]at h;simpa using h
section
variable{P:Program}{w:World}{A:Around}{E:Value->Shared->Prop}{s:Shared}{a:Addr}{m k:Nat}
def LI(h:k<8):(N5 P w).Yt (k:MN)=(k:MN):=by
 rcases k with _|_|_|_|_|_|_|_|k;any_goals rfl
 lia
def Fa:∀{ks:LN}{ts:γ XM}{e:MN×θ},e∈Pv ks ts->∃k∈ks,∃t,e=((k:MN),θ.MS (k:MN) t,)
 |[],_,e,h=>by simp[Pv]at h
 |_::_,[],e,h=>by simp[Pv]at h
 |k::ks,t::ts,e,h=>by
  rcases MP.mp (show e∈((k:MN),θ.MS (k:MN) t,)::Pv ks ts from h)with ζ|h
  .exact (k,!1,t,1)
  .obtain ⟨k',b,t',e'⟩:=Fa h;show(k',by simp[b],t',e')
def sD(h:∀x∈ks,x<8):ElemsOf (N5 P w) (Pv ks ts):=λe c=>by
 let⟨k,b,t,ζ⟩:=Fa c;show(((k:MN),YV _ _ _ _,(LI (h k b)).MQ),1)
def nJ:∀{ks:LN}{ts:γ XM},ts.β=ks.β->((Pv ks ts).Wn (λe=>(N5 P w).is (k:MN) e.2)).Rz=decide (k∈ks)
 |[],_,_=>by simp[Pv]
 |k'::ks,t::ts,h=>by
  let b:=nJ (ks:=ks) (ts:=ts) (by simpa using h);let e:(N5 P w).is (k:MN) (θ.MS (k':MN) t)=decide (k'=k):=by
   change θ.YT (k:MN) (θ.MS (k':MN) t)=_;by_cases c:k'=k
   .subst c;simp[θ.YT]
   .rw [M5 c];simp[θ.YT,show ¬ (k':MN)=(k:MN)from λz=>c (MN.ofNat.QK z)]
  rw[show Pv (k'::ks) (t::ts)=((k':MN),θ.MS (k':MN) t,)::Pv ks ts from ζ,γ.findIdx?_cons];dsimp only;rw[e];by_cases c:k'=k
  .subst c;simp
  .rw [BT (by simpa using c),ω.isSome_map,b];simp[show ¬ k=k' from λz=>c z.MQ]
def Kc(S:m<256)(M:k<8)(hS:ba w s.π a m)(h:∀b h',Pg a s.π h'->ba w h' a (m ||| 2^k)->Q b {s with π:=h'}):Ω (Cl P w) A (setAddHashed a (.MS (k:MN) t) ((N5 P w).Yt (k:MN))) Q E s:=by
 let⟨o,ts,ep,C,R,D,H⟩:=hS;let⟨s1,s2,s3,s4⟩:=gr S M;let hz:(Pv (b_ m) ts).χ.MX=(b_ m).β:=by rw[NH,DF D]
 let hf:(ao (av w) (b_ m)).Zf (Pv (b_ m) ts).χ.MX=ξ:=by rw[hz];show(Hu _ S (Nf _)).2
 let F:ElemsOf (N5 P w) (Pv (b_ m) ts).χ.NF:=sD s4;let hs:(Pv (b_ m) ts).χ.MX<scanBound:=by rw[hz];show Nm s3 (!0)
 unfold setAddHashed setAddHashedIn;refine NT (d_ (P9 C H hf ?_));dsimp only;rw[byScan_of (Va:=N5 P w) (x:=.MS (k:MN) t) ζ hs F,Id ζ];unfold setAddByScan;refine d_ (d_ (WL (d_ (wpAny_setScan_of (Va:=N5 P w) (YV _ _ _ _) C H hf F ?_))));let g:=nJ (P:=P) (w:=w) (k:=k) D;by_cases i:k∈b_ m
 .rw [NM i]at g;let⟨j,U⟩:=ω.isSome_iff_exists.mp g;rw[show γ.Wn _ (Pv (b_ m) ts).χ.NF<*j from U];dsimp only;refine j' (j' ?_);have:=h η s.π (Pg.Tn a s.π) (by rw[s1 i];show(o,ts,ep,C,R,D,H));show this
 .rw [M5 i]at g;let U:γ.Wn (λe=>(N5 P w).is (k:MN) e.2) (Pv (b_ m) ts)=ε:=by
   cases q:γ.Wn (λe=>(N5 P w).is (k:MN) e.2) (Pv (b_ m) ts)with
   |ε=>rfl
   |δ j=>rw[q]at g;cases g
  rw[show γ.Wn _ (Pv (b_ m) ts).χ.NF=ε from U];dsimp only;let⟨c1,c2,X,c4,J⟩:=zA (av w) S M i;let f:(ts.OE (AZ (b_ m) k)++t::ts.Py (AZ (b_ m) k)).β=(yl (b_ m) k).β:=by simp[yl,D]
  let hL:layNew (ao (av w) (b_ m)) (Pv (b_ m) ts).χ ((N5 P w).Yt (k:MN)) (.MS (k:MN) t)=((Pv (yl (b_ m) k) (ts.OE (AZ (b_ m) k)++t::ts.Py (AZ (b_ m) k))).χ,Ej (ao (av w) (b_ m)) (yl (b_ m) k),η,η,):=by
   unfold layNew;rw[LI M,c1];dsimp only;rw[c2];dsimp only;rw[Kb,<-sF D];let N:(Pv ((b_ m).OE (AZ (b_ m) k)++k::(b_ m).Py (AZ (b_ m) k)) (ts.OE (AZ (b_ m) k)++t::ts.Py (AZ (b_ m) k))).χ.MX=(yl (b_ m) k).β:=by rw[NH];show DF f
   rw[N,RS.orStandIn,Id X,X];rfl
  rw[hL];dsimp only;let B:(Ej (ao (av w) (b_ m)) (yl (b_ m) k)).plain=ξ:=ζ;let l:=jF f;let d:=DF f;generalize hT:Ej (ao (av w) (b_ m)) (yl (b_ m) k)=T at B c2 X J⊢;let p:∀(h':NR)(v:Rp)(r:Φ)(T':RS),Pg a s.π h'->h'.ψ a<*v->v.ExactSet->v.NL=.Ra (Pv (yl (b_ m) k) (ts.OE (AZ (b_ m) k)++t::ts.Py (AZ (b_ m) k))).χ r T'->T'=ao (av w) (yl (b_ m) k)->Q ξ {s with π:=h'}:=by
   rintro h' v r T' I W g3 g4 ζ;rw[c4]at g4 f;show h ξ h' I (v,_,r,W,g3,f,g4)
  generalize Pv (yl (b_ m) k) (ts.OE (AZ (b_ m) k)++t::ts.Py (AZ (b_ m) k))=c at l d p⊢;let y:c.χ.MX≤Λ:=by
   rw[NH,d,c4,OQ];have:=(gr s2 M).2.2.1;lia
  let u:∀(h1:NR)(L:Rp)(N:Nt (MN×θ))(n1:Φ)(Z O:RS),h1.ψ a<*L->L.NL=.Ra N n1 Z->(h1.O4 a (Rp.putSet c.χ O)).ψ a<*{L with NL:=.Ra c.χ (n1+1) O}:=by
   intro h1 L N n1 Z O z1 Y;let z:=N3 (Rp.putSet c.χ O) z1 (by rw[putSet_of _ _ Y];rfl);rw[putSet_of _ _ Y]at z;show z
  refine d_ (j' ?_);rw[Id B,hashByValue_scannable 8 (x:=.MS (k:MN) t) ζ];refine d_ (j' ?_);rw[show plainKind (.MS (k:MN) t)=ξ from ζ];simp only[Wj,MZ.not_false,MZ.true_and];refine d_ (wpAny_storeSet_of C H ?_ y);let I:=u _ _ _ _ _ T C H;let sb:=Pg.O4 s.π a (Rp.putSet c.χ T);by_cases ct:T.tooFull=ξ
  .rw [Id ct]at J⊢;let⟨d1,d2,d3⟩:=J;let hR:relayAll T c.χ (RS.grown c.χ.MX)=(c.χ,ao (av w) (yl (b_ m) k),η,):=by
    unfold relayAll;rw[show c.χ.NN (·.1)=((yl (b_ m) k).NN λ(n:Φ)=>(n:MN)).χ by rw[γ.map_toArray,<-l],NH,d,d1];dsimp only;rw[<-d,qK,NH,d,d2,d3];rfl
   rw[hR];refine d_ (j' (d_ (wpAny_storeSet_of I ζ ?_ y)));let W:=u _ _ _ _ _ (ao (av w) (yl (b_ m) k)) I ζ;show j' (j' (p _ _ _ _ (sb.ν (Pg.O4 _ a _)) W R ζ ζ))
  .rw [BT ct]at J⊢;show j' (j' (p _ _ _ _ sb I R ζ J))
def bZ{ns:LN}(h:i<ns.β):ns.ML i 0=ns[i]:=by rw[u6,n_ h];rfl
abbrev DZ(ns:LN):Φ:=ns.foldl (λm k=>m ||| 2^k) 0
def ph(ns:LN)(k:Φ):DZ (ns++[k])=DZ ns ||| 2^k:=by simp[DZ,γ.U3]
def bR(h:∀x∈ns,x<8):DZ ns<256:=by
 have:∀(ns:LN)(m:Φ),(∀x∈ns,x<8)->m<256->ns.foldl (λm k=>m ||| 2^k) m<256:=by
  intro ns;induction ns with
  |Ow=>show λm _ b=>b
  |NZ k r d=>show λm c b=>d _ (λx e=>c x (by simp[e])) (gr b (c k (!1))).2.1
 show this ns 0 h (!0)
def ba.QC(x:ba w h a m)(e:∀o,h.ψ a<*o->h'.ψ a<*o):ba w h' a m:=by
 let⟨o,ts,c,b,r⟩:=x;show(o,ts,c,e o b,r)
def yX{St:Φ->NR->Prop}(W:Walks P w A.S5 I Y wr n Z St)(l:S∉Y)(O:ns.β=n)(D:∀x∈ns,x<8)(N:∀i v,Z i v->∃t,v=.MS ((ns.ML i 0:Φ):MN) t):∀(j i:Φ)(s:MJ),n-i=j->i≤n->St i s.π->ba w s.π S (DZ (ns.OE i))->
   (∀(h':NR)(f:Φ),(∀b o,b∉S::wr->s.π.ψ b<*o->h'.ψ b<*o)->ba w h' S (DZ ns)->R (.ok (.UX .ε)) {s with π:=h',MW:=f})->Qh (Cl P w) A (.Nk "set.update.loop" ([.ο S,.ο I],[])) R s:=by
 let hw:S∉wr:=λz=>l (W.Rr _ z);intro j;induction j with
 |TF=>
  intro i s T U st x q;cases(show i=n by lia);refine Pf Oi.Sf.F.Zs ?_;rw[N2.R7 Oi.Sf.F.VH _];change Ω _ A.S5 (Uu (.ο I)>>=_) _ _ s;refine d_ (W.done s _ _ st λh' f g=>?_);rw[<-O,SO]at x;show j' (q h' f (λb o d e=>g b o (λz=>d (by simp[z])) e) (x.QC λo e=>g S o hw e))
 |Si j L=>
  intro i s T U st x q;let h:i<n:=by lia
  refine Pf Oi.Sf.F.Zs ?_;rw[N2.R7 Oi.Sf.F.VH _];change Ω _ A.S5 (Uu (.ο I)>>=_) _ _ s;refine d_ (W.Uy i s _ _ h st λv h' f pv r g=>?_);let⟨t,ζ⟩:=N i v pv;let c:i<ns.β:=by lia
  let Q:ns.ML i 0<8:=by rw[bZ c];show D _ (Nv c)
  let J:=x.QC (h':=h') λo e=>g S o hw e;change Ω _ A.S5 (holding [θ.MS ((ns.ML i 0:Φ):MN) t] (setAdd S (.MS ((ns.ML i 0:Φ):MN) t))>>=_) _ _ _;refine d_ (NT ?_);unfold setAdd;refine NT (d_ ((N5 P w).UP (k:=((ns.ML i 0:Φ):MN)) (YV _ _ _ _) ?_));refine Kc (bR λy M=>D y (γ.mem_of_mem_take M)) Q (s:={s with π:=h',MW:=f+1}) J λb h2 C B=>?_;rw[<-ph,bZ c,γ.take_append_getElem c]at B;refine j' (R9 Oi.Sf.F.VH _,L (i+1) _ (!6) h (W.RQ _ _ _ r λb d o e=>?_) B λX p u H=>?_)
  .exact (C.2 b (λz=>l (z▸d))).ν e
  .refine q X p (λb o d e=>u b o d ?_) H;show(C.2 b (λz=>d (by simp[z]))).ν (g b o (λz=>d (by simp[z])) e)
def Ke(u:θ)(q:Q1 (.ο s⁻¹) {s with π:=s.π.Nh {OO:=.MO "set",Pz:=ε,NL:=.Ra #[] 0 (.OG 0 0 (av w))} }):Qh (Cl P w) A (.Qk (.Nk "set.__new__") ([.MO "set",u],[])) (wants Q1 E) s:=by
 refine Xs (show Ω _ A.S5 (do checkBuiltinCall "set.__new__" ([.MO "set",u],[]);again (.Nk "set.__new__" ([.MO "set",u],[]))) _ _ s from ?_);refine d_ (Rc (Δ.F.newCall_set_1 u) (j' (R9 Δ.F.plain_set_new _,Pf Δ.F.entry_set_new ?_)));rw[N2.R7 Δ.F.plain_set_new _];unfold Builtin.«set.__new__» Builtin.Frozenset.newClass;let z:=sub_set_self;let⟨hp,g,d,b,os⟩:=s;dsimp only
 wp_walk
 refine Su (j' ?_);dsimp only;simp only[newObj];show d_ (VQ (j' (j' q)))
def uV(b:h.ψ a<*{OO:=.MO "set",Pz:=ε,NL:=.Ra #[] 0 (.OG 0 0 (av w))}):ba w h a 0:=(_,[],(0),b,(5,1),5)
def zr{d:γ θ}(hh:A.PR=ε)(B:s.π.SM l d.χ)(hn:ns.β=d.β)(h8:∀x∈ns,x<8)(Z:∀(i:Φ)(v:θ),d[i]?<*v->∃t,v=.MS ((ns.ML i 0:Φ):MN) t)(q:∀(h':NR)(g:Φ),ba w h' s⁻¹ (DZ ns)->(∀b o,s.π.ψ b<*o->h'.ψ b<*o)->Q (.ο s⁻¹) {s with π:=h',MW:=g}):Ω (Cl P w) A (Qk (.MO "set") [.ο l]) Q E s:=by
 let⟨c,tl,X⟩:=S8.mro;let I:=S8.made;let Rr:=S8.Rr;refine QS (Xs (show Ω _ _ (callAny (.MO "set") _) _ _ _ from ?_));refine j' (Xv.Yp _ (!3),Pf Δ.F.entry_type_call ?_);rw[N2.under_plain (weight_type_call_type "set" [.ο l] []) ζ];let k1:=S8.notType;let k2:=S8.canCreate;let k3:=Δ.F.typeCall_set_1 (.ο l);repeat (any_goals (first|assumption|wp_step))
 refine Pd (Ke (.ο l) (E:=E) (Q1:=λH D=>H=.ο s⁻¹/\D={s with π:=s.π.Nh {OO:=.MO "set",Pz:=ε,NL:=.Ra #[] 0 (.OG 0 0 (av w))} }) (1,1)) λr D u=>?_;cases r with
 |SA e=>show u
 |ok fl=>
  cases fl with
  |UX H=>
   let⟨rfl,ζ⟩:=u;let M:(s.π.Nh {OO:=.MO "set",Pz:=ε,NL:=.Ra #[] 0 (.OG 0 0 (av w))}).ψ s⁻¹<*{OO:=.MO "set",Pz:=ε,NL:=.Ra #[] 0 (.OG 0 0 (av w))}:=MV _ ζ;let N:MJ.Se {s with π:=s.π.Nh {OO:=.MO "set",Pz:=ε,NL:=.Ra #[] 0 (.OG 0 0 (av w))} } (.ο s⁻¹) "set":=(_,M,1);let k4:=S8.init.ρ;let k5:=S8.init.Wr (.ο s⁻¹);repeat (any_goals (first|assumption|wp_step))
   refine Pd (Rl (R:=wants (λr s2=>r=.ε/\∃h' g,s2={s with π:=h',MW:=g}/\ba w h' s⁻¹ (DZ ns)/\∀b o,s.π.ψ b<*o->h'.ψ b<*o) E) S8.init.plain Δ.F.entry_set_init (check_set_init_1 N ?_)) λO s2 f=>?_
   .let hlS:l<s⁻¹:=let⟨_,z,_⟩:=B;lt_size z;let h:=B.Nh {OO:=.MO "set",Pz:=ε,NL:=.Ra #[] 0 (.OG 0 0 (av w))};let⟨S,y,n,U,j⟩:=B;let⟨oc,T,oD,os⟩:=S;simp only at n j;subst n;subst j;let J:(s.π.Nh {OO:=.MO "set",Pz:=ε,NL:=.Ra #[] 0 (.OG 0 0 (av w))}).ψ l<*{OO:=.MO "list",Pz:=T,NL:=.Sz d.χ U,Ry:=os}:=sy _ y;let k6:=Δ.F.sub_list_set;let k7:=Δ.F.sub_list_frozenset;let k8:(θ.MO "list"==θ.MO "dict")=η:=by decide
    unfold Builtin.«set.__init__» noKeywords Builtin.Frozenset.updateFrom;generalize C:VV=PI
    wp_walk
    subst C;refine RW h (d_ (YB ?_));let Y:A.S5.S5.S5.PR=ε:=by simp[hh]
    let n1:l≠(s.π.Nh {OO:=.MO "set",Pz:=ε,NL:=.Ra #[] 0 (.OG 0 0 (av w))}).Nr.MX:=by rw[Op];show M_ (QJ hlS)
    let W:s⁻¹∉[(s.π.Nh {OO:=.MO "set",Pz:=ε,NL:=.Ra #[] 0 (.OG 0 0 (av w))}).Nr.MX,l]:=by
     rw[Op];simp only[MP,NV,N7,not_or];show(M_ (OC _),Qg hlS)
    refine yX (Walks.Qx Y _ l n1 d.χ) W (by rw[hn,NH]) h8 (λi v z=>Z i v (by simpa using z)) _ 0 _ ζ (Nf _) ((_,MV _ ζ,5),h.Nh _) (uV (sy _ M)) λh' g p x=>?_;refine j' (j' (1,h',g,1,x,λb o e=>p b o ?_ (sy _ (sy _ e))));let L:=lt_size e;simp only[MP,NV,N7,not_or];refine(M_ L,3);rw[Op];show M_ (QJ L)
   .cases O with
    |SA e=>show f
    |ok f2=>
     cases f2 with
     |UX r=>
      let⟨rfl,h',g,ζ,x,p⟩:=f;repeat (any_goals (first|assumption|wp_step))
      show q _ _ x p
     |_=>show f.Nx
  |_=>show u.Nx
end
def b_u:Slot "set_iterator" "__next__" "set_iterator.__next__":=.of (owner:="set_iterator") (n:="__next__") (by rw[VA,Sq];kernel_rfl) (!3) (!3) (!3) (by first|show .NJ (!3)|show .NU (!3)) (by rw[Vb];kernel_rfl)
def LJ:Slot "set_iterator" "__iter__" "set_iterator.__iter__":=.of (owner:="set_iterator") (n:="__iter__") (by rw[VA,Sq];kernel_rfl) (!3) (!3) (!3) (by first|show .NJ (!3)|show .NU (!3)) (by rw[Vb];kernel_rfl)
def LK:entryFor table "set_iterator.__next__"<*Builtin.«set_iterator.__next__»:=entryFor_of_fast (by kernel_rfl)
def dU:entryFor table "set_iterator.__iter__"<*Builtin.«dict_keyiterator.__iter__»:=entryFor_alias (id':="dict_keyiterator.__iter__") (by kernel_rfl) ζ (!3) (by kernel_rfl)
def g6:entryFor table "set.__iter__"<*Builtin.«frozenset.__iter__»:=entryFor_alias (id':="frozenset.__iter__") (by kernel_rfl) ζ (!3) (by kernel_rfl)
def LM(a:θ):argsOk "set_iterator.__next__" ([a],[]):=by unfold argsOk;kernel_rfl
def ij(a:θ):argsOk "set_iterator.__iter__" ([a],[]):=by unfold argsOk;kernel_rfl
def sG{a:Type}:∀{l:γ a}{i:Φ}(h:i<l.β),(l[i]::l.eraseIdx i).Xu l
 |x::l,0,_=>.Tn _
 |x::l,i+1,h=>by
  let h':i<l.β:=by simpa using h
  change (l[i]::x::l.eraseIdx i).Xu (x::l);show(Xu.swap _ _ _).ν ((sG h').NZ x)
def qL{b:Type}(next:Φ->Φ):∀(n k:Φ)(l:γ b)(TL:Nt b),l.β=n->(SR.go next n k l TL).NF.Xu (TL.NF++l)
 |0,k,l,TL,h=>by
  cases PL.mp h;simp[SR.go]
 |n+1,k,l,TL,h=>by
  let a:next k%l.β<l.β:=Φ.mod_lt _ (!6);unfold SR.go;rw[n_ a];dsimp only;refine(qL next n (k+1) _ _ (by rw[γ.length_eraseIdx_of_lt a];lia)).ν ?_;rw[Nt.toList_push,Na];refine Xu.append_left _ ?_;show sG a
def oO(next:Φ->Φ)(l:γ a):(SR next l.χ).NF.Xu l:=by
 unfold SR;have:=qL next l.χ.MX 0 l.χ.NF #[] ζ;simpa using this
abbrev cq(w:N1)(a:υ)(m:Φ)(ts:γ XM)(ep:Φ):γ θ:=
 if w.O5.SK "set-order"=ξ then(SR (w.O5.YK a ep) (Pv (b_ m) ts).χ).NF.NN (·.2)else(Pv (b_ m) ts).NN (·.2)
def e_Q:(cq w a m ts b).Xu ((Pv (b_ m) ts).NN (·.2)):=by
 unfold cq;split
 .exact (oO _ _).NN _
 .exact .Tn _
abbrev Sl(w:N1)(m i:Φ):Φ:=if w.O5.SK "set-order"=ξ then 0 else if i=0 then 0 else(b_ m).ML (i-1) 0+1
section
variable{P:Program}{w:World}{A:Around}{E:Value->Shared->Prop}{s:Shared}{a I:Addr}{m i ep:Nat}{oS:Obj}{ts:List Tok}
def iN(o:m<256)(h:ts.β=(b_ m).β)(n:s.π.ψ a<*oS)(q:oS.NL=.Ra (Pv (b_ m) ts).χ ep (ao (av w) (b_ m)))(r:i≤(b_ m).β)(h1:∀v,(cq w a m ts ep)[i]?<*v->Q (δ (v,Sl w m (i+1),)) s)(h2:i=(b_ m).β->Q ε s):Ω (Cl P w) A (setNext a (Sl w m i) i ep) Q E s:=by
 let hz:(Pv (b_ m) ts).χ.MX=(b_ m).β:=by rw[NH,DF h]
 let p:(ao (av w) (b_ m)).Zf (Pv (b_ m) ts).χ.MX=ξ:=by rw[hz];show(Hu _ o (Nf _)).2
 let j:(cq w a m ts ep).β=(b_ m).β:=by rw[e_Q.length_eq,ol,DF h]
 unfold setNext;refine d_ (P9 n q p ?_);dsimp only;unfold setsByText;refine d_ (d_ (Su (j' ?_)));dsimp only;by_cases c:w.O5.SK "set-order"=ξ
 .rw [show(Cl P w).w.O5.SK "set-order"=ξ from c,Id ζ];rw[BT (!1)];let l:Sl w m i=0:=by unfold Sl;rw[Id c]
  let k:Sl w m (i+1)=0:=by unfold Sl;rw[Id c]
  rw[l];unfold setWalk;refine d_ (d_ (P9 n q p ?_));dsimp only;unfold setsByText;refine d_ (d_ (Su (j' ?_)));dsimp only;rw[show(Cl P w).w.O5.SK "set-order"=ξ from c,Id ζ];refine d_ (Su (j' (j' ?_)));let f:cq w a m ts ep=(SR (w.O5.YK a ep) (Pv (b_ m) ts).χ).NF.NN (·.2):=Id c;rw[k,f]at h1;rw[f,ol]at j;by_cases d:i<(b_ m).β
  .let b:i<(SR (w.O5.YK a ep) (Pv (b_ m) ts).χ).NF.β:=by lia
   let g:=h1 _ (by rw[tS,n_ b];rfl);change Q (((SR (w.O5.YK a ep) (Pv (b_ m) ts).χ)[i]?).NN _) s;rw[<-Qd,n_ b];show g
  .change Q (((SR (w.O5.YK a ep) (Pv (b_ m) ts).χ)[i]?).NN _) s;rw[<-Qd,Pl (!6)];show h2 (!6)
 .let cf:w.O5.SK "set-order"=η:=by simpa using c
  rw[show(Cl P w).w.O5.SK "set-order"=η from cf];rw[BT MZ.M'];refine RJ (λz=>MM z λy=>MZ.M' y) λ_=>?_;let e:av w=ξ:=by unfold av;rw[cf];rfl
  refine d_ (show Ω _ _ (if (!(av w)&&!(Pv (b_ m) ts).χ.SG)=ξ then _ else _) _ _ _ from ?_);rw[e];refine RJ (λz=>MM z λy=>MZ.M' y) λ_=>j' ?_;let l:Sl w m i=if i=0 then 0 else(b_ m).ML (i-1) 0+1:=by unfold Sl;rw[BT c]
  let k:Sl w m (i+1)=(b_ m).ML i 0+1:=by unfold Sl;rw[BT c,BT (!6)];rfl
  let t:RS.below (ao ξ (b_ m)).Re (Sl w m i)=i:=by rw[l];show(Hu ξ o r).1
  let f:cq w a m ts ep=(Pv (b_ m) ts).NN (·.2):=BT c;rw[k,f]at h1;refine j' ?_;rw[t];by_cases d:i<(b_ m).β
  .let b:i<(Pv (b_ m) ts).β:=by rw[DF h];show d
   let g:=h1 _ (by rw[tS,n_ b];rfl);rw[show(Pv (b_ m) ts).χ[i]?<*(Pv (b_ m) ts)[i] by simp[b],show(ao ξ (b_ m)).Re[i]?<*(b_ m)[i] by simp[ao,d]];rw[bZ d]at g;show g
  .rw [show(Pv (b_ m) ts).χ[i]?=ε by simp[DF h];lia];show h2 (!6)
abbrev Kf(w:N1)(h:NR)(I a:υ)(m i ep:Φ):Prop:=∃o,h.ψ I=δ o/\o.OO=.MO "set_iterator"/\o.NL=.OB #[Ny (Sl w m i),Ny i,.ο a,Ny (b_ m).β,Ny ep]
def Kf.MO(x:Kf w s.π I a m i ep):s.Se (.ο I) "set_iterator":=let⟨o,b,c,_⟩:=x;(o,b,c)
def xP(J:A.PR=ε)(p:m<256)(j:ts.β=(b_ m).β)(t:oS.NL=.Ra (Pv (b_ m) ts).χ ep (ao (av w) (b_ m)))(u:a≠I):Walks P w A I [I,a] [I] (b_ m).β (λi v=>(cq w a m ts ep)[i]?<*v) (λi h=>Kf w h I a m i ep/\h.ψ a<*oS) where
 Rr:=λb l=>by simp at l;simp[l]
 RQ:=λi h h' st k=>by
  let⟨⟨o,f,r⟩,g⟩:=st;show((o,k I (!1) o f,r),k a (!1) _ g)
 Uy:=λi s Q E D st q=>by
  let⟨x,g⟩:=st;let d:=x.MO;let⟨o,f,F,c⟩:=x;let y:(ao (av w) (b_ m)).Zf (Pv (b_ m) ts).χ.MX=ξ:=by rw[NH,DF j];show(Hu _ p (Nf _)).2
  unfold Uu;refine d_ (S_ (OT (OH:=NB.Ni "__next__") d b_u (Oj b_u d LK ?_ (LM _))));refine d_ (j' (d_ (wpAny_fieldsOf f c ?_)));change Ω _ _ (WM a>>=_) _ _ s;unfold WM;refine d_ (d_ (P9 g t y (j' ?_)));rw[NH,DF j];refine RJ (λz=>MM z (!1)) λ_=>?_;refine d_ (iN (i:=i) p j g t (Pq D) (λv n=>?_) λz=>MM z (M_ D));change Ω _ _ (VT (.ο I) 0 (Ny (Sl w m (i+1)))>>=_) _ _ s;let H:=N3 (O7 (·.NY 0 (Ny (Sl w m (i+1))))) f (Pb (OU c _));let d1:=OU c (·.NY 0 (Ny (Sl w m (i+1))));refine d_ (QP f c (!1) (d_ (QP H d1 (!1) ?_)));let L:=N3 (O7 (·.NY 1 (Ny ((i:MN)+1)))) H (Pb (OU d1 _));let d2:=OU d1 (·.NY 1 (Ny ((i:MN)+1)));let B:=(Pg.O4 s.π I (O7 (·.NY 0 (Ny (Sl w m (i+1)))))).ν (Pg.O4 _ I (O7 (·.NY 1 (Ny ((i:MN)+1)))));refine j' (0,j' (q v _ s.MW n ((_,L,3,3),(B.2 a u).ν g) λb C l e=>(B.2 b (λz=>l (by simp[z]))).ν e))
  .rw [Rp.Yx,Rp.Yx];show F
  .rw [d2];simp[Ny]
 done:=λs Q E st q=>by
  let⟨x,g⟩:=st;let d:=x.MO;let⟨o,f,F,c⟩:=x;let y:(ao (av w) (b_ m)).Zf (Pv (b_ m) ts).χ.MX=ξ:=by rw[NH,DF j];show(Hu _ p (Nf _)).2
  unfold Uu;refine d_ (S_ (OT (OH:=NB.Ni "__next__") d b_u (Oj b_u d LK ?_ (LM _))));refine d_ (j' (d_ (wpAny_fieldsOf f c ?_)));change Ω _ _ (WM a>>=_) _ _ s;unfold WM;refine d_ (d_ (P9 g t y (j' ?_)));rw[NH,DF j];refine RJ (λz=>MM z (!1)) λ_=>?_;refine d_ (iN (i:=(b_ m).β) p j g t (LE _) (λv n=>?_) λ_=>?_)
  .rw [Pl (by rw[e_Q.length_eq,ol,DF j];show LE _)]at n;cases n
  .change Ω _ _ (VT (.ο I) 2 .ε>>=_) _ _ s;refine d_ (QP f c (!1) (d_ ?_));simp only[newExc,newTuple];refine d_ (On ?_ (by size_fits));refine d_ (m:=Ve _ _) (Rc (a:=θ.ε) (by first|rfl|(simp only[Ve];rfl)) (On ?_ (by size_fits)));simp only[Z9];refine d_ (Yl ?_);rw[show A.S5.PR=ε from J];refine d_ (j' (VM ?_));refine d_ (Sr (T:="StopIteration") (b:=ξ) (_,MV _ ζ,1) YS (j' (q _ s.MW λb C l e=>?_)));show((Pg.O4 s.π I (O7 (·.NY 2 .ε))).S6.Nh _).Nh _ b C (λz=>l (by simp[z])) e
 Yn:=λi s Q E st q=>by
  let d:=st.1.MO;refine wpAny_pyIter_slot d LJ (Oj LJ d dU (show Ω _ _ (UX (.ο I)) _ _ s from ?_) (ij _));show j' (0,"set_iterator",_,d,b_u.ρ,q)
def za(j:m<256)(f:ts.β=(b_ m).β)(b:s.π.ψ a<*oS)(h:oS.ExactSet)(d:oS.NL=.Ra (Pv (b_ m) ts).χ ep (ao (av w) (b_ m)))(q:Q (.ο s⁻¹) {s with π:=s.π.Nh {OO:=.MO "set_iterator",NL:=.OB #[Ny (Sl w m 0),Ny (0:Φ),.ο a,Ny (b_ m).β,Ny ep]} }):Ω (Cl P w) A (VV (.ο a)) Q E s:=by
 let g:s.Se (.ο a) "set":=(oS,b,h.1);let c:(ao (av w) (b_ m)).Zf (Pv (b_ m) ts).χ.MX=ξ:=by rw[NH,DF f];show(Hu _ j (Nf _)).2
 refine wpAny_pyIter_slot g Δ.F.slot_set_iter (Oj Δ.F.slot_set_iter g g6 ?_ (Δ.F.args_set_iter_1 _));unfold Builtin.«frozenset.__iter__»;refine d_ (show Ω _ _ (pure a) _ _ s from j' ?_);unfold Builtin.Frozenset.sizeOf WM;refine d_ (d_ (d_ (P9 b d c (j' (j' ?_)))));unfold setDrawn;refine d_ (d_ (P9 b d c ?_));unfold setsByText;refine d_ (d_ (Su (j' (j' ?_))));let e:(!(Cl P w).w.O5.SK "set-order"&&η)=η:=by simp
 refine RJ (λz=>MM (e.MQ.ν z) MZ.M') λ_=>d_ (j' ?_);unfold setEpoch;refine d_ (d_ (P9 b d c (j' ?_)));refine d_ (On (j' (0,"set_iterator",_,(_,MV _ ζ,1),b_u.ρ,3)));let k:(Sl w m 0:MN)=0:=by unfold Sl;split<;>rfl
 rw[k]at q;simpa[Ny,DF f]using q
def zn(d:s.Se (.ο a) "set")(h:Q η s):Ω (Cl P w) A (Builtin.γ.YQ (.ο a)) Q E s:=by
 unfold Builtin.γ.YQ;refine d_ (U' d Δ.F.slot_set_len.ρ ?_);generalize c:("set.__len__":Yg)=e
 wp_delta
 rw[show splitId e<*("set","__len__",)from by subst c;decide +kernel];subst c;refine d_ (Sr (T:="set") (b:=ξ) d (by rw[Vb];kernel_rfl) (RJ (λz=>MM z (!0)) λ_=>?_));show RJ (λ_=>d_ (WX d (j' h))) λz=>MM (!3) z
def zT(d:m<256)(e:ts.β=(b_ m).β)(c:oS.ExactSet)(f:oS.NL=.Ra (Pv (b_ m) ts).χ ep (ao (av w) (b_ m))):Δ.W.KdlSrc P w "set" a a (b_ m).β (λi v=>(cq w a m ts ep)[i]?<*v) (λh=>h.ψ a<*oS) where
 MO:=λ_ b=>(oS,b,c.1)
 QU:=λ_ b=>(lt_size b,lt_size b)
 QC:=λ_ _ b k=>k a (.NJ ζ) _ b
 notList:=by decide
 notTuple:=by decide
 hint:=λ_ _ _ _ b q=>zn (oS,b,c.1) q
 Qt:=λ_ _ g b=>(7,(λ_ _ q=>za d e b c f q),xP g d e f (M_ (lt_size b)),((_,MV _ ζ,5),sy _ b))
def nH:∀{ks:LN}{ts:γ XM},ts.β=ks.β->TD ((Pv ks ts).NN (·.2)) (ks.NN λ(n:Φ)=>(n:MN))
 |[],_,_=>.Ow
 |k::ks,t::ts,h=>.NZ (k:MN) t (nH (by simpa using h))
def pF(p:g.Xu l):∀{ns:γ MN},TD l ns->∃b,TD g b/\b.Xu ns:=by
 induction p with
 |Ow=>show λh=>(_,h,.Tn _)
 |NZ x p j=>
  intro ns h;cases h with
  |NZ n t h=>
   let⟨b,d,c⟩:=j h;show(n::b,.NZ n t d,c.NZ n)
 |swap x y l=>
  intro ns h;cases h with
  |NZ n t h=>cases h with
   |NZ f t' h=>show(_,.NZ f t' (.NZ n t h),.swap _ _ _)
 |ν r q i1 i2=>
  intro ns h;let⟨n1,d,c⟩:=i2 h;let⟨e,o,k⟩:=i1 d;show(e,o,k.ν c)
def vj(m:Φ):((b_ m).NN λ(n:Φ)=>(n:MN)).Pairwise (·≤·):=by
 rw[γ.pairwise_map];show((γ.pairwise_lt_range (n:=8)).SL _).Wi λh=>by lia
def zq(K:Δ.W.KdlSrc P w T a a n u OK)(B:A.PR=ε)(j:OK s.π)(v:n≤Λ)(q:∀(h':NR)(h:Φ)(d:Nt θ),s⁻¹≤h'.Nr.MX->(∀b o,s.π.ψ b<*o->h'.ψ b<*o)->ItemsOf u d n->R d.NF {s with π:=h',MW:=h}):Ω (Cl P w) A (collect (.ο a)) R E s:=by
 let t:=(K.QU _ j).1;unfold collect;refine d_ (YB (Pf entry_proto_collect' ?_));rw[N2.R7 Δ.F.plain_proto_collect _];refine(show Ω _ A.S5 (newList []>>=λl=>again (.Nk "list.__iadd__" ([l,.ο a],[]))) _ _ s from d_ (On (j' (R9 Δ.F.plain_list_iadd _,Pf entry_list_iadd' ?_))));rw[N2.R7 Δ.F.plain_list_iadd _];let C:(s.π.Nh {OO:=.MO "list",NL:=.Sz ([]:γ θ).χ}).ψ s⁻¹<*{OO:=.MO "list",NL:=.Sz #[]}:=MV _ ζ;let p:=Δ.W.kdl_extend (A:=A) (s:={s with π:=s.π.Nh {OO:=.MO "list",NL:=.Sz ([]:γ θ).χ} })
  (R:=λ(r:Result)(s':MJ)=>∃(h':NR)(h:Φ)(d:Nt θ)(c:Φ),r=.ok (.UX (.ο s⁻¹))/\s'={s with π:=h',MW:=h}/\(∀b o,s.π.ψ b<*o->h'.ψ b<*o)/\
   h'.ψ s⁻¹=δ {OO:=.MO "list",Pz:=ε,NL:=.Sz d c,Ry:=#[]}/\ItemsOf u d n)
  K B (K.QC _ _ j λb _ o e=>sy _ e) s⁻¹ (Qg t) (Qg t) (.ο s⁻¹) 0 C
  (λh' h d c k g z=>(h',h,d,c,5,λb o e=>k b o (M_ (lt_size e)) (sy _ e),g,z)) v
 refine(show Ω _ A.S5 (Builtin.γ.VZ (.ο s⁻¹) (.ο a) (.ο s⁻¹)) _ _ _ from NI p (λf s' x=>?_) λe s' x=>?_)
 .cases f with
  |done f=>
   let⟨h',h,d,c,e,ζ,k,g,z⟩:=x;cases e;show(show Ω _ A (load s⁻¹>>=_) _ _ _ from d_ (YE g (j' (q h' h d (Pq (lt_size g)) k z))))
  |again c1=>
   refine(x.1,Pd x.2 λr s2 y=>?_);let⟨h',h,d,c,ζ,ζ,k,g,z⟩:=y;show(show Ω _ A (load s⁻¹>>=_) _ _ _ from d_ (YE g (j' (q h' h d (Pq (lt_size g)) k z))))
 .obtain ⟨_,_,_,_,e',_⟩:=x;cases e'
def yq(N:A.PR=ε)(t:m<256)(S:ba w s.π a m)(q:∀(p:υ)(h':NR)(h n:Φ)(vs:γ θ),s⁻¹≤p->(∀b o,s.π.ψ b<*o->h'.ψ b<*o)->TD vs ((b_ m).NN λ(n:Φ)=>(n:MN))->h'.ψ p<*{OO:=.MO "list",NL:=.Sz vs.χ n}->Q (.ο p) {s with π:=h',MW:=h}):Ω (Cl P w) A (Qk (.Nk "sorted") [.ο a]) Q E s:=by
 let⟨oS,ts,ep,M,L,u,R⟩:=S;refine Δ.SB.call_function_entry kind_sorted plain_sorted entry_sorted (args_sorted1 _) ?_;unfold Builtin.«sorted»;refine d_ (m:=checkCount "sorted" 1 1 _) (j' (d_ (zq (A:=A.S5) (zT (P:=P) t u L R) N M (by rw[OQ];have:=(gr (k:=0) t (!0)).2.2.1;lia) λh' h c V_ C f=>?_)));let d:c.NF.β=(b_ m).β:=by rw[Po];show f.1
 let U:=(gr (k:=0) t (!0)).2.2.1;let r:(cq w a m ts ep).β=(b_ m).β:=by rw[e_Q.length_eq,ol,DF u]
 let g:c.NF=cq w a m ts ep:=by
  refine γ.XZ (by rw[d,r]) λj H F=>?_;have:(cq w a m ts ep)[j]?<*c.NF[j]:=f.2 j c.NF[j] (by rw[<-Qd];show n_ H);rw[n_ F]at this;show(ω.δ.QK this).MQ
 refine d_ (wpAny_newList ?_ (by rw[d,OQ];omega));let v:(h'.Nh {OO:=.MO "list",NL:=.Sz c.NF.χ}).ψ h'.Nr.MX<*seqObj "list" c.NF.χ 0:=MV _ ζ;let B:∃ns,TD c.NF ns/\ns.Xu ((b_ m).NN λ(n:Φ)=>(n:MN)):=by
  rw[g];show pF e_Q (nH u)
 let⟨ns,B,hp⟩:=B;refine d_ (NT ?_);refine Oj slot_list_sort (_,v,1) entry_list_sort (list_sort_tree v B (by rw[d];omega) λTL l i1 i2 J=>?_) (args_list_sort _);let T:l=(b_ m).NN λ(n:Φ)=>(n:MN):=Xu.eq_of_pairwise (λx y _ _ h1 h2=>MN.Rh h1 h2) J (vj m) (i2.ν hp);subst T;refine(0,j' (0,3));let⟨e,O⟩:=sortedHeap_at (TL:=TL) v;refine q h'.Nr.MX _ h e TL.NF ?_ (λb o z=>?_) i1 (by simpa using O)
 .exact V_
 .let D:=lt_size (C b o z);show(sortedHeap_old (M_ D) (by rw[size_push'];show QJ D)).ν (sy _ (C b o z))
end
end L2
namespace RA
open PyProof.Rows L2
abbrev wF(w:N1)(a:υ)(m:Φ):HO:=.ext λh=>ba w h a m
def t8(x:ba w h a m):Az P w H h a (wF w a m):=(x,let⟨o,_,_,e,_⟩:=x;(o,e),λh1 h2 z k=>ba.QC z λo e=>k o e)
def nj:∀{ns:LN}{us:γ θ},ad (c_ ns) us->∀(i:Φ)(v:θ),us[i]?<*v->∃t,v=.MS ((ns.ML i 0:Φ):MN) t
 |[],_,r,i,v,e=>by cases r;simp at e
 |n::ns,_,r,i,v,e=>by
  cases r with
  |NZ q a=>
   let⟨t,ζ⟩:=q;cases i with
   |TF=>cases e;show(t,1)
   |Si i=>show nj a i v e
def d_D:∀{ns:LN}{vs:γ θ},TD vs (ns.NN λ(n:Φ)=>(n:MN))->ad (c_ ns) vs
 |[],_,h=>by cases h;show .Ow
 |n::ns,_,h=>by cases h with|NZ _ t h=>show .NZ (t,1) (d_D h)
section
variable{X:Cx}
def pT(j:X.T9=ξ):Dg X (.MO "set") (λxs H Q=>∃(p:υ)(ns:LN),xs=[.ο p]/\o5 X.K H p (c_ ns)/\(∀n∈ns,n<8)/\∀a,H a=ε->Q (.ο a) (MT H a (wF X.w a (DZ ns)))):=by
 intro c s l H xs us Q I r h;let⟨p,ns,ζ,i,k,q⟩:=h;let⟨u,ζ,e⟩:=Dr r;cases e;let⟨g,b,pl,hz⟩:=I.Qx i;refine zr (ns:=ns) (I.ok.hd j) pl.QW (by rw[<-b.β];simp[c_]) k (nj b) λh' d x f=>?_;show(.ο s⁻¹,_,I.T0 (t':=d) f (LE _) (t8 x),1,q _ (I.Og.OG (LE _)))
def mn(i:X.T9=ξ):Dg X (.Nk "sorted") (λxs H Q=>∃(a:υ)(m:Φ),xs=[.ο a]/\m<256/\H a=δ (wF X.w a m)/\∀p,H p=ε->Q (.ο p) (MT H p (.M7 (c_ (b_ m))))):=by
 intro b s t H xs us Q I r h;let⟨a,m,ζ,c,j,q⟩:=h;let⟨u,ζ,e⟩:=Dr r;cases e;refine yq (I.ok.hd i) c (show ba X.w s.π a m from(I.Og a _ j).1) λp h' d n vs hp f l g=>?_;refine(.ο p,_,I.T0 (t':=d) (o:=.M7 (c_ (b_ m))) f hp (3,vs,n,d_D l,g),1,q _ (I.Og.OG hp));have:=(gr (k:=0) c (!0)).2.2.1;rw[c_,ol,OQ];lia
end
end RA
namespace RA
section
variable{g:LN->Nat->LN}{s:LN}{L:LN}{ks ws R:LL}{Bm:List Bool}{k m:Nat}
def ke(b:Bf g L s ks ws ks.β 0)(a:Dj g L.β ks R)(e:R.β=ks.β)(hw:ws[i]?<*w):(∀c∈w,c∈L)/\PM L R 0 w=i:=by
 let d:i<ks.β:=by rw[b.PQ];show(q5 hw).1
 let⟨l1,l2⟩:=b.lead i ks[i] w (n_ d) hw;refine(l1,3);let h1:=Ka b a e _ w ζ l1;rw[l2]at h1;show gO b.nd h1 (n_ d)
def iy(n:CK L)(d:Bf g L s ks ws ks.β 0)(a:Dj g L.β ks R)(l:R.β=ks.β)(hw:ws[i]?<*w)(e:∀c∈v,c∈L)(h:PM L R 0 v=i):AF L v w=η:=by
 let⟨j,b,p,f,o⟩:=d.told n.nd v _ ζ e;let h1:=Ka d a l _ v ζ e;rw[h]at h1;have:j=i:=gO d.nd p h1;rw[this,hw]at f;cases f;show o
def jB(a:g_ L R Bm)(st:Rd R Bm (k+1)=Rd R Bm k)(b:bb (Rd R Bm k) m)(l:r<(AM R (Rd R Bm k) m).β)(j:t<(AM R (Rd R Bm k) m).β)(e:∀u:LN,(∀c∈u,c∈L)->(Dk Bm (Rd R Bm k) m).ML (PM L (AM R (Rd R Bm k) m) r u) η=(Dk Bm (Rd R Bm k) m).ML (PM L (AM R (Rd R Bm k) m) t u) η):r=t:=by
 rw[AM,ol,OD]at l j;let⟨h,i⟩:=Cy b a l;let⟨f,s2⟩:=Cy b a j;have:=Jk a k h f λu d=>by
  let n:=e u d;rw[<-i,<-s2,Gu b a st h d,Gu b a st f d,Ig b a (Di a h d),Ig b a (Di a f d)]at n;show n
 rw[i,s2]at this;show this
def Io(q:Bf g L s ks ws ks.β 0)(d:Dj g L.β ks R)(x:R.β=ks.β)(a:g_ L R Bm)(st:Rd R Bm (k+1)=Rd R Bm k)(h:bb (Rd R Bm k) m):∃v,BI L (AM R (Rd R Bm k) m) (Dk Bm (Rd R Bm k) m) v:=by
 let f:(AM R (Rd R Bm k) m).β=m:=by rw[AM,ol,OD]
 let r:ws.β=R.β:=by rw[x,q.PQ]
 let b:∀{i:Φ},i<R.β->ws[i]?<*ws.ML i []:=λ{i}C=>by
  rw[u6,n_ (by rw[r];show C)];rfl
 let l0:r_ R Bm k 0=0:=xM a;let A:∀{u:LN},(∀c∈u,c∈L)->PM L (AM R (Rd R Bm k) m) 0 u=r_ R Bm k (PM L R 0 u):=λ{u}o=>by
  have:=Gu h a st a.n1 o;rw[l0]at this;show this
 refine(λj=>ws.ML ((Rd R Bm k).M3 j) [],GP h a,(λj l=>?_,λi j w l=>?_,λu o=>?_),λn B e=>jB a st h n B e)
 .rw [f]at l;let⟨E,D⟩:=Cy h a l;let⟨y,w2⟩:=ke q d x (b E);refine(y,3);rw[A y,w2];show D
 .rw [f]at l;let p:=ny h a w l;show q.srt _ _ _ _ p (b (QB p (Cy h a l).1)) (b (Cy h a l).1)
 .rw [A o];let n:=Di a a.n1 o;let t:=vM (k:=k) a n;let h1:=iy a.lt q d x (b n) o ζ;rcases Φ.lt_or_eq_of_le t with z|z
  .let h2:=q.srt _ _ _ _ z (b (QB z n)) (b n);cases e:AF L u (ws.ML ((Rd R Bm k).M3 (r_ R Bm k (PM L R 0 u))) [])with
   |η=>rfl
   |ξ=>rw[By e h2]at h1;cases h1
  .change AF L u (ws.ML ((Rd R Bm k).M3 (r_ R Bm k (PM L R 0 u))) [])=η;rw[z];show h1
end
end RA
namespace L2
open RA
abbrev bG(ts:γ (υ×γ (Sh×NB)))(H:Hp):Prop:=∀p∈ts,A_ H p.1 p.2
structure KT(ts:List (Addr×List (Pos×Str)))(H H':Hp):Prop where
 sm:Ci H H'
 tb:bG ts H->bG ts H'
section
variable{ts:List (Addr×List (Pos×Str))}{H H1 H':Hp}
def KT.of(s:a' H H'):KT ts H H':=(Ci.of s,λh p hp=>Gs (h p hp) s)
def KT.ν(a:KT ts H H1)(b:KT ts H1 H'):KT ts H H':=(a.sm.ν b.sm,λh=>b.tb (a.tb h))
def zI(s:Cv P0 H H')(j:A_ H P0 ON)(i:P1≠P0)(h:A_ H P1 a):A_ H' P1 a:=by
 let⟨e,c,_⟩:=j;let⟨ps,k,g,b⟩:=h;refine(ps,s _ _ i k,g,λx f=>(b x f).Wi id λ⟨m,l,d⟩=>(m,l,s _ _ (λz=>?_) d));rw[z,c]at d;cases d
def KT.ofX(c:(ts.NN Up.fst).Nz)(d:(P,ON,)∈ts)(s:Cv P H H')(h:A_ H P ON)(h':A_ H' P ON):KT ts H H':=by
 refine(Ci.ofX s h,λa p hp=>?_);by_cases e:p.1=P
 .have:p=(P,ON,):=by
   let⟨i,g,ζ⟩:=γ.getElem_of_mem hp;let⟨j,f,b⟩:=γ.getElem_of_mem d;let k:(ts.NN Up.fst)[i]'(by rw[ol];show g)=(ts.NN Up.fst)[j]'(by rw[ol];show f):=by
    rw[γ.getElem_map,γ.getElem_map,b];show e
   have:=(UJ c).mp k;subst this;show b
  rw[this];show h'
 .exact zI s h e (a p hp)
def KT.Sj(k:KT ts H H')(h:zl H m L W B):zl H' m L W B:=h.QT k.sm.No
end
abbrev AX(L:LN)(W:LL)(B:γ MZ)(u:LN):MZ:=B.ML (PM L W 0 u) η
abbrev P8(H:Hp)(d:υ):Prop:=∃(l l2:υ)(part:V)(xs ys:γ V),H d=δ (Bb d [("words",.ο l,),("tails",.ο l2,),("part",part,)])/\H l=δ (.M7 xs)/\H l2<*.M7 ys
inductive gq(cTM:Addr)(ts:List (Addr×List (Pos×Str)))(op:(LN->Bool)->LN->Prop)(vs:List V)(H:Hp)(Q:VK)(E:XK):Prop
 |mk (m:Addr) (L:LN) (W:LL) (B:List Bool) (_:vs=[.ref m]) (_:zl H m L W B) (_:g_ L W B) (_:W.length≤8) (_:bG ts H) (_:(∀d H',KT ts H H'->P8 H' d->E (.ref cTM) (some d) H')) (_:∀(f:Addr)(W':LL)(B':List Bool)(H':Hp),KT ts H H'->zl H' f L W' B'->g_ L W' B'->W'.length≤8->(∃v,BI L W' B' v)->(∀u:LN,(∀c∈u,c∈L)->(AX L W' B' u=true↔op (AX L W B) u))->Q (.ref f) H')
inductive bE(cTM:Addr)(ts:List (Addr×List (Pos×Str)))(op:(LN->Bool)->(LN->Bool)->LN->Prop)(vs:List V)(H:Hp)(Q:VK)(E:XK):Prop
 |mk (m m2:Addr) (L:LN) (W1 W2:LL) (B1 B2:List Bool) (_:vs=[.ref m,.ref m2]) (_:zl H m L W1 B1) (_:g_ L W1 B1) (_:zl H m2 L W2 B2) (_:g_ L W2 B2) (_:W1.length≤8) (_:W2.length≤8) (_:bG ts H) (_:(∀d H',KT ts H H'->P8 H' d->E (.ref cTM) (some d) H')) (_:∀(f:Addr)(W':LL)(B':List Bool)(H':Hp),KT ts H H'->zl H' f L W' B'->g_ L W' B'->W'.length≤8->(∃v,BI L W' B' v)->(∀u:LN,(∀c∈u,c∈L)->(AX L W' B' u=true↔op (AX L W1 B1) (AX L W2 B2) u))->Q (.ref f) H')
abbrev cR(P Q:LN->MZ)(u:LN):Prop:=∃x v,u=x++v/\P x=ξ/\Q v=ξ
abbrev cQ(P:LN->MZ)(u:LN):Prop:=P u.Ng=ξ
abbrev je(P:LN->MZ)(u:LN):Prop:=P u=η
abbrev D0(r:MZ->MZ->MZ)(P Q:LN->MZ)(u:LN):Prop:=r (P u) (Q u)=ξ
def Ip(h:m≤8):(AM R l m).β≤8:=by rw[AM,ol,OD];show h
end L2
namespace L2
open PySem.Spec PyProof.Rows
def fJ{f:St}(p:f[j]?<*δ (.NA x))(d:υ->Φ->γ V->Hp->Prop)(hz:x.β≤Λ)(h0:∀D,H D=ε->d D 0 [] (MT H D (.M7 [])))(q:∀(D:υ)(i:Φ)(v:V)(ys:γ V)(H':Hp)(l:VK)(R2:Hp->Prop),H D=ε->(x.Tc.NF.NN λc=>V.NA ⟨#[c]⟩)[i]?<*v->a' H H'->H' D<*.M7 ys->d D i ys H'->
   (∀y h,h D<*.M7 ys->a' H (MT h D (.M7 (ys++[y])))->d D (i+1) (ys++[y]) (MT h D (.M7 (ys++[y])))->l y h)->(∀a,a' H a->a D<*.M7 ys->d D (i+1) ys a->R2 a)->
   n (δ v::f) H' λb a=>if b=ξ then o (δ v::f) a l else R2 a)(r:∀D ys H',H D=ε->a' H H'->H' D<*.M7 ys->d D x.β ys H'->Q (.ο D) H'):FI (zf (bC j)) n o f H Q:=by
 let g:(x.Tc.NF.NN λc=>V.NA ⟨#[c]⟩).β=x.β:=by rw[ol,Po];rfl
 refine(_,p,x,1,pR (J:=GG x) (xs:=x.Tc.NF.NN λc=>V.NA ⟨#[c]⟩) d (by rw[g];show hz) ?_ ?_ ?_ h0 q (by rw[g];show r))
 .intro i m _ k;rw[g]at k;show k
 .rintro i m v t _⟨e,c,s,ζ⟩;show(e,by rw[tS,Qd,s];rfl)
 .intro m _;rw[g];first|show LE _|rfl|show Qs _
end L2
namespace RA
open L2
abbrev B5(l:LN):LN:=b_ (DZ l)
def jj{x:Φ}:∀{l:LN}{m:Φ},(l.foldl (λm k=>m ||| 2^k) m).testBit x=(m.testBit x||decide (x∈l))
 |[],m=>by simp
 |k::r,m=>by
  rw[γ.foldl_cons,jj (l:=r),Φ.testBit_or,Φ.testBit_two_pow];by_cases e:k=x
  .subst e;simp
  .simp [e,show ¬ x=k from λz=>e z.MQ]
def ym(a:∀x∈l,x<8):x∈B5 l↔x∈l:=by
 unfold B5 b_;rw[RD,Np,DZ,jj];simp;show λh=>a x h
abbrev Fb(n:Φ):LL:=((γ.N4 256).flatMap λm=>[0::b_ m,1::b_ m]).SL λk=>k.tail.QD (· < n)
def mI(n:Φ):(Fb n).β≤512:=by
 unfold Fb;refine IO (γ.length_filter_le _ _) ?_;rw[γ.YR];simp only[NW,WP];decide +kernel
def Cz(a:∀x∈l,x<8)(e:b≤1)(d:∀x∈l,x<n):b::B5 l∈Fb n:=by
 unfold Fb;rw[RD,UH];refine((DZ l,Np.Ot (bR a),3),3)
 .have:b=0\/b=1:=by lia
  rcases this with ζ|rfl
  .exact N8
  .exact M4 _ N8
 .rw [NP];show λx c=>NM (d x ((ym a).mp c))
def qb(h:k∈Fb n):∃b S,k=b::S/\b≤1/\(∀x∈S,x<n)/\S.β≤8:=by
 unfold Fb at h;rw[RD,UH]at h;let⟨⟨m,f,d⟩,c⟩:=h;let e:=(gr (k:=0) (Np.mp f) (!0)).2.2.1;simp only[MP,NV,N7]at d;rcases d with ζ|rfl
 .exact ((0),0,!0,λx a=>OX (NP.mp c x a),e)
 .exact ((1),0,!0,λx a=>OX (NP.mp c x a),e)
abbrev mf(B:γ MZ)(l:LN):LN:=if l.Ql (λr=>B.ML r η)=ξ then 1::B5 (l++[0])else 0::B5 l
abbrev Hv(W:LL)(B:γ MZ)(k:LN)(q:Φ):LN:=mf B (gA W k.tail q)
abbrev xa(k:LN):MZ:=decide (k.headD 0=1)
section
variable{L:LN}{W:LL}{B:List Bool}
def fu(f:g_ L W B)(e:∀x∈S,x<W.β)(d:q<L.β):∀x∈gA W S q,x<W.β:=by
 intro x b;let⟨r,c,ζ⟩:=PH.mp b;let hw:=Eb f (e r c);let a:q<(W.ML r []).β:=by rw[hw.1];show d
 rw[u6,n_ a];show hw.2 _ (Nv a)
def sH(d:W.β≤8)(h1:1≤W.β)(b:∀x∈l,x<W.β):mf B l∈Fb W.β:=by
 let c:∀x∈l,x<8:=λx a=>Ψ (b x a) d;unfold mf;split
 .refine Cz (λx a=>?_) (!0) (λx a=>?_)
  .rcases Nd.mp a with z|z
   .exact c x z
   .rw [Ay z];decide
  .rcases Nd.mp a with z|z
   .exact b x z
   .rw [Ay z];show h1
 .exact Cz c (!0) b
def FX(a:g_ L W B)(f:W.β≤8):∀k∈Fb W.β,∀q,q<L.β->Hv W B k q∈Fb W.β:=by
 intro k d q c;let⟨b,S,ζ,_,e,_⟩:=qb d;show sH f a.n1 (fu a e c)
inductive Ag(T:LN->Bool):LN->Prop
 |nil:Ag T []
 |more {x v:LN}:Ag T x->v≠[]->T v=true->Ag T (x++v)
def Ag.Zc(h:Ag T u)(a:u≠[]):∃x v,u=x++v/\v≠[]/\Ag T x/\T v=ξ:=by
 cases h with
 |Ow=>show MM ζ a
 |@Ta x v h1 h2 b=>show(x,v,1,h2,h1,b)
def Kg{u x v:LN}(h:u++[c]=x++v)(b:v≠[]):∃a,v=a++[c]/\u=x++a:=by
 rcases γ.XE v with ζ|⟨a,d,ζ⟩
 .exact MM ζ b
 .rw [γ.XG,<-Na]at h;let⟨h1,h2⟩:=γ.append_inj' h ζ;cases h2;show(a,!1,h1)
def xI(l:g_ L W B)(E:W.β≤8):∀(n:Φ)(u:LN),u.β=n->(∀c∈u,c∈L)->
  ∃b S,aR (Hv W B) L [1,0] u=b::S/\(b=1↔Ag (λv=>B.ML (PM L W 0 v) η) u)/\(∀x∈S,x<W.β)/\∀r,r∈S↔∃x v,u=x++v/\Ag (λv=>B.ML (PM L W 0 v) η) x/\r=PM L W 0 v:=by
 intro n;induction n with
 |TF=>
  intro u i _;cases PL.mp i;refine((1),[0],1,(λ_=>.Ow,λ_=>rfl),λx d=>by rw[Ay d];show l.n1,λr=>?_);rw[R_];constructor
  .rintro ζ;show([],[],1,.Ow,1)
  .rintro⟨x,v,e,_,ζ⟩;let⟨_,ζ⟩:=γ.append_eq_nil_iff.mp e.MQ;rfl
 |Si n w=>
  intro u i m;rcases γ.XE u with ζ|⟨u,c,ζ⟩
  .cases i
  rw[γ.XG]at i m⊢;let⟨b,S,J,O,I,q⟩:=w u (by simpa using i) λx d=>m x (by simp[d]);let C:c∈L:=m c (!1);let A:L.M3 c<L.β:=γ.V0.Ot C;let f:=fu l I A;let o:∀x∈gA W S (L.M3 c),x<8:=λx d=>Ψ (f x d) E;let j:∀r,r∈gA W S (L.M3 c)↔∃x v,u=x++v/\Ag (λv=>B.ML (PM L W 0 v) η) x/\r=PM L W 0 (v++[c]):=by
   intro r;unfold gA;rw[PH];constructor
   .rintro⟨t,hr',ζ⟩;let⟨x,v,h1,h2,ζ⟩:=(q t).mp hr';show(x,v,h1,h2,by rw[ER];rfl)
   .rintro⟨x,v,h1,h2,ζ⟩;show(PM L W 0 v,(q _).Ot (x,v,h1,h2,1),by rw[ER];rfl)
  let a:(gA W S (L.M3 c)).Ql (λr=>B.ML r η)=ξ↔Ag (λv=>B.ML (PM L W 0 v) η) (u++[c]):=by
   rw[Vj];constructor
   .rintro⟨r,y,D⟩;let⟨x,v,ζ,h2,ζ⟩:=(j r).mp y;rw[Na];show .Ta h2 (!1) D
   .intro h;let⟨x,v,h1,h2,H,F⟩:=h.Zc (!1);let⟨k,ζ,ζ⟩:=Kg h1 h2;show(_,(j _).Ot (x,k,1,H,1),F)
  let Rx:∀r,(∃x v,u++[c]=x++v/\Ag (λv=>B.ML (PM L W 0 v) η) x/\r=PM L W 0 v)↔r∈gA W S (L.M3 c)\/(Ag (λv=>B.ML (PM L W 0 v) η) (u++[c])/\r=0):=by
   intro r;constructor
   .rintro⟨x,v,h1,h2,ζ⟩;by_cases p:v=[]
    .subst p;rw[Oe]at h1;subst h1;show .NU (h2,1)
    .obtain ⟨k,ζ,ζ⟩:=Kg h1 p;show .NJ ((j _).Ot (x,k,1,h2,1))
   .rintro (h|⟨h,ζ⟩)
    .obtain ⟨x,v,ζ,h2,ζ⟩:=(j r).mp h;show(x,v++[c],by rw[Na],h2,1)
    .exact (u++[c],[],!1,h,1)
  rw[Jr,J];change ∃M N,mf B (gA W S (L.M3 c))=M::N/\_;unfold mf;by_cases g:(gA W S (L.M3 c)).Ql (λr=>B.ML r η)=ξ
  .rw [Id g];let s:∀x∈gA W S (L.M3 c)++[0],x<8:=λx d=>by
    rcases Nd.mp d with z|z
    .exact o x z
    .rw [Ay z];decide
   refine((1),0,(λ_=>a.mp g,λ_=>rfl),λx d=>?_,λr=>?_)
   .rcases Nd.mp ((ym s).mp d)with z|z
    .exact f x z
    .rw [Ay z];show l.n1
   .rw [ym s,Rx,Nd,R_];constructor
    .rintro (z|z)
     .exact .NJ z
     .exact .NU (a.mp g,z)
    .rintro (z|⟨_,z⟩)
     .exact .NJ z
     .exact .NU z
  .rw [BT g];refine((0),0,(λz=>(by cases z),λz=>MM (a.Ot z) g),λx d=>f x ((ym o).mp d),λr=>?_);rw[ym o,Rx];constructor
   .exact .NJ
   .rintro (z|⟨z,_⟩)
    .exact z
    .exact MM (a.Ot z) g
def tq(d:g_ L W B)(e:W.β≤8)(a:∀c∈u,c∈L):xa (aR (Hv W B) L [1,0] u)=ξ↔Ag (λv=>B.ML (PM L W 0 v) η) u:=by
 let⟨b,S,g,f,_⟩:=xI d e _ u ζ a;rw[g];change decide (b=1)=ξ↔_;rw[decide_eq_true_iff];show f
def Ag.congr(h:Ag T u):(∀v,(∀c∈v,c∈u)->T v=T' v)->Ag T' u:=by
 induction h with
 |Ow=>show λ_=>.Ow
 |@Ta x v h1 h2 d b=>
  intro k;refine .Ta (b λw hw=>k w λc a=>by simp[hw c a]) h2 ?_;rw[<-k v λc a=>by simp[a]];show d
end
section
variable{T:LN->Bool}{w:LN}{i k:Nat}{gl:List Bool}
end
abbrev EC(n1 n2:Φ):LL:=((γ.N4 n1).flatMap λr=>(γ.N4 256).NN λm=>r::b_ m).SL λk=>k.tail.QD (· < n2)
def tQ(a:Φ)(h:n1≤8):(EC n1 a).β≤2048:=by
 unfold EC;refine IO (γ.length_filter_le _ _) ?_;rw[γ.YR];simp only[ol,OD,γ.map_const',γ.sum_replicate_nat];lia
def FY(a:∀x∈l,x<8)(d:r<n1)(e:∀x∈l,x<b):r::B5 l∈EC n1 b:=by
 unfold EC;rw[RD,UH];refine((r,Np.Ot d,PH.Ot (DZ l,Np.Ot (bR a),1)),3);rw[NP];show λx c=>NM (e x ((ym a).mp c))
def kh(h:k∈EC n1 a):∃r S,k=r::S/\r<n1/\(∀x∈S,x<a)/\S.β≤8:=by
 unfold EC at h;rw[RD,UH]at h;let⟨⟨r,d,f⟩,c⟩:=h;let⟨m,e,ζ⟩:=PH.mp f;show(r,0,Np.mp d,λx b=>OX (NP.mp c x b),(gr (k:=0) (Np.mp e) (!0)).2.2.1)
abbrev inT(B1:γ MZ)(r:Φ)(l:LN):LN:=if B1.ML r η=ξ then l++[0]else l
abbrev dW(B1:γ MZ)(r:Φ)(l:LN):LN:=r::B5 (inT B1 r l)
abbrev Hw(W1:LL)(B1:γ MZ)(W2:LL)(k:LN)(q:Φ):LN:=dW B1 (QY W1 (k.headD 0) q) (gA W2 k.tail q)
abbrev w4(B2:γ MZ)(k:LN):MZ:=k.tail.Ql λr=>B2.ML r η
section
variable{L:LN}{W1 W2:LL}{B1 B2:List Bool}
def gQ:x∈inT B1 r l↔x∈l\/(B1.ML r η=ξ/\x=0):=by
 unfold inT;split
 .rename_i c;rw[Nd,R_];show(λz=>z.Wi id λy=>(c,y),λz=>z.Wi id λy=>y.2)
 .rename_i c;show(.NJ,λz=>z.Nx id λy=>MM y.1 c)
def dl(b:∀x∈l,x<n)(h1:1≤n):∀x∈inT B1 r l,x<n:=λx a=>by
 rcases gQ.mp a with z|⟨_,ζ⟩
 .exact b x z
 .exact h1
def jG(d:W2.β≤8)(h1:1≤W2.β)(c:r<W1.β)(a:∀x∈l,x<W2.β):dW B1 r l∈EC W1.β W2.β:=
 FY (λx b=>Ψ (dl a h1 x b) d) c (dl a h1)
def uU(b:g_ L W1 B1)(a:g_ L W2 B2)(g:W2.β≤8):∀k∈EC W1.β W2.β,∀q,q<L.β->Hw W1 B1 W2 k q∈EC W1.β W2.β:=by
 intro k e q c;let⟨r,S,ζ,d,f,_⟩:=kh e;show jG g a.n1 (Ew b d c) (fu a f c)
def vZ(w:g_ L W1 B1)(b:g_ L W2 B2)(i:W2.β≤8):∀(n:Φ)(u:LN),u.β=n->(∀c∈u,c∈L)->
  ∃S,aR (Hw W1 B1 W2) L (dW B1 0 []) u=PM L W1 0 u::S/\(∀x∈S,x<W2.β)/\∀r,r∈S↔∃x v,u=x++v/\B1.ML (PM L W1 0 x) η=ξ/\r=PM L W2 0 v:=by
 intro n;induction n with
 |TF=>
  intro u d _;cases PL.mp d;let a0:∀x∈inT B1 0 [],x<W2.β:=dl (!1) b.n1;refine(B5 (inT B1 0 []),1,λx a=>a0 x ((ym λx a=>Ψ (a0 x a) i).mp a),λr=>?_);rw[ym λx a=>Ψ (a0 x a) i,gQ];constructor
  .rintro (z|⟨z,ζ⟩)
   .simp at z
   .exact ([],[],1,z,1)
  .rintro⟨x,v,e,h,ζ⟩;let⟨rfl,ζ⟩:=γ.append_eq_nil_iff.mp e.MQ;show .NU (h,1)
 |Si n p=>
  intro u d g;rcases γ.XE u with ζ|⟨u,c,ζ⟩
  .cases d
  rw[γ.XG]at d g⊢;let⟨S,B,A,l⟩:=p u (by simpa using d) λx a=>g x (by simp[a]);let t:c∈L:=g c (!1);let q:L.M3 c<L.β:=γ.V0.Ot t;let f:=fu b A q;let s:∀r,r∈gA W2 S (L.M3 c)↔∃x v,u=x++v/\B1.ML (PM L W1 0 x) η=ξ/\r=PM L W2 0 (v++[c]):=by
   intro r;unfold gA;rw[PH];constructor
   .rintro⟨o,hr',ζ⟩;let⟨x,v,h1,h2,ζ⟩:=(l o).mp hr';show(x,v,h1,h2,by rw[ER];rfl)
   .rintro⟨x,v,h1,h2,ζ⟩;show(PM L W2 0 v,(l _).Ot (x,v,h1,h2,1),by rw[ER];rfl)
  rw[Jr,B];let y:QY W1 (PM L W1 0 u) (L.M3 c)=PM L W1 0 (u++[c]):=by rw[ER];rfl
  let a0:∀x∈inT B1 (PM L W1 0 (u++[c])) (gA W2 S (L.M3 c)),x<W2.β:=dl f b.n1;let j:=λ{x:Φ}=>ym (x:=x) λx a=>Ψ (a0 x a) i;refine(B5 (inT B1 (PM L W1 0 (u++[c])) (gA W2 S (L.M3 c))),3,λx a=>a0 x (j.mp a),λr=>?_)
  .change dW B1 (QY W1 (PM L W1 0 u) (L.M3 c)) (gA W2 S (L.M3 c))=_;rw[y];rfl
  .rw [j,gQ,s];constructor
   .rintro (⟨x,v,ζ,h2,ζ⟩|⟨h,ζ⟩)
    .exact (x,v++[c],by rw[Na],h2,1)
    .exact (u++[c],[],!1,h,1)
   .rintro⟨x,v,h1,h2,ζ⟩;by_cases k:v=[]
    .subst k;rw[Oe]at h1;subst h1;show .NU (h2,1)
    .obtain ⟨m,ζ,ζ⟩:=Kg h1 k;show .NJ (x,m,1,h2,1)
def qg(b:g_ L W1 B1)(a:g_ L W2 B2)(h:W2.β≤8)(e:∀c∈u,c∈L):w4 B2 (aR (Hw W1 B1 W2) L (dW B1 0 []) u)=ξ↔∃x v,u=x++v/\B1.ML (PM L W1 0 x) η=ξ/\B2.ML (PM L W2 0 v) η=ξ:=by
 let⟨S,j,_,d⟩:=vZ b a h _ u ζ e;rw[j];change (S.Ql λr=>B2.ML r η)=ξ↔_;rw[Vj];constructor
 .rintro⟨r,f,g⟩;let⟨x,v,h1,h2,ζ⟩:=(d r).mp f;show(x,v,h1,h2,g)
 .rintro⟨x,v,h1,h2,i⟩;show(_,(d _).Ot (x,v,h1,h2,1),i)
end
end RA
namespace L2
open PySem.Spec PyProof.Rows
abbrev wc(X:Cx)(i:Φ)(ps:γ NB)(t:TA):TE:=λσ H Q=>∃f,σ[i]?=δ (δ (.ο f))/\(∃nm M6 ar bd sc cl c,H f<*Ak f nm M6 ar bd sc cl c)/\t σ H λvs H1=>(∃nm M6 ar bd sc cl c,H1 f<*Ak f nm M6 ar bd sc cl c)/\∃U:γ υ,(∀u∈U,∃φ,H1 u<*.ext φ)/\∀base':NR,GO X U σ H1 base'->
 ∃(k:Φ)(sp:Sp)(fd:Sg),ak k X.A/\Ao X.K fd ps []/\aa X.Ξ X.w X.K X.mg base' pu k f fd ps sp/\sp vs (Al U H1) (λv H2=>(∀u∈U,H2 u=ε)->Q v (UB U H1 H2)) E0
def nG{j:St}(I:f' X a j H s)(h:∃nm M6 i d sc b c,H f<*Ak f nm M6 i d sc b c):∃m l n k,s.π.ψ f<*(m,l,.Qb n,k):=by
 let⟨nm,M6,i,d,sc,b,c,e⟩:=h;let⟨⟨Pm,pm,o,g⟩,_⟩:=I.Og f _ e;show(7,7,g)
def qP(ps:γ NB){p Nj:Sh}(hv:PE X (.N0 x p) (bC i))(ha:PA X (e::C) t)(O:∀y,X.fn y=ξ)(he:(Θ (e::C) X.KK=(η,OM e X.KK,)::Θ C X.KK)>>>4)(L:((OF Nj (Θ C X.KK)).Ql (·.1)=η)>>>4):PE X (.QG (.N0 x p) (e::C) [] Nj) (wc X i ps t):=by
 intro j s E H Q I h;let⟨f,h0,hf,h⟩:=h;refine Nc (ri (hv j s E H (λv D=>v=.ο f/\D=H) I (_,h0,5)) λfv s0 n=>?_);let⟨v,H0,I0,rv,ζ,ζ⟩:=n;obtain ζ:fv=.ο f:=rv;refine Δ.W.callWith_F (nG I0 hf) (ri (ha Nj j s0 E H0 _ I0 h) λus J⟨vs,D,b,r,P,q⟩=>(nG b P,3)) he L;let⟨U,Z,q⟩:=q;let⟨a,e0,w,l⟩:=ix b.Zj Z;let d:∀y c v,X.KK.Rm.ρ y<*c->J.π.Tf c v->a.Tf c v:=λy c v g S=>by
  let⟨o,T,R⟩:=S;let Y:=b.UK y c g;refine(o,l c o T (λz=>?_) ?_,R)
  .rcases MP.mp (b.ZW c z)with z|z
   .exact b.cne y c g z
   .obtain ⟨_,o',M,_⟩:=b.ok.Vc.mem z;show MM (lt_size M) (TY.Ot (b.ok.cab y c (O y) g))
  .unfold Al;split
   .rfl
   .exact Y
 let W:GO X U E D a:=by
  refine(w,e0.VX,λu φ hu e=>?_,b.ok.QK,λy c g=>?_,λi y v e1 e2 e3=>?_)
  .obtain ⟨p1,⟨o,T⟩,p3⟩:=b.Og u _ e;refine p3 _ _ p1 λo2 z=>l u o2 z (λy=>?_) (Ib hu);rw[b.Tj u y]at e;cases e
  .obtain ⟨v,z⟩:=b.OA y c g;show(v,d y c v g z)
  .obtain ⟨m,Y,N⟩:=b.X1;let⟨u,ru,lk⟩:=N i y v e1 e2 (.NU (.NJ e3));rcases lk with⟨k1,_⟩|⟨_,c,g,z⟩
   .have:X.KK.NG.MR.ρ y<*.local:=k1;rw[e3]at this;cases this
   .exact (c,u,g,d y c _ g z,ru)
 let⟨k,sp,fd,hr,hb,F,B⟩:=q a W;let N:us.β=ps.β:=by rw[<-r.β];show F.PQ _ _ _ _ B
 refine QS (Pd (F.PM X.A X.NC J (Al U D) (us,[]) us vs _ E0 hr e0 (by have:=hb J us b.Tb (by rw[Oe];show N);rwa [Oe]at this) r B) λr s' n=>?_);cases r with
 |SA e=>show NX.Nx n
 |ok fl=>
  cases fl with
  |UX u=>show b.Xe (dZ b.Zj Z n)
  |next=>show NX.Nx n
  |Yk=>show NX.Nx n
  |UC=>show NX.Nx n
namespace ZP
def FZ(a b:υ):BV (.tp a) (.ls b):=λxs ys=>.of_wp λΞ w A R s h=>by
 let⟨hp,g,d,i,os⟩:=s;let⟨e,c,h⟩:=h;let f:=ZV;let e:hp.O1 a xs:=e;let c:(hp.Nh (Sd.tp a).it0).SM b ys:=NR.SM.Nh c _;change Ω _ _ (Builtin.«zip.__new__» ([.MO "zip",.ο a,.ο b],[])) _ _ _
 wp_walk using bX e,Jd c
 refine(0,3);simp only[db]at h;simpa[Op,Builtin.OV.S3,Φ.XL]using h
end ZP
inductive uO(R:It->Hp->Prop)(vs:List V)(H1:Hp):Prop
 |mk (a b xs ys:_) (_:vs=[.ref a,.ref b]) (_:H1 a<*.tup xs) (_:H1 b<*.lst ys) (_:R (E1 (.tp a) (.ls b)) H1)
abbrev rZ(t:TA):TI:=λσ H R=>t σ H (uO R)
def qM{S:γ Rb}{A:Φ}{z:Sh}{p Nj:Sh}(L:Gl X "zip")(J:X.mg "zip"=ε)(M:PA X [a,b] ta)(F:(Θ [a,b] X.KK=(η,OM a X.KK,)::Θ [b] X.KK)>>>4)(m:((OF Nj (Θ [b] X.KK)).Ql (·.1)=η)>>>4):PI X (.Qw S A z) (.QG (.N0 "zip" p) [a,b] [] Nj) (rZ ta):=by
 intro f s v H R I h;refine Nc (Ad I L J boot_zip (Oi.Sf.Pw (ri (M Nj f s v H _ I h) λus e n=>?_) F m));let⟨vs,Y,j,w,l,k,xs,ys,Q,E,D,q⟩:=n;subst Q;let⟨u1,Z,ζ,U,T⟩:=bz w;cases U;cases T;let⟨C,y⟩:=mT (d:=.tp l) j E;let⟨B,x⟩:=mT (d:=.ls k) j D;refine ZP.Cw (ZP.FZ l k) y x λg u r o P O N=>Ub (s:={e with π:=g}) u ?_;let W:TV (e⁻¹+4) (e⁻¹+2) (e⁻¹+3) e⁻¹ (e⁻¹+1) (e⁻¹+2) (e⁻¹+2):=by
  constructor<;>show GH (!6)
 refine(_,[e⁻¹+4,e⁻¹+2,e⁻¹+3,e⁻¹,e⁻¹+1],_,E1 (.tp l) (.ls k),Y,1,j.SW (t':=e.MW) N,d8 (.tp l) (.ls k) _ _ _ _ _ W,(u,r,(7,o),P,O),λc t=>?_,q);let i:e⁻¹≤c:=by
  simp only[MP,NV,N7]at t;rcases t with ζ|rfl|rfl|rfl|rfl
  .exact Od _ _
  .exact Od _ _
  .exact Od _ _
  .exact LE _
  .exact Od _ _
 show j.Yw i (j.Og.OG i)
end L2
namespace RA
open L2
def CA{xs zs:γ V}{r:St}(v:∀R:γ V->Hp->Prop,R [.ο c,.ο d] H->t r H R)(j:H c<*.No xs)(g:H d<*.M7 zs)(B:xs.β=zs.β)(e:υ->Φ->γ V->Hp->Prop)(hz:xs.β≤Λ)(h0:∀D,H D=ε->e D 0 [] (L2.MT H D (.M7 [])))(w:∀(D:υ)(i:Φ)(x z:V)(ys:γ V)(H' f:Hp)(m:VK),H D=ε->xs[i]?<*x->zs[i]?<*z->a' H H'->H' D<*.M7 ys->e D i ys H'->a' H' f->
   (∀y o,o D<*.M7 ys->a' H (L2.MT o D (.M7 (ys++[y])))->e D (i+1) (ys++[y]) (L2.MT o D (.M7 (ys++[y])))->m y o)->u (δ x::δ z::r) f m)(A:∀D ys H',H D=ε->a' H H'->H' D<*.M7 ys->e D xs.β ys H'->Q (.ο D) H'):gm K (rZ t) Xx u r H Q:=by
 refine v _ (c,d,xs,zs,1,j,g,3);refine J_ (K:=K) (J:=E1 (.tp c) (.ls d)) (n:=xs.β) (λi a b=>xs[i]?=δ a/\zs[i]?<*b) e hz (λi q s h=>(xs,zs,xs[i],zs[i]'(!6),s _ _ j,s _ _ g,n_ h,n_ _)) ?_ (λq s=>(xs,zs,s _ _ j,s _ _ g,B,1)) h0 ?_ A
 .rintro i q x f s h⟨p,P,bs,a,b,l,k,O,N,M,L,I⟩;let l:q c<*.No P:=l;let k:q d<*.M7 bs:=k;rw[s _ _ j]at l;rw[s _ _ g]at k;cases l;cases k;show(p,a,b,M,(O,N),L,I)
 .rintro D i a b ys H' f m R2 F Y⟨E,C⟩X W U T S Z;show l_ (w D i a b ys H' f m F E C X W U T S)
section
variable{T1 T2:LN->Bool}{w:LN}{i k:Nat}{gl:List Bool}
end
end RA
namespace L2
section
variable{X:Cx}{a b e e1 e2 e3 e4:Expr}{ta tb te t1 t2 t3 t4:TE}{pos p:Pos}{o:Expr}{x:Str}
def o_(h:PE X e te)(c:(Θ [e] X.KK=(η,OM e X.KK,)::Θ [] X.KK)>>>4):PA X [e] (Aw te Wz):=Bp h Dh c
def q_(h1:PE X e1 t1)(h2:PE X e2 t2)(c:(Θ [e1,e2] X.KK=(η,OM e1 X.KK,)::Θ [e2] X.KK)>>>4)(s2:(Θ [e2] X.KK=(η,OM e2 X.KK,)::Θ [] X.KK)>>>4):PA X [e1,e2] (Aw t1 (Aw t2 Wz)):=Bp h1 (o_ h2 s2) c
def wm(h1:PE X e1 t1)(h2:PE X e2 t2)(f:PE X e3 t3)(d:(Θ [e1,e2,e3] X.KK=(η,OM e1 X.KK,)::Θ [e2,e3] X.KK)>>>4)(s2:(Θ [e2,e3] X.KK=(η,OM e2 X.KK,)::Θ [e3] X.KK)>>>4)(c:(Θ [e3] X.KK=(η,OM e3 X.KK,)::Θ [] X.KK)>>>4):PA X [e1,e2,e3] (Aw t1 (Aw t2 (Aw t3 Wz))):=Bp h1 (q_ h2 f s2 c) d
def GR(f:PE X a ta)(d:PE X b tb)(c:io b>>>7):PE X (.Uo a b Nj) (Fo (kY X.K) ta tb):=rz dh f d c
def AB(f:PE X a ta)(d:PE X b tb)(c:io b>>>7):PE X (.Uo a b Nj) (Fo (qD X.K) ta tb):=rz bW f d c
def Ae(i:Φ){k:MN}{j}{c:Sh}(h:(X.N[i]?<*x)>>>4)(f:G5 X.KK.NG x>>>8)(g:((x==("__debug__":NB))=η)>>>0)(d:((x==("__classdict__":NB))=η)>>>0):PE X (.Uo (.N0 x p) (.Vm (.MS k) j c) Nj) (Fo (kY X.K) (bC i) (tC (.MS k))):=rz dh (pv i h f g d) b' (λ_ _=>rfl)
def Cj(f:X.mg "len"=ε)(h:PE X e te)(g:(Gl X "len")>>>4)(d:(Θ [e] X.KK=(η,OM e X.KK,)::Θ [] X.KK)>>>4)(c:((OF Nj (Θ [] X.KK)).Ql (·.1)=η)>>>4):PE X (.QG (.N0 "len" p) [e] [] Nj) (BQ (λxs H Q=>∃p ys,xs=[.ο p]/\(o5 X.K H p ys\/u0 X.K H p ys)/\Q (.MS ys.β) H) (Aw te Wz)):=Ds Hb g f T_ (o_ h d) (!0) (!0) d c
def Hx(f:X.mg "len"=ε)(h:PE X e te)(g:(Gl X "len")>>>4)(d:(Θ [e] X.KK=(η,OM e X.KK,)::Θ [] X.KK)>>>4)(c:((OF Nj (Θ [] X.KK)).Ql (·.1)=η)>>>4):PE X (.QG (.N0 "len" p) [e] [] Nj) (BQ (λxs H Q=>∃z,xs=[.NA z]/\z.β≤Λ/\Q (.MS z.β) H) (Aw te Wz)):=Ds Lj g f T_ (o_ h d) (!0) (!0) d c
def GS(d:PE X a ta)(c:PE X b tb):PT X (.Zq a [.NotEq] [b] Nj) (mJ (Fo rNe ta tb)):=A1 yQ d c (A' _)
def Ap(d:PE X a ta)(c:PE X b tb):PT X (.Zq a [.Eq] [b] Nj) (mJ (Fo rEq ta tb)):=A1 bA d c (A' _)
def va(i:Φ){c:Sh}(k:X.N.Nz)(j:PE X e te)(g:(X.N[i]?<*x)>>>4)(d:DJ X.KK.NG x>>>8)(f:(Sw e (δ (.N0 x c)) Nj.SZ X.KK=pure η)>>>4)(h:(X.fn x=ξ\/X.KK.NG.MR.ρ x<*.local)>>>8):PS X (.WS [.N0 x c] e Nj) (aK te (Bv i)):=wL k g d j f h
def CB(i:Φ)(g:X.N.Nz)(d:(X.N[i]?<*x)>>>4)(c:DJ X.KK.NG x>>>8)(f:(X.fn x=ξ\/X.KK.NG.MR.ρ x<*.local)>>>8):PG X (.N0 x Nj) (Bv i):=bL g d c f
def Dl{d c:Sh}(g:PE X o t1)(h:PE X e te)(k:(QL o "append" X.KK (OM o X.KK)=OM o X.KK)>>>4)(j:(((OF c (Θ [e] X.KK)).QD (λx=>!x.1)&&(Vi c (TQ [] X.KK)).QD (λx=>x.1.Rz)&&decide ([e].β+([]:γ Vs).β+(if ([]:γ Vs).SG then 0 else 1)<30))=ξ)>>>4)(i:((d.Zk==c.SZ)=ξ)>>>4)(f:(Θ [e] X.KK=(η,OM e X.KK,)::Θ [] X.KK)>>>4)(hp:((OF c (Θ [] X.KK)).Ql (·.1)=η)>>>4):PE X (.QG (.O3 o "append" d) [e] [] c) (Cr X.K "list" rAppend t1 (Aw te Wz)):=jb P' Δ.F.slot_list_append Δ.F.type_list_append eR g (o_ h f) k j i f hp
def Ck{c:Sh}(i:X.mg "isinstance"=ε)(j:X.mg n=ε)(g:Tr n<*.MO T)(h:PE X e te)(l:(Gl X "isinstance")>>>4)(k:Gl X n>>>4)(n1:(n≠"__name__")>>>0)(f:((n==("__debug__":NB))=η)>>>0)(d:(Θ [e,.N0 n c] X.KK=(η,OM e X.KK,)::Θ [.N0 n c] X.KK)>>>4)(s2:(Θ [.N0 n c] X.KK=(η,OM (.N0 n c) X.KK,)::Θ [] X.KK)>>>4)(hp:((OF Nj (Θ [.N0 n c] X.KK)).Ql (·.1)=η)>>>4):PE X (.QG (.N0 "isinstance" p) [e,.N0 n c] [] Nj) (BQ (λxs H Q=>∃x t b,xs=[x,.ty T]/\ai X.K H x t/\Pr X.K t (.MO T)=δ b/\Q (.bl b) H) (Aw te (Aw (tC (.ty T)) Wz))):=Ds (jV (T:=T)) l i Oi.Sf.boot_isinstance (q_ h (mZ (v:=.ty T) k j g ζ n1 f) d s2) (!0) (!0) d hp
section
variable{K:Frag}{H:Hp}{Q:VK}{c:Addr}{xs:List V}{v x0 x1 x2 x3:V}{i:Int}{l:List V}
def Fc(d:H c<*.No xs)(f:AN xs i<*v)(q:Q v H):kY K (.ο c) (.MS i) H Q:=(c,_,8,u0.of d,f,q)
def AJ(d:H c<*.M7 xs)(f:AN xs i<*v)(q:Q v H):qD K (.ο c) (.MS i) H Q:=(c,_,8,o5.of d,f,q)
def z8(g:H c<*.No xs)(h:AN xs i<*v)(q:Q v H)(f:(d[n]?<*δ (.ο c))>>>4):Fo (kY K) (bC n) (tC (.MS i)) d H Q:=(_,f,c,_,8,u0.of g,h,q)
def aL:AN (x0::l) 0<*x0:=AG (j:=0) ζ
def aJ:AN (x0::x1::l) 1<*x1:=AG (j:=1) ζ
def dI:AN (x0::x1::x2::l) 2<*x2:=AG (j:=2) ζ
end
end
abbrev LO(N P:γ NB)(sc:RZ):MZ:=(match sc.RT with|.RP=>ξ|_=>η)&&!sc.isCoroutine&&!sc.isGenerator&&decide N.Nz&&decide (N.OE P.β=P)&&P.QD (λx=>match sc.MR.ρ x with|δ .local=>ξ|δ .OA=>ξ|_=>η)&&sc.MR.QD λy=>match y.2 with|.N6=>η|_=>ξ
def Aa(h:LO N P sc=ξ:=by kernel_rfl):vw N P sc:=by
 unfold LO at h;simp only[Oz,Sc,RC,NP]at h;let⟨⟨⟨⟨⟨⟨a,b⟩,c⟩,d⟩,e⟩,f⟩,g⟩:=h;refine(3,b,c,d,e,λx j=>?_,λy i z=>?_)
 .revert a;cases sc.RT<;>intro a<;>first|rfl|cases a
 .have:=f x j;revert this;cases sc.MR.ρ x with
  |ε=>intro a;cases a
  |δ k=>cases k<;>intro a<;>first|show .NJ ζ|show .NU ζ|cases a
 .have:=g y i;rw[z]at this;cases this
abbrev zD(K:Nn)(x:NB)(st:Nu)(f:υ):Prop:=∃fd,vh K x x st f fd
def BE(e:K.ρ f<*(c,b,.Qb d,a)):UR K (.ο f)=ξ:=by
 unfold UR;dsimp only;rw[show γ.ρ f K=_ from e]
def Iq{kV Pm pm ct:θ}(l:K.ρ f<*(e,d,.Qb (Px x x (t5 st) (p_ st) (h_ st) .ε kV Pm pm an (.ο b) ct),a))(c:PD K (.ο b) x=ξ):zD K x st f:=(_,D8 l c (BE l))
def Ir{P:NE}{w:N1}{K:Nn}{mg:NB->ω θ}{ς h:NR}(X:K.In h)(G:h.Ns LT mg){x:NB}{k:Φ}{ps:γ NB}{d:Sp}{f:υ}{c:Sg}{st:Nu}(a:Pp K LT x<*δ (.ο f))(F:vh K x x st f c)(b:Ao K c ps [])(o:aa P w K mg ς pu k f c ps d):Df P w K mg ς x k ps d:=(f,c,O6 X G a,F.kp,b,o)
def D6{b:Type}{l:γ b}(h:l.β=1):∃a,l=[a]:=γ.length_eq_one_iff.mp h
def Gw{c:Type}{l:γ c}(h:l.β=2):∃a b,l=[a,b]:=by
 cases l with
 |Ow=>cases h
 |NZ a t=>let⟨b,ζ⟩:=D6 (Φ.Si.QK h);show(a,b,1)
def Jt{d:Type}{l:γ d}(h:l.β=3):∃a b c,l=[a,b,c]:=by
 cases l with
 |Ow=>cases h
 |NZ a t=>let⟨b,c,ζ⟩:=Gw (Φ.Si.QK h);show(a,b,c,1)
def Kh{e:Type}{l:γ e}(h:l.β=4):∃a b c d,l=[a,b,c,d]:=by
 cases l with
 |Ow=>cases h
 |NZ a t=>let⟨b,c,d,ζ⟩:=Jt (Φ.Si.QK h);show(a,b,c,d,1)
def Md{f:Type}{l:γ f}(h:l.β=5):∃a b c d e,l=[a,b,c,d,e]:=by
 cases l with
 |Ow=>cases h
 |NZ a t=>let⟨b,c,d,e,ζ⟩:=Kh (Φ.Si.QK h);show(a,b,c,d,e,1)
def B6(F:vh K x x st f c)(h:∀(kV Pm pm:θ)(an:ω υ)(Qm ct a:θ),TU (Px x x (t5 st) (p_ st) (h_ st) .ε kV Pm pm an Qm ct) ([a],[])=pure ([q0].Th [a])):Ao K c [q0] []:=F.WC λ_ _ _ _ _ _ us b=>by let⟨_,ζ⟩:=D6 b;show h _ _ _ _ _ _ _
def BN(F:vh K x x st f e)(h:∀(kV Pm pm:θ)(an:ω υ)(Qm ct b a:θ),TU (Px x x (t5 st) (p_ st) (h_ st) .ε kV Pm pm an Qm ct) ([b,a],[])=pure ([q0,c].Th [b,a])):Ao K e [q0,c] []:=F.WC λ_ _ _ _ _ _ us d=>by let⟨_,_,ζ⟩:=Gw d;show h _ _ _ _ _ _ _ _
def Gx(F:vh K x x st f i)(h:∀(kV Pm pm:θ)(an:ω υ)(Qm ct c b a:θ),TU (Px x x (t5 st) (p_ st) (h_ st) .ε kV Pm pm an Qm ct) ([c,b,a],[])=pure ([q0,e,d].Th [c,b,a])):Ao K i [q0,e,d] []:=F.WC λ_ _ _ _ _ _ us g=>by let⟨_,_,_,ζ⟩:=Jt g;show h _ _ _ _ _ _ _ _ _
def Ki(F:vh K x x st f k)(h:∀(kV Pm pm:θ)(an:ω υ)(Qm ct d c b a:θ),TU (Px x x (t5 st) (p_ st) (h_ st) .ε kV Pm pm an Qm ct) ([d,c,b,a],[])=pure ([q0,i,g,e].Th [d,c,b,a])):Ao K k [q0,i,g,e] []:=F.WC λ_ _ _ _ _ _ us j=>by let⟨_,_,_,_,ζ⟩:=Kh j;show h _ _ _ _ _ _ _ _ _ _
def Me(F:vh K x x st f m)(h:∀(kV Pm pm:θ)(an:ω υ)(Qm ct e d c b a:θ),TU (Px x x (t5 st) (p_ st) (h_ st) .ε kV Pm pm an Qm ct) ([e,d,c,b,a],[])=pure ([q0,k,j,i,g].Th [e,d,c,b,a])):Ao K m [q0,k,j,i,g] []:=F.WC λ_ _ _ _ _ _ us l=>by let⟨_,_,_,_,_,ζ⟩:=Md l;show h _ _ _ _ _ _ _ _ _ _ _
end L2
namespace L2
open PySem.Spec PyProof.Rows
def vh.Vo{P:NE}{w:N1}{K:Nn}{st:Nu}(F:vh K x M6 st f c)(S:vw N ps (h_ st))(a:∀(Qm:θ)(A:N2)(Fr:γ WH)(s:MJ)(H:Hp)(vs:γ V)(Q:VK)(E:XK),ak k (A.RH (S7 M6 (h_ st) s⁻¹ f Qm))->b vs H Q E->
   ∃t,BA (aG pu P w K mg ς N M6 (h_ st) f Qm A Fr s H E).nox (p_ st) t/\t {nx:=λ_ H'=>Q .Rv H',rt:=Q} (SQ N vs) H)(PQ:∀vs H Q E,b vs H Q E->vs.β=ps.β:=by intro _ _ _ _ h;first|(cases h;subst_vars;rfl)|((repeat let⟨_,h⟩:=h);subst_vars;rfl)):aa P w K mg ς pu (k+1) f c ps b:=F.ok S PQ a
abbrev Ax(K:Nn)(x:NB)(st:Nu):Prop:=∃f,Pp K LT x=δ (δ (.ο f))/\zD K x st f
abbrev dG(X:Cx)(M1:γ (υ×Rp))(F:St->XK):θ->MJ->Prop:=λev s'=>∃WJ H' s1,f' X M1 WJ H' s1/\Am X.Ξ X.w X.NC H' s1 (F WJ) ev s'
abbrev PX(X:Cx)(st:Nu)(t:(St->XK)->TS):Prop:=
 ∀(M1:γ (υ×Rp))(s:MJ)(σ:St)(H:Hp)(D:XR)(F:St->XK),f' X M1 σ H s->t F D σ H->Ω (Cl X.Ξ X.w) X.A (exec st X.KK) (SP X M1 D) (dG X M1 F) s
section
variable{X:Cx}{pins:List (Addr×Obj)}{σ:St}{H:Hp}{s:Shared}{x n y fx:Str}{R:Addr}{i j k:Nat}{np hpos pos p cp yp ap:Pos}{st a b b0:Stmt}{suite:List Stmt}{ts:TS}{D:Ends}{ps:List Str}{sp:Sp}{e c:Expr}{es:List Expr}{t:TA}{tc:TT}{τ τ':(St->XK)->TS}
def F_(F:AT X.Ξ X.w X.K X.mg X.ς fx k ps sp)(C:ak k X.A)(M:PA X.nox (e::es) t)(E:Gl X fx)(o:(fx==("__debug__":NB))=η)(L:Θ (e::es) X.KK=(η,OM e X.KK,)::Θ es X.KK)(m:(OF cp (Θ es X.KK)).Ql (·.1)=η)(I:f' X M1 σ H s)(h:t σ H λvs g=>sp vs g Qv (G σ)):Ω (Cl X.Ξ X.w) X.A (OM (.QG (.N0 fx p) (e::es) [] cp) X.KK) (EP X M1 σ Qv) (dG X M1 G) s:=by
 let⟨f,Q,h1,h2,N,F⟩:=F;refine Nc (v_ I E h1 (WQ (h₀:=X.ς) I.ok.VX.Vz h2 (NI (M cp M1 s σ H _ (I.Vw _) h) (λus l v=>?_) λ_ _ z=>z.Nx) L m) o);let⟨vs,g,P,r,q⟩:=v;let J:f' X M1 σ g l:=P.Sv;refine(J.Tb,QS (Pd (F.PM X.A X.NC l g (us,[]) us vs Qv _ C J.Zj ?_ r q) λr s' d=>?_))
 .let B:=N l us J.Tb;rw[Oe]at B;show B (by rw[<-r.β];show F.PQ _ _ _ _ q)
 .cases r with
  |SA S=>show(σ,g,l,J,d)
  |ok O=>
   cases O with
   |UX u=>show J.Xe d
   |next=>show NX.Nx d
   |Yk=>show NX.Nx d
   |UC=>show NX.Nx d
def Fd(h:PX X st τ)(I:f' X M1 σ H s)(q:τ G D σ H):Ω (Cl X.Ξ X.w) X.A (execs [st] X.KK) (SP X M1 D) (dG X M1 G) s:=by
 refine Ss (ri (h M1 s σ H D G I q) λf d q=>?_);cases f with
 |next=>show RL q
 |UX v=>show q
 |Yk=>show q
 |UC=>show q
end
end L2
namespace L2
open PySem.Spec PySem.W PyProof.Rows Builtin Builtin.ObjectAttr
def pM{Ξ:NE}{w:N1}{A:N2}{K:Nn}(F:GJ K C)(X:K.In s.π)(J:InstAt s.π e o C (δ p))(x:hasDictIn K C=ξ)(q:Ah K C f)(u:lookIn f p<*δ v)(j:handedIn v=ξ)(h:Q v {s with MW:=s.MW+1}):Ω (Cl Ξ w) A (Ze (.ο e) f m) Q E s:=by
 let⟨hp,g,d,t,os⟩:=s;let b:=J.MO (M:=Cl Ξ w);let y:=Ux (M:=Cl Ξ w) X F.ga;let c:=Ux (M:=Cl Ξ w) X F.noHook;let isB:=looks_mroIn (M:=Cl Ξ w) X F.exc;let k:=looks_find (M:=Cl Ξ w) X J (findObj_own x q ζ u);let l:=Δ.F.attrBase_ValueError.ga.Wr (.ο e);unfold Ze getAttrBy;refine d_ (wpAny_mkText (NT (d_ (b.at (d_ (y.at ?_))))));let a:(onTheHeap (.ο C)&&θ.Nk "BaseException.__getattribute__"==θ.Nk "object.__getattribute__")=η:=by
  rw[show(θ.Nk "BaseException.__getattribute__"==θ.Nk "object.__getattribute__")=η by decide +kernel,MZ.and_false]
 refine OI (by rw[a];decide) ?_;unfold getAttrByItsOwn hookBefore callGetattribute boundAndCalled;let i:(m&&onTheHeap (θ.Nk "BaseException.__getattribute__"))=η:=by cases m<;>rfl
 refine d_ (VP (!4) (c.at (d_ (S_ (NT (OI (by rw[i];decide) (d_ (Rc l (QS ?_)))))))));refine Rl Δ.F.attrBase_ValueError.ga.plain Δ.F.entry_bexc_ga ?_;let r:builtinKind "BaseException.__getattribute__"<*.Ud:=by decide +kernel
 let n:splitId "BaseException.__getattribute__"<*("BaseException","__getattribute__",):=by decide +kernel
 let z:=Δ.F.args_bexc_ga (.ο e) (.NA f t);simp only[checkBuiltinCall,r,n];refine d_ ?_;unfold YU;refine d_ (b.at (isB.at ?_));refine OI (!0) (Rc z ?_);refine d_ (j' (d_ (j' (d_ (b.at (d_ (k.at ?_)))))));refine j' ?_;change Ω _ _ (handedOut v) _ _ _;rw[handedOut_of j];show j' h
inductive wu(K:Frag)(f:Str)(Q:VK)(x:V)(H1:Hp):Prop
 |mk (e C d fs v:_) (_:x=.ref e) (_:H1 e<*dC e (.ref C) (some d)) (_:H1 d<*Bb d fs) (_:GJ K C) (_:j0 K C) (_:Ah K C f) (_:fs.lookup f<*v) (_:Q v H1)
abbrev mL(K:Nn)(ta:TE)(f:NB):TE:=λσ H Q=>ta σ H (wu K f Q)
def uo(y:PE X e ta)(z:(QL e f X.KK (OM e X.KK)=OM e X.KK)>>>4):PE X (.O3 e f Nj) (mL X.K ta f):=by
 intro c s j H Q I h;refine DO z (ri (y c s j H _ I h) λu P i=>?_);let⟨x,N,g,k,a,C,d,fs,v,J,L,M,F,xc,n,l,q⟩:=i;subst J;obtain ζ:u=θ.ο a:=k;let⟨⟨o,E,D,⟨vs,B⟩,A⟩,_⟩:=g.Og a _ L;let⟨⟨p,m,r,_⟩,_⟩:=g.Og d _ M;let⟨R,t,w⟩:=JL m;let⟨O,hw,b⟩:=au.Vn (v:=v) (o:=p f) (by rw[<-l];show r f);show pM F g.Tb (E,D,by unfold notCls;rw[B],by rw[show o.Pz<*d from Nb Up.fst (A d ζ)];show t) xc.hd n (by rw[w,hw]) (fi b) (v,N,g.Tw _,b,q)
end L2
namespace L2
open PySem.Spec PyProof.Rows
section
variable{X:Cx}{x:Str}{R:Addr}{np hpos pos:Pos}{st b0:Stmt}{suite:List Stmt}{ts:TS}{τ:(St->XK)->TS}
abbrev wf(K:Nn)(R:υ)(τ:(St->XK)->TS)(ts:TS):TS:=λD σ H=>τ (λWJ=>n6 K R ts D WJ) D σ H
def qG(G:J' X x R b0 suite ts)(h:PX X st τ):PS X (.Try [st] [.WG (δ (.N0 x np)) ε (b0::suite) hpos] [] [] Nj) (wf X.K R τ ts):=by
 intro b s g H D I q;refine wpAny_Try_except (NI (Fd h I q) (λf d q=>?_) λi s' a=>by let⟨c,H',d,J,e⟩:=a;show pS G.hex G.Rx G.hfr G.hg G.hm G.hs J e G.hd);cases f with
 |next=>show RL q
 |UX v=>show q
 |Yk=>show q
 |UC=>show q
end
abbrev iq(h:NR)(a:υ)(x:θ):Prop:=∃o vs,h.ψ a=δ o/\o.NL=.OB vs/\vs[2]?<*x
abbrev GT(L:γ υ)(j:Φ):θ:=match L[j+1]? with
 |δ b=>.ο b
 |ε=>.ε
abbrev Is(h:NR)(L:γ υ):Prop:=∀j a,L[j]?<*a->iq h a (GT L j)
def LP:entryFor table "proto.unchain"<*Builtin.«proto.unchain»:=entryFor_of_tree (by kernel_rfl)
def LQ:Δ.plainId "proto.unchain"=ξ:=by decide +kernel
section
variable{prog:Program}{w:World}{A:Around}{s:Shared}{R:Except Value PySem.Flow->Shared->Prop}{L:List Addr}{e:Addr}
def LR(k:Is s.π L)(v:L.Nz)(x:e∉L)(B:R (.ok (.UX .ε)) s):∀(n j i:Φ)(t:MZ)(a b:υ),L.β=j+1+n->i≤j->L[j]?<*a->L[i]?<*b->
  Qh (Cl Ξ w) A (.Nk "proto.unchain" ([.ο e,.ο a,.ο b,.Ph t],[])) R s
 |0,j,i,t,a,b,E,r,u,l=>by
  let⟨o,vs,h1,h2,g⟩:=k j a u;rw[show GT L j=.ε by unfold GT;rw[Pl (!6)]]at g;refine Pf LP ?_;unfold Builtin.«proto.unchain»;dsimp only;refine d_ (NQ h1 h2 g ?_);rw[Id (show(θ.ε==θ.ε)=ξ by decide)];show j' B
 |n+1,j,i,t,a,b,E,r,u,l=>by
  let⟨o,vs,h1,h2,g⟩:=k j a u;obtain⟨c,f⟩:∃c,L[j+1]?<*c:=(L[j+1]'(!6),n_ _);rw[show GT L j=.ο c by unfold GT;rw[f]]at g;let q:c≠e:=λz=>x (z▸AC f);let p:c≠b:=λz=>by
   rw[z]at f;have:=(γ.getElem?_inj (i:=i) (!6) v).mp (l.ν f.MQ);lia
  refine Pf LP ?_;unfold Builtin.«proto.unchain»;dsimp only;refine d_ (NQ h1 h2 g ?_);rw[BT (show ¬ (θ.ο c==θ.ε)=ξ from MZ.M'),BT (by simpa using q),BT (by simpa using p)];let next:∀m h,h≤j+1->L[h]?<*m->Qh (Cl Ξ w) A (.Nk "proto.unchain" ([.ο e,.ο c,.ο m,.Ph !t],[])) R s:=λm h h1 h2=>LR k v x B n (j+1) h (!t) c m (!6) h1 f h2;cases t with
  |η=>
   rw[BT (!0)];show d_ (j' (j' (R9 LQ _,next b i (!6) l)))
  |ξ=>
   obtain⟨d,y⟩:∃d,L[i+1]?<*d:=(L[i+1]'(!6),n_ _);let⟨I,D,H,F,C⟩:=k i b l;rw[show GT L i=.ο d by unfold GT;rw[y]]at C;rw[Id ζ];show d_ (NQ H F C (j' (R9 LQ _,next d (i+1) (!6) y)))
def iW{Q:c->MJ->Prop}(g:A.PR<*.ο h)(j:Is s.π (h::L))(f:(h::L).Nz)(b:e∉h::L)(a:s.π.ψ e<*o)(i:o.NL=.OB vs)(hz:2<vs.MX)(k:E (.ο e) {s with π:=s.π.O4 e (O7 (·.NY 2 (.ο h)))}):Ω (Cl Ξ w) A (Z9 (.ο e):ZD c) Q E s:=by
 unfold Z9;refine d_ (Yl ?_);rw[g];dsimp only;let d:h≠e:=λz=>b (z▸N8);rw[Id (by simpa using d)];refine d_ (NT (YB (LR j f b ?_ L.β 0 0 η h h (by rw[NW];lia) (LE _) ζ ζ)));unfold updateField;refine d_ (d_ (YE a ?_));rw[i];dsimp only;rw[Id hz];show wpAny_update a (VM k)
def Is.Ol{hp:NR}{a:υ}(c:iq hp a .ε):Is hp [a]
 |0,b,e=>by cases e;show c
 |j+1,b,e=>by cases e
end
section
variable{X:Cx}{pins:List (Addr×Obj)}{σ:St}{H:Hp}{s:Shared}
def f'.sink(I:f' X M1 σ H s)(i:H e<*t_ e C d)(a:∀b o,s.π.ψ b<*o->b≠e->b∉s_ X.NC->h'.ψ b<*o)(t:s.π.Um h')(h:∃E,h'.ψ e<*E):f' X M1 σ (BX H e) {s with π:=h'}:=by
 let k:∀b u,H b<*u->b≠e->BX H e b<*u:=λb u z n=>(Ei n).ν z;let A:∀b∈s_ X.NC,∃o,s.π.ψ b=δ o/\∀vs,o.NL≠.OB vs:=Gn I.NC;let B:∀b,H b=ε->b≠e:=λb z y=>by rw[y,i]at z;cases z
 let m:Un (s_ X.NC) [] H (BX H e) s.π h':=by
  refine(λb o z n g _=>a b o z (B b n) g,λb o z n g _=>?_,λb o z n _=>by rw[Ei (B b n)];show n,λb o z _=>?_,λb xs z=>k b _ z (qN z i (by intro y;cases y)),λb o u z=>k b _ z (qN z i (by intro y;cases y)),λb ps z=>(#[],3))
  .obtain ⟨F,f,p⟩:=A b g;rw[z]at f;cases f;show t b _ z p
  .by_cases g:b∈s_ X.NC
   .obtain ⟨F,f,p⟩:=A b g;rw[z]at f;cases f;let⟨M,D⟩:=t b _ z p;show(_,D)
   .by_cases x:b=e
    .subst x;show h
    .exact (o,a b o z x g)
  .rw [Nt.Zm];show k b _ z (qN z i (by intro y;cases y))
 let j:Au X.Ξ X.w (BX H e) h':=λb u z=>by
  let g:b≠e:=λy=>by rw[y,Jp]at z;cases z
  rw[Ei g]at z;refine(I.Og b u z).SX (λc v l y=>?_) (λc y=>k c _ y (qN y i (!5))) λc xs y=>k c _ y (qN y i (!5));let L:∃r,H c=δ r/\c≠e:=by
   rcases l with ζ|l
   .exact (u,z,g)
   .exact (_,l,qN l i (!5))
  let⟨r,hw,q⟩:=L;show a c v y q λJ=>by rw[I.Tj c J]at hw;cases hw
 show I.Qk (g':=s.T7) (d':=s.T8) (t':=s.MW) (ch:=[]) m j I.R5 (λ_ z=>nomatch z)
def vV(un:Un fs f g H h0 h)(dT:h0.ψ T=ε)(c:∀b,b≠T->h'.ψ b=h.ψ b):Un fs f g H h0 h':=by
 let d:∀b o,h0.ψ b<*o->b≠T:=λb o z y=>by rw[y,dT]at z;cases z
 show(λb o z n e a=>(c b (d b o z)).ν (un.QC b o z n e a),λb o z n e a=>by rw[c b (d b o z)];show un.Ud b o z n e a,un.N6,λb o z a=>by rw[c b (d b o z)];show un.QU b o z a,un.QT,un.Vd,un.VR)
def uR(d:Au P w H h)(f:H T=ε)(g:∀b,b≠T->h'.ψ b=h.ψ b):Au P w H h':=λb u z=>by
 refine(d b u z).SX (λc v a y=>?_) (λ_ r=>r) λ_ _ r=>r;rw[g c (λe=>?_)]
 .exact y
 .rcases a with ζ|a
  .rw [e,f]at z;cases z
  .rw [e,f]at a;cases a
def oK{E:XK}{i:Φ}(hx:X.ex=[])(Rx:X.NC=X.KK::X.Fr)(g:X.KK.RQ<*X.KK.Oc)(nd:X.N.Nz)(hi:X.N[i]?<*n)(hk:X.KK.Om n<*.local)(p:X.xe=λev s'=>Ω (Cl X.Ξ X.w) X.A (SE X.KK ev) (λ_ l=>Am X.Ξ X.w X.Fr X.XQ X.RN E ev l) (λe' l=>Am X.Ξ X.w X.Fr X.XQ X.RN E e' l) s')(I:f' X M1 σ H s)(eH:H e<*t_ e C d)(d0:X.RN.π.ψ e=ε)(q:E (.ο C) ε (BX H e))(e1:h1.ψ e<*o1)(c1:o1.OO=.ο C)(P:o1.NL=.OB vs)(f0:vs[0]?<*a0)(f1:vs[1]?<*.ε)(a:∀b,b≠e->h1.ψ b=s.π.ψ b):Yz (Cl X.Ξ X.w) (X.A.Zb (δ v)) X.KK n Nj (Tp (Cl X.Ξ X.w) (X.A.Zb (δ v)) X.KK (cameBackBy (Cl X.Ξ X.w) X.A X.KK X.xe)) (.ο e) {s with π:=h1}:=by
 let⟨⟨t0,eO⟩,_,_⟩:=I.Og e _ eH;let fr:∀b∈s_ X.NC,∃o,s.π.ψ b=δ o/\∀vs,o.NL≠.OB vs:=Gn I.NC;let L:∀b o,s.π.ψ b<*o->(∀vs,o.NL≠.OB vs)->b≠e:=λb o z u y=>by
  rw[y,eO]at z;cases z;show u _ ζ
 let Z:h1.O2 X.ς (X.KK::X.Fr):=Rx▸I.NC.of_keeps λb o z u=>(o,(a b (L b o z u)).ν z,1);let Rr:∀b∈s_ (X.KK::X.Fr),b∈e::s_ X.NC:=λb k=>M4 _ (Rx▸k);unfold Yz Ts;simp only[g];refine d_ (NQ e1 P f1 ?_);rw[BT (!0)];refine wpAny_entryW (s:={s with π:=h1}) (ς:=Qq h1 (e::s_ X.NC)) (Fr:=X.Fr) (by change X.A.Qc=_;rw[<-Rx];show I.ok.Qc) (FL Z Rr) g e1 (λb o z=>SJ _ z) (PJ _ N8) P (Nt.Ox.mp f1).1 f0 λh2 hN=>?_;let⟨n1,_,⟨F,ws,T,oT,ts,g1,⟨g2,S⟩,B,R,nT,t,gT,dT,h3⟩,n4⟩:=hN;let up:s.π.Um h2:=λb o z u=>n4 b o ((a b (L b o z u)).ν z) u;let J:f' X M1 σ (BX H e) {s with π:=h2}:=I.sink eH (λb o z n k=>n1 b o (Ps _ ((a b n).ν z) λO=>(MP.mp O).Nx n k)) up (F,g1);let ag:T∉s_ X.NC:=λO=>by
  let⟨o,z,hd⟩:=fr T O;let⟨sl,z2⟩:=up T o z hd;rw[gT]at z2;cases z2;show hd ts dT
 let r:s.π.ψ T=ε:=by
  cases z:s.π.ψ T with
  |ε=>rfl
  |δ o=>
   rw[Ps _ ((a T t).ν z) λO=>(MP.mp O).Nx t ag]at nT;cases nT
 let nl:∀b o,h2.ψ b<*o->(∃vs,o.NL=.OB vs)->b≠X.KK.Oc:=λb o z ab y=>by
  let⟨vs,hv⟩:=ab;let⟨m,⟨o',es,ep,W,Q,_⟩,_⟩:=J.X1;rw[y]at z;let W:h2.ψ X.KK.Oc<*o':=W;rw[z]at W;cases W;rw[hv]at Q;cases Q
 refine J.goes2 nd hi hk λj sb _ K=>?_;let e3:j.π.ψ e<*F:=(sb.2 e (nl e F g1 (_,B))).ν g1;let T3:j.π.ψ T<*oT:=(sb.2 T (nl T oT gT (_,dT))).ν gT;let f:3<ts.MX:=(Nt.Ox.mp h3).1;let c:∀(h:NR)(x:θ)b,b≠T->(h.O4 T (O7 (·.NY 3 x))).ψ b=h.ψ b:=λh x b k=>OZ _ _ (Ne.MQ k);let T4:=N3 (O7 (·.NY 3 (Ny X.KK.Oc))) T3 (Pb (OU dT _));let Y:=OU dT (·.NY 3 (Ny X.KK.Oc));let T5:=N3 (O7 (·.NY 3 θ.ε)) T4 (Pb (OU Y _));let d5:=OU Y (·.NY 3 θ.ε);let e4:=(c j.π (Ny X.KK.Oc) e (Ne.MQ t)).ν e3;let e5:=(c _ θ.ε e (Ne.MQ t)).ν e4;let U:X.xe (.ο e) {j with π:=j.π.O4 T (O7 (·.NY 3 (Ny X.KK.Oc)))}:=by
  rw[p];unfold SE;refine d_ (ZL (ς:=Qq h1 (e::s_ X.NC)) g (F,ws,T,7,e4,(g2,S),B,R,nT,t,T4,Y,by simp[f]) ?_);unfold Sy;refine d_ (NQ e4 B R ?_);rw[Id (show(θ.ο T != θ.ε)=ξ from by simp)];refine QP T4 Y (by simp[f]) ?_;let D:∀b,b≠T->((j.π.O4 T (O7 (·.NY 3 (Ny X.KK.Oc)))).O4 T (O7 (·.NY 3 θ.ε))).ψ b=j.π.ψ b:=λb k=>(c _ _ b k).ν (c _ _ b k);let M:BX H e T=ε:=by rw[Ei t];show Hc I.Og r
  let ub:=K.ς;rw[hx]at ub;show(e,T,.ο C,a0,ε,BX H e,1,K.os,K.R5,vV ub (AH I hx r) D,uR K.Og M D,d0,AH I hx r,Jp,M,(F,ws,7,e5,(g2.ν c1,S),B,R,t,T5,d5,by simp[f],λ_ z=>nomatch z),q)
 unfold Δ.passOn;refine d_ (NQ e3 B R ?_);rw[BT (show ¬ ((θ.ο T==θ.ε)=ξ)from by simp)];let Xi:Ω (Cl X.Ξ X.w) (X.A.Zb (δ v)) (do Sy (.ο e) X.KK.RQ;throw (θ.ο e):ZD Flow) (λ_ _=>NX) (Tp (Cl X.Ξ X.w) (X.A.Zb (δ v)) X.KK (cameBackBy (Cl X.Ξ X.w) X.A X.KK X.xe)) j:=by
  unfold Sy;rw[g];refine d_ (d_ (NQ e3 B R ?_));rw[Id (show(θ.ο T != θ.ε)=ξ from by simp)];refine QP T3 dT f (VM ?_);rw[p];rw[p]at U;show PassesOwnAt.SE _ _ U
 first
  |show d_ (j' Xi)
  |show Xi
end
section
variable{P:Program}{w:World}{A:Around}{E:Value->Shared->Prop}
variable{nm q:Str}{C N:Addr}{bs bm:List Value}{hdct:Bool}{sn:List Str}{sub:List Value}{ab:Bool}{col:Option Bool}{dd:Option Addr}{k0 k1 k2 k3 k5:Option Value}
def kX(f:bm.M9 (.MO "BaseException")=ξ)(u:A.PR<*.ο h)(y:∀(R:θ->MJ->Prop)a,R .ε a->Ω (Cl P w) A c R E a)(D:Ω (Cl P w) A x (λv a=>∃e d2 a0,v=.ο e/\a.π.ψ C=δ (Ri nm q C N bs bm UT sn Rr ab VJ dd k0 k1 k2 k3 k5 "ValueError.__new__")/\a.π.ψ e=δ (Ab C d2 a0)/\iq a.π h .ε/\e≠h/\e≠C/\
   ∀h1:NR,h1.ψ e<*{Ab C d2 a0 with NL:=.OB #[a0,.ε,.ο h,.ε,.Ph ξ,.ε]}->(∀b,b≠e->h1.ψ b=a.π.ψ b)->E (.ο e) {a with π:=h1}) E s):Ω (Cl P w) A (Y2 KK (δ x) (δ c)) Q E s:=by
 let j:(θ.ο C::bm).M9 (.MO "BaseException")=ξ:=by rw[γ.WB,f,MZ.or_true]
 unfold Y2;refine d_ (NI D (λv a h1=>?_) λ_ _ z=>z);let⟨e,d2,a0,ζ,o,m,F,l,t,B⟩:=h1;let⟨hp,g,d,S,os⟩:=a;refine d_ (NT (y _ _ (d_ (j' ?_))));repeat (first|with_reducible refine Qe m ?_|with_reducible refine Qe o ?_|(with_reducible refine Vv o ?_;rw[j])|wp_step)
 let I:=N3 (O7 (·.NY 3 θ.ε)) m (Pb (OU ζ _));let n:=N3 (O7 (·.NY 4 (θ.Ph ξ))) I (Pb (OU ζ _));let k:∀b,b≠e->((hp.O4 e (O7 (·.NY 3 θ.ε))).O4 e (O7 (·.NY 4 (θ.Ph ξ)))).ψ b=hp.ψ b:=λb i=>(OZ _ _ (Ne.MQ i)).ν (OZ _ _ (Ne.MQ i));let⟨r,p,O,M,J⟩:=F;let H:=N3 (O7 (·.NY 2 (.ο h))) n (Pb (OU ζ _));refine iW (L:=[]) u (Is.Ol (r,p,(k h (Ne.MQ l)).ν O,M,J)) (!1) (by simpa using l) n ζ (!1) ?_;show B _ H λb i=>(OZ _ _ (Ne.MQ i)).ν (k b i)
end
abbrev Ju(P:NE)(w:N1)(K:Nn)(mg:NB->ω θ)(ς:NR)(f:υ)(fd:Sg)(ps:γ NB)(sp:Sp):Prop:=
 ∀(A:N2)(v:θ)(Fr:γ WH)(s:MJ)(H:Hp)(args:Args)(us:γ θ)(vs:γ V)(Q:VK)(E:XK),A.PR<*v->A.Wo<recursionLimit->bx P w K mg ς A Fr s H->X9 s fd args (ps.Th us)->ad vs us->sp vs H Q E->
  Qh (Cl P w) A (.Qk (.ο f) args) (CR pu Fr P w H s Q E) s
section
variable{P:Program}{w:World}{K:Frag}{mg:Str->Option Value}{base:Heap}
def vh.okH{st:Nu}(F:vh K x M6 st f fd)(S:vw N ps (h_ st))(PQ:∀vs H Q E,M vs H Q E->vs.β=ps.β)(i:∀(Qm:θ)(A:N2)(Fr:γ WH)(s:MJ)(H:Hp)(vs:γ V)(Q:VK)(E:XK)(v:θ),M vs H Q E->
   ∃t,BA ((aG pu P w K mg ς N M6 (h_ st) f Qm A Fr s H E).US v) (p_ st) t/\t {nx:=λ_ H'=>Q .Rv H',rt:=Q} (SQ N vs) H):Ju P w K mg ς f fd ps M:=by
 let⟨oc,od,kV,Pm,pm,an,Qm,ct,X,ζ,lk,C⟩:=F.ex;intro A v Fr s H T us vs Q E L B a hb r k;let hl:=PQ _ _ _ _ k;let U:K.In s.π:=a.VX.Vz.Oq λb o e=>(a.bs b o e).1;let p:s.π.X7:=a.VX.Wf.Oq λb o e=>(a.bs b o e).1;let g:∀y∈ps.Th us,(h_ st).MR.ρ y.1<*.local\/((h_ st).MR.ρ y.1=δ .OA/\((Vq (s⁻¹+1) (h_ st).MR []).ρ y.1).Rz=ξ):=λD Y=>by
  let⟨n,v⟩:=D;rcases S.YN n (Uw Y).1 with q|q
  .exact .NJ q
  .exact .NU (q,Δ.W.Ya _ _ _ (.NJ q))
 refine So B (U _ _ lk) ζ S.co S.gen ζ (Δ.W.codeRec_of U C) (hb _ _ _ _ ?_);refine YC S.RT g λKK he O x=>?_;subst he;refine(p.Oq x.toInCall.QC,Wp ?_);let⟨t,Z,hq⟩:=i Qm ({A with PR:=ε}:N2) Fr s H vs Q E v k;let I0:f' (aG pu P w K mg ς N M6 (h_ st) f Qm ({A with PR:=ε}:N2) Fr s H E) [] (SQ N vs) H O:=fb S ζ (a.Qc,a.VX,a.bs,a.bsz,a.Vc,a.frf,a.Og,a.R5) hl r x;let I:=I0.US v;let eA:((aG pu P w K mg ς N M6 (h_ st) f Qm ({A with PR:=ε}:N2) Fr s H E).US v).A=A.RH (S7 M6 (h_ st) s⁻¹ f Qm):=by
  let⟨h,d,fr,gd,un⟩:=A;let L:h<*v:=L;subst L;rfl
 let R:=Z [] O (SQ N vs) H _ I hq;rw[eA]at R;refine NI R (λfl s' j=>?_) λe s' j=>j.Nx;let l:∀{c:St}{H':Hp}{z:V}{u:θ},f' ((aG pu P w K mg ς N M6 (h_ st) f Qm ({A with PR:=ε}:N2) Fr s H E).US v) [] c H' s'->ae z u->Q z H'->CE Fr P w H s Q u s':=
  λ{c H' z u}J m q=>(z,H',J.os,J.R5,J.ς,J.Og,m,q)
 cases fl with
 |UX u=>
  let⟨v,c,H',J,m,q⟩:=j;show l J m q
 |next=>
  let⟨c,H',J,q⟩:=j;show l (z:=V.Rv) (u:=θ.ε) J ζ q
 |Yk=>
  let⟨_,_,_,q⟩:=j;show NX.Nx q
 |UC=>
  let⟨_,_,_,q⟩:=j;show NX.Nx q
end
section
variable{X:Cx}{pins:List (Addr×Obj)}{σ:St}{H:Hp}{s:Shared}{f C:Addr}{fd:FuncData}{ps:List Str}{sp:Sp}{k:Nat}{t ta:TA}{E:XK}
def qC{Q:VK}(S:X.ex=[])(M:BW X.K C f)(Z:isFn X.K (.ο f)=ξ)(F:Ju X.Ξ X.w X.K X.mg X.ς f fd ps sp)(PQ:∀vs H Q E,sp vs H Q E->vs.β=ps.β)(U:ak k X.A)(Y:Ao X.K fd ps [])(I:f' (X.US v) M1 σ H s)(r:ad vs us)(T:us.β≤Λ)(h:∀e,H e=ε->sp (.ο e::vs) (MT H e (t_ e C ε)) (λv H2=>v=.Rv/\Q (.ο e) H2) E0):Ω (Cl X.Ξ X.w) (X.A.Zb (δ v)) (Qk (.ο C) us) (λu s'=>∃e H',u=.ο e/\X.RN.π.ψ e=ε/\f' (X.US v) M1 σ H' s'/\Q (.ο e) H') (λ_ _=>NX) s:=by
 let⟨bm,N,nm,qn,bs,UT,sn,Rr,ab,VJ,dd,k0,k1,k2,k3,k5,mN,cO,P,R,J⟩:=M.Uf (show X.K.In s.π from I.Tb);obtain⟨j,fO,fc⟩:∃j,s.π.ψ f=δ j/\j.OO=.MO "function":=by
  let⟨o,q,e⟩:=BG (show ω.NN (λx:Rp=>x.OO) (γ.ρ f X.K)<*.MO "function"from Oy.mp Z);show(o,(show X.K.In s.π from I.Tb) _ _ q,e)
 let⟨hh,g,d,i,os⟩:=s;refine jE J cO P R fO fc T λh' e B mk=>?_;let⟨t0,D,tn,tO⟩:=mk.QU;let m:f' (X.US v) M1 σ (MT H e (t_ e C ε)) (h',g,d,i,os):=I.T0 (a:=e) (o:=t_ e C ε) (h':=h') (t':=i) mk.Oq B ((_,D),(_,D),λh1 h2 l k=>by let⟨z,q⟩:=l;show(z,k _ q));let p:=h e (I.Og.OG B);let n:ad (V.ο e::vs) (θ.ο e::us):=.NZ ζ r;let W:(θ.ο e::us).β=ps.β:=by
  let z:=n.β;rw[PQ _ _ _ _ p]at z;show z.MQ
 let c:=Y (h',g,d,i,os) (θ.ο e::us) (show X.K.In h' from m.Tb);rw[Oe]at c;refine QS (Pd (F _ v X.NC _ _ (θ.ο e::us,[]) (θ.ο e::us) _ _ E0 ζ ?_ (m.Zj.make C us []) (c W) n p) λr s' b=>?_)
 .rw [Le];have:=U.dp;change X.A.Wo+1<_;lia
 cases r with
 |SA y=>show b.Nx
 |ok fl=>
  cases fl with
  |UX u=>
   let⟨z,H',I3,L,y,O⟩:=m.Xe b;subst y;show(L,e,H',1,AH (X:=X.US v) I S mk.X0,I3,O)
  |next=>show NX.Nx b
  |Yk=>show NX.Nx b
  |UC=>show NX.Nx b
abbrev xW(sp:Sp)(t:TA):(St->XK)->TS:=λG D σ H=>t σ H λvs H1=>sp vs H1 (λv H2=>D.rt v H2) (G σ)
def wK{p i Nj:Sh}(F:AT X.Ξ X.w X.K X.mg X.ς g k ps sp)(m:ak k X.A)(q:PA X.nox (e::a) t)(n:Gl X g>>>4)(c:((g==("__debug__":NB))=η)>>>0)(o:(Θ (e::a) X.KK=(η,OM e X.KK,)::Θ a X.KK)>>>4)(b:((OF i (Θ a X.KK)).Ql (·.1)=η)>>>4):PX X (.XN (δ (.QG (.N0 g p) (e::a) [] i)) Nj) (xW sp t):=by
 intro M1 s σ H D G I h;refine wpAny_Return_some (NI (F_ F m q n c o b I h) (λv x d=>?_) λ_ _ z=>z);let⟨w,u,r,j,l⟩:=d;show(w,σ,u,r,j,l)
abbrev QR(C e:υ)(C':θ)(x0:υ)(E:XK):VK:=λv H=>match v with
 |.ο e1=>∃d',e1≠e/\H e1=δ (t_ e1 C d')/\H e=δ (dC e C' (δ x0))/\E (.ο C) ε (BX H e1)
 |_=>NX
abbrev nZ(K:Nn)(C:υ)(i:Φ)(spx:Sp)(ta:TA)(E:XK)(σ:St):XK:=λC' d H2=>Zh K C' (.ο C)=δ ξ/\∃x,d=δ x/\∀e,H2 e=ε->ta (σ.Ra i (δ (.ο e))) (MT H2 e (dC e C' d)) λws H3=>ws.β≤Λ/\∀e1,H3 e1=ε->
 spx (.ο e1::ws) (MT H3 e1 (t_ e1 C ε)) (λv H4=>v=.Rv/\∃d',e1≠e/\H4 e1=δ (t_ e1 C d')/\H4 e=δ (dC e C' d)/\E (.ο C) ε (BX H4 e1)) E0
abbrev xZ(K:Nn)(C:υ)(i:Φ)(spx:Sp)(ta:TA)(E:XK)(τ:(St->XK)->TS):TS:=λD σ H=>τ (nZ K C i spx ta E) D σ H
def uk{st:Nu}{np Y b r u Nj cp:Sh}{j:Φ}(hx:X.ex=[])(Rx:X.NC=X.KK::X.Fr)(y:X.KK.RQ<*X.KK.Oc)(Z:X.xe=λev s'=>Ω (Cl X.Ξ X.w) X.A (SE X.KK ev) (λ_ m=>Am X.Ξ X.w X.Fr X.XQ X.RN E ev m) (λe' m=>Am X.Ξ X.w X.Fr X.XQ X.RN E e' m) s')(nd:X.N.Nz)(hi:X.N[i]?<*n)(hk:X.KK.Om n<*.local)(hl:DJ X.KK.NG n)(hf:X.fn n=ξ\/X.KK.NG.MR.ρ n<*.local)(hg:Gl X x)(hm:X.mg x<*.ο C)(hd:(x==("__debug__":NB))=η)(M:BW X.K C f)(fn:isFn X.K (.ο f)=ξ)(F:Ju X.Ξ X.w X.K X.mg X.ς f fd ps sp)(PQ:∀vs H Q E,sp vs H Q E->vs.β=ps.β)(hr:ak k X.A)(hb:Ao X.K fd ps [])(ha:∀v,PA (X.US v) (L::p) ta)(h:PX X st τ)(he:(Θ (L::p) X.KK=(η,OM L X.KK,)::Θ p X.KK)>>>4)(ag:((OF b (Θ p X.KK)).Ql (·.1)=η)>>>4):PS X (.Try [st] [.WG (δ (.N0 x np)) (δ n) [.Raise (δ (.QG (.N0 x Y) (L::p) [] b)) (δ (.Vm .ε j cp)) r] u] [] [] Nj) (xZ X.K C i sp ta E τ):=by
 intro M1 s σ H D I q;refine wpAny_Try_except (NI (Fd h I q) (λf s1 q=>?_) λev s'⟨l,H',s1,J,cx⟩=>ml hx Rx y nd hi hk hl hf hg hm (λe C' d H2 s5 U hn d0 I5=>?_) J cx hd)
 .cases f with
  |next=>show RL q
  |UX v=>show q
  |Yk=>show q
  |UC=>show q
 let⟨S,ζ,U⟩:=U;let h0:=U e hn;let IH:=I5.US (.ο e);let⟨bm,N,nm,qn,bs,UT,sn,Rr,ab,VJ,dd,k0,k1,k2,k3,k5,mN,cO,nO,iO,tl⟩:=M.Uf I5.ok.VX.Vz;let cK:∀{l:St}{H':Hp}{s':MJ},f' (X.US (.ο e)) M1 l H' s'->s'.π.ψ C<*Ri nm qn C N bs bm UT sn Rr ab VJ dd k0 k1 k2 k3 k5 "ValueError.__new__":=λI'=>I'.bk _ _ cO;refine Ss ?_;rw[arm_exec_Raise];refine d_ (PY (kX (C:=C) (nm:=nm) (q:=qn) (N:=N) (bs:=bs) (bm:=bm) (UT:=UT) (sn:=sn) (Rr:=Rr) (ab:=ab) (VJ:=VJ) (dd:=dd) (k0:=k0) (k1:=k1) (k2:=k2) (k3:=k3) (k5:=k5) (h:=e) (tl.hasType RF.hasBase) ζ ?_
  (d_ (NI (E:=λ_ _=>NX) (wpAny_Call_ofName (v_ (X:=X.US (.ο e)) IH hg hm ?_ hd)) (λv s3 h3=>d_ (PY (j' h3))) λ_ _ z=>z.Nx))))
 .intro R s1 hR;show d_ (Constant_none (d_ (PY (j' hR))))
 let hA:=ha (.ο e) b M1 s5 _ _ _ IH h0;let W:(OF b (Θ (L::p) X.KK)).Ql (·.1)=η:=by rw[he];change (η||(OF b (Θ p X.KK)).Ql (·.1))=η;rw[ag];rfl
 unfold Yc;refine d_ (NT (NI (Q:=λ(a:Args)s2=>a.kw=[]/\∃vs P,f' (X.US (.ο e)) M1 (l.Ra i (δ (V.ο e))) P s2/\ad vs a.Nj/\vs.β≤Λ/\∀c,P c=ε->sp (.ο c::vs) (MT P c (t_ c C ε)) (λv O=>v=.Rv/\∃d',c≠e/\O c=δ (t_ c C d')/\O e=δ (dC e C' (δ S))/\E (.ο C) ε (BX O c)) E0) ?_ (λa s2 h2=>d_ (PY ?_)) λ_ _ z=>z))
 .rw [he]at hA⊢;show SB.Sb (ri hA λus s2 as=>by let⟨vs,H2,I2,r2,hl,q⟩:=as;show(1,vs,H2,I2,r2,hl,q))
 let⟨g,aA⟩:=a;let⟨ar,vs,P,I3,r3,ap,q3⟩:=h2;obtain ζ:aA=[]:=ar;let⟨aH,g2,d2,aB,aC⟩:=s2;simp only[W];refine d_ (wpAny_keeperOf_exc (cK I3) ?_);refine d_ (NI (qC (Q:=QR C e C' S E) hx M fn F PQ hr hb I3 r3 (by change g.β≤Λ;let z:vs.β=g.β:=r3.β;rw[<-z];show ap) λc an=>q3 c an) (λv s3 hv=>d_ (NT (wpAny_point (j' ?_)))) λ_ _ z=>z);let⟨c,O,ζ,az,B,d',ne,h1,h2,qE⟩:=hv;let⟨⟨t0,eO⟩,_,_⟩:=B.Og c _ h1;let⟨⟨oe,g1,g2,⟨T,g3⟩,g4⟩,_⟩:=B.Og e _ h2;let o:=Nb Up.snd (g4 S ζ);refine(c,d',.ο t0,1,cK B,eO,(oe,T,g1,g3,3),ne,λz=>?_,λaM ho hs=>?_)
 .unfold mu at o;rw[g3]at o;show o
 .rw [z]at eO;have:=(cK B).MQ.ν eO;cases this
 show oK hx Rx y nd hi hk Z (B.unheld I.ok) h1 az qE ho ζ ζ ζ ζ hs
end
section
variable{M:Model}{A:Around}{E:Value->Shared->Prop}{s:Shared}{base:Heap}{env:Env}{outer l:List Env}{L e:Addr}{cls a0 fl:Value}
def lz(m:A.Qc<*(KK::Fr))(n:KK.RQ<*L)(i:ς.X5 s.π)(f:ς.ψ e=ε)(r:s.π.O2 ς (KK::Fr))(k:s.π.ZC ς e OO a0 fl)(v:∀h',Zp ς Fr e OO a0 h'->s.π.Um h'->Q () {s with π:=h'}):Ω M A (SE KK (.ο e)) Q E s:=by
 by_cases d:fl=Ny L
 .subst d;unfold SE;refine d_ (ZL n k ?_);refine ZM (l:=KK::Fr) (i,f,r,k) λh' d x=>?_;let⟨k1,k2,⟨_,_,k3⟩,j⟩:=d;show v h' (k1,k2,k3,j) x
 .obtain ⟨C,vs,T,D,ts,t,⟨a,h0⟩,u,h1,y,p,q,dT,w⟩:=k;subst a;unfold SE Ts;simp only[n];refine d_ (d_ (NQ t u h1 ?_));rw[Id (!1)];refine d_ (NQ q dT w ?_);rw[BT (by simpa using d)];refine d_ (QP q dT (Nt.Ox.mp w).1 ?_);let b:∀c,c≠T->(s.π.O4 T (O7 (·.NY 3 θ.ε))).ψ c=s.π.ψ c:=λc a=>OZ _ _ (Ne.MQ a);let h:∀c o,s.π.ψ c<*o->(∀ws,o.NL≠.OB ws)->c≠T:=λc o a g z=>by
   rw[z,q]at a;cases a;show g ts dT
  refine wpAny_newEntryW (ς:=ς) m (r.of_keeps λc o a g=>(o,(b c (h c o a g)).ν a,1)) n ((b e (Ne.MQ p)).ν t) (λc o a=>(b c λz=>by rw[z,y]at a;cases a).ν (i c o a)) f u
   (Nt.Ox.mp h1).1 h0 λh' B=>?_
  let⟨k1,⟨_,_,k2⟩,k3,j⟩:=B;show v h' (k1,f,k2,k3) λc o a g=>j c o ((b c (h c o a g)).ν a) g
def qT{Q:r->MJ->Prop}(i:ς.X5 s.π)(B:s.π.O2 ς l)(y:s.π.ZC ς e OO a0 fl)(C:∀h' p,ς.X5 h'->h'.O2 ς l->h'.ZC ς e OO a0 p->s.π.Um h'->E (.ο e) {s with π:=h'}):Ω M A (Δ.passOn what (.ο e) w:ZD r) Q E s:=by
 let⟨x,vs,T,F,ts,j,a,k,h1,t,h,m,dT,D⟩:=y;let b:∀v c,c≠T->(s.π.O4 T (O7 (·.NY 3 v))).ψ c=s.π.ψ c:=λv c a=>OZ _ _ (Ne.MQ a);let d:∀c o,s.π.ψ c<*o->(∀ws,o.NL≠.OB ws)->c≠T:=λc o a g z=>by
  rw[z,m]at a;cases a;show g ts dT
 let l3:=(Nt.Ox.mp D).1;unfold Δ.passOn;refine d_ (NQ j k h1 ?_);rw[BT (!1)];let n:∀v,Ω M A (VT (.ο T) 3 v) (λ_ s'=>E (.ο e) s') E s:=λv=>by
  refine QP m dT l3 (C _ v (λc o a=>(b v c λz=>by rw[z,t]at a;cases a).ν (i c o a)) (B.of_keeps λc o a g=>(o,(b v c (d c o a g)).ν a,1)) ?_ λc o a g=>(o.Ry,(b v c (d c o a g)).ν a));show(x,vs,T,7,(b v e (Ne.MQ h)).ν j,a,k,h1,t,h,N3 _ m (Pb (OU dT _)),OU dT _,by simp[l3])
 let u:∀f,Ω M A (Sy (.ο e) f) (λ_ s'=>Ω M A (throw (.ο e):ZD r) Q E s') E s:=λf=>by
  unfold Sy;refine d_ (NQ j k h1 ?_);rw[Id (!1)];show NI (n _) (λ_ _ q=>VM q) λ_ _ q=>q
 first
  |show d_ (j' (d_ (u _)))
  |show d_ (u _)
end
def LS{h h' ς:NR}:∀{l:γ WH},h.O2 ς l->(∀b∈s_ l,h'.ψ b=h.ψ b)->h'.O2 ς l
 |[],_,_=>trivial
 |KK::r,i,a=>by
  let⟨j,⟨L,o,c,g,f,k⟩,d⟩:=i;let e:s_ (KK::r)=L::s_ r:=by unfold s_;rw[Sa,c]
  show(j,(L,o,c,g,(a L (by rw[e];show N8)).ν f,k),LS d λb m=>a b (by rw[e];show M4 _ m))
section
variable{X:Cx}{E:XK}
abbrev ig(X X':Cx)(E:XK):θ->MJ->Prop:=λev s'=>∃M1 σ H s,f' X' M1 σ H s/\Am X.Ξ X.w X.NC H s (λC _ H'=>E C ε H') ev s'
def gH{Y b:Cx}(d:Y=b.Vw (ig X b E))(h1:(b.Ξ=X.Ξ)>>>4)(h2:(b.w=X.w)>>>4)(e:(b.NC=X.NC)>>>4):Eu (Am Y.Ξ Y.w) Y (λC _ H=>E C ε H):=λa c H s _ _ I f=>by
 subst d;refine(a,c,H,s,I.Sv,3);rw[<-h1,<-h2,<-e];show f
abbrev tG(X:Cx)(E:XK):Prop:=X.ex=[]/\X.NC=X.KK::X.Fr/\X.KK.RQ=δ X.KK.Oc/\
 ∀ev s',Ω (Cl X.Ξ X.w) X.A (SE X.KK ev) (λ_ s''=>Am X.Ξ X.w X.Fr X.XQ X.RN E ev s'') (λe' s''=>Am X.Ξ X.w X.Fr X.XQ X.RN E e' s'') s'->X.xe ev s'
def jW{k:γ (υ×Rp)}{σ:St}{H2:Hp}{s2:MJ}{fp:γ υ}{C:υ}(O:tG X E)(Z:f' X k σ H2 s2)(f2:∀b∈fp,(b∈X.ex\/X.RN⁻¹≤b)/\b≠X.KK.Oc/\(∀x c,X.KK.Rm.ρ x<*c->c≠b)/\∀p∈X.pn++k,p.1≠b)(hC:s2⁻¹≤C)(h:ig X {oI X x sc cl C fp s2 H2 with N:=N'} E ev s'):Tp (Cl X.Ξ X.w) X.A (Vg sc cl C X.KK) (λe aV=>Vf (Cl X.Ξ X.w) X.A X.xe us Q b3 C (.SA e) aV) ev s':=by
 let⟨hx,Rx,aA,a8⟩:=O;let⟨a5,bS,H1,s1,I1,e,T,Cc,a0,dd,H',ζ,os,L,un,F,de,dT,he,hT,fT,q⟩:=h;let ab:Un (s_ X.NC) fp H2 H1 s2.π s1.π:=I1.ς;let a:Un (s_ X.NC) fp H2 H' s2.π s'.π:=ab.ν (un.Pk (λ_ z=>z) (λ_ z=>nomatch z));let a6:s1.os=s2.os:=I1.os;let P:s'.os=s2.os:=os.ν a6;let I3:f' X k σ H' s':=Z.call' P a F L f2;let nC:C∉s_ X.NC:=λhm=>by
  let⟨o,ho,_⟩:=Gn Z.NC C hm;show MM (lt_size ho) (TY.Ot hC)
 let bD:∀b∈s_ X.NC,H' b=ε:=I3.Tj;let⟨m,⟨oC,es,ep,H,bg,rC⟩,_⟩:=I1.X1;let H:s1.π.ψ C<*oC:=H;let fC:H1 C=ε:=I1.N6;let an:s'.π.ψ C<*oC:=un.QC C oC H fC nC (!1);let HC:H' C=ε:=un.N6 C oC H fC (!1);let eC:e≠C:=λz=>by rw[z,H]at de;cases de
 let⟨j,g,d,tk,ag⟩:=s';let P:ag=s2.os:=P;let a:Un (s_ X.NC) fp H2 H' s2.π j:=a;let F:Au X.Ξ X.w H' j:=F;let un:Un (s_ X.NC) [] H1 H' s1.π j:=un;let fT:FK j e T Cc a0 dd:=fT;let an:j.ψ C<*oC:=an;let aT:j.O2 X.ς (X.KK::X.Fr):=Rx▸I3.NC;let aB:X.A.Qc<*(X.KK::X.Fr):=by rw[<-Rx];show Z.ok.Qc
 let fl:Zp (Qq j (e::T::C::s_ X.NC)) (X.KK::X.Fr) e Cc a0 j:=
  (λb o z=>SJ _ z,PJ _ (!1),FL aT (by rw[<-Rx];show λb z=>M4 _ (M4 _ (M4 _ z))),fT.traced (PJ _ (!1)))
 let W:(Qq j (e::T::C::s_ X.NC)).ψ C=ε:=PJ _ (!1);let I:∀b o,j.ψ b<*o->b≠e->b≠T->b≠C->b∉s_ X.NC->(Qq j (e::T::C::s_ X.NC)).ψ b<*o:=λb o z h1 h2 h3 M=>Ps _ z (by simp[h1,h2,h3,M]);generalize hB:Qq j (e::T::C::s_ X.NC)=B at fl W I;let bl:∀b,B.ψ b=ε->b≠e->b≠T->b≠C->b∉s_ X.NC->j.ψ b=ε:=λb z h1 h2 h3 M=>by
  cases y:j.ψ b with
  |ε=>rfl
  |δ o=>rw[I b o y h1 h2 h3 M]at z;cases z
 change Ω (Cl X.Ξ X.w) X.A (Ts (.ο e) X.KK) _ _ _;refine Xf (ς:=B) aB aA fl λh1 bd up1=>?_;let az:h1.Ns C m:=up1.ns (oC,es,ep,an,bg,rC);refine(m,az,λh2 sb bP _=>?_);let⟨k1,k2,k3,k4⟩:=bd;let g1:B.X5 h2:=λb o z=>(sb.2 b λy=>by rw[y,W]at z;cases z).ν (k1 b o z);let g3:h2.O2 B (X.KK::X.Fr):=LS k3 λb s=>sb.2 b λy=>nC (by rw[<-y,Rx];show s);let g4:h2.ZC B e Cc a0 (Ny X.KK.Oc):=by
  let⟨oe,vs,T1,oT,ts,y1,y2,y3,y4,y5,y6,y7,y8,y9⟩:=k4;let bM:T1≠C:=λz=>by
   let⟨o',b1,b2,a9,bi,_⟩:=az;rw[z,a9]at y7;cases y7;rw[bi]at y8;cases y8
  show(oe,vs,T1,oT,ts,(sb.2 e eC).ν y1,y2,y3,y4,y5,y6,(sb.2 T1 bM).ν y7,y8,y9)
 refine qT (ς:=B) (l:=X.KK::X.Fr) g1 g3 g4 λh3 b0 j1 j2 j3 aN=>a8 _ _ (lz (ς:=B) aB aA j1 k2 j2 j3 λM bf aM=>?_);let⟨i1,i2,i3,i4⟩:=bf;let D:∀b o,j.ψ b<*o->b≠e->b≠T->b≠C->b∉s_ X.NC->M.ψ b<*o:=λb o z a1 a2 Y a4=>i1 b o (I b o z a1 a2 Y a4);let ar:∀b o,b≠C->j.ψ b<*o->(∀vs,o.NL≠.OB vs)->∃sl,M.ψ b<*{o with Ry:=sl}:=λb o bm z hd=>by
  let⟨bV,e1⟩:=up1 b o z hd;let⟨bU,e3⟩:=aN b _ ((sb.2 b bm).ν e1) hd;let⟨aU,e4⟩:=aM b _ e3 hd;show(aU,e4)
 let t:∀b o,s2.π.ψ b<*o->b∉fp->b≠e/\b≠T/\b≠C:=λb o z J=>by
  let⟨o1,R⟩:=ab.QU b o z J;refine(λy=>?_,λy=>?_,λy=>?_)
  .rw [y,de]at R;cases R
  .rw [y,dT]at R;cases R
  .exact MM (lt_size z) (TY.Ot (by rw[y];show hC))
 let aC:∀b∈s_ X.NC,∀o,s2.π.ψ b<*o->∀vs,o.NL≠.OB vs:=λb s o z=>by
  let⟨o',z',hd⟩:=Gn Z.NC b s;rw[z]at z';cases z';show hd
 let aS:Un (s_ X.NC) fp H2 H' s2.π M:=by
  refine(λb o z n s J=>?_,λb o z n s J=>?_,a.N6,λb o z J=>?_,a.QT,a.Vd,a.VR)
  .obtain ⟨a1,a2,Y⟩:=t b o z J;show D b o (a.QC b o z n s J) a1 a2 Y s
  .obtain ⟨a1,a2,Y⟩:=t b o z J;let⟨sl,R⟩:=a.Ud b o z n s J;let⟨as,z2⟩:=ar b _ Y R (aC b s o z);show(as,z2)
  .obtain ⟨a1,a2,Y⟩:=t b o z J;let⟨o1,R⟩:=a.QU b o z J;by_cases s:b∈s_ X.NC
   .obtain ⟨sl,z3⟩:=a.Ud b o z (Z.Tj b s) s J;let⟨as,z2⟩:=ar b _ Y z3 (aC b s o z);show(_,z2)
   .exact (o1,D b o1 R a1 a2 Y s)
 let U:Au X.Ξ X.w H' M:=λb u z=>(F b u z).SX (λc v hc y=>by
  let bk:∃u',H' c<*u':=by
   rcases hc with f|f
   .exact (u,by rw[f];show z)
   .exact (_,f)
  let⟨u',S⟩:=bk;refine D c v y (λf=>?_) (λf=>?_) (λf=>?_) (λf=>?_)
  .rw [f,he]at S;cases S
  .rw [f,hT]at S;cases S
  .rw [f,HC]at S;cases S
  .rw [bD c f]at S;cases S) (λ_ y=>y) λ_ _ y=>y
 let IF:f' X k σ H' (M,g,d,tk,ag):=Z.call' (s':=(M,g,d,tk,ag)) P aS U L f2;let i:∀b,s1.π.ψ b=ε->X.RN.π.ψ b=ε:=λb z=>by
  cases y:X.RN.π.ψ b with
  |ε=>rfl
  |δ o=>
   let⟨o2,r2⟩:=Z.ς.QU b o y (by rw[hx];simp);let⟨o1,r1⟩:=ab.QU b o2 r2 λhm=>by
    rcases(f2 b hm).1 with f|f
    .rw [hx]at f;cases f
    .exact MM (lt_size y) (TY.Ot f)
   rw[z]at r1;cases r1
 let⟨T2,a7,ap⟩:=gZ i4;let aH:X.RN.π.ψ T2=ε/\H' T2=ε:=by
  let bs:T2≠e:=by let⟨_,_,_,_,_,_,_,_,z,_⟩:=ap;show z
  by_cases f:T2=T
  .rw [f];show(i T dT,hT)
  by_cases w2:T2=C
  .rw [w2];refine(3,HC);cases y:X.RN.π.ψ C with
   |ε=>rfl
   |δ o=>show MM (lt_size y) (TY.Ot (IO Z.sz hC))
  let bo:=IU ap IF.NC;let z:=bl T2 a7 bs f w2 bo;refine(i T2 ?_,Hc F z);cases y:s1.π.ψ T2 with
  |ε=>rfl
  |δ o=>
   let⟨o',r⟩:=un.QU T2 o y (!1);rw[z]at r;cases r
 let ub:=IF.ς;rw[hx]at ub;show(e,T2,Cc,a0,ε,H',1,IF.os,L,ub,U,i e de,aH.1,he,aH.2,ap,q)
end
section
variable{X:Cx}{elt iter:Expr}{x:Str}{px pos:Pos}{ifs:List Expr}{sc:Scope}{wi:TI}{tt:TT}{te:TE}
end
def wR{P:NE}{w:N1}{K:Nn}{mg:NB->ω θ}{ς:NR}{N:γ NB}:tG (aG (Am P w) P w K mg ς N M6 a f b A Fr s H E) E:=(5,1,λ_ _ h=>h)
section
variable{X:Cx}{elt iter:Expr}{x:Str}{px pos:Pos}{ifs:List Expr}{sc:Scope}{wi:TI}{tt:TT}{te:TE}
def iY(i:γ NB){U g:Sh}(O:tG X E)(hc:X.T9=ξ)(hN:X.N.Nz)(q:(x::i).Nz)(hj:X.N[j]?<*y)(z:DJ X.KK.NG y)(hi:PI X (.N0 x px) Qt wi)(n:∀(P:γ (NB×υ))(C:υ)(M:γ υ)(s:MJ)(H:Hp),FH {oI X x sc P C M s H with N:=x::i} Xn tt/\PE (({oI X x sc P C M s H with N:=x::i}:Cx).Vw (ig X {oI X x sc P C M s H with N:=x::i} E)) Xq te)(hx:(sc.MR.ρ x<*.local)>>>4)(a:(sc.RT=.RP)>>>4)(d:(∀y∈sc.MR,y.2=.local->sc.MR.ρ y.1<*.local)>>>3)(c:(∀y∈sc.MR,y.2≠.OA)>>>3)(l:((sc.MR.QD λy=>y.2 != .N6||X.KK.NG.MR.ρ y.1==δ .OA)=ξ)>>>4)(B:((i.QD λy=>sc.MR.ρ y != δ .local)=ξ)>>>4)(F:(i.β=X.N.β)>>>4)(w:(((i.Th X.N).QD λy=>y.1==y.2||sc.MR.ρ y.1==ε)=ξ)>>>4)(hs:(∀x,Pc Qt X.KK x=pure x)>>>7)(A:(Sw (.QF Xq [(.N0 x px,Qt,Xn,(0))] sc Nj) (δ (.N0 y U)) g.SZ X.KK=pure ξ)>>>4)(L:(X.fn y=ξ\/X.KK.NG.MR.ρ y<*.local)>>>8):PS X (.WS [.N0 y U] (.QF Xq [(.N0 x px,Qt,Xn,(0))] sc Nj) g) (aK (FI wi tt te) (Bv j)):=by
 intro Z s T H DD I h;refine Cg A λ_=>An (xx:=λY=>ig X Y E) (WV:=λ_=>η) (Q:=λv t=>Bv j v T t DD.nx) (ns:=[x]) (gx:=λy _ vs=>vs=[y]) i hc q hi n (Ii q (.NJ (Oa hx)) (.NU (Oa hx))) a d (Ih a c) (λy h e=>MM e (c y h)) jg (NP.Ot λy hy=>by rw[NP.mp l y hy];rfl) B F w hs I h (λJ t r D hD=>?_) (λS o u k R qn=>mR hN hj z L S o u k R qn) λS o k f=>jW O S (λb n=>((o b n).2.2.2.1,(o b n).2.1,(o b n).2.2.2.2.1,(o b n).2.2.2.2.2)) k f;let⟨W,m,p⟩:=r D hD;show(W,m,Ij (Q:=λv t=>Bv j v T t DD.nx) p)
end
inductive tT(C:ι->Addr)(m:Str)(sp:ι->Sp)(E:XK)(Q:VK)(x:V)(H1:Hp):Prop
 |mk (i a dx fs:_) (_:x=.ref a) (_:H1 a<*.ins (C i) dx fs) (_:fs.lookup m=none) (_:sp i [x] H1 Q E)
abbrev qi{ι:Type}(C:ι->υ)(m:NB)(sp:ι->Sp)(E:XK)(ta:TE):TE:=λσ H Q=>ta σ H (tT C m sp E Q)
section
variable{X:Cx}{CX:CXT}{k:Nat}{ps:List Str}{E:XK}{m x:Str}{p pos apos:Pos}{o e:Expr}{ta te:TE}{ι:Type}{C f:ι->Addr}{fd:ι->FuncData}{sp:ι->Sp}
def Jv(D:PE X o ta)(c:∀i,Cp X.K (C i))(j:∀i,dX X.K (C i) m (f i))(F:∀i,aa X.Ξ X.w X.K X.mg X.ς CX k (f i) (fd i) ps (sp i))(B:ak k X.A)(J:∀i,Ao X.K (fd i) ps [])(t:Eu CX X E)(v:(OM (.QG (.O3 o m Zn) [] [] Nj) X.KK=(do
   let g <-OM o X.KK
   standAt Zn.atName
   let(f,first,) <-holding [g] (XB g m pl)
   Yc Nj f first (OF Nj (Θ [] X.KK)) (Vi Nj (TQ [] X.KK))))>>>4):PE X (.QG (.O3 o m Zn) [] [] Nj) (qi C m sp E ta):=by
 intro b s n H Q I h;refine Δ.W.Yr (pl:=pl) (ri (D b s n H _ I h) λu M z=>?_) v;let⟨y,N,d,r,i,a,dx,fs,ζ,L,l,q⟩:=z;cases r;refine Ld d L (c i) (j i) l (Δ.W.callWith_K0 (first:=[.ο a]) d.Tb (j i).kp ?_);show kQ (us:=[.ο a]) (vs:=[.ο a]) (F i) B (J i) .Ow t d (.NZ ζ .Ow) q
structure Iu(K:Frag)(C:Addr):Prop where
 makes:makesIn K C=true
 init:PySem.W.findIn K (.ref C) "__init__"<*some (.builtin "object.__init__")
 kp:keepIn K (.ref C)=true
 mro:PySem.W.mroIn K C (.type "object")<*true
abbrev wq(C:υ):TE:=λ_ H Q=>∀x dx,H x=ε->H dx=ε->dx≠x->Q (.ο x) (MT (MT H dx (.Xk x)) x (.Uq C dx []))
def Kj{C:υ}(M:Iu X.K C)(j:Gl X x)(i:X.mg x<*.ο C)(c:((x==("__debug__":NB))=η)>>>0):PE X (.QG (.N0 x p) [] [] Nj) (wq C):=by
 intro g s l H Q I h;let d:=f'.made (C:=C) I;let⟨q,O,_⟩:=HQ (a:=s⁻¹+1) (C:=C) (dx:=s⁻¹) (fs:=[]) d.Og j_;let⟨n,J,_⟩:=O.look;refine Nc (v_ I j i (Δ.W.callWith_K0 I.Tb M.kp (QS ?_)) c);refine pi I.Tb M.makes M.init (λb=>.of_pure (Δ.W.oi_bind b)) ?_;refine Rl Δ.W.oi_plain Δ.W.entry_oi ?_;refine Δ.W.check_slot (Ru:=[]) (kw:=[]) Δ.W.oi_kind Δ.W.oi_split (J.MO.X4 (Δ.W.looks_mroIn d.Tb M.mro)) (Δ.W.oi_args _) ?_;rw[Δ.W.oi_run];show j' (1,V.ο _,_,d,1,h _ _ (I.Og.OG (SF _)) (I.Og.OG (LE _)) (M_ (OC _)))
end
end L2
namespace RA
open L2
inductive K0 where
 |never|empty|any
inductive K1 where
 |outside|turned|again
inductive K2 where
 |either|less|both|then_
inductive Pt where
 |leaf (k:K0)
 |sign (c:Nat)
 |one (k:K1) (x:Pt)
 |two (k:K2) (x y:Pt)
inductive Kd where
 |leaf (k:K0)
 |sign
 |one (k:K1)
 |two (k:K2)
abbrev Pt.kd:Pt->Kd
 |.Oo k=>.Oo k
 |.RB _=>.RB
 |.Ol k _=>.Ol k
 |.PF k _ _=>.PF k
abbrev Pt.V4:Pt->Φ
 |.Oo _=>1
 |.RB _=>1
 |.Ol _ x=>x.V4+1
 |.PF _ x y=>max x.V4 y.V4+1
def Pt.U5(t:Pt):1≤t.V4:=by
 cases t<;>simp only[Pt.V4]<;>lia
abbrev Hy:K0->NB
 |.PU=>"never"
 |.Rj=>"empty"
 |.Ql=>"any"
abbrev GV:K1->NB
 |.Ob=>"outside"
 |.OJ=>"turned"
 |.again=>"again"
abbrev Dn:K2->NB
 |.PB=>"either"
 |.Tz=>"less"
 |.Te=>"both"
 |.OP=>"then"
abbrev Mf:Kd->NB
 |.Oo .PU=>"Never"
 |.Oo .Rj=>"Empty"
 |.Oo .Ql=>"AnySign"
 |.RB=>"Sign"
 |.Ol .Ob=>"Outside"
 |.Ol .OJ=>"Turned"
 |.Ol .again=>"Again"
 |.PF .PB=>"Either"
 |.PF .Tz=>"Less"
 |.PF .Te=>"Both"
 |.PF .OP=>"Then"
abbrev ED{α:Type}(a1 a2 a3 a4 a5 a6 a7 a8 a9 a10 a11:α):Kd->α
 |.Oo .PU=>a1
 |.Oo .Rj=>a2
 |.Oo .Ql=>a3
 |.RB=>a4
 |.Ol .Ob=>a5
 |.Ol .OJ=>a6
 |.Ol .again=>a7
 |.PF .PB=>a8
 |.PF .Tz=>a9
 |.PF .Te=>a10
 |.PF .OP=>a11
def Hz{p:Kd->Prop}(h1:p (.Oo .PU))(h2:p (.Oo .Rj))(i:p (.Oo .Ql))(h:p .RB)(g:p (.Ol .Ob))(f:p (.Ol .OJ))(e:p (.Ol .again))(d:p (.PF .PB))(c:p (.PF .Tz))(b:p (.PF .Te))(a:p (.PF .OP)):∀k,p k
 |.Oo .PU=>h1
 |.Oo .Rj=>h2
 |.Oo .Ql=>i
 |.RB=>h
 |.Ol .Ob=>g
 |.Ol .OJ=>f
 |.Ol .again=>e
 |.PF .PB=>d
 |.PF .Tz=>c
 |.PF .Te=>b
 |.PF .OP=>a
abbrev BF(c:Kd->υ)(H:Hp):Pt->V->Prop
 |.Oo k,v=>∃a dx,v=.ο a/\H a<*.Uq (c (.Oo k)) dx []
 |.RB z,v=>∃a dx,v=.ο a/\H a<*.Uq (c .RB) dx (af "sign" (.NA (tx [z])) [])
 |.Ol k x,v=>∃a dx u,v=.ο a/\H a=δ (.Uq (c (.Ol k)) dx (af "inner" u []))/\BF c H x u
 |.PF k x y,v=>∃a dx u w,v=.ο a/\H a=δ (.Uq (c (.PF k)) dx (af "right" w (af "left" u [])))/\BF c H x u/\BF c H y w
abbrev ah(H:Hp):Pt->V->Prop
 |.Oo k,v=>∃a,v=.ο a/\H a<*.No [.NA (Hy k)]
 |.RB z,v=>∃a,v=.ο a/\H a<*.No [.NA "sign",.NA (tx [z])]
 |.Ol k x,v=>∃a u,v=.ο a/\H a=δ (.No [.NA (GV k),u])/\ah H x u
 |.PF k x y,v=>∃a u w,v=.ο a/\H a=δ (.No [.NA (Dn k),u,w])/\ah H x u/\ah H y w
abbrev Kp(H H':Hp):Prop:=∀b o,H b<*o->(∀xs,o≠.M7 xs)->H' b<*o
def a'.kp(h:a' H H'):Kp H H':=λb o e _=>h b o e
def Kp.ν(a:Kp H f)(b:Kp f d):Kp H d:=λc o e n=>b c o (a c o e n) n
def Kp.M7(h:H p<*.M7 xs):Kp H (MT H p o):=λb a e n=>by
 rw[a_ (qN e h (λz=>n xs z))];show e
def BF.kp{c:Kd->υ}{H H':Hp}(h:Kp H H'):∀{t:Pt}{v:V},BF c H t v->BF c H' t v
 |.Oo _,_,⟨a,dx,e,b⟩=>(a,dx,e,h _ _ b (λ_ z=>nomatch z))
 |.RB _,_,⟨a,dx,e,b⟩=>(a,dx,e,h _ _ b (λ_ z=>nomatch z))
 |.Ol _ x,_,⟨a,dx,u,e,b,d⟩=>(a,dx,u,e,h _ _ b (λ_ z=>nomatch z),BF.kp h (t:=x) d)
 |.PF _ x y,_,⟨a,dx,u,w,e,b,d,f⟩=>(a,dx,u,w,e,h _ _ b (λ_ z=>nomatch z),BF.kp h (t:=x) d,BF.kp h (t:=y) f)
def ah.kp{H H':Hp}(h:Kp H H'):∀{t:Pt}{v:V},ah H t v->ah H' t v
 |.Oo _,_,⟨a,e,b⟩=>(a,e,h _ _ b (λ_ z=>nomatch z))
 |.RB _,_,⟨a,e,b⟩=>(a,e,h _ _ b (λ_ z=>nomatch z))
 |.Ol _ x,_,⟨a,u,e,b,c⟩=>(a,u,e,h _ _ b (λ_ z=>nomatch z),ah.kp h (t:=x) c)
 |.PF _ x y,_,⟨a,u,w,e,b,c,d⟩=>(a,u,w,e,h _ _ b (λ_ z=>nomatch z),ah.kp h (t:=x) c,ah.kp h (t:=y) d)
def BF.Uq{c:Kd->υ}{H:Hp}:∀{t:Pt}{v:V},BF c H t v->∃a dx fs,v=.ο a/\H a=δ (.Uq (c t.kd) dx fs)/\fs.ρ ("shape":NB)=ε
 |.Oo _,_,⟨a,dx,e,b⟩=>(a,dx,_,e,b,1)
 |.RB _,_,⟨a,dx,e,b⟩=>(a,dx,_,e,b,by rw[Co,BT (!3)];rfl)
 |.Ol _ x,_,⟨a,dx,u,e,b,d⟩=>(a,dx,_,e,b,by rw[Co,BT (!3)];rfl)
 |.PF _ x y,_,⟨a,dx,u,w,e,b,d,f⟩=>(a,dx,_,e,b,by rw[Co,BT (!3),Co,BT (!3)];rfl)
def uG(u:V):(af "sign" u []).ρ ("sign":NB)<*u:=by rw[Co,Id ζ]
def rL(u:V):(af "inner" u []).ρ ("inner":NB)<*u:=by rw[Co,Id ζ]
def uH(u w:V):(af "right" w (af "left" u [])).ρ ("left":NB)<*u:=by rw[Co,BT (!3),Co,Id ζ]
def rK(u w:V):(af "right" w (af "left" u [])).ρ ("right":NB)<*w:=by rw[Co,Id ζ]
structure vt(K:Frag)(C cP:Addr):Prop where
 cl:Cp K C
 ha:PySem.W.findIn K (.ref C) "__class__"<*some (.builtin "object.__class__")
 hn:PySem.W.specialIn K (.builtin "object.__class__") "__get__"<*some (.builtin "getset_descriptor.__get__")
 htk:PySem.W.takesIn K (.builtin "object.__class__")<*true
 hm:PySem.W.mroIn K C (.type "object")<*true
 ki:kitOne K (.ref C) (.ref cP)<*true
 nS:Ah K C "sign"
 nL:Ah K C "left"
 nR:Ah K C "right"
 nI:Ah K C "inner"
inductive tW(K:Frag)(x:Str)(vs:List V)(H:Hp)(Q:VK)(_E:XK):Prop
 |mk (p v C dx:_) (_:vs=[.ref p,v]) (_:H p<*.ins C dx []) (_:Cp K C) (_:Ah K C x) (_:∀H',(∀b o,H b<*o->b≠p->H' b<*o)->H' p<*.ins C dx (af x v [])->Q .non H')
inductive yo(K:Frag)(x y:Str)(vs:List V)(H:Hp)(Q:VK)(_E:XK):Prop
 |mk (p v u C dx:_) (_:vs=[.ref p,v,u]) (_:H p<*.ins C dx []) (_:Cp K C) (_:Ah K C x) (_:Ah K C y) (_:∀H',(∀b o,H b<*o->b≠p->H' b<*o)->H' p<*.ins C dx (af y u (af x v []))->Q .non H')
def CC(c:H x=ε)(a:H dx=ε)(h:∀b o,(MT (MT H dx (.Xk x)) x o0) b<*o->b≠x->H' b<*o):a' H H':=λb o e=>
 h b o (by rw[a_ (e_ e c),a_ (e_ e a)];show e) (e_ e c)
inductive gn(c:Kd->Addr)(n:Nat)(k:Kd)(vs:List V)(H:Hp)(Q:VK)(_E:XK):Prop
 |mk (a:Addr) (t:Pt) (_:vs=[.ref a]) (_:BF c H t (.ref a)) (_:t.kd=k) (_:t.dep≤n) (_:∀v H',a' H H'->ah H' t v->Q v H')
structure F'(P:Program)(w:World)(K:Frag)(mg:Str->Option Value)(base:Heap)(c:Kd->Addr)(cP:Addr):Prop where
 kP:mg "Pattern"<*.ref cP
 kc:∀k,mg (Mf k)<*.ref (c k)
 pc:∀k,vt K (c k) cP
 mk0:∀k,Iu K (c (.leaf k))
 iS:∃f fd,Mk K (c .sign) f/\aa P w K mg base pu 1 f fd ["self","sign"] (tW K "sign")/\Ao K fd ["self","sign"] []
 iU:∃f fd,(∀k,Mk K (c (.one k)) f)/\aa P w K mg base pu 1 f fd ["self","inner"] (tW K "inner")/\Ao K fd ["self","inner"] []
 iP:∃f fd,(∀k,Mk K (c (.two k)) f)/\aa P w K mg base pu 1 f fd ["self","left","right"] (yo K "left" "right")/\Ao K fd ["self","left","right"] []
 sh:∃(f:Kd->Addr)(fd:Kd->FuncData),(∀k,dX K (c k) "shape" (f k))/\(∀k,Ao K (fd k) ["self"] [])/\∀n k,aa P w K mg base pu n (f k) (fd k) ["self"] (gn c n k)
abbrev aZ(ts:γ Pt):Φ:=(ts.NN Pt.V4).sum
def Iv(ts:γ Pt)(t:Pt):aZ (ts++[t])=aZ ts+t.V4:=by
 unfold aZ;rw[Nw,γ.YI];simp
def HA{ys:γ V}:(ys++[v])[(ys++[v]).β-1]?<*v:=by simp
inductive U2 where
 |outside|turned
abbrev U2.k1:U2->K1
 |.Ob=>.Ob
 |.OJ=>.OJ
inductive Wt where
 |lp
 |un (k:U2)
 |bin (k:K2)
abbrev lvl:K2->Φ
 |.PB=>0
 |.Tz=>0
 |.Te=>1
 |.OP=>2
abbrev Wt.NA:Wt->Φ
 |.lp=>0
 |.un _=>4
 |.UA k=>lvl k+1
inductive Tk where
 |lp
 |rp
 |star
 |un (k:U2)
 |bin (k:K2)
 |piece (t:Pt)
abbrev BO(s:Φ):γ Pt->γ Wt->ω (γ Pt×γ Wt)
 |_,[]=>ε
 |ps,w::ws=>if s≤w.NA then
   match w,ps with
   |.un k,x::qs=>BO s (.Ol k.k1 x::qs) ws
   |.UA k,y::x::qs=>BO s (.PF k x y::qs) ws
   |_,_=>ε
  else δ (ps,w::ws,)
abbrev yN:γ Pt×γ Wt->ω (γ Pt×γ Wt)
 |(ps,_::ws)=>δ (ps,ws,)
 |(_,[])=>ε
abbrev yk:γ Pt->ω (γ Pt)
 |x::qs=>δ (.Ol .again x::qs)
 |[]=>ε
abbrev cz(ps:γ Pt)(ws:γ Wt):Tk->ω (γ Pt×γ Wt)
 |.lp=>δ (ps,.lp::ws,)
 |.un k=>δ (ps,.un k::ws,)
 |.UA k=>(BO (lvl k+1) ps ws).NN λr=>(r.1,.UA k::r.2,)
 |.rp=>(BO 1 ps ws).Wr yN
 |.ZX=>(yk ps).NN λqs=>(qs,ws,)
 |.TJ t=>δ (t::ps,ws,)
abbrev Bz:γ Tk->γ Pt×γ Wt->ω (γ Pt×γ Wt)
 |[],r=>δ r
 |t::ts,r=>(cz r.1 r.2 t).Wr (Bz ts)
def HB:∀(a b:γ Tk)(r:γ Pt×γ Wt),Bz (a++b) r=(Bz a r).Wr (Bz b)
 |[],_,_=>rfl
 |t::a,b,r=>by
  change (cz r.1 r.2 t).Wr (Bz (a++b))=((cz r.1 r.2 t).Wr (Bz a)).Wr (Bz b);cases cz r.1 r.2 t with
  |ε=>rfl
  |δ c=>show HB a b c
abbrev B7(c:Φ):MZ:=[33,60,40,38,124,45].M9 c
abbrev isB(c:Φ):MZ:=[42,38,124,45,41].M9 c
abbrev Tw(c:Φ):Tk:=
 if c=40 then .lp else if c=41 then .rp else if c=42 then .ZX else if c=33 then .un .Ob else if c=60 then .un .OJ
 else if c=124 then .UA .PB else if c=45 then .UA .Tz else if c=38 then .UA .Te
 else if c=48 then .TJ (.Oo .PU)else if c=49 then .TJ (.Oo .Rj)else if c=46 then .TJ (.Oo .Ql)else .TJ (.RB c)
abbrev MW:MZ->LN->γ Tk
 |_,[]=>[]
 |w,c::cs=>(if (!w&&!isB c)=ξ then[.UA .OP]else[])++Tw c::MW (B7 c) cs
abbrev C7(b:MZ):LN->MZ
 |[]=>b
 |c::cs=>C7 (B7 c) cs
def Jw:∀(u v:LN)(b:MZ),MW b (u++v)=MW b u++MW (C7 b u) v
 |[],_,_=>rfl
 |c::u,v,b=>by
  change _++Tw c::MW (B7 c) (u++v)=(_++Tw c::MW (B7 c) u)++_;rw[Jw u v];simp[C7]
def Bk:∀(u v:LN)(b:MZ),C7 b (u++v)=C7 (C7 b u) v
 |[],_,_=>rfl
 |c::u,v,b=>Bk u v _
abbrev c0:K0->Φ
 |.PU=>48
 |.Rj=>49
 |.Ql=>46
abbrev c1:U2->Φ
 |.Ob=>33
 |.OJ=>60
abbrev m2:K2->LN
 |.PB=>[124]
 |.Tz=>[45]
 |.Te=>[38]
 |.OP=>[]
inductive G(L:LN):Nat->Pt->LN->Prop where
 |leaf (k:K0):G L 4 (.leaf k) [c0 k]
 |sign {c:Nat} (h:c∈L):G L 4 (.sign c) [c]
 |par {l:Nat} {t:Pt} {w:LN} (h:G L l t w):G L 4 t (40::(w++[41]))
 |again {t:Pt} {w:LN} (h:G L 4 t w):G L 4 (.one .again t) (w++[42])
 |pre {l:Nat} {t:Pt} {w:LN} (k:U2) (h:G L l t w) (hl:3≤l):G L 3 (.one k.k1 t) (c1 k::w)
 |bin {a b:Nat} {x y:Pt} {u v:LN} (k:K2) (hx:G L a x u) (hy:G L b y v) (ha:lvl k≤a) (hb:lvl k+1≤b):G L (lvl k) (.two k x y) (u++m2 k++v)
abbrev j5(L:LN):Prop:=∀c∈L,97≤c/\c≤122
def z_(h:97≤c/\c≤122):B7 c=η/\isB c=η/\Tw c=.TJ (.RB c):=by
 let⟨h1,h2⟩:=h;refine(3,3,3)
 .unfold B7;simp;lia
 .unfold isB;simp;lia
 .unfold Tw;repeat rw[BT (!6)]
def G.first(b:j5 L)(h:G L l t w):∃c r,w=c::r/\isB c=η:=by
 induction h with
 |Oo k=>show(_,0,by cases k<;>rfl)
 |RB h=>show(4,(z_ (b _ h)).2.1)
 |YN h a=>show(4,1)
 |again h a=>let⟨c,r,ζ,e⟩:=a;show(c,0,e)
 |pre k h g a=>show(_,0,by cases k<;>rfl)
 |UA k f d j i ih1 ih2=>let⟨c,r,ζ,e⟩:=ih1;show(c,0,e)
def G.Zc(c:j5 L)(h:G L l t w):∀b,C7 b w=η:=by
 induction h with
 |Oo k=>intro b;cases k<;>rfl
 |RB h=>show λb=>(z_ (c _ h)).1
 |YN h a=>intro b;change C7 _ (_++[41])=η;rw[Bk];rfl
 |again h a=>intro b;rw[Bk];rfl
 |pre k h f a=>show λb=>a _
 |UA k e d i g ih1 ih2=>intro b;rw[Bk];show ih2 _
def Ek(h:isB c=η):MW η (c::r)=.UA .OP::MW ξ (c::r):=by
 unfold MW;rw[h];rfl
abbrev vS(os:γ Wt)(qs:γ Pt)(t:Pt):Prop:=∀s ps ws,(∀o∈os,s≤o.NA)->BO s (qs++ps) (os++ws)=BO s (t::ps) ws
def Iw(h:w.NA<s):BO s ps (w::ws)<*(ps,w::ws,):=by
 unfold BO;rw[BT (!6)]
def kG(h:s≤4):BO s (x::ps) (.un k::ws)=BO s (.Ol k.k1 x::ps) ws:=by
 rw[BO,Id (show s≤(Wt.un k).NA from h)]
def iM(h:s≤lvl k+1):BO s (y::x::ps) (.UA k::ws)=BO s (.PF k x y::ps) ws:=by
 rw[BO,Id (show s≤(Wt.UA k).NA from h)]
def gR(k:K2):lvl k≤2:=by cases k<;>decide
def wC(o:Wt):o.NA≤4:=by
 cases o with
 |lp=>show Nf _
 |un k=>show LE _
 |UA k=>have:=gR k;change lvl k+1≤4;lia
def vY(k:K0):Tw (c0 k)=.TJ (.Oo k):=by cases k<;>rfl
def ku(k:U2):Tw (c1 k)=.un k/\B7 (c1 k)=ξ:=by
 cases k<;>show(1,1)
def UG{os:γ Wt}(h:∀o∈os,5≤o.NA):os=[]:=by
 cases os with
 |Ow=>rfl
 |NZ o r=>have:=h o (!1);have:=wC o;lia
def qW(f:vS [] a t):a=[t]:=by
 let e:=f 1 [] [.lp] (!1);rw[Oe]at e;rw[show([]:γ Wt)++[Wt.lp]=[.lp]from ζ,Iw (!0),Iw (!0)]at e;simpa using e
def G.PM(C:j5 L)(h:G L l t w):∀ps ws,(l≤2->∃a r,ws=a::r/\a.NA<l+1)->
  ∃j os,Bz (MW ξ w) (ps,ws,)=δ (j++ps,os++ws,)/\vS os j t/\∀o∈os,l+1≤o.NA:=by
 induction h with
 |Oo k=>
  intro ps ws _;refine([.Oo k],[],3,λs ps ws _=>rfl,!1);change Bz (Tw (c0 k)::[]) (ps,ws,)=_;rw[vY];rfl
 |RB h=>
  rename_i c;intro ps ws _;refine([.RB c],[],3,λs ps ws _=>rfl,!1);change Bz (Tw c::[]) (ps,ws,)=_;rw[(z_ (C _ h)).2.2];rfl
 |YN h p=>
  rename_i l t w;intro ps ws _;let⟨j,os,e,f,A⟩:=p ps (.lp::ws) (λ_=>(.lp,ws,1,Φ.Z5 _));refine([t],[],3,λs ps ws _=>rfl,!1);change Bz (.lp::MW ξ (w++[41])) (ps,ws,)=_;rw[Jw,h.Zc C];change Bz (MW ξ w++[.rp]) (ps,.lp::ws,)=_;rw[HB,e];change ((BO 1 (j++ps) (os++.lp::ws)).Wr yN).Wr (Bz [])=_;rw[f 1 ps _ (λo g=>by have:=A o g;lia),Iw (!0)];rfl
 |again h p=>
  rename_i t w;intro ps ws _;let⟨j,os,e,f,A⟩:=p ps ws (λz=>MM z (!0));obtain ζ:=UG A;obtain ζ:=qW f;refine([.Ol .again t],[],3,λs ps ws _=>rfl,!1);rw[Jw,h.Zc C,HB,e];rfl
 |pre k h R p=>
  rename_i l t w;intro ps ws _;let⟨j,os,e,f,A⟩:=p ps (.un k::ws) (λz=>MM z (!6));refine(j,os++[.un k],3,λs ps ws i=>?_,λo g=>?_)
  .change Bz (Tw (c1 k)::MW (B7 (c1 k)) w) (ps,ws,)=_;rw[(ku k).1,(ku k).2,Na];show e
  .rw [Na];rw[f s ps _ (λo g=>i o (by simp[g]))];show kG (i (.un k) (!1))
  .rcases Nd.mp g with g|g
   .have:=A o g;lia
   .obtain ζ:o=.un k:=by simpa using g
    show LE _
 |UA k J I T S ih1 ih2=>
  rename_i a b x y u v;intro ps ws E;let⟨Qo,r,ζ,q⟩:=E (gR k);let⟨m,n,Q,O,h1⟩:=ih1 ps (Qo::r) (λ_=>(Qo,r,1,!6));let⟨D,H,P,N,h2⟩:=ih2 (x::ps) (.UA k::Qo::r) (λ_=>(.UA k,0,by change lvl k+1<_;lia));let B:cz (m++ps) (n++Qo::r) (.UA k)<*(x::ps,.UA k::Qo::r,):=by
   change (BO (lvl k+1) (m++ps) (n++Qo::r)).NN _=_;rw[O _ _ _ (λo g=>by have:=h1 o g;lia),Iw q];rfl
  refine(D++[x],H++[.UA k],3,λs ps ws i=>?_,λo g=>?_)
  .let hmid:Bz (MW η (m2 k++v)) (m++ps,n++Qo::r,)=Bz (MW ξ v) (x::ps,.UA k::Qo::r,):=by
    let d:Bz (.UA k::MW ξ v) (m++ps,n++Qo::r,)=Bz (MW ξ v) (x::ps,.UA k::Qo::r,):=by
     change (cz (m++ps) (n++Qo::r) (.UA k)).Wr _=_;rw[B];rfl
    cases k with
    |OP=>
     let⟨c,F,ζ,M⟩:=I.first C;change Bz (MW η (c::F)) _=_;rw[Ek M];show d
    |PB=>show d
    |Tz=>show d
    |Te=>show d
   rw[Na,Jw,J.Zc C,HB,Q];change Bz (MW η (m2 k++v)) (m++ps,n++Qo::r,)=_;rw[hmid,P,Na,Na];rfl
  .rw [Na,Na];rw[show D++([x]++ps)=D++(x::ps)from ζ,N s (x::ps) _ (λo g=>i o (by simp[g]))];show iM (i (.UA k) (!1))
  .rcases Nd.mp g with g|g
   .have:=h2 o g;lia
   .obtain ζ:o=.UA k:=by simpa using g
    show LE _
def G.read(b:j5 L)(h:G L l t w):Bz (MW ξ (40::(w++[41]))) ([],[],)<*([t],[],):=by
 let⟨c,os,e,f,a⟩:=(G.YN h).PM b [] [] (λz=>MM z (!0));obtain ζ:=UG a;obtain ζ:=qW f;show e
abbrev Ac(L:LN)(c:Φ)(w:MZ)(d:Φ):MZ:=
 if L.M9 c||[48,49,46,33,60,40].M9 c then ξ
 else if c=41 then decide (0<d)&&!w
 else[42,38,124,45].M9 c&&!w
abbrev Ga(c d:Φ):Φ:=if c=41 then(if c=40 then d+1 else d)-1 else if c=40 then d+1 else d
abbrev VG(L:LN):Φ->MZ->LN->ω (Φ×MZ)
 |d,w,[]=>δ (d,w,)
 |d,w,c::cs=>if Ac L c w d=ξ then VG L (Ga c d) (B7 c) cs else ε
def Bl(L:LN):∀(u v:LN)(d:Φ)(w:MZ),VG L d w (u++v)=(VG L d w u).Wr λr=>VG L r.1 r.2 v
 |[],_,_,_=>rfl
 |c::u,v,d,w=>by
  change (if Ac L c w d=ξ then VG L (Ga c d) (B7 c) (u++v)else ε)=(if Ac L c w d=ξ then VG L (Ga c d) (B7 c) u else ε).Wr _;by_cases h:Ac L c w d=ξ
  .rw [Id h,Id h];show Bl L u v _ _
  .rw [BT h,BT h];rfl
def vi(h:c∈L):Ac L c w d=ξ:=by
 unfold Ac;rw[Id (by simp[h])]
def dH(h:[48,49,46,33,60,40].M9 c=ξ):Ac L c w d=ξ:=by
 unfold Ac;rw[Id (by rw[h];simp)]
def b8(h:[42,38,124,45].M9 c=ξ)(h2:c≠41):Ac L c η d=ξ:=by
 unfold Ac;rw[BT h2,h];split<;>rfl
def vg:Ac L 41 η (d+1)=ξ:=by
 unfold Ac;rw[Id ζ,NM (Φ.Z5 d)];split<;>rfl
def Kk(h1:c≠40)(h2:c≠41):Ga c d=d:=by
 unfold Ga;rw[BT h2,BT h1]
def G.VG(f:j5 L)(h:G L l t w):∀d b,VG L d b w<*(d,η,):=by
 induction h with
 |Oo k=>
  intro d b;change (if Ac L (c0 k) b d=ξ then δ (Ga (c0 k) d,B7 (c0 k),)else ε)=_;rw[Id (dH (by cases k<;>rfl))];cases k<;>rfl
 |RB h=>
  rename_i c;intro d b;have:=f _ h;change (if Ac L c b d=ξ then δ (Ga c d,B7 c,)else ε)=_;rw[Id (vi h),Kk (!6) (!6),(z_ (f _ h)).1]
 |YN h e=>
  rename_i l t w;intro d b;change (if Ac L 40 b d=ξ then RA.VG L (d+1) ξ (w++[41])else ε)=_;rw[Id (dH ζ),Bl,e];change (if Ac L 41 η (d+1)=ξ then δ (d+1-1,η,)else ε)=_;rw[Id vg];rfl
 |again h e=>
  intro d b;rw[Bl,e];change (if Ac L 42 η d=ξ then δ (d,η,)else ε)=_;rw[Id (b8 ζ (!0))]
 |pre k h j e=>
  rename_i l t w;intro d b;change (if Ac L (c1 k) b d=ξ then RA.VG L (Ga (c1 k) d) (B7 (c1 k)) w else ε)=_;rw[Id (dH (by cases k<;>rfl)),(ku k).2,e,Kk (by cases k<;>decide) (by cases k<;>decide)]
 |UA k i g n m ih1 ih2=>
  rename_i a b x y u v;intro d b;rw[Na,Bl,ih1];change RA.VG L d η (m2 k++v)=_;cases k with
  |OP=>show ih2 d η
  |PB=>
   change (if Ac L 124 η d=ξ then RA.VG L d ξ v else ε)=_;rw[Id (b8 ζ (!0))];show ih2 _ _
  |Tz=>
   change (if Ac L 45 η d=ξ then RA.VG L d ξ v else ε)=_;rw[Id (b8 ζ (!0))];show ih2 _ _
  |Te=>
   change (if Ac L 38 η d=ξ then RA.VG L d ξ v else ε)=_;rw[Id (b8 ζ (!0))];show ih2 _ _
abbrev Pt.sz:Pt->Φ
 |.Oo _=>1
 |.RB _=>1
 |.Ol _ x=>x.sz+1
 |.PF _ x y=>x.sz+y.sz+1
abbrev Pt.To(L:LN):Pt->Prop
 |.Oo _=>Os
 |.RB c=>c∈L
 |.Ol _ x=>x.To L
 |.PF _ x y=>x.To L/\y.To L
def Ix{s:Φ}:∀{ws:γ Wt}{ps WU:γ Pt}{XT:γ Wt},BO s ps ws<*(WU,XT,)->WU.β≤ps.β/\XT.β≤ws.β
 |[],ps,WU,XT,h=>by simp[BO]at h
 |w::ws,ps,WU,XT,h=>by
  unfold BO at h;by_cases a:s≤w.NA
  .rw [Id a]at h;match w,ps,h with
   |.un k,x::b,h=>
    have:=Ix h;simp only[NW]at this⊢;lia
   |.UA k,y::x::b,h=>
    have:=Ix h;simp only[NW]at this⊢;lia
  .rw [BT a]at h;cases h;show(LE _,LE _)
def qF(h:cz ps ws t<*(WU,XT,)):WU.β≤ps.β+1/\XT.β≤ws.β+1:=by
 cases t with
 |lp=>cases h;show(SF _,LE _)
 |un k=>cases h;show(SF _,LE _)
 |TJ t=>cases h;show(LE _,SF _)
 |ZX=>
  cases ps with
  |Ow=>cases h
  |NZ x d=>cases h;show(SF _,SF _)
 |UA k=>
  let⟨r,c,e⟩:=BG h;cases e;have:=Ix (WU:=r.1) (XT:=r.2) c;simp only[NW];lia
 |rp=>
  let⟨r,c,e⟩:=ω.Uk.mp h;let h1:=Ix (WU:=r.1) (XT:=r.2) c;let⟨a,b⟩:=r;cases b with
  |Ow=>cases e
  |NZ x b=>cases e;simp only[NW]at h1;lia
def iD:∀(w:LN)(b:MZ),(MW b w).β≤2*w.β
 |[],_=>LE _
 |c::a,b=>by
  have:=iD a (B7 c);unfold MW;rw[w_,NW,NW];split
  .rw [NW,WP];lia
  .rw [WP];lia
def kZ(h:Bz ts r<*b)(i:Φ):∃a,Bz (ts.OE i) r=δ a/\Bz (ts.Py i) a<*b:=by
 rw[<-Rt i ts,HB]at h;show ω.Uk.mp h
end RA
namespace L2
open PySem.Spec PyProof.Rows
abbrev HD(x:NB):It:=(λi _=>i<x.β,λi H v H'=>∃p c,x.Tc[i]?=δ c/\v=.ο p/\H p=ε/\H'=MT H p (.No [.MS (i:MN),.NA ⟨#[c]⟩]),λi _=>x.β≤i)
def oo{K:Nn}(x:NB)(t:XM)(e it:υ)(l:e≠it):dJ P w K (.Qw es kt pt) (HD x) [e,it] e (λi h=>i≤x.β/\(∃a,IsEnum h e it i a)/\ZP.CW x t it i h)  where
 mem:=by simp
 Uf:=λi h M c m=>by
  let⟨_,⟨a,d⟩,⟨B,n,_,d1⟩⟩:=M;simp only[MP,NV,N7]at m;rcases m with ζ|rfl
  .exact (_,d,λv q=>by cases q)
  .exact (B,n,λv q=>by rw[d1]at q;cases q)
 QC:=λi h h' N k=>by let⟨T,⟨a,d⟩,⟨B,n,W⟩⟩:=N;show(T,(a,k e (!1) _ d),(B,k it (!1) _ n,W))
 Uy:=by
  intro X O hw Q m i p s U H E I C ⟨T,⟨a,d⟩,y⟩ l1;subst O hw Q;refine Ua (ZP.draws (A:=X.A.S5) (I.ok.hd m) it x t) d y l1 l (by simp[l]) λv g F pv ho st J V_ gk=>(0,3);let⟨c,u,L,ζ⟩:=pv;refine Tv (s:={s with π:=g,MW:=F+1}) ho λg' ge R=>?_;let D:∀b o,b≠e->g.ψ b<*o->g'.ψ b<*o:=λb o f q=>(R.2 b f).ν q;let Y:s⁻¹≠e:=Qg (lt_size d);let No:Az X.Ξ X.w (MT H s⁻¹ (.No [.MS (i:MN),.NA ⟨#[c]⟩])) g' s⁻¹ (.No [.MS (i:MN),.NA ⟨#[c]⟩]):=
   (sT (by change 2≤16777216;decide),[.MS i F,.NA ⟨#[c]⟩ u],.NZ (_,ζ) (.NZ (_,ζ) .Ow),(_,D _ _ Y J,1,(0),1))
  refine(.ο s⁻¹,_,I.Wx (S:=[e,it]) (h':=g') (t':=F+1) (λb o f q=>D b o (λz=>f (by simp[z])) (gk b o (λz=>f (by simp[z])) (λz=>f (by simp[z])) q)) C No,1,
   (_,c,L,1,I.Og.OG (LE _),1),(l1,(_,by rw[MN.Za];show ge),3),λb f=>?_)
  .obtain ⟨o,q,r⟩:=st;show(o,D _ _ (λz=>l z.MQ) q,r)
  .let Z:b<s⁻¹:=by
    let⟨B,n,_⟩:=y;simp only[MP,NV,N7]at f;rcases f with ζ|rfl
    .exact lt_size d
    .exact lt_size n
   rw[a_ (M_ Z)];show(C b f).1
 done:=by
  intro X O hw Q m i p s U H E I C ⟨T,⟨a,d⟩,y⟩ j;subst O hw Q;let hi:i=x.Tc.MX:=by
   let n:x.β=x.Tc.MX:=ζ;let q:x.β≤i:=j;lia
  subst hi;refine Ur (ZP.draws (A:=X.A.S5) (I.ok.hd m) it x t) d y λg R=>(1,3);show I.ZQ (S:=[e,it]) (λb o f q=>R b o (λz=>f (by simp[z])) q) C
 Yn:=λ_ _ _ _ _ st h=>by
  let⟨_,⟨a,d⟩,_⟩:=st;show RX d h
inductive xD(R:It->Hp->Prop)(vs:List V)(H1:Hp):Prop
 |mk (x:_) (_:vs=[.str x]) (_:R (HD x) H1)
abbrev zm(t:TA):TI:=λσ H R=>t σ H (xD R)
def ul{B:γ Rb}{o:Φ}{n:Sh}{p Nj:Sh}(v:Gl X "enumerate")(u:X.mg "enumerate"=ε)(w:PA X [a] ta)(r:(Θ [a] X.KK=(η,OM a X.KK,)::Θ [] X.KK)>>>4)(f:((OF Nj (Θ [] X.KK)).Ql (·.1)=η)>>>4):PI X (.Qw B o n) (.QG (.N0 "enumerate" p) [a] [] Nj) (zm ta):=by
 intro d s l H R I h;refine Nc (Ad I v u Oi.Sf.boot_enumerate (Oi.Sf.Pw (ri (w Nj d s l H _ I h) λus b z=>?_) r f));let⟨vs,C,i,m,x,ζ,q⟩:=z;let⟨D,ζ,t,ζ⟩:=Dr m;refine call_enumerate_str λg k A E y=>RX (s:={b with π:=g}) k ?_;refine(_,[b⁻¹+1,b⁻¹],_,HD x,C,1,i.SW (t':=b.MW) y,oo x t _ _ (GH (!6)),(Nf _,(_,k),A),λc j=>?_,q);let e:b⁻¹≤c:=by
  simp only[MP,NV,N7]at j;rcases j with ζ|rfl
  .exact Od _ _
  .exact LE _
 show i.Yw e (i.Og.OG e)
def Fe{g:TG}{l:TS}{D:XR}(h:Φ->St->Hp->Prop)(h0:h 0 b H)(r:∀i c p b H,x.Tc[i]?<*c->H p=ε->h i b H->g (.ο p) b (MT H p (.No [.MS (i:MN),.NA ⟨#[c]⟩])) λd k=>l {D with nx:=h (i+1),ct:=h (i+1),bk:=D.nx} d k)(s:∀b H,h x.β b H->D.nx b H):∃W:Φ->Φ->St->Hp->Prop,(∃m,W 0 m b H)/\∀i m b H,W i m b H->
   ((HD x).Sx i H/\D.nx b H)\/((HD x).go i H/\∃N:St->Hp->Prop,(∀f H',N f H'->∃n,n<m/\W (i+1) n f H')/\∀v H',(HD x).X_ i H v H'->g v b H' λd k=>l {D with nx:=N,ct:=N,bk:=D.nx} d k):=by
 refine(λi m b H=>m=x.β-i/\i≤x.β/\h i b H,(x.β,!1,Nf _,h0),3);rintro i m b H⟨rfl,w,p⟩;by_cases j:i<x.β
 .refine .NU (j,h (i+1),λf H' o=>(x.β-(i+1),!2,1,j,o),λv H' q=>?_);let⟨a,c,u,ζ,t,ζ⟩:=q;show r i c a b H u t p
 .let e:i=x.β:=by lia
  subst e;show .NJ (LE _,s b H p)
end L2
namespace RA
open L2
abbrev mG:Wt->NB
 |.lp=>tx [40]
 |.un .Ob=>"outside"
 |.un .OJ=>"turned"
 |.UA k=>Dn k
abbrev wv(w:Wt):V:=.NA (mG w)
abbrev xU:Tk->NB
 |.lp=>tx [40]
 |.rp=>tx [41]
 |.ZX=>"again"
 |.un k=>mG (.un k)
 |.UA k=>Dn k
 |.TJ (.Oo k)=>Hy k
 |.TJ (.RB c)=>tx [c]
 |.TJ _=>tx []
abbrev tv(t:Tk):V:=.NA (xU t)
abbrev Tk.ok:Tk->Prop
 |.TJ (.Oo _)=>Os
 |.TJ (.RB c)=>97≤c/\c≤122
 |.TJ _=>NX
 |_=>Os
abbrev dKINDS:γ (Bu×V):=[(.NU (tx [48]),.NA "never",),(.NU (tx [49]),.NA "empty",),(.NU (tx [46]),.NA "any",),(.NU (tx [124]),.NA "either",),(.NU (tx [45]),.NA "less",),(.NU (tx [38]),.NA "both",),(.NU (tx [33]),.NA "outside",),(.NU (tx [60]),.NA "turned",),(.NU (tx [42]),.NA "again",)]
abbrev sR:γ (Bu×V):=[(.NU "either",.MS 1,),(.NU "less",.MS 1,),(.NU "both",.MS 2,),(.NU "then",.MS 3,),(.NU "outside",.MS 4,),(.NU "turned",.MS 4,),(.NU "again",.MS 5,),(.NU "never",.MS 5,),(.NU "empty",.MS 5,),(.NU "sign",.MS 5,),(.NU "any",.MS 5,)]
def yj(w:Wt):(aF sR (.NU (mG w))).ML (.MS 0)=.MS (w.NA:Φ):=by
 cases w with
 |lp=>decide +kernel
 |un k=>cases k<;>decide +kernel
 |UA k=>cases k<;>decide +kernel
def tV(k:K2):aF sR (.NU (Dn k))<*.MS ((lvl k:Φ)+1):=by cases k<;>decide +kernel
abbrev mz(c:Φ):Prop:=(97≤c/\c≤122)\/c∈[40,41,42,33,60,124,45,38,48,49,46]
def GW(h:mz c):(Tw c).ok:=by
 rcases h with h|h
 .rw [(z_ h).2.2];show h
 .simp only[MP,NV,N7]at h;rcases h with ζ|rfl|rfl|rfl|rfl|rfl|rfl|rfl|rfl|rfl|rfl<;>show Os.Of
def Iy(h:a≠b):¬ ((Yf.NU (tx [a]):Bu)=Yf.NU (tx [b])):=λe=>h (by have:=gf (Yf.NU.QK e);simpa using this)
def pz(h:mz c):(aF dKINDS (.NU (tx [c]))).ML (.NA (tx [c]))=tv (Tw c):=by
 rcases h with h|h
 .rw [(z_ h).2.2];unfold dKINDS;repeat rw[Bj (Iy (!6))]
  rfl
 .simp only[MP,NV,N7]at h;rcases h with ζ|rfl|rfl|rfl|rfl|rfl|rfl|rfl|rfl|rfl|rfl<;>decide +kernel
abbrev CD(c:Kd->υ)(H:Hp):γ V->γ Pt->Prop
 |[],[]=>Os
 |v::vs,t::ts=>BF c H t v/\CD c H vs ts
 |_,_=>NX
def CD.kp{c:Kd->υ}{H H':Hp}(k:Kp H H'):∀{xs:γ V}{ts:γ Pt},CD c H xs ts->CD c H' xs ts
 |[],[],_=>trivial
 |_::_,_::_,h=>(h.1.kp k,CD.kp k h.2)
def CD.PQ{c:Kd->υ}{H:Hp}:∀{xs:γ V}{ts:γ Pt},CD c H xs ts->xs.β=ts.β
 |[],[],_=>rfl
 |_::_,_::_,h=>by rw[NW,NW,CD.PQ h.2]
abbrev jM(pa wa:υ):γ (NB×V):=af "waiting" (.ο wa) (af "patterns" (.ο pa) [])
def Fz(pa wa:υ):(jM pa wa).ρ ("patterns":NB)<*.ο pa:=by
 unfold jM;rw[Co,BT (!3),Co,Id ζ]
def Iz(pa wa:υ):(jM pa wa).ρ ("waiting":NB)<*.ο wa:=by
 unfold jM;rw[Co,Id ζ]
structure Bn(c:Kd->Addr)(cD:Addr)(H:Hp)(d dx pa wa:Addr)(us:List V)(ps:List Pt)(ws:List Wt):Prop where
 ob:H d<*.ins cD dx (jM pa wa)
 pl:H pa<*.lst us.reverse
 pt:CD c H us ps
 wl:H wa<*.lst (ws.reverse.map wv)
 ne:pa≠wa
abbrev Bq(pa wa:υ)(H H':Hp):Prop:=∀b o,H b<*o->b≠pa->b≠wa->H' b<*o
def Bq.Tn(pa wa:υ)(H:Hp):Bq pa wa H H:=λ_ _ e _ _=>e
def Bq.ν(a:Bq pa wa H f)(b:Bq pa wa f d):Bq pa wa H d:=λc o e h1 h2=>b c o (a c o e h1 h2) h1 h2
def Bq.p:Bq pa wa H (MT H pa o):=λb a e h1 _=>by rw[a_ h1];show e
def Bq.w:Bq pa wa H (MT H wa o):=λb a e _ h2=>by rw[a_ h2];show e
def a'.off(s:a' H H'):Bq pa wa H H':=λb o e _ _=>s b o e
section
variable{c:Kd->Addr}{cD:Addr}{H H':Hp}{d dx pa wa:Addr}{us:List V}{ps:List Pt}{ws:List Wt}
def Bn.OR(D:Bn c cD H d dx pa wa us ps ws)(s:a' H H'):Bn c cD H' d dx pa wa us ps ws:=(s _ _ D.ob,s _ _ D.pl,D.pt.kp (a'.kp s),s _ _ D.wl,D.ne)
def Bn.pushP(D:Bn c cD H d dx pa wa us ps ws)(a:BF c H t v):Bn c cD (MT H pa (.M7 (us.Ng++[v]))) d dx pa wa (v::us) (t::ps) ws:=by
 let k:=Kp.M7 (o:=.M7 (us.Ng++[v])) D.pl;show(k _ _ D.ob (λ_ z=>nomatch z),by rw[j_,γ.We],(a.kp k,D.pt.kp k),by rw[a_ (Ne.MQ D.ne)];show D.wl,D.ne)
def Bn.popP(D:Bn c cD H d dx pa wa (u::us) (t::ps) ws):Bn c cD (MT H pa (.M7 us.Ng)) d dx pa wa us ps ws/\BF c (MT H pa (.M7 us.Ng)) t u:=by
 let k:=Kp.M7 (o:=.M7 us.Ng) D.pl;show((k _ _ D.ob (λ_ z=>nomatch z),j_,D.pt.2.kp k,by rw[a_ (Ne.MQ D.ne)];show D.wl,D.ne),D.pt.1.kp k)
def Bn.pushW(D:Bn c cD H d dx pa wa us ps ws)(w:Wt):Bn c cD (MT H wa (.M7 (ws.Ng.NN wv++[wv w]))) d dx pa wa us ps (w::ws):=by
 let k:=Kp.M7 (o:=.M7 (ws.Ng.NN wv++[wv w])) D.wl;show(k _ _ D.ob (λ_ z=>nomatch z),by rw[a_ D.ne];show D.pl,D.pt.kp k,by rw[j_,γ.We,Nw];rfl,D.ne)
def Bn.popW(D:Bn c cD H d dx pa wa us ps (w::ws)):Bn c cD (MT H wa (.M7 (ws.Ng.NN wv))) d dx pa wa us ps ws:=by
 let k:=Kp.M7 (o:=.M7 (ws.Ng.NN wv)) D.wl;show(k _ _ D.ob (λ_ z=>nomatch z),by rw[a_ D.ne];show D.pl,D.pt.kp k,j_,D.ne)
def Bn.wtop(D:Bn c cD H d dx pa wa us ps (w::ws)):H wa<*.M7 (ws.Ng.NN wv++[wv w]):=by
 have:=D.wl;rw[γ.We,Nw]at this;show this
def Bn.ptop(D:Bn c cD H d dx pa wa (u::us) ps ws):H pa<*.M7 (us.Ng++[u]):=by
 have:=D.pl;rw[γ.We]at this;show this
def Bn.Ol(D:Bn c cD H d dx pa wa us ps ws)(e:ps=t::a):∃u vs,us=u::vs:=by
 subst e;cases us with
 |Ow=>show D.pt.Nx
 |NZ u vs=>show(u,vs,1)
end
def ve(c:Φ)(l:LN):decide (c∈l)=l.M9 c:=by
 by_cases h:c∈l
 .rw [NM h];simp[h]
 .rw [M5 h];simp[h]
def HE(l:LN)(c:Φ):(!(Builtin.NB.SS (tx l) ⟨#[c]⟩ 0 (tx l).β 1).SG)=l.M9 c:=by
 let e:=ia l c;unfold SI.M9 at e;rw[<-ve];show e
def GX(a:s=tx [x]):(V.NA (tx [ch])=V.NA s)↔ch=x:=by
 subst a;constructor
 .intro h;have:=gf (V.NA.QK h);simpa using this
 .intro h;rw[h]
def AK(b:s=tx l)(a:l≠[c]):tx [c]≠s:=λe=>a (gf (e.ν b)).MQ
abbrev rW:Tk->MZ
 |.lp=>ξ
 |.un _=>ξ
 |_=>η
abbrev rY:Tk->MZ
 |.UA _=>ξ
 |_=>η
abbrev xy:Tk->MZ
 |.rp=>ξ
 |_=>η
abbrev lL:Tk->MZ
 |.ZX=>ξ
 |_=>η
def uY(a b:NB):FF (.NA a) (.NA b)=decide (a=b):=by
 change (a==b)=_;by_cases h:a=b
 .rw [NM h];show Oy.Ot h
 .rw [M5 h];show ND.Ot h
def js(h:∀x∈xs,∃s,x=.NA s/\tx [c]≠s):EQ (.NA (tx [c])) xs=η:=by
 unfold EQ;rw[γ.any_eq_false];intro x b;let⟨s,ζ,a⟩:=h x b;simp only[uY,Sc];first|show a|show λe=>a e.MQ|(intro e;show a e)|(intro e;show a e.MQ)
def GY(h:t.ok):EQ (tv t) [.NA (NB.Ni "("),.NA (NB.Ni "outside"),.NA (NB.Ni "turned")]=rW t:=by
 cases t with
 |lp=>decide +kernel
 |rp=>decide +kernel
 |ZX=>decide +kernel
 |un k=>cases k<;>decide +kernel
 |UA k=>cases k<;>decide +kernel
 |TJ p=>
  cases p with
  |Oo k=>cases k<;>decide +kernel
  |RB c=>
   refine js λx a=>?_;let h:97≤c/\c≤122:=h;simp only[MP,NV,N7]at a;rcases a with ζ|rfl|rfl
   .exact (0,AK (l:=[40]) (!3) (by intro e;simp at e;lia))
   .exact (0,AK (l:=[111,117,116,115,105,100,101]) (!3) (by intro e;simp at e))
   .exact (0,AK (l:=[116,117,114,110,101,100]) (!3) (by intro e;simp at e))
  |Ol _ _=>show(show NX from h).Nx
  |PF _ _ _=>show(show NX from h).Nx
def xz(h:t.ok):EQ (tv t) [.NA (NB.Ni "either"),.NA (NB.Ni "less"),.NA (NB.Ni "both"),.NA (NB.Ni "then")]=rY t:=by
 cases t with
 |lp=>decide +kernel
 |rp=>decide +kernel
 |ZX=>decide +kernel
 |un k=>cases k<;>decide +kernel
 |UA k=>cases k<;>decide +kernel
 |TJ p=>
  cases p with
  |Oo k=>cases k<;>decide +kernel
  |RB c=>
   refine js λx a=>?_;simp only[MP,NV,N7]at a;rcases a with ζ|rfl|rfl|rfl
   .exact (0,AK (l:=[101,105,116,104,101,114]) (!3) (by intro e;simp at e))
   .exact (0,AK (l:=[108,101,115,115]) (!3) (by intro e;simp at e))
   .exact (0,AK (l:=[98,111,116,104]) (!3) (by intro e;simp at e))
   .exact (0,AK (l:=[116,104,101,110]) (!3) (by intro e;simp at e))
  |Ol _ _=>show(show NX from h).Nx
  |PF _ _ _=>show(show NX from h).Nx
def zp(h:t.ok):decide (tv t=V.NA (NB.Ni ")"))=xy t:=by
 cases t with
 |lp=>decide +kernel
 |rp=>decide +kernel
 |ZX=>decide +kernel
 |un k=>cases k<;>decide +kernel
 |UA k=>cases k<;>decide +kernel
 |TJ p=>
  cases p with
  |Oo k=>cases k<;>decide +kernel
  |RB c=>
   let h:97≤c/\c≤122:=h;show M5 (λe=>AK (l:=[41]) (!3) (by intro e;simp at e;lia) (V.NA.QK e))
  |Ol _ _=>show(show NX from h).Nx
  |PF _ _ _=>show(show NX from h).Nx
def uX(h:t.ok):decide (tv t=V.NA (NB.Ni "again"))=lL t:=by
 cases t with
 |lp=>decide +kernel
 |rp=>decide +kernel
 |ZX=>decide +kernel
 |un k=>cases k<;>decide +kernel
 |UA k=>cases k<;>decide +kernel
 |TJ p=>
  cases p with
  |Oo k=>cases k<;>decide +kernel
  |RB c=>show M5 (λe=>AK (l:=[97,103,97,105,110]) (!3) (by intro e;simp at e) (V.NA.QK e))
  |Ol _ _=>show(show NX from h).Nx
  |PF _ _ _=>show(show NX from h).Nx
def D7:∀{w:LN}(b:MZ),(∀c∈w,mz c)->∀t∈MW b w,t.ok
 |[],_,_,t,a=>by simp[MW]at a
 |c::f,b,h,t,a=>by
  unfold MW at a;rcases Nd.mp a with a|a
  .split at a
   .obtain ζ:t=.UA .OP:=by simpa using a
    show Os.Of
   .simp at a
  .rcases MP.mp a with ζ|a
   .exact GW (h c (!1))
   .exact D7 _ (λd e=>h d (by simp[e])) t a
def G.sgs(d:j5 L)(h:G L l t w):∀ch∈w,mz ch:=by
 induction h with
 |Oo k=>
  intro ch a;obtain ζ:ch=c0 k:=by simpa using a
  show .NU (by cases k<;>decide)
 |RB h=>
  intro ch a;rename_i c;obtain ζ:ch=c:=by simpa using a
  show .NJ (d _ h)
 |YN h b=>
  intro ch a;rcases MP.mp a with ζ|a
  .exact .NU (!0)
  .rcases Nd.mp a with a|a
   .exact b ch a
   .obtain ζ:ch=41:=by simpa using a
    show .NU (!0)
 |again h b=>
  intro ch a;rcases Nd.mp a with a|a
  .exact b ch a
  .obtain ζ:ch=42:=by simpa using a
   show .NU (!0)
 |pre k h g b=>
  intro ch a;rcases MP.mp a with ζ|a
  .exact .NU (by cases k<;>decide)
  .exact b ch a
 |UA k f e j i ih1 ih2=>
  intro ch a;rcases Nd.mp a with a|a
  .rcases Nd.mp a with a|a
   .exact ih1 ch a
   .exact .NU (by cases k<;>(simp[m2]at a)<;>(subst a;decide))
  .exact ih2 ch a
inductive Ff(K:Frag)(c:Kd->Addr)(vs:List V)(H:Hp)(Q:VK)(_E:XK):Prop
 |mk (d dx C:_) (_:vs=[.ref d]) (_:H d<*.ins C dx []) (_:Cp K C) (_:Ah K C "patterns") (_:Ah K C "waiting") (_:∀pa wa H',(∀b o,H b<*o->b≠d->H' b<*o)->Bn c C H' d dx pa wa [] [] []->H pa=none->H wa=none->Q .non H')
structure fW(P:Program)(w:World)(K:Frag)(mg:Str->Option Value)(base:Heap)(c:Kd->Addr)(cD d1 d2 d3:Addr):Prop where
 kK:mg "KINDS"<*.ref d2
 kT:mg "STRENGTHS"<*.ref d3
 dK:j8 P w K d2 dKINDS
 dT:j8 P w K d3 sR
 kD:mg "Desk"<*.ref cD
 cl:Cp K cD
 nP:Ah K cD "patterns"
 nW:Ah K cD "waiting"
 ini:∃f fd,Mk K cD f/\aa P w K mg base pu 1 f fd ["self"] (Ff K c)/\Ao K fd ["self"] []
abbrev dY(w:N1):γ ZI->γ (Bu×V)->Prop
 |[],[]=>Os
 |e::es,kv::NS=>(∃x t,e.key=.NA x t/\kv.1=.NU x/\e.Yt=PyData.keyHash w.O5 x)/\ae kv.2 e.Zz/\dY w es NS
 |_,_=>NX
def dY.QD{P:NE}{w:N1}:∀{b:γ ZI}{NS:γ (Bu×V)},dY w b NS->(∀e∈b,∃k,(EI P w).is k e.key=ξ/\e.Yt=(EI P w).Yt k)/\∃vs,KV NS vs/\Pairs (EI P w) b vs
 |[],[],_=>(λe a=>by simp at a,[],.Ow,.Ow)
 |e::b,(k,v)::NS,⟨⟨x,t,j,c,i⟩,g,h⟩=>by
  let⟨i1,vs,i2,f⟩:=dY.QD (P:=P) h;let c:k=.NU x:=c;subst c;let d:(EI P w).is (Yf.NU x) e.key=ξ:=by rw[j];show Lb P w x t
  refine(λe' a=>?_,(Yf.NU x,e.Zz,)::vs,.NZ (1,g) i2,.NZ d ζ f);rcases MP.mp a with ζ|a
  .exact (Yf.NU x,d,i)
  .exact i1 e' a
def jL(l:K.ρ d<*{OO:=.MO "dict",NL:=.Pz c n})(h:dY w c.NF NS)(b:(NS.NN (·.1)).Nz)(g:(d==Ov)=η):j8 P w K d NS:=by
 let⟨i1,vs,i2,a⟩:=h.QD (P:=P);refine(λh0 X=>(vs,i2,_,c,n,X _ _ l,(5,1),1,λe i=>i1 e (Nt.mem_toList_iff.Ot i),a,3),g);have:NS.NN (·.1)=vs.NN (·.1):=by
  clear b h l i1 a;induction i2 with
  |Ow=>rfl
  |NZ h t f=>rw[Qr,Qr,f,h.1]
 rw[<-this];show b
def rE:(dKINDS.NN (·.1)).Nz:=by decide +kernel
def wZ:(sR.NN (·.1)).Nz:=by decide +kernel
abbrev BJ(R:Pt->V->Prop):γ V->γ Pt->Prop
 |[],[]=>Os
 |v::vs,t::ts=>R t v/\BJ R vs ts
 |_,_=>NX
section
variable{R R':Pt->V->Prop}
def BJ.PQ:∀{xs:γ V}{ts:γ Pt},BJ R xs ts->xs.β=ts.β
 |[],[],_=>rfl
 |_::_,_::_,h=>by rw[NW,NW,BJ.PQ h.2]
def BJ.Wi(k:∀t v,R t v->R' t v):∀{xs:γ V}{ts:γ Pt},BJ R xs ts->BJ R' xs ts
 |[],[],_=>trivial
 |_::_,_::_,h=>(k _ _ h.1,BJ.Wi k h.2)
def BJ.snoc{v:V}{t:Pt}(a:R t v):∀{xs:γ V}{ts:γ Pt},BJ R xs ts->BJ R (xs++[v]) (ts++[t])
 |[],[],_=>(a,trivial)
 |_::_,_::_,h=>(h.1,BJ.snoc a h.2)
def BJ.Zc:∀{xs:γ V}{ts:γ Pt},BJ R xs ts->0<xs.β->∃ys v us t,xs=ys++[v]/\ts=us++[t]/\BJ R ys us/\R t v
 |[],[],_,h=>MM h (Qs 0)
 |[v],[t],h,_=>([],v,[],t,5,trivial,h.1)
 |[_],_::_::_,h,_=>h.2.Nx
 |_::_::_,[_],h,_=>h.2.Nx
 |x::y::xs,t::u::ts,h,_=>by
  let⟨ys,v,us,t',b,a,h1,h2⟩:=BJ.Zc (xs:=y::xs) (ts:=u::ts) h.2 (!1);show(x::ys,v,t::us,t',by rw[b];rfl,by rw[a];rfl,(h.1,h1),h2)
end
abbrev aY(ts:γ Pt):Φ:=(ts.NN Pt.sz).sum
def IA(ts:γ Pt)(t:Pt):aY (ts++[t])=aY ts+t.sz:=by
 unfold aY;rw[Nw,γ.YI];simp
def BF.ins'{c:Kd->υ}{H:Hp}(m:NB)(d:m≠"sign"/\m≠"inner"/\m≠"left"/\m≠"right"):∀{t:Pt}{v:V},BF c H t v->∃a dx fs,v=.ο a/\H a=δ (.Uq (c t.kd) dx fs)/\fs.ρ m=ε
 |.Oo _,_,⟨a,dx,e,b⟩=>(a,dx,_,e,b,1)
 |.RB _,_,⟨a,dx,e,b⟩=>(a,dx,_,e,b,by rw[Co,BT d.1];rfl)
 |.Ol _ x,_,⟨a,dx,u,e,b,f⟩=>(a,dx,_,e,b,by rw[Co,BT d.2.1];rfl)
 |.PF _ x y,_,⟨a,dx,u,w,e,b,f,g⟩=>(a,dx,_,e,b,by rw[Co,BT d.2.2.2,Co,BT d.2.2.1];rfl)
def Fh:dY w [] []:=trivial
def El(h1:e.key=.NA x t)(h2:kv.1=.NU x)(b:e.Yt=PyData.keyHash w.O5 x)(a:ae kv.2 e.Zz)(r:dY w c NS):dY w (e::c) (kv::NS):=((x,t,h1,h2,b),a,r)
def Mg(h:y=x):ae (.NA x) (.NA y t):=(t,by rw[h])
section
variable{α:Type}{R R':α->V->Prop}
end
end RA
namespace L2
open PySem.Spec PyProof.Rows
section
variable{X:Cx}
instance sK(P:NE)(w:N1):Δ.X8 P w NB:=Δ.strKind P w
inductive zY(P:Program)(w:World)(x:V)(y:V)(H:Hp)(Q:VK):Prop
 |mk (d k kvs v:_) (_:x=.ref d) (_:y=.str k) (_:H d<*B4 (sK P w) d kvs) (_:aF kvs k<*v) (_:Q v H)
def di:CT X (zY X.Ξ X.w):=by
 intro a b g s n H x y v u Q I j i h m;let⟨d,k,NS,z,ζ,ζ,e,l,q⟩:=h;cases j;let⟨t,ζ⟩:=(show ∃t,u=θ.NA k t from i);let⟨ns,_,vs,f,dd⟩:=Ey I.Og e;refine WZ (ops:=[.ο d,_]) dd.Q' Δ.F.UE.ρ ?_ m;let⟨p,hw,c⟩:=au.Vn (v:=z) (o:=RY vs k) (by rw[<-l];show f.Zz k);show Uc (Va:=sK X.Ξ X.w) (k:=k) (strKind_is _ _ k t) dd.mapOf hw (z,H,I.Tw _,c,q)
def uB(h:NR)(a:Ov<h.Nr.MX):Az P w H (h.Nh {OO:=.MO "dict",NL:=.Pz #[]}) h.Nr.MX (B4 (sK P w) h.Nr.MX []):=
 BS (Va:=sK P w) (ND.Ot (Ne.MQ (M_ a))) (Nf _) .Ow (NR.Yi.X0 h)
inductive C8(X:Cx):List (Option Expr)->List Expr->List (Str×V)->Prop where
 |nil:C8 X [] [] []
 |cons {k v:Expr} {ks:List (Option Expr)} {vs:List Expr} {a:Str} {y:V} {kvs:List (Str×V)}:PE X k (tC (.str a))->PE X v (tC y)->C8 X ks vs kvs->C8 X (some k::ks) (v::vs) ((a,y,)::kvs)
abbrev Kl(p:NB×V)(q:θ×θ):Prop:=(∃t,q.1=.NA p.1 t)/\ae p.2 q.2
abbrev IB(NS:γ (NB×V))(r:γ (θ×θ)):Prop:=r.β=NS.β/\∀(i:Φ)(p:NB×V)(q:θ×θ),NS[i]?<*p->r[i]?<*q->Kl p q
def IB.NZ(h:Kl p q)(c:IB NS r):IB (p::NS) (q::r):=(by rw[NW,NW,c.1],λi a b e d=>by
 cases i with
 |TF=>cases e;cases d;show h
 | Si i=>show c.2 i a b e d)
def Fi{c:St}(h:C8 X ks vs NS):∀{s:MJ}{Q:γ (θ×θ)->MJ->Prop},f' X b c H s->(∀r s',f' X b c H s'->IB NS r->Q r s')->Ω (Cl X.Ξ X.w) X.A (evalPairs (W7 ks vs X.KK Nj)) Q X.xe s:=by
 induction h with
 |Ow=>show λI q=>pairTrees_nil_walk (q [] _ I (rfl,λi p q e _=>by cases e))
 |@NZ k v ks vs a y NS z o _ n=>
  intro s Q I q;refine pairTrees_cons_walk (ri (z b s c H (λx H'=>x=.NA a/\H'=H) I (1,1)) λu l g=>?_);let⟨x,j,L,m,E,D⟩:=g;subst E D;refine ri (o b l c j (λx H'=>x=y/\H'=j) L (1,1)) λN s2 f=>?_;let⟨M,P,J,d,C,B⟩:=f;subst C B;show n J λr O F t=>q _ _ F (IB.NZ (m,d) t)
def tP{NS:γ (NB×V)}(h:k∉NS.NN Up.fst):aF NS k=ε:=by
 induction NS with
 |Ow=>rfl
 |NZ p r a=>
  rw[Qr,MP,not_or]at h;rw[Bj λz=>h.1 z.MQ];show a h.2
abbrev v5(P:NE)(w:N1)(NS:γ (NB×V)):TE:=λ_ H Q=>∀p H',H p=ε->a' H H'->H' p<*B4 (sK P w) p NS->Q (.ο p) H'
def cG(M:C8 X ks vs NS)(Z:(NS.NN Up.fst).Nz)(h1:0<NS.β)(O:NS.β≤15)(x:((W7 ks vs X.KK Nj).β=NS.β)>>>4)(hz:(ks.β=vs.β)>>>4)(ha:(ks.QD (·.Rz)=ξ)>>>4):PE X (.Dict ks vs Nj) (v5 X.Ξ X.w NS):=by
 intro m s T H Q I h;let f:=I.Og.OG (LE s⁻¹);let I1:=I.T0 (a:=s⁻¹) (o:=B4 (sK X.Ξ X.w) s⁻¹ []) (t':=s.MW) (λ_ _ q=>sy {OO:=.MO "dict",NL:=.Pz #[]} q) (LE _) (uB s.π I.bigS);let E:=zip_pairTrees ks vs X.KK Nj ha hz;rw[arm_eval_Dict,E,dictDisplay_pairs (W7 ks vs X.KK Nj) (by intro z;rw[z]at x;rw[<-x]at h1;show MM h1 (Qs _)) (by rw[x];omega)];refine d_ (PY (d_ ?_));unfold subDict;refine d_ (VQ (d_ (NT ?_)));rw[Id (by rw[x];show O)];refine d_ (Fi M I1 λr s1 I2 R=>NT (d_ ?_));let F:=R.1.MQ;refine wpAny_forIn_list _ (λRu _ s'=>∃(i:Φ)(H':Hp),i+Ru.β=NS.β/\Ru=r.Py i/\f' X m T H' s'/\H' s⁻¹=δ (B4 (sK X.Ξ X.w) s⁻¹ (NS.OE i))/\a' H H') _ ?_ ?_ r _ ((0),_,by rw[Φ.QA];show F.MQ,1,I2,j_,a'.MT f)
 .rintro⟨u,v⟩Ru _ s2⟨i,H',A,S,B,hp,C⟩;let J:r[i]?<*(u,v,):=by
   have:=Nb (λl=>l[0]?) S;simpa using this.MQ
  let n:i<NS.β:=by rw[NW]at A;lia
  obtain⟨⟨a,y⟩,d⟩:∃p,NS[i]?<*p:=(_,n_ n);let hR:Kl (a,y,) (u,v,):=R.2 i _ _ d J;let⟨⟨t,P⟩,U⟩:=hR;let P:u=.NA a t:=P;subst P;let⟨ns,D,ws,c,dd⟩:=Ey (Va:=sK X.Ξ X.w) B.Og hp;refine d_ (wpAny_dictSet_pairs (Va:=sK X.Ξ X.w) (k:=a) (V_:=by rw[<-c.β];show D) (strKind_is _ _ a t) dd λh' g Y=>j' ?_);let L:aF (NS.OE i) a=ε:=tP λz=>by
   rw[γ.map_take]at z;let⟨j,hj,e⟩:=γ.mem_take_iff_getElem.mp z;let N:j<i:=Ψ hj (Φ.min_le_left _ _);let e2:(NS.NN Up.fst)[i]'(by rw[ol];show n)=a:=by
    rw[γ.getElem_map];have:=(q5 d).2;rw[this]
   show MM ((UJ Z).mp (e.ν e2.MQ)) (M_ N)
  let W:=au.UG (show au ε (RY ws a) by rw[<-L];show c.Zz a);rw[IY W]at g;let et:NS.OE (i+1)=NS.OE i++[(a,y,)]:=by rw[Ti,d];rfl
  refine(i+1,MT H' s⁻¹ (B4 (sK X.Ξ X.w) s⁻¹ (NS.OE (i+1))),by rw[NW]at A;lia,3,3,j_,λb o e=>?_)
  .have:=Nb γ.tail S;rw[γ.tail_cons,γ.tail_drop]at this;show this
  .rw [et];show HX B (by rw[hp];show Os.Of) Y (let⟨o,_,_,q,_⟩:=g;(o,q)) (BS ns (sT (by rw[w_,Qy];change _≤16777216;simp;lia)) (bT c U) g)
  .rw [a_ λz=>by rw[z,f]at e;cases e];show C _ _ e
 .rintro _ s2⟨i,H',A,_,B,hp,C⟩;have:i=NS.β:=by rw[WP]at A;omega
  rw[this,SO]at hp;show j' (j' (j' (.ο s⁻¹,H',B,1,h _ _ f C hp)))
end
end L2
namespace RA
open L2
abbrev Wd(L:LN)(u:LN):Prop:=∀c∈u,c∈L
abbrev Lg(L:LN)(W:LL)(B:γ MZ):LN->Prop:=λu=>Wd L u/\AX L W B u=ξ
abbrev aI(A C:LN->Prop):LN->Prop:=λu=>∃x v,u=x++v/\A x/\C v
abbrev bw(A:LN->Prop):LN->Prop:=λu=>A u.Ng
abbrev FA(A C:LN->Prop):LN->Prop:=λu=>A u\/C u
abbrev mv(A C:LN->Prop):LN->Prop:=λu=>A u/\C u
abbrev ef(A C:LN->Prop):LN->Prop:=λu=>A u/\¬ C u
abbrev gI(L:LN)(A:LN->Prop):LN->Prop:=λu=>Wd L u/\¬ A u
inductive al(A:LN->Prop):LN->Prop
 |nil:al A []
 |more {x v:LN}:al A x->A v->al A (x++v)
section
variable{A C D:LN->Prop}{L:LN}{W W1 W2:LL}{B B1 B2:List Bool}
def aD(h:∀u,A u↔C u):A=C:=funext λu=>propext (h u)
def f_M:Wd L (x++v)↔Wd L x/\Wd L v:=(λh=>(λc a=>h c (RO _ a),λc a=>h c (Nq _ a)),λh c a=>(Nd.mp a).Nx (h.1 c) (h.2 c))
def h_z:Wd L u.Ng↔Wd L u:=(λh c a=>h c (VY.Ot a),λh c a=>h c (VY.mp a))
def al.Ol(h:A v):al A v:=by
 have:=al.Ow.Ta h
 rwa [WO]at this
def al.app(c:al A x)(b:al A y):al A (x++y):=by
 induction b with
 |Ow=>rw[Oe];show c
 |Ta _ h a=>rw[<-Na];show a.Ta h
def al.Pk(h:∀u,A u->al C u)(s:al A u):al C u:=by
 induction s with
 |Ow=>show .Ow
 |Ta _ h1 a=>show a.app (h _ h1)
def uJ(h:∀u:LN,(∀c∈u,c∈L)->(AX L W B u=ξ↔cR (AX L W1 B1) (AX L W2 B2) u)):Lg L W B=aI (Lg L W1 B1) (Lg L W2 B2):=aD λu=>by
 constructor
 .rintro⟨a,e⟩;let⟨x,v,ζ,d,b⟩:=(h u a).mp e;show(x,v,1,((f_M.mp a).1,d),(f_M.mp a).2,b)
 .rintro⟨x,v,ζ,⟨h1,d⟩,h2,b⟩;let a:=f_M.Ot (h1,h2);show(a,(h _ a).Ot (x,v,1,d,b))
def rM(h:∀u:LN,(∀c∈u,c∈L)->(AX L W B u=ξ↔Ag (AX L W1 B1) u)):Lg L W B=al (Lg L W1 B1):=aD λu=>by
 constructor
 .rintro⟨d,f⟩;let e:=(h u d).mp f;clear h f;induction e with
  |Ow=>show .Ow
  |Ta _ _ i b=>show(b (f_M.mp d).1).Ta ((f_M.mp d).2,i)
 .intro s;let a:Wd L u/\Ag (AX L W1 B1) u:=by
   induction s with
   |Ow=>show(λc g=>(nomatch g),.Ow)
   |@Ta x v _ h1 b=>
    refine(f_M.Ot (b.1,h1.1),3);by_cases e:v=[]
    .rw [e,Oe];show b.2
    .exact b.2.Ta e h1.2
  show(a.1,(h u a.1).Ot a.2)
def uI(h:∀u:LN,(∀c∈u,c∈L)->(AX L W B u=ξ↔cQ (AX L W1 B1) u)):Lg L W B=bw (Lg L W1 B1):=aD λu=>(λ⟨a,e⟩=>(h_z.Ot a,(h u a).mp e),λ⟨a,e⟩=>(h_z.mp a,(h u (h_z.mp a)).Ot e))
def xg(h:∀u:LN,(∀c∈u,c∈L)->(AX L W B u=ξ↔je (AX L W1 B1) u)):Lg L W B=gI L (Lg L W1 B1):=aD λu=>by
 constructor
 .rintro⟨a,e⟩;show(a,λz=>by let b:=z.2;rw[show AX L W1 B1 u=η from(h u a).mp e]at b;cases b)
 .rintro⟨a,e⟩;show(a,(h u a).Ot (MZ.U4.Ot λz=>e (a,z)))
def yY(h:∀u:LN,(∀c∈u,c∈L)->(AX L W B u=ξ↔D0 (λa b=>a||b) (AX L W1 B1) (AX L W2 B2) u)):Lg L W B=FA (Lg L W1 B1) (Lg L W2 B2):=aD λu=>by
 constructor
 .rintro⟨d,e⟩;show((Uv _ _).mp ((h u d).mp e)).Wi (⟨d,·⟩) (⟨d,·⟩)
 .rintro (⟨d,e⟩|⟨d,e⟩)
  .exact (d,(h u d).Ot ((Uv _ _).Ot (.NJ e)))
  .exact (d,(h u d).Ot ((Uv _ _).Ot (.NU e)))
def xh(h:∀u:LN,(∀c∈u,c∈L)->(AX L W B u=ξ↔D0 (λa b=>a&&b) (AX L W1 B1) (AX L W2 B2) u)):Lg L W B=mv (Lg L W1 B1) (Lg L W2 B2):=aD λu=>by
 constructor
 .rintro⟨d,e⟩;have:=(Oz _ _).mp ((h u d).mp e);show((d,this.1),d,this.2)
 .rintro⟨⟨d,g⟩,_,f⟩;show(d,(h u d).Ot ((Oz _ _).Ot (g,f)))
def uL(h:∀u:LN,(∀c∈u,c∈L)->(AX L W B u=ξ↔D0 (λa b=>a&&!b) (AX L W1 B1) (AX L W2 B2) u)):Lg L W B=ef (Lg L W1 B1) (Lg L W2 B2):=aD λu=>by
 constructor
 .rintro⟨d,e⟩;have:=(Oz _ _).mp ((h u d).mp e);show((d,this.1),λz=>by rw[z.2]at this;cases this.2)
 .rintro⟨⟨d,g⟩,f⟩;show(d,(h u d).Ot ((Oz _ _).Ot (g,by rw[RC];show MZ.U4.Ot λz=>f (d,z))))
def uK(c1:BI L W1 B1 d)(b:BI L W2 B2 c)(h:Lg L W1 B1=Lg L W2 B2):W1=W2/\B1=B2:=sU c1 b λu a=>by
 have:=congrFun h u;rw[MZ.RG];show(λe=>(this▸((a,e):Lg L W1 B1 u):Lg L W2 B2 u).2,λe=>(this.MQ▸((a,e):Lg L W2 B2 u):Lg L W1 B1 u).2)
def w0:gI L (FA A C)=mv (gI L A) (gI L C):=aD λu=>(λ⟨h,n⟩=>((h,λz=>n (.NJ z)),h,λz=>n (.NU z)),λ⟨⟨h,n⟩,_,m⟩=>(h,λz=>z.Nx n m))
def w2:al (al A)=al A:=aD λ_=>(al.Pk λ_ h=>h,al.Ol)
def w3:bw (aI A C)=aI (bw C) (bw A):=aD λu=>by
 constructor
 .rintro⟨x,v,e,h1,h2⟩;refine(v.Ng,x.Ng,3,3,3)
  .rw [<-γ.VU,<-e,SD]
  .change C v.Ng.Ng;rw[SD];show h2
  .change A x.Ng.Ng;rw[SD];show h1
 .rintro⟨x,v,ζ,h1,h2⟩;show(v.Ng,x.Ng,γ.VU,h2,h1)
def w5:aI (aI A C) D=aI A (aI C D):=aD λu=>by
 constructor
 .rintro⟨_,v,ζ,⟨x,y,ζ,h1,h2⟩,a⟩;show(x,y++v,Na _ _ _,h1,y,v,1,h2,a)
 .rintro⟨x,_,ζ,h1,y,v,ζ,h2,a⟩;show(x++y,v,(Na _ _ _).MQ,(x,y,1,h1,h2),a)
def w6:al (FA A C)=al (aI (al A) (al C)):=aD λu=>by
 constructor
 .refine al.Pk λv h=>.Ol ?_;rcases h with h|h
  .exact (v,[],(Oe _).MQ,.Ol h,.Ow)
  .exact ([],v,1,.Ow,.Ol h)
 .refine al.Pk λv h=>?_;let⟨x,y,ζ,h1,h2⟩:=h;show(al.Pk (λ_ h=>.Ol (.NJ h)) h1).app (al.Pk (λ_ h=>.Ol (.NU h)) h2)
def w7:aI A (al (aI C A))=aI (al (aI A C)) A:=aD λu=>by
 constructor
 .rintro⟨x,v,ζ,h1,h2⟩;induction h2 with
  |Ow=>show([],x,by rw[Oe,WO],.Ow,h1)
  |Ta _ j d=>
   let⟨a,b,e,i,h⟩:=d;let⟨y,z,ζ,f,hz⟩:=j;refine(a++(b++y),z,3,i.Ta (b,y,1,h,f),hz);rw[<-Na,e];simp only[Na]
 .rintro⟨x,v,ζ,h1,h2⟩;let c:∀{x:LN},al (aI A C) x->∀v,A v->aI A (al (aI C A)) (x++v):=λ{x}s=>by
   induction s with
   |Ow=>show λv g=>(v,[],by rw[Oe,WO],g,.Ow)
   |Ta _ j d=>
    intro v g;let⟨y,z,ζ,f,hz⟩:=j;let⟨a,b,e,i,h⟩:=d y f;refine(a,b++(z++v),3,i,h.Ta (z,v,1,hz,g));rw[<-Na a,<-e];simp only[Na]
  show c h1 v h2
def w8:mv A (FA C D)=FA (mv A C) (mv A D):=aD λu=>⟨λ⟨h,z⟩=>z.Wi (⟨h,·⟩) (⟨h,·⟩),λh=>h.Nx (λz=>(z.1,.NJ z.2)) λz=>(z.1,.NU z.2)⟩
def w9:bw (bw A)=A:=aD λu=>by change A u.Ng.Ng↔_;rw[SD]
def Mh:bw (al A)=al (bw A):=by
 let a:∀{A:LN->Prop}{u:LN},al A u->al (bw A) u.Ng:=λ{A u}s=>by
  induction s with
  |Ow=>show .Ow
  |@Ta x v _ h b=>
   rw[γ.VU];show(al.Ol (A:=bw A) (show A v.Ng.Ng by rw[SD];show h)).app b
 refine aD λu=>(λh=>?_,λh=>?_)
 .have:=a h
  rwa [SD]at this
 .have:=a h
  rwa [w9]at this
def Mi:aI A (FA C D)=FA (aI A C) (aI A D):=aD λu=>⟨λ⟨x,v,e,h1,h2⟩=>h2.Wi (⟨x,v,e,h1,·⟩) (⟨x,v,e,h1,·⟩),λh=>h.Nx (λ⟨x,v,e,h1,h2⟩=>(x,v,e,h1,.NJ h2)) λ⟨x,v,e,h1,h2⟩=>(x,v,e,h1,.NU h2)⟩
end
abbrev LU(L:LN):K1->(LN->Prop)->LN->Prop
 |.Ob=>gI L
 |.OJ=>bw
 |.again=>al
abbrev LV:K2->(LN->Prop)->(LN->Prop)->LN->Prop
 |.PB=>FA
 |.Tz=>ef
 |.Te=>mv
 |.OP=>aI
abbrev C9(L:LN)(we:MZ)(S:LN):LN->Prop:=λu=>(u=[]/\we=ξ)\/∃c∈L,c∈S/\u=[c]
abbrev bF(L:LN):Pt->LN->Prop
 |.Oo .PU=>C9 L η []
 |.Oo .Rj=>C9 L ξ []
 |.Oo .Ql=>C9 L η L
 |.RB c=>C9 L η [c]
 |.Ol k x=>LU L k (bF L x)
 |.PF k x y=>LV k (bF L x) (bF L y)
abbrev Do(L S:LN):LL:=[L.NN λc=>if S.M9 c then 1 else 2,L.NN λ_=>2,L.NN λ_=>2]
section
variable{L S:LN}{we:Bool}
def bH(d:CK L):g_ L (Do L S) [we,ξ,η]:=by
 refine(d,by change 1≤3;decide,by change 3≤2100;decide,1,λws h=>?_);let a:ws.β=L.β/\∀x∈ws,x<3:=by
  rcases MP.mp h with ζ|h
  .refine (ol ..,λx b=>?_);let⟨c,_,ζ⟩:=PH.mp b;split<;>decide
  .have:ws=L.NN λ_=>2:=by
    rcases MP.mp h with ζ|h
    .rfl
    .exact Ay h
   subst this;refine(ol ..,λx b=>?_);let⟨c,_,ζ⟩:=PH.mp b;decide
 show a
def cb(b:c∈L):Bw L (Do L S) 0 c=(if S.M9 c then 1 else 2)/\Bw L (Do L S) 1 c=2/\Bw L (Do L S) 2 c=2:=by
 let a:=M8 b;let e:∀f:Φ->Φ,(L.NN f).ML (L.M3 c) 0=f c:=λf=>by
  rw[u6,tS,n_ a,O_];rfl
 show(e _,e _,e _)
def qr:∀{u:LN},Wd L u->PM L (Do L S) 2 u=2
 |[],_=>rfl
 |c::u,h=>by
  change PM L (Do L S) (Bw L (Do L S) 2 c) u=2;rw[(cb (h c N8)).2.2];show qr λx a=>h x (M4 _ a)
def yt:Lg L (Do L S) [we,ξ,η]=C9 L we S:=aD λu=>by
 match u with
 |[]=>show(λh=>.NJ (1,h.2),λh=>(λc a=>(nomatch a),h.Nx And.right λ⟨_,_,_,z⟩=>(nomatch z)))
 |[c]=>
  constructor
  .rintro⟨b,e⟩;let a:=b c N8;let e:[we,ξ,η].ML (Bw L (Do L S) 0 c) η=ξ:=e;rw[(cb a).1]at e;by_cases d:S.M9 c=ξ
   .exact .NU (c,a,QN.mp d,1)
   .rw [BT d]at e;cases e
  .rintro (⟨z,_⟩|⟨i,a,d,z⟩)
   .cases z
   .cases z;refine(λx f=>by rw[Ay f];show a,3);show[we,ξ,η].ML (Bw L (Do L S) 0 c) η=ξ;rw[(cb a).1,Id (QN.Ot d)];rfl
 |c::g::u=>
  constructor
  .rintro⟨b,e⟩;let h1:=cb (S:=S) (b c N8);let h2:=cb (S:=S) (b g (M4 _ N8));let e:[we,ξ,η].ML (PM L (Do L S) (Bw L (Do L S) (Bw L (Do L S) 0 c) g) u) η=ξ:=e;let z:Bw L (Do L S) (Bw L (Do L S) 0 c) g=2:=by
    rw[h1.1];split
    .exact h2.2.1
    .exact h2.2.2
   rw[z,qr λx f=>b x (M4 _ (M4 _ f))]at e;cases e
  .rintro (⟨z,_⟩|⟨_,_,_,z⟩)<;>cases z
end
structure Mc(H:Hp)(m:Addr)(L:LN)(W:LL)(B:List Bool):Prop where
 mt:zl H m L W B
 ma:g_ L W B
 le:W.length≤8
def Mc.kt(h:Mc H m L W B)(k:KT ts H H'):Mc H' m L W B:=(k.Sj h.mt,h.ma,h.le)
def ah.kt{ts:γ (υ×γ (Sh×NB))}{H H':Hp}(k:KT ts H H'):∀{t:Pt}{v:V},ah H t v->ah H' t v
 |.Oo _,_,⟨a,e,b⟩=>(a,e,k.sm.No _ _ b)
 |.RB _,_,⟨a,e,b⟩=>(a,e,k.sm.No _ _ b)
 |.Ol _ x,_,⟨a,u,e,b,c⟩=>(a,u,e,k.sm.No _ _ b,ah.kt k (t:=x) c)
 |.PF _ x y,_,⟨a,u,w,e,b,c,d⟩=>(a,u,w,e,k.sm.No _ _ b,ah.kt k (t:=x) c,ah.kt k (t:=y) d)
def qq(h:ah H t v)(a:t.V4≤n+1):(∃k,t=.Oo k)\/(∃c,t=.RB c)\/∃(p:υ)(nm:NB)(us:γ V)(ps:γ Pt),v=.ο p/\H p=δ (.No (.NA nm::us))/\us.β=ps.β/\1≤us.β/\us.β≤2/\nm≠"sign"/\
  (∀(j:Φ)(u:V),us[j]?<*u->∃x,ps[j]?=δ x/\ah H x u/\x.V4≤n)/\((∃k x,t=.Ol k x/\nm=GV k/\ps=[x])\/∃k x y,t=.PF k x y/\nm=Dn k/\ps=[x,y]):=by
 cases t with
 |Oo k=>show .NJ (k,1)
 |RB c=>show .NU (.NJ (c,1))
 |Ol k x=>
  let⟨p,u,e,hp,b⟩:=h;let a:x.V4+1≤n+1:=a;refine .NU (.NU (p,_,[u],[x],e,hp,1,LE _,by change 1≤2;decide,by cases k<;>decide +kernel,λj d e=>?_,.NJ (k,x,5,1)));match j with
  |0=>cases e;show(x,1,b,Φ.le_of_succ_le_succ a)
  |j+1=>simp at e
 |PF k x y=>
  let⟨p,u,w,e,hp,b,f⟩:=h;let a:max x.V4 y.V4+1≤n+1:=a;refine .NU (.NU (p,_,[u,w],[x,y],e,hp,1,by change 1≤2;decide,LE _,by cases k<;>decide +kernel,λj d e=>?_,.NU (k,x,y,5,1)));match j with
  |0=>cases e;show(x,1,b,!6)
  |1=>cases e;show(y,1,f,!6)
  |j+2=>simp at e
def _root_.L2.KT.Ra{ys zs:γ V}(k:KT ts H H')(l:H D=ε)(c:H' D<*.M7 ys):KT ts H (MT H' D (.M7 zs)):=by
 refine(λb o j e=>by rw[a_ (e_ e l)];show k.sm b o j e,λh p hp=>?_);let⟨ps,d,i,a⟩:=k.tb h p hp;refine(ps,by rw[a_ (qN d c (!5))];show d,i,λx g=>(a x g).Wi id λ⟨n,m,f⟩=>(n,m,3));rw[a_ (qN f c (!5))];show f
def Mc.Ra{ys zs:γ V}(h:Mc H m L W B)(a:H D<*.M7 ys):Mc (MT H D (.M7 zs)) m L W B:=by
 refine(h.mt.QT λb xs e=>?_,h.ma,h.le);rw[a_ (qN e a (!5))];show e
end RA
namespace L2
open PySem.Spec PyProof.Rows RA
def DG{p:TE}{k:St}{Q:VK}(v:Dy J a (.No xs) xs)(g:υ->Φ->γ V->Hp->Prop)(hz:xs.β≤Λ)(w:∀D i ys H',g D i ys H'->H' a=δ (.No xs)/\H' D=δ (.M7 ys)/\ys.β=i)(h0:∀D,H D=ε->g D 0 [] (MT H D (.M7 [])))(B:∀(D:υ)(i:Φ)(x:V)(ys:γ V)(H':Hp)(q:VK),H D=ε->xs[i]?<*x->g D i ys H'->(∀y f,f D<*.M7 ys->g D (i+1) (ys++[y]) (MT f D (.M7 (ys++[y])))->q y f)->p (δ x::k) H' q)(C:∀D ys H',H D=ε->g D xs.β ys H'->Q (.ο D) H'):∀D,H D=ε->∃W:Φ->Φ->γ V->Hp->Prop,
 (∃m,W 0 m [] (MT H D (.M7 [])))/\∀i m ys d,W i m ys d->d D=δ (.M7 ys)/\((J.Sx i d/\Q (.ο D) d)\/(J.go i d/\ys.β<Λ/\∀x j,J.X_ i d x j->
  Xx (δ x::k) j λb r=>if b=ξ then p (δ x::k) r λy f=>f D=δ (.M7 ys)/\∃h,h<m/\W (i+1) h (ys++[y]) (MT f D (.M7 (ys++[y])))
   else ∃h,h<m/\W (i+1) h ys r)):=by
 intro D o;refine(λi m ys d=>m=xs.β-i/\i≤xs.β/\g D i ys d,(xs.β,!1,Nf _,h0 D o),3);rintro i m ys d⟨rfl,E,hp⟩;let⟨F,n,z⟩:=w D i ys d hp;refine(n,3);let⟨u,t,s⟩:=v d F;by_cases c:i<xs.β
 .refine .NU (u i c,Nm (Rg z) (Ψ c hz),λx j l=>?_);let⟨e,A⟩:=t i x j c l;subst e;show l_ (B D i x ys j _ o A hp λy f a b=>(a,xs.β-(i+1),Pi _ _ c,1,c,b))
 .let e:i=xs.β:=Rh E (OS c);subst e;show .NJ (s,C D ys d o hp)
def pQ{P1:υ->Hp->Prop}(e:∀R:VK,(∀a b,P1 a b->b a<*.No xs->R (.ο a) b)->k g H R)(c:Hp->υ->Φ->γ V->Hp->Prop)(hz:xs.β≤Λ)(n:∀b a D i ys H',b a<*.No xs->c b D i ys H'->H' a=δ (.No xs)/\H' D=δ (.M7 ys)/\ys.β=i)(h0:∀b D,b D=ε->c b D 0 [] (MT b D (.M7 [])))(o:∀(a:υ)(b:Hp)(D:υ)(i:Φ)(x:V)(ys:γ V)(H':Hp)(d:VK),P1 a b->b D=ε->xs[i]?<*x->c b D i ys H'->(∀y f,f D<*.M7 ys->c b D (i+1) (ys++[y]) (MT f D (.M7 (ys++[y])))->d y f)->l (δ x::g) H' d)(p:∀a b D ys H',P1 a b->b D=ε->c b D xs.β ys H'->Q (.ο D) H'):FI (JZ k) Xx l g H Q:=
 e _ λa b h j=>(a,_,xs,1,.NU ζ,j,λ_ m=>DG m (c b) hz (λD i ys H'=>n b a D i ys H' j) (h0 b) (λD i x ys H' d=>o a b D i x ys H' d h) λD ys H'=>p a b D ys H' h)
def i9{f:NB}{Nj:Sh}(K:Nn)(a:PE X e ta)(c:(X.K=K)>>>4)(b:(QL e f X.KK (OM e X.KK)=OM e X.KK)>>>4):PE X (.O3 e f Nj) (mL K ta f):=by
 subst c;show uo a b
section
variable{X:Cx}{k j:Nat}{ps:List Str}{sp:Sp}{m y:Str}{p pos apos cp yp ap:Pos}{o e c e1 e2:Expr}{es:List Expr}{ta:TE}{t:TA}{ι:Type}{C:ι->Addr}{f:Addr}{fd:FuncData}
abbrev wb(C:ι->υ)(m:NB)(j:Φ)(sp:Sp)(ta:TE)(t:TA):(St->XK)->TS:=λG D σ H=>ta σ H λx H0=>∃i a dx fs,x=.ο a/\H0 a=δ (.Uq (C i) dx fs)/\fs.ρ m=ε/\t σ H0 λvs H1=>sp (x::vs) H1 (λv H2=>D.nx (σ.Ra j (δ v)) H2) (G σ)
def uh{pl:ZD MZ}(nd:X.N.Nz)(he:PE X.nox o ta)(cl:∀i,Cp X.K (C i))(Z:∀i,dX X.K (C i) m f)(F:aa X.Ξ X.w X.K X.mg X.ς (Am X.Ξ X.w) k f fd ps sp)(hr:ak k X.A)(B:Ao X.K fd ps [])(ha:PA X.nox (e::es) t)(hj:X.N[j]?<*y)(hy:DJ X.KK.NG y)(Rx:(Θ (e::es) X.KK=(η,OM e X.KK,)::Θ es X.KK)>>>4)(M:((OF cp (Θ es X.KK)).Ql (·.1)=η)>>>4)(ht:(OM (.QG (.O3 o m Zn) (e::es) [] cp) X.KK=(do
   let Y <-OM o X.KK
   standAt Zn.atName
   let(f,first,) <-holding [Y] (XB Y m pl)
   Yc cp f first (OF cp (Θ (e::es) X.KK)) (Vi cp (TQ [] X.KK))))>>>4)(hs:(Sw (.QG (.O3 o m Zn) (e::es) [] cp) (δ (.N0 y yp)) ap.SZ X.KK=pure η)>>>4)(hf:(X.fn y=ξ\/X.KK.NG.MR.ρ y<*.local)>>>8):PX X (.WS [.N0 y yp] (.QG (.O3 o m Zn) (e::es) [] cp) ap) (wb C m j sp ta t):=by
 intro b s d H D G I h;refine wpAny_Assign_Name (NI (Q:=EP X b d λv n=>D.nx (d.Ra j (δ v)) n) ?_ (λv S P=>by let⟨w,R,L,r1,q1⟩:=P;show AO L nd hj hy r1 (λs2 E=>(_,R,E,q1)) hf) λ_ _ z=>z) hs;refine Δ.W.Yr (pl:=pl) (NI (he b s d H _ (I.Vw _) h) (λu S O=>?_) λ_ _ z=>z.Nx) ht;let⟨x,R,L,rx,i,a,dx,fs,ex,ea,l,q⟩:=O;subst ex;obtain ζ:u=θ.ο a:=rx;refine Ld L.Sv ea (cl i) (Z i) l ?_;refine WQ (first:=[.ο a]) (h₀:=X.ς) I.ok.VX.Vz (Z i).kp (NI (ha cp b S d R _ L q) (λus s2⟨vs,n,E,r,U⟩=>(E.Tb,3)) λ_ _ z=>z.Nx) Rx M;let J:f' X b d n s2:=E.Sv;let T:ad (V.ο a::vs) (θ.ο a::us):=.NZ ζ r;refine QS (Pd (F.PM X.A X.NC s2 n (θ.ο a::us,[]) (θ.ο a::us) (V.ο a::vs) _ _ hr J.Zj ?_ T U) λr s' g=>?_)
 .let B:=B s2 (θ.ο a::us) J.Tb;rw[Oe]at B;show B (by rw[<-T.β];show F.PQ _ _ _ _ U)
 .cases r with
  |SA ev=>show(d,n,s2,J,g)
  |ok fl=>
   cases fl with
   |UX u=>show J.Xe g
   |next=>show NX.Nx g
   |Yk=>show NX.Nx g
   |UC=>show NX.Nx g
inductive Gb(V:LN)(T:(Nat->Pt)->Pt)(σ:St)(H:Hp)(Q:VK):Prop
 |mk (f:Nat->Pt) (_:(∀i∈V,∃v,σ[i]?=some (some v)/\ah H (f i) v)) (_:∀v H',a' H H'->ah H' (T f) v->Q v H')
variable{V:LN}{T T1 T2:(Nat->Pt)->Pt}{x1:ExprCtx}
def yx(h:PE X e (bC i))(g:(i∈V)>>>0):PE X e (Gb V λf=>f i):=λa s b H Q I⟨f,d,q⟩=>by
 let⟨v,e1,e2⟩:=d i g;show h a s b H Q I (v,e1,q v H (a'.Tn _) e2)
def cE(k:K0)(h:PA X es (Aw (tC (.NA (Hy k))) Wz)){x1}:PE X (.Qw es x1 Nj) (Gb V λ_=>.Oo k):=λa s b H Q I⟨f,d,q⟩=>
 Bg h a s b H Q I (sT (by change 1≤16777216;decide),λp hp=>q (.ο p) _ (a'.MT hp) (p,1,j_))
def Br(k:K1)(h:PA X es (Aw (tC (.NA (GV k))) (Aw (Gb V T) Wz))){x1}:PE X (.Qw es x1 Nj) (Gb V λf=>.Ol k (T f)):=λa s b H Q I⟨f,g,q⟩=>
 Bg h a s b H Q I (f,g,λv l d i=>(sT (by change 2≤16777216;decide),λp hp=>q (.ο p) _ (d.ν (a'.MT hp)) (p,v,1,j_,i.kp (a'.kp (a'.MT hp)))))
def A0(k:K2)(h:PA X es (Aw (tC (.NA (Dn k))) (Aw (Gb V T1) (Aw (Gb V T2) Wz)))){x1}:PE X (.Qw es x1 Nj) (Gb V λf=>.PF k (T1 f) (T2 f)):=λd s n H Q I⟨f,l,q⟩=>
 Bg h d s n H Q I (f,l,λv A g r=>(f,λi x=>let⟨u,a,b⟩:=l i x;(u,a,b.kp (a'.kp g)),λw z s2 hw=>(sT (by change 3≤16777216;decide),λp hp=>q (.ο p) _ (g.ν (s2.ν (a'.MT hp))) (p,v,w,1,j_,r.kp (a'.kp (s2.ν (a'.MT hp))),hw.kp (a'.kp (a'.MT hp))))))
def Dp{f:Φ->Pt}(g:∀i∈V,∃v,h[i]?=δ (δ v)/\ah H (f i) v)(q:∀p u w H',a' H H'->H' p<*.M7 [u,w]->ah H' (T1 f) u->ah H' (T2 f) w->D.rt (.ο p) H'):gj (yb (Aw (Gb V T1) (Aw (Gb V T2) Wz))) D h H:=
 (f,g,λu s d l=>(f,λi n=>let⟨u,a,b⟩:=g i n;(u,a,b.kp (a'.kp d)),λw r s2 hw=>(sT (by change 2≤16777216;decide),λp hp=>q p u w _ (d.ν (s2.ν (a'.MT hp))) j_ (l.kp (a'.kp (s2.ν (a'.MT hp)))) (hw.kp (a'.kp (a'.MT hp))))))
end
def jO(h:ys.β=n+1):AL (xs++ys) ε (δ (-((n+1:Φ):MN)))=xs:=by
 unfold AL HT.Sn;dsimp only;rw[Id (!2),w_,h,show(-((n+1:Φ):MN)+((xs.β+(n+1):Φ):MN)).Ou=xs.β by lia];simp
def pX(xs:γ V)(a b:V):AN (xs++[a]++[b]) (-2)<*a:=by
 let e:Fq (xs++[a]++[b]).β (-2)<*xs.β:=by
  unfold Fq;rw[BT (!0)];simp;lia
 unfold AN;rw[e];simp
def qp(K:Nn)(a:(X.K=K)>>>4):HR X (yI K):=by
 subst a;show HS
def vf(d:0≤a)(c:0≤b){n:Φ}(h:b≤a+(n:MN)):(sS ns (δ a) (δ b)).β≤n:=by
 unfold sS HT.Sn;dsimp only;rw[BT (!6),BT (!6),Qy,UI];omega
abbrev C_(K:Nn)(x q:NB)(st:Nu)(f:υ):Prop:=∃fd,vh K x q st f fd
section
variable{K:Frag}{x q:Str}{st:Stmt}{f:Addr}{fd:FuncData}{q0 q1 q2:Str}
def GZ{kV Pm pm ct:θ}(l:K.ρ f<*(e,d,.Qb (Px x q (t5 st) (p_ st) (h_ st) .ε kV Pm pm an (.ο b) ct),a))(c:PD K (.ο b) q=ξ):C_ K x q st f:=(_,D8 l c (BE l))
def EE(F:vh K x q st f fd)(h:∀(kV Pm pm:θ)(an:ω υ)(Qm ct a:θ),TU (Px x q (t5 st) (p_ st) (h_ st) .ε kV Pm pm an Qm ct) ([a],[])=pure ([q0].Th [a])):Ao K fd [q0] []:=F.WC λ_ _ _ _ _ _ us b=>by let⟨_,ζ⟩:=D6 b;show h _ _ _ _ _ _ _
def Km(F:vh K x q st f fd)(h:∀(kV Pm pm:θ)(an:ω υ)(Qm ct b a:θ),TU (Px x q (t5 st) (p_ st) (h_ st) .ε kV Pm pm an Qm ct) ([b,a],[])=pure ([q0,q1].Th [b,a])):Ao K fd [q0,q1] []:=F.WC λ_ _ _ _ _ _ us c=>by let⟨_,_,ζ⟩:=Gw c;show h _ _ _ _ _ _ _ _
def Mj(F:vh K x q st f fd)(h:∀(kV Pm pm:θ)(an:ω υ)(Qm ct c b a:θ),TU (Px x q (t5 st) (p_ st) (h_ st) .ε kV Pm pm an Qm ct) ([c,b,a],[])=pure ([q0,q1,q2].Th [c,b,a])):Ao K fd [q0,q1,q2] []:=F.WC λ_ _ _ _ _ _ us d=>by let⟨_,_,_,ζ⟩:=Jt d;show h _ _ _ _ _ _ _ _ _
end
structure dN(K:Frag)(C cP f fM:Addr):Prop where
 pc:vt K C cP
 me:dX K C "shape" f
 mm:dX K C "machine" fM
end L2
namespace RA
open L2
abbrev CM(x y z:Pt):Φ->Pt×Pt
 |0=>(.PF .OP x (.PF .PB y z),.PF .PB (.PF .OP x y) (.PF .OP x z),)
 |1=>(.Ol .Ob (.PF .PB x y),.PF .Te (.Ol .Ob x) (.Ol .Ob y),)
 |2=>(.Ol .again (.PF .PB x y),.Ol .again (.PF .OP (.Ol .again x) (.Ol .again y)),)
 |3=>(.Ol .OJ (.PF .OP x y),.PF .OP (.Ol .OJ y) (.Ol .OJ x),)
 |4=>(.PF .Tz x y,.PF .Te x (.Ol .Ob y),)
 |5=>(.Ol .again (.Ol .again x),.Ol .again x,)
 |6=>(.PF .PB (.Oo .Rj) (.PF .OP x (.Ol .again x)),.Ol .again x,)
 |7=>(.PF .OP (.Ol .again (.PF .OP x y)) x,.PF .OP x (.Ol .again (.PF .OP y x)),)
 |8=>(.PF .OP x (.Oo .PU),.Oo .PU,)
 |9=>(.PF .OP (.Oo .Rj) x,.PF .OP x (.Oo .Rj),)
 |10=>(.PF .OP (.PF .OP x y) z,.PF .OP x (.PF .OP y z),)
 |11=>(.PF .Te x (.PF .PB y z),.PF .PB (.PF .Te x y) (.PF .Te x z),)
 |12=>(.Ol .OJ (.Ol .again x),.Ol .again (.Ol .OJ x),)
 |13=>(.PF .Tz x (.PF .PB y z),.PF .Tz (.PF .Tz x y) z,)
 |14=>(.Ol .Ob (.Oo .PU),.Ol .again (.Oo .Ql),)
 |_=>(.Ol .OJ (.Ol .Ob x),.Ol .Ob (.Ol .OJ x),)
section
variable{A C D:LN->Prop}{L:LN}{x y z:Pt}
def IC{b:MZ}{S:LN}{u:LN}:C9 L b S u->Wd L u
 |.NJ ⟨e,_⟩=>by rw[e];show λc a=>(nomatch a)
 |.NU ⟨c,a,_,e⟩=>by rw[e];show λd f=>by rw[Ay f];show a
def mO(h:∀u,A u->Wd L u)(s:al A u):Wd L u:=by
 induction s with
 |Ow=>show λc b=>(nomatch b)
 |Ta _ h1 a=>show f_M.Ot (a,h _ h1)
def Gc:∀(t:Pt)(u:LN),bF L t u->Wd L u
 |.Oo .PU,_,h=>IC h
 |.Oo .Rj,_,h=>IC h
 |.Oo .Ql,_,h=>IC h
 |.RB _,_,h=>IC h
 |.Ol .Ob _,_,h=>h.1
 |.Ol .OJ x,u,h=>h_z.mp (Gc x _ h)
 |.Ol .again x,u,h=>mO (Gc x) h
 |.PF .PB x y,u,h=>h.Nx (Gc x u) (Gc y u)
 |.PF .Tz x y,u,h=>Gc x u h.1
 |.PF .Te x y,u,h=>Gc x u h.1
 |.PF .OP x y,_,⟨_,_,e,h1,h2⟩=>by rw[e];show f_M.Ot (Gc x _ h1,Gc y _ h2)
def d_v:C9 L ξ [] u↔u=[]:=(λh=>h.Nx And.left λ⟨_,_,z,_⟩=>(nomatch z),λe=>.NJ (e,1))
def cT:¬ C9 L η [] u:=λh=>h.Nx (λz=>nomatch z.2) λ⟨_,_,z,_⟩=>(nomatch z)
def v4(h:∀u,A u->Wd L u):ef A C=mv A (gI L C):=aD λu=>(λ⟨a,n⟩=>(a,h u a,n),λ⟨a,_,n⟩=>(a,n))
def v6:FA (C9 L ξ []) (aI A (al A))=al A:=aD λu=>by
 constructor
 .rintro (h|⟨a,v,ζ,h1,h2⟩)
  .rw [d_v.mp h];show .Ow
  .exact (al.Ol h1).app h2
 .intro s;induction s with
  |Ow=>show .NJ (d_v.Ot ζ)
  |@Ta a v _ h c=>
   rcases c with e|⟨b,w,ζ,h1,h2⟩
   .rw [d_v.mp e];show .NU (v,[],(Oe _).MQ,h,.Ow)
   .exact .NU (b,w++v,Na _ _ _,h1,h2.Ta h)
def v8:aI A (C9 L η [])=C9 L η []:=aD λu=>(λ⟨_,_,_,_,h⟩=>(cT h).Nx,λh=>(cT h).Nx)
def v9:aI (C9 L ξ []) A=aI A (C9 L ξ []):=aD λu=>by
 constructor
 .rintro⟨a,v,ζ,h1,h2⟩;show(v,[],by rw[d_v.mp h1,Oe];rfl,h2,d_v.Ot ζ)
 .rintro⟨a,v,ζ,h1,h2⟩;show([],a,by rw[d_v.mp h2,Oe];rfl,d_v.Ot ζ,h1)
def Ml:ef A (FA C D)=ef (ef A C) D:=aD λu=>(λ⟨a,n⟩=>((a,λz=>n (.NJ z)),λz=>n (.NU z)),λ⟨⟨a,n⟩,m⟩=>(a,λz=>z.Nx n m))
def iI:∀(v:LN),Wd L v->al (C9 L η L) v
 |[],_=>.Ow
 |c::v,h=>al.app (x:=[c]) (.Ol (.NU (c,h c N8,h c N8,1))) (iI v λd a=>h d (M4 _ a))
def Mm:gI L (C9 L η [])=al (C9 L η L):=aD λu=>(λh=>iI u h.1,λs=>(mO (λ_=>IC) s,cT))
def Mn:bw (gI L A)=gI L (bw A):=aD λu=>(λ⟨h,n⟩=>(h_z.mp h,n),λ⟨h,n⟩=>(h_z.Ot h,n))
def p7:∀k,bF L (CM x y z k).1=bF L (CM x y z k).2
 |0=>Mi
 |1=>w0
 |2=>w6
 |3=>w3
 |4=>v4 (Gc x)
 |5=>w2
 |6=>v6
 |7=>w7.MQ
 |8=>v8
 |9=>v9
 |10=>w5
 |11=>w8
 |12=>Mh
 |13=>Ml
 |14=>Mm
 |_+15=>Mn
abbrev Bd(L:LN)(n d:Φ)(t:Pt)(c i e:Φ):Prop:=t.To L/\t.sz≤c*n+i/\t.V4≤d+e
section
variable{t s:Pt}{n d c i e c' i':Nat}
def Bd.up(h:Bd L n d t c i e):Bd L n d t c i (e+1):=(h.1,h.2.1,Φ.V8 h.2.2)
def Bd.Ol(h:Bd L n d t c i e):Bd L n d (.Ol k t) c (i+1) (e+1):=(h.1,QH h.2.1,QH h.2.2)
def Bd.PF(h:Bd L n d t c i e)(g:Bd L n d s c' i' e):Bd L n d (.PF k t s) (c+c') (i+i'+1) (e+1):=((h.1,g.1),(by change _+_+1≤(c+c')*n+(i+i'+1);have:=h.2.1;have:=g.2.1;rw[Φ.add_mul];lia),QH (Φ.max_le.Ot (h.2.2,g.2.2)))
def Bd.VE(h:Bd L n d t c i e)(h1:(Φ.ble c 4=ξ)>>>4)(h2:(Φ.ble i 4=ξ)>>>4)(a:(Φ.ble e 3=ξ)>>>4):t.To L/\t.sz≤4*n+4/\t.V4≤d+3:=
 (h.1,IO h.2.1 (Φ.add_le_add (Φ.mul_le_mul_right n (Φ.Wh h1)) (Φ.Wh h2)),IO h.2.2 (Φ.add_le_add_left (Φ.Wh a) d))
end
def vU(f:x.To L)(e:y.To L)(hz:z.To L)(c:x.sz≤n)(b:y.sz≤n)(a:z.sz≤n)(dx:x.V4≤d)(h:y.V4≤d)(g:z.V4≤d)(d1:1≤d)(k:Φ):((CM x y z k).1.To L/\(CM x y z k).1.sz≤4*n+4/\(CM x y z k).1.V4≤d+3)/\(CM x y z k).2.To L/\(CM x y z k).2.sz≤4*n+4/\(CM x y z k).2.V4≤d+3:=by
 let X:Bd L n d x 1 0 0:=(f,by rw[Φ.one_mul];show c,dx);let Y:Bd L n d y 1 0 0:=(e,by rw[Φ.one_mul];show b,h);let Z:Bd L n d z 1 0 0:=(hz,by rw[Φ.one_mul];show a,g);let E:∀k,Bd L n d (.Oo k) 0 1 0:=λk=>(trivial,by rw[Φ.zero_mul];show LE _,d1);match k with
 |0=>show((X.up.PF (Y.PF Z)).VE,((X.PF Y).PF (X.PF Z)).VE)
 |1=>show((X.PF Y).Ol.VE,(X.Ol.PF Y.Ol).VE)
 |2=>show((X.PF Y).Ol.VE,(X.Ol.PF Y.Ol).Ol.VE)
 |3=>show((X.PF Y).Ol.VE,(Y.Ol.PF X.Ol).VE)
 |4=>show((X.PF Y).VE,(X.up.PF Y.Ol).VE)
 |5=>show(X.Ol.Ol.VE,X.Ol.VE)
 |6=>show(((E _).up.up.PF (X.up.PF X.Ol)).VE,X.Ol.VE)
 |7=>show(((X.PF Y).Ol.PF X.up.up).VE,(X.up.up.PF (Y.PF X).Ol).VE)
 |8=>show((X.PF (E _)).VE,(E _).VE)
 |9=>show(((E _).PF X).VE,(X.PF (E _)).VE)
 |10=>show(((X.PF Y).PF Z.up).VE,(X.up.PF (Y.PF Z)).VE)
 |11=>show((X.up.PF (Y.PF Z)).VE,((X.PF Y).PF (X.PF Z)).VE)
 |12=>show(X.Ol.Ol.VE,X.Ol.Ol.VE)
 |13=>show((X.up.PF (Y.PF Z)).VE,((X.PF Y).PF Z.up).VE)
 |14=>show((E _).Ol.VE,(E _).Ol.VE)
 |_+15=>show(X.Ol.Ol.VE,X.Ol.Ol.VE)
end
section
def Kn(h:5<r)(h':r<10):∃k:K2,AN [V.NA "either",.NA "less",.NA "both",.NA "then"] (r-6)<*.NA (Dn k):=by
 rcases(by lia:r=6\/r=7\/r=8\/r=9)with ζ|rfl|rfl|rfl
 .exact (.PB,1)
 .exact (.Tz,1)
 .exact (.Te,1)
 .exact (.OP,1)
def Ko(h:0≤r)(h':r<4):∃k:K1,AN [V.NA "again",.NA "outside",.NA "turned",.NA "again"] r<*.NA (GV k):=by
 rcases(by lia:r=0\/r=1\/r=2\/r=3)with ζ|rfl|rfl|rfl
 .exact (.again,1)
 .exact (.Ob,1)
 .exact (.OJ,1)
 .exact (.again,1)
def Kq(h:0≤r)(h':r<2):∃k:K0,AN [V.NA "never",.NA "empty"] r<*.NA (Hy k):=by
 rcases(by lia:r=0\/r=1)with ζ|rfl
 .exact (.PU,1)
 .exact (.Rj,1)
def Kr(h:0≤r)(h':r<3):∃k:K2,AN [V.NA "then",.NA "either",.NA "then"] r<*.NA (Dn k):=by
 rcases(by lia:r=0\/r=1\/r=2)with ζ|rfl|rfl
 .exact (.OP,1)
 .exact (.PB,1)
 .exact (.OP,1)
def BJ.kp(k:Kp H H')(h:BJ (ah H) xs ts):BJ (ah H') xs ts:=h.Wi λ_ _ z=>z.kp k
end
def mW{R:Pt->V->Prop}:∀{xs:γ V}{ts:γ Pt}{j:Φ},BJ R xs ts->j<xs.β->∃v t,xs[j]?=δ v/\ts[j]?=δ t/\R t v
 |x::_,t::_,0,h,_=>(x,t,5,h.1)
 |_::xs,_::ts,j+1,h,a=>mW (xs:=xs) (ts:=ts) h.2 (Φ.lt_of_succ_lt_succ a)
def iF{b:Type}{xs:γ b}{x:b}(h:xs[0]?<*x):xs.OE (0+1)=[x]:=by
 cases xs with
 |Ow=>cases h
 |NZ a l=>cases h;rfl
def pN(ts:γ Pt)(n:Φ):aZ (ts.OE n)≤aZ ts:=by
 let h:aZ ts=aZ (ts.OE n)+aZ (ts.Py n):=by
  unfold aZ;rw[<-γ.YI,<-Nw,Rt]
 lia
def n8(ts:γ Pt)(n:Φ):aY (ts.OE n)≤aY ts:=by
 let h:aY ts=aY (ts.OE n)+aY (ts.Py n):=by
  unfold aY;rw[<-γ.YI,<-Nw,Rt]
 lia
abbrev Tl(L:LN)(H:Hp)(t:Pt)(v:V):Prop:=v=.Rv\/∃(f:υ)(W:LL)(B:γ MZ),v=.ο f/\Mc H f L W B/\(∃c,BI L W B c)/\Lg L W B=bF L t
def Tl.kt(h:Tl L H t v)(k:KT ts H H'):Tl L H' t v:=h.Wi id λ⟨f,W,B,e,a,r⟩=>(f,W,B,e,a.kt k,r)
end RA
section
seal L2.PE L2.PS L2.BA L2.PA L2.PI L2.PG L2.PT L2.FH L2.IQ L2.PW L2.PX
namespace K73
open L2 RA
abbrev Qo(i:Φ):Nu:=Δ.Challenge.pw_roomalgebra_k73_whole_laws_of_patterns.main.Yy.ML i (.V5 ((0),(0),(0),(0)))
instance Q0:NB:="machine"
instance Q3:NB:="letters"
instance Q4:NB:="rooms"
instance Q5:NB:="things"
instance Q6:NB:="words"
instance Q7:NB:="is_marked"
instance Q8:NB:="walk"
instance Z0:NB:="goals_of"
instance Z1:NB:="ways"
instance Z2:NB:="marks"
instance Z4:NB:="room"
instance Bt:Nu:=Qo 19
instance Em:Nu:=Qo 20
instance tM:Nu:=Qo 0
instance wH:Nu:=Qo 18
instance HF:Nu:=Cs wH 0
structure Gy(K:Frag)(mg:Str->Option Value)(cW fI:Addr)(fdI:FuncData):Prop where
 kW:mg "Walk"<*.ref cW
 cls:Cp K cW
 mkW:Mk K cW fI
 na1:Ah K cW Q3
 na2:Ah K cW Q5
 na3:Ah K cW Q6
 na4:Ah K cW Z1
 na5:Ah K cW Z2
 ini:vh K "__init__" "Walk.__init__" HF fI fdI
def qy:vw ["self",Q3,"start"] ["self",Q3,"start"] (h_ HF):=Aa
def rc(p:Gy K mg l fI fdI):aa P w K mg ς pu 1 fI fdI ["self",Q3,"start"] (qj l):=by
 refine p.ini.ok qy (λvs H Q E h=>?_) (λQm A Fr s H vs Q E Z h=>?_)
 .obtain ⟨x,dx,L,v,ζ,_⟩:=h;rfl
 .obtain ⟨x,dx,L,v,ζ,T,q⟩:=h;refine(_,(m_ (EN (f:=Q3) (pv 0) (pv 1) ζ) (m_ (EN (f:=Q5) (pv 0) (AA (o_ (pv 2))) ζ) (m_ (EN (f:=Q6) (pv 0) (AA (o_ n')) ζ) (m_ (EN (f:=Z1) (pv 0) (AA Dh) ζ) (k_ (EN (f:=Z2) (pv 0) (AA Dh) ζ)))))),3);refine(6,x,l,dx,0,T,p.OO,p.na1,!0,3);refine(0,sT (by change 1≤16777216;decide),λt D=>(0,x,l,dx,0,Ai j_ D,p.OO,p.na2,Nm (Rg (show _=1 from ζ)) (!0),3));let c:t≠x:=λz=>by rw[z,j_]at D;cases D
  refine(sT (by change 1≤16777216;decide),λi d=>(0,x,l,dx,0,Ai j_ d,p.OO,p.na3,Nm (Rg (show _=2 from ζ)) (!0),3));let u:i≠x:=λz=>by rw[z,j_]at d;cases d
  refine(Nf _,λy r=>(0,x,l,dx,0,Ai j_ r,p.OO,p.na4,Nm (Rg (show _=3 from ζ)) (!0),3));let B:y≠x:=λz=>by rw[z,j_]at r;cases r
  refine(Nf _,λm k=>(0,x,l,dx,0,Ai j_ k,p.OO,p.na5,Nm (Rg (show _=4 from ζ)) (!0),3));let C:m≠x:=λz=>by rw[z,j_]at k;cases k
  let j:t≠i:=λz=>by rw[<-z,a_ c,j_]at d;cases d
  let ty:t≠y:=λz=>by rw[<-z,a_ c,a_ j,a_ c,j_]at r;cases r
  let M:t≠m:=λz=>by rw[<-z,a_ c,a_ ty,a_ c,a_ j,a_ c,j_]at k;cases k
  let F:i≠y:=λz=>by rw[<-z,a_ u,j_]at r;cases r
  let J:i≠m:=λz=>by rw[<-z,a_ u,a_ F,a_ u,j_]at k;cases k
  let I:y≠m:=λz=>by rw[<-z,a_ B,j_]at k;cases k
  let N:∀b,b≠x->b≠m->b≠y->b≠i->b≠t->H b=MT (MT (MT (MT (MT (MT (MT (MT (MT H x (.Uq l dx (af Q3 (.NA (tx L)) []))) t (.M7 [v])) x (.Uq l dx (af Q5 (.ο t) (af Q3 (.NA (tx L)) [])))) i (.M7 [.NA (tx [])])) x (.Uq l dx (af Q6 (.ο i) (af Q5 (.ο t) (af Q3 (.NA (tx L)) []))))) y (.M7 [])) x (.Uq l dx (af Z1 (.ο y) (af Q6 (.ο i) (af Q5 (.ο t) (af Q3 (.NA (tx L)) [])))))) m (.M7 [])) x (.Uq l dx (af Z2 (.ο m) (af Z1 (.ο y) (af Q6 (.ο i) (af Q5 (.ο t) (af Q3 (.NA (tx L)) []))))))  b:=λb h1 h2 Y X W=>by
   rw[a_ h1,a_ h2,a_ h1,a_ Y,a_ h1,a_ X,a_ h1,a_ W,a_ h1]
  let g:∀{b:υ}{o:HO},H b<*o->∀{a:υ},H a=ε->b≠a:=λ{b o}e{a}n=>e_ e n;let S:H t=ε:=by rw[a_ c]at D;show D
  let R:H i=ε:=by rw[a_ u,a_ (Ne.MQ j),a_ u]at d;show d
  let O:H y=ε:=by rw[a_ B,a_ (Ne.MQ F),a_ B,a_ (Ne.MQ ty),a_ B]at r;show r
  let fm:H m=ε:=by rw[a_ C,a_ (Ne.MQ I),a_ C,a_ (Ne.MQ J),a_ C,a_ (Ne.MQ M),a_ C]at k;show k
  refine q t i y m _ j ty M F J I S R O fm (λb o U e=>?_) ⟨(dx,j_)⟩ ?_ ?_ ?_ ?_
  .rw [<-e];show(N b U (g e fm) (g e O) (g e R) (g e S)).MQ
  .rw [a_ c,a_ M,a_ c,a_ ty,a_ c,a_ j,a_ c,j_]
  .rw [a_ u,a_ J,a_ u,a_ F,a_ u,j_,<-dD]
  .rw [a_ B,a_ I,a_ B,j_]
  .rw [a_ C,j_]
def b_R:vw [Q3,"start",Z0,Q7,"most",Q8,Q4,Z4,"goals","row","letter","goal"] [Q3,"start",Z0,Q7,"most"] (h_ Bt):=Aa
def ID{P:NE}{w:N1}{K:Nn}{mg:NB->ω θ}{ς:NR}{X fI f fg fm:υ}(F:j7 K "walked" "walked" Bt f fd)(N:Gy K mg X fI fdI)(ap:mg "len"=ε)(cB:mg "zip"=ε)(Fg:aa P w K mg ς pu 4 fg fdg [gx] (Hk Y L g U aH))(Fm:aa P w K mg ς pu 4 fm ek [mx] (Hl Y mk U aH))(dp:ς.ψ fg<*og)(dn:∃b3,og.NL=.Qb b3)(dm:ς.ψ fm<*om)(dk:∃b3,om.NL=.Qb b3)(bg:Ao K fdg [gx] [])(bm:Ao K ek [mx] [])(bk:∀H H':Hp,a' H H'->aH H->aH H'):aa P w K mg ς pu 5 f fd [Q3,"start",Z0,Q7,"most"] (Hm X Y L g mk U aH fg fm):=by
 let⟨oc,od,ez,sl⟩:=og;let⟨b3,ζ⟩:=dn;let⟨eu,et,ep,es⟩:=om;let⟨eo,ζ⟩:=dk;refine F.ok b_R (λvs H Q E h=>?_) (λQm A Fr s H vs Q E hr h=>?_)
 .obtain ⟨s,sv,I,ζ,_⟩:=h;rfl
 .obtain ⟨s0,sv,I,ζ,hL,hsv,hsU,d6,hU,hR0,q⟩:=h;let dz:=hr.Pk (j:=2) (!0);refine(_,(m_ (va 5 b_R.nd (FD N.mkW (rc N) dz ζ N.kW (N.ini.WC (ps:=["self",Q3,"start"]) (λ_ _ _ _ _ _ us hl=>by let⟨_,_,_,ζ⟩:=Jt hl;rfl)) .Ow CV (q_ (pv 0) (pv 1)))) (FJ (va 6 b_R.nd (um hr.Pa (pv 1) b')) (m_ (cF O0.PU (A1 jc (Ds Hb (!4) ap T_ (o_ (AD (f:=Z1) (pv 5) ζ))) (Ds Hb (!4) ap T_ (o_ (AD (f:=Q5) (pv 5) ζ))) (A' _)) (FJ (u_ ((G7 (A1 gK (pv 4) GA (A' _)) (HK (A1 Be (Ds Hb (!4) ap T_ (o_ (AD (f:=Q5) (pv 5) ζ))) (pv 4) (A' _)))).pt) (k_ (iZ)) (wh)) (m_ (va 7 b_R.nd (Ds Hb (!4) ap T_ (o_ (AD (f:=Z1) (pv 5) ζ)))) (m_ (va 8 b_R.nd (Ia Fg hr dp bg (pv 2) (o_ (AB (AD (f:=Q5) (pv 5) ζ) (pv 7))))) (m_ (va 9 b_R.nd (AA Dh)) (m_ (De O0.PU ζ (mX ζ cB (q_ (pv 0) (pv 8))) (gE ζ (Gg (CB 10 b_R.nd) (Gg (CB 11 b_R.nd) bK))) (FJ (u_ (A1 (oQ hr.Pa) (pv 11) (pv 6) (by with_unfolding_all rfl)) (m_ (EL (Ds Hb (!4) ap T_ (o_ (AD (f:=Q5) (pv 5) ζ))) (EK (pv 6) (pv 11) (oB hr.Pa))) (m_ (BB (Dl (AD (f:=Q5) (pv 5) ζ) (pv 11))) (k_ (BB (Dl (AD (f:=Q6) (pv 5) ζ) (Af DN (AB (AD (f:=Q6) (pv 5) ζ) (pv 7)) (pv 10))))))) (wh)) (k_ (BB (Dl (pv 9) (rz (rR hr.Pa) (pv 6) (pv 11) (λ_ _=>rfl))))))) (m_ (BB (Dl (AD (f:=Z1) (pv 5) ζ) (pv 9))) (k_ (BB (Dl (AD (f:=Z2) (pv 5) ζ) (Ia Fm hr dm bm (pv 3) (o_ (AB (AD (f:=Q5) (pv 5) ζ) (pv 7)))))))))))))) (k_ (o9 (pv 5)))))),3);let tn:∀{b:υ}{o:HO},H b<*o->∀{c:υ},H c=ε->b≠c:=λ{b o}e{c}n=>e_ e n;refine(6,λD dx cl c5 ey=>(D,dx,L,sv,1,j_,λt wd y md H1 a1 a2 a3 a4 a5 a6 ft fw fy ej kp hW ht cK hy cV=>(1,3)));let fr:∀{b:υ},MT (MT H dx (.Xk D)) D (.Uq X dx []) b=ε->H b=ε:=λ{b}e=>by
   by_cases h1:b=D
   .rw [h1];show cl
   .rw [a_ h1]at e;by_cases h2:b=dx
    .rw [h2];show c5
    .rw [a_ h2]at e;show e
  let s1:a' H H1:=λb o e=>kp b o (tn e cl) (by rw[a_ (tn e cl),a_ (tn e c5)];show e);let ab:Av Y H1 s0 sv:=hsv.OR λb xs e=>s1 _ _ e;let aA:∀(d:υ)(H2:Hp),H1 d=ε->Aq P w H2 d Y [s0]->(∀b o,H1 b<*o->H2 b<*o)->WI P w H H2 X Y L D t wd y md d [s0] [sv] [[]] [] [] []:=λd H2 hd dy s2=>by
   let ne:∀{b:υ}{o:HO},H1 b<*o->d≠b:=λ{b o}e z=>by rw[<-z,hd]at e;cases e
   let⟨J,ew⟩:=hW.ex;show(s1.ν s2,(J,s2 _ _ ew),s2 _ _ ht,(rfl,λi k v h1 h2=>by
    match i,h1,h2 with
    |0,h1,h2=>cases h1;cases h2;show ab.OR λb xs e=>s2 _ _ e
    | i+1,h1,_=>simp at h1),s2 _ _ cK,s2 _ _ hy,(1,λi a r h1=>by simp at h1),s2 _ _ cV,dy,fr ft,fr fw,fr fy,fr ej,GL s1 hd,a1,a2,a3,a4,a5,a6,ne ht,ne cK,ne hy,ne cV,ne ew,λa ha=>by simp at ha)
  refine⟨λbP H'=>∃d,bP=[δ (.NA (tx L)),δ sv,δ (.ο fg),δ (.ο fm),δ (c6 I),δ (.ο D),δ (.ο d),ε,ε,ε,ε,ε]/\WI P w H H' X Y L D t wd y md d [s0] [sv] [[]] [] [] [],?_,?_⟩
  .refine (Y,λd hd=>(0,j_,3));let up:∀{ob cC:HO}(b:υ)(o:HO),H1 b<*o->MT (MT H1 d ob) d cC b<*o:=λ{ob cC}b o e=>by
    rw[HI];show Ai e hd
   by_cases b0:Y=.i
   .rw [b0]at ab aA⊢;unfold Av at ab;rw[Id ζ]at ab;let⟨n,ζ,ζ⟩:=ab;refine .NJ (1,0,d,1,aA d _ hd ?_ up);unfold Aq;rw[Id ζ];show(j_,λt ht=>(n,Ay ht))
   .let hsv2:=ab;unfold Av at hsv2;rw[BT b0]at hsv2;let⟨b,ζ,hb⟩:=hsv2;let hT:∀{ob:HO},(dK P w Y).Vz (MT H1 d ob) (zs s0) b:=λ{ob}=>(hb.OR λb xs e=>Ai e hd).Vz;refine .NU (b0,b,zs s0,1,hT,d,1,aA d _ hd ?_ up);unfold Aq;rw[BT b0];refine(_,j_,λx hx=>?_,1,λi k x h1 h2=>?_)
    .rw [Ay hx,HI];show hT
    .match i,h1,h2 with
     |0,h1,h2=>cases h1;cases h2;show(1,1)
     |i+1,h1,_=>simp at h1
  rintro er H2⟨d,ζ,ee⟩;let da:∀{H':Hp}{ks:LL}{T:γ V}{ws:LL}{C:γ υ}{R:LL}{B:γ MZ},WI P w H H' X Y L D t wd y md d ks T ws C R B->C4 g L s0 mk U ks ws R B 0->(R.β=ks.β\/∃n,I=δ n/\n<ks.β)->Q (.ο D) H':=λO hP he=>
   q D t wd y md _ _ _ _ _ _ _ O.sm O.Uf O.ht O.th O.hw O.hy O.wr O.hm hP.bf hP.ways hP.bl hP.mks hP.Rr (IO (Φ.XY _ _) hP.left) he
  refine⟨λn bP H'=>∃ks T ws C R B s7 s8 s9 aN aM,n=U.β-γ.β R/\bP=[δ (.NA (tx L)),δ sv,δ (.ο fg),δ (.ο fm),δ (c6 I),δ (.ο D),δ (.ο d),s7,s8,s9,aN,aM]/\WI P w H H' X Y L D t wd y md d ks T ws C R B/\C4 g L s0 mk U ks ws R B 0,(_,[s0],[sv],[[]],[],[],[],ε,ε,ε,ε,ε,5,ee,C4.SQ hsU),?_⟩;rintro n bP H3⟨ks,T,ws,C,R,B,s7,s8,s9,aN,aM,ζ,ζ,O,hP⟩;let⟨J,ew⟩:=O.Uf.ex;let cs:(C.NN V.ο).β=R.β:=by rw[ol,O.wr.1]
  let bV:T.β=ks.β:=O.th.1;let en:ks.β≤U.β:=IO (Φ.XY _ _) hP.left;refine(0,D,X,J,4,ew,N.OO,N.na4,1,y,0,.NJ (o5.of O.hy),0,D,X,J,4,ew,N.OO,N.na2,1,t,0,.NJ (o5.of O.ht),_,2,aQ (λag=>?_) (λag=>?_));case _=>
   rw[cs,bV]at ag;let ag:R.β<ks.β:=MN.YO.mp ag;refine⟨λaT H4=>∃ks T ws C R' B s7 s8 s9 aN aM,R'.β=R.β+1/\aT=[δ (.NA (tx L)),δ sv,δ (.ο fg),δ (.ο fm),δ (c6 I),δ (.ο D),δ (.ο d),s7,s8,s9,aN,aM]/\WI P w H H4 X Y L D t wd y md d ks T ws C R' B/\C4 g L s0 mk U ks ws R' B 0,?_,?_⟩
   .rintro aT H4⟨m,l,XT,ch,R',B',u7,u8,u9,u10,u11,hR',ds,hI',hP'⟩;show(U.β-R'.β,by rw[hR'];lia,m,l,XT,ch,R',B',u7,u8,u9,u10,u11,1,ds,hI',hP')
   obtain⟨k0,cv⟩:∃k0,ks[R.β]?<*k0:=(ks[R.β],n_ ag);obtain⟨v0,cN⟩:∃v0,T[R.β]?<*v0:=(T[R.β]'(by rw[bV];show ag),n_ _);obtain⟨a0,ed⟩:∃a0,ws[R.β]?<*a0:=(ws[R.β]'(by rw[<-hP.bf.PQ];show ag),n_ _);let a9:k0∈U:=hP.Rr k0 (AC cv);refine(λaT H4=>aT=[δ (.NA (tx L)),δ sv,δ (.ο fg),δ (.ο fm),δ (c6 I),δ (.ο D),δ (.ο d),s7,s8,s9,aN,aM]/\H4=H3,3,3)
   .cases I with
    |ε=>show(2,D9 ζ (aj (1,1)))
    |δ M=>
     refine(2,zc (0,D,X,J,4,ew,N.OO,N.na2,1,t,0,.NJ (o5.of O.ht),0,_,2,3));rw[bV];show aQ (λd0=>(0,da O hP (.NU (M,1,MN.YO.mp d0)))) (λ_=>(1,1))
   rintro aT H4⟨rfl,ζ⟩;refine(0,D,X,J,4,ew,N.OO,N.na4,1,y,0,.NJ (o5.of O.hy),3);rw[cs];let eb:AN T ((R.β:Φ):MN)<*v0:=AG cN;refine(1,0,D,X,J,4,ew,N.OO,N.na2,1,0,AJ O.ht eb (k0,v0,1,O.th.2 _ _ _ cv cN,a9,bk _ _ O.sm hR0,λgs xs H5 s5 c4 cI dt=>?_));let az:=O.Ql s5;let bi:H5 gs<*.No xs\/H5 gs<*.M7 xs:=c4.Wi id λz=>z.2;let bs:∀{b:υ}{o:HO},H4 b<*o->(∀zs,o≠.No zs)->gs≠b:=λ{b o}e ho z=>by
    rcases c4 with h1|⟨h1,_⟩
    .rw [z,s5 _ _ e]at h1;cases h1;show ho _ ζ
    .rw [z,e]at h1;cases h1
   obtain⟨eq,cH⟩:∃φ,H4 d<*.ext φ:=by
    let W:=O.rm;unfold Aq at W;by_cases c:Y=.i
    .rw [Id c]at W;show(_,W.1)
    .rw [BT c]at W;let⟨NS,e,_⟩:=W;show(_,e)
   let g1:gs≠t:=bs O.ht (by intro zs z;cases z);let g2:gs≠wd:=bs O.hw (by intro zs z;cases z);let g3:gs≠y:=bs O.hy (by intro zs z;cases z);let g4:gs≠md:=bs O.hm (by intro zs z;cases z);let g5:gs≠d:=bs cH (by intro zs z;cases z);refine(Nf _,λrw S=>?_);let r1:rw≠t:=Ne.MQ (e_ az.ht S);let r2:rw≠wd:=Ne.MQ (e_ az.hw S);let r3:rw≠y:=Ne.MQ (e_ az.hy S);let r4:rw≠md:=Ne.MQ (e_ az.hm S);let r5:rw≠d:=Ne.MQ (e_ (s5 _ _ cH) S);let r6:rw∉C:=λhm=>by
    let⟨i,hi⟩:=NO.mp hm;let dV:i<R.β:=by rw[<-az.wr.1];show(q5 hi).1
    rw[az.wr.2 i rw _ hi (n_ dV)]at S;cases S
   let rg:gs≠rw:=λz=>by
    rw[<-z]at S;rcases bi with h1|h1<;>rw[S]at h1<;>cases h1
   let r0:H rw=ε:=GL az.sm S;let ei:=az.Ql (a'.MT (o:=.M7 []) S);let c3:MT H5 rw (.M7 []) gs<*.No xs\/MT H5 rw (.M7 []) gs<*.M7 xs:=by rw[a_ rg];show bi
   refine(6,4,tN c3 λd2 d5 tk=>?_);let a7:((tx L).Tc.NF.NN λc=>V.NA ⟨#[c]⟩).β=xs.β:=by rw[ol,Fs,cI]
   refine su (xs:=(tx L).Tc.NF.NN λc=>V.NA ⟨#[c]⟩) (ys:=xs) a7 (λq bM H6=>E6 λm l XT r bU bS=>A9 (bM=[δ (.NA (tx L)),δ sv,δ (.ο fg),δ (.ο fm),δ (c6 I),δ (.ο D),δ (.ο d),δ (.MS ((R.β:Φ):MN)),δ (.ο gs),δ (.ο rw),bU,bS]) (WI P w H H6 X Y L D t wd y md d m l XT C R B) (C4 g L s0 mk U m XT R B q) (EA g m R.β r q) (H6 rw<*.M7 (c_ r)) (H6 gs=H5 gs) (∀(j:Φ)(x:V),xs[j]?<*x->Av Y H6 (g k0 j) x) (m[R.β]?<*k0) (XT[R.β]?<*a0)) ?_ ?_ ?_ ?_
   .exact (ks,T,ws,[],aN,aM,1,ei,hP,EA.Ow,j_,a_ rg,λj x hx=>(dt j x hx).OR λb zs e=>Ai e S,cv,ed)
   .rintro q bM H6⟨m,l,XT,r,bU,bS,ζ,hI',hP',aS,hrw',hgk,b1,hk',as⟩;show(1,d5 H6 (by rw[hgk,a_ rg]))
   .rintro q cx gx' p bM H6 hc hg hp⟨m,l,XT,r,bU,bS,ζ,hI',hP',aS,hrw',hgk,b1,hk',as⟩;rw[Fs,tS]at hc;cases hcq:L[q]? with
    |ε=>rw[hcq]at hc;cases hc
    |δ c=>
    rw[hcq]at hc;cases hc;let b2:q<L.β:=(q5 hcq).1;let ea:L.ML q 0=c:=by rw[u6,hcq];rfl
    let d3:g k0 q∈U:=d6 k0 a9 q b2;let u:=hI'.Ql (a'.MT (o:=.No [.NA ⟨#[c]⟩,gx']) hp);let cO:Av Y H6 (g k0 q) gx':=b1 q gx' hg;let aB:Av Y (MT H6 p (.No [.NA ⟨#[c]⟩,gx'])) (g k0 q) gx':=cO.OR λb zs e=>Ai e hp;let cp:MT H6 p (.No [.NA ⟨#[c]⟩,gx']) rw<*.M7 (c_ r):=Ai hrw' hp;let bd:MT H6 p (.No [.NA ⟨#[c]⟩,gx']) gs=H5 gs:=by
     have:gs≠p:=λz=>by
      rw[<-z,hgk]at hp;rcases bi with h1|h1<;>rw[hp]at h1<;>cases h1
     rw[a_ this];show hgk
    let a8:∀(j:Φ)(x:V),xs[j]?<*x->Av Y (MT H6 p (.No [.NA ⟨#[c]⟩,gx'])) (g k0 j) x:=λj x hx=>(b1 j x hx).OR λb zs e=>Ai e hp;let cU:MT H6 p (.No [.NA ⟨#[c]⟩,gx']) p<*.No [.NA ⟨#[c]⟩,gx']:=j_;generalize MT H6 p (.No [.NA ⟨#[c]⟩,gx'])=H7 at u aB cp bd a8 cU;let ct:m.β≤U.β:=IO (Φ.XY _ _) hP'.left;let an:m.β≤100000:=IO ct hU;let b4:l.β=m.β:=u.th.1;refine(p,0,u0.of cU,1,4,8,3);refine⟨λcA H8=>∃ar aV aU,cA=[δ (.NA (tx L)),δ sv,δ (.ο fg),δ (.ο fm),δ (c6 I),δ (.ο D),δ (.ο d),δ (.MS ((R.β:Φ):MN)),δ (.ο gs),δ (.ο rw),δ (.NA ⟨#[c]⟩),δ gx']/\WI P w H H8 X Y L D t wd y md d ar aV aU C R B/\C4 g L s0 mk U ar aU R B (q+1)/\EA g ar R.β r q/\
     H8 rw=δ (.M7 (c_ r))/\H8 gs=H5 gs/\(∀(j:Φ)(x:V),xs[j]?<*x->Av Y H8 (g k0 j) x)/\ar[R.β]?=δ k0/\aU[R.β]?=δ a0/\g k0 q∈ar,?_,?_⟩
    .refine (6,d,0,u.rm.VI aB,0,3);by_cases hm:g k0 q∈m
     .rw [(lK hm).1];show aj (m,l,XT,1,u,hP'.old hL.nd hk' as b2 hm,aS,cp,bd,a8,hk',as,hm)
     .rw [show Eg m (g k0 q)=ε from BT hm];let⟨ob,cd,cS⟩:=u.rm.put aB hm (Hn an);let⟨J,cw⟩:=u.Uf.ex;let bD:MT H7 d ob D=_:=(a_ (Ne.MQ u.e5)).ν cw;let cP:MT H7 d ob t=_:=(a_ (Ne.MQ u.e1)).ν u.ht;let dv:MT H7 d ob wd=_:=(a_ (Ne.MQ u.e2)).ν u.hw;let de:D≠t:=qN cw u.ht (!5);let dc:MT (MT H7 d ob) t (.M7 (l++[gx'])) D=_:=(a_ de).ν bD;let co:MT (MT H7 d ob) t (.M7 (l++[gx'])) wd=_:=(a_ (Ne.MQ u.d1)).ν dv;let c8:AN (DY XT) ((R.β:Φ):MN)<*.NA (tx a0):=AG (by rw[DY,tS,as];rfl);let ev:a0.β≤100000:=IO (hP'.wl a0 (AC as)) an;rw[<-b4]at cd;refine aw (0,D,X,J,4,cw,N.OO,N.na2,1,t,0,.NJ (o5.of u.ht),6,d,0,cd,3);refine(0,D,X,J,4,bD,N.OO,N.na2,1,.NJ (1,_,o5.of cP),0,t,8,cP,Hn (by rw[b4];show an),3);refine(0,D,X,J,4,dc,N.OO,N.na3,1,.NJ (1,_,o5.of co),0,D,X,J,4,dc,N.OO,N.na3,1,0,AJ co c8 (0,8,3,wd,8,co,Hn (by rw[DY,ol,<-hP'.bf.PQ];show an),3))
      .change (tx a0).β+1≤Λ;rw[oh];show sT (!6)
      let c7:tx a0++(⟨#[c]⟩:NB)=tx (a0++[c]):=by rw[<-Ct];rfl
      let cg:=u.X0 (a:=a0++[c]) aB cS;let cf:=hP'.X0 hL.nd hk' as b2 hm d3;rw[ea]at cf;let kt:∀b zs,H7 b<*.No zs->MT (MT (MT H7 d ob) t (.M7 (l++[gx']))) wd (.M7 (DY XT++[.NA (tx (a0++[c]))])) b<*.No zs:=λb zs e=>by
       obtain⟨φ,cD⟩:∃φ,H7 d<*.ext φ:=by
        let W:=u.rm;unfold Aq at W;by_cases c:Y=.i
        .rw [Id c]at W;show(_,W.1)
        .rw [BT c]at W;let⟨NS,e,_⟩:=W;show(_,e)
       rw[a_ (qN e u.hw (!5)),a_ (qN e u.ht (!5)),a_ (qN e cD (!5))];show e
      refine(m++[g k0 q],l++[gx'],XT++[a0++[c]],1,3,cf,aS.grow (q5 hk').1,3,3,λj x hx=>?_,bY hk',bY as,!1)
      .rw [<-c7]at cg;show cg
      .rw [a_ r2,a_ r1,a_ r5];show cp
      .rw [a_ g2,a_ g1,a_ g5];show bd
      .refine (a8 j x hx).OR λb zs e=>?_;have:=kt b zs e;rw[<-c7]at this;show this
    rintro cA H8⟨ar,aV,aU,ζ,Z,eg,b6,aC,d4,b5,c2,ec,cX⟩;let ce:=Z.rm.VI (b5 q gx' hg);rw[(lK cX).1]at ce;let dT:r.β≤100:=by rw[b6.1];show IO (Pq b2) (IO hL.hi (!0))
    refine(0,.NJ (1,_,o5.of aC),6,d,0,ce,rw,8,aC,Hn (by rw[f_];show IO dT (!0)),3);refine(ar,aV,aU,r++[ar.M3 (g k0 q)],4,Z.beside aC r0 r1 r2 r3 r4 r5 r6,eg,b6.snoc c2 cX,3,3,λj x hx=>?_,c2,ec)
    .rw [j_,Ji]
    .rw [a_ rg];show d4
    .exact (b5 j x hx).OR λb zs e=>by rw[a_ (qN e aC (!5))];show e
   .rintro bM H6⟨m,l,XT,r,bU,bS,ζ,hI',hP',aS,hrw',hgk,b1,hk',as⟩;rw[a7,cI]at hP' aS;let⟨J,el⟩:=hI'.Uf.ex;let ct:m.β≤100000:=IO (IO (Φ.XY _ _) hP'.left) hU;let bo:R.β≤100000:=IO hP'.le ct;let Z:=hI'.Vx hrw' r1 r2 r3 r4 r5;let⟨dd,bD⟩:=Z.Uf.ex;obtain⟨v1,cM⟩:∃v1,l[R.β]?<*v1:=(l[R.β]'(by rw[hI'.th.1];show(q5 hk').1),n_ _);refine(0,D,X,J,4,el,N.OO,N.na4,1,.NJ (1,_,o5.of hI'.hy),0,y,8,hI'.hy,Hn (by rw[ol,hI'.wr.1];show bo),3);refine(0,D,X,dd,4,bD,N.OO,N.na5,1,.NJ (1,_,o5.of Z.hm),1,0,D,X,dd,4,bD,N.OO,N.na2,1,0,AJ Z.ht (AG cM) (k0,v1,1,Z.th.2 _ _ _ hk' cM,a9,bk _ _ Z.sm hR0,λH9 s9=>(md,8,(Z.Ql s9).hm,Hn (by rw[ol,hP'.bl];show bo),3)));show(m,l,XT,C++[rw],R++[r],B++[mk k0],7,7,_,by rw[w_];rfl,1,(Z.Ql s9).Zb,hP'.next hk' aS)
  case _=>
   rw[cs,bV]at ag;show(0,da O hP (.NJ (Rh hP.le (OS λz=>ag (MN.YO.Ot z)))))
inductive IE(cTM:Addr)(vs:List V)(H:Hp)(Q:VK)(_E:XK):Prop
 |mk (e wl tl:Addr) (part:V) (xs ys:List V) (_:vs=[.ref e,.ref wl,.ref tl,part]) (_:H e<*t_ e cTM none) (_:H wl<*.lst xs) (_:H tl<*.lst ys) (_:∀(H':Hp)(d l l2:Addr),(∀b o,b≠e->H b<*o->H' b<*o)->H' e<*t_ e cTM (some d)->d≠e->l≠e->l2≠e->H' d<*Bb d [(Q6,.ref l,),("tails",.ref l2,),("part",part,)]->H' l<*.lst xs->H' l2<*.lst ys->Q .non H')
instance oJ:Nu:=Qo 4
instance Gz:Nu:=Cs oJ 0
structure G0(K:Frag)(mg:Str->Option Value)(cTM cRE fX:Addr)(fdX:FuncData):Prop where
 kT:mg "TooMany"<*.ref cTM
 kR:mg "RoomError"<*.ref cRE
 own:BW K cTM fX
 xc:j0 K cTM
 na1:Ah K cTM Q6
 na2:Ah K cTM "tails"
 na3:Ah K cTM "part"
 bi:tL K cRE
 fn:isFn K (.ref fX)=true
 exm:exmOne K (.ref cTM) (.ref cTM)<*true
 ec:GJ K cTM
 exr:exmOne K (.ref cTM) (.ref cRE)<*true
 ini:vh K "__init__" "TooMany.__init__" Gz fX fdX
def eG:vw ["self",Q6,"tails","part"] ["self",Q6,"tails","part"] (h_ Gz):=Aa
def dg:∀vs H Q E,IE XH vs H Q E->vs.β=(["self",Q6,"tails","part"]:γ NB).β:=λvs H Q E h=>by
 let⟨e,a,b,part,xs,ys,ζ,_⟩:=h;rfl
def jX{P:NE}{w:N1}(j:G0 K mg XH cRE J fdX)(g:mg "list"=ε)(Qm:θ)(A:N2)(Fr:γ WH)(s:MJ)(O:Hp)(E:XK)(R:N2)(c:MZ)(h:IE XH vs H Q S):∃t,BA {aG pu P w K mg ς ["self",Q6,"tails","part"] "TooMany.__init__" (h_ Gz) J Qm A Fr s O E with A:=R,T9:=c,xe:=λ_ _=>NX} (p_ Gz) t/\t {nx:=λ_ H'=>Q .Rv H',rt:=Q} (SQ ["self",Q6,"tails","part"] vs) H:=by
  let⟨e,M,F,part,xs,ys,ζ,v,hw,B,q⟩:=h;refine(_,(m_ (BB (qS j.bi j.kR (q_ (pv 0) n'))) (m_ (gy (f:=Q6) ζ (pv 0) (Ev Lk (!4) g Vr (o_ (pv 1))) ζ) (m_ (gy (f:="tails") ζ (pv 0) (Ev Lk (!4) g Vr (o_ (pv 2))) ζ) (k_ (gy (f:="part") ζ (pv 0) (pv 3) ζ))))),3);refine(0,e,XH,J,0,v,j.Xk,3);refine(0,M,xs,1,.NJ (o5.of hw),λl p=>(0,e,XH,1,j.xc,j.na1,.NJ (Ai v p,λd k i=>?_)));let I:l≠e:=λz=>by rw[z,v]at p;cases p
  let r:H d=ε:=by
   by_cases z:d=l
   .rw [z];show p
   .rw [a_ z]at k;show k
  let k1:∀b o,b≠e->H b<*o->L2.MT (L2.MT (L2.MT H l (.M7 xs)) e (t_ e XH (δ d))) d (Bb d [(Q6,.ο l,)]) b<*o:=λb o x z=>by
   rw[a_ (e_ z r),a_ x,a_ (e_ z p)];show z
  let u:L2.MT (L2.MT (L2.MT H l (.M7 xs)) e (t_ e XH (δ d))) d (Bb d [(Q6,.ο l,)]) e<*t_ e XH (δ d):=by rw[a_ (Ne.MQ i),j_]
  let d1:L2.MT (L2.MT (L2.MT H l (.M7 xs)) e (t_ e XH (δ d))) d (Bb d [(Q6,.ο l,)]) d<*Bb d [(Q6,.ο l,)]:=j_;let L:L2.MT (L2.MT (L2.MT H l (.M7 xs)) e (t_ e XH (δ d))) d (Bb d [(Q6,.ο l,)]) l<*.M7 xs:=by rw[a_ (λz=>by rw[<-z,j_]at k;cases k),a_ I,j_]
  let D:F≠e:=λz=>by rw[z,v]at B;cases B
  generalize L2.MT (L2.MT (L2.MT H l (.M7 xs)) e (t_ e XH (δ d))) d (Bb d [(Q6,.ο l,)])=N at k1 u d1 L;refine(0,F,ys,1,.NJ (o5.of (k1 _ _ D B)),λl2 a=>(0,e,XH,1,j.xc,j.na2,.NU (d,_,Ai u a,Ai d1 a,by change 1<1000;decide,3)));refine(6,e,XH,1,j.xc,j.na3,.NU (d,_,by rw[a_ (Ne.MQ i)];show Ai u a,j_,by change 2<1000;decide,3));let n:l≠d:=λz=>by rw[<-z]at k;rw[j_]at k;cases k
  let C:N l<*.M7 xs:=L;let m:l2≠d:=λz=>by rw[z,d1]at a;cases a
  let y:l2≠e:=λz=>by rw[z,u]at a;cases a
  refine q _ d l l2 (λb o x z=>?_) ?_ i I y j_ ?_ ?_
  .let h1:b≠d:=e_ z r;let h2:b≠l2:=e_ (k1 b o x z) a;rw[a_ h1,a_ h1,a_ h2];show k1 b o x z
  .rw [a_ (Ne.MQ i),a_ (Ne.MQ i)];show Ai u a
  .rw [a_ n,a_ n];show Ai C a
  .rw [a_ m,a_ m,j_]
def oV(b:G0 K mg XH cRE c fdX)(a:mg "list"=ε):aa P w K mg ς pu 1 c fdX ["self",Q6,"tails","part"] (IE XH):=b.ini.ok eG dg λQm A Fr s H vs Q E d h=>jX b a Qm A Fr s H E _ _ h
def lj(b:G0 K mg XH cRE c fdX)(a:mg "list"=ε):Ju P w K mg ς c fdX ["self",Q6,"tails","part"] (IE XH):=b.ini.okH eG dg λQm A Fr s H vs Q E v h=>jX b a Qm A Fr s H E _ _ h
instance En:Nu:=(p_ Em).ML 0 (.V5 ((0),(0),(0),(0)))
instance Eo:Nu:=(p_ Em).ML 1 (.V5 ((0),(0),(0),(0)))
instance q_g:NB:="walked_machine.<locals>.goals_of"
instance q_m:NB:="walked_machine.<locals>.is_marked"
abbrev bj(s:Nu):Sh:=match s with
 |.Vl _ _ _ _ _ _ _ _ _ p=>p
 |_=>((0),(0),(0),(0))
abbrev ON:γ (Sh×NB):=[(bj En,q_g,),(bj Eo,q_m,)]
def zV:C0 [Z4,Q0] [Z4] [Q0] (h_ En):=(5,1,!3,5,!0,!3,!3)
def zU:C0 [Z4,Q0] [Z4] [Q0] (h_ Eo):=(5,1,!3,5,!0,!3,!3)
section
variable{P:Program}{w:World}{K:Frag}{mg:Str->Option Value}{base:Heap}{f c m:Addr}{clos:List (Str×Addr)}{doc pm ctv:Value}{L:LN}{W:LL}{B:List Bool}
def Ks(y:ς.ψ f<*R0 Z0 q_g (t5 En) (p_ En) (h_ En) OW Pm pm c Xc)(r:ς.N_ (.ο c) q_g)(C:A2 ς OW (h_ En) [Q0] [.ο m])(t:g_ L W B):aa P w K mg ς pu 1 f (Δ.W.fnX Z0 q_g (t5 En) (p_ En) (h_ En) OW .ε .ε Pm pm ε (.ο c) Xc) [Z4] (Hk .i L (gW W) (uW W) λH=>DE H m L W B):=by
 refine Gq (UY:=[.ο m]) y ζ r zV C (λvs H Q E h=>?_) (λA Fr s H vs Q E T h=>?_)
 .obtain ⟨k,v,ζ,_⟩:=h;rfl
 .obtain ⟨k,v,ζ,o,F,I,q⟩:=h;refine(_,(k_ (o9 (GR (Ae 1) (pv 0)))),3);let⟨n,ζ,D⟩:=kg F;unfold Av at o;rw[Id ζ]at o;let⟨S,e,ζ⟩:=o;injection e with e;subst e;let⟨R,mk,a,h1,h2,U,M,J⟩:=I;obtain⟨g,d⟩:∃g,a[n]?<*g:=(a[n]'(by rw[M];show D),n_ _);let⟨ws,u,O⟩:=J _ _ d;let l:=t.Vx ws (AC u);refine(z8 h1 aJ (0,Fc h2 (Ea V.ο d) ?_));refine q g (c_ ws) H (a'.Tn H) (.NJ O) (by rw[f_];show l.1) λj x b=>?_;unfold Av;rw[Id ζ];rw[c_,tS]at b;cases p:ws[j]? with
  |ε=>rw[p]at b;cases b
  |δ z=>
   rw[p]at b;cases b;refine(z,3,1);show[(W.ML n []).ML j 0]=[z];let N:W.ML n []=ws:=by
    rw[u6,u];rfl
   rw[N,u6,p];rfl
def Kt(j:ς.ψ f<*R0 Q7 q_m (t5 Eo) (p_ Eo) (h_ Eo) OW Pm pm c Xc)(b:ς.N_ (.ο c) q_m)(C:A2 ς OW (h_ Eo) [Q0] [.ο m])(d:g_ L W B):aa P w K mg ς pu 1 f (Δ.W.fnX Q7 q_m (t5 Eo) (p_ Eo) (h_ Eo) OW .ε .ε Pm pm ε (.ο c) Xc) [Z4] (Hl .i (mkW B) (uW W) λH=>DE H m L W B):=by
 refine Gq (UY:=[.ο m]) j ζ b zU C (λvs H Q E h=>?_) (λA Fr s H vs Q E y h=>?_)
 .obtain ⟨k,v,ζ,_⟩:=h;rfl
 .obtain ⟨k,v,ζ,a,o,p,q⟩:=h;refine(_,(k_ (o9 (rz xw (Ae 1) (pv 0) (λ_ _=>rfl)))),3);let⟨n,ζ,l⟩:=kg o;unfold Av at a;rw[Id ζ]at a;let⟨x,e,ζ⟩:=a;injection e with e;subst e;let⟨u,mk,g,h1,h2,t,D,z⟩:=p;let r:B[n]?<*B.ML n η:=by
   rw[u6,n_ (by rw[d.bl];show l)];rfl
  show(z8 h1 dI (0,mk,_,8,t,Ea V.bl r,q H (a'.Tn H)))
end
def b_E:vw [Q0,Z0,Q7] [Q0] (h_ Em):=Aa
def IG{kV Pm pm Qm ct e:θ}(lD:K.ρ g<*(e,i,.Sz #[.ε] l,h)):Ao K (Px "walked" "walked" (t5 Bt) (p_ Bt) (h_ Bt) (.ο g) kV Pm pm an Qm ct) [Q3,"start",Z0,Q7,"most"] [.ε]:=λs us k j=>by
 let f:us.β=4:=by simpa using j
 let⟨a,b,c,d,ζ⟩:=Kh f;show X9.of_defaults ζ (k _ _ lD) ζ ζ ζ
def ie(Wd:GO X U j H d)(Rr:∀y a,b.ρ y<*a->X.KK.Rm.ρ y<*a)(UU:∀y∈sc.MR,y.2=.N6->∃a,b.ρ y.1<*a)(o:X.N[0]?<*Q0)(e:j[0]?<*δ (.ο m))(n:X.KK.NG.MR.ρ Q0<*.OA)(l:sc.MR.ρ Q0<*.N6)(k:((Q0:NB),QE.N6,)∈sc.MR):A2 d b sc [Q0] [.ο m]:=by
 refine(λy z c h1 h2=>Wd.QK y z c (Rr y c h1) (Rr z c h2),UU,λy c h=>Wd.OA y c (Rr y c h),1,λi y v h1 h2=>?_);match i,h1,h2 with
 |0,h1,h2=>
  cases h1;cases h2;let⟨a,f⟩:=UU _ k ζ;let⟨c,u,r,q,p⟩:=Wd.Zz 0 Q0 (.ο m) o e n;let g:=Rr _ _ f;rw[r]at g;cases g;show(l,_,u,f,q,p)
 |i+1,h1,_=>simp at h1
set_option maxHeartbeats 8000000 in
def q9{P:NE}{w:N1}{oc kV Pm pm ct aA S l O d X a6:θ}(lk:K.ρ f<*(oc,od,.Qb (Px "walked_machine" "walked_machine" (t5 Em) (p_ Em) (h_ Em) .ε kV Pm pm an (.ο c) ct),ce))(bk:PD K (.ο c) "walked_machine"=ξ)(lw:K.ρ fw<*(aA,a5,.Qb (Px "walked" "walked" (t5 Bt) (p_ Bt) (h_ Bt) (.ο tD) S l O an2 d X),osl2))(cw:PD K d "walked"=ξ)(kw:UR K (.ο fw)=ξ)(mw:mg "walked"<*.ο fw)(lD:K.ρ tD<*(a6,cf,.Sz #[.ε] nD,b4))(WT:Gy K mg cW fI fdI)(ap:mg "len"=ε)(ag:mg "zip"=ε)(hC:QI ς c P0)(hB:DB ς mg):aa P w K mg ς pu 6 f (Px "walked_machine" "walked_machine" (t5 Em) (p_ Em) (h_ Em) .ε kV Pm pm an (.ο c) ct) [Q0] (Js cW P0 ON):=by
 refine nE lk bk b_E (λvs H Q E h=>?_) (λA Fr s H vs Q E hr h=>?_)
 .obtain ⟨m,L,W,B,ζ,_⟩:=h;rfl
 .obtain ⟨m,L,W,B,ζ,hM,g,hT,q⟩:=h;refine(_,(m_ (FO (i:=1) (M6:=q_g) (c:=c) (P0:=P0) (ON:=ON) b_E.nd ζ (Or.NJ ζ) ζ hC hB (!3) (!3)) (m_ (FO (i:=2) (M6:=q_m) (c:=c) (P0:=P0) (ON:=ON) b_E.nd ζ (Or.NJ ζ) ζ hC hB (!3) (!3)) (k_ (o9 (Ic (Xb:=[.Rv]) ζ mw kw (IG (kV:=S) (Pm:=l) (pm:=O) (an:=an2) (Qm:=d) (ct:=X) lD) (.NZ ζ .Ow) (Bp (Ae 0) (wm b' (pv 1) (pv 2))) (λ_=>rfl)))))),3);refine(hT,λZ k c1 H1 as aS cp ch s1 aU aM aC=>(aU,λY v D C ar aN co cg s2 bs aH bi=>?_));let az:Cv P0 H C:=Ie s1 s2;let aV:DE C m L W B:=hM.ofT (Ci.ofX az hT);let⟨b5,bM,_⟩:=id aU;let⟨a4,bD,bd,T⟩:=id bs;let nP:∀{b:υ}{φ:NR->Prop},H1 b<*.ext φ->b≠P0:=λ{b φ}e z=>by rw[z,bM]at e;cases e
  let I:C k<*Ak k Z0 q_g (t5 En) (p_ En) (h_ En) Z c1:=s2 k _ (nP aC) aC;let J:C c1<*pd c1 q_g:=s2 c1 _ (nP aM) aM;let F:C v<*Ak v Q7 q_m (t5 Eo) (p_ Eo) (h_ Eo) Y D:=bi;let bP:=aV;let⟨wy,mk,bV,h1,h2,h3,h4,h5⟩:=aV;let aT:∀u∈[k,v,c1,D],∃φ,C u<*.ext φ:=λu hu=>by
   simp only[MP,NV,N7]at hu;rcases hu with ζ|rfl|rfl|rfl
   .exact (_,I)
   .exact (_,F)
   .exact (_,J)
   .exact (_,aH)
  refine(z8 h1 aL (6,[k,v,c1,D],aT,λp Wd=>?_));let⟨b1,cd,b3,a1⟩:=Wd.XD k _ (!1) I;let⟨b0,b6,b2,a0⟩:=Wd.XD v _ (!1) F;let bU:p.N_ (.ο c1) q_g:=Wd.XD c1 _ (!1) J;let bS:p.N_ (.ο D) q_m:=Wd.XD D _ (!1) aH;let C1:=ie (sc:=h_ En) (m:=m) Wd as aS ζ ζ ζ ζ (!3);let C2:=ie (sc:=h_ Eo) (m:=m) Wd ar aN ζ ζ ζ ζ (!3);let Fw:j7 K "walked" "walked" Bt fw _:=((aA,a5,.ο tD,S,l,O,an2,d,X,osl2,1,lw,cw),kw);refine((5),Hm cW .i L (gW W) (mkW B) (uW W) (λH=>DE H m L W B) k v,hr,ID Fw WT ap ag ((Ks a1 bU C1 g).Pk (!0)) ((Kt a0 bS C2 g).Pk (!0)) a1 (_,ζ) a0 (_,ζ) (.QD λus hl=>by let⟨_,ζ⟩:=D6 hl;rfl) (.QD λus hl=>by let⟨_,ζ⟩:=D6 hl;rfl) (λ_ _ s h=>h.OR s),3);let j:∀{b:υ}{o:HO},C b<*o->(∀φ,o≠.ext φ)->b∉[k,v,c1,D]:=λ{b o}e ho M=>by
   let⟨φ,e2⟩:=aT b M;rw[e]at e2;show ho φ (ω.δ.QK e2)
  let cl:=g.n60;refine([0],.MS 0,ε,1,g.lt,3,p8.Ot g.n1,xQ g,by rw[p9];omega,bP.QC (λb xs e=>by rw[BH (j e (λ_ z=>nomatch z))];show e) (λb xs e=>by rw[BH (j e (λ_ z=>nomatch z))];show e),λwk t wd y md ks a2 ws N R Bm H3 a3 hW ht a9 a8 hy aB bg bf ab bl a7 Rr le he bo=>?_)
  .unfold Av;rw[Id ζ];show((0),5)
  let hR:R.β=ks.β:=by
   rcases he with z|⟨n,z,_⟩
   .exact z
   .cases z
  let TL:∀{b:υ}{o:HO},H3 b<*o->UB [k,v,c1,D] C H3 b<*o:=λ{b o}e=>by
   rw[Ef λM=>?_]
   .exact e
   .rw [bo b M]at e;cases e
  let U:∀{b:υ}{o:HO},C b<*o->UB [k,v,c1,D] C H3 b<*o:=λ{b o}e=>by
   by_cases M:b∈[k,v,c1,D]
   .rw [GN M];show e
   .exact TL (a3 b o (by rw[BH M];show e))
  rw[hR]at bf;let⟨dx,ew⟩:=hW.ex;show q wk t wd y md ks a2 ws N R Bm _ (λb o M e=>U (az b o M e)) (a4,U bD,bd,λx hx=>(T x hx).Wi id λbm=>by let⟨c',e1,e2⟩:=bm;show(c',e1,U e2)) (dx,TL ew) (TL ht) (a9.OR λb xs e=>TL e) (TL a8) (TL hy) (aB.1,λi a r e1 e2=>TL (aB.2 i a r e1 e2)) (TL bg) bf ab hR bl a7 Rr (by rw[p9]at le;show le)
instance Ku:Nu:=Qo 12
instance Kv:Nu:=Qo 13
instance Kw:Nu:=Qo 11
instance Kx:Nu:=Qo 14
instance Ky:Nu:=Qo 15
instance cn:Nu:=Qo 16
instance Kz:Nu:=Qo 40
instance kN:Nu:=Qo 39
instance KA:Nu:=Qo 9
instance gw:Nu:=Qo 22
instance KB:Nu:=Qo 24
instance ck:Nu:=Qo 37
instance KC:Nu:=Qo 38
instance KD:Nu:=Qo 25
instance KE:Nu:=Qo 32
instance ci:Nu:=Qo 35
instance KF:Nu:=Qo 44
instance KG:Nu:=Qo 43
instance cm:Nu:=Qo 45
instance KH:Nu:=Qo 42
instance KI:Nu:=Qo 7
instance KJ:Nu:=Qo 8
instance KL:Nu:=Qo 71
instance KM:Nu:=Qo 70
instance KN:Nu:=Qo 69
instance KO:Nu:=Qo 77
instance KP:Nu:=Qo 78
instance cj:Nu:=Qo 76
instance qB:Nu:=Qo 75
instance KQ:Nu:=Qo 74
instance KR:Nu:=Qo 73
instance kO:Nu:=Qo 68
instance KU:Nu:=Qo 80
instance KW:Nu:=Qo 81
instance KY:Nu:=Qo 88
instance KZ:Nu:=Qo 89
instance K3:Nu:=Qo 82
instance K4:Nu:=Qo 83
instance K5:Nu:=Qo 84
instance K6:Nu:=Qo 85
instance K7:Nu:=Qo 86
instance K8:Nu:=Qo 87
instance Bo:Nu:=Qo 90
instance lP:Nu:=Cs (Qo 56) 0
instance lQ:Nu:=Cs (Qo 58) 0
instance dq:Nu:=Cs (Qo 63) 0
instance nu:Nu:=Cs (Qo 54) 0
instance nv:Nu:=Cs (Qo 55) 0
instance fo:Nu:=Cs (Qo 57) 0
instance sj:Nu:=Cs (Qo 56) 1
instance fj:Nu:=Cs (Qo 64) 0
instance jv:Nu:=Cs (Qo 65) 0
instance nw:Nu:=Cs (Qo 66) 0
instance jw:Nu:=Cs (Qo 59) 0
instance sk:Nu:=Cs (Qo 60) 0
instance sq:Nu:=Cs (Qo 61) 0
instance si:Nu:=Cs (Qo 62) 0
instance lR:Nu:=Cs (Qo 72) 0
instance MI:Nu:=Cs (Qo 53) 1
structure Txt(K:Frag)(mg:Str->Option Value)(cA_ cG_ cH_:Addr):Prop where
 kA_:mg "RoomError"<*.ref cA_
 kG_:mg "OtherLetters"<*.ref cG_
 kH_:mg "TooMany"<*.ref cH_
 oG_:Dx K cG_
 eG_:GJ K cG_
 mG_:exmOne K (.ref cG_) (.ref cA_)<*true
 iGG_:kitOne K (.ref cG_) (.ref cG_)<*true
 iGH_:kitOne K (.ref cG_) (.ref cH_)<*false
 vG_:kitOne K (.ref cG_) (.type "ValueError")<*true
 eH_:GJ K cH_
 mH_:exmOne K (.ref cH_) (.ref cA_)<*true
 iHG_:kitOne K (.ref cH_) (.ref cG_)<*false
 iHH_:kitOne K (.ref cH_) (.ref cH_)<*true
 vH_:kitOne K (.ref cH_) (.type "ValueError")<*true
 len:mg "len"=none
 range:mg "range"=none
 isinst:mg "isinstance"=none
 int:mg "int"=none
 bool:mg "bool"=none
 tuple:mg "tuple"=none
 list:mg "list"=none
 str:mg "str"=none
 zip:mg "zip"=none
 enumerate:mg "enumerate"=none
 reversed:mg "reversed"=none
 max:mg "max"=none
 all:mg "all"=none
 any:mg "any"=none
 set:mg "set"=none
 sorted:mg "sorted"=none
 enum:mg "enumerate"=none
 most:∃t,mg "MOST_ROOMS"<*.int 8 t
inductive sp_numbered(vs:List V)(H:Hp)(Q:VK)(_E:XK):Prop
 |mk (a:Addr) (o:HO) (xs:List V) (ks:List KS) (nest:Bool) (_:vs=[.ref a]) (_:(o=.lst xs\/o=.tup xs)) (_:H a<*o) (_:xs.length=ks.length) (_:ks.length≤2100) (_:(∀(i:Nat)(k:KS)(x:V),ks[i]?<*k->xs[i]?<*x->j6 H k x/\Ja k=nest)) (_:∀p H',a' H H'->H' p<*.lst (c_ (ay ks))->Q (.ref p) H')
inductive sp_manyM(vs:List V)(H:Hp)(Q:VK)(_E:XK):Prop
 |mk (a:Addr) (ns:LN) (_:vs=[.ref a]) (_:H a<*.lst (c_ ns)) (_:0<ns.length) (_:∀M∈ns,(∀x∈ns,x≤M)->Q (.int ((M:Int)+1)) H)
inductive sp_roundsG(vs:List V)(H:Hp)(Q:VK)(_E:XK):Prop
 |mk (wy mk:Addr) (rows:List Addr) (o om:HO) (L:LN) (W:LL) (B:List Bool) (most:Nat) (_:vs=[.ref wy,.ref mk,.int (most:Int)]) (_:(o=.lst (rows.map V.ref)\/o=.tup (rows.map V.ref))) (_:H wy<*o) (_:(om=.lst (B.map V.bl)\/om=.tup (B.map V.bl))) (_:H mk<*om) (_:rows.length=W.length) (_:vP H rows W) (_:g_ L W B) (_:∀(p:Addr)(lots:List Addr)(k:Nat)(H':Hp),a' H H'->H' p<*.lst (lots.map V.ref)->lots.length=k+1->GK H' lots W B->(Rd W B (k+1)=Rd W B k\/∃M∈Rd W B k,most<M+1)->k≤4410000->Q (.ref p) H')
inductive sp_firstrooms(vs:List V)(H:Hp)(Q:VK)(_E:XK):Prop
 |mk (a:Addr) (ns:LN) (_:vs=[.ref a]) (_:H a<*.lst (c_ ns)) (_:0<ns.length) (_:ns.length≤2100) (_:(∀x∈ns,x<2100)) (_:(∀(M j:Nat),M∈ns->j≤M->j∈ns)) (_:∀(m:Nat)(p:Addr)(H':Hp),bb ns m->a' H H'->H p=none->H' p<*.lst (c_ ((List.range m).map λj=>ns.idxOf j))->Q (.ref p) H')
inductive sp_pwordL(vs:List V)(H:Hp)(Q:VK)(_E:XK):Prop
 |mk (wy p:Addr) (rows lots:List Addr) (L:LN) (W:LL) (B:List Bool) (k r s:Nat) (_:vs=[.str (tx L),.ref wy,.ref p,.int (r:Int),.int (s:Int)]) (_:H wy<*.lst (rows.map V.ref)) (_:DC H rows W) (_:g_ L W B) (_:H p<*.lst (lots.map V.ref)) (_:lots.length=k+1) (_:GK H lots W B) (_:r_ W B k r≠r_ W B k s) (_:k≤4410000) (_:r<W.length) (_:s<W.length) (_:∀w H',a' H H'->Q (.str (tx w)) H')
structure II(K:Frag)(cW:Addr):Prop where
 cls:Cp K cW
 na1:Ah K cW Q3
 na4:Ah K cW Z1
 na5:Ah K cW Z2
inductive K9(cW:Addr)(vs:List V)(H:Hp)(Q:VK)(_E:XK):Prop
 |mk (wk t wd y md lo:Addr) (rows:List Addr) (L:LN) (R:LL) (Bm:List Bool) (k:Nat) (_:vs=[.ref wk,.ref lo]) (_:Gr H cW wk L t wd y md) (_:H y<*.lst (rows.map V.ref)) (_:DC H rows R) (_:H md<*.lst (Bm.map V.bl)) (_:g_ L R Bm) (_:H lo<*.lst (c_ (Rd R Bm k))) (_:∀(m:Nat)(f:Addr)(H':Hp),bb (Rd R Bm k) m->a' H H'->H f=none->zl H' f L (AM R (Rd R Bm k) m) (Dk Bm (Rd R Bm k) m)->Q (.ref f) H')
inductive iJ(cW:Addr)(vs:List V)(H:Hp)(Q:VK)(_E:XK):Prop
 |mk (wk t wd y md p rm:Addr) (rows lots:List Addr) (L:LN) (R:LL) (Bm:List Bool) (k:Nat) (rs:LN) (_:vs=[.ref wk,.ref p,.ref rm]) (_:Gr H cW wk L t wd y md) (_:H y<*.lst (rows.map V.ref)) (_:DC H rows R) (_:g_ L R Bm) (_:H p<*.lst (lots.map V.ref)) (_:lots.length=k+1) (_:GK H lots R Bm) (_:k≤4410000) (_:H rm<*.lst (c_ rs)) (_:rs.length≤9) (_:(∀r∈rs,r<R.length)) (_:(∀(i j a b:Nat),i<j->rs[i]?<*a->rs[j]?<*b->r_ R Bm k a≠r_ R Bm k b)) (_:∀tl xs H',a' H H'->H' tl<*.lst xs->Q (.ref tl) H')
inductive G1(cW cH_:Addr)(vs:List V)(H:Hp)(Q:VK)(E:XK):Prop
 |mk (wk t wd y md:Addr) (rows:List Addr) (L:LN) (R:LL) (Bm:List Bool) (ws:LL) (_:vs=[.ref wk]) (_:Gr H cW wk L t wd y md) (_:H y<*.lst (rows.map V.ref)) (_:DC H rows R) (_:H md<*.lst (Bm.map V.bl)) (_:H wd<*.lst (DY ws)) (_:ws.length=R.length) (_:g_ L R Bm) (_:(∀d H',a' H H'->P8 H' d->E (.ref cH_) (some d) H')) (_:∀(m k:Nat)(f:Addr)(H':Hp),bb (Rd R Bm k) m->Rd R Bm (k+1)=Rd R Bm k->m≤8->a' H H'->H f=none->zl H' f L (AM R (Rd R Bm k) m) (Dk Bm (Rd R Bm k) m)->Q (.ref f) H')
inductive Jx(cOL:Addr)(vs:List V)(H:Hp)(Q:VK)(E:XK):Prop
 |mk (m m2:Addr) (L L':LN) (W:LL) (B:List Bool) (W2:LL) (B2:List Bool) (_:vs=[.ref m,.ref m2]) (_:zl H m L W B) (_:g_ L W B) (_:zl H m2 L' W2 B2) (_:g_ L' W2 B2) (_:(L≠L'->E (.ref cOL) none H)) (_:(L=L'->Q .non H))
inductive IJ(P0:Addr)(sites:List (Pos×Str))(vs:List V)(H:Hp)(Q:VK)(_E:XK):Prop
 |mk (m:Addr) (L:LN) (W:LL) (B:List Bool) (_:vs=[.ref m]) (_:zl H m L W B) (_:g_ L W B) (_:A_ H P0 sites) (_:∀(f:Addr)(W':LL)(B':List Bool)(H':Hp),Cv P0 H H'->A_ H' P0 sites->zl H' f L W' B'->Eh L W B W' B'->Q (.ref f) H')
inductive em(ts:List (Addr×List (Pos×Str)))(vs:List V)(H:Hp)(Q:VK)(_E:XK):Prop
 |mk (L S:LN) (we:Bool) (_:vs=[.str (tx L),.bl we,.str (tx S)]) (_:CK L) (_:bG ts H) (_:∀(f:Addr)(W:LL)(B:List Bool)(H':Hp),KT ts H H'->Mc H' f L W B->(∃v,BI L W B v)->Lg L W B=C9 L we S->Q (.ref f) H')
inductive eE(ts:List (Addr×List (Pos×Str)))(vs:List V)(H:Hp)(Q:VK)(_E:XK):Prop
 |mk (L:LN) (t:Pt) (v:V) (_:vs=[.str (tx L),v]) (_:ah H t v) (_:((∃k,t=.leaf k)\/∃c,t=.sign c)) (_:CK L) (_:bG ts H) (_:∀(f:Addr)(W:LL)(B:List Bool)(H':Hp),KT ts H H'->Mc H' f L W B->(∃v,BI L W B v)->Lg L W B=bF L t->Q (.ref f) H')
inductive K_(cH_:Addr)(ts:List (Addr×List (Pos×Str)))(vs:List V)(H:Hp)(Q:VK)(E:XK):Prop
 | mk (p:Addr) (L:LN) (_:bG ts H) (_:(∀d H',KT ts H H'->P8 H' d->E (.ref cH_) (some d) H')) (_:((∃(k:K1)(m:Addr)(W:LL)(B:List Bool),vs=[.str (GV k),.ref p]/\H p=some (.lst [.ref m])/\Mc H m L W B/\(∀(f:Addr)(W':LL)(B':List Bool)(H':Hp),KT ts H H'->Mc H' f L W' B'->(∃v,BI L W' B' v)->Lg L W' B'=LU L k (Lg L W B)->Q (.ref f) H')) \/
  ∃(k:K2)(m m2:Addr)(W W2:LL)(B B2:List Bool),vs=[.str (Dn k),.ref p]/\H p=some (.lst [.ref m,.ref m2])/\Mc H m L W B/\Mc H m2 L W2 B2/\∀(f:Addr)(W':LL)(B':List Bool)(H':Hp),KT ts H H'->Mc H' f L W' B'->(∃v,BI L W' B' v)->Lg L W' B'=LV k (Lg L W B) (Lg L W2 B2)->Q (.ref f) H'))
inductive HG(cH_:Addr)(ts:List (Addr×List (Pos×Str)))(n:Nat)(vs:List V)(H:Hp)(Q:VK)(E:XK):Prop
 |mk (L:LN) (t:Pt) (v:V) (_:vs=[.str (tx L),v]) (_:ah H t v) (_:t.dep≤n) (_:CK L) (_:bG ts H) (_:(∀H',KT ts H H'->E (.ref cH_) none H')) (_:∀(f:Addr)(W:LL)(B:List Bool)(H':Hp),KT ts H H'->Mc H' f L W B->(∃v,BI L W B v)->Lg L W B=bF L t->Q (.ref f) H')
inductive sp_isletters(vs:List V)(H:Hp)(Q:VK)(_E:XK):Prop
 |mk (L:LN) (_:vs=[.str (tx L)]) (_:CK L) (_:Q (.bl true) H)
inductive sp_needletters(vs:List V)(H:Hp)(Q:VK)(_E:XK):Prop
 |mk (L:LN) (_:vs=[.str (tx L)]) (_:CK L) (_:Q .non H)
inductive sp_iswanting(vs:List V)(H:Hp)(Q:VK)(_E:XK):Prop
 |mk (ch:Nat) (_:vs=[.str (tx [ch])]) (_:Q (.bl (B7 ch)) H)
inductive sp_canstand(vs:List V)(H:Hp)(Q:VK)(_E:XK):Prop
 |mk (L:LN) (ch:Nat) (w:Bool) (dd:Nat) (_:vs=[.str (tx L),.str (tx [ch]),.bl w,.int (dd:Int)]) (_:Q (.bl (Ac L ch w dd)) H)
inductive sp_needpattern(vs:List V)(H:Hp)(Q:VK)(_E:XK):Prop
 |mk (L w:LN) (_:vs=[.str (tx L),.str (tx w)]) (_:j5 L) (_:scan L 0 true w<*(0,false,)) (_:∀H',a' H H'->Q .non H')
inductive iK(c:Kd->Addr)(vs:List V)(H:Hp)(Q:VK)(_E:XK):Prop
 |mk (t:Pt) (_:vs=[tv (.piece t)]) (_:(Tk.piece t).ok) (_:∀v H',a' H H'->BF c H' t v->Q v H')
inductive eF(c:Kd->Addr)(vs:List V)(H:Hp)(Q:VK)(_E:XK):Prop
 |mk (k:K2) (u w':V) (x y:Pt) (_:vs=[.str (Dn k),u,w']) (_:BF c H x u) (_:BF c H y w') (_:∀v H',a' H H'->BF c H' (.two k x y) v->Q v H')
inductive eD(c:Kd->Addr)(cD:Addr)(vs:List V)(H:Hp)(Q:VK)(_E:XK):Prop
 |mk (d dx pa wa:Addr) (us:List V) (ps:List Pt) (ws:List Wt) (n:Nat) (ps':List Pt) (ws':List Wt) (_:vs=[.ref d,.int (n:Int)]) (_:Bn c cD H d dx pa wa us ps ws) (_:1≤n) (_:BO n ps ws<*(ps',ws',)) (_:ps.length≤900) (_:∀us' H',Bq pa wa H H'->Bn c cD H' d dx pa wa us' ps' ws'->Q .non H')
inductive qk(c:Kd->Addr)(cD:Addr)(vs:List V)(H:Hp)(Q:VK)(_E:XK):Prop
 |mk (d dx pa wa:Addr) (us:List V) (ps:List Pt) (ws:List Wt) (tk:Tk) (ps':List Pt) (ws':List Wt) (_:vs=[.ref d,tv tk]) (_:Bn c cD H d dx pa wa us ps ws) (_:tk.ok) (_:cz ps ws tk<*(ps',ws',)) (_:ps.length≤900) (_:ws.length≤900) (_:∀us' H',Bq pa wa H H'->Bn c cD H' d dx pa wa us' ps' ws'->Q .non H')
inductive sp_tokens(vs:List V)(H:Hp)(Q:VK)(_E:XK):Prop
 |mk (w:LN) (_:vs=[.str (tx w)]) (_:(∀ch∈w,mz ch)) (_:w.length≤400) (_:∀p H',H p=none->a' H H'->H' p<*.lst ((toks true w).map tv)->Q (.ref p) H')
inductive LW(c:Kd->Addr)(vs:List V)(H:Hp)(Q:VK)(_E:XK):Prop
 |mk (tw:LN) (t:Pt) (_:vs=[.str (tx tw)]) (_:(∀ch∈tw,mz ch)) (_:tw.length≤300) (_:Bz (toks true (40::(tw++[41]))) ([],[],)<*([t],[],)) (_:∀v H',a' H H'->BF c H' t v->Q v H')
inductive mP(c:Kd->Addr)(vs:List V)(H:Hp)(Q:VK)(_E:XK):Prop
 |mk (L tw:LN) (t:Pt) (l:Nat) (_:vs=[.str (tx L),.str (tx tw)]) (_:CK L) (_:j5 L) (_:G L l t tw) (_:tw.length≤300) (_:∀v H',a' H H'->BF c H' t v->Q v H')
inductive mQ(K:Frag)(vs:List V)(H:Hp)(Q:VK)(_E:XK):Prop
 |mk (a:Addr) (ns:List Int) (k:Int) (_:vs=[.ref a,.int k]) (_:o5 K H a (ns.map V.int)) (_:0≤k) (_:∀z,Q (.int z) H)
inductive sp_letters(vs:List V)(H:Hp)(Q:VK)(_E:XK):Prop
 |mk (c:Int) (_:vs=[.int c]) (_:∀L,CK L->Q (.str (tx L)) H)
inductive Jy(lo hi:Nat)(vs:List V)(H:Hp)(Q:VK)(_E:XK):Prop
 |mk (k:Nat) (vx vy vz:V) (x y z:Pt) (_:vs=[.int (k:Int),vx,vy,vz]) (_:lo≤k) (_:k<hi) (_:ah H x vx) (_:ah H y vy) (_:ah H z vz) (_:∀p u w H',a' H H'->H' p<*.lst [u,w]->ah H' (CM x y z k).1 u->ah H' (CM x y z k).2 w->Q (.ref p) H')
inductive sp_pushed(vs:List V)(H:Hp)(Q:VK)(_E:XK):Prop
 |mk (p:Addr) (xs:List V) (pts:List Pt) (z:Int) (L:LN) (_:vs=[.ref p,.int z,.str (tx L)]) (_:CK L) (_:H p<*.lst xs) (_:BJ (ah H) xs pts) (_:xs.length≤100) (_:(∀t∈pts,t.over L)) (_:∀(p':Addr)(xs':List V)(pts':List Pt)(H':Hp),a' H H'->H' p'<*.lst xs'->BJ (ah H') xs' pts'->(∀t∈pts',t.over L)->aZ pts'≤aZ pts+1->aY pts'≤aY pts+1->xs'.length≤xs.length+1->Q (.ref p') H')
inductive LX(K:Frag)(vs:List V)(H:Hp)(Q:VK)(_E:XK):Prop
 |mk (a:Addr) (ns:List Int) (L:LN) (_:vs=[.ref a,.str (tx L)]) (_:CK L) (_:o5 K H a (ns.map V.int)) (_:ns.length≤4) (_:∀(v:V)(t:Pt)(H':Hp),a' H H'->ah H' t v->t.over L->t.dep≤5->t.sz≤9->Q v H')
inductive IK(n:Nat)(vs:List V)(H:Hp)(Q:VK)(_E:XK):Prop
 |mk (L:LN) (t:Pt) (v:V) (_:vs=[v]) (_:ah H t v) (_:t.dep≤n) (_:t.over L) (_:t.sz≤60) (_:∀(tw:LN)(H':Hp),a' H H'->G L 4 t tw->tw.length≤4*t.sz->Q (.str (tx tw)) H')
inductive sp_ismach(vs:List V)(H:Hp)(Q:VK)(_E:XK):Prop
 |mk (m:Addr) (L:LN) (W:LL) (B:List Bool) (_:vs=[.ref m,.str (tx L)]) (_:zl H m L W B) (_:g_ L W B) (_:∀H',a' H H'->Q (.bl true) H')
inductive IL(d:Nat)(vs:List V)(H:Hp)(Q:VK)(_E:XK):Prop
 |mk (x y:_) (_:vs=[x,y]) (_:ip H d x y) (_:Q (.bl true) H)
inductive iL(ts:List (Addr×List (Pos×Str)))(vs:List V)(H:Hp)(Q:VK)(_E:XK):Prop
 |mk (L tw:LN) (t:Pt) (l:Nat) (_:vs=[.str (tx L),.str (tx tw)]) (_:CK L) (_:G L l t tw) (_:tw.length≤300) (_:t.dep≤12) (_:bG ts H) (_:(∀H',KT ts H H'->Q .non H')) (_:∀(f:Addr)(W:LL)(B:List Bool)(H':Hp),KT ts H H'->Mc H' f L W B->(∃v,BI L W B v)->Lg L W B=bF L t->Q (.ref f) H')
section
variable{P:Program}{w:World}{K:Frag}{mg:Str->Option Value}{base:Heap}{P0 PT cW:Addr}{ts:List (Addr×List (Pos×Str))}{tabs:List (Addr×Addr)}{cA_ cG_ cH_:Addr}{c:Kd->Addr}{cP:Addr}{cD d1 d2 d3:Addr}
def qv:vw ["self","sign"] ["self","sign"] (h_ lP):=(5,1,!3,1,!3,!3)
def qX(F:vh K "__init__" "Sign.__init__" lP f d):aa P w K mg ς pu 1 f d ["self","sign"] (tW K "sign"):=by
 refine F.ok qv (λvs H Q E h=>?_) (λQm A Fr s H vs Q E i h=>?_)
 .obtain ⟨p,v,C,dx,ζ,_⟩:=h;rfl
 .obtain ⟨p,v,C,dx,ζ,hp,g,n1,q⟩:=h;refine(_,k_ (EN (pv 0) (pv 1) ζ),3);refine(6,p,C,dx,[],1,hp,g,n1,(by change 0<1000;decide),3);show q _ (λb o e a=>by rw[a_ a];show e) j_
def kJ:vw ["self","inner"] ["self","inner"] (h_ dq):=(5,1,!3,1,!3,!3)
def lh(F:vh K "__init__" "Around.__init__" dq f d):aa P w K mg ς pu 1 f d ["self","inner"] (tW K "inner"):=by
 refine F.ok kJ (λvs H Q E h=>?_) (λQm A Fr s H vs Q E i h=>?_)
 .obtain ⟨p,v,C,dx,ζ,_⟩:=h;rfl
 .obtain ⟨p,v,C,dx,ζ,hp,g,n1,q⟩:=h;refine(_,k_ (EN (pv 0) (pv 1) ζ),3);refine(6,p,C,dx,[],1,hp,g,n1,(by change 0<1000;decide),3);show q _ (λb o e a=>by rw[a_ a];show e) j_
def qw:vw ["self","left","right"] ["self","left","right"] (h_ lQ):=(5,1,!3,1,!3,!3)
def qY(F:vh K "__init__" "Pair.__init__" lQ f i):aa P w K mg ς pu 1 f i ["self","left","right"] (yo K "left" "right"):=by
 refine F.ok qw (λvs H Q E h=>?_) (λQm A Fr s H vs Q E j h=>?_)
 .obtain ⟨p,v,u,C,dx,ζ,_⟩:=h;rfl
 .obtain ⟨p,v,u,C,dx,ζ,hp,d,n1,g,q⟩:=h;refine(_,m_ (EN (pv 0) (pv 1) ζ) (k_ (EN (pv 0) (pv 2) ζ)),3);refine(6,p,C,dx,[],1,hp,d,n1,(by change 0<1000;decide),6,p,C,dx,0,j_,d,g,(by change 1<1000;decide),3);show q _ (λb o e a=>by rw[a_ a,a_ a];show e) j_
abbrev Rx:Kd->Nu:=ED nu nv fo sj fj jv nw jw sk sq si
abbrev Mo:Kd->NB:=ED "Never.shape" "Empty.shape" "AnySign.shape" "Sign.shape" "Outside.shape" "Turned.shape" "Again.shape" "Either.shape" "Less.shape" "Both.shape" "Then.shape"
def m6(b:∀k,vt K (c k) cP){fs:Kd->υ}{j:Kd->Sg}(I:∀k,dX K (c k) "shape" (fs k))(J:∀k,Ao K (j k) ["self"] [])(F:∀k,vh K "shape" (Mo k) (Rx k) (fs k) (j k)):∀n k,aa P w K mg ς pu n (fs k) (j k) ["self"] (gn c n k)
 |0,k=>(λvs H Q E h=>by let⟨a,t,_,_,_,o,_⟩:=h;have:=t.U5;lia,λ_ _ _ _ _ _ vs Q E _ _ _ _ h=>by let⟨a,t,_,_,_,o,_⟩:=h;have:=t.U5;lia)
 |n+1,k=>by
  let M:=m6 b I J F n;let S:vw ["self"] ["self"] (h_ (Rx k)):=by
   rcases k with(_|_|_)|_|(_|_|_)|(_|_|_|_)<;>show(5,1,!3,1,!3,!3)
  refine(F k).ok S (λvs H Q E h=>?_) (λQm A Fr s H vs Q E O h=>?_)
  .obtain ⟨a,t,ζ,_⟩:=h;rfl
  let⟨a,t,ζ,hp,ζ,o,q⟩:=h;cases t with
  |Oo k=>cases k<;>show(_,k_ (o9 (Bg (Bp n' Dh))),sT (by change 1≤16777216;decide),λp hp=>q (.ο p) _ (a'.MT hp) (p,1,j_))
  |RB z=>
   let⟨Y,dx,e,r⟩:=hp;cases e;show(_,k_ (o9 (Bg (Bp n' (Bp (AD (pv 0) ζ) Dh)))),0,a,_,dx,4,r,(b _).cl,(b _).nS,uG _,sT (by change 2≤16777216;decide),λp hp=>q (.ο p) _ (a'.MT hp) (p,1,j_))
  |Ol k x=>
   let o:x.V4+1≤n+1:=o;let⟨Y,dx,u,e,r,C⟩:=hp;cases e;let⟨D,l,i,ζ,h1,l1⟩:=C.Uq;cases k<;>show(_,k_ (o9 (Bg (Bp n' (Bp (Jv (AD (pv 0) ζ) (λk=>(b k).cl) I M O J CV) Dh)))),0,a,_,dx,4,r,(b _).cl,(b _).nI,rL _,x.kd,D,l,i,1,h1,l1,D,x,1,C,1,!6,λf m g d=>(sT (by change 2≤16777216;decide),λp hp=>q (.ο p) _ (g.ν (a'.MT hp)) (p,f,1,j_,d.kp (a'.kp (a'.MT hp)))))
  |PF k x y=>
   let o:max x.V4 y.V4+1≤n+1:=o;let⟨Y,dx,u,Z,e,r,C,hy⟩:=hp;cases e;let⟨D,l,i,ζ,h1,l1⟩:=C.Uq;let rd:∀(k:K2)(f:V)(m:Hp),a' H m->ah m x f->(∀v H',a' H H'->ah H' (.PF k x y) v->Q v H')->qi c "shape" (gn c n) E0 (λ_ H R=>R Z H) [] m λL W=>3≤Λ/\∀p,W p=ε->Q (.ο p) (L2.MT W p (.No [.NA (Dn k),f,L])):=λk f m g d q=>by
    let B:=hy.kp (a'.kp g);let⟨X,U,T,ζ,h2,l2⟩:=B.Uq;show(y.kd,X,U,T,1,h2,l2,X,y,1,B,1,!6,λL W s2 N=>(sT (by change 3≤16777216;decide),λp hp=>q (.ο p) _ (g.ν (s2.ν (a'.MT hp))) (p,f,L,1,j_,d.kp (a'.kp (s2.ν (a'.MT hp))),N.kp (a'.kp (a'.MT hp)))))
   cases k<;>show(_,k_ (o9 (Bg (Bp n' (Bp (Jv (AD (pv 0) ζ) (λk=>(b k).cl) I M O J CV) (Bp (Jv (AD (pv 0) ζ) (λk=>(b k).cl) I M O J CV) Dh))))),0,a,_,dx,4,r,(b _).cl,(b _).nL,uH _ _,x.kd,D,l,i,1,h1,l1,D,x,1,C,1,!6,λf m g d=>(0,a,_,dx,4,g _ _ r,(b _).cl,(b _).nR,rK _ _,rd _ f m g d q))
def qx:vw ["self"] ["self"] (h_ lR):=(5,1,!3,1,!3,!3)
def qZ(F:vh K "__init__" "Desk.__init__" lR f v):aa P w K mg ς pu 1 f v ["self"] (Ff K c):=by
 refine F.ok qx (λvs H Q E h=>?_) (λQm A Fr s H vs Q E x h=>?_)
 .obtain ⟨d,dx,C,ζ,_⟩:=h;rfl
 .obtain ⟨d,dx,C,ζ,p,t,u,nW,q⟩:=h;refine(_,m_ (EN (pv 0) (AA Dh) ζ) (k_ (EN (pv 0) (AA Dh) ζ)),3);refine(Nf _,λpa g=>(0,d,C,dx,[],1,Ai p g,t,u,(by change 0<1000;decide),Nf _,λwa a=>?_));let m:d≠pa:=e_ p g;let n:(MT (MT H pa (.M7 [])) d (.Uq C dx (af "patterns" (.ο pa) []))) d<*.Uq C dx (af "patterns" (.ο pa) []):=j_;let l:d≠wa:=e_ n a;let j:(MT (MT H pa (.M7 [])) d (.Uq C dx (af "patterns" (.ο pa) []))) pa<*.M7 []:=by rw[a_ (Ne.MQ m),j_]
  let k:pa≠wa:=e_ j a;refine(0,d,C,dx,0,Ai j_ a,t,nW,(by change 1<1000;decide),3);let i:H wa=ε:=by
   rw[a_ (Ne.MQ l),a_ (Ne.MQ k)]at a;show a
  refine q pa wa _ (λb o e r=>?_) (j_,3,trivial,3,k) g i
  .rw [a_ r,a_ (e_ e i),a_ r,a_ (e_ e g)];show e
  .rw [a_ (Ne.MQ m),a_ k];show j
  .rw [a_ (Ne.MQ l)];show j_
instance K':Nu:=Cs (Qo 53) 2
def iQ:vw ["self",Q3] ["self",Q3] (h_ K'):=(5,1,!3,1,!3,!3)
inductive ql(c:Kd->Addr)(cH_:Addr)(ts:List (Addr×List (Pos×Str)))(vs:List V)(H:Hp)(Q:VK)(E:XK):Prop
 |mk (a:Addr) (t:Pt) (L:LN) (_:vs=[.ref a,.str (tx L)]) (_:BF c H t (.ref a)) (_:t.dep≤12) (_:CK L) (_:bG ts H) (_:(∀H',KT ts H H'->E (.ref cH_) none H')) (_:∀(f:Addr)(W:LL)(B:List Bool)(H':Hp),KT ts H H'->Mc H' f L W B->(∃v,BI L W B v)->Lg L W B=bF L t->Q (.ref f) H')
abbrev vR(P:NE)(w:N1)(K:Nn)(mg:NB->ω θ)(ς:NR)(c:Kd->υ)(RU:υ)(ts:γ (υ×γ (Sh×NB))):Prop:=∃f fd,(∀k,dX K (c k) Q0 f)/\Ao K fd ["self",Q3] []/\aa P w K mg ς (Am P w) 23 f fd ["self",Q3] (ql c RU ts)
def jf(F:vh K Q0 "Pattern.machine" K' f I)(u:F' P w K mg ς c cP)(o:Df P w K mg ς "need_letters" 2 [Q3] YJ)(n:AT P w K mg ς "machine_of" 22 [Q3,"shape"] (HG RU ts 12)):aa P w K mg ς (Am P w) 23 f I ["self",Q3] (ql c RU ts):=by
 refine F.okX iQ (λvs H Q E h=>?_) (λQm A Fr s H vs Q E i h=>?_)
 .obtain ⟨a,t,L,ζ,_⟩:=h;rfl
 .obtain ⟨a,t,L,ζ,hp,p,r,C,x,q⟩:=h;let⟨fs,D,y,M,N⟩:=u.sh;let g:=i.Pk (j:=2) (!0);let b:=i.Pk (j:=12) (!0);let⟨O,m,l,J,h1,l1⟩:=hp.Uq;cases J;refine(_,(m_ (BB (wx o g (Bp (pv 1) Dh))) (k_ (o9 (Cu n i (CL λ_ _ _ z=>z) (Bp (pv 1) (Bp (Jv (pv 0) (λk=>(u.pc k).cl) y (N 12) b M CV) Dh)))))),3);show(0,L,1,r,6,t.kd,a,m,l,1,h1,l1,a,t,1,hp,1,p,λv R d e=>(L,t,v,1,e,p,r,(KT.of d).tb C,λH' k=>x H' ((KT.of d).ν k),λf W B H' k=>q f W B H' ((KT.of d).ν k)))
end
inductive HH(K:Frag)(vs:List V)(H:Hp)(Q:VK)(_E:XK):Prop
 |mk (p:Addr) (ns:LN) (_:vs=[.ref p]) (_:o5 K H p (c_ ns)) (_:(∀x∈ns,x<8)) (_:∀t H',a' H H'->H' t<*.tup (c_ (B5 ns))->Q (.ref t) H')
inductive sp_hasm(vs:List V)(H:Hp)(Q:VK)(_E:XK):Prop
 |mk (m v:Addr) (o:HO) (L:LN) (W:LL) (B:List Bool) (k:LN) (_:vs=[.ref m,.ref v]) (_:zl H m L W B) (_:g_ L W B) (_:(o=.lst (c_ k)\/o=.tup (c_ k))) (_:H v<*o) (_:k.length≤60) (_:(∀x∈k,x<W.length)) (_:∀H',a' H H'->Q (.bl (k.any λr=>B.getD r false)) H')
namespace Tu
inductive sp_rinto(vs:List V)(H:Hp)(Q:VK)(_E:XK):Prop
 |mk (m st:Addr) (L:LN) (W:LL) (B:List Bool) (j:Nat) (S:LN) (_:vs=[.ref m,.int (j:Int),.ref st]) (_:zl H m L W B) (_:g_ L W B) (_:j<L.length) (_:H st<*.tup (c_ S)) (_:∀p H',a' H H'->H' p<*.tup (c_ (bn W S j))->Q (.ref p) H')
inductive BY(cW P1:Addr)(sites:List (Pos×Str))(vs:List V)(H:Hp)(Q:VK)(_E:XK):Prop
 | mk (m:Addr) (L:LN) (W:LL) (B:List Bool) (_:vs=[.ref m]) (_:zl H m L W B) (_:g_ L W B) (_:W.length≤8) (_:A_ H P1 sites) (_:∀(wk t wd y md:Addr)(ks:LL)(ws:LL)(rows:List Addr)(R:LL)(Bm:List Bool)(H':Hp),Cv P1 H H'->A_ H' P1 sites->Gr H' cW wk L t wd y md->H' wd<*.lst (DY ws)->H' y<*.lst (rows.map V.ref)->DC H' rows R->H' md<*.lst (Bm.map V.bl)->
  Bf (bn W) L (BD W B) ks ws ks.length 0->Dj (bn W) L.length ks R->R.length=ks.length->Bm.length=R.length->(∀(r:Nat)(k:LN)(b:Bool),ks[r]?<*k->Bm[r]?<*b->b=se k)->ks.length≤256->Q (.ref wk) H')
instance i_:Nu:=Qo 26
instance ax:Nu:=(p_ i_).ML 0 (.V5 ((0),(0),(0),(0)))
instance Vy:NB:="walked_turned.<locals>.goals_of"
instance Xj:NB:="walked_turned.<locals>.<lambda>"
instance hJ:Rb:=match (p_ i_).ML 2 (.V5 ((0),(0),(0),(0)))with
 |.XN (δ (.QG _ [_,_,_,l] _ _)) _=>l
 |_=>.N0 "" ((0),(0),(0),(0))
instance f_R:QO:=match hJ with|.Qa a _ _ _=>a|_=>([],[],ε,[],[],ε,[])
instance f_Q:Rb:=match hJ with|.Qa _ b _ _=>b|_=>.N0 "" ((0),(0),(0),(0))
instance Qp:RZ:=match hJ with|.Qa _ _ s _=>s|_=>h_ ax
instance jm:Sh:=match hJ with|.Qa _ _ _ p=>p|_=>((0),(0),(0),(0))
abbrev AW:γ (Sh×NB):=[(bj ax,Vy,),(jm,Xj,)]
def mU:Jo ["state",Q0] "state" [Q0] (h_ ax):=(5,1,!3,5,!0,1,!3,λ_ _=>rfl,λ_=>rfl)
def qz:C0 ["state"] ["state"] [] Qp:=(5,1,!3,5,!0,!3,!3)
section
variable{P:Program}{w:World}{K:Frag}{mg:Str->Option Value}{base:Heap}{f c m:Addr}{clos:List (Str×Addr)}{doc pm ctv:Value}{L:LN}{W:LL}{B:List Bool}
def rh(ho:ς.ψ f<*R0 Z0 Vy (t5 ax) (p_ ax) (h_ ax) OW Pm pm c Xc)(O:ς.N_ (.ο c) Vy)(C:A2 ς OW (h_ ax) [Q0] [.ο m])(F:g_ L W B)(y:mg "len"=ε)(g:mg "range"=ε)(S:Df P w K mg ς "rooms_into" 1 [Q0,"place",Q4] Z6):aa P w K mg ς pu 2 f (Δ.W.fnX Z0 Vy (t5 ax) (p_ ax) (h_ ax) OW .ε .ε Pm pm ε (.ο c) Xc) ["state"] (Hk .t L (bn W) (dO W.β) λH=>zl H m L W B):=by
 refine GQ (UY:=[.ο m]) ho ζ O mU C (λvs H Q E h=>?_) (λA Fr s H Y Q E hr h=>?_)
 .obtain ⟨k,v,ζ,_⟩:=h;rfl
 .obtain ⟨k,v,ev,N,hU,X,q⟩:=h;obtain ζ:Y=v:=by simpa using ev
  refine(_,(k_ (o9 (eK ["state",Q0] ζ (!0) (G_ ζ g (o_ (Ds Lj (!4) y T_ (o_ (Ae 1))))) (λcl C fp s' H'=>(B3,(wx S hr (wm (pv 2) (pv 0) (pv 1)))))))),3);unfold Av at N;rw[BT (!0)]at N;let⟨b,ζ,hb⟩:=N;let I:=F.lt.hi;let hz:(tx L).β≤Λ:=sT (by rw[oh];show IO I (!0));let⟨wy,mk,T,h1,h2,h3,h4,h5⟩:=id X;dsimp only[gj];refine Jc (n:=L.β) (λR h=>(z8 h1 aL (0,hz,by rw[oh];show h))) (IO I (!0)) (λD j ys H'=>∃ts:γ υ,A3 (ys=ts.NN V.ο) (ts.β=j) (∀(i:Φ)(a:υ),ts[i]?<*a->H' a<*.No (c_ (bn W k i)))) (λD J=>([],5,λi a e=>by simp at e)) ?_ ?_
  .intro D j ys H' R1 R2 J hj d p hp k1 k2;let⟨ts,ζ,l,o⟩:=hp;refine l_ (6,0,m,b,L,W,B,j,k,3,X.OR d,F,hj,d _ _ hb,λt H4 M Z=>?_)
   .rw [MN.QA];rfl
   let r:=M _ _ p;refine k1 (.ο t) _ r (a'.Ra (d.ν M) J) (ts++[t],by rw[Nw];rfl,by rw[w_,l];rfl,λi u e=>?_);rcases Fy e with z|⟨rfl,ζ⟩
   .exact tf (M _ _ (o i u z)) r (!5)
   .rw [l];show tf Z r (!5)
  .intro D ys H' J d p hp;let⟨ts,ζ,l,o⟩:=hp;refine q D (ts.NN V.ο) H' d (.NU (J,p)) (by rw[ol,l]) λj x U=>?_;rw[tS]at U;let⟨a,ha,ζ⟩:=BG U;unfold Av;rw[BT (!0)];show(a,1,o j a ha)
def re(i:ς.ψ f<*Rw "<lambda>" Xj f_R f_Q Qp OW pm c Xc)(g:ς.N_ (.ο c) Xj)(C:A2 ς OW Qp [] [])(a:Hp->Prop)(U:LL):aa P w K mg ς pu 1 f (XA "<lambda>" Xj f_R f_Q Qp OW pm (.ο c) Xc) ["state"] (Hl .t se U a):=by
 refine Hr (UY:=[]) i ζ g qz C (λvs H Q E h=>?_) (λA Fr s H vs Q E l h=>?_)
 .obtain ⟨k,v,ζ,_⟩:=h;rfl
 .obtain ⟨k,v,ζ,d,n,o,q⟩:=h;refine(_,EM IS b' (pv 0) (by with_unfolding_all rfl),3);unfold Av at d;rw[BT (!0)]at d;let⟨b,ζ,j⟩:=d;refine(0,b,0,.NU (u0.of j),1,LG _,3);let e:EQ (.MS 0) (c_ k)=se k:=dj 0 k;change Q (.bl (EQ (.MS 0) (c_ k))) H;rw[e];show q H (a'.Tn H)
end
def b_V:vw [Q0,Z0,"start"] [Q0] (h_ i_):=Aa
def Da(Wd:GO X U e H d)(Rr:∀y a,b.ρ y<*a->X.KK.Rm.ρ y<*a)(UU:∀y∈sc.MR,y.2=.N6->∃a,b.ρ y.1<*a):A2 d b sc [] []:=
 (λy z c h1 h2=>Wd.QK y z c (Rr y c h1) (Rr z c h2),UU,λy c h=>Wd.OA y c (Rr y c h),1,λi y v h1 h2=>by simp at h1)
set_option maxHeartbeats 8000000 in
def Fj{P:NE}{w:N1}{oc kV Pm pm ct aT ar F ap j aA bo:θ}(lk:K.ρ f<*(oc,od,.Qb (Px "walked_turned" "walked_turned" (t5 i_) (p_ i_) (h_ i_) .ε kV Pm pm an (.ο c) ct),cA))(bS:PD K (.ο c) "walked_turned"=ξ)(lw:K.ρ fw<*(aT,bm,.Qb (Px "walked" "walked" (t5 Bt) (p_ Bt) (h_ Bt) (.ο tD) ar F ap an2 j aA),osl2))(cw:PD K j "walked"=ξ)(kw:UR K (.ο fw)=ξ)(mw:mg "walked"<*.ο fw)(lD:K.ρ tD<*(bo,cB,.Sz #[.ε] nD,co))(WT:Gy K mg cW fI fdI)(T:mg "len"=ε)(aH:mg "zip"=ε)(aM:mg "tuple"=ε)(J:mg "range"=ε)(ab:mg "enumerate"=ε)(hC:QI ς c P1)(hB:DB ς mg)(DR:∀ς:NR,Df P w K mg ς "rooms_into" 1 [Q0,"place",Q4] Z6):aa P w K mg ς pu 6 f (Px "walked_turned" "walked_turned" (t5 i_) (p_ i_) (h_ i_) .ε kV Pm pm an (.ο c) ct) [Q0] (BY cW P1 AW):=by
 refine nE lk bS b_V (λvs H Q E h=>?_) (λA Fr s H vs Q E hr h=>?_)
 .obtain ⟨m,L,W,B,ζ,_⟩:=h;rfl
 .obtain ⟨m,L,W,B,ζ,hM,O,hW8,hT,q⟩:=h;refine(_,(m_ (FO (i:=1) (M6:=Vy) (c:=c) (P0:=P1) (ON:=AW) b_V.nd ζ (Or.NJ ζ) ζ hC hB (!3) (!3)) (m_ (va 2 b_V.nd (Ev Gi (!4) aM Pe (o_ (Jn [Q0,Z0,"start"] ζ (!0) (Jf ζ ab (o_ (Ae 0))) (λcl C fp s' H'=>(mV (BZ (pv 1)),pv 0)))))) (k_ (o9 (Ic (Xb:=[.Rv]) ζ mw kw (IG (kV:=ar) (Pm:=F) (pm:=ap) (an:=an2) (Qm:=j) (ct:=aA) lD) (.NZ ζ .Ow) (Bp (Ae 0) (wm (pv 2) (pv 1) (Hq (M6:=Xj) (c:=c) (P0:=P1) (ON:=AW) ζ hC hB (!3) (!3)))) (λ_=>rfl)))))),3);refine(hT,λaB v c1 H1 aS a6 cM cD s1 a8 a3 a1=>?_);let a9:zl H1 m L W B:=hM.QT (FU s1 hT);let⟨wy,mk,cd,h1,h2,h3,h4,h5⟩:=id a9;let a4:=O.bl;let aV:=O.n60;dsimp only[Bv];dsimp only[Sk,aP,aK,Cq,Aw,Cr,BQ];refine LF (c:=mk) (λR h=>(z8 h1 dI h)) (.NU ζ) h3 (λD i ys H'=>ys=c_ ((γ.N4 i).SL λr=>B.ML r η)) (by rw[ol,a4];show sT (IO aV (!0))) (λD hD=>rfl) ?_ ?_
  .intro D i x ys H' H3 R1 R2 hD hx M S hp g k1 k2;rw[tS]at hx;let⟨b,p,ζ⟩:=BG hx;let eb:B.ML i η=b:=by rw[u6,p];rfl
   refine(6,3);cases b with
   |ξ=>
    refine aw (0,k1 _ H3 (g _ _ S) (a'.Ra (M.ν g) hD) ?_);rw[hp,As,eb];show(Ji _ _).MQ
   |η=>
    refine aj (k2 H3 (M.ν g) (g _ _ S) ?_);rw[hp,As,eb];simp
  intro D ys H2 hD M S hp;rw[ol,a4]at hp;subst hp;refine(D,0,.NJ (o5.of S,λst Rx=>?_));let s2:a' H1 (L2.MT H2 st (.No (c_ ((γ.N4 W.β).SL λr=>B.ML r η)))):=M.ν (a'.MT Rx);let X:L2.MT H2 st (.No (c_ ((γ.N4 W.β).SL λr=>B.ML r η))) st<*.No (c_ (BD W B)):=j_;generalize L2.MT H2 st (.No (c_ ((γ.N4 W.β).SL λr=>B.ML r η)))=H3 at s2 X;let N:=Gs a8 s2;refine(z8 (s2 _ _ h1) aL (6,N,λb4 f2 c2 I aN a5 cK cC s4 b0 a2 a0=>?_));let⟨cs,b2,_⟩:=id a8;let⟨cp,cI,_⟩:=id N;let⟨bk,b1,bM,as⟩:=id b0;let nP:∀{b:υ}{φ:NR->Prop},H1 b<*.ext φ->b≠P1:=λ{b φ}e z=>by rw[z,b2]at e;cases e
  let Y:I v<*Ak v Z0 Vy (t5 ax) (p_ ax) (h_ ax) aB c1:=s4 v _ (nP a1) (s2 _ _ a1);let Z:I c1<*pd c1 Vy:=s4 c1 _ (nP a3) (s2 _ _ a3);let b3:zl I m L W B:=(a9.OR s2).QT (FU s4 N);let U:I st<*.No (c_ (BD W B)):=FU s4 N _ _ X;let a7:∀u∈[v,f2,c1,c2],∃φ,I u<*.ext φ:=λu hu=>by
   simp only[MP,NV,N7]at hu;rcases hu with ζ|rfl|rfl|rfl
   .exact (_,Y)
   .exact (_,a0)
   .exact (_,Z)
   .exact (_,a2)
  refine([v,f2,c1,c2],a7,λd Wd=>?_);let⟨ce,cx,cg,bg⟩:=Wd.XD v _ (!1) Y;let⟨cv,cf,bd⟩:=Wd.XD f2 _ (!1) a0;let b6:d.N_ (.ο c1) Vy:=Wd.XD c1 _ (!1) Z;let b5:d.N_ (.ο c2) Xj:=Wd.XD c2 _ (!1) a2;let C1:=ie (sc:=h_ ax) (m:=m) Wd aS a6 ζ ζ ζ ζ (!3);let C2:=Da (sc:=Qp) Wd aN a5;let Fw:j7 K "walked" "walked" Bt fw _:=((aT,bm,.ο tD,ar,F,ap,an2,j,aA,osl2,1,lw,cw),kw);refine((5),Hm cW .t L (bn W) se (dO W.β) (λH=>zl H m L W B) v f2,hr,ID Fw WT T aH ((rh bg b6 C1 O T J (DR d)).Pk (!0)) ((re bd b5 C2 _ _).Pk (!0)) bg (_,ζ) bd (_,ζ) (.QD λus hl=>by let⟨_,ζ⟩:=D6 hl;rfl) (.QD λus hl=>by let⟨_,ζ⟩:=D6 hl;rfl) (λ_ _ s h=>h.OR s),3);let l:∀{b:υ}{o:HO},I b<*o->(∀φ,o≠.ext φ)->b∉[v,f2,c1,c2]:=λ{b o}e ho p=>by
   let⟨φ,e2⟩:=a7 b p;rw[e]at e2;show ho φ (ω.δ.QK e2)
  refine(BD W B,.ο st,ε,1,O.lt,3,Jq _ _,λk hk q hq=>Jq _ _,IO (iH hW8) (!0),b3.QT λb xs e=>by rw[BH (l e (λ_ z=>nomatch z))];show e,λwk t wd y md ks ch ws ag R Bm H5 bi hW ht cH bD hy aU bP bf aC bl bs Rr le he bV=>?_)
  .unfold Av;rw[BT (!0)];show(st,1,by change Al _ I st=_;rw[BH (l U (λ_ z=>nomatch z))];show U)
  let hR:R.β=ks.β:=by
   rcases he with z|⟨n,z,_⟩
   .exact z
   .cases z
  let TL:∀{b:υ}{o:HO},H5 b<*o->UB [v,f2,c1,c2] I H5 b<*o:=λ{b o}e=>by
   rw[Ef λp=>?_]
   .exact e
   .rw [bV b p]at e;cases e
  let az:∀{b:υ}{o:HO},I b<*o->UB [v,f2,c1,c2] I H5 b<*o:=λ{b o}e=>by
   by_cases p:b∈[v,f2,c1,c2]
   .rw [GN p];show e
   .exact TL (bi b o (by rw[BH p];show e))
  rw[hR]at bf;let⟨dx,ew⟩:=hW.ex;show q wk t wd y md ks ws ag R Bm _ (λb o p e=>az (s4 b o p (s2 _ _ (s1 b o p e)))) (bk,az b1,bM,λx hx=>(as x hx).Wi id λbU=>by let⟨c',e1,e2⟩:=bU;show(c',e1,az e2)) (dx,TL ew) (TL bD) (TL hy) (aU.1,λi a r e1 e2=>TL (aU.2 i a r e1 e2)) (TL bP) bf aC hR bl bs (IO le (iH hW8))
end Tu
namespace A
inductive vD(B:List Bool)(n:Nat)(Rest:Hp->Prop)(vs:List V)(H:Hp)(Q:VK)(_E:XK):Prop
 |mk (p:Addr) (l:LN) (_:vs=[.ref p]) (_:H p<*.lst (c_ l)) (_:(∀x∈l,x<n)) (_:l.length≤50) (_:Rest H) (_:∀t H',a' H H'->bq .q H' (mf B l) t->Q (.ref t) H')
def xV{ON a:γ (Sh×NB)}(s:Cv P0 H H')(j:A_ H P0 ON)(i:P1≠P0)(h:A_ H P1 a):A_ H' P1 a:=by
 let⟨e,c,_⟩:=j;let⟨ps,k,g,b⟩:=h;refine(ps,s _ _ i k,g,λx f=>(b x f).Wi id λ⟨m,l,d⟩=>(m,l,s _ _ (λz=>?_) d));rw[z,c]at d;cases d
inductive yn(cTM P0 P1:Addr)(sites sitesA:List (Pos×Str))(vs:List V)(H:Hp)(Q:VK)(E:XK):Prop
 |mk (m:Addr) (L:LN) (W:LL) (B:List Bool) (_:vs=[.ref m]) (_:zl H m L W B) (_:g_ L W B) (_:W.length≤8) (_:A_ H P0 sites) (_:A_ H P1 sitesA) (_:P1≠P0) (_:(∀H',E (.ref cTM) none H')) (_:∀(f:Addr)(W':LL)(B':List Bool)(H':Hp),Ci H H'->zl H' f L W' B'->g_ L W' B'->(∀u:LN,(∀c∈u,c∈L)->(B'.getD (run L W' 0 u) false=true↔Ag (λv=>B.getD (run L W 0 v) false) u))->Q (.ref f) H')
instance vb:Nu:=Qo 34
instance bv:Nu:=(p_ vb).ML 1 (.V5 ((0),(0),(0),(0)))
instance bh:Nu:=(p_ vb).ML 2 (.V5 ((0),(0),(0),(0)))
instance q_ae:NB:="again.<locals>.entered"
instance q_ag:NB:="again.<locals>.goals_of"
instance q_al:NB:="again.<locals>.<lambda>"
instance vc:Rb:=match (p_ vb).ML 3 (.V5 ((0),(0),(0),(0)))with
 |.XN (δ (.QG _ [.QG _ [_,_,_,l] _ _] _ _)) _=>l
 |_=>.N0 "" ((0),(0),(0),(0))
instance f_R:QO:=match vc with|.Qa a _ _ _=>a|_=>([],[],ε,[],[],ε,[])
instance f_Q:Rb:=match vc with|.Qa _ b _ _=>b|_=>.N0 "" ((0),(0),(0),(0))
instance Qp:RZ:=match vc with|.Qa _ _ s _=>s|_=>h_ bh
instance jm:Sh:=match vc with|.Qa _ _ _ p=>p|_=>((0),(0),(0),(0))
abbrev W4:γ (Sh×NB):=[(bj bv,q_ae,),(bj bh,q_ag,),(jm,q_al,)]
def yE:C0 [Q4,"piece"] [Q4] ["piece"] (h_ bv):=(5,1,!3,5,!0,!3,!3)
def yD:C0 ["state","entered","piece"] ["state"] ["entered","piece"] (h_ bh):=(5,1,!3,5,!0,!3,!3)
def yC:C0 ["state"] ["state"] [] Qp:=(5,1,!3,5,!0,!3,!3)
section
variable{P:Program}{w:World}{K:Frag}{mg:Str->Option Value}{base:Heap}{f c m g:Addr}{clos:List (Str×Addr)}{doc pm ctv:Value}{L:LN}{W:LL}{B:List Bool}
def yW(X:ς.ψ f<*R0 "entered" q_ae (t5 bv) (p_ bv) (h_ bv) OW Pm pm c Xc)(D:ς.N_ (.ο c) q_ae)(C:A2 ς OW (h_ bv) ["piece"] [.ο m])(F:g_ L W B)(Z:W.β≤8)(I:Df P w K mg ς "has_marked" 1 [Q0,Q4] Xy)(b:Df P w K mg ς "lot_of" 1 [Q4] (HH K)):aa P w K mg ς pu 2 f (Δ.W.fnX "entered" q_ae (t5 bv) (p_ bv) (h_ bv) OW .ε .ε Pm pm ε (.ο c) Xc) [Q4] (vD B W.β λH=>zl H m L W B):=by
 refine Gq (UY:=[.ο m]) X ζ D yE C (λvs H Q E h=>?_) (λA Fr s H vs Q E v h=>?_)
 .obtain ⟨p,l,ζ,_⟩:=h;rfl
 .obtain ⟨p,l,ζ,hp,hlW,hl50,Y,q⟩:=h;refine(_,(m_ (u_ (BZ (wx I v (q_ (pv 1) (pv 0)))) (k_ (o9 (Bg (q_ BK (wx b v (o_ (Af GF (pv 0) (AA (o_ b'))))))))) (wh)) (k_ (o9 (Bg (q_ BK (wx b v (o_ (pv 0)))))))),3);refine(6,m,p,_,L,W,B,l,1,Y,F,.NJ ζ,hp,IO hl50 (!0),hlW,λU e=>(0,3));let S:∀x∈l,x<8:=λx k=>Ψ (hlW x k) Z;let PF:2≤Λ:=sT (!0);unfold mf at q;cases M:l.Ql (λr=>B.ML r η)with
  |ξ=>
   rw[Id M]at q;refine aw ?_;refine(0,sT (by change 1≤16777216;decide),λd a=>?_);let s2:=e.ν (a'.MT (o:=.M7 [.MS 0]) a);let R:=Ai (u:=.M7 [.MS 0]) (e _ _ hp) a;let O:L2.MT U d (.M7 [.MS 0]) d<*.M7 [.MS 0]:=j_;generalize L2.MT U d (.M7 [.MS 0])=T at s2 R O;refine(p,d,8,R,O,sT (by rw[f_];change l.β+1≤16777216;lia),λi y=>?_);let J:=s2.ν (a'.MT (o:=.M7 (c_ l++[.MS 0])) y);let N:L2.MT T i (.M7 (c_ l++[.MS 0])) i<*.M7 (c_ (l++[0])):=by rw[j_,c_,c_,Nw];rfl
   generalize L2.MT T i (.M7 (c_ l++[.MS 0]))=H3 at J N;refine(i,l++[0],1,o5.of N,λx k=>?_,λt H4 j n=>(PF,λst Rx=>q st _ (J.ν (j.ν (a'.MT Rx))) (t,(1),0,LE _,j_,Ai n Rx)));rcases Nd.mp k with z|z
   .exact S x z
   .rw [Ay z];decide
  |η=>
   rw[BT (by rw[M];show MZ.M')]at q;refine aj (0,p,l,1,o5.of (e _ _ hp),S,λt H4 j n=>(PF,λst Rx=>q st _ (e.ν (j.ν (a'.MT Rx))) (t,(0),0,Nf _,j_,Ai n Rx)))
def yV(ho:ς.ψ f<*R0 Z0 q_ag (t5 bh) (p_ bh) (h_ bh) OW Pm pm c Xc)(ag:ς.N_ (.ο c) q_ag)(C:A2 ς OW (h_ bh) ["entered","piece"] [.ο g,.ο m])(y:g_ L W B)(h8:W.β≤8)(as:Df P w K mg ς "lots_after" 1 [Q0,Q4] Tm)(hg:ς.ψ g<*(oc,od,.Qb fd,sl))(ap:Ao K fd [Q4] [])(R:aa P w K mg ς pu 2 g fd [Q4] (vD B W.β λH=>zl H m L W B)):aa P w K mg ς pu 3 f (Δ.W.fnX Z0 q_ag (t5 bh) (p_ bh) (h_ bh) OW .ε .ε Pm pm ε (.ο c) Xc) ["state"] (Hk .q L (Hv W B) (Fb W.β) λH=>zl H m L W B):=by
 refine Gq (UY:=[.ο g,.ο m]) ho ζ ag yD C (λvs H Q E h=>?_) (λA Fr s H vs Q E hr h=>?_)
 .obtain ⟨k,v,ζ,_⟩:=h;rfl
 .obtain ⟨k,v,ζ,Y,hU,hM,q⟩:=h;let Z:=hr.Pk (j:=1) (!0);refine(_,(k_ (o9 (eK ["state","entered","piece"] ζ (!0) (Dz (wx as Z (q_ (pv 2) (Ae 0)))) (λcl C fp s' H'=>(B3,Ia (i:=2) R hr hg ap (pv 2) (o_ (pv 0))))))),3);let⟨b0,S,ζ,aA,hS,M⟩:=qb hU;unfold Av at Y;rw[BT (!0)]at Y;let⟨b,ζ,c0,x,ks,e0,az,hb,an⟩:=Y;cases e0;let ar:=y.lt.hi;dsimp only[gj];refine(0,z8 hb aJ (m,c0,_,L,W,B,S,1,hM,y,.NU ζ,an,IO M (!0),hS,λl ls H1 X hl r ab=>?_));refine(l,4,.NJ ζ,hl,λJ ov=>J0 ov hl (λD j ys H'=>∃ts:γ υ,A3 (ys=ts.NN V.ο) (ts.β=j) (∀(i:Φ)(a:υ),ts[i]?<*a->bq .q H' (Hv W B (b0::S) i) a)) (by rw[ol,r];show sT (IO ar (!0))) (λD T=>([],5,λi a e=>by simp at e)) ?_ ?_)
  .intro D j x ys H' R1 R2 T I n F hp k1 k2;let⟨ts,ζ,d,p⟩:=hp;rw[tS]at I;let⟨a,O,ζ⟩:=BG I;let hj:j<L.β:=by rw[<-r];show(q5 O).1
   refine l_ (1,0,a,gA W S j,1,n _ _ (ab j a O),fu y hS hj,by rw[gA,ol];show IO M (!0),(hM.OR X).OR n,λt H4 U ht=>?_);let N:=U _ _ F;let up:∀{o:HO}b xs,H4 b<*.No xs->L2.MT H4 D o b<*.No xs:=λb xs e=>tf e N (!5);refine k1 (.ο t) _ N (a'.Ra (n.ν U) T) (ts++[t],by rw[Nw];rfl,by rw[w_,d];rfl,λi u e=>?_);rcases Fy e with z|⟨rfl,ζ⟩
   .exact ((p i u z).OR λb xs e=>U _ _ e).OR up
   .rw [d];show ht.OR up
  .intro D ys H' T n F hp;let⟨ts,ζ,d,p⟩:=hp;rw[ol,r]at d;refine q D (ts.NN V.ο) H' (X.ν n) (.NU (GL X T,F)) (by rw[ol,d]) λj x I=>?_;rw[tS]at I;let⟨a,O,ζ⟩:=BG I;unfold Av;rw[BT (!0)];show(a,1,p j a O)
def yU(j:ς.ψ f<*Rw "<lambda>" q_al f_R f_Q Qp OW pm c Xc)(e:ς.N_ (.ο c) q_al)(C:A2 ς OW Qp [] [])(a:Hp->Prop)(U:LL):aa P w K mg ς pu 1 f (XA "<lambda>" q_al f_R f_Q Qp OW pm (.ο c) Xc) ["state"] (Hl .q xa U a):=by
 refine Hr (UY:=[]) j ζ e yC C (λvs H Q E h=>?_) (λA Fr s H vs Q E o h=>?_)
 .obtain ⟨k,v,ζ,_⟩:=h;rfl
 .obtain ⟨k,v,ζ,d,p,r,q⟩:=h;refine(_,Ae 0,3);unfold Av at d;rw[BT (!0)]at d;let⟨b,ζ,c0,x,ks,ζ,i,n,l⟩:=d;show(z8 n aL (q H (a'.Tn H)))
end
end A
namespace H
inductive kE(B1:List Bool)(n1 n2:Nat)(Rest:Hp->Prop)(vs:List V)(H:Hp)(Q:VK)(_E:XK):Prop
 |mk (r:Nat) (p:Addr) (l:LN) (_:vs=[.int (r:Int),.ref p]) (_:H p<*.lst (c_ l)) (_:r<n1) (_:(∀x∈l,x<n2)) (_:l.length≤50) (_:Rest H) (_:∀t H',a' H H'->bq .p H' (dW B1 r l) t->Q (.ref t) H')
def xV{ON a:γ (Sh×NB)}(s:Cv P0 H H')(j:A_ H P0 ON)(i:P1≠P0)(h:A_ H P1 a):A_ H' P1 a:=by
 let⟨e,c,_⟩:=j;let⟨ps,k,g,b⟩:=h;refine(ps,s _ _ i k,g,λx f=>(b x f).Wi id λ⟨m,l,d⟩=>(m,l,s _ _ (λz=>?_) d));rw[z,c]at d;cases d
inductive zG(cTM cOL P0 P1:Addr)(sites sitesH:List (Pos×Str))(vs:List V)(H:Hp)(Q:VK)(E:XK):Prop
 |mk (m m2:Addr) (L L':LN) (W1 W2:LL) (B1 B2:List Bool) (_:vs=[.ref m,.ref m2]) (_:zl H m L W1 B1) (_:g_ L W1 B1) (_:zl H m2 L' W2 B2) (_:g_ L' W2 B2) (_:W1.length≤8) (_:W2.length≤8) (_:A_ H P0 sites) (_:A_ H P1 sitesH) (_:P1≠P0) (_:(∀H',L≠L'->E (.ref cOL) none H')) (_:(∀H',E (.ref cTM) none H')) (_:∀(f:Addr)(W':LL)(B':List Bool)(H':Hp),L=L'->Ci H H'->zl H' f L W' B'->g_ L W' B'->(∀u:LN,(∀c∈u,c∈L)->(B'.getD (run L W' 0 u) false=true↔∃x v,u=x++v/\B1.getD (run L W1 0 x) false=true/\B2.getD (run L W2 0 v) false=true))->Q (.ref f) H')
instance y_:Nu:=Qo 33
instance aW:Nu:=(p_ y_).ML 3 (.V5 ((0),(0),(0),(0)))
instance ax:Nu:=(p_ y_).ML 4 (.V5 ((0),(0),(0),(0)))
instance Yq:NB:="then.<locals>.entered"
instance Vy:NB:="then.<locals>.goals_of"
instance Xj:NB:="then.<locals>.<lambda>"
instance hJ:Rb:=match (p_ y_).ML 5 (.V5 ((0),(0),(0),(0)))with
 |.XN (δ (.QG _ [.QG _ [_,_,_,l] _ _] _ _)) _=>l
 |_=>.N0 "" ((0),(0),(0),(0))
instance f_R:QO:=match hJ with|.Qa a _ _ _=>a|_=>([],[],ε,[],[],ε,[])
instance f_Q:Rb:=match hJ with|.Qa _ b _ _=>b|_=>.N0 "" ((0),(0),(0),(0))
instance Qp:RZ:=match hJ with|.Qa _ _ s _=>s|_=>h_ ax
instance jm:Sh:=match hJ with|.Qa _ _ _ p=>p|_=>((0),(0),(0),(0))
abbrev W3:γ (Sh×NB):=[(bj aW,Yq,),(bj ax,Vy,),(jm,Xj,)]
def yz:C0 [Z4,Q4,"ahead"] [Z4,Q4] ["ahead"] (h_ aW):=(5,1,!3,5,!0,!3,!3)
def mU:C0 ["state","goals","ahead","behind","entered"] ["state"] ["ahead","behind","entered"] (h_ ax):=(5,1,!3,5,!0,!3,!3)
def qz:C0 ["state","behind"] ["state"] ["behind"] Qp:=(5,1,!3,5,!0,!3,!3)
abbrev Two(H:Hp)(m m2:υ)(L:LN)(W1 W2:LL)(B1 B2:γ MZ):Prop:=zl H m L W1 B1/\zl H m2 L W2 B2
section
variable{P:Program}{w:World}{K:Frag}{mg:Str->Option Value}{base:Heap}{f c m m2 g:Addr}{clos:List (Str×Addr)}{doc pm ctv:Value}{L:LN}{W1 W2:LL}{B1 B2:List Bool}
def vH(T:ς.ψ f<*R0 "entered" Yq (t5 aW) (p_ aW) (h_ aW) OW Pm pm c Xc)(v:ς.N_ (.ο c) Yq)(C:A2 ς OW (h_ aW) ["ahead"] [.ο m])(z:g_ L W1 B1)(y:g_ L W2 B2)(X:W2.β≤8)(B:Df P w K mg ς "lot_of" 1 [Q4] (HH K)):aa P w K mg ς pu 2 f (Δ.W.fnX "entered" Yq (t5 aW) (p_ aW) (h_ aW) OW .ε .ε Pm pm ε (.ο c) Xc) [Z4,Q4] (kE B1 W1.β W2.β λH=>Two H m m2 L W1 W2 B1 B2):=by
 refine Gq (UY:=[.ο m]) T ζ v yz C (λvs H Q E h=>?_) (λA Fr s H vs Q E S h=>?_)
 .obtain ⟨r,p,l,ζ,_⟩:=h;rfl
 .obtain ⟨r,p,l,ζ,hp,k,hlW,hl50,U,q⟩:=h;refine(_,(k_ (o9 (Bg (q_ (pv 0) (wx B S (o_ (cJ (BZ (GR (Ae 2) (pv 0))) (Af GF (pv 1) (AA (o_ b'))) (pv 1)))))))),3);let⟨wy,mk,F,h1,h2,Y,h4,h5⟩:=id U.1;let b:∀x∈inT B1 r l,x<8:=λx R=>Ψ (dl hlW y.n1 x R) X;let PF:2≤Λ:=sT (!0);unfold dW at q;refine(0,z8 h1 dI (0,Fc Y (H_ (ik z.bl k)) (0,3)));unfold inT at q b;cases I:B1.ML r η with
  |ξ=>
   rw[Id I]at q b;refine aw ?_;refine(0,sT (by change 1≤16777216;decide),λd a=>?_);let s2:=a'.MT (o:=.M7 [.MS 0]) a;let N:=Ai (u:=.M7 [.MS 0]) hp a;let M:L2.MT H d (.M7 [.MS 0]) d<*.M7 [.MS 0]:=j_;generalize L2.MT H d (.M7 [.MS 0])=O at s2 N M;refine(p,d,8,N,M,sT (by rw[f_];change l.β+1≤16777216;lia),λe n=>?_);let D:=s2.ν (a'.MT (o:=.M7 (c_ l++[.MS 0])) n);let J:L2.MT O e (.M7 (c_ l++[.MS 0])) e<*.M7 (c_ (l++[0])):=by rw[j_,c_,c_,Nw];rfl
   generalize L2.MT O e (.M7 (c_ l++[.MS 0]))=H3 at D J;show(e,l++[0],1,o5.of J,b,λt Z i j=>(PF,λst Rx=>q st _ (D.ν (i.ν (a'.MT Rx))) (t,r,0,j_,Ai j Rx)))
  |η=>
   rw[BT (by rw[I];show MZ.M')]at q b;show aj (0,p,l,1,o5.of hp,b,λt Z i j=>(PF,λst Rx=>q st _ (i.ν (a'.MT Rx)) (t,r,0,j_,Ai j Rx)))
def rh(ho:ς.ψ f<*R0 Z0 Vy (t5 ax) (p_ ax) (h_ ax) OW Pm pm c Xc)(aC:ς.N_ (.ο c) Vy)(C:A2 ς OW (h_ ax) ["ahead","behind","entered"] [.ο m,.ο m2,.ο g])(M:g_ L W1 B1)(as:g_ L W2 B2)(O:mg "zip"=ε)(aS:Df P w K mg ς "lots_after" 1 [Q0,Q4] Tm)(hg:ς.ψ g<*(oc,od,.Qb fd,sl))(aM:Ao K fd [Z4,Q4] [])(R:aa P w K mg ς pu 2 g fd [Z4,Q4] (kE B1 W1.β W2.β λH=>Two H m m2 L W1 W2 B1 B2)):aa P w K mg ς pu 3 f (Δ.W.fnX Z0 Vy (t5 ax) (p_ ax) (h_ ax) OW .ε .ε Pm pm ε (.ο c) Xc) ["state"] (Hk .p L (Hw W1 B1 W2) (EC W1.β W2.β) λH=>Two H m m2 L W1 W2 B1 B2):=by
 refine Gq (UY:=[.ο m,.ο m2,.ο g]) ho ζ aC mU C (λvs H Q E h=>?_) (λA Fr s H vs Q E hr h=>?_)
 .obtain ⟨k,v,ζ,_⟩:=h;rfl
 .obtain ⟨k,v,ζ,hv,hU,hM,q⟩:=h;let az:=hr.Pk (j:=1) (!0);refine(_,(m_ (va 1 mU.nd (wx aS az (q_ (pv 3) (Ae 0)))) (k_ (o9 (Jn ["state","goals","ahead","behind","entered"] ζ (!0) (qM ζ O (q_ (GR (Ae 2) (Ae 0)) (pv 1))) (λcl C fp s' H'=>(B3,Ia (i:=6) R hr hg aM (pv 6) (q_ (pv 0) (pv 1)))))))),3);let⟨X,S,ζ,Z,hS,ag⟩:=kh hU;unfold Av at hv;rw[BT (!0)]at hv;let⟨b,ζ,c0,x,ks,e0,hb,aH⟩:=hv;cases e0;let aN:=M.lt.hi;let⟨ap,an⟩:=hM;refine(0,z8 hb aJ (m2,c0,_,L,W2,B2,S,1,an,as,.NU ζ,aH,IO ag (!0),hS,λl ls H1 U hl aB aA=>?_));let⟨wy,mk,F,h1,h2,h3,h4,h5⟩:=id (ap.OR U);obtain⟨rr,Y⟩:∃rr,F[X]?<*rr:=(F[X]'(by rw[h4];show Z),n_ _);let⟨ws,e5,e6⟩:=h5 _ _ Y;let B:=M.Vx ws (AC e5);let ew:W1.ML X []=ws:=by rw[u6,e5];rfl
  dsimp only[gj];refine CA (c:=rr) (d:=l) (λR h=>(z8 h1 aJ (z8 (U _ _ hb) aL (Fc h2 (Ea V.ο Y) (0,h))))) e6 hl (by rw[f_,ol,aB];show B.1)
   (λD j ys H'=>∃ts:γ υ,A3 (ys=ts.NN V.ο) (ts.β=j) (∀(i:Φ)(a:υ),ts[i]?<*a->bq .p H' (Hw W1 B1 W2 (X::S) i) a)) (by rw[f_,B.1];show sT (IO aN (!0))) (λD hD=>([],5,λi a e=>by simp at e)) ?_ ?_
  .intro D j x z ys H' H3 R1 hD N hz y J hp n k1;let⟨ts,ζ,r,I⟩:=hp;let hj:j<ws.β:=by have:=(q5 N).1;rwa [f_]at this
   let ab:j<L.β:=by rw[<-B.1];show hj
   rw[CY hj]at N;cases N;rw[tS]at hz;let⟨a,ha,ζ⟩:=BG hz;let T:=U.ν (y.ν n);let eg:ws.ML j 0=QY W1 X j:=by unfold QY;rw[ew]
   refine(1,6,ws.ML j 0,a,gA W2 S j,1,(y.ν n) _ _ (aA j a ha),by rw[eg];show Ew M Z ab,fu as hS ab,by rw[gA,ol];show IO ag (!0),(ap.OR T,an.OR T),λt H4 s4 ht=>?_);rw[eg]at ht;let ar:=s4 _ _ (n _ _ J);let up:∀{o:HO}b xs,H4 b<*.No xs->L2.MT H4 D o b<*.No xs:=λb xs e=>tf e ar (!5);refine k1 (.ο t) _ ar (a'.Ra (y.ν (n.ν s4)) hD) (ts++[t],by rw[Nw];rfl,by rw[w_,r];rfl,λi u e=>?_);rcases Fy e with z|⟨rfl,ζ⟩
   .exact ((I i u z).OR λb xs e=>s4 _ _ (n _ _ e)).OR up
   .rw [r];show ht.OR up
  .intro D ys H' hD y J hp;let⟨ts,ζ,r,I⟩:=hp;rw[f_,B.1]at r;refine q D (ts.NN V.ο) H' (U.ν y) (.NU (GL U hD,J)) (by rw[ol,r]) λj x N=>?_;rw[tS]at N;let⟨a,ha,ζ⟩:=BG N;unfold Av;rw[BT (!0)];show(a,1,I j a ha)
def re(r:ς.ψ f<*Rw "<lambda>" Xj f_R f_Q Qp OW pm c Xc)(d:ς.N_ (.ο c) Xj)(C:A2 ς OW Qp ["behind"] [.ο m2])(j:g_ L W2 B2)(l:Df P w K mg ς "has_marked" 1 [Q0,Q4] Xy):aa P w K mg ς pu 2 f (XA "<lambda>" Xj f_R f_Q Qp OW pm (.ο c) Xc) ["state"] (Hl .p (w4 B2) (EC W1.β W2.β) λH=>Two H m m2 L W1 W2 B1 B2):=by
 refine Hr (UY:=[.ο m2]) r ζ d qz C (λvs H Q E h=>?_) (λA Fr s H vs Q E o h=>?_)
 .obtain ⟨k,v,ζ,_⟩:=h;rfl
 .obtain ⟨k,v,ζ,a,u,z,q⟩:=h;refine(_,(wx l o (q_ (pv 1) (Ae 0))),3);let⟨D,S,ζ,n,y,i⟩:=kh u;unfold Av at a;rw[BT (!0)]at a;let⟨b,ζ,c0,x,ks,B,t,e⟩:=a;cases B;show(0,z8 t aJ (m2,c0,_,L,W2,B2,S,1,z.2,j,.NU ζ,e,IO i (!0),y,q))
end
end H
instance Dq:Nu:=Qo 36
instance bu:Nu:=(p_ Dq).ML 1 (.V5 ((0),(0),(0),(0)))
instance bt:Nu:=(p_ Dq).ML 2 (.V5 ((0),(0),(0),(0)))
instance q_pg:NB:="paired.<locals>.goals_of"
instance q_pm:NB:="paired.<locals>.is_marked"
abbrev ca:γ (Sh×NB):=[(bj bu,q_pg,),(bj bt,q_pm,)]
def yB:C0 ["pair",Q0,"second"] ["pair"] [Q0,"second"] (h_ bu):=(5,1,!3,5,!0,!3,!3)
def yA:C0 ["pair","is_wanted",Q0,"second"] ["pair"] ["is_wanted",Q0,"second"] (h_ bt):=(5,1,!3,5,!0,!3,!3)
abbrev Two(H:Hp)(m m2:υ)(L:LN)(W1 W2:LL)(B1 B2:γ MZ):Prop:=zl H m L W1 B1/\zl H m2 L W2 B2
section
variable{P:Program}{w:World}{K:Frag}{mg:Str->Option Value}{base:Heap}{f c m m2 g cg:Addr}{clos:List (Str×Addr)}{doc pm ctv:Value}{L:LN}{W1 W2:LL}{B1 B2:List Bool}{rule:Bool->Bool->Bool}
def yT(ho:ς.ψ f<*R0 Z0 q_pg (t5 bu) (p_ bu) (h_ bu) OW Pm pm c Xc)(S:ς.N_ (.ο c) q_pg)(C:A2 ς OW (h_ bu) [Q0,"second"] [.ο m,.ο m2])(J:g_ L W1 B1)(X:g_ L W2 B2)(u:mg "list"=ε)(z:mg "zip"=ε):aa P w K mg ς pu 1 f (Δ.W.fnX Z0 q_pg (t5 bu) (p_ bu) (h_ bu) OW .ε .ε Pm pm ε (.ο c) Xc) ["pair"] (Hk .t L (gP W1 W2) (uP W1.β W2.β) λH=>Two H m m2 L W1 W2 B1 B2):=by
 refine Gq (UY:=[.ο m,.ο m2]) ho ζ S yB C (λvs H Q E h=>?_) (λA Fr s H vs Q E hr h=>?_)
 .obtain ⟨k,v,ζ,_⟩:=h;rfl
 .obtain ⟨k,v,ζ,N,hU,hM,q⟩:=h;refine(_,(k_ (o9 (i8 ζ ζ u ζ z (q_ (GR (Ae 1) (Ae 0)) (GR (Ae 2) (Ae 0)))))),3);let⟨a,b,ζ,ha,hb⟩:=kj hU;unfold Av at N;rw[BT (!0)]at N;let⟨pp,ζ,O⟩:=N;let⟨U,T⟩:=hM;let⟨wy,mk,n,h1,h2,h3,h4,h5⟩:=U;let⟨ab,ag,d,g1,g2,g3,g4,g5⟩:=T;obtain⟨D,I⟩:∃D,n[a]?<*D:=(n[a]'(by rw[h4];show ha),n_ _);obtain⟨M,p⟩:∃D,d[b]?<*D:=(d[b]'(by rw[g4];show hb),n_ _);let⟨ws,e5,e6⟩:=h5 _ _ I;let⟨y,f5,f6⟩:=g5 _ _ p;let i:=J.Vx ws (AC e5);let o:=X.Vx y (AC f5);let an:=J.lt.hi;let r:H pp<*.No [.MS (a:MN),.MS (b:MN)]:=O;refine(z8 h1 aJ (z8 r aL (Fc h2 (Ea V.ο I) ?_)));refine(z8 g1 aJ (z8 r aJ (Fc g2 (Ea V.ο p) ?_)));refine(D,M,4,e6,f6,by rw[f_,f_,i.1,o.1],by rw[f_,i.1];omega,λl ts H2 B nd R sm hl ht=>?_);refine q l (ts.NN V.ο) H2 sm (.NU (R,hl)) (by rw[ol,B,f_];show i.1) λj x Z=>?_;rw[tS]at Z;let⟨t,F,ζ⟩:=BG Z;let hj:j<L.β:=by have:=(q5 F).1;rw[B,f_,i.1]at this;show this
  unfold Av;rw[BT (!0)];let ew:W1.ML a []=ws:=by rw[u6,e5];rfl
  let Y:W2.ML b []=y:=by rw[u6,f5];rfl
  refine(t,1,3);let e:=ht j t _ _ F (CY (by rw[i.1];show hj)) (CY (by rw[o.1];show hj));change _<*HO.No (c_ [QY W1 a j,QY W2 b j]);rw[e];unfold QY;rw[ew,Y];rfl
def yS(J:ς.ψ f<*R0 Q7 q_pm (t5 bt) (p_ bt) (h_ bt) OW Pm pm c Xc)(n:ς.N_ (.ο c) q_pm)(C:A2 ς OW (h_ bt) ["is_wanted",Q0,"second"] [.ο g,.ο m,.ο m2])(x:g_ L W1 B1)(u:g_ L W2 B2)(M:ς.ψ g<*(oc,od,.Qb z,sl))(o:Ao K z ["one","two"] [])(R:aa P w K mg ς pu 1 g z ["one","two"] (b9 Wc)):aa P w K mg ς pu 2 f (Δ.W.fnX Q7 q_pm (t5 bt) (p_ bt) (h_ bt) OW .ε .ε Pm pm ε (.ο c) Xc) ["pair"] (Hl .t (LH Wc B1 B2) (uP W1.β W2.β) λH=>Two H m m2 L W1 W2 B1 B2):=by
 refine Gq (UY:=[.ο g,.ο m,.ο m2]) J ζ n yA C (λvs H Q E h=>?_) (λA Fr s H vs Q E I h=>?_)
 .obtain ⟨k,v,ζ,_⟩:=h;rfl
 .obtain ⟨k,v,ζ,j,S,T,q⟩:=h;refine(_,(k_ (o9 (Ia (i:=1) R I M o (pv 1) (q_ (GR (Ae 2) (Ae 0)) (GR (Ae 3) (Ae 0)))))),3);let⟨a,b,ζ,O,N⟩:=kj S;unfold Av at j;rw[BT (!0)]at j;let⟨D,ζ,l⟩:=j;let⟨r,p⟩:=T;let⟨Z,mk,y,h1,h2,U,h4,h5⟩:=r;let⟨B,F,e,Y,g2,X,g4,g5⟩:=p;let d:H D<*.No [.MS (a:MN),.MS (b:MN)]:=l;show(1,z8 h1 dI (z8 d aL (Fc U (H_ (ik x.bl O)) (z8 Y dI (z8 d aJ (Fc X (H_ (ik u.bl N)) (4,q H (a'.Tn _))))))))
end
instance EF:Nu:=Qo 29
instance IM:NB:="either.<locals>.<lambda>"
instance Jz:Rb:=match (p_ EF).ML 0 (.V5 ((0),(0),(0),(0)))with
 |.XN (δ (.QG _ [_,_,l] _ _)) _=>l
 |_=>.N0 "" ((0),(0),(0),(0))
instance jZ:QO:=match Jz with|.Qa a _ _ _=>a|_=>([],[],ε,[],[],ε,[])
instance jY:Rb:=match Jz with|.Qa _ b _ _=>b|_=>.N0 "" ((0),(0),(0),(0))
instance YA:RZ:=match Jz with|.Qa _ _ s _=>s|_=>h_ Dq
instance qU:Sh:=match Jz with|.Qa _ _ _ p=>p|_=>((0),(0),(0),(0))
abbrev JA:γ (Sh×NB):=[(qU,IM,)]
def oA:C0 ["one","two"] ["one","two"] [] YA:=(5,1,!3,5,!0,!3,!3)
def oH:vw [Q0,"second"] [Q0,"second"] (h_ EF):=Aa
def oU(i:ς.ψ f<*Rw "<lambda>" IM jZ jY YA d pm c g)(e:ς.N_ (.ο c) IM)(C:A2 ς d YA [] []):aa P w K mg ς pu 1 f (XA "<lambda>" IM jZ jY YA d pm (.ο c) g) ["one","two"] (b9 (λa b=>a||b)):=by
 refine Hr (UY:=[]) i ζ e oA C (λvs H Q E h=>?_) (λA Fr s H vs Q E j h=>?_)
 .obtain ⟨a,b,ζ,_⟩:=h;rfl
 .obtain ⟨a,b,ζ,q⟩:=h;refine(_,(yO (pv 0) (FB (pv 1))),3);cases a with
  |ξ=>show(6,aw q)
  |η=>show(6,aj (0,q))
instance EG:Nu:=Qo 30
instance cy:NB:="both.<locals>.<lambda>"
instance hX:Rb:=match (p_ EG).ML 0 (.V5 ((0),(0),(0),(0)))with
 |.XN (δ (.QG _ [_,_,l] _ _)) _=>l
 |_=>.N0 "" ((0),(0),(0),(0))
instance tz:QO:=match hX with|.Qa a _ _ _=>a|_=>([],[],ε,[],[],ε,[])
instance sY:Rb:=match hX with|.Qa _ b _ _=>b|_=>.N0 "" ((0),(0),(0),(0))
instance x_both:RZ:=match hX with|.Qa _ _ s _=>s|_=>h_ Dq
instance wQ:Sh:=match hX with|.Qa _ _ _ p=>p|_=>((0),(0),(0),(0))
abbrev JB:γ (Sh×NB):=[(wQ,cy,)]
def tY:C0 ["one","two"] ["one","two"] [] x_both:=(5,1,!3,5,!0,!3,!3)
def uc:vw [Q0,"second"] [Q0,"second"] (h_ EG):=Aa
def uu(i:ς.ψ f<*Rw "<lambda>" cy tz sY x_both d pm c g)(e:ς.N_ (.ο c) cy)(C:A2 ς d x_both [] []):aa P w K mg ς pu 1 f (XA "<lambda>" cy tz sY x_both d pm (.ο c) g) ["one","two"] (b9 (λa b=>a&&b)):=by
 refine Hr (UY:=[]) i ζ e tY C (λvs H Q E h=>?_) (λA Fr s H vs Q E j h=>?_)
 .obtain ⟨a,b,ζ,_⟩:=h;rfl
 .obtain ⟨a,b,ζ,q⟩:=h;refine(_,(FC (pv 0) (FB (pv 1))),3);cases a with
  |ξ=>show(6,aw (0,q))
  |η=>show(6,aj q)
instance EH:Nu:=Qo 31
instance cu:NB:="less.<locals>.<lambda>"
instance hV:Rb:=match (p_ EH).ML 0 (.V5 ((0),(0),(0),(0)))with
 |.XN (δ (.QG _ [_,_,l] _ _)) _=>l
 |_=>.N0 "" ((0),(0),(0),(0))
instance tu:QO:=match hV with|.Qa a _ _ _=>a|_=>([],[],ε,[],[],ε,[])
instance sX:Rb:=match hV with|.Qa _ b _ _=>b|_=>.N0 "" ((0),(0),(0),(0))
instance x_less:RZ:=match hV with|.Qa _ _ s _=>s|_=>h_ Dq
instance wP:Sh:=match hV with|.Qa _ _ _ p=>p|_=>((0),(0),(0),(0))
abbrev JC:γ (Sh×NB):=[(wP,cu,)]
def tX:C0 ["one","two"] ["one","two"] [] x_less:=(5,1,!3,5,!0,!3,!3)
def ua:vw [Q0,"second"] [Q0,"second"] (h_ EH):=Aa
def ut(i:ς.ψ f<*Rw "<lambda>" cu tu sX x_less d pm c g)(e:ς.N_ (.ο c) cu)(C:A2 ς d x_less [] []):aa P w K mg ς pu 1 f (XA "<lambda>" cu tu sX x_less d pm (.ο c) g) ["one","two"] (b9 (λa b=>a&&!b)):=by
 refine Hr (UY:=[]) i ζ e tX C (λvs H Q E h=>?_) (λA Fr s H vs Q E j h=>?_)
 .obtain ⟨a,b,ζ,_⟩:=h;rfl
 .obtain ⟨a,b,ζ,q⟩:=h;refine(_,(FC (pv 0) (FB (BP (pv 1)))),3);cases a with
  |ξ=>show(6,aw (6,q))
  |η=>show(6,aj q)
namespace H
def g_C:vw [Q0,"second","ahead","behind","entered",Z0] [Q0,"second"] (h_ y_):=Aa
set_option maxHeartbeats 8000000 in
def Gd{P:NE}{w:N1}{K:Nn}(nd:(ts.NN Up.fst).Nz)(i0:(P0,ON,)∈ts)(i1:(P1,W3,)∈ts){oc kV Pm pm ct b6 bo aN bk U bS cV:θ}(lk:K.ρ f<*(oc,od,.Qb (Px "then" "then" (t5 y_) (p_ y_) (h_ y_) .ε kV Pm pm an (.ο c) ct),eB))(dn:PD K (.ο c) "then"=ξ)(lw:K.ρ fw<*(b6,cU,.Qb (Px "walked" "walked" (t5 Bt) (p_ Bt) (h_ Bt) (.ο tD) bo aN bk an2 U bS),osl2))(cw:PD K U "walked"=ξ)(kw:UR K (.ο fw)=ξ)(mw:mg "walked"<*.ο fw)(lD:K.ρ tD<*(cV,eC,.Sz #[.ε] nD,er))(WT:Gy K mg cW fI fdI)(b1:mg "len"=ε)(a0:mg "zip"=ε)(hC:QI ς c P1)(hB:DB ς mg)(DL:∀ς:NR,Df P w K mg ς "lots_after" 1 [Q0,Q4] Tm)(DH:∀ς:NR,Df P w K mg ς "has_marked" 1 [Q0,Q4] Xy)(DT:∀ς:NR,Df P w K mg ς "lot_of" 1 [Q4] (HH K))(d5:AT P w K mg ς "need_same_letters" 1 [Q0,"second"] (Jx cOL))(cM:Df P w K mg ς "least" 7 [Q0] (IJ P0 ON))(d6:AT P w K mg ς "told" 4 [Q8] (G1 cW XH)):aa P w K mg ς (Am P w) 8 f (Px "then" "then" (t5 y_) (p_ y_) (h_ y_) .ε kV Pm pm an (.ο c) ct) [Q0,"second"] (bE XH ts cR):=by
 refine Ht lk dn g_C (λvs H Q E h=>?_) (λA Fr s H vs Q E hr h=>?_)
 .obtain ⟨m,m2,L,W1,Z,B1,B2,ζ,_⟩:=h;rfl
 .obtain ⟨n1,n2,L,V1,V2,D1,D2,ζ,hN1,hNa1,cD,hNa2,h18,h28,hA,qE,q⟩:=h;let cC:=hA _ i0;let dc:=hr.Pk (j:=1) (!0);let da:=hr.Pk (j:=2) (!0);let c8:=hr.Pk (j:=4) (!0);let c7:=hr.Pk (j:=5) (!0);refine(_,(m_ (BB (Cu d5 dc (CL λ_ _ _ z=>z) (q_ (pv 0) (pv 1)))) (m_ (va 2 g_C.nd (wx cM hr (o_ (pv 0)))) (m_ (va 3 g_C.nd (wx cM hr (o_ (pv 1)))) (m_ (FO (i:=4) (M6:=Yq) (c:=c) (P0:=P1) (ON:=W3) g_C.nd ζ (Or.NU ζ) ζ hC hB (!3) (!3)) (m_ (FO (i:=5) (M6:=Vy) (c:=c) (P0:=P1) (ON:=W3) g_C.nd ζ (Or.NJ ζ) ζ hC hB (!3) (!3)) (k_ (o9 (Cu d6 c8 (CL λ_ _ _ z=>z) (o_ (Ic (Xb:=[.Rv]) ζ mw kw (IG (kV:=bo) (Pm:=aN) (pm:=bk) (an:=an2) (Qm:=U) (ct:=bS) lD) (.NZ ζ .Ow) (Bp (Ae 2) (wm (qP (i:=4) [Z4,Q4] (pv 4) (q_ b' (AA Dh)) (λ_=>rfl)) (pv 5) (Hq (M6:=Xj) (c:=c) (P0:=P1) (ON:=W3) ζ hC hB (!3) (!3)))) (λ_=>rfl))))))))))),3);refine(6,n1,n2,L,L,V1,D1,V2,D2,1,hN1,hNa1,cD,hNa2,λz=>MM ζ z,λ_=>?_);refine(0,n1,L,V1,D1,1,hN1,hNa1,cC,λm W1 B1 Ha sa bD d1 T=>?_);let kA:KT ts H Ha:=KT.ofX nd i0 sa cC bD;let cP:=kA.sm;refine(0,n2,L,V2,D2,1,cD.QT cP.No,hNa2,bD,λm2 Z B2 H0 sb dy d0 S=>?_);let F:=T.Sj;let J:=S.Sj;let d2:W1.β≤8:=IO T.PQ h18;let aM:Z.β≤8:=IO S.PQ h28;let kB:KT ts Ha H0:=KT.ofX nd i0 sb bD dy;let hT:A_ H0 P1 W3:=kB.tb (kA.tb hA) _ i1;let cO:=kB.sm;let aH:Two H0 m m2 L W1 Z B1 B2:=(d1.QT cO.No,d0);refine(hT,λI C c1 H1 a3 bg e6 eO s1 cB co ch=>(cB,λaS Y X H2 b3 cs e5 eN s2 bP dp dk=>?_));let b5:Cv P1 H0 H2:=Ie s1 s2;let a2:=FU b5 hT;let D:Two H2 m m2 L W1 Z B1 B2:=(aH.1.QT a2,aH.2.QT a2);let⟨wy,mk,ee,h1,h2,h3,h4,h5⟩:=id D.1;let⟨eu,dT,_⟩:=id cB;let⟨et,dz,_⟩:=id bP;let cd:∀{b:υ}{φ:NR->Prop},H1 b<*.ext φ->b≠P1:=λ{b φ}e z=>by rw[z,dT]at e;cases e
  let cX:∀{b:υ}{φ:NR->Prop},H2 b<*.ext φ->b≠P1:=λ{b φ}e z=>by rw[z,dz]at e;cases e
  let az:H2 C<*Ak C "entered" Yq (t5 aW) (p_ aW) (h_ aW) I c1:=s2 _ _ (cd ch) ch;let a9:H2 c1<*pd c1 Yq:=s2 _ _ (cd co) co;refine(z8 h1 aL (C,1,(7,7,7,_,az),Nf _,λel dm=>?_));let sE:a' H2 (L2.MT H2 el (.M7 [])):=a'.MT dm;let aA:L2.MT H2 el (.M7 []) el<*.M7 (c_ []):=j_;generalize L2.MT H2 el (.M7 [])=H2' at sE aA;let as:=sE _ _ az;let a8:=sE _ _ a9;let aB:Two H2' m m2 L W1 Z B1 B2:=(D.1.OR sE,D.2.OR sE);let cx:∀u∈[C,c1],∃φ,H2' u<*.ext φ:=λu W=>by
   simp only[MP,NV,N7]at W;rcases W with ζ|rfl
   .exact (_,as)
   .exact (_,a8)
  refine((7,7,7,_,as),[C,c1],cx,λM bV=>?_);let⟨eg,ev,ek,d4⟩:=bV.XD C _ (!1) as;let ea:M.N_ (.ο c1) Yq:=bV.XD c1 _ (!1) a8;let C5:A2 M I (h_ aW) ["ahead"] [.ο m]:=Gv bV a3 bg ζ λi y v l B=>by
   match i,l,B with
   |0,l,B=>cases l;cases B;show(((2),5),5)
   |i+1,l,_=>simp at l
  let ar:∀{b:υ}{o:HO},H2' b<*o->(∀φ,o≠.ext φ)->b∉[C,c1]:=λ{b o}e ho O=>by
   let⟨φ,B⟩:=cx b O;rw[e]at B;show ho φ (ω.δ.QK B)
  let a1:∀b xs,H2' b<*.No xs->Al [C,c1] H2' b<*.No xs:=λb xs e=>by rw[BH (ar e (λ_ z=>nomatch z))];show e
  refine((2),kE B1 W1.β Z.β (λH=>Two H m m2 L W1 Z B1 B2),_,da,.QD λus hl=>by let⟨_,_,ζ⟩:=Gw hl;rfl,vH d4 ea C5 F J aM (DT M),(0),el,[],ζ,by rw[BH (ar aA (λ_ z=>nomatch z))];show aA,F.n1,!1,!1,(aB.1.QT a1,aB.2.QT a1),λst b0 cS bs dv=>?_);let s3:a' H2 (UB [C,c1] H2' b0):=λb o e=>by
   let e':=sE _ _ e;by_cases O:b∈[C,c1]
   .rw [GN O];show e'
   .rw [Ef O];show cS b o (by rw[BH O];show e')
  let a4:bq .p (UB [C,c1] H2' b0) (dW B1 0 []) st:=bs.OR λb xs e=>by
   rw[Ef λO=>?_]
   .exact e
   .rw [dv b O]at e;cases e
  generalize UB [C,c1] H2' b0=H3 at s3 a4;let bM:=Gs bP s3;refine(0,bM,λbU f3 c3 N b2 cp e4 eH s4 cA cl cg=>?_);let⟨es,e3,e0,ds⟩:=id cA;let aT:∀{b:υ}{φ:NR->Prop},H2 b<*.ext φ->N b<*.ext φ:=λe=>s4 _ _ (cX e) (s3 _ _ e);let a6:N C<*Ak C "entered" Yq (t5 aW) (p_ aW) (h_ aW) I c1:=aT az;let bd:N c1<*pd c1 Yq:=aT a9;let a5:N Y<*Ak Y Z0 Vy (t5 ax) (p_ ax) (h_ ax) aS X:=aT dk;let a7:N X<*pd X Vy:=aT dp;let ap:=FU s4 bM;let aC:Two N m m2 L W1 Z B1 B2:=((D.1.OR s3).QT ap,(D.2.OR s3).QT ap);let cf:bq .p N (dW B1 0 []) st:=a4.OR ap;let cv:∀u∈[C,Y,f3,c1,X,c3],∃φ,N u<*.ext φ:=λu W=>by
   simp only[MP,NV,N7]at W;rcases W with ζ|rfl|rfl|rfl|rfl|rfl
   .exact (_,a6)
   .exact (_,a5)
   .exact (_,cg)
   .exact (_,bd)
   .exact (_,a7)
   .exact (_,cl)
  refine([C,Y,f3,c1,X,c3],cv,λg Wd=>?_);let⟨ej,eA,ep,cK⟩:=Wd.XD C _ (!1) a6;let⟨ei,ez,eo,cI⟩:=Wd.XD Y _ (!1) a5;let⟨ey,en,cH⟩:=Wd.XD f3 _ (!1) cg;let ed:g.N_ (.ο c1) Yq:=Wd.XD c1 _ (!1) bd;let ec:g.N_ (.ο X) Vy:=Wd.XD X _ (!1) a7;let eb:g.N_ (.ο c3) Xj:=Wd.XD c3 _ (!1) cl;let C1:A2 g I (h_ aW) ["ahead"] [.ο m]:=Gv Wd a3 bg ζ λi y v l B=>by
   match i,l,B with
   |0,l,B=>cases l;cases B;show(((2),5),5)
   |i+1,l,_=>simp at l
  let C2:A2 g aS (h_ ax) ["ahead","behind","entered"] [.ο m,.ο m2,.ο C]:=Gv Wd b3 cs ζ λi y v l B=>by
   match i,l,B with
   |0,l,B=>cases l;cases B;show(((2),5),5)
   |1,l,B=>cases l;cases B;show(((3),5),5)
   |2,l,B=>cases l;cases B;show(((4),5),5)
   |i+3,l,_=>simp at l
  let C3:A2 g bU Qp ["behind"] [.ο m2]:=Gv Wd b2 cp ζ λi y v l B=>by
   match i,l,B with
   |0,l,B=>cases l;cases B;show(((3),5),5)
   |i+1,l,_=>simp at l
  let Fw:j7 K "walked" "walked" Bt fw _:=((b6,cU,.ο tD,bo,aN,bk,an2,U,bS,osl2,1,lw,cw),kw);refine((5),Hm cW .p L (Hw W1 B1 Z) (w4 B2) (EC W1.β Z.β) (λH=>Two H m m2 L W1 Z B1 B2) Y f3,c7,ID Fw WT b1 a0 ((rh cI ec C2 F J a0 (DL g) cK (.QD λus hl=>by let⟨_,_,ζ⟩:=Gw hl;rfl) (vH cK ed C1 F J aM (DT g))).Pk (!0)) ((re cH eb C3 J (DH g)).Pk (!0)) cI (_,ζ) cH (_,ζ) (.QD λus hl=>by let⟨_,ζ⟩:=D6 hl;rfl) (.QD λus hl=>by let⟨_,ζ⟩:=D6 hl;rfl) (λ_ _ s h=>(h.1.OR s,h.2.OR s)),3);let bm:∀{b:υ}{o:HO},N b<*o->(∀φ,o≠.ext φ)->b∉[C,Y,f3,c1,X,c3]:=λ{b o}e ho O=>by
   let⟨φ,B⟩:=cv b O;rw[e]at B;show ho φ (ω.δ.QK B)
  let ag:∀b xs,N b<*.No xs->Al [C,Y,f3,c1,X,c3] N b<*.No xs:=λb xs e=>by rw[BH (bm e (λ_ z=>nomatch z))];show e
  let aV:=tQ (n1:=W1.β) Z.β d2;refine(dW B1 0 [],.ο st,ε,1,F.lt,3,jG aM J.n1 F.n1 (!1),uU F J aM,IO aV (!0),(aC.1.QT ag,aC.2.QT ag),λwk t wd y md ks eq ws bi R Bm H5 cN hW ht eS c5 hy ce dd bf ab bl c4 Rr le he dt=>?_)
  .unfold Av;rw[BT (!0)];show(st,1,cf.OR ag)
  let hR:R.β=ks.β:=by
   rcases he with z|⟨n,z,_⟩
   .exact z
   .cases z
  let TL:∀{b:υ}{o:HO},H5 b<*o->UB [C,Y,f3,c1,X,c3] N H5 b<*o:=λ{b o}e=>by
   rw[Ef λO=>?_]
   .exact e
   .rw [dt b O]at e;cases e
  let d3:∀{b:υ}{o:HO},N b<*o->UB [C,Y,f3,c1,X,c3] N H5 b<*o:=λ{b o}e=>by
   by_cases O:b∈[C,Y,f3,c1,X,c3]
   .rw [GN O];show e
   .exact TL (cN b o (by rw[BH O];show e))
  rw[hR]at bf;let⟨dx,ew⟩:=hW.ex;let kT:KT ts H (UB [C,Y,f3,c1,X,c3] N H5):=(kA.ν (kB.ν ((KT.ofX nd i1 b5 hT bP).ν ((KT.of s3).ν (KT.ofX nd i1 s4 bM cA))))).ν (KT.of λb o e=>d3 e);let aU:=Ik (Bm:=Bm) F.lt bf ab hR bl (IO le (IO aV (!0)));refine(wk,t,wd,y,md,bi,L,R,Bm,ws,1,(dx,TL ew),TL hy,(ce.1,λi a r l B=>TL (ce.2 i a r l B)),TL dd,TL c5,by rw[hR];show bf.PQ.MQ,aU,λd H' s' p=>qE d H' (kT.ν (KT.of s')) p,λmm k ff H6 hm b4 de s6 hf dV=>?_);refine q ff _ _ H6 (kT.ν (KT.of s6)) dV (GP hm aU) (Ip de) (Io bf ab hR aU b4 hm) λu W=>?_;unfold AX cR;dsimp only;rw[Ho hm aU b4 W,Il bf ab hR bl c4 W,qg F J aM W];constructor
  .rintro⟨x,v,ζ,l,B⟩;show(x,v,1,by rw[<-T.YH hNa1 λc hc=>W c (by simp[hc])];show l,by rw[<-S.YH hNa2 λc hc=>W c (by simp[hc])];show B)
  .rintro⟨x,v,ζ,l,B⟩;show(x,v,1,by rw[T.YH hNa1 λc hc=>W c (by simp[hc])];show l,by rw[S.YH hNa2 λc hc=>W c (by simp[hc])];show B)
end H
namespace A
def g_h:vw [Q0,"piece","entered",Z0] [Q0] (h_ vb):=Aa
def Fk{P:NE}{w:N1}{K:Nn}(nd:(ts.NN Up.fst).Nz)(i0:(P0,ON,)∈ts)(i1:(P1,W4,)∈ts){oc kV Pm pm ct a9 aT T aN J a1 b5:θ}(lk:K.ρ f<*(oc,od,.Qb (Px "again" "again" (t5 vb) (p_ vb) (h_ vb) .ε kV Pm pm an (.ο c) ct),dy))(cx:PD K (.ο c) "again"=ξ)(lw:K.ρ fw<*(a9,b4,.Qb (Px "walked" "walked" (t5 Bt) (p_ Bt) (h_ Bt) (.ο tD) aT T aN an2 J a1),osl2))(cw:PD K J "walked"=ξ)(kw:UR K (.ο fw)=ξ)(mw:mg "walked"<*.ο fw)(lD:K.ρ tD<*(b5,dz,.Sz #[.ε] nD,dk))(WT:Gy K mg cW fI fdI)(a3:mg "len"=ε)(a2:mg "zip"=ε)(hC:QI ς c P1)(hB:DB ς mg)(DL:∀ς:NR,Df P w K mg ς "lots_after" 1 [Q0,Q4] Tm)(DH:∀ς:NR,Df P w K mg ς "has_marked" 1 [Q0,Q4] Xy)(DT:∀ς:NR,Df P w K mg ς "lot_of" 1 [Q4] (HH K))(cP:Df P w K mg ς "least" 7 [Q0] (IJ P0 ON))(cS:AT P w K mg ς "told" 4 [Q8] (G1 cW XH)):aa P w K mg ς (Am P w) 8 f (Px "again" "again" (t5 vb) (p_ vb) (h_ vb) .ε kV Pm pm an (.ο c) ct) [Q0] (gq XH ts Ag):=by
 refine Ht lk cx g_h (λvs H Q E h=>?_) (λA Fr s H vs Q E hr h=>?_)
 .obtain ⟨m,L,W,B,ζ,_⟩:=h;rfl
 .obtain ⟨m0,L,W0,B0,ζ,cN,aC,hW8,hA,qE,q⟩:=h;let bU:=hA _ i0;let cl:=hr.Pk (j:=4) (!0);let ch:=hr.Pk (j:=5) (!0);refine(_,(m_ (va 1 g_h.nd (wx cP hr (o_ (pv 0)))) (m_ (FO (i:=2) (M6:=q_ae) (c:=c) (P0:=P1) (ON:=W4) g_h.nd ζ (Or.NU ζ) ζ hC hB (!3) (!3)) (m_ (FO (i:=3) (M6:=q_ag) (c:=c) (P0:=P1) (ON:=W4) g_h.nd ζ (Or.NJ ζ) ζ hC hB (!3) (!3)) (k_ (o9 (Cu cS cl (CL λ_ _ _ z=>z) (o_ (Ic (Xb:=[.Rv]) ζ mw kw (IG (kV:=aT) (Pm:=T) (pm:=aN) (an:=an2) (Qm:=J) (ct:=a1) lD) (.NZ ζ .Ow) (Bp (Ae 1) (wm (Bg (q_ BK (Bg (o_ b')))) (pv 3) (Hq (M6:=q_al) (c:=c) (P0:=P1) (ON:=W4) ζ hC hB (!3) (!3)))) (λ_=>rfl))))))))),3);refine(0,m0,L,W0,B0,1,cN,aC,bU,λm W B H0 s0 bS hM a0=>?_);let D:=a0.Sj;let h8:W.β≤8:=IO a0.PQ hW8;let kA:KT ts H H0:=KT.ofX nd i0 s0 bU bS;let hT:A_ H0 P1 W4:=kA.tb hA _ i1;refine(hT,λX O c1 H1 a6 bs d6 d0 s1 bP cB cv=>(bP,λU N M H2 a5 bo d5 dV s2 aV cA cs=>?_));let a8:Cv P1 H0 H2:=Ie s1 s2;let bV:zl H2 m L W B:=hM.QT (FU a8 hT);let⟨wy,mk,c5,h1,h2,h3,h4,h5⟩:=id bV;refine(z8 h1 aL (sT (by change 1≤16777216;decide),λzt cf=>(sT (by change 2≤16777216;decide),λst Rx=>?_)));let s3:a' H2 (L2.MT (L2.MT H2 zt (.No [.MS 0])) st (.No [.bl ξ,.ο zt])):=(a'.MT cf).ν (a'.MT Rx);let ar:bq .q (L2.MT (L2.MT H2 zt (.No [.MS 0])) st (.No [.bl ξ,.ο zt])) [1,0] st:=(zt,(1),[0],1,LE _,j_,Ai j_ Rx);generalize L2.MT (L2.MT H2 zt (.No [.MS 0])) st (.No [.bl ξ,.ο zt])=H3 at s3 ar;let aU:=Gs aV s3;refine(0,aU,λcU Y Z C a4 bm d4 dT s4 bM bk bi=>?_);let⟨dp,cI,_⟩:=id bP;let⟨dn,cH,_⟩:=id aV;let⟨dm,d3,d2,cC⟩:=id bM;let cd:∀{b:υ}{φ:NR->Prop},H1 b<*.ext φ->b≠P1:=λ{b φ}e z=>by rw[z,cI]at e;cases e
  let b6:∀{b:υ}{φ:NR->Prop},H2 b<*.ext φ->b≠P1:=λ{b φ}e z=>by rw[z,cH]at e;cases e
  let aH:∀{b:υ}{φ:NR->Prop},H2 b<*.ext φ->C b<*.ext φ:=λe=>s4 _ _ (b6 e) (s3 _ _ e);let up1:∀{b:υ}{φ:NR->Prop},H1 b<*.ext φ->C b<*.ext φ:=λe=>aH (s2 _ _ (cd e) e);let az:C O<*Ak O "entered" q_ae (t5 bv) (p_ bv) (h_ bv) X c1:=up1 cv;let aB:C c1<*pd c1 q_ae:=up1 cB;let as:C N<*Ak N Z0 q_ag (t5 bh) (p_ bh) (h_ bh) U M:=aH cs;let aA:C M<*pd M q_ag:=aH cA;let ap:=FU s4 aU;let cM:zl C m L W B:=(bV.OR s3).QT ap;let bg:bq .q C [1,0] st:=ar.OR ap;let bD:∀u∈[O,N,Y,c1,M,Z],∃φ,C u<*.ext φ:=λu hu=>by
   simp only[MP,NV,N7]at hu;rcases hu with ζ|rfl|rfl|rfl|rfl|rfl
   .exact (_,az)
   .exact (_,as)
   .exact (_,bi)
   .exact (_,aB)
   .exact (_,aA)
   .exact (_,bk)
  refine([O,N,Y,c1,M,Z],bD,λg Wd=>?_);let⟨c8,dv,dd,b2⟩:=Wd.XD O _ (!1) az;let⟨c7,dt,dc,b1⟩:=Wd.XD N _ (!1) as;let⟨ds,da,b0⟩:=Wd.XD Y _ (!1) bi;let c4:g.N_ (.ο c1) q_ae:=Wd.XD c1 _ (!1) aB;let cX:g.N_ (.ο M) q_ag:=Wd.XD M _ (!1) aA;let cV:g.N_ (.ο Z) q_al:=Wd.XD Z _ (!1) bk;let C1:A2 g X (h_ bv) ["piece"] [.ο m]:=Gv Wd a6 bs ζ λi y v F I=>by
   match i,F,I with
   |0,F,I=>cases F;cases I;show(((1),5),5)
   |i+1,F,_=>simp at F
  let C2:A2 g U (h_ bh) ["entered","piece"] [.ο O,.ο m]:=Gv Wd a5 bo ζ λi y v F I=>by
   match i,F,I with
   |0,F,I=>cases F;cases I;show(((2),5),5)
   |1,F,I=>cases F;cases I;show(((1),5),5)
   |i+2,F,_=>simp at F
  let C3:=Tu.Da (sc:=Qp) Wd a4 bm;let Fw:j7 K "walked" "walked" Bt fw _:=((a9,b4,.ο tD,aT,T,aN,an2,J,a1,osl2,1,lw,cw),kw);refine((5),Hm cW .q L (Hv W B) xa (Fb W.β) (λH=>zl H m L W B) N Y,ch,ID Fw WT a3 a2 ((yV b1 cX C2 D h8 (DL g) b2 (.QD λus hl=>by let⟨_,ζ⟩:=D6 hl;rfl) (yW b2 c4 C1 D h8 (DH g) (DT g))).Pk (!0)) ((yU b0 cV C3 _ _).Pk (!0)) b1 (_,ζ) b0 (_,ζ) (.QD λus hl=>by let⟨_,ζ⟩:=D6 hl;rfl) (.QD λus hl=>by let⟨_,ζ⟩:=D6 hl;rfl) (λ_ _ s h=>h.OR s),3);let aS:∀{b:υ}{o:HO},C b<*o->(∀φ,o≠.ext φ)->b∉[O,N,Y,c1,M,Z]:=λ{b o}e ho hb=>by
   let⟨φ,I⟩:=bD b hb;rw[e]at I;show ho φ (ω.δ.QK I)
  let ag:∀b xs,C b<*.No xs->Al [O,N,Y,c1,M,Z] C b<*.No xs:=λb xs e=>by rw[BH (aS e (λ_ z=>nomatch z))];show e
  refine([1,0],.ο st,ε,1,D.lt,3,Cz (l:=[0]) (!1) (LE _) (λx hx=>by rw[Ay hx];show D.n1),FX D h8,IO (mI _) (!0),cM.QT ag,λwk t wd y md ks de ws aM R Bm H5 b3 hW ht d1 cg hy bd co bf S bl ce Rr le he cD=>?_)
  .unfold Av;rw[BT (!0)];show(st,1,bg.OR ag)
  let hR:R.β=ks.β:=by
   rcases he with z|⟨n,z,_⟩
   .exact z
   .cases z
  let TL:∀{b:υ}{o:HO},H5 b<*o->UB [O,N,Y,c1,M,Z] C H5 b<*o:=λ{b o}e=>by
   rw[Ef λhb=>?_]
   .exact e
   .rw [cD b hb]at e;cases e
  let cO:∀{b:υ}{o:HO},C b<*o->UB [O,N,Y,c1,M,Z] C H5 b<*o:=λ{b o}e=>by
   by_cases hb:b∈[O,N,Y,c1,M,Z]
   .rw [GN hb];show e
   .exact TL (b3 b o (by rw[BH hb];show e))
  rw[hR]at bf;let⟨dx,ew⟩:=hW.ex;let kT:KT ts H (UB [O,N,Y,c1,M,Z] C H5):=(kA.ν ((KT.ofX nd i1 a8 hT aV).ν ((KT.of s3).ν (KT.ofX nd i1 s4 aU bM)))).ν (KT.of λb o e=>cO e);let ab:=Ik (Bm:=Bm) D.lt bf S hR bl (IO le (IO (mI _) (!0)));refine(wk,t,wd,y,md,aM,L,R,Bm,ws,1,(dx,TL ew),TL hy,(bd.1,λi a r F I=>TL (bd.2 i a r F I)),TL co,TL cg,by rw[hR];show bf.PQ.MQ,ab,λd H' s' p=>qE d H' (kT.ν (KT.of s')) p,λmm k ff H6 hm a7 cp s6 hf cK=>?_);refine q ff _ _ H6 (kT.ν (KT.of s6)) cK (GP hm ab) (Ip cp) (Io bf S hR ab a7 hm) λu hu=>?_;unfold AX;rw[Ho hm ab a7 hu,Il bf S hR bl ce hu,tq D h8 hu];let tk:∀v:LN,(∀c∈v,c∈u)->B.ML (PM L W 0 v) η=B0.ML (PM L W0 0 v) η:=λv hv=>a0.YH aC λc hc=>hu c (hv c hc);show(λz=>z.congr tk,λz=>z.congr λv hv=>(tk v hv).MQ)
end A
inductive IN(P:Program)(w:World)(K:Frag)(mg:Str->Option Value)(cTM:Addr)(ts:List (Addr×List (Pos×Str)))(vs:List V)(H:Hp)(Q:VK)(E:XK):Prop
 |mk (m m2 g cg:Addr) (L:LN) (W1 W2:LL) (B1 B2:List Bool) (rule:Bool->Bool->Bool) (_:vs=[.ref m,.ref m2,.ref g]) (_:zl H m L W1 B1) (_:g_ L W1 B1) (_:zl H m2 L W2 B2) (_:g_ L W2 B2) (_:W1.length≤8) (_:W2.length≤8) (_:xL P w K mg H g cg rule) (_:bG ts H) (_:(∀d H',KT ts H H'->P8 H' d->E (.ref cTM) (some d) H')) (_:∀(f:Addr)(W':LL)(B':List Bool)(H':Hp),KT ts H H'->zl H' f L W' B'->g_ L W' B'->W'.length≤8->(∃v,BI L W' B' v)->(∀u:LN,(∀c∈u,c∈L)->(AX L W' B' u=true↔D0 rule (AX L W1 B1) (AX L W2 B2) u))->Q (.ref f) H')
def g_E:vw [Q0,"second","is_wanted",Z0,Q7] [Q0,"second","is_wanted"] (h_ Dq):=Aa
set_option maxHeartbeats 8000000 in
def oX{P:NE}{w:N1}{K:Nn}(nd:(ts.NN Up.fst).Nz)(i1:(P1,ca,)∈ts){oc kV Pm pm ct a4 aT U aN F aU b4:θ}(lk:K.ρ f<*(oc,od,.Qb (Px "paired" "paired" (t5 Dq) (p_ Dq) (h_ Dq) .ε kV Pm pm an (.ο c) ct),dn))(co:PD K (.ο c) "paired"=ξ)(lw:K.ρ fw<*(a4,b3,.Qb (Px "walked" "walked" (t5 Bt) (p_ Bt) (h_ Bt) (.ο tD) aT U aN an2 F aU),osl2))(cw:PD K F "walked"=ξ)(kw:UR K (.ο fw)=ξ)(mw:mg "walked"<*.ο fw)(lD:K.ρ tD<*(b4,dp,.Sz #[.ε] nD,da))(WT:Gy K mg cW fI fdI)(aV:mg "len"=ε)(ag:mg "zip"=ε)(aH:mg "list"=ε)(hC:QI ς c P1)(hB:DB ς mg)(cM:AT P w K mg ς "need_same_letters" 1 [Q0,"second"] (Jx cOL))(cN:AT P w K mg ς "told" 4 [Q8] (G1 cW XH)):aa P w K mg ς (Am P w) 6 f (Px "paired" "paired" (t5 Dq) (p_ Dq) (h_ Dq) .ε kV Pm pm an (.ο c) ct) [Q0,"second","is_wanted"] (IN P w K mg XH ts):=by
 refine Ht lk co g_E (λvs H Q E h=>?_) (λA Fr s H vs Q E hr h=>?_)
 .obtain ⟨m,m2,g,M,L,W1,W2,B1,B2,Wc,ζ,_⟩:=h;rfl
 .obtain ⟨m,m2,g,M,L,W1,W2,B1,B2,Wc,ζ,bP,D,bM,T,h18,h28,hRu,hA,qE,q⟩:=h;let hT:=hA _ i1;let ce:=hr.Pk (j:=1) (!0);let cd:=hr.Pk (j:=4) (!0);refine(_,(m_ (BB (Cu cM ce (CL λ_ _ _ z=>z) (q_ (pv 0) (pv 1)))) (m_ (FO (i:=3) (M6:=q_pg) (c:=c) (P0:=P1) (ON:=ca) g_E.nd ζ (Or.NJ ζ) ζ hC hB (!3) (!3)) (m_ (FO (i:=4) (M6:=q_pm) (c:=c) (P0:=P1) (ON:=ca) g_E.nd ζ (Or.NJ ζ) ζ hC hB (!3) (!3)) (k_ (o9 (Cu cN cd (CL λ_ _ _ z=>z) (o_ (Ic (Xb:=[.Rv]) ζ mw kw (IG (kV:=aT) (Pm:=U) (pm:=aN) (an:=an2) (Qm:=F) (ct:=aU) lD) (.NZ ζ .Ow) (Bp (Ae 0) (wm (Bg (q_ b' b')) (pv 3) (pv 4))) (λ_=>rfl))))))))),3);refine(6,m,m2,L,L,W1,B1,W2,B2,1,bP,D,bM,T,λz=>MM ζ z,λ_=>?_);refine(hT,λX I c1 H1 a1 bm dV dt s1 bD bi bd=>(bD,λW J Y Z a0 bk dT ds s2 bs bg cl=>?_));let S:Cv P1 H Z:=Ie s1 s2;let bS:zl Z m L W1 B1:=bP.QT (FU S hT);let cH:zl Z m2 L W2 B2:=bM.QT (FU S hT);let⟨de,cx,_⟩:=id hT;let⟨dd,cv,_⟩:=id bD;let⟨M6,b1,c7,sc,c5,a9,aA,cB,cC⟩:=hRu.ex;let nP:∀{b:υ}{φ:NR->Prop},H1 b<*.ext φ->b≠P1:=λ{b φ}e z=>by rw[z,cv]at e;cases e
  let a5:∀{b:υ}{φ:NR->Prop},H b<*.ext φ->b≠P1:=λ{b φ}e z=>by rw[z,cx]at e;cases e
  let a8:=S g _ (a5 a9) a9;let az:=S M _ (a5 aA) aA;let as:Z I<*Ak I Z0 q_pg (t5 bu) (p_ bu) (h_ bu) X c1:=s2 I _ (nP bd) bd;let aB:Z c1<*pd c1 q_pg:=s2 c1 _ (nP bi) bi;let ar:Z J<*Ak J Q7 q_pm (t5 bt) (p_ bt) (h_ bt) W Y:=cl;let⟨wy,mk,cU,h1,h2,h3,h4,h5⟩:=id bS;refine(z8 h1 aL (sT (by change 2≤16777216;decide),λst Rx=>?_));let C:a' Z (L2.MT Z st (.No [.MS 0,.MS 0])):=a'.MT Rx;let ap:L2.MT Z st (.No [.MS 0,.MS 0]) st<*.No (c_ [0,0]):=j_;generalize L2.MT Z st (.No [.MS 0,.MS 0])=H3 at C ap;let cI:=bS.OR C;let cD:=cH.OR C;let⟨dc,dz,dy,cp⟩:=Gs bs C;let bo:∀u∈[I,J,c1,Y,g,M],∃φ,H3 u<*.ext φ:=λu hu=>by
   simp only[MP,NV,N7]at hu;rcases hu with ζ|rfl|rfl|rfl|rfl|rfl
   .exact (_,C _ _ as)
   .exact (_,C _ _ ar)
   .exact (_,C _ _ aB)
   .exact (_,C _ _ bg)
   .exact (_,C _ _ a8)
   .exact (_,C _ _ az)
  refine(6,[I,J,c1,Y,g,M],bo,λl Wd=>?_);let⟨cX,dm,c4,b0⟩:=Wd.XD I _ (!1) (C _ _ as);let⟨cV,dk,c3,bV⟩:=Wd.XD J _ (!1) (C _ _ ar);let⟨a3,aC,bU⟩:=Wd.XD g _ (!1) (C _ _ a8);let cS:l.N_ (.ο c1) q_pg:=Wd.XD c1 _ (!1) (C _ _ aB);let cP:l.N_ (.ο Y) q_pm:=Wd.XD Y _ (!1) (C _ _ bg);let cO:l.N_ (.ο M) M6:=Wd.XD M _ (!1) (C _ _ az);let C1:A2 l X (h_ bu) [Q0,"second"] [.ο m,.ο m2]:=Gv Wd a1 bm ζ λi y v x B=>by
   match i,x,B with
   |0,x,B=>cases x;cases B;show(((0),5),5)
   |1,x,B=>cases x;cases B;show(((1),5),5)
   |i+2,x,_=>simp at x
  let C2:A2 l W (h_ bt) ["is_wanted",Q0,"second"] [.ο g,.ο m,.ο m2]:=Gv Wd a0 bk ζ λi y v x B=>by
   match i,x,B with
   |0,x,B=>cases x;cases B;show(((2),5),5)
   |1,x,B=>cases x;cases B;show(((0),5),5)
   |2,x,B=>cases x;cases B;show(((1),5),5)
   |i+3,x,_=>simp at x
  let Fw:j7 K "walked" "walked" Bt fw _:=((a4,b3,.ο tD,aT,U,aN,an2,F,aU,osl2,1,lw,cw),kw);refine((5),Hm cW .t L (gP W1 W2) (LH Wc B1 B2) (uP W1.β W2.β) (λH=>Two H m m2 L W1 W2 B1 B2) I J,hr,ID Fw WT aV ag ((yT b0 cS C1 D T aH ag).Pk (!0)) ((yS bV cP C2 D T bU (cC a3 aC) (cB l a3 aC bU cO)).Pk (!0)) b0 (_,ζ) bV (_,ζ) (.QD λus hl=>by let⟨_,ζ⟩:=D6 hl;rfl) (.QD λus hl=>by let⟨_,ζ⟩:=D6 hl;rfl) (λ_ _ s h=>(h.1.OR s,h.2.OR s)),3);let aS:∀{b:υ}{o:HO},H3 b<*o->(∀φ,o≠.ext φ)->b∉[I,J,c1,Y,g,M]:=λ{b o}e ho hb=>by
   let⟨φ,B⟩:=bo b hb;rw[e]at B;show ho φ (ω.δ.QK B)
  let O:∀b xs,H3 b<*.No xs->Al [I,J,c1,Y,g,M] H3 b<*.No xs:=λb xs e=>by rw[BH (aS e (λ_ z=>nomatch z))];show e
  refine([0,0],.ο st,ε,1,D.lt,3,qa D.n1 T.n1,xR D T,IO (vB h18 h28) (!0),(cI.QT O,cD.QT O),λwk t wd y md ks c8 ws aM R Bm H5 b2 hW ht dv b6 hy a7 cf bf N bl b5 Rr le he cs=>?_)
  .unfold Av;rw[BT (!0)];show(st,1,O _ _ ap)
  let hR:R.β=ks.β:=by
   rcases he with z|⟨n,z,_⟩
   .exact z
   .cases z
  let TL:∀{b:υ}{o:HO},H5 b<*o->UB [I,J,c1,Y,g,M] H3 H5 b<*o:=λ{b o}e=>by
   rw[Ef λhb=>?_]
   .exact e
   .rw [cs b hb]at e;cases e
  let cK:∀{b:υ}{o:HO},H3 b<*o->UB [I,J,c1,Y,g,M] H3 H5 b<*o:=λ{b o}e=>by
   by_cases hb:b∈[I,J,c1,Y,g,M]
   .rw [GN hb];show e
   .exact TL (b2 b o (by rw[BH hb];show e))
  rw[hR]at bf;let⟨dx,ew⟩:=hW.ex;let kT:KT ts H (UB [I,J,c1,Y,g,M] H3 H5):=(KT.ofX nd i1 S hT bs).ν (KT.of λb o e=>cK (C _ _ e));let a6:=IO le (vB h18 h28);let ab:=Ik (Bm:=Bm) D.lt bf N hR bl (IO a6 (!0));refine(wk,t,wd,y,md,aM,L,R,Bm,ws,1,(dx,TL ew),TL hy,(a7.1,λi a r x B=>TL (a7.2 i a r x B)),TL cf,TL b6,by rw[hR];show bf.PQ.MQ,ab,λd H' s' p=>qE d H' (kT.ν (KT.of s')) p,λmm k ff H6 hm a2 ch s6 hf cA=>?_);refine q ff _ _ H6 (kT.ν (KT.of s6)) cA (GP hm ab) (Ip ch) (Io bf N hR ab a2 hm) λu hu=>?_;unfold AX D0;rw[Ho hm ab a2 hu,Il bf N hR bl b5 hu,yH];rfl
set_option maxHeartbeats 8000000 in
def oZ{P:NE}(W:(ts.NN Up.fst).Nz)(i1:(Pj,JA,)∈ts){U kV Pm pm ct:θ}(lk:K.ρ f<*(U,od,.Qb (Px "either" "either" (t5 EF) (p_ EF) (h_ EF) .ε kV Pm pm an (.ο c) ct),T))(p:PD K (.ο c) "either"=ξ)(hC:QI ς c Pj)(hB:DB ς mg)(B:AT P w K mg ς "paired" 6 [Q0,"second","is_wanted"] (IN P w K mg XH ts)):aa P w K mg ς (Am P w) 7 f (Px "either" "either" (t5 EF) (p_ EF) (h_ EF) .ε kV Pm pm an (.ο c) ct) [Q0,"second"] (bE XH ts (D0 (λa b=>a||b))):=by
 refine Ht lk p oH (λvs H Q E h=>?_) (λA Fr s H vs Q E X h=>?_)
 .obtain ⟨m,m2,L,M,J,O,N,ζ,_⟩:=h;rfl
 .obtain ⟨m,m2,L,M,J,O,N,ζ,u,x,t,v,h18,h28,I,S,q⟩:=h;let j:=I _ i1;refine(_,(k_ (o9 (Cu B X (CL λ_ _ _ z=>z) (wm (pv 0) (pv 1) (Hq (M6:=IM) (c:=c) (P0:=Pj) (ON:=JA) ζ hC hB (!3) (!3)))))),3);refine(6,j,λi g cg H1 Rr UU fr ne R r o Z=>?_);let l:KT ts H H1:=KT.ofX W i1 R j r;let F:=l.sm;let n:∀y,i.ρ y=ε:=λy=>by
   cases e:i.ρ y with
   |ε=>rfl
   |δ a=>show nomatch (show(ε:ω υ)<*a from Rr y a e)
  show(m,m2,g,cg,L,M,J,O,N,(λa b=>a||b),1,u.QT F.No,x,t.QT F.No,v,h18,h28,(7,7,i,Z,o,λD pm C eb cd=>oU eb cd (ic n (!3)),λpm C=>.QD λus Y=>by let⟨_,_,ζ⟩:=Gw Y;rfl),l.tb I,λd H' k=>S d H' (l.ν k),λff W' B' H' k=>q ff W' B' H' (l.ν k))
set_option maxHeartbeats 8000000 in
def ux{P:NE}(W:(ts.NN Up.fst).Nz)(i1:(Pj,JB,)∈ts){U kV Pm pm ct:θ}(lk:K.ρ f<*(U,od,.Qb (Px "both" "both" (t5 EG) (p_ EG) (h_ EG) .ε kV Pm pm an (.ο c) ct),T))(p:PD K (.ο c) "both"=ξ)(hC:QI ς c Pj)(hB:DB ς mg)(B:AT P w K mg ς "paired" 6 [Q0,"second","is_wanted"] (IN P w K mg XH ts)):aa P w K mg ς (Am P w) 7 f (Px "both" "both" (t5 EG) (p_ EG) (h_ EG) .ε kV Pm pm an (.ο c) ct) [Q0,"second"] (bE XH ts (D0 (λa b=>a&&b))):=by
 refine Ht lk p uc (λvs H Q E h=>?_) (λA Fr s H vs Q E X h=>?_)
 .obtain ⟨m,m2,L,M,J,O,N,ζ,_⟩:=h;rfl
 .obtain ⟨m,m2,L,M,J,O,N,ζ,u,x,t,v,h18,h28,I,S,q⟩:=h;let j:=I _ i1;refine(_,(k_ (o9 (Cu B X (CL λ_ _ _ z=>z) (wm (pv 0) (pv 1) (Hq (M6:=cy) (c:=c) (P0:=Pj) (ON:=JB) ζ hC hB (!3) (!3)))))),3);refine(6,j,λi g cg H1 Rr UU fr ne R r o Z=>?_);let l:KT ts H H1:=KT.ofX W i1 R j r;let F:=l.sm;let n:∀y,i.ρ y=ε:=λy=>by
   cases e:i.ρ y with
   |ε=>rfl
   |δ a=>show nomatch (show(ε:ω υ)<*a from Rr y a e)
  show(m,m2,g,cg,L,M,J,O,N,(λa b=>a&&b),1,u.QT F.No,x,t.QT F.No,v,h18,h28,(7,7,i,Z,o,λD pm C eb cd=>uu eb cd (ic n (!3)),λpm C=>.QD λus Y=>by let⟨_,_,ζ⟩:=Gw Y;rfl),l.tb I,λd H' k=>S d H' (l.ν k),λff W' B' H' k=>q ff W' B' H' (l.ν k))
set_option maxHeartbeats 8000000 in
def uw{P:NE}(W:(ts.NN Up.fst).Nz)(i1:(Pj,JC,)∈ts){U kV Pm pm ct:θ}(lk:K.ρ f<*(U,od,.Qb (Px "less" "less" (t5 EH) (p_ EH) (h_ EH) .ε kV Pm pm an (.ο c) ct),T))(p:PD K (.ο c) "less"=ξ)(hC:QI ς c Pj)(hB:DB ς mg)(B:AT P w K mg ς "paired" 6 [Q0,"second","is_wanted"] (IN P w K mg XH ts)):aa P w K mg ς (Am P w) 7 f (Px "less" "less" (t5 EH) (p_ EH) (h_ EH) .ε kV Pm pm an (.ο c) ct) [Q0,"second"] (bE XH ts (D0 (λa b=>a&&!b))):=by
 refine Ht lk p ua (λvs H Q E h=>?_) (λA Fr s H vs Q E X h=>?_)
 .obtain ⟨m,m2,L,M,J,O,N,ζ,_⟩:=h;rfl
 .obtain ⟨m,m2,L,M,J,O,N,ζ,u,x,t,v,h18,h28,I,S,q⟩:=h;let j:=I _ i1;refine(_,(k_ (o9 (Cu B X (CL λ_ _ _ z=>z) (wm (pv 0) (pv 1) (Hq (M6:=cu) (c:=c) (P0:=Pj) (ON:=JC) ζ hC hB (!3) (!3)))))),3);refine(6,j,λi g cg H1 Rr UU fr ne R r o Z=>?_);let l:KT ts H H1:=KT.ofX W i1 R j r;let F:=l.sm;let n:∀y,i.ρ y=ε:=λy=>by
   cases e:i.ρ y with
   |ε=>rfl
   |δ a=>show nomatch (show(ε:ω υ)<*a from Rr y a e)
  show(m,m2,g,cg,L,M,J,O,N,(λa b=>a&&!b),1,u.QT F.No,x,t.QT F.No,v,h18,h28,(7,7,i,Z,o,λD pm C eb cd=>ut eb cd (ic n (!3)),λpm C=>.QD λus Y=>by let⟨_,_,ζ⟩:=Gw Y;rfl),l.tb I,λd H' k=>S d H' (l.ν k),λff W' B' H' k=>q ff W' B' H' (l.ν k))
section
variable{P:Program}{w:World}{K:Frag}{mg:Str->Option Value}{base:Heap}{P0 PT cW:Addr}{ts:List (Addr×List (Pos×Str))}{tabs:List (Addr×Addr)}{cA_ cG_ cH_:Addr}{c:Kd->Addr}{cP:Addr}{cD d1 d2 d3:Addr}
def e_s:vw ["values","numbers","value"] ["values"] (h_ Ku):=Aa
def Db(F:vh K "numbered" "numbered" Ku f fd)(T:SI K mg UM UZ RU):aa P w K mg ς pu 1 f fd ["values"] sp_numbered:=by
 refine F.Vo e_s ?_;rintro _ _ _ _ H _ _ _ Q⟨a,o,xs,ks,TZ,ζ,X,U,M,l,hk,q⟩;refine(_,(m_ (va 1 e_s.nd (uq)) (m_ (De O0.PU ζ (Dz (pv 0)) (CB 2 e_s.nd) (k_ (u_ (A1 (oR Q.Pa) (pv 2) (pv 1) (by with_unfolding_all rfl)) (k_ (EL (Ds Ee (!4) T.PQ T_ (o_ (pv 1))) (EK (pv 1) (pv 2) (Ed Q.Pa)))) (wh)))) (k_ (o9 (EB ["values","numbers","?"] ζ (!0) (Dz (pv 0)) (λcl C fp s' H'=>(B3,rz (pC P w Q.Pa) (pv 2) (pv 0) (λ_ _=>rfl)))))))),3);let hz:xs.β≤Λ:=sT (by rw[M];show IO l (!0));let e:∀{i:Φ}{x:V},xs[i]?<*x->∃k,ks[i]?=δ k/\j6 H k x/\Ja k=TZ:=λ{i x}v=>by
  let Y:i<ks.β:=by rw[<-M];show(q5 v).1
  show(ks[i],n_ Y,hk i _ x (n_ Y) v)
 refine(if TZ=ξ then .TZ else .bl,λd E=>?_);refine(0,a,o,xs,1,X,Ai U E,λJ N=>jA N (λi m H'=>E2 λL r=>A3 (m=[δ (.ο a),δ (.ο d),L]) (H'=L2.MT H d r) (x_ P w H' d TZ (ks.OE i))) (ε,0,1,x_.X0 P w H d TZ) ?_ ?_ ?_)
 .rintro i m H'⟨L,r,ζ,ζ,_⟩;show Ai U E
 .rintro i x m H' v⟨L,r,ζ,ζ,s⟩;let⟨k,h,t,n⟩:=e v;let p:j6 (L2.MT H d r) k x:=t.SX λb ys z=>Ai z E;refine(6,d,0,s.VI p n,0,3);by_cases y:k∈zg (ks.OE i)
  .rw [show(!(gN (ks.OE i) k).Rz)=η by rw[gN,Id y];rfl];refine aj (8,3);rw[DX h];show s.OR y
  .rw [show(!(gN (ks.OE i) k).Rz)=ξ by rw[gN,BT y];rfl];let S:(zg (ks.OE i)).β<Λ:=by
    let h1:=nK (ks.OE i);let h2:(ks.OE i).β≤2100:=by rw[Qy];show IO (Φ.min_le_right _ _) l
    show Ψ (Φ.lt_succ_of_le (IO h1 h2)) (sT (!0))
   let⟨O,B,R⟩:=s.put p n y S;refine aw (0,d,0,s.PQ,6,d,0,B,3);refine(δ x,O,1,HI,3);rw[DX h];show R
 .rintro m H'⟨L,r,ζ,ζ,s⟩;rw[M,SO]at s;let I:L2.MT H d r a<*o:=Ai U E;let A:a' H (L2.MT H d r):=a'.MT E;refine(0,a,o,xs,1,X,I,λJ N=>J0 N I (λD j ys H'=>ys=(c_ (ay ks)).OE j) hz (λD W=>!1) ?_ ?_)
  .intro D j x ys H' R1 R2 W v g u hp k1 k2;let⟨k,h,t,n⟩:=e v;let y:k∈zg ks:=SY.Ot (AC h);let Z:=(s.Pk g).VI (t.SX λb ys z=>(A.ν g) _ _ z) n;rw[show gN ks k<*_ from Id y]at Z;refine l_ (6,d,0,Z,k1 _ H' u (a'.Ra g W) ?_);rw[hp];refine(DX ?_).MQ;rw[c_,ay,γ.map_map,tS,h];rfl
  .intro D ys H' W g u hp;refine q D H' (A.ν g) ?_;rw[u,hp,M,N9 (by rw[f_,HV];show LE _)]
def gu:vw ["lots"] ["lots"] (h_ Kv):=Aa
def CF(F:vh K "many_lots" "many_lots" Kv f j)(T:SI K mg UM UZ RU):aa P w K mg ς pu 1 f j ["lots"] Z7:=by
 refine F.Vo gu ?_;rintro _ _ _ _ _ _ _ _ _⟨a,ns,ζ,i,e,q⟩;refine(_,(k_ (o9 (Af jd (Ds (pU ζ) (!4) T.max Oi.Sf.boot_max (o_ (pv 0))) b'))),3);refine(0,a,zs ns,1,by rw[i,HZ],by rw[fY];show e,λM h b=>(8,3));let⟨m,g,ζ⟩:=PH.mp h;show q m g λx d=>MN.ofNat_le.mp (b _ (PH.Ot (x,d,1)))
def c_A:vw [Z1,Z2,"most","rounds","lots","finer"] [Z1,Z2,"most"] (h_ Kw):=Aa
def CG(F:vh K "rounds_of" "rounds_of" Kw f fd)(T:SI K mg UM UZ RU)(a8:Df P w K mg ς "numbered" 1 ["values"] sp_numbered)(bS:Df P w K mg ς "many_lots" 1 ["lots"] Z7):aa P w K mg ς pu 2 f fd [Z1,Z2,"most"] sp_roundsG:=by
 refine F.Vo c_A ?_;rintro _ _ _ _ H _ _ _ hr⟨wy,mk,bU,o,om,L,W,B,N,ζ,ho,bd,bk,bo,aB,az,l,q⟩;refine(_,(m_ (va 3 c_A.nd (AA (o_ (wx a8 hr (o_ (pv 1)))))) (m_ (cF O0.PU (A1 m5 (wx bS hr (o_ (AB (pv 3) (Es Et b')))) (pv 2) (A' _)) (m_ (va 4 c_A.nd (AB (pv 3) (Es Et b'))) (m_ (va 5 c_A.nd (wx a8 hr (o_ (ja [Z1,Z2,"most","rounds","lots","finer"] ζ (!0) (Jf ζ T.enumerate (o_ (pv 0))) (λcl C fp s' H'=>Bg (q_ (rz (Fx K) (pv 6) (pv 0) (λ_ _=>rfl)) (Ev (Ln K) (!4) T.P_ Pe (o_ (EB [Z4,"row",Z1,Z2,"most","rounds","lots","finer"] ζ (show γ.Nz (["goal",Z4,"row",Z1,Z2,"most","rounds","lots","finer"]:γ NB) by decide) (Dz (pv 1)) (λcl C fp s' H'=>(B3,rz (Fx K) (pv 7) (pv 0) (λ_ _=>rfl)))))))))))) (m_ (u_ (A1 (wX hr.units0) (pv 5) (pv 4) (A' _)) (k_ (iZ)) (wh)) (k_ (BB (Dl (pv 3) (pv 5)))))))) (k_ (o9 (pv 3))))),3);let Q:=l.n60;let bm:=l.n1;refine(0,mk,_,B.NN V.bl,B.NN (λb=>(KS.NJ b:KS)),η,1,bk,bo,by rw[ol,ol],by rw[ol,l.bl];show IO Q (!0),3,λp0 H1 s1 a0=>(sT (by change 1≤16777216;decide),λp hp=>?_))
 .intro i k x J hx;rw[tS]at J hx;cases hb:B[i]? with
  |ε=>rw[hb]at J;cases J
  |δ b=>rw[hb]at J hx;cases J;cases hx;show(1,1)
 rw[rn]at a0;let bi:H p=ε:=GL s1 hp;refine(vQ H wy mk p W B N,(_,(0),[p0],ε,ε,5,s1.ν (a'.MT hp),j_,1,3,λi X=>MM X (Φ.not_lt_zero _)),3)
 .intro i r e;match i,e with
  |0,e=>cases e;show Ai a0 hp
  |n+1,e=>simp at e
 rintro m bV H'⟨k,d,s4,s5,ζ,ζ,sm,ag,s,I,a2⟩;let J:=lY l a2;obtain⟨la,a3⟩:∃la,d[k]?<*la:=(d[k]'(by rw[s];show OC k),n_ _);let U:=I k la a3;let a7:=Jb s a3;let S:=DU l k;refine(6,AJ ag a7 (la,Rd W B k,1,U,by rw[S];show bm,λM hM _=>(0,_,2,3)));let b2:=dM l hM;refine aQ (λb1=>?_) (λbM=>?_)
 rotate_left
 .exact (0,q p d k H' sm ag s I (.NU (M,hM,by have:¬ ((M:MN)+1)≤(N:MN):=bM;lia)) J)
 refine(λaN H2=>Rd W B (k+1)≠Rd W B k/\vQ H wy mk p W B N (iB W.β (Rd W B (k+1))) aN H2,λaN H2 h=>(_,iA l h.1,h.2),3);refine(6,AJ ag a7 ?_);dsimp only[Bv];dsimp only[Sk,aP,aK,Cq,Aw,Cr,BQ];refine jR (c:=wy) (λR h=>(0,h)) ho (sm _ _ bd) (λD i ys H2=>∃ps:γ υ,A3 (ys=ps.NN V.ο) (ps.β=i) (∀(j:Φ)(t:υ),ps[j]?<*t->Fu H2 (eZ W (Rd W B k) j) t)) (by rw[ol,aB];show sT (IO Q (!0))) (λD hD=>([],5,λj t e=>by simp at e)) ?_ ?_
 .intro D i x ys H2 H3 R1 hD hx A aH hp v k1;let⟨ps,ζ,E,aC⟩:=hp;rw[tS]at hx;let⟨rr,aU,ζ⟩:=BG hx;let X:i<W.β:=by rw[<-aB];show(q5 aU).1
  let⟨ws,aT,b0,a1,aV⟩:=az i rr aU;let s3:a' H H3:=(sm.ν A).ν v;let aA:=s3 _ _ aV;let ar:H3 la<*.M7 (c_ (Rd W B k)):=v _ _ (A _ _ U);let ew:W.ML i []=ws:=by rw[u6,aT];rfl
  let⟨bf,bg⟩:=l.Vx ws (AC aT);let bP:=l.lt.hi;refine(6,AJ ar (DW (by rw[S];show X)) ?_);dsimp only[Sk,aP,aK,Cq,Aw,Cr,BQ];refine EZ (a:=rr) (λR h=>(0,h)) a1 aA (λD2 j as H4=>as=(c_ (ws.NN λg=>(Rd W B k).ML g 0)).OE j) (by rw[f_,bf];show sT (IO bP (!0))) (λD2 aM=>!1) ?_ ?_
  .intro D2 j y as H4 R3 R4 aM hy U0 Z an k3 k4;let hj:j<ws.β:=by have:=(q5 hy).1;rwa [f_]at this
   rw[CY hj]at hy;cases hy;refine l_ (6,AJ (U0 _ _ ar) (DW (by rw[S];show bg _ (GM hj))) (k3 _ H4 Z (a'.Ra U0 aM) ?_));rw[an];refine(DX ?_).MQ;rw[CY (by rw[ol];show hj),c9 hj]
  .intro D2 as H4 aM U0 Z an;rw[f_,N9 (by rw[f_,ol];show LE _)]at an;subst an;refine(D2,0,.NJ (o5.of Z,λb hb=>(sT (by change 2≤16777216;decide),λt ht=>?_)));let s5:=U0.ν ((a'.MT (o:=.No (c_ (ws.NN λg=>(Rd W B k).ML g 0))) hb).ν (a'.MT (o:=.No [.MS (((Rd W B k).ML i 0:Φ):MN),.ο b]) ht));let ap:=s5 _ _ (v _ _ aH);refine k1 (.ο t) _ ap (a'.Ra (A.ν (v.ν s5)) hD) (ps++[t],by rw[Nw];rfl,by rw[w_,E];rfl,λj u e=>?_);by_cases hj:j<ps.β
   .rw [M0 hj]at e;show AV (λc cs z=>tf ((v.ν s5) _ _ z) ap (!5)) (aC j u e)
   .rw [MY (OS hj)]at e;let bs:j=i:=(vN hj (q5 e).1).ν E;subst bs;rw[E,VS]at e;let et:t=u:=by simpa using e
    subst et;let ek:(zs (eZ W (Rd W B k) j).2).NN V.MS=c_ (ws.NN λg=>(Rd W B k).ML g 0):=by
     rw[<-HZ];change c_ ((W.ML j []).NN _)=_;rw[ew]
    refine(b,tf j_ ap (!5),3);rw[ek];show tf (Ai j_ ht) ap (!5)
 intro D ys H2 hD A aH hp;let⟨ps,ζ,E,aC⟩:=hp;refine(D,_,ps.NN V.ο,(FM W (Rd W B k)).NN (λx=>(KS.NU x:KS)),ξ,1,.NJ ζ,aH,by rw[ol,ol,DS,E,ol,aB],by rw[ol,DS];show IO Q (!0),3,λfa H4 ab a5=>?_)
 .intro i kk x J hx;rw[tS]at J hx;let⟨nk,e1,ζ⟩:=BG J;let⟨t,e2,ζ⟩:=BG hx;let X:i<W.β:=by have:=(q5 e1).1;rwa [DS]at this
  rw[JS X]at e1;cases e1;show((t,1,aC i t e2),1)
 rw[rk]at a5;let Y:H4 fa<*.M7 (c_ (Rd W B (k+1))):=a5;let aS:a' H H4:=sm.ν (A.ν ab);let a9:=(A.ν ab) _ _ U;let p4:=(A.ν ab) _ _ ag;let O:=I.OR (A.ν ab);refine(6,fa,la,zs (Rd W B (k+1)),zs (Rd W B k),5,by rw[Y,HZ],by rw[a9,HZ],by rw[fY,fY,DU l,DU l],0,aQ (λhe=>?_) (λhe=>?_))
 .exact (0,q p d k H4 aS p4 s O (.NJ (gb he)) J)
 let a6:Rd W B (k+1)≠Rd W B k:=λz=>he (by rw[z]);let a4:d≠[]:=by
  intro z;rw[z]at s;simp at s
 refine(0,.NJ (1,_,o5.of p4),0,p,8,p4,3,a6,k+1,d++[fa],8,a'.Ra aS bi,3,3,3,3)
 .rw [ol,s];show J2 J
 .rw [j_,Nw];rfl
 .rw [w_,s];rfl
 .intro i r e;by_cases X:i<d.β
  .rw [M0 X]at e;let h1:=O i r e;rw[a_ (nc h1 p4 a4)];show h1
  .rw [MY (OS X)]at e;let bD:i=k+1:=(vN X (q5 e).1).ν s;subst bD;rw[s,VS]at e;let et:fa=r:=by simpa using e
   subst et;rw[a_ (nc Y p4 a4)];show Y
 .intro i X;by_cases h:i=k
  .subst h;show a6
  .exact a2 i (zv X h)
def Mp:vw ["lots"] ["lots"] (h_ Kx):=Aa
def Mq(F:vh K "first_rooms" "first_rooms" Kx f E)(T:SI K mg UM UZ RU)(t:Df P w K mg ς "many_lots" 1 ["lots"] Z7):aa P w K mg ς pu 2 f E ["lots"] Ym:=by
 refine F.Vo Mp ?_;rintro _ _ _ _ _ _ _ _ A⟨a,ns,ζ,s,u,B,g,l,q⟩;refine(_,(k_ (o9 (EB ["lots"] ζ (!0) (G_ ζ T.N4 (o_ (wx t A (o_ (pv 0))))) (λI C H s' H'=>(B3,oP K (pv 1) (o_ (pv 0))))))),3);let⟨M,m,k⟩:=rG u;let v:=g M m;dsimp only[gj,Bv,Sk,aP,aK,Cq,Aw,Cr,BQ];refine Jc (n:=M+1) (λR h=>(0,a,ns,1,s,u,λy r i=>?_)) (!6) (λD j ys H'=>ys=c_ ((γ.N4 j).NN λj=>ns.M3 j)) (λD o=>rfl) ?_ ?_
 .let e:y=M:=Rh (k y r) (i M m);rw[e];show h
 .intro D j ys H' J R2 o p b d hp k1 k2;refine l_ (0,.NJ (1,_,o5.of (b _ _ s)),0,a,zs ns,(0+(j:MN)),5,by rw[<-HZ];show b _ _ s,3,3)
  .rw [MN.QA];show PH.Ot (j,l M j m (Φ.V9 p),1)
  .rw [MN.QA,pZ];refine k1 _ H' d (a'.Ra b o) ?_;rw[hp,γ.YM,Nw];show(Ji _ _).MQ
 .intro D ys H' o b d hp;subst hp;show q (M+1) D H' (Φ.Z5 M,λx z=>Φ.lt_succ_of_le (k x z),λj p=>l M j m (Φ.V9 p)) b o d
def a_v:vw [Q3,Z1,"rounds","one","two","needed","here","there","word","lots","place"] [Q3,Z1,"rounds","one","two"] (h_ Ky):=Aa
def Mr(F:vh K "parting_word" "parting_word" Ky f fd)(T:SI K mg UM UZ RU):aa P w K mg ς pu 1 f fd [Q3,Z1,"rounds","one","two"] sp_pwordL:=by
 refine F.Vo a_v ?_;rintro _ _ _ s H _ _ _ _⟨wy,p,bk,y,L,W,B,k,r,s,ζ,Q,aM,b,hp,v,o,Rx,as,aB,aA,q⟩;refine(_,(m_ (u_ (Ap (AB (AB (pv 2) (Es Et b')) (pv 3)) (AB (AB (pv 2) (Es Et b')) (pv 4))) (k_ (o9 GA)) (wh)) (m_ (va 5 a_v.nd (jb P' Δ.F.TX Δ.F.Xg eQ (EB [Q3,Z1,"rounds","one","two","needed","here","there","word","?","place"] ζ (!0) (Dz (pv 2)) (λcl C fp s' H'=>(B3,EM bA (rz (Fx K) (pv 0) (pv 4) (λ_ _=>rfl)) (rz (Fx K) (pv 0) (pv 5) (λ_ _=>rfl)) (A' _)))) (o_ BK))) (m_ (va 6 a_v.nd (pv 3)) (m_ (va 7 a_v.nd (pv 4)) (m_ (va 8 a_v.nd (n')) (m_ (De O0.PU ζ (wM ζ T.reversed (o_ (Gh HS (pv 2) GC (FE (pv 5))))) (CB 9 a_v.nd) (m_ (va 10 a_v.nd (jb P' Δ.F.TX Δ.F.Xg eQ (ja [Q3,Z1,"rounds","one","two","needed","here","there","word","lots","place"] ζ (!0) (mX ζ T.Th (q_ (AB (pv 1) (pv 6)) (AB (pv 1) (pv 7)))) (λcl C fp s' H'=>EM bA (rz (Fx K) (pv 11) (pv 0) (λ_ _=>rfl)) (rz (Fx K) (pv 11) (pv 1) (λ_ _=>rfl)) (A' _))) (o_ BK))) (m_ (va 8 a_v.nd (Af DN (pv 8) (rz gX (pv 0) (pv 10) (λ_ _=>rfl)))) (m_ (va 6 a_v.nd (AB (AB (pv 1) (pv 6)) (pv 10))) (k_ (va 7 a_v.nd (AB (AB (pv 1) (pv 7)) (pv 10)))))))) (k_ (o9 (pv 8))))))))),3);let hz:(tx L).β≤Λ:=sT (by rw[oh];show IO b.lt.hi (!0));obtain⟨la,a1⟩:∃la,y[k]?<*la:=(y[k]'(by rw[v];show OC k),n_ _);let ap:=o k la a1;let a5:=Jb v a1;let ab:=DU b k;refine(6,AJ hp a5 (0,AJ ap (DW (by rw[ab];show aB)) ?_));refine(6,AJ hp a5 (0,AJ ap (DW (by rw[ab];show aA)) (1,0,3)));rw[b7];refine aQ (λhe=>?_) (λhe=>?_)
 .exact (Rx he).Nx
 let⟨aV,X,a3,A⟩:=jD (f:=λj=>decide (r_ W B j r=r_ W B j s)) (n:=k+1) (j:=k) (OC k) (M5 he);dsimp only[Sk,aP,aK,Cq,Aw,Cr,BQ];refine EZ (a:=p) (λR h=>(0,h)) (.NJ ζ) hp (λD j ys H'=>ys=(((γ.N4 (k+1)).NN λj=>decide (r_ W B j r=r_ W B j s)).NN V.bl).OE j) (by rw[ol,v];show sT (IO (QH as) (!0))) (λD hD=>!1) ?_ ?_
 .intro D j x ys H' R1 R2 hD J E m U k1 k2;rw[tS]at J;let⟨a7,ar,ζ⟩:=BG J;let I:j<k+1:=by rw[<-v];show(q5 ar).1
  let h1:=E _ _ (o j a7 ar);refine l_ (6,AJ h1 (DW (by rw[DU b];show aB)) (6,AJ h1 (DW (by rw[DU b];show aA)) (1,3)));rw[b7];refine k1 _ H' m (a'.Ra E hD) ?_;rw[U];refine(DX ?_).MQ;rw[tS,tS,O' I];rfl
 intro D ys H1 hD E m U;rw[ol,v,N9 (!1)]at U;subst U;refine(.NJ (1,_,o5.of m),D,0,1,m,aV,3);generalize ((γ.N4 (k+1)).NN λj=>decide (r_ W B j r=r_ W B j s)).M3 η=t at X a3 A⊢;let bd:r_ W B t r≠r_ W B t s:=of_decide_eq_false a3;let bg:∀j<t,r_ W B j r=r_ W B j s:=λj I=>OX (A j I);refine(6,3);refine(6,0,p,0,o5.of (E _ _ hp),λpl aU=>?_);rw[fG (by rw[ol,v];show Pq X)];let O:((y.NN V.ο).OE t).β=t:=by rw[Qy,ol,v];show Φ.min_eq_left (Pq X)
 refine(pl,0,j_,jA qV (λi M H'=>E5 λ(h1:Φ)(h2:Φ)(w:LN)(s9:ω V)(N:ω V)=>A9 (M=[δ (.NA (tx L)),δ (.ο wy),δ (.ο p),δ (.MS (r:MN)),δ (.MS (s:MN)),δ (.MS (t:MN)),δ (.MS (h1:MN)),δ (.MS (h2:MN)),δ (.NA (tx w)),s9,N]) (a' (L2.MT H1 pl (.M7 ((y.NN V.ο).OE t))) H') (h1<W.β) (h2<W.β) (w.β=i) (i≤t) (r_ W B (t-i) h1≠r_ W B (t-i) h2) (∀j<t-i,r_ W B j h1=r_ W B j h2) (w++pw L W B (t-i) h1 h2=pw L W B t r s)) (r,s,[],ε,ε,by rw[<-dD];rfl,a'.Tn _,aB,aA,1,Nf _,bd,bg,1) ?_ ?_ ?_)
 .rintro i M H'⟨h1,h2,w,s9,N,ζ,sm2,_⟩;show sm2 _ _ j_
 .rintro i x M H2 J⟨h1,h2,w,s9,N,ζ,sm2,l,hh2,az,bf,hne2,heq2,hw⟩;let hi:i<t:=by have:=(q5 J).1;rwa [QV,O]at this
  rw[γ.getElem?_reverse (by rw[O];show hi),O,γ.UV,Id (vm hi),tS]at J;let⟨a6,an,ζ⟩:=BG J;let⟨u,hu,a9,a8⟩:=xG hi;rw[a9]at an;rw[hu]at hne2 heq2 hw;let s0:a' H H2:=E.ν ((a'.MT aU).ν sm2);let a0:=s0 _ _ (o u a6 an);let⟨ra,aS,Z⟩:=(aM.sameL s0).Vx l;let⟨rb,aN,Y⟩:=(aM.sameL s0).Vx hh2;let⟨g,aT,bm⟩:=qI b l hh2 hne2 (heq2 u (OC u));let l1:=(Eb b l).1;let l2:=(Eb b hh2).1;let bi:=b.lt.hi;dsimp only[Bv];dsimp only[Sk,aP,aK,Cq,Aw,Cr,BQ];refine jQ (c:=ra) (d:=rb) (λR h=>(6,AJ (s0 _ _ Q) (Ea V.ο aS) (6,AJ (s0 _ _ Q) (Ea V.ο aN) h))) Z Y (by rw[f_,f_,l1,l2]) (λD j ys H3=>ys=((aX W B u h1 h2).NN V.bl).OE j) (by rw[f_,l1];show sT (IO bi (!0))) (λD hD=>!1) ?_ ?_
  .intro D j x z ys H3 H4 R1 hD J aH e m S U0 k1;let I:j<L.β:=by have:=(q5 J).1;rwa [f_,l1]at this
   rw[CY (by rw[l1];show I)]at J;rw[CY (by rw[l2];show I)]at aH;cases J;cases aH;let ag:=U0 _ _ (e _ _ a0);refine(6,AJ ag (DW (by rw[DU b];show Ew b l I)) (6,AJ ag (DW (by rw[DU b];show Ew b hh2 I)) (1,3)));rw[b7];refine k1 _ H4 (U0 _ _ m) (a'.Ra (e.ν U0) hD) ?_;rw[S];refine(DX ?_).MQ;rw[tS,IW b l hh2 I];rfl
  intro D ys H3 hD e m S;rw[f_,l1,N9 (by rw[ol,JU b l hh2];show LE _)]at S;subst S;let aC:η∈aX W B u h1 h2:=γ.V0.mp (by rw[JU b l hh2];show g);refine(.NJ (1,_,o5.of m),D,0,1,m,aC,3);let s3:=s0.ν e;let a2:L[Re W B u h1 h2]?<*L.ML (Re W B u h1 h2) 0:=by rw[u6,n_ g];rfl
  let a4:AN (tx L).Tc.NF ((Re W B u h1 h2:Φ):MN)<*L.ML (Re W B u h1 h2) 0:=by
   rw[Fs];show AG a2
  let e1:=DW (ns:=W.ML h1 []) (r:=Re W B u h1 h2) (by rw[l1];show g);let e2:=DW (ns:=W.ML h2 []) (r:=Re W B u h1 h2) (by rw[l2];show g);refine(6,0,_,8,hz,a4,8,3,3)
  .rw [oh];change w.β+1≤Λ;show sT (zu az hi X as)
  refine(6,AJ (s3 _ _ Q) (Ea V.ο aS) (0,AJ (e _ _ Z) e1 ?_));refine(6,AJ (s3 _ _ Q) (Ea V.ο aN) (0,AJ (e _ _ Y) e2 ?_));rw[a8];refine(QY W h1 (Re W B u h1 h2),QY W h2 (Re W B u h1 h2),w++[L.ML (Re W B u h1 h2) 0],7,by rw[<-Ct];rfl,sm2.ν e,Ew b l g,Ew b hh2 g,by rw[w_,az];rfl,hi,aT,λj I=>((Go b l hh2).mp (heq2 (j+1) (Φ.succ_lt_succ I))).2 _ g,3);rw[Na];show hw
 .rintro M H2⟨h1,h2,w,s9,N,ζ,sm2,l,hh2,az,bf,hne2,heq2,hw⟩;rw[QV,O,VS]at hw;let bo:w=pw L W B t r s:=by rw[<-hw];simp[pw]
  show(0,q w H2 (E.ν ((a'.MT aU).ν sm2)))
def e_P:vw [Q8,"lots",Q4,Z1,Z2] [Q8,"lots"] (h_ cn):=Aa
def Ep(F:vh K "folded" "folded" cn f fd)(T:SI K mg UM UZ RU)(WK:II K cW)(aN:Df P w K mg ς "first_rooms" 2 ["lots"] Ym):aa P w K mg ς pu 3 f fd [Q8,"lots"] (K9 cW):=by
 refine F.Vo e_P ?_;rintro _ _ _ _ _ _ _ _ hr⟨wk,t,wd,y,md,lo,J,L,R,Bm,k,ζ,hW,hy,ab,aM,d,as,q⟩;refine(_,(m_ (va 2 e_P.nd (wx aN hr (o_ (pv 1)))) (m_ (Jm [Q8,"lots",Q4,Z1,Z2] (j:=3) ζ e_P.nd (!0) ζ (Or.NJ ζ) (Dz (pv 2)) (λcl C fp s' H'=>(B3,Ev (Ln K) (!4) T.P_ Pe (o_ (EB [Z4,Q8,"lots",Q4,Z1,Z2] ζ (show γ.Nz (["goal",Z4,Q8,"lots",Q4,Z1,Z2]:γ NB) by decide) (Dz (rz (Fx K) (gF (f:=Z1) K (pv 1) ζ) (pv 0) (λ_ _=>rfl))) (λcl C fp s' H'=>(B3,rz (Fx K) (pv 3) (pv 0) (λ_ _=>rfl)))))))) (m_ (Jm [Q8,"lots",Q4,Z1,Z2] (j:=4) ζ e_P.nd (!0) ζ (Or.NJ ζ) (Dz (pv 2)) (λcl C fp s' H'=>(B3,rz (Fx K) (gF (f:=Z2) K (pv 1) ζ) (pv 0) (λ_ _=>rfl)))) (k_ (o9 (Bg (wm (AD (f:=Q3) (pv 0) ζ) (Ev Gi (!4) T.P_ Pe (o_ (pv 3))) (Ev Gi (!4) T.P_ Pe (o_ (pv 4)))))))))),3);let⟨dx,ew⟩:=hW.ex;let O:=d.n60;let W:=DU d k;refine(0,lo,Rd R Bm k,1,as,by rw[W];show d.n1,by rw[W];show O,λx hx=>Ψ (dM d hx) O,λM j hM v=>nX hM v,λm p H1 Z s1 aS hp=>?_);let Q:m≤2100:=by
  have:=dM d (Z.UU (m-1) (by have:=Z.Nj;lia));have:=Z.Nj;lia
 let E:(c_ ((γ.N4 m).NN λj=>(Rd R Bm k).M3 j)).β=m:=by rw[f_,ol,OD]
 let Yo:∀{j:Φ}{x:V},(c_ ((γ.N4 m).NN λj=>(Rd R Bm k).M3 j))[j]?<*x->j<m/\x=.MS (((Rd R Bm k).M3 j:Φ):MN):=λ{j x}e=>by
  let v:j<m:=by have:=(q5 e).1;rwa [E]at this
  rw[CY (by rw[ol,OD];show v)]at e;cases e;refine(v,3);rw[u6,tS,O' v];rfl
 dsimp only[Bv];dsimp only[Sk,aP,aK,Cq,Aw,Cr,BQ];refine EZ (a:=p) (λR h=>(0,h)) (.NJ ζ) hp (λD j ys H'=>∃ps:γ υ,A3 (ys=ps.NN V.ο) (ps.β=j) (∀(i:Φ)(t:υ),ps[i]?<*t->i<m/\H' t<*.No (c_ ((AM R (Rd R Bm k) m).ML i [])))) (by rw[E];show sT (IO Q (!0))) (λD hD=>([],5,λi t e=>by simp at e)) ?_ ?_
 .intro D j x ys H' R1 R2 hD hx B I l k1 k2;let⟨ps,ζ,n,U⟩:=l;let⟨v,ζ⟩:=Yo hx;let⟨f1,f2⟩:=Cy Z d v;let s2:=s1.ν B;obtain⟨ra,ar⟩:∃ra,J[(Rd R Bm k).M3 j]?<*ra:=(J[(Rd R Bm k).M3 j]'(by rw[ab.1];show f1),n_ _);let ap:=s2 _ _ (ab.2 _ ra _ ar (n_ f1));let⟨aC,aH⟩:=d.Vx _ (Nv f1);refine l_ ?_;dsimp only[Sk,aP,aK,Cq,Aw,Cr,BQ];refine EZ (a:=ra) (λR h=>(0,wk,cW,dx,4,s2 _ _ ew,WK.OO,WK.na4,1,0,AJ (s2 _ _ hy) (Ea V.ο ar) h)) (.NJ ζ) ap (λD2 i S H4=>S=(c_ (R[(Rd R Bm k).M3 j].NN λg=>(Rd R Bm k).ML g 0)).OE i) (by rw[f_,aC];show sT (IO d.lt.hi (!0))) (λD2 X=>!1) ?_ ?_
  .intro D2 i y2 S H4 R3 R4 X hy2 U0 H s k3 k4;let hi:i<R[(Rd R Bm k).M3 j].β:=by have:=(q5 hy2).1;rwa [f_]at this
   rw[CY hi]at hy2;cases hy2;refine l_ (6,AJ (U0 _ _ (s2 _ _ as)) (DW (by rw[W];show aH _ (GM hi))) (k3 _ H4 H (a'.Ra U0 X) ?_));rw[s];refine(DX ?_).MQ;rw[CY (by rw[ol];show hi),c9 hi]
  .intro D2 S H4 X U0 H s;rw[f_,N9 (by rw[f_,ol];show LE _)]at s;subst s;refine(D2,0,.NJ (o5.of H,λb hb=>?_));let s5:=U0.ν (a'.MT (o:=.No (c_ (R[(Rd R Bm k).M3 j].NN λg=>(Rd R Bm k).ML g 0))) hb);refine k1 (.ο b) _ (s5 _ _ I) (a'.Ra (B.ν s5) hD) (ps++[b],by rw[Nw];rfl,by rw[w_,n];rfl,λi u e=>?_);let aB:=s5 _ _ I;rcases Fy e with z|⟨rfl,ζ⟩
   .obtain ⟨a1,a2⟩:=U i u z;show(a1,tf (s5 _ _ a2) aB (!5))
   .rw [n];refine(v,tf ?_ aB (!5));rw[j_,fz v,u6,n_ f1];rfl
 intro Dw ys H2 aT N az l;let⟨ps,ζ,n,U⟩:=l;rw[E]at n;let s:=N _ _ hp;let s2:=s1.ν N;dsimp only[Bv];dsimp only[Sk,aP,aK,Cq,Aw,Cr,BQ];refine EZ (a:=p) (λR h=>(0,h)) (.NJ ζ) s (λD j ys H'=>ys=((Dk Bm (Rd R Bm k) m).NN V.bl).OE j) (by rw[E];show sT (IO Q (!0))) (λD hD=>!1) ?_ ?_
 .intro D j x ys H' R1 R2 hD hx B I l k1 k2;let⟨v,ζ⟩:=Yo hx;let⟨f1,f2⟩:=Cy Z d v;let Y:=s2.ν B;refine l_ (0,wk,cW,dx,4,Y _ _ ew,WK.OO,WK.na5,1,0,AJ (Y _ _ aM) (H_ (by rw[d.bl];show f1)) (k1 _ H' I (a'.Ra B hD) ?_));rw[l];refine(DX ?_).MQ;rw[tS,Dk,tS,O' v];rfl
 intro Dm ys H3 aU A aA l;rw[E,N9 (by rw[ol,Dk,ol,OD];show LE _)]at l;subst l;let Y:=s2.ν A;refine(0,wk,cW,dx,4,Y _ _ ew,WK.OO,WK.na1,1,3);refine(0,Dw,0,.NJ (o5.of (A _ _ az),λtw ag=>?_));refine(0,Dm,0,.NJ (o5.of (Ai aA ag),λtm an=>(sT (by change 3≤16777216;decide),λf hf=>?_)));let u1:a' H3 (L2.MT H3 tw (.No (ps.NN V.ο))):=a'.MT ag;let u2:=u1.ν (a'.MT (o:=.No ((Dk Bm (Rd R Bm k) m).NN V.bl)) an);let u3:=u2.ν (a'.MT (o:=.No [.NA (tx L),.ο tw,.ο tm]) hf);refine q m f _ Z (Y.ν u3) (GL (Y.ν u2) hf) (tw,tm,ps,j_,Ai (Ai j_ an) hf,Ai j_ hf,by rw[n,AM,ol,OD],λi r e=>?_);let⟨a1,a2⟩:=U i r e;refine((AM R (Rd R Bm k) m).ML i [],3,(A.ν u3) _ _ a2);rw[u6,AM,tS,O' a1];rfl
def c_n:vw [Q8,"rounds",Q4,"tails","i","one","j"] [Q8,"rounds",Q4] (h_ Kz):=Aa
def Dc(F:vh K "tails_of" "tails_of" Kz f fd)(T:SI K mg UM UZ RU)(U:II K cW)(ap:Df P w K mg ς "parting_word" 1 [Q3,Z1,"rounds","one","two"] sp_pwordL):aa P w K mg ς pu 2 f fd [Q8,"rounds",Q4] (iJ cW):=by
 refine F.Vo c_n ?_;rintro _ _ _ _ H _ _ _ hr⟨N,t,wd,y,md,p,S,z,A,L,R,Bm,k,rs,ζ,hW,hy,Y,an,hp,ab,r,hk,d,as,E,Z,q⟩;refine(_,(m_ (va 3 c_n.nd (AA Dh)) (m_ (De O0.PU ζ (Jf ζ T.enumerate (o_ (pv 2))) (gE ζ (Gg (CB 4 c_n.nd) (Gg (CB 5 c_n.nd) bK))) (k_ (De O0.PU ζ (eJ ζ T.N4 (q_ (Af jd (pv 4) b') (Cj T.PQ (pv 2)))) (CB 6 c_n.nd) (k_ (BB (Dl (pv 3) (Bg (wm (pv 4) (pv 6) (wx ap hr (Bp (AD (f:=Q3) (pv 0) ζ) (Bp (AD (f:=Z1) (pv 0) ζ) (wm (pv 1) (pv 5) (AB (pv 2) (pv 6)))))))))))))) (k_ (o9 (pv 3))))),3);let⟨dx,ew⟩:=hW.ex;let e:(c_ rs).β=rs.β:=f_ _;refine(Nf _,λh D=>?_);let s0:=a'.MT (o:=.M7 []) D;refine(0,S,0,.NU (s0 _ _ d,3));let ar:10000≤Λ:=sT (!0);refine pJ (xs:=c_ rs) (λi b H'=>E4 λ(xs:γ V)(Q:ω V)(O:ω V)(m:ω V)=>A4 (b=[δ (.ο N),δ (.ο p),δ (.ο S),δ (.ο h),Q,O,m]) (a' H H') (H' h<*.M7 xs) (xs.β≤100*i)) ([],ε,ε,ε,1,s0,j_,Nf _) ?_ ?_ ?_
 .rintro i b H'⟨xs,Q,O,m,ζ,s,_⟩;show s _ _ d
 .rintro i x pp b H1 X I⟨xs,Q,O,m,ζ,s,htl1,W⟩;let hi:i<rs.β:=by have:=(q5 X).1;rwa [e]at this
  rw[CY hi]at X;cases X;let l:=s.ν (a'.MT (o:=.No [.MS (i:MN),.MS ((rs.ML i 0:Φ):MN)]) I);let g:=Ai (u:=.No [.MS (i:MN),.MS ((rs.ML i 0:Φ):MN)]) htl1 I;refine(pp,0,u0.of j_,1,4,8,3);generalize L2.MT H1 pp (.No [.MS (i:MN),.MS ((rs.ML i 0:Φ):MN)])=H2 at l g;refine(0,_,2,S,0,.NJ (o5.of (l _ _ d)),4,(!6,!6,by rw[e];lia,by rw[e];lia),3);rw[e];refine HM (n:=(((rs.β:Φ):MN)-((i:MN)+1)).Ou) (λj b H'=>E2 λ(xs:γ V)(m:ω V)=>A4 (b=[δ (.ο N),δ (.ο p),δ (.ο S),δ (.ο h),δ (.MS (i:MN)),δ (.MS ((rs.ML i 0:Φ):MN)),m]) (a' H H') (H' h<*.M7 xs) (xs.β≤100*i+j)) (xs,m,1,l,g,!6) ?_ ?_
  .rintro j b H3 hj⟨xs2,s6',ζ,a,htl3,hxl3⟩;let J:i+1+j<rs.β:=by lia
   let e1:rs[i]?<*rs.ML i 0:=by rw[u6,n_ hi];rfl
   let e2:rs[i+1+j]?<*rs.ML (i+1+j) 0:=by rw[u6,n_ J];rfl
   let ag:AN (c_ rs) ((i:MN)+1+(j:MN))<*.MS ((rs.ML (i+1+j) 0:Φ):MN):=by
    rw[show(i:MN)+1+(j:MN)=((i+1+j:Φ):MN) by lia];show DW J
   let M:=a _ _ ew;refine(0,.NJ (1,_,o5.of htl3),6,0,N,cW,dx,4,M,U.OO,U.na1,1,0,N,cW,dx,4,M,U.OO,U.na4,1,6,6,AJ (a _ _ d) ag ?_);refine(y,p,z,A,L,R,Bm,k,rs.ML i 0,rs.ML (i+1+j) 0,1,a _ _ hy,Y.sameL a,an,a _ _ hp,ab,r.OR a,Z i (i+1+j) _ _ (!6) e1 e2,hk,E _ (AC e1),E _ (AC e2),λw H4 v=>(sT (by change 3≤16777216;decide),λtt B=>?_));let C:=Ai (u:=.No [.MS (i:MN),.MS ((i:MN)+1+(j:MN)),.NA (tx w)]) (v _ _ htl3) B;refine(h,8,C,!6,3);let h0:H h=ε:=D;show(4,a'.Ra ((a.ν v).ν (a'.MT B)) h0,j_,by rw[w_];change xs2.β+1≤_;lia)
  .rintro b H3⟨xs2,s6',ζ,a,htl3,hxl3⟩;show(xs2,_,4,a,htl3,!6)
 .rintro b H1⟨xs,Q,O,m,ζ,s,htl1,W⟩;show(0,q h xs H1 s htl1)
def bI:vw [Q8,"rounds","lots",Q4] [Q8] (h_ kN):=Aa
def uv(F:vh K "told" "told" kN f fd)(T:SI K mg UM UZ RU)(WK:II K cW)(WN:Ah K cW Q6)(TM:G0 K mg RU UM fX fdX)(bk:Df P w K mg ς "rounds_of" 2 [Z1,Z2,"most"] sp_roundsG)(bo:Df P w K mg ς "many_lots" 1 ["lots"] Z7)(bl:Df P w K mg ς "folded" 3 [Q8,"lots"] (K9 cW))(bm:Df P w K mg ς "first_rooms" 2 ["lots"] Ym)(bi:Df P w K mg ς "tails_of" 2 [Q8,"rounds",Q4] (iJ cW)):aa P w K mg ς (Am P w) 4 f fd [Q8] (G1 cW RU):=by
 refine F.okX bI (λvs H Q E h=>?_) (λQm A Fr s H vs Q E hr h=>?_)
 .obtain ⟨wk,t,wd,y,md,B,L,R,Bm,ws,ζ,_⟩:=h;rfl
 .obtain ⟨wk,t,wd,y,md,B,L,R,Bm,ws,ζ,hW,hy,W,aB,aU,aT,g,qE,q⟩:=h;let⟨tm,u⟩:=T.most;let a3:=hr.Pk (j:=1) (!0);let an:=hr.Pk (j:=2) (!0);let a2:=hr.Pk (j:=3) (!0);refine(_,(m_ (va 1 bI.nd (wx bk an (wm (AD (f:=Z1) (pv 0) ζ) (AD (f:=Z2) (pv 0) ζ) (G6 (v:=.MS 8) (!4) u (_,ζ))))) (m_ (va 2 bI.nd (AB (pv 1) (Es Et b'))) (m_ (u_ (A1 m5 (wx bo a3 (o_ (pv 2))) (G6 (v:=.MS 8) (!4) u (_,ζ)) (A' _)) (k_ (o9 (wx bl a2 (q_ (pv 0) (pv 2))))) (wh)) (m_ (va 3 bI.nd (Gh HS (wx bm an (o_ (pv 2))) GC (FE (Af jd (G6 (v:=.MS 8) (!4) u (_,ζ)) b')))) (k_ (oM ζ ζ iE TM.Xk TM.fn (oV TM T.Qx) (hr.Pk (j:=2) (!0)) (TM.ini.WC (ps:=["self",Q6,"tails","part"]) (λ_ _ _ _ _ _ us hl=>by let⟨_,_,_,_,ζ⟩:=yZ hl;rfl)) CV TM.kT (wm (EB [Q8,"rounds","lots",Q4] ζ (!0) (Dz (pv 3)) (λcl C fp s' H'=>(B3,rz (Fx K) (gF (f:=Q6) K (pv 1) ζ) (pv 0) (λ_ _=>rfl)))) (wx bi an (wm (pv 0) (pv 1) (pv 3))) GA))))))),3);let⟨dx,ew⟩:=hW.ex;let Y:=g.n60;let az:=g.n1;refine(0,wk,cW,dx,4,ew,WK.OO,WK.na4,1,0,wk,cW,dx,4,ew,WK.OO,WK.na5,1,3);refine(y,md,B,7,L,R,Bm,(8),1,.NJ ζ,hy,.NJ ζ,aB,W.1,W.toQ,g,λp J k H1 s1 hp ap O st hk=>?_);obtain⟨la,aH⟩:∃la,J[k]?<*la:=(J[k]'(by rw[ap];show OC k),n_ _);let U:=O k la aH;let bd:=Jb ap aH;let S:=DU g k;refine(6,AJ hp bd ?_);refine(0,la,Rd R Bm k,1,U,by rw[S];show az,λM hM aA=>(_,2,aQ (λaC=>?_) (λaM=>?_)))
  .let aC:(M:MN)+1≤8:=aC;let Rx:Rd R Bm (k+1)=Rd R Bm k:=by
    rcases st with z|⟨M2,bg,z⟩
    .exact z
    .have:=aA M2 bg;lia
   refine(6,wk,t,wd,y,md,la,B,L,R,Bm,k,1,(dx,s1 _ _ ew),s1 _ _ hy,W.sameL s1,s1 _ _ aB,g,U,λm f H2 Z s2 hf bf=>?_);let a5:m≤8:=by
    let h1:=Z.UU (m-1) (by have:=Z.Nj;lia);let h2:=aA _ h1;lia
   show q m k f H2 Z Rx a5 (s1.ν s2) (GL s1 hf) bf
  .refine (0,la,Rd R Bm k,1,U,by rw[S];show az,by rw[S];show Y,λx hx=>Ψ (dM g hx) Y,λM j hM hj=>nX hM hj,λm rl H2 Z s2 bs a0=>?_);refine(_,2,rl,0,o5.of a0,λrm ab=>?_);let aN:=s1.ν s2;let a4:9≤m:=by
    have:=Z.lt M hM;let aM:¬ (M:MN)+1≤8:=aM;lia
   let e9:AL (c_ ((γ.N4 m).NN λj=>(Rd R Bm k).M3 j)) ε (δ (8+1))=c_ (((γ.N4 m).NN λj=>(Rd R Bm k).M3 j).OE 9):=by
    let e:=fG (xs:=c_ ((γ.N4 m).NN λj=>(Rd R Bm k).M3 j)) (t:=9) (by rw[f_,ol,OD];show a4);refine e.ν ?_;unfold c_;rw[γ.map_take]
   rw[e9];let X:∀(i a:Φ),(((γ.N4 m).NN λj=>(Rd R Bm k).M3 j).OE 9)[i]?<*a->i<m/\a=(Rd R Bm k).M3 i:=λi a e=>by
    rw[γ.UV]at e;split at e
    .let hi:i<m:=by have:=(q5 e).1;rwa [ol,OD]at this
     rw[tS,O' hi]at e;cases e;show(hi,1)
    .cases e
   let ag:(((γ.N4 m).NN λj=>(Rd R Bm k).M3 j).OE 9).β≤9:=by rw[Qy];show Φ.min_le_left _ _
   generalize ((γ.N4 m).NN λj=>(Rd R Bm k).M3 j).OE 9=rs at X ag;let as:∀r∈rs,r<R.β:=λr hr=>by
    let⟨i,hi⟩:=NO.mp hr;let⟨a1,ζ⟩:=X i r hi;show(Cy Z g a1).1
   let s3:=aN.ν (a'.MT (o:=.M7 (c_ rs)) ab);let N:L2.MT H2 rm (.M7 (c_ rs)) rm<*.M7 (c_ rs):=j_;let p3:=(s2.ν (a'.MT (o:=.M7 (c_ rs)) ab)) _ _ hp;let I:=O.OR (s2.ν (a'.MT (o:=.M7 (c_ rs)) ab));generalize L2.MT H2 rm (.M7 (c_ rs))=H3 at s3 N p3 I;dsimp only[Bv,Sk,aP,mK,Aw];refine EZ (a:=rm) (λR h=>(0,h)) (.NJ ζ) N (λ_ _ _ _=>Os) (by rw[f_];show sT (IO ag (!0))) (λD hD=>trivial) ?_ ?_
   .intro D j x ys H' R1 R2 hD hx n ar _ k1 k2;let hj:j<rs.β:=by have:=(q5 hx).1;rwa [f_]at this
    rw[CY hj]at hx;cases hx;let a8:rs.ML j 0<ws.β:=by rw[aT];show as _ (GM hj)
    let s4:=s3.ν n;refine l_ (0,wk,cW,dx,4,s4 _ _ ew,WK.OO,WN,1,0,AJ (s4 _ _ aU) (Ea (λv=>V.NA (tx v)) (n_ a8)) (k1 _ H' ar (a'.Ra n hD) trivial))
   .intro D ys H4 hD n ar _;let s4:=s3.ν n;refine(6,0,wk,t,wd,y,md,p,rm,B,J,L,R,Bm,k,rs,1,(dx,s4 _ _ ew),s4 _ _ hy,W.sameL s4,g,n _ _ p3,ap,I.OR n,hk,n _ _ N,ag,as,λi j a b bD e1 e2=>?_,λtl xs H5 s5 aV=>(sT (by change 3≤16777216;decide),λe he=>(e,D,tl,.Rv,4,j_,Ai (s5 _ _ ar) he,Ai aV he,λH6 d l l2 k6 hd de le aS a9 a7 a6=>(1,δ d,hd,3))))
    .obtain ⟨a1,ζ⟩:=X i a e1;let⟨b1,ζ⟩:=X j b e2;rw[(Cy Z g a1).2,(Cy Z g b1).2];lia
    .refine qE d _ (λb o z=>?_) (l,l2,7,_,by rw[Ei de];show a9,by rw[Ei le];show a7,by rw[Ei aS];show a6);let z5:=s5 _ _ (s4 _ _ z);let n1:b≠e:=e_ z5 he;rw[Ei n1];show k6 b o n1 (Ai z5 he)
def b_l:vw [Q0,"second",Q3,"others"] [Q0,"second"] (h_ KA):=Aa
def Ms(F:vh K "need_same_letters" "need_same_letters" KA f p)(T:SI K mg UM UZ RU):aa P w K mg ς (Am P w) 1 f p [Q0,"second"] (Jx UZ):=by
 refine F.okX b_l (λvs H Q E h=>?_) (λQm A Fr s H vs Q E v h=>?_)
 .obtain ⟨m,m2,L,L',W,B,r,t,ζ,_⟩:=h;rfl
 .obtain ⟨m,m2,L,L',W,B,r,t,ζ,n,b,l,hNa,j,q⟩:=h;refine(_,(m_ (va 2 b_l.nd (Ae 0)) (m_ (va 3 b_l.nd (Ae 1)) (k_ (u_ (GS (pv 2) (pv 3)) (k_ (qH ζ ky T.oG_ T.kG_ (o_ (wO (c:=λd=>vq 2 d/\vq 3 d) (jz,jy 2 (pv 2) (λ_ z=>z.1),jz,jy 3 (pv 3) (λ_ z=>z.2),trivial))))) (wh))))),3);let⟨u,mk,g,h1,h2,D,C,y⟩:=id n;let⟨i,k,a,o,N,M,J,I⟩:=id l;refine(z8 h1 aL ?_);refine(z8 o aL ?_);refine(0,2,3);by_cases e:L=L'
  .exact D9 (by rw[e]) (q e)
  .rw [M5 (λz=>e (gf (V.NA.QK z)))];show aw ((b.lt.sm.txt ζ,hNa.lt.sm.txt ζ),λx=>(sT (by change 1≤16777216;decide),j e))
def cc:vw [Q0,Q8,"rounds"] [Q0] (h_ gw):=Aa
def Fl(F:vh K "least" "least" gw f fd)(T:SI K mg UM UZ RU)(s:II K cW)(ab:Df P w K mg ς "walked_machine" 6 [Q0] (Js cW P0 ON))(ag:Df P w K mg ς "rounds_of" 2 [Z1,Z2,"most"] sp_roundsG)(an:Df P w K mg ς "folded" 3 [Q8,"lots"] (K9 cW)):aa P w K mg ς pu 7 f fd [Q0] (IJ P0 ON):=by
 refine F.Vo cc ?_;rintro _ _ _ _ _ _ _ _ S⟨m,L,W,B,ζ,Z,C,hT,q⟩;let Q:=S.Pk (j:=2) (!0);let O:=S.Pk (j:=3) (!0);refine(_,(m_ (va 1 cc.nd (wx ab S (o_ (pv 0)))) (m_ (va 2 cc.nd (wx ag Q (wm (AD (f:=Z1) (pv 1) ζ) (AD (f:=Z2) (pv 1) ζ) (Cj T.PQ (AD (f:=Z1) (pv 1) ζ))))) (k_ (o9 (wx an O (q_ (pv 1) (AB (pv 2) (Es Et b')))))))),3);refine(0,m,L,W,B,1,Z.l,C,hT,λD t wd y md ks ap ws h R Bm H1 s1 X hW ht as ar N b u bf g hR bl J Rr le=>?_);let d:=oa C bf g hR bl le;let⟨dx,H⟩:=hW.ex;refine(0,D,cW,dx,4,H,s.OO,s.na4,1,0,D,cW,dx,4,H,s.OO,s.na5,1,0,D,cW,dx,4,H,s.OO,s.na4,1,y,0,.NJ (o5.of N),3);refine(y,md,h,7,L,R,Bm,R.β,by rw[ol,b.1];rfl,.NJ ζ,N,.NJ ζ,u,b.1,λi r e=>?_,d,λp n k H2 s2 hp v o I hk=>?_)
 .let hi:i<R.β:=by rw[<-b.1];show(q5 e).1
  show(R[i],n_ hi,_,.NJ ζ,b.2 i r _ e (n_ hi))
 let st:Rd R Bm (k+1)=Rd R Bm k:=by
  rcases I with z|⟨M,Z,z⟩
  .exact z
  .have:=dM d Z;lia
 obtain⟨E,A⟩:∃E,n[k]?<*E:=(n[k]'(by rw[v];show OC k),n_ _);let x:=o k E A;let U:=Jb v A;refine(6,0,AJ hp U ?_);refine(D,t,wd,y,md,E,h,L,R,Bm,k,1,(dx,s2 _ _ H),s2 _ _ N,(b.1,λi a r a1 a2=>s2 _ _ (b.2 i a r a1 a2)),s2 _ _ u,d,x,λmm f H3 hm s3 hf Y=>?_);show q f _ _ H3 (Ie s1 (qA (s2.ν s3))) (Gs (Gs X s2) s3) Y (ks,ws,R,Bm,k,mm,bf,g,hR,bl,J,Rr,le,d,st,hm,5)
def e_M:vw [Q0,Q4,"rows"] [Q0,Q4] (h_ KB):=Aa
def LY(F:vh K "lots_after" "lots_after" KB f fd)(T:SI K mg UM UZ RU):aa P w K mg ς pu 1 f fd [Q0,Q4] Tm:=by
 refine F.Vo e_M ?_;rintro _ _ _ _ _ _ _ _ _⟨m,v,o,L,W,B,k,ζ,hM,Q,ho,hv,E,Y,q⟩;refine(_,(m_ (va 2 e_M.nd (EB [Q0,Q4,"rows"] ζ (!0) (Dz (pv 1)) (λcl C fp s' H'=>(B3,rz (Hj K) (rz (Hj K) (pv 1) b' (λ_ _=>rfl)) (pv 0) (λ_ _=>rfl))))) (k_ (o9 (qR [Q0,Q4,"rows"] ζ (!0) (G_ ζ T.N4 (o_ (Hx T.PQ (Ae 0)))) (λcl C fp s' H'=>(B3,EB ["place",Q0,Q4,"rows"] ζ (show γ.Nz (["row","place",Q0,Q4,"rows"]:γ NB) by decide) (Dz (pv 3)) (λcl C fp s' H'=>(B3,rz (Hj K) (pv 0) (pv 1) (λ_ _=>rfl))))))))),3);let⟨wy,mk,ap,h1,h2,h3,h4,h5⟩:=id hM;let hz:(tx L).β≤Λ:=sT (by rw[oh];show IO Q.lt.hi (!0));let ag:(c_ k).β≤Λ:=by rw[f_];show sT (IO E (!0))
 let J:∀{j:Φ}{x:V},(c_ k)[j]?<*x->j<k.β/\x=.MS ((k.ML j 0:Φ):MN)/\k.ML j 0<W.β:=λ{j x}e=>by
  let H:j<k.β:=by have:=(q5 e).1;rwa [f_]at this
  rw[CY H]at e;cases e;show(H,1,Y _ (GM H))
 dsimp only[Bv];dsimp only[Sk,aP,aK,Cq,Aw,Cr,BQ];refine EZ (a:=v) (λR h=>(0,h)) ho hv (λD j ys H'=>∃rs:γ υ,A3 (ys=rs.NN V.ο) (rs.β=j) (∀(i:Φ)(a:υ),rs[i]?<*a->H' a<*.No (c_ (W.ML (k.ML i 0) [])))) ag (λD S=>([],5,λi a e=>by simp at e)) ?_ ?_
 .intro D j x ys H' R1 R2 S hx b d hp k1 k2;let⟨rs,ζ,g,M⟩:=hp;let⟨H,ζ,O⟩:=J hx;let⟨ra,s,U⟩:=zl.Vx h4 (h5.OR b) O;refine l_ (z8 (b _ _ h1) aJ (0,Fc (b _ _ h2) (Ea V.ο s) (k1 _ H' d (a'.Ra b S) (rs++[ra],by rw[Nw];rfl,by rw[w_,g];rfl,λi u e=>?_))));rcases Fy e with z|⟨rfl,ζ⟩
  .exact tf (M i u z) d (!5)
  .rw [g];show tf U d (!5)
 intro Dw ys H2 ar l Z ab;let⟨rs,ζ,g,M⟩:=ab;rw[f_]at g;dsimp only[gj,Bv,Sk,aP,aK,Cq,Aw,Cr,BQ];refine Jc (n:=L.β) (λR h=>(z8 (l _ _ h1) aL (0,hz,by rw[oh];show h))) (IO Q.lt.hi (!0)) (λD j ys H'=>∃ls:γ υ,A3 (ys=ls.NN V.ο) (ls.β=j) (∀(q:Φ)(a:υ),ls[q]?<*a->a≠D/\H' a<*.M7 (c_ (gA W k q)))) (λD S=>([],5,λi a e=>by simp at e)) ?_ ?_
 .intro D q0 ys H' R1 R2 S hq b d hp k1 k2;let⟨ls,ζ,A,N⟩:=hp;let s2:=l.ν b;refine l_ ?_;refine EZ (a:=Dw) (λR h=>(0,h)) (.NJ ζ) (b _ _ Z) (λD2 j I H4=>I=(c_ (gA W k q0)).OE j) (by rw[ol,g];show sT (IO E (!0))) (λD2 r=>!1) ?_ ?_
  .intro D2 j y I H4 R3 R4 r hy U0 p t k3 k4;rw[tS]at hy;let⟨ra,s,ζ⟩:=BG hy;let H:j<k.β:=by rw[<-g];show(q5 s).1
   let O:=Y _ (GM (ws:=k) H);let l1:=(Eb Q O).1;refine l_ (6,Fc (U0 _ _ (b _ _ (M j ra s))) (by rw[MN.QA];show DW (by rw[l1];show hq)) (k3 _ H4 p (a'.Ra U0 r) ?_));rw[t];refine(DX ?_).MQ;rw[CY (by rw[gA,ol];show H),gA,c9 H]
  .intro D2 I H4 r U0 p t;rw[ol,g,N9 (by rw[f_,gA,ol];show LE _)]at t;subst t;let an:=U0 _ _ d;refine k1 (.ο D2) H4 an (a'.Ra (b.ν U0) S) (ls++[D2],by rw[Nw];rfl,by rw[w_,A];rfl,λi u e=>?_);rcases Fy e with z|⟨rfl,ζ⟩
   .obtain ⟨z1,z2⟩:=N i u z;show(z1,by rw[a_ z1];show U0 _ _ z2)
   .let X:u≠D:=λzz=>by rw[zz,d]at r;cases r
    show(X,by rw[A,a_ X];show p)
 .intro D ys H' S b d hp;let⟨ls,ζ,A,N⟩:=hp;show q D ls H' (l.ν b) d A λq a e=>(N q a e).2
def oG:vw [Q4] [Q4] (h_ ck):=Aa
def Cm(F:vh K "lot_of" "lot_of" ck f h)(T:SI K mg UM UZ RU):aa P w K mg ς pu 1 f h [Q4] (HH K):=by
 refine F.Vo oG ?_;rintro _ _ _ _ _ _ _ _ _⟨p,ns,ζ,hp,b,q⟩;refine(_,(k_ (o9 (Ev Gi (!4) T.P_ Pe (o_ (Ds (mn ζ) (!4) T.sorted Oi.Sf.boot_sorted (o_ (Ev (pT ζ) (!4) T.Ra Oi.Sf.boot_set (o_ (pv 0))))))))),3);refine(0,p,ns,1,hp,b,λa g=>(a,DZ ns,1,bR b,j_,λl e=>(l,0,.NJ (o5.of j_,λt d=>?_))));show q t _ ((a'.MT g).ν ((a'.MT e).ν (a'.MT d))) j_
def dR:vw [Q0,Q4] [Q0,Q4] (h_ KC):=Aa
def L0(F:vh K "has_marked" "has_marked" KC f H)(T:SI K mg UM UZ RU):aa P w K mg ς pu 1 f H [Q0,Q4] Xy:=by
 refine F.Vo dR ?_;rintro _ _ _ _ _ _ _ _ _⟨m,v,o,L,W,B,k,ζ,A,s,z,y,e,l,q⟩;refine(_,(k_ (o9 (Ds (pV ζ) (!4) T.Ql Oi.Sf.boot_any (o_ (EB [Q0,Q4] ζ (!0) (Dz (pv 1)) (λQ C O s' H'=>(B3,rz (Hj K) (rz (Hj K) (pv 1) b' (λ_ _=>rfl)) (pv 0) (λ_ _=>rfl)))))))),3);let⟨J,mk,u,h1,h2,E,N,M⟩:=id A;let n:(c_ k).β≤Λ:=by rw[f_];show sT (IO e (!0))
 dsimp only[gj,Sk,aP,aK,Cq,Aw,Cr,BQ];refine EZ (a:=v) (λR h=>(0,h)) z y (λD j ys H'=>ys=((k.NN λr=>B.ML r η).OE j).NN V.bl) n (λD t=>rfl) ?_ ?_
 .intro D j x ys H' S R2 t i b d hp k1 k2;let g:j<k.β:=by have:=(q5 i).1;rwa [f_]at this
  rw[CY g]at i;cases i;let p:=l _ (GM (ws:=k) g);refine l_ (z8 (b _ _ h1) dI (0,Fc (b _ _ E) (H_ (ik s.bl p)) (k1 _ H' d (a'.Ra b t) ?_)));rw[hp,Ti,tS,n_ g,Nw,bZ g];rfl
 .intro D ys I t b d hp;rw[f_,<-ol (f:=λr=>B.ML r η),SO]at hp;subst hp;refine(D,0,d,3);have:=q I b;rw[γ.any_map];show this
def dP:vw [Q0,"place",Q4] [Q0,"place",Q4] (h_ KD):=Aa
def L1(F:vh K "rooms_into" "rooms_into" KD f O)(T:SI K mg UM UZ RU):aa P w K mg ς pu 1 f O [Q0,"place",Q4] Tu.Z6:=by
 refine F.Vo dP ?_;rintro _ _ _ _ _ _ _ _ _⟨m,st,L,W,B,j,S,ζ,M,s,J,Rx,q⟩;refine(_,(k_ (o9 (Ev Gi (!4) T.P_ Pe (o_ (Jn [Q0,"place",Q4] ζ (!0) (Jf ζ T.enumerate (o_ (Ae 0))) (λcl C Z s' H'=>(mV (A1 (lf K) (rz (Hj K) (pv 1) (pv 3) (λ_ _=>rfl)) (pv 4) (by with_unfolding_all rfl)),pv 0))))))),3);let⟨H,mk,e,h1,h2,Y,A,N⟩:=id M;let k:(e.NN V.ο).β=W.β:=by rw[ol,A]
 let o:=s.n60;dsimp only[gj,BQ,Aw];refine LF (c:=H) (λR h=>(z8 h1 aJ h)) (.NU ζ) h2 (λD i ys H'=>ys=c_ ((γ.N4 i).SL λr=>S.M9 (QY W r j))) (by rw[k];show sT (IO o (!0))) (λD v=>rfl) ?_ ?_
 .intro D i x ys H' E R1 R2 v y d b hp a k1 k2;rw[tS]at y;let⟨I,n,ζ⟩:=BG y;let X:i<W.β:=by rw[<-A];show(q5 n).1
  let⟨ws,g,l⟩:=N i I n;let Q:W.ML i []=ws:=by rw[u6,g];rfl
  let t:=d.ν a;let u:=(s.Vx ws (AC g)).1;refine(6,Fc (t _ _ l) (DW (by rw[u];show J)) (0,st,0,.NU (u0.of (t _ _ Rx)),1,LG _,0,3));let U:ws.ML j 0=QY W i j:=by unfold QY;rw[Q]
  rw[U];change if (EQ (.MS ((QY W i j:Φ):MN)) (c_ S))=ξ then _ else _
  rw[dj];cases z:S.M9 (QY W i j)with
  |ξ=>
   refine aw (0,k1 _ E (a _ _ b) (a'.Ra t v) ?_);rw[hp,As,z];show(Ji _ _).MQ
  |η=>
   refine aj (k2 E t (a _ _ b) ?_);rw[hp,As,z];simp
 .intro D ys H' v d b hp;rw[k]at hp;subst hp;show(D,0,.NJ (o5.of b,λp hp=>q p _ (d.ν (a'.MT hp)) j_))
def h_G:vw [Q0,Z2] [Q0] (h_ KE):=Aa
def li(F:vh K "outside" "outside" KE f fd)(T:SI K mg UM UZ RU)(nd:(ts.NN Up.fst).Nz)(i0:(P0,ON,)∈ts)(aM:Df P w K mg ς "walked_machine" 6 [Q0] (Js cW P0 ON))(aN:AT P w K mg ς "told" 4 [Q8] (G1 cW RU)):aa P w K mg ς (Am P w) 7 f fd [Q0] (gq RU ts je):=by
 refine F.okX h_G (λvs H Q E h=>?_) (λQm A Fr s H vs Q E hr h=>?_)
 .obtain ⟨m,L,W,B,ζ,_⟩:=h;rfl
 .obtain ⟨m,L,W,B,ζ,hM,g,hW8,hA,qE,q⟩:=h;let hT:=hA _ i0;let ap:=hr.Pk (j:=4) (!0);refine(_,(m_ (Jm [Q0,Z2] (j:=1) ζ h_G.nd (!0) ζ (Or.NJ ζ) (Dz (Ae 0)) (λcl C fp s' H'=>(B3,BP (pv 0)))) (k_ (o9 (Cu aN ap (CL λ_ _ _ z=>z) (o_ (wx aM hr (o_ (Bg (wm (Ae 0) (Ae 0) (pv 1)))))))))),3);let⟨J,mk,N,h1,h2,h3,h4,h5⟩:=id hM;let O:=g.n60;dsimp only[Bv,Sk,aP,aK,Cq,Aw,Cr,BQ];refine EZ (a:=mk) (λR h=>(z8 h1 dI h)) (.NU ζ) h3 (λD j ys H'=>ys=((B.NN not).OE j).NN V.bl) (by rw[ol,g.bl];show sT (IO O (!0))) (λD hD=>rfl) ?_ ?_
  .intro D j x ys H' R1 R2 hD hx n I hp k1 k2;rw[tS]at hx;let⟨b,hb,ζ⟩:=BG hx;refine l_ (0,b,1,k1 _ H' I (a'.Ra n hD) ?_);rw[hp,Ti,tS,hb,Nw];rfl
  .intro D ys H1 hD n I hp;rw[ol,<-ol (f:=not),SO]at hp;subst hp;let U:=n _ _ h1;refine(z8 U aL (z8 U aJ (0,sT (by change 3≤16777216;decide),λt ht=>?_)));let s2:=n.ν (a'.MT (o:=.No [.NA (tx L),.ο J,.ο D]) ht);let S:L2.MT H1 t (.No [.NA (tx L),.ο J,.ο D]) t<*.No [.NA (tx L),.ο J,.ο D]:=j_;let Y:=Ai (u:=.No [.NA (tx L),.ο J,.ο D]) I ht;generalize L2.MT H1 t (.No [.NA (tx L),.ο J,.ο D])=H2 at s2 S Y;let aC:g_ L W (B.NN not):={g with bl:=by rw[ol];show g.bl};let X:=Gs hT s2;refine(t,L,W,B.NN not,1,(J,D,N,S,s2 _ _ h2,.NU Y,h4,λi a e=>by let⟨ws,e1,e2⟩:=h5 i a e;show(ws,e1,s2 _ _ e2)),aC,X,λwk t' wd y md ks aS ws v R Bm H3 s3 aB hW aU aT an hy ag ar bf l Z bl ab Rr le=>?_);let kT:KT ts H H3:=(KT.of s2).ν (KT.ofX nd i0 s3 X aB);let r:=Ik (Bm:=Bm) g.lt bf l Z bl (IO le O);refine(wk,t',wd,y,md,v,L,R,Bm,ws,1,hW,hy,ag,ar,an,by rw[Z];show bf.PQ.MQ,r,λd H' s' p=>qE d H' (kT.ν (KT.of s')) p,λmm k ff H4 hm M as s4 hf aH=>?_);refine q ff _ _ H4 (kT.ν (KT.of s4)) aH (GP hm r) (Ip as) (Io bf l Z r M hm) λu hu=>?_;unfold AX je;dsimp only;rw[Ho hm r M hu,Il bf l Z bl ab hu];rw[cr 0 u.β u ζ];let az:=Di g (w:=u) g.n1 hu;change (B.NN not).ML (PM L W 0 u) η=ξ↔_;let aA:PM L W 0 u<B.β:=by rw[g.bl];show az
   rw[u6,tS,u6,n_ aA];change (!B[PM L W 0 u])=ξ↔B[PM L W 0 u]=η;rw[RC]
def oF:vw [Q0] [Q0] (h_ ci):=Aa
def oW(F:vh K "turned" "turned" ci f fd)(T:SI K mg UM UZ RU)(nd:(ts.NN Up.fst).Nz)(i0:(P0,ON,)∈ts)(iT:(PT,Tu.AW,)∈ts)(ar:AT P w K mg ς "told" 4 [Q8] (G1 cW RU))(an:Df P w K mg ς "walked_turned" 6 [Q0] (Tu.BY cW PT Tu.AW))(ap:Df P w K mg ς "least" 7 [Q0] (IJ P0 ON)):aa P w K mg ς (Am P w) 8 f fd [Q0] (gq RU ts cQ):=by
 refine F.okX oF (λvs H Q E h=>?_) (λQm A Fr s H vs Q E S h=>?_)
 .obtain ⟨m,L,W,B,ζ,_⟩:=h;rfl
 .obtain ⟨m,L,W,B,ζ,hM,l,hW8,hA,qE,q⟩:=h;let r:=hA _ i0;let O:=S.Pk (j:=4) (!0);let N:=S.Pk (j:=6) (!0);refine(_,(k_ (o9 (Cu ar O (CL λ_ _ _ z=>z) (o_ (wx an N (o_ (wx ap S (o_ (pv 0))))))))),3);refine(0,m,L,W,B,1,hM,l,r,λf W1 B1 H1 s1 o ag e=>?_);let kA:KT ts H H1:=KT.ofX nd i0 s1 r o;let i:=kA.tb hA _ iT;refine(f,L,W1,B1,1,ag,e.Sj,IO e.PQ hW8,i,λwk t wd y md ks ws n R Bm H2 s2 Z hW J hy I U C a x bl D le=>?_);let kT:KT ts H H2:=kA.ν (KT.ofX nd iT s2 i Z);let b:=Ik (Bm:=Bm) l.lt C a x bl (IO le (!0));refine(wk,t,wd,y,md,n,L,R,Bm,ws,1,hW,hy,I,U,J,by rw[x];show C.PQ.MQ,b,λd H' s' p=>qE d H' (kT.ν (KT.of s')) p,λmm k g H3 Y st X s3 hg ab=>?_);refine q g _ _ H3 (kT.ν (KT.of s3)) ab (GP Y b) (Ip X) (Io C a x b st Y) λu v=>?_;unfold AX cQ;dsimp only;let M:∀c∈u.Ng,c∈L:=λc hc=>v c (VY.mp hc);rw[Ho Y b st v,Il C a x bl D v,km e.Sj v,e.YH l M]
def b_W:vw [Q3,"with_empty","signs","begin","shut"] [Q3,"with_empty","signs"] (h_ KF):=Aa
def Mt(F:vh K "short_machine" "short_machine" KF f fd)(T:SI K mg UM UZ RU)(nd:(ts.NN Up.fst).Nz)(O:(P0,ON,)∈ts)(Z:Df P w K mg ς "least" 7 [Q0] (IJ P0 ON)):aa P w K mg ς pu 8 f fd [Q3,"with_empty","signs"] (em ts):=by
 refine F.Vo b_W ?_;rintro _ _ _ _ H _ _ _ hr⟨L,S,we,ζ,y,hA,q⟩;refine(_,(m_ (va 3 b_W.nd (Ev Gi (!4) T.P_ Pe (o_ (EB [Q3,"with_empty","signs","begin","shut"] ζ (!0) (gD (pv 0)) (λcl C fp s' H'=>(B3,cJ (A1 HN (pv 0) (pv 3) (by with_unfolding_all rfl)) b' b')))))) (m_ (va 4 b_W.nd (Ev Gi (!4) T.P_ Pe (o_ (EB [Q3,"with_empty","signs","begin","shut"] ζ (!0) (gD (pv 0)) (λcl C fp s' H'=>(B3,b')))))) (k_ (o9 (wx Z hr (o_ (Bg (wm (pv 0) (Bg (wm (pv 3) (pv 4) (pv 4))) (Bg (wm (pv 1) BK BK)))))))))),3);let hz:(tx L).β≤Λ:=sT (by rw[oh];have:=y.hi;lia);let gx:∀{i:Φ}{v:V},((tx L).Tc.NF.NN λc=>V.NA ⟨#[c]⟩)[i]?<*v->∃c,L[i]?=δ c/\v=.NA (tx [c]):=λ{i v}e=>by
  rw[tS]at e;let⟨c,Y,ζ⟩:=BG e;show(c,Y,1)
 dsimp only[Bv];dsimp only[Sk,aP,aK,Cq,Aw,Cr,BQ];refine fJ (j:=0) (x:=tx L) ζ (λD i ys H'=>ys=(c_ (L.NN λc=>if S.M9 c then 1 else 2)).OE i) hz (λD k=>!1) ?_ ?_
 .intro D i x ys H' R1 R2 k Q h g d k1 k2;let⟨c,X,ζ⟩:=gx Q;let Y:=HE S c;refine l_ (6,_,2,3);let J:ys++[V.MS ((if S.M9 c then 1 else 2:Φ):MN)]=(c_ (L.NN λc=>if S.M9 c then 1 else 2)).OE (i+1):=by
   rw[d];refine(DX ?_).MQ;unfold c_;rw[tS,tS,X];rfl
  change (if (!(Builtin.NB.SS (tx S) ⟨#[c]⟩ 0 (tx S).β 1).SG)=ξ then R1 (.MS 1) H' else R1 (.MS 2) H');rw[Y];by_cases hs:S.M9 c=ξ
  .rw [Id hs]at J⊢;show k1 _ H' g (a'.Ra h k) J
  .rw [BT hs]at J⊢;show k1 _ H' g (a'.Ra h k) J
 intro D ys H1 k s1 g d;rw[oh,N9 (by rw[f_,ol];show LE _)]at d;subst d;refine(D,0,.NJ (o5.of g,λb hb=>?_));let s2:=s1.ν (a'.MT (o:=.No (c_ (L.NN λc=>if S.M9 c then 1 else 2))) hb);let t:L2.MT H1 b (.No (c_ (L.NN λc=>if S.M9 c then 1 else 2))) b=_:=j_;generalize L2.MT H1 b (.No (c_ (L.NN λc=>if S.M9 c then 1 else 2)))=H2 at s2 t;dsimp only[Bv];dsimp only[Sk,aP,aK,Cq,Aw,Cr,BQ];refine fJ (j:=0) (x:=tx L) ζ (λD i ys H'=>ys=(c_ (L.NN λ_=>2)).OE i) hz (λD k=>!1) ?_ ?_
 .intro D i x ys H' R1 R2 k Q h g d k1 k2;let⟨c,X,ζ⟩:=gx Q;refine l_ (k1 _ H' g (a'.Ra h k) ?_);rw[d];refine(DX ?_).MQ;unfold c_;rw[tS,tS,X];rfl
 intro D2 ys H3 ab s3 A d;rw[oh,N9 (by rw[f_,ol];show LE _)]at d;subst d;refine(D2,0,.NJ (o5.of A,λE s=>?_));let l3:3≤Λ:=sT (by change 3≤16777216;decide);refine(6,6,l3,λro R=>(0,l3,λmk U=>(l3,λm hm=>?_)));let s4:=a'.MT (o:=.No (c_ (L.NN λ_=>2))) s;let M:=a'.MT (o:=.No [.ο b,.ο E,.ο E]) R;let I:=a'.MT (o:=.No [.bl we,.bl ξ,.bl η]) U;let l:=a'.MT (o:=.No [.NA (tx L),.ο ro,.ο mk]) hm;let sA:=s2.ν (s3.ν (s4.ν (M.ν (I.ν l))));let N:KT ts H _:=KT.of sA;refine(m,L,Do L S,[we,ξ,η],1,(ro,mk,[b,E,E],j_,l _ _ (I _ _ j_),l _ _ j_,1,λi r e=>?_),bH y,N.tb hA _ O,λf W B H' sx tb hM p=>?_)
 .let h1:=(s4.ν (M.ν (I.ν l))) _ _ (s3 _ _ t);let h2:=(M.ν (I.ν l)) _ _ (j_ (H:=H3) (a:=E) (o:=.No (c_ (L.NN λ_=>2))));match i with
  |0=>cases e;show(0,h1)
  |1=>cases e;show(0,h2)
  |2=>cases e;show(0,h2)
  |n+3=>simp at e
 .refine q f W B H' (N.ν (KT.ofX nd O sx (N.tb hA _ O) tb)) (hM,p.Sj,IO p.PQ (by change 3≤8;decide)) (p.canon (bH y)) ?_;rw[<-yt];show aD λu=>(λz=>(z.1,(p.YH (bH y) z.1).MQ.ν z.2),λz=>(z.1,(p.YH (bH y) z.1).ν z.2))
def d_y:vw [Q3,"shape","kind"] [Q3,"shape"] (h_ KG):=Aa
def Mu(F:vh K "piece_machine" "piece_machine" KG f l)(T:SI K mg UM UZ RU)(a:Df P w K mg ς "short_machine" 8 [Q3,"with_empty","signs"] (em ts)):aa P w K mg ς pu 9 f l [Q3,"shape"] (eE ts):=by
 refine F.Vo d_y ?_;rintro _ _ _ _ H _ _ _ g⟨L,t,v,ζ,e,i,b,d,q⟩;refine(_,(m_ (va 2 d_y.nd (Ae 1)) (m_ (u_ (Ap (pv 2) n') (k_ (o9 (wx a g (wm (pv 0) (BK) (Ae 1))))) (wh)) (k_ (o9 (wx a g (wm (pv 0) (EM bA (pv 2) n' (A' _)) (cJ (Ap (pv 2) n') (pv 0) n'))))))),3);let h:NB.Ni ""=tx []:=by decide +kernel
 rcases i with⟨k,ζ⟩|⟨c,ζ⟩
 .obtain ⟨p,ζ,hp⟩:=e;let h0:u0 K H p [.NA (Hy k)]:=u0.of hp;cases k with
  |PU=>
   refine(0,p,_,8,h0,AG (j:=0) ζ,2,ac (!3) ?_);refine(0,2,1,0,ac (!3) ?_);show(L,[],η,by rw[h];rfl,b,d,q)
  |Rj=>
   refine(0,p,_,8,h0,AG (j:=0) ζ,2,ac (!3) ?_);refine(0,2,1,0,ac (!3) ?_);show(L,[],ξ,by rw[h];rfl,b,d,q)
  |Ql=>
   refine(0,p,_,8,h0,AG (j:=0) ζ,2,ac (!3) ?_);refine(0,2,1,0,am (!3) ?_);show(0,L,L,η,1,b,d,q)
 .obtain ⟨p,ζ,hp⟩:=e;refine(z8 hp aL (2,am (!3) ?_));show(0,z8 hp aJ (L,[c],η,1,b,d,q))
def g_G:vw ["kind","machines","one","two"] ["kind","machines"] (h_ cm):=Aa
def oY(F:vh K "joined" "joined" cm f O)(T:SI K mg UM UZ RU)(J:AT P w K mg ς "outside" 7 [Q0] (gq RU ts je))(D:AT P w K mg ς "turned" 8 [Q0] (gq RU ts cQ))(I:AT P w K mg ς "again" 8 [Q0] (gq RU ts Ag))(C:AT P w K mg ς "either" 7 [Q0,"second"] (bE RU ts (D0 (λa b=>a||b))))(M:AT P w K mg ς "less" 7 [Q0,"second"] (bE RU ts (D0 (λa b=>a&&!b))))(y:AT P w K mg ς "both" 7 [Q0,"second"] (bE RU ts (D0 (λa b=>a&&b))))(N:AT P w K mg ς "then" 8 [Q0,"second"] (bE RU ts cR)):aa P w K mg ς (Am P w) 9 f O ["kind","machines"] (K_ RU ts):=by
 refine F.okX g_G (λvs H Q E h=>?_) (λQm A Fr s H vs Q E x h=>?_)
 .obtain ⟨p,L,_,_,⟨k,m,W,B,ζ,_⟩|⟨k,m,m2,W,u,B,v,ζ,_⟩⟩:=h<;>rfl
 .obtain ⟨p,L,t,r,h⟩:=h;let o:=x.Pk (j:=7) (!0);refine(_,(m_ (va 2 g_G.nd (AB (pv 1) b')) (m_ (u_ (Ap (pv 0) n') (k_ (o9 (Cu J o (CL λ_ _ _ z=>z) (o_ (pv 2))))) (wh)) (m_ (u_ (Ap (pv 0) n') (k_ (o9 (Cu D x (CL λ_ _ _ z=>z) (o_ (pv 2))))) (wh)) (m_ (u_ (Ap (pv 0) n') (k_ (o9 (Cu I x (CL λ_ _ _ z=>z) (o_ (pv 2))))) (wh)) (m_ (va 3 g_G.nd (AB (pv 1) b')) (m_ (u_ (Ap (pv 0) n') (k_ (o9 (Cu C o (CL λ_ _ _ z=>z) (q_ (pv 2) (pv 3))))) (wh)) (m_ (u_ (Ap (pv 0) n') (k_ (o9 (Cu M o (CL λ_ _ _ z=>z) (q_ (pv 2) (pv 3))))) (wh)) (m_ (u_ (Ap (pv 0) n') (k_ (o9 (Cu y o (CL λ_ _ _ z=>z) (q_ (pv 2) (pv 3))))) (wh)) (k_ (o9 (Cu N x (CL λ_ _ _ z=>z) (q_ (pv 2) (pv 3))))))))))))),3);rcases h with⟨k,m,W,B,ζ,hp,i,q⟩|⟨k,m,m2,W,u,B,v,ζ,hp,i,g,q⟩
  .let h0:o5 K H p [.ο m]:=o5.of hp;refine(0,p,_,8,h0,AG (j:=0) ζ,3);cases k with
   |Ob=>show(2,am (!3) (0,m,L,W,B,1,i.mt,i.ma,i.le,t,r,λf l n H' k a b c d e=>q f l n H' k (a,b,c) d (xg e)))
   |OJ=>show(2,ac (!3) (2,am (!3) (0,m,L,W,B,1,i.mt,i.ma,i.le,t,r,λf l n H' k a b c d e=>q f l n H' k (a,b,c) d (uI e))))
   |again=>show(2,ac (!3) (2,ac (!3) (2,am (!3) (0,m,L,W,B,1,i.mt,i.ma,i.le,t,r,λf l n H' k a b c d e=>q f l n H' k (a,b,c) d (rM e)))))
  .let h0:o5 K H p [.ο m,.ο m2]:=o5.of hp;refine(0,p,_,8,h0,AG (j:=0) ζ,3);cases k with
   |PB=>show(2,ac (!3) (2,ac (!3) (2,ac (!3) (0,p,_,8,h0,AG (j:=1) ζ,(2,am (!3) (6,m,m2,L,W,u,B,v,1,i.mt,i.ma,g.mt,g.ma,i.le,g.le,t,r,λf l n H' k a b c d e=>q f l n H' k (a,b,c) d (yY e)))))))
   |Tz=>show(2,ac (!3) (2,ac (!3) (2,ac (!3) (0,p,_,8,h0,AG (j:=1) ζ,(2,ac (!3) (2,am (!3) (6,m,m2,L,W,u,B,v,1,i.mt,i.ma,g.mt,g.ma,i.le,g.le,t,r,λf l n H' k a b c d e=>q f l n H' k (a,b,c) d (uL e))))))))
   |Te=>show(2,ac (!3) (2,ac (!3) (2,ac (!3) (0,p,_,8,h0,AG (j:=1) ζ,(2,ac (!3) (2,ac (!3) (2,am (!3) (6,m,m2,L,W,u,B,v,1,i.mt,i.ma,g.mt,g.ma,i.le,g.le,t,r,λf l n H' k a b c d e=>q f l n H' k (a,b,c) d (xh e)))))))))
   |OP=>show(2,ac (!3) (2,ac (!3) (2,ac (!3) (0,p,_,8,h0,AG (j:=1) ζ,(2,ac (!3) (2,ac (!3) (2,ac (!3) (6,m,m2,L,W,u,B,v,1,i.mt,i.ma,g.mt,g.ma,i.le,g.le,t,r,λf l n H' k a b c d e=>q f l n H' k (a,b,c) d (uJ e)))))))))
def c_e:vw [Q3,"shape","kind","machines","refusal"] [Q3,"shape"] (h_ KH):=Aa
def dS(F:vh K "machine_of" "machine_of" KH f fd)(T:SI K mg UM UZ RU)(g:G0 K mg RU UM fX fdX)(aS:Df P w K mg ς "piece_machine" 9 [Q3,"shape"] (eE ts))(aU:AT P w K mg ς "joined" 9 ["kind","machines"] (K_ RU ts))(J:mg "machine_of"<*.ο f)(aN:Ao K fd [Q3,"shape"] []):aa P w K mg ς (Am P w) 22 f fd [Q3,"shape"] (HG RU ts 12):=by
 let PQ:∀n vs H Q E,HG RU ts n vs H Q E->vs.β=[Q3,"shape"].β:=λn vs H Q E h=>by
  let⟨L,t,v,ζ,_⟩:=h;rfl
 let QD:∀n:Φ,aa P w K mg ς (Am P w) (n+10) f fd [Q3,"shape"] (HG RU ts n):=by
  intro n;induction n with
  |TF=>show(PQ 0,λ_ _ _ _ _ _ vs Q E _ _ _ _ h=>by let⟨L,t,v,_,_,hd,_⟩:=h;have:=t.U5;lia)
  |Si n ih=>
   let aT:AT P w K mg ς "machine_of" (n+10) [Q3,"shape"] (HG RU ts n):=(f,fd,J,F.kp,aN,ih);refine F.okX c_e (PQ _) (λQm A Fr s H vs Q E hr h=>?_);let⟨L,t,v,ζ,hs,hd,hL,hA,qE,q⟩:=h;let ab:=hr.Pk (j:=9) (!6);refine(_,(m_ (va 2 c_e.nd (Ae 1)) (m_ (u_ ((CO (Ap (pv 2) n') (EJ (Ap (Cj T.PQ (pv 1)) b'))).pt) (k_ (o9 (wx aS ab (q_ (pv 0) (pv 1))))) (wh)) (m_ (iY [Q3,"shape","kind","machines","refusal"] (j:=3) wR ζ c_e.nd (!0) ζ (Or.NJ ζ) (Dz (Gh wD (pv 1) (FE b') GC)) (λcl C fp s' H'=>(B3,Cu aT hr (gH ζ) (q_ (pv 1) (pv 0))))) (k_ (uk (E:=E) (i:=4) ζ ζ ζ ζ c_e.nd ζ ζ (Or.NJ ζ) (Or.NJ ζ) ζ g.kT (!0) g.Xk g.fn (lj g T.Qx) dg hr (g.ini.WC (ps:=["self",Q6,"tails","part"]) (λ_ _ _ _ _ _ us hl=>by let⟨_,_,_,_,ζ⟩:=yZ hl;rfl)) (λv=>wm (i9 (f:=Q6) K (pv 4)) (i9 (f:="tails") K (pv 4)) (pv 1)) (wK aU ab (q_ (pv 2) (pv 3)))))))),3);let l3:3≤Λ:=sT (by change 3≤16777216;decide);rcases qq hs hd with⟨k,ζ⟩|⟨c,ζ⟩|⟨p,nm,us,as,ζ,hp,hul,h1,h2,aA,hpt,hk⟩
   .obtain ⟨p,ζ,hp⟩:=id hs;refine(z8 hp aL (2,ac (by cases k<;>decide +kernel) ?_));refine(0,p,0,.NU (u0.of hp),1,0,am ζ ?_);show(6,L,4,hs,.NJ (k,1),hL,hA,q)
   .obtain ⟨p,ζ,hp⟩:=id hs;refine(z8 hp aL (2,am (!3) (aw ?_)));show(6,L,4,hs,.NU (c,1),hL,hA,q)
   let aC:¬ (V.MS (((V.NA nm::us).β:Φ):MN)=V.MS 1):=λz=>by
    have:=V.MS.QK z;rw[NW]at this;lia
   refine(z8 hp aL (2,ac (λz=>aA (V.NA.QK z)) ?_));refine(0,p,0,.NU (u0.of hp),1,0,ac aC ?_);dsimp only[Bv];dsimp only[Sk,aP,aK];let ar:AL (V.NA nm::us) (δ 1) ε=us:=(pP (xs:=V.NA nm::us) (t:=1) (by rw[NW];lia)).ν ζ;refine pQ (xs:=us) (P1:=λa U=>KT ts H U) (λR h=>(6,p,0,u0.of hp,3,λa ha=>?_)) (λU D i ys H'=>A3 (KT ts U H') (H' D<*.M7 ys) (∃S:γ (υ×LL×γ MZ),A3 (ys=S.NN (λx=>V.ο x.1)) (S.β=i) (∀(j:Φ)(x:υ×LL×γ MZ),S[j]?<*x->∃u,as[j]?=δ u/\Mc H' x.1 L x.2.1 x.2.2/\Lg L x.2.1 x.2.2=bF L u))) (sT (IO h2 (!0))) ?_ ?_ ?_ ?_
   .rintro⟨z,_⟩;unfold HT.Sn at z;simp at z
   .rw [ar];show h a _ (KT.of (a'.MT ha)) j_
   .rintro U a D i ys H' ha1⟨O,X,S,ζ,J,_⟩;show(O.sm.No _ _ ha1,X,by rw[ol,J])
   .exact λU D X=>(KT.of (a'.MT X),j_,[],5,λj x e=>by simp at e)
   .rintro a U D i x ys H' R1 k1 X hx⟨O,M,S,ζ,J,hms⟩go;let⟨pt,ag,az,aM⟩:=hpt i x hx;refine(6,L,pt,x,1,(az.kt k1).kt O,aM,hL,(k1.ν O).tb hA,λH2 k2=>qE H2 ((k1.ν O).ν k2),λf W B H2 k2 hM _ hl=>?_);let N:=k2.sm.M7 M;refine go (.ο f) H2 N ((O.ν k2).Ra X N,j_,S++[(f,W,B,)],by rw[Nw];rfl,by rw[w_,J];rfl,λj y e=>?_);rcases Fy e with z|⟨rfl,ζ⟩
    .obtain ⟨u,I,e2,e3⟩:=hms j y z;show(u,I,(e2.kt k2).Ra N,e3)
    .exact (pt,by rw[J];show ag,hM.Ra N,hl)
   .rintro a U D ys H2 k1 X⟨O,M,S,ζ,J,hms⟩;let k2:=k1.ν O;let Z:∀d H',KT ts H2 H'->P8 H' d->nZ K RU 4 (IE RU) (Aw (mL K (bC 4) Q6) (Aw (mL K (bC 4) "tails") (Aw (bC 1) Wz))) E [δ (.NA (tx L)),δ (.ο p),δ (.NA nm),δ (.ο D),ε] (.ο RU) (δ d) H':=by
     rintro d H' k3⟨l,l2,part,xs,ys,ap,aB,an⟩;refine(g.exm,d,1,λe he=>?_);let Y:=a'.MT (o:=dC e (.ο RU) (δ d)) he;refine(0,e,RU,d,4,j_,Y _ _ ap,g.ec,g.xc,g.na1,1,0,e,RU,d,4,j_,Y _ _ ap,g.ec,g.xc,g.na2,1,0,l3,λI r=>?_);let s1:=a'.MT (o:=t_ I RU ε) r;let ne:I≠e:=λz=>by rw[z,j_]at r;cases r
     refine(I,l,l2,_,xs,ys,1,j_,s1 _ _ (Y _ _ aB),s1 _ _ (Y _ _ an),λH6 d6 l6 l7 k6 aH _ _ _ _ _ _=>(1,δ d6,ne,aH,3,3))
     .exact k6 e _ (Ne.MQ ne) (by rw[a_ (Ne.MQ ne),j_])
     .refine qE _ (k2.ν (k3.ν (KT.of λb o z=>?_)));let z1:=Y _ _ z;let n1:b≠I:=e_ z1 r;rw[Ei n1];show k6 b o n1 (Ai z1 r)
    rcases hk with⟨k,x,ζ,ζ,ζ⟩|⟨k,x,y,ζ,ζ,ζ⟩
    .obtain ⟨m,ζ⟩:=J3 (J.ν hul);let⟨u,I,e2,e3⟩:=hms 0 m ζ;cases I;show(6,D,L,k2.tb hA,Z,.NJ (k,m.1,m.2.1,m.2.2,1,M,e2,λf W B H' k3 a b c=>q f W B H' (k2.ν k3) a b (c.ν (by rw[e3];rfl))))
    .obtain ⟨m,m2,ζ⟩:=J4 (J.ν hul);let⟨u,I,e2,e3⟩:=hms 0 m ζ;let⟨u2,f1,f2,f3⟩:=hms 1 m2 ζ;cases I;cases f1;show(6,D,L,k2.tb hA,Z,.NU (k,m.1,m2.1,m.2.1,m2.2.1,m.2.2,m2.2.2,1,M,e2,f2,λf W B H' k3 a b c=>q f W B H' (k2.ν k3) a b (c.ν (by rw[e3,f3];rfl))))
 show QD 12
def e_O:vw ["text","sign"] ["text"] (h_ KI):=Aa
def B8(F:vh K "is_letters" "is_letters" KI f k)(T:SI K mg UM UZ RU):aa P w K mg ς pu 1 f k ["text"] sp_isletters:=by
 refine F.Vo e_O ?_;rintro _ _ _ _ H _ _ _ _⟨L,ζ,a,q⟩;refine(_,(m_ (u_ (DM (iX m5 m5 b' (Hx T.PQ (pv 0)) b')) (k_ (o9 BK)) (wh)) (m_ (De O0.PU ζ (gD (pv 0)) (CB 1 e_O.nd) (k_ (u_ ((CO (DM (iX eM eM n' (pv 1) n')) (EJ (A1 Be (jb Δ.F.plainAttrs_str Δ.F.slot_str_count Δ.F.type_str_count rF (pv 0) (o_ (pv 1))) b' (A' _)))).pt) (k_ (o9 BK)) (wh)))) (k_ (o9 BK)))),3);let hz:(tx L).β≤Λ:=sT (by rw[oh];have:=a.hi;lia);let h:=a.lo;let j:=a.hi;refine(6,hz,_,2,am (by rw[oh];lia) ?_);refine(_,2,D9 (by rw[oh];lia) ?_);refine(6,nB (x:=tx L) (λi b H'=>∃d,b=[δ (.NA (tx L)),d]/\H'=H) (ε,5) ?_ ?_)
 .rintro i c b n g⟨d,ζ,ζ⟩;rw[kl]at g;let e:c∈L:=AC g;let⟨m,l⟩:=a.az c e;refine(0,_,2,3);rw[JQ,rO];refine am m (_,2,3);rw[zH,rO];refine D9 l (2,8,_,2,3);rw[D_];refine ac (by have:=γ.nodup_iff_count.mp a.nd c;lia) ?_;show(0,1)
 .rintro b n⟨d,ζ,ζ⟩;show q
def Mv:vw [Q3] [Q3] (h_ KJ):=Aa
def Mw(F:vh K "need_letters" "need_letters" KJ f e)(T:SI K mg UM UZ RU)(a:Df P w K mg ς "is_letters" 1 ["text"] sp_isletters):aa P w K mg ς pu 2 f e [Q3] YJ:=by
 refine F.Vo Mv ?_;rintro _ _ _ _ _ _ _ _ b⟨L,ζ,d,q⟩;refine(_,(k_ (u_ (DM (BZ (wx a b (o_ (pv 0))))) (k_ (IP)) (wh))),3);show(0,L,1,d,0,aj q)
def dQ:vw ["sign"] ["sign"] (h_ KL):=Aa
def B9(F:vh K "is_wanting" "is_wanting" KL f a)(T:SI K mg UM UZ RU):aa P w K mg ς pu 1 f a ["sign"] ZY:=by
 refine F.Vo dQ ?_;rintro _ _ _ _ H _ Q _ _⟨ch,ζ,q⟩;refine(_,(k_ (o9 (EM HN (pv 0) n' (by with_unfolding_all rfl)))),3);refine(0,_,tx [33,60,40,38,124,45],1,Nb V.NA (!3),3);change Q (.bl (!(Builtin.NB.SS (tx [33,60,40,38,124,45]) ⟨#[ch]⟩ 0 (tx [33,60,40,38,124,45]).β 1).SG)) H;rw[HE];show q
def gv:vw [Q3,"sign","wanting","depth"] [Q3,"sign","wanting","depth"] (h_ KM):=Aa
def CH(F:vh K "can_stand" "can_stand" KM f k)(T:SI K mg UM UZ RU):aa P w K mg ς pu 1 f k [Q3,"sign","wanting","depth"] sp_canstand:=by
 refine F.Vo gv ?_;rintro _ _ _ _ _ _ _ _ _⟨L,ch,w,dd,ζ,q⟩;refine(_,(m_ (u_ ((CO (A1 HN (pv 1) (pv 0) (by with_unfolding_all rfl)) (EJ (A1 HN (pv 1) n' (by with_unfolding_all rfl)))).pt) (k_ (o9 BK)) (wh)) (m_ (u_ (Ap (pv 1) n') (k_ (o9 (FC (EM Be (pv 3) b' (A' _)) (FB (BP (pv 2)))))) (wh)) (k_ (o9 (FC (EM HN (pv 1) n' (by with_unfolding_all rfl)) (FB (BP (pv 2)))))))),3);unfold Ac at q;refine(6,_,2,3);let j:=HE L ch;let i:=HE [48,49,46,33,60,40] ch;let h:=HE [42,38,124,45] ch;refine jp (λh1=>aw ?_) (λh1=>?_)
 .rw [Id (by rw[<-j];rw[show(!(Builtin.NB.SS (tx L) ⟨#[ch]⟩ 0 (tx L).β 1).SG)=ξ from h1];rfl)]at q;show q
 let g:L.M9 ch=η:=j.MQ.ν h1;refine(0,_,tx [48,49,46,33,60,40],1,Nb V.NA (!3),0,jp (λh2=>?_) (λh2=>?_))
 .rw [Id (by rw[show[48,49,46,33,60,40].M9 ch=ξ from i.MQ.ν h2,MZ.or_true])]at q;show q
 let d:[48,49,46,33,60,40].M9 ch=η:=i.MQ.ν h2;rw[BT (by rw[g,d];decide)]at q;refine(2,aQ (λb=>?_) (λb=>?_))
 .rw [Id ((GX (!3)).mp b)]at q;refine(0,_,2,3);refine aQ (λa=>(6,3)) (λa=>?_)
  .rw [NM (show 0<dd by lia),MZ.true_and]at q;show q
  .rw [M5 (show ¬ 0<dd by lia),MZ.false_and]at q;show q
 .rw [BT (λe=>b ((GX (!3)).Ot e))]at q;refine(0,_,tx [42,38,124,45],1,Nb V.NA (!3),0,jp (λa=>(6,3)) (λa=>?_))
  .rw [show[42,38,124,45].M9 ch=ξ from h.MQ.ν a,MZ.true_and]at q;show q
  .rw [show[42,38,124,45].M9 ch=η from h.MQ.ν a,MZ.false_and]at q;show a▸q
def a_E:vw [Q3,"text","depth","wanting","at","sign"] [Q3,"text"] (h_ KN):=Aa
def Mx(F:vh K "need_pattern" "need_pattern" KN f J)(T:SI K mg UM UZ RU)(B:Df P w K mg ς "can_stand" 1 [Q3,"sign","wanting","depth"] sp_canstand)(A:Df P w K mg ς "is_wanting" 1 ["sign"] ZY):aa P w K mg ς pu 2 f J [Q3,"text"] sp_needpattern:=by
 refine F.Vo a_E ?_;rintro _ _ _ _ H _ _ _ C⟨L,w,ζ,y,t,q⟩;refine(_,(m_ (va 2 a_E.nd (b')) (m_ (va 3 a_E.nd (BK)) (m_ (De O0.PU ζ (ul ζ T.enum (o_ (pv 1))) (gE ζ (Gg (CB 4 a_E.nd) (Gg (CB 5 a_E.nd) bK))) (m_ (u_ (DM (BZ (wx B C (Bp (pv 0) (wm (pv 5) (pv 3) (pv 2)))))) (k_ (IP)) (wh)) (m_ (u_ (Ap (pv 5) n') (k_ (va 2 a_E.nd (Af jd (pv 2) b'))) (wh)) (m_ (u_ (Ap (pv 5) n') (k_ (va 2 a_E.nd (Af yP (pv 2) b'))) (wh)) (k_ (va 3 a_E.nd (wx A C (o_ (pv 5))))))))) (k_ (u_ ((CO (BZ (pv 3)) (EJ (A1 Be (pv 2) b' (A' _)))).pt) (k_ (IP)) (wh)))))),3);refine(6,Fe (x:=tx w) (λi m H'=>E4 λ(dd:Φ)(b:MZ)(s:ω V)(r:ω V)=>A3 (m=[δ (.NA (tx L)),δ (.NA (tx w)),δ (.MS (dd:MN)),δ (.bl b),s,r]) (a' H H') (VG L dd b (w.Py i)<*(0,η,))) ((0),ξ,ε,ε,1,a'.Tn H,t) ?_ ?_)
 .rintro i ch p m D v hp⟨dd,b,s,r,ζ,n,e⟩;rw[kl]at v;let E:i<w.β:=(q5 v).1;let u:w[i]=ch:=(q5 v).2;rw[γ.TR E,u]at e;let a:Ac L ch b dd=ξ:=by
   unfold VG at e;by_cases h:Ac L ch b dd=ξ
   .exact h
   .rw [BT h]at e;cases e
  let g:VG L (Ga ch dd) (B7 ch) (w.Py (i+1))<*(0,η,):=by
   unfold VG at e;rw[Id a]at e;show e
  let j:=n.ν (a'.MT (o:=.No [.MS (i:MN),.NA ⟨#[ch]⟩]) hp);refine(p,0,u0.of j_,1,4,8,3);refine(6,6,L,ch,b,dd,1,0,3);rw[a];refine aj ?_;by_cases l:ch=40
  .subst l;refine(2,am ((GX (!3)).Ot ζ) (0,8,3));refine(2,ac (λh=>MM ((GX (x:=41) (!3)).mp h) (!0)) (0,(40),1,3));show(dd+1,_,4,j,g)
  refine(2,ac (λh=>l ((GX (!3)).mp h)) ?_);by_cases k:ch=41
  .subst k;let I:0<dd:=by
    unfold Ac at a;by_cases d:(L.M9 41||[48,49,46,33,60,40].M9 41)=ξ
    .exfalso;rw[Uv]at d;rcases d with z|z
     .have:=y 41 (by simpa using z);lia
     .revert z;decide
    .rw [BT d,Id ζ]at a;have:=(Oz _ _).mp a;show OX this.1
   obtain⟨d',ζ⟩:∃d',dd=d'+1:=(dd-1,!6);refine(2,am ((GX (!3)).Ot ζ) (0,8,(0,(41),1,3)));refine(d',_,δ (.MS (i:MN)),δ (.NA ⟨#[41]⟩),3,j,g);change _=[δ (V.NA (tx L)),δ (V.NA (tx w)),δ (V.MS ((d':Φ):MN)),δ (V.bl (B7 41)),δ (V.MS (i:MN)),δ (V.NA ⟨#[41]⟩)];rw[show((d':Φ):MN)=((d'+1:Φ):MN)-1 by lia];rfl
  refine(2,ac (λh=>k ((GX (!3)).mp h)) (0,ch,1,3));rw[Kk l k]at g;show(dd,_,4,j,g)
 .rintro m D⟨dd,b,s,r,ζ,n,e⟩;rw[oh,γ.drop_length]at e;cases e;refine(6,aj (0,_,2,ac (!0) ?_));show q D n
def iR:vw ["token"] ["token"] (h_ KO):=Aa
def Dd(F:vh K "piece_of" "piece_of" KO f r)(T:SI K mg UM UZ RU)(g:F' P w K mg ς c cP):aa P w K mg ς pu 3 f r ["token"] (iK c):=by
 refine F.Vo iR ?_;rintro _ _ _ _ H _ Q _ m⟨t,ζ,i,q⟩;let⟨z,p,u,y,s⟩:=g.iS;refine(_,(m_ (u_ (Ap (pv 0) n') (k_ (o9 (Kj (g.mk0 .PU) ζ (g.kc (.Oo .PU))))) (wh)) (m_ (u_ (Ap (pv 0) n') (k_ (o9 (Kj (g.mk0 .Rj) ζ (g.kc (.Oo .Rj))))) (wh)) (m_ (u_ (Ap (pv 0) n') (k_ (o9 (Kj (g.mk0 .Ql) ζ (g.kc (.Oo .Ql))))) (wh)) (k_ (o9 (FD u y m ζ (g.kc .RB) s .Ow CV (o_ (pv 0)))))))),3);let mk:∀(k:K0)(x dx:υ),H x=ε->H dx=ε->dx≠x->(∀v H',a' H H'->BF c H' (.Oo k) v->Q v H')->Q (.ο x) (MT (MT H dx (.Xk x)) x (.Uq (c (.Oo k)) dx [])):=λk x dx h a d q=>
  q _ _ (CC (o0:=.Xk x) h a λb o e n=>by rw[a_ n]at e⊢;show e) (x,dx,1,j_)
 cases t with
 |Oo k=>
  cases k with
  |PU=>show(2,am (!3) (λx dx h a d=>mk .PU x dx h a d q))
  |Rj=>show(2,ac (!3) (2,am (!3) (λx dx h a d=>mk .Rj x dx h a d q)))
  |Ql=>show(2,ac (!3) (2,ac (!3) (2,am (!3) (λx dx h a d=>mk .Ql x dx h a d q))))
 |RB ch=>
  refine(2,ac (λe=>AK (l:=[110,101,118,101,114]) (!3) (by intro e;simp at e) (V.NA.QK e)) (2,ac (λe=>AK (l:=[101,109,112,116,121]) (!3) (by intro e;simp at e) (V.NA.QK e)) (2,ac (λe=>AK (l:=[97,110,121]) (!3) (by intro e;simp at e) (V.NA.QK e)) ?_)));show(0,λx dx h a d=>(x,7,dx,1,j_,(g.pc _).cl,(g.pc _).nS,λA k1 j=>(1,q _ _ (CC h a k1) (x,dx,1,j))))
 |Ol _ _=>show(show NX from i).Nx
 |PF _ _ _=>show(show NX from i).Nx
def kM:vw ["kind","left","right"] ["kind","left","right"] (h_ KP):=Aa
def DI(F:vh K "pair_of" "pair_of" KP f r)(T:SI K mg UM UZ RU)(b:F' P w K mg ς c cP):aa P w K mg ς pu 3 f r ["kind","left","right"] (eF c):=by
 refine F.Vo kM ?_;rintro _ _ _ _ _ _ _ _ j⟨k,u,g,x,y,ζ,i,h,q⟩;let⟨s,p,m,n,l⟩:=b.iP;refine(_,(m_ (u_ (Ap (pv 0) n') (k_ (o9 (FD (m .PB) n j ζ (b.kc (.PF .PB)) l .Ow CV (q_ (pv 1) (pv 2))))) (wh)) (m_ (u_ (Ap (pv 0) n') (k_ (o9 (FD (m .Tz) n j ζ (b.kc (.PF .Tz)) l .Ow CV (q_ (pv 1) (pv 2))))) (wh)) (m_ (u_ (Ap (pv 0) n') (k_ (o9 (FD (m .Te) n j ζ (b.kc (.PF .Te)) l .Ow CV (q_ (pv 1) (pv 2))))) (wh)) (k_ (o9 (FD (m .OP) n j ζ (b.kc (.PF .OP)) l .Ow CV (q_ (pv 1) (pv 2)))))))),3);cases k with
 |PB=>show(2,am (!3) (6,λz dx hz a e=>(z,7,_,dx,1,j_,(b.pc _).cl,(b.pc _).nL,(b.pc _).nR,λo k1 d=>(1,q _ _ (CC hz a k1) (z,dx,u,g,1,d,i.kp (a'.kp (CC hz a k1)),h.kp (a'.kp (CC hz a k1)))))))
 |Tz=>show(2,ac (!3) (2,am (!3) (6,λz dx hz a e=>(z,7,_,dx,1,j_,(b.pc _).cl,(b.pc _).nL,(b.pc _).nR,λo k1 d=>(1,q _ _ (CC hz a k1) (z,dx,u,g,1,d,i.kp (a'.kp (CC hz a k1)),h.kp (a'.kp (CC hz a k1))))))))
 |Te=>show(2,ac (!3) (2,ac (!3) (2,am (!3) (6,λz dx hz a e=>(z,7,_,dx,1,j_,(b.pc _).cl,(b.pc _).nL,(b.pc _).nR,λo k1 d=>(1,q _ _ (CC hz a k1) (z,dx,u,g,1,d,i.kp (a'.kp (CC hz a k1)),h.kp (a'.kp (CC hz a k1)))))))))
 |OP=>show(2,ac (!3) (2,ac (!3) (2,ac (!3) (6,λz dx hz a e=>(z,7,_,dx,1,j_,(b.pc _).cl,(b.pc _).nL,(b.pc _).nR,λo k1 d=>(1,q _ _ (CC hz a k1) (z,dx,u,g,1,d,i.kp (a'.kp (CC hz a k1)),h.kp (a'.kp (CC hz a k1)))))))))
def g_D:vw ["desk","strength","kind","last"] ["desk","strength"] (h_ cj):=Aa
def Er(F:vh K "settle" "settle" cj f fd)(T:SI K mg UM UZ RU)(O:F' P w K mg ς c cP)(h:fW P w K mg ς c cD d1 d2 d3)(az:Df P w K mg ς "pair_of" 3 ["kind","left","right"] (eF c)):aa P w K mg ς pu 4 f fd ["desk","strength"] (eD c cD):=by
 refine F.Vo g_D ?_;rintro _ _ _ _ H _ _ _ hr⟨d,dx,pa,wa,us,ps,ws,n,WU,XT,ζ,D,hn,W,aA,q⟩;let⟨fU,aC,MU,GU,bU⟩:=O.iU;let X:=hr.Pk (j:=2) (!0);refine(_,(k_ (cF O0.PU (A1 vG (DV h.dT (G6 (v:=.ο d3) (!4) h.kT ζ) (q_ (AB (AD (pv 0) ζ) (Es Et b')) b')) (pv 1) (A' _))
  (m_ (va 2 g_D.nd (cL P' TB UO cZ (AD (pv 0) ζ))) (m_ (va 3 g_D.nd (cL P' TB UO cZ (AD (pv 0) ζ))) (k_ (u_ (Ap (pv 2) n') (k_ (BB (Dl (AD (pv 0) ζ) (FD (MU .Ob) GU X ζ (O.kc (.Ol .Ob)) bU .Ow CV (o_ (pv 3)))))) (k_ (u_ (Ap (pv 2) n') (k_ (BB (Dl (AD (pv 0) ζ) (FD (MU .OJ) GU X ζ (O.kc (.Ol .OJ)) bU .Ow CV (o_ (pv 3)))))) (k_ (BB (Dl (AD (pv 0) ζ) (wx az hr (wm (pv 2) (cL P' TB UO cZ (AD (pv 0) ζ)) (pv 3)))))))))))))),3)
 refine p6 (λZ H'=>E5 λE g a s2 s3=>A5 (Z=[δ (.ο d),δ (.MS (n:MN)),s2,s3]) (Bq pa wa H H') (Bn c cD H' d dx pa wa E g a) (BO n g a<*(WU,XT,)) (g.β≤ps.β))
  (λZ H'=>match H' wa with|δ (.M7 l)=>l.β|_=>0) (us,ps,ws,ε,ε,1,Bq.Tn _ _ _,D,W,LE _) ?_ ?_
 .rintro Z S⟨E,g,a,s2,s3,ζ,U,A,e,I⟩;cases a with
  |Ow=>simp[BO]at e
  |NZ wt a=>
  refine(1,0,d,_,dx,4,A.ob,h.cl,h.nW,Iz _ _,0,AJ A.wtop (IR _ _) (Yf.NU (mG wt),0,3));rw[yj];refine(0,_,2,aQ (λas=>?_) (λas=>?_))
  .let hge':n≤wt.NA:=by lia
   let mu:∀{H2:Hp}{l:γ V},H2 wa<*.M7 l->l.β=a.β->(match H2 wa with|δ (.M7 l)=>l.β|_=>0)<(match S wa with|δ (.M7 l)=>l.β|_=>0):=λh1 h2=>by
    rw[h1,A.wtop];simp;lia
   refine(0,d,_,dx,4,A.ob,h.cl,h.nW,Iz _ _,.NJ (1,_,o5.of A.wtop),wa,8,A.wtop,HA,3);rw[SH];let m:=A.popW;let L:=U.ν (Bq.w (pa:=pa) (wa:=wa) (H:=S) (o:=.M7 (a.Ng.NN wv)));unfold BO at e;rw[Id hge']at e;match wt,g,A,m,e with
   |.un k,x::qs,A,m,e=>
    let⟨u,C,ζ⟩:=m.Ol ζ;let⟨i,hu⟩:=m.popP;refine(0,d,_,dx,4,m.ob,h.cl,h.nP,Fz _ _,.NJ (1,_,o5.of m.ptop),pa,8,m.ptop,HA,3);rw[SH];let s:=L.ν (Bq.p (pa:=pa) (wa:=wa) (o:=.M7 C.Ng));let ar:=i.pt.PQ;let mk:∀(z J:υ)(B:Hp),(MT (MT S wa (.M7 (a.Ng.NN wv))) pa (.M7 C.Ng)) z=ε->a' (MT (MT S wa (.M7 (a.Ng.NN wv))) pa (.M7 C.Ng)) B->B z<*.Uq (c (.Ol k.k1)) J (af "inner" u [])->
      rAppend (.ο pa) [.ο z] B (λ_ H5=>(E5 λE g r s2 s3=>A5 (([δ (.ο d),δ (.MS (n:MN)),δ (wv (.un k)),δ u]:St)=[δ (.ο d),δ (.MS (n:MN)),s2,s3]) (Bq pa wa H H5) (Bn c cD H5 d dx pa wa E g r) (BO n g r<*(WU,XT,)) (g.β≤ps.β))/\
       (match H5 wa with|δ (.M7 l)=>l.β|_=>0)<(match S wa with|δ (.M7 l)=>l.β|_=>0)):=by
     intro z J B hz R t;let Q:=i.OR R;let Y:BF c B (.Ol k.k1 x) (.ο z):=(z,J,u,1,t,hu.kp (a'.kp R));refine(pa,8,Q.pl,Gj (by rw[QV];simp at I;lia),(7,_,4,s.ν ((a'.off R).ν Bq.p),Q.pushP Y,e,by simp at I⊢;lia),mu (l:=a.Ng.NN wv) (by rw[a_ (Ne.MQ Q.ne)];show Q.wl) (!1))
    cases k with
    |Ob=>
     show(2,am (!3) (0,d,_,dx,4,i.ob,h.cl,h.nP,Fz _ _,.NJ (1,_,o5.of i.pl),0,λz J hz N ap=>(z,7,J,1,j_,(O.pc _).cl,(O.pc _).nI,λB k4 t=>(1,mk z J B hz (CC hz N k4) t))))
    |OJ=>
     show(2,ac (!3) (2,am (!3) (0,d,_,dx,4,i.ob,h.cl,h.nP,Fz _ _,.NJ (1,_,o5.of i.pl),0,λz J hz N ap=>(z,7,J,1,j_,(O.pc _).cl,(O.pc _).nI,λB k4 t=>(1,mk z J B hz (CC hz N k4) t)))))
   |.UA k,y::x::qs,A,m,e=>
    let⟨u,C,ζ⟩:=m.Ol ζ;let⟨i,hu⟩:=m.popP;let⟨u2,M,ζ⟩:=i.Ol ζ;refine(0,d,_,dx,4,m.ob,h.cl,h.nP,Fz _ _,.NJ (1,_,o5.of m.ptop),pa,8,m.ptop,HA,3);rw[SH];let⟨Q,ag⟩:=i.popP;let s:=L.ν ((Bq.p (pa:=pa) (wa:=wa) (o:=.M7 (u2::M).Ng)).ν (Bq.p (pa:=pa) (wa:=wa) (o:=.M7 M.Ng)));let ar:=Q.pt.PQ;let an:=hu.kp (Kp.M7 (o:=.M7 M.Ng) i.pl);let aB:∃b,V.bl η=V.bl b/\Os:=(0,trivial);let n1:¬ (wv (.UA k)=V.NA (NB.Ni "outside")):=by cases k<;>decide +kernel
    let n2:¬ (wv (.UA k)=V.NA (NB.Ni "turned")):=by cases k<;>decide +kernel
    refine(2,ac n1 (2,ac n2 ?_));refine(0,d,_,dx,4,i.ob,h.cl,h.nP,Fz _ _,.NJ (1,_,o5.of i.pl),6,d,_,dx,4,i.ob,h.cl,h.nP,Fz _ _,.NJ (1,_,o5.of i.ptop),pa,8,i.ptop,HA,3);rw[SH];refine(0,k,u2,u,x,y,1,ag,an,λv4 B R ab=>?_);let D5:=Q.OR R;show(pa,8,D5.pl,Gj (by rw[QV];simp at I;lia),(7,_,4,s.ν ((a'.off R).ν Bq.p),D5.pushP ab,e,by simp at I⊢;lia),mu (l:=a.Ng.NN wv) (by rw[a_ (Ne.MQ D5.ne)];show D5.wl) (!1))
  .let hge':wt.NA<n:=by lia
   rw[Iw hge']at e;cases e;show q _ _ U A
 .rintro Z S Q1 Q2 hQ⟨e0,v1,e1,p1,c1',d1',f1,w1,e2,e3,e4,e5,e6,v2,e7,p2,x2,i2,z2,e8,e9,e10,e11,k2,z3,e12,v3,e13,i3,j3,e14,e15,b3,e16,q1⟩;show(e0,v1,e1,p1,c1',d1',f1,w1,e2,e3,e4,e5,e6,v2,e7,p2,x2,i2,z2,e8,e9,e10,e11,k2,z3,e12,v3,e13,i3,j3,e14,e15,b3,e16,hQ _ _ q1)
def wG:vw ["desk","token"] ["desk","token"] (h_ qB):=Aa
def G2(F:vh K "put" "put" qB f fd)(T:SI K mg UM UZ RU)(J:F' P w K mg ς c cP)(h:fW P w K mg ς c cD d1 d2 d3)(H:Df P w K mg ς "settle" 4 ["desk","strength"] (eD c cD))(ag:Df P w K mg ς "piece_of" 3 ["token"] (iK c)):aa P w K mg ς pu 5 f fd ["desk","token"] (qk c cD):=by
 refine F.Vo wG ?_;rintro _ _ _ _ _ vs _ _ I⟨d,dx,pa,wa,us,ps,ws,b,WU,XT,ζ,D,n,a,Z,ar,q⟩;let⟨fU,as,MU,GU,bU⟩:=J.iU;let U:=I.Pk (j:=2) (!0);let S:=I.Pk (j:=3) (!0);refine(_,(k_ (u_ (A1 IS (pv 1) (Bg (wm n' n' n')) (by with_unfolding_all rfl)) (k_ (BB (Dl (AD (pv 0) ζ) (pv 1)))) (k_ (u_ (A1 IS (pv 1) (Bg (Bp n' (wm n' n' n'))) (by with_unfolding_all rfl)) (m_ (BB (wx H I (q_ (pv 0) (rz (EV h.dT) (G6 (v:=.ο d3) (!4) h.kT ζ) (pv 1) (λ_ _=>rfl))))) (k_ (BB (Dl (AD (pv 0) ζ) (pv 1))))) (k_ (u_ (Ap (pv 1) n') (m_ (BB (wx H I (q_ (pv 0) (b')))) (k_ (BB (cL P' TB UO cZ (AD (pv 0) ζ))))) (k_ (u_ (Ap (pv 1) n') (k_ (BB (Dl (AD (pv 0) ζ) (FD (MU .again) GU U ζ (J.kc (.Ol .again)) bU .Ow CV (o_ (cL P' TB UO cZ (AD (pv 0) ζ))))))) (k_ (BB (Dl (AD (pv 0) ζ) (wx ag S (o_ (pv 1)))))))))))))),3);let l3:3≤Λ:=sT (by change 3≤16777216;decide);let l4:4≤Λ:=sT (by change 4≤16777216;decide);let Y:=D.pt.PQ;refine(0,l3,λp1 X=>(p1,0,.NU (u0.of j_),5,0,3));let t1:=GY n;let O:=a'.MT (o:=.No [.NA (NB.Ni "("),.NA (NB.Ni "outside"),.NA (NB.Ni "turned")]) X;let L:=D.OR O;refine jp (λh1=>?_) (λh1=>?_)
 .
  let s:rW b=ξ:=t1.MQ.ν h1;let hw:∃E,wv E=tv b/\WU=ps/\XT=E::ws:=by
   cases b with
   |lp=>cases a;show(.lp,5,1)
   |un k=>cases a;show(.un k,5,1)
   |_=>cases s
  let⟨E,ew,ζ,ζ⟩:=hw;refine(0,d,_,dx,4,L.ob,h.cl,h.nW,Iz _ _,.NJ (1,_,o5.of L.wl),0,wa,8,L.wl,Gj (by rw[ol,QV];omega),3);rw[<-ew];show q _ _ ((a'.off O).ν Bq.w) (L.pushW E)
 let s:rW b=η:=t1.MQ.ν h1;refine(0,l4,λp2 W=>(p2,0,.NU (u0.of j_),5,0,3));let t2:=xz n;let s2:=O.ν (a'.MT (o:=.No [.NA (NB.Ni "either"),.NA (NB.Ni "less"),.NA (NB.Ni "both"),.NA (NB.Ni "then")]) W);let l:=D.OR s2;refine jp (λh2=>?_) (λh2=>?_)
 .let C:rY b=ξ:=t2.MQ.ν h2;cases b with
  |UA k=>
   let⟨r,g,e⟩:=BG a;let⟨rp,y⟩:=r;cases e;refine(6,Yf.NU (Dn k),0,1,tV k,3);refine(d,dx,pa,wa,us,ps,ws,lvl k+1,4,l,QH (Nf _),g,!2,λM H3 m i=>?_);let ap:=Ix g;show(0,d,_,dx,4,i.ob,h.cl,h.nW,Iz _ _,.NJ (1,_,o5.of i.wl),0,wa,8,i.wl,Gj (by rw[ol,QV];lia),q _ _ ((a'.off s2).ν (m.ν Bq.w)) (i.pushW (.UA k)))
  |_=>cases C
 let C:rY b=η:=t2.MQ.ν h2;let t3:=zp n;let t4:=uX n;refine(2,jp (λh3=>?_) (λh3=>?_))
 .let B:xy b=ξ:=t3.MQ.ν h3;cases b with
  |rp=>
   let⟨r,g,e⟩:=ω.Uk.mp a;let⟨rp,y⟩:=r;cases y with
   |Ow=>cases e
   |NZ E y=>
    cases e;refine(0,d,dx,pa,wa,us,ps,ws,(1),4,l,LE _,g,!2,λM H3 m i=>?_);refine(0,d,_,dx,4,i.ob,h.cl,h.nW,Iz _ _,.NJ (1,_,o5.of i.wtop),wa,8,i.wtop,HA,3);rw[SH];show q _ _ ((a'.off s2).ν (m.ν Bq.w)) i.popW
  |_=>cases B
 let B:xy b=η:=t3.MQ.ν h3;refine(2,jp (λh4=>?_) (λh4=>?_))
 .let A:lL b=ξ:=t4.MQ.ν h4;cases b with
  |ZX=>
   cases ps with
   |Ow=>cases a
   |NZ x qs=>
    cases a;let⟨u,vs,ζ⟩:=l.Ol ζ;let⟨i,hu⟩:=l.popP;refine(0,d,_,dx,4,l.ob,h.cl,h.nP,Fz _ _,.NJ (1,_,o5.of l.pl),0,d,_,dx,4,l.ob,h.cl,h.nP,Fz _ _,.NJ (1,_,o5.of l.ptop),pa,8,l.ptop,HA,3);rw[SH];refine λz dz hz ab an=>(z,7,dz,1,j_,(J.pc _).cl,(J.pc _).nI,λH4 k4 Q=>(1,3));let N:=CC hz ab k4;let D4:=i.OR N;show(pa,8,D4.pl,Gj (by rw[QV];simp at Y Z;lia),q _ _ ((a'.off s2).ν (Bq.p.ν ((a'.off N).ν Bq.p))) (D4.pushP (z,dz,u,1,Q,hu.kp (a'.kp N))))
  |_=>cases A
 let A:lL b=η:=t4.MQ.ν h4;cases b with
 |TJ t=>
  cases a;refine(0,d,_,dx,4,l.ob,h.cl,h.nP,Fz _ _,.NJ (1,_,o5.of l.pl),0,t,1,n,λv3 H3 s3 R=>?_);let i:=l.OR s3;show(pa,8,i.pl,Gj (by rw[QV];lia),q _ _ ((a'.off s2).ν ((a'.off s3).ν Bq.p)) (i.pushP R))
 |lp=>cases s
 |un k=>cases s
 |UA k=>cases C
 |rp=>cases B
 |ZX=>show MM A (!0)
def b_S:vw ["text","tokens","wanting","sign"] ["text"] (h_ KQ):=Aa
def CI(F:vh K "tokens_of" "tokens_of" KQ f D)(T:SI K mg UM UZ RU)(u:fW P w K mg ς c cD d1 d2 d3)(s:Df P w K mg ς "is_wanting" 1 ["sign"] ZY):aa P w K mg ς pu 2 f D ["text"] sp_tokens:=by
 refine F.Vo b_S ?_;rintro _ _ _ _ H _ _ _ z⟨w,ζ,n,t,q⟩;refine(_,(m_ (va 1 b_S.nd (AA Dh)) (m_ (va 2 b_S.nd (BK)) (m_ (De O0.PU ζ (gD (pv 0)) (CB 3 b_S.nd) (FJ (u_ ((G7 (DM (BZ (pv 2))) (HK (A1 gJ (pv 3) n' (by with_unfolding_all rfl)))).pt) (k_ (BB (Dl (pv 1) (n')))) (wh)) (m_ (BB (Dl (pv 1) (DV u.dK (G6 (v:=.ο d2) (!4) u.kK ζ) (q_ (pv 3) (pv 3))))) (k_ (va 2 b_S.nd (wx s z (o_ (pv 3)))))))) (k_ (o9 (pv 1)))))),3);refine(Nf _,λp hp=>?_);refine(6,nB (x:=tx w) (λi j H'=>E3 λ(ts:γ Tk)(b:MZ)(k:ω V)=>A4 (j=[δ (.NA (tx w)),δ (.ο p),δ (.bl b),k]) (H'=MT H p (.M7 (ts.NN tv))) (MW ξ w=ts++MW b (w.Py i)) (ts.β≤2*i)) ([],ξ,ε,5,1,LE _) ?_ ?_)
 .rintro i ch j E e⟨ts,b,k,ζ,ζ,d,B⟩;rw[kl]at e;let C:i<w.β:=(q5 e).1;let o:w[i]=ch:=(q5 e).2;let m:=n ch (AC e);rw[γ.TR C,o]at d;rw[show MW b (ch::w.Py (i+1))=(if (!b&&!isB ch)=ξ then[Tk.UA .OP]else[])++Tw ch::MW (B7 ch) (w.Py (i+1))from ζ]at d;refine⟨λg H'=>∃a:γ Tk,g=[δ (.NA (tx w)),δ (.ο p),δ (.bl b),δ (.NA (tx [ch]))]/\H'=MT H p (.M7 (a.NN tv))/\MW ξ w=a++Tw ch::MW (B7 ch) (w.Py (i+1))/\a.β≤2*i+1,?_,?_⟩
  .let eB:=HE [42,38,124,45,41] ch;refine(6,3);cases b with
   |ξ=>show aj (aj (ts,5,by rw[d];rfl,!6))
   |η=>
    refine aw (0,_,tx [42,38,124,45,41],1,Nb V.NA (!3),0,3);refine jp (λh=>?_) (λh=>?_)
    .let r:isB ch=η:=by
      have:(!(!(Builtin.NB.SS (tx [42,38,124,45,41]) ⟨#[ch]⟩ 0 (tx [42,38,124,45,41]).β 1).SG))=ξ:=h;rw[eB]at this;show(RC _).mp this
     refine(0,.NJ (1,_,o5.of j_),p,8,j_,Gj (by rw[ol];lia),3);refine(ts++[.UA .OP],1,by rw[HI,Nw];rfl,3,by rw[w_];simp;lia);rw[d,r];simp
    .let r:isB ch=ξ:=by
      have:(!(!(Builtin.NB.SS (tx [42,38,124,45,41]) ⟨#[ch]⟩ 0 (tx [42,38,124,45,41]).β 1).SG))=η:=h;rw[eB]at this;show(MZ.not_eq_false' _).mp this
     refine(ts,5,3,!6);rw[d,r];rfl
  rintro y I⟨a,ζ,ζ,l,A⟩;refine(0,.NJ (1,_,o5.of j_),1,6,Yf.NU (tx [ch]),0,p,8,j_,Gj (by rw[ol];lia),3);refine(0,ch,1,a++[Tw ch],B7 ch,0,3,by rw[l];simp,by rw[w_];simp;lia);rw[HI,Nw,pz m];rfl
 .rintro j E⟨ts,b,k,ζ,ζ,d,B⟩;rw[oh,γ.drop_length]at d;refine(0,q p _ hp (a'.MT hp) ?_);rw[j_,d];simp[MW]
def d_h:vw ["text","desk","token"] ["text"] (h_ KR):=Aa
def B_(F:vh K "pattern_of" "pattern_of" KR f fd)(T:SI K mg UM UZ RU)(PK:F' P w K mg ς c cP)(A:fW P w K mg ς c cD d1 d2 d3)(ag:Df P w K mg ς "tokens_of" 2 ["text"] sp_tokens)(ab:Df P w K mg ς "put" 5 ["desk","token"] (qk c cD)):aa P w K mg ς pu 6 f fd ["text"] (LW c):=by
 refine F.Vo d_h ?_;rintro _ _ _ _ H vs _ _ hr⟨l,t,ζ,X,ap,p,q⟩;let⟨fD,az,MD,GD,bD⟩:=A.ini;let J:=hr.Pk (j:=2) (!0);refine(_,(m_ (va 1 d_h.nd (qQ MD GD J ζ A.kD bD .Ow CV)) (m_ (De O0.PU ζ (Cn (wx ag J (o_ (Af DN (Af DN n' (pv 0)) n')))) (CB 2 d_h.nd) (k_ (BB (wx ab hr (q_ (pv 1) (pv 2)))))) (k_ (o9 (AB (AD (pv 1) ζ) b'))))),3);intro d dx hd L ar;refine(d,dx,0,j_,A.cl,A.nP,A.nW,λpa wa H1 k1 D1 Z S=>(1,3));let s1:a' H H1:=CC hd L k1;let s0:a' H (MT (MT H dx (.Xk d)) d (.Uq cD dx [])):=CC (o0:=.Uq cD dx []) hd L λb o e _=>e;let aA:∀x:NB,x=tx [40]->x++tx l=tx (40::l):=λx e=>by rw[e,Ct];rfl
 let z:NB.Ni "("=tx [40]:=by decide +kernel
 let M:NB.Ni ")"=tx [41]:=by decide +kernel
 refine(0,8,3,8,3,3)
 .rw [z,oh,oh];show sT (by simp;lia)
 .rw [z,M,Ct,oh,oh];show sT (by simp;lia)
 rw[z,M,Ct,Ct];let n:∀ch∈40::(l++[41]),mz ch:=λch y=>by
  rcases MP.mp y with ζ|y
  .exact .NU (!1)
  .rcases Nd.mp y with y|y
   .exact X ch y
   .obtain ζ:ch=41:=by simpa using y
    show .NU (!1)
 refine(40::(l++[41]),1,n,by simp;lia,λO H2 m s2 I=>?_);let W:=D7 ξ n;let an:=iD (40::(l++[41])) ξ;let as:(40::(l++[41])).β=l.β+2:=by simp
 generalize MW ξ (40::(l++[41]))=ts at *;let D2:=D1.OR s2;let s:O≠pa/\O≠wa:=(Ne.MQ (e_ D1.pl m),Ne.MQ (e_ D1.wl m));refine(O,1,(_,o5.of I),dA (K:=K) (a:=O) (xs:=ts.NN tv) (λi N H'=>E4 λus ps ws s2=>A6 (N=[δ (.NA (tx l)),δ (.ο d),s2]) (∀b o,H2 b<*o->b≠pa->b≠wa->H' b<*o) (Bn c cD H' d dx pa wa us ps ws) (Bz (ts.OE i) ([],[],)<*(ps,ws,)) (ps.β≤i) (ws.β≤i)) ([],[],[],ε,1,λ_ _ e _ _=>e,D2,1,LE _,LE _) ?_ ?_ ?_)
 .rintro i N H' hi⟨us,ps,ws,s2',ζ,g,_⟩;show o5.of (g _ _ I s.1 s.2)
 .rintro i x N H' hx⟨us,ps,ws,s2',ζ,g,D',hpt,l1,l2⟩;rw[tS]at hx;let⟨C,h,ζ⟩:=BG hx;let hi:i<ts.β:=(q5 h).1;let⟨R,v,Y⟩:=kZ p (i+1);let k:cz ps ws C<*R:=by
   rw[Ti,h,HB,hpt]at v;have:(cz ps ws C).Wr (Bz [])<*R:=v;cases hp:cz ps ws C with
   |ε=>rw[hp]at this;cases this
   |δ r=>rw[hp]at this;cases this;rfl
  let⟨D,B⟩:=R;let hl:=qF k;refine(6,d,dx,pa,wa,us,ps,ws,C,D,B,1,D',W C (AC h),k,!6,!6,λQ H3 E D3=>?_);show(Q,D,B,0,λb o e n1 n2=>E b o (g b o e n1 n2) n1 n2,D3,v,!6,!6)
 .rintro N H'⟨us,ps,ws,s2',ζ,g,D',hpt,l1,l2⟩;rw[ol,SO,p]at hpt;cases hpt;let⟨u,vs,ζ⟩:=D'.Ol ζ;let U:vs=[]:=by
   have:=D'.pt.PQ;simp at this;show this
  subst U;refine(0,d,_,dx,4,D'.ob,A.cl,A.nP,Fz _ _,pa,_,8,o5.of D'.pl,AG (j:=0) ζ,3);refine q u H' (λb o e=>g b o (s2 b o (s1 b o e)) ?_ ?_) D'.pt.1
  .exact e_ e (s0.N6 Z)
  .exact e_ e (s0.N6 S)
def t9:vw [Q3,"text"] [Q3,"text"] (h_ kO):=Aa
def Ge(F:vh K "read" "read" kO f r)(T:SI K mg UM UZ RU)(x:F' P w K mg ς c cP)(u:fW P w K mg ς c cD d1 d2 d3)(i:Df P w K mg ς "need_letters" 2 [Q3] YJ)(h:Df P w K mg ς "need_pattern" 2 [Q3,"text"] sp_needpattern)(g:Df P w K mg ς "pattern_of" 6 ["text"] (LW c)):aa P w K mg ς pu 7 f r [Q3,"text"] (mP c):=by
 refine F.Vo t9 ?_;rintro _ _ _ _ _ _ _ _ m⟨L,k,t,l,ζ,p,a,e,d,q⟩;let b:=m.Pk (j:=2) (!0);refine(_,(m_ (BB (wx i b (o_ (pv 0)))) (m_ (BB (wx h b (q_ (pv 0) (pv 1)))) (k_ (o9 (wx g m (o_ (pv 1))))))),3);refine(0,L,1,p,3);refine(6,L,k,1,a,e.VG a 0 ξ,λy n=>?_);show(0,k,t,1,e.sgs a,d,e.read a,λv s s2 o=>q v s (n.ν s2) o)
def My:vw ["_law_script","_law_k"] ["_law_script","_law_k"] (h_ KU):=Aa
def Mz(F:vh K "_law_cell_at" "_law_cell_at" KU f i)(T:SI K mg UM UZ RU):aa P w K mg ς pu 1 f i ["_law_script","_law_k"] (mQ K):=by
 refine F.Vo My ?_;rintro _ _ _ _ _ _ _ _ _⟨a,ns,k,ζ,g,h0,q⟩;refine(_,(m_ (u_ (A1 jc (pv 1) (Cj T.PQ (pv 0)) (A' _)) (k_ (o9 (AB (pv 0) (pv 1)))) (wh)) (k_ (o9 b'))),3);refine(6,a,0,.NJ g,_,2,3);refine aQ (λd=>?_) (λ_=>q 0);let⟨v,h,b⟩:=mr (xs:=ns.NN V.MS) h0 d;obtain⟨z,ζ⟩:∃z,v=V.MS z:=by
  rw[tS]at b;cases e:ns[k.Ou]? with
  |ε=>rw[e]at b;cases b
  |δ z=>rw[e]at b;show(z,(ω.δ.QK b).MQ)
 show(6,a,_,8,g,h,q z)
def a_s:vw ["_law_cell","_law_left","_law_number","_law_many","_law_found","_law_k","_law_at"] ["_law_cell"] (h_ KW):=Aa
def MA(F:vh K "_law_letters" "_law_letters" KW f D)(T:SI K mg UM UZ RU):aa P w K mg ς pu 1 f D ["_law_cell"] sp_letters:=by
 refine F.Vo a_s ?_;rintro _ _ _ _ H _ _ _ _⟨c,ζ,q⟩;refine(_,(m_ (va 1 a_s.nd (n')) (m_ (va 2 a_s.nd (Af gL (pv 0) b')) (m_ (va 3 a_s.nd (Af lg b' (Af gL (pv 2) b'))) (m_ (va 2 a_s.nd (Af gM (pv 2) b')) (m_ (va 4 a_s.nd (n')) (m_ (De O0.PU ζ (G_ ζ T.N4 (o_ (pv 3))) (CB 5 a_s.nd) (m_ (va 6 a_s.nd (Af gL (pv 2) (Hx T.PQ (pv 1)))) (m_ (va 2 a_s.nd (Af gM (pv 2) (Hx T.PQ (pv 1)))) (m_ (va 4 a_s.nd (Af DN (pv 4) (rz gX (pv 1) (pv 6) (λ_ _=>rfl)))) (k_ (va 1 a_s.nd (Af DN (Gh qo (pv 1) GC (FE (pv 6))) (Gh qo (pv 1) (FE (Af lg (pv 6) b')) GC)))))))) (k_ (o9 (pv 4))))))))),3);let⟨N,j,n1,r⟩:=vn (c%46800) 1 3 (!0);let j:(N:MN)=1+c%46800%3:=j;let y:N≤3:=Φ.V9 r;refine(0,8,(by change (0:MN)<46800;decide),0,8,(by change (0:MN)<3;decide),_,2,8,(!0,!0),6,by rw[<-j];show(td (IO (Pq r) (!0))).1,by rw[<-j];show(td (IO (Pq r) (!0))).2,3);generalize J:(1:MN)+c%46800%3=M at j⊢;let h:M.Ou=N:=by rw[<-j];rfl
 refine HM (n:=M.Ou) (λi o H'=>E5 λf l n k0 a0=>A7 (o=[δ (.MS c),δ (.NA (tx l)),δ (.MS n),δ (.MS M),δ (.NA (tx f)),k0,a0]) (H'=H) (0≤n) (f.β=i) (l.β+i=26) ((f++l).Nz) (∀c∈f++l,97≤c/\c≤122)) ?_ ?_ ?_
 .refine ([],γ.range' 97 26,c%46800/3,ε,ε,3,1,MN.ediv_nonneg (MN.Xa _ (!0)) (!0),5,!0,!0);show[δ (V.MS c),δ (V.NA _),δ (V.MS _),δ (V.MS _),δ (V.NA _),ε,ε]=_;rw[xK,dD]
 .rintro i o I C⟨f,l,n,k0,a0,ζ,ζ,z,m,s,p,az⟩;let k:i<3:=Ψ (h▸C) y;let⟨l1,l26⟩:=xH s (Pq k);let hz:(tx l).β≤Λ:=sT (by rw[oh];show IO l26 (!0));let b:(0:MN)<((tx l).β:MN):=by rw[oh];show vo l1
  let a:=MN.Xa n (MN.Qg b);let e:=MN.YZ n b;let t:0≤n/((tx l).β:MN):=MN.ediv_nonneg z (MN.Pq b);let g:(n%((tx l).β:MN)).Ou<l.β:=Φ.lt_of_lt_of_eq (sZ a e) (oh l);let⟨v,B,d⟩:=mr (xs:=(tx l).Tc.NF) a (by rw[Fs];show MN.Ψ e (MN.Rg (Nb Φ.cast (oh l))));rw[Fs]at d;let E:v=l[(n%((tx l).β:MN)).Ou]:=by
   rw[n_ g]at d;show(ω.δ.QK d).MQ
  subst E;refine(6,0,hz,8,b,6,0,hz,8,(b,by rw[oh];show zw l26),6,0,_,8,hz,B,8,3,6,6,hz,6,_,2,0,hz,8,3,3)
  .refine sT ?_;rw[oh];change f.β+1≤_;rw[m];show IO k (!0)
  .refine sT ?_;let h1:=SI.Wa (tx l) ε (δ (n%((tx l).β:MN)));let h2:=SI.Wa (tx l) (δ ((n%((tx l).β:MN))+1)) ε;show xF h1 h2 (by rw[oh];show l26)
  .obtain ⟨d1,d2⟩:=sL g p;refine(f++[l[(n%((tx l).β:MN)).Ou]],l.OE (n%((tx l).β:MN)).Ou++l.Py ((n%((tx l).β:MN)).Ou+1),n/((tx l).β:MN),δ (.MS (0+(i:MN))),δ (.MS (n%((tx l).β:MN))),3,1,t,by rw[w_,m];rfl,3,d1,λc u=>az c (d2 c u))
   .let A:=qm (tx l) a;let x:=kF (tx l) (i:=(n%((tx l).β:MN))+1) (MN.IO a (MN.Pq (MN.lt_succ _))) (by rw[Fs];show MN.Ψ e (MN.Rg (Nb Φ.cast (oh l))));rw[Fs]at A x;rw[vk a]at x;show[δ (V.MS c),δ (V.NA (SI.VB (tx l) ε (δ (n%((tx l).β:MN)))++SI.VB (tx l) (δ ((n%((tx l).β:MN))+1)) ε)),δ (V.MS _),δ (V.MS M),δ (V.NA (tx f++⟨#[l[(n%((tx l).β:MN)).Ou]]⟩)),δ _,δ _]=_;rw[A,x,Ct,show(⟨#[l[(n%((tx l).β:MN)).Ou]]⟩:NB)=tx [l[(n%((tx l).β:MN)).Ou]]from ζ,Ct]
   .rw [w_,Qy,UI];show vp g s
 .rintro o I⟨f,l,n,k0,a0,ζ,ζ,z,m,s,p,az⟩;refine(0,q f (by rw[m,h];show n1,by rw[m,h];show y,(γ.Wg.mp p).1,λc u=>az c (RO _ u)))
def c_B:vw ["_law_kind","_law_x","_law_y","_law_z","_law_xy"] ["_law_kind","_law_x","_law_y","_law_z"] (h_ KY):=Aa
def MB(F:vh K "_law_first_ways" "_law_first_ways" KY f r)(T:SI K mg UM UZ RU):aa P w K mg ς pu 1 f r ["_law_kind","_law_x","_law_y","_law_z"] (Jy 0 8):=by
 refine F.Vo c_B ?_;rintro _ _ _ _ _ _ Q _ _⟨k,n,m,l,x,y,z,ζ,k1,k2,h,g,hz,q⟩;refine(_,(m_ (va 4 c_B.nd (A0 .OP (wm n' (yx (V:=[1,2,3]) (pv 1)) (yx (pv 2))))) (m_ (u_ (Ap (pv 0) b') (k_ (o9 (AA (q_ (A0 .OP (wm n' (yx (V:=[1,2,3,4]) (pv 1)) (A0 .PB (wm n' (yx (V:=[1,2,3,4]) (pv 2)) (yx (V:=[1,2,3,4]) (pv 3)))))) (A0 .PB (wm n' (yx (V:=[1,2,3,4]) (pv 4)) (A0 .OP (wm n' (yx (V:=[1,2,3,4]) (pv 1)) (yx (V:=[1,2,3,4]) (pv 3)))))))))) (wh)) (m_ (u_ (Ap (pv 0) b') (k_ (o9 (AA (q_ (Br .Ob (q_ n' (A0 .PB (wm n' (yx (V:=[1,2,3,4]) (pv 1)) (yx (V:=[1,2,3,4]) (pv 2)))))) (A0 .Te (wm n' (Br .Ob (q_ n' (yx (V:=[1,2,3,4]) (pv 1)))) (Br .Ob (q_ n' (yx (V:=[1,2,3,4]) (pv 2)))))))))) (wh)) (m_ (u_ (Ap (pv 0) b') (k_ (o9 (AA (q_ (Br .again (q_ n' (A0 .PB (wm n' (yx (V:=[1,2,3,4]) (pv 1)) (yx (V:=[1,2,3,4]) (pv 2)))))) (Br .again (q_ n' (A0 .OP (wm n' (Br .again (q_ n' (yx (V:=[1,2,3,4]) (pv 1)))) (Br .again (q_ n' (yx (V:=[1,2,3,4]) (pv 2)))))))))))) (wh)) (m_ (u_ (Ap (pv 0) b') (k_ (o9 (AA (q_ (Br .OJ (q_ n' (yx (V:=[1,2,3,4]) (pv 4)))) (A0 .OP (wm n' (Br .OJ (q_ n' (yx (V:=[1,2,3,4]) (pv 2)))) (Br .OJ (q_ n' (yx (V:=[1,2,3,4]) (pv 1)))))))))) (wh)) (m_ (u_ (Ap (pv 0) b') (k_ (o9 (AA (q_ (A0 .Tz (wm n' (yx (V:=[1,2,3,4]) (pv 1)) (yx (V:=[1,2,3,4]) (pv 2)))) (A0 .Te (wm n' (yx (V:=[1,2,3,4]) (pv 1)) (Br .Ob (q_ n' (yx (V:=[1,2,3,4]) (pv 2)))))))))) (wh)) (m_ (u_ (Ap (pv 0) b') (k_ (o9 (AA (q_ (Br .again (q_ n' (Br .again (q_ n' (yx (V:=[1,2,3,4]) (pv 1)))))) (Br .again (q_ n' (yx (V:=[1,2,3,4]) (pv 1)))))))) (wh)) (m_ (u_ (Ap (pv 0) b') (k_ (o9 (AA (q_ (A0 .PB (wm n' (cE (V:=[1,2,3,4]) .Rj (o_ n')) (A0 .OP (wm n' (yx (V:=[1,2,3,4]) (pv 1)) (Br .again (q_ n' (yx (V:=[1,2,3,4]) (pv 1)))))))) (Br .again (q_ n' (yx (V:=[1,2,3,4]) (pv 1)))))))) (wh)) (k_ (o9 (AA (q_ (A0 .OP (wm n' (Br .again (q_ n' (yx (V:=[1,2,3,4]) (pv 4)))) (yx (V:=[1,2,3,4]) (pv 1)))) (A0 .OP (wm n' (yx (V:=[1,2,3,4]) (pv 1)) (Br .again (q_ n' (A0 .OP (wm n' (yx (V:=[1,2,3,4]) (pv 2)) (yx (V:=[1,2,3,4]) (pv 1)))))))))))))))))))),3);refine⟨λi=>match i with|1=>x|2=>y|_=>z,λi d=>?_,λo j e hw=>?_⟩
 .simp only[MP,NV,N7]at d;rcases d with ζ|rfl|rfl
  .exact (0,h)
  .exact (0,g)
  .exact (0,hz)
 let b:∀i∈[1,2,3,4],∃v,([δ (.MS (k:MN)),δ n,δ m,δ l,δ o]:St)[i]?=δ (δ v)/\ah j ((λi:Φ=>match i with|1=>x|2=>y|3=>z|_=>.PF .OP x y) i) v:=λi d=>by
  simp only[MP,NV,N7]at d;rcases d with ζ|rfl|rfl|rfl
  .exact (0,h.kp (a'.kp e))
  .exact (0,g.kp (a'.kp e))
  .exact (0,hz.kp (a'.kp e))
  .exact (0,hw)
 let a:∀p u w H',a' j H'->H' p<*.M7 [u,w]->ah H' (CM x y z k).1 u->ah H' (CM x y z k).2 w->Q (.ο p) H':=λp u w H' s2=>q p u w H' (e.ν s2);rcases(by lia:k=0\/k=1\/k=2\/k=3\/k=4\/k=5\/k=6\/k=7)with ζ|rfl|rfl|rfl|rfl|rfl|rfl|rfl
 .exact (2,am ζ (Dp b a))
 .exact (2,ac (!0) (2,am ζ (Dp b a)))
 .exact (2,ac (!0) (2,ac (!0) (2,am ζ (Dp b a))))
 .exact (2,ac (!0) (2,ac (!0) (2,ac (!0) (2,am ζ (Dp b a)))))
 .exact (2,ac (!0) (2,ac (!0) (2,ac (!0) (2,ac (!0) (2,am ζ (Dp b a))))))
 .exact (2,ac (!0) (2,ac (!0) (2,ac (!0) (2,ac (!0) (2,ac (!0) (2,am ζ (Dp b a)))))))
 .exact (2,ac (!0) (2,ac (!0) (2,ac (!0) (2,ac (!0) (2,ac (!0) (2,ac (!0) (2,am ζ (Dp b a))))))))
 .exact (2,ac (!0) (2,ac (!0) (2,ac (!0) (2,ac (!0) (2,ac (!0) (2,ac (!0) (2,ac (!0) (Dp b a))))))))
def MC:vw ["_law_kind","_law_x","_law_y","_law_z"] ["_law_kind","_law_x","_law_y","_law_z"] (h_ KZ):=Aa
def ME(F:vh K "_law_second_ways" "_law_second_ways" KZ f m)(T:SI K mg UM UZ RU):aa P w K mg ς pu 1 f m ["_law_kind","_law_x","_law_y","_law_z"] (Jy 8 16):=by
 refine F.Vo MC ?_;rintro _ _ _ _ H _ _ _ _⟨k,h,g,e,x,y,z,ζ,k1,k2,l,j,hz,q⟩;refine(_,(m_ (u_ (Ap (pv 0) b') (k_ (o9 (AA (q_ (A0 .OP (wm n' (yx (V:=[1,2,3]) (pv 1)) (cE (V:=[1,2,3]) .PU (o_ n')))) (cE (V:=[1,2,3]) .PU (o_ n')))))) (wh)) (m_ (u_ (Ap (pv 0) b') (k_ (o9 (AA (q_ (A0 .OP (wm n' (cE (V:=[1,2,3]) .Rj (o_ n')) (yx (V:=[1,2,3]) (pv 1)))) (A0 .OP (wm n' (yx (V:=[1,2,3]) (pv 1)) (cE (V:=[1,2,3]) .Rj (o_ n')))))))) (wh)) (m_ (u_ (Ap (pv 0) b') (k_ (o9 (AA (q_ (A0 .OP (wm n' (A0 .OP (wm n' (yx (V:=[1,2,3]) (pv 1)) (yx (V:=[1,2,3]) (pv 2)))) (yx (V:=[1,2,3]) (pv 3)))) (A0 .OP (wm n' (yx (V:=[1,2,3]) (pv 1)) (A0 .OP (wm n' (yx (V:=[1,2,3]) (pv 2)) (yx (V:=[1,2,3]) (pv 3)))))))))) (wh)) (m_ (u_ (Ap (pv 0) b') (k_ (o9 (AA (q_ (A0 .Te (wm n' (yx (V:=[1,2,3]) (pv 1)) (A0 .PB (wm n' (yx (V:=[1,2,3]) (pv 2)) (yx (V:=[1,2,3]) (pv 3)))))) (A0 .PB (wm n' (A0 .Te (wm n' (yx (V:=[1,2,3]) (pv 1)) (yx (V:=[1,2,3]) (pv 2)))) (A0 .Te (wm n' (yx (V:=[1,2,3]) (pv 1)) (yx (V:=[1,2,3]) (pv 3)))))))))) (wh)) (m_ (u_ (Ap (pv 0) b') (k_ (o9 (AA (q_ (Br .OJ (q_ n' (Br .again (q_ n' (yx (V:=[1,2,3]) (pv 1)))))) (Br .again (q_ n' (Br .OJ (q_ n' (yx (V:=[1,2,3]) (pv 1)))))))))) (wh)) (m_ (u_ (Ap (pv 0) b') (k_ (o9 (AA (q_ (A0 .Tz (wm n' (yx (V:=[1,2,3]) (pv 1)) (A0 .PB (wm n' (yx (V:=[1,2,3]) (pv 2)) (yx (V:=[1,2,3]) (pv 3)))))) (A0 .Tz (wm n' (A0 .Tz (wm n' (yx (V:=[1,2,3]) (pv 1)) (yx (V:=[1,2,3]) (pv 2)))) (yx (V:=[1,2,3]) (pv 3)))))))) (wh)) (m_ (u_ (Ap (pv 0) b') (k_ (o9 (AA (q_ (Br .Ob (q_ n' (cE (V:=[1,2,3]) .PU (o_ n')))) (Br .again (q_ n' (cE (V:=[1,2,3]) .Ql (o_ n')))))))) (wh)) (k_ (o9 (AA (q_ (Br .OJ (q_ n' (Br .Ob (q_ n' (yx (V:=[1,2,3]) (pv 1)))))) (Br .Ob (q_ n' (Br .OJ (q_ n' (yx (V:=[1,2,3]) (pv 1))))))))))))))))),3);let b:∀i∈[1,2,3],∃v,([δ (.MS (k:MN)),δ h,δ g,δ e]:St)[i]?=δ (δ v)/\ah H ((λi:Φ=>match i with|1=>x|2=>y|_=>z) i) v:=λi d=>by
  simp only[MP,NV,N7]at d;rcases d with ζ|rfl|rfl
  .exact (0,l)
  .exact (0,j)
  .exact (0,hz)
 let a:=q;rcases(by lia:k=8\/k=9\/k=10\/k=11\/k=12\/k=13\/k=14\/k=15)with ζ|rfl|rfl|rfl|rfl|rfl|rfl|rfl
 .exact (2,am ζ (Dp b a))
 .exact (2,ac (!0) (2,am ζ (Dp b a)))
 .exact (2,ac (!0) (2,ac (!0) (2,am ζ (Dp b a))))
 .exact (2,ac (!0) (2,ac (!0) (2,ac (!0) (2,am ζ (Dp b a)))))
 .exact (2,ac (!0) (2,ac (!0) (2,ac (!0) (2,ac (!0) (2,am ζ (Dp b a))))))
 .exact (2,ac (!0) (2,ac (!0) (2,ac (!0) (2,ac (!0) (2,ac (!0) (2,am ζ (Dp b a)))))))
 .exact (2,ac (!0) (2,ac (!0) (2,ac (!0) (2,ac (!0) (2,ac (!0) (2,ac (!0) (2,am ζ (Dp b a))))))))
 .exact (2,ac (!0) (2,ac (!0) (2,ac (!0) (2,ac (!0) (2,ac (!0) (2,ac (!0) (2,ac (!0) (Dp b a))))))))
def b_M:vw ["_law_stack","_law_number","_law_letters_here","_law_kind","_law_more","_law_joined"] ["_law_stack","_law_number","_law_letters_here"] (h_ K3):=Aa
def MF(F:vh K "_law_pushed" "_law_pushed" K3 f fd)(T:SI K mg UM UZ RU):aa P w K mg ς pu 1 f fd ["_law_stack","_law_number","_law_letters_here"] sp_pushed:=by
 refine F.Vo b_M ?_;rintro _ _ _ _ H _ Q _ _⟨p,xs,D,z,L,ζ,hL,hp,hP,hl,i,q⟩;refine(_,(m_ (va 3 b_M.nd (Af Gk (pv 1) b')) (m_ (va 4 b_M.nd (Af JP (pv 1) b')) (FJ (u_ ((G7 (A1 Be (pv 3) b' (A' _)) (G7 (A1 jc (pv 3) b' (A' _)) (HK (A1 Be (Cj T.PQ (pv 0)) b' (A' _))))).pt) (m_ (va 5 b_M.nd (Bg (wm (AB (AA (Bp n' (wm n' n' n'))) (Af yP (pv 3) b')) (AB (pv 0) (Es Et b')) (AB (pv 0) (Es Et b'))))) (k_ (o9 (Af GF (Gh HS (pv 0) GC (FE (Es Et b'))) (AA (o_ (pv 5))))))) (wh)) (FJ (u_ ((G7 (A1 Be (pv 3) b' (A' _)) (HK (A1 Be (Cj T.PQ (pv 0)) b' (A' _)))).pt) (k_ (o9 (Af GF (Gh HS (pv 0) GC (FE (Es Et b'))) (AA (o_ (Bg (q_ (AB (AA (Bp n' (wm n' n' n'))) (Af Gk (pv 4) b')) (AB (pv 0) (Es Et b'))))))))) (wh)) (m_ (u_ (Ap (pv 3) b') (k_ (o9 (Af GF (pv 0) (AA (o_ (Bg (o_ n'))))))) (wh)) (m_ (u_ (Ap (pv 3) b') (k_ (o9 (Af GF (pv 0) (AA (o_ (Bg (o_ (AB (AA (q_ n' n')) (Af Gk (pv 4) b'))))))))) (wh)) (k_ (o9 (Af GF (pv 0) (AA (o_ (Bg (q_ n' (rz gX (pv 2) (Af Gk (pv 4) (Hx T.PQ (pv 2))) (λ_ _=>rfl))))))))))))))),3);let l1:1≤Λ:=sT (by change 1≤16777216;decide);let l2:2≤Λ:=sT (by change 2≤16777216;decide);let l3:3≤Λ:=sT (by change 3≤16777216;decide);let l4:4≤Λ:=sT (by change 4≤16777216;decide);let J:∀(ys:γ V)(us:γ Pt)(t:Pt)(v:V)(j:Hp),a' H j->BJ (ah j) ys us->ah j t v->(∀u∈us,u.To L)->t.To L->aZ us+t.V4≤aZ D+1->aY us+t.sz≤aY D+1->ys.β≤xs.β->∀O,j O=ε->Q (.ο O) (L2.MT j O (.M7 (ys++[v]))):=λys us t v j Z S e ou ot hd hz hy O an=>by
  let C:=a'.MT (o:=.M7 (ys++[v])) an;refine q O _ (us++[t]) _ (Z.ν C) j_ ((S.kp (a'.kp C)).snoc (e.kp (a'.kp C))) (λw hw=>?_) (by rw[Iv];show hd) (by rw[IA];show hz) (by rw[w_];show QH hy);rcases Nd.mp hw with y|y
  .exact ou w y
  .rw [Ay y];show ot
 let b1:∀{n:Φ},n≤xs.β->n+1≤Λ:=λh=>sT (!6);refine(0,8,!0,λr r0 aA=>(0,8,(!0,!0),3));refine(λB H'=>B=[δ (.ο p),δ (.MS z),δ (.NA (tx L)),δ (.MS r),δ (.MS (z/12)),ε]/\H'=H,3,3)
 .refine (0,_,2,aQ (λh5=>(0,_,2,aQ (λaz=>(0,p,0,.NJ (o5.of hp),_,2,aQ (λh1=>?_) (λ_=>(1,1)))) (λ_=>aj (1,1)))) (λ_=>aj (1,1)));let h1:(1:MN)<((xs.β:Φ):MN):=h1;let⟨ys,x,us,s,ζ,ζ,I,E⟩:=hP.Zc (!6);let ab:0<ys.β:=by rw[w_]at h1;simp at h1;lia
  let⟨zs,W,ws,M,ζ,ζ,as,ag⟩:=I.Zc ab;let⟨k,U⟩:=Kn h5 az;refine(l4,λq1 g=>(0,8,AJ j_ U ?_));let N:=a'.MT (o:=.M7 [V.NA "either",.NA "less",.NA "both",.NA "then"]) g;refine(6,AJ (N _ _ hp) (pX _ _ _) (6,AJ (N _ _ hp) (IR _ _) (l3,λt e=>?_)));let s2:=N.ν (a'.MT (o:=.No [.NA (Dn k),W,x]) e);refine(6,0,p,0,o5.of (s2 _ _ hp),λa X=>?_);rw[show AL (zs++[W]++[x]) ε (δ (-2))=zs by rw[Na];show jO (n:=1) ζ];let s3:=s2.ν (a'.MT (o:=.M7 zs) X);refine(0,l1,λb d=>?_);let A:=s3.ν (a'.MT (o:=.M7 [.ο t]) d);let l:zs.β≤(zs++[W]++[x]).β:=by rw[w_,w_];lia
  refine(a,b,8,Ai j_ d,j_,b1 l,J zs ws (.PF k M s) (.ο t) _ A (as.kp (a'.kp A)) (t,W,x,1,Ai (Ai j_ X) d,ag.kp (a'.kp A),E.kp (a'.kp A)) (λu S=>i u (by simp[S])) (i M (!1),i s (!1)) ?_ ?_ l)
  .rw [Iv,Iv];have:=s.U5;have:=M.U5;change _+(max M.V4 s.V4+1)≤_;lia
  .rw [IA,IA];change _+(M.sz+s.sz+1)≤_;lia
 rintro Y H1⟨rfl,ζ⟩;refine(λB H'=>B=[δ (.ο p),δ (.MS z),δ (.NA (tx L)),δ (.MS r),δ (.MS (z/12)),ε]/\H'=H1,3,3)
 .refine (0,_,2,aQ (λh5=>(0,p,0,.NJ (o5.of hp),_,2,aQ (λh1=>?_) (λ_=>(1,1)))) (λ_=>aj (1,1)));let h1:(0:MN)<((xs.β:Φ):MN):=h1;let⟨zs,x,ws,s,ζ,ζ,I,E⟩:=hP.Zc (!6);refine(6,0,p,0,o5.of hp,λa X=>?_);rw[show AL (zs++[x]) ε (δ (-1))=zs from jO (n:=0) ζ];let N:=a'.MT (o:=.M7 zs) X;refine(l4,λq1 g=>(0,8,!0,λm R m4=>?_));let⟨k,U⟩:=Ko R m4;let s2:=N.ν (a'.MT (o:=.M7 [V.NA "again",.NA "outside",.NA "turned",.NA "again"]) g);refine(AJ j_ U (6,AJ (s2 _ _ hp) (IR _ _) (l2,λt e=>(l1,λb d=>?_))));let s3:=s2.ν (a'.MT (o:=.No [.NA (GV k),x]) e);let A:=s3.ν (a'.MT (o:=.M7 [.ο t]) d);let l:zs.β≤(zs++[x]).β:=by rw[w_];lia
  refine(a,b,8,Ai (Ai (Ai j_ g) e) d,j_,b1 l,J zs ws (.Ol k s) (.ο t) _ A (I.kp (a'.kp A)) (t,x,1,Ai j_ d,E.kp (a'.kp A)) (λu S=>i u (by simp[S])) (i s (!1)) ?_ ?_ l)
  .rw [Iv];change _+(s.V4+1)≤_;lia
  .rw [IA];change _+(s.sz+1)≤_;lia
 rintro Y H2⟨rfl,ζ⟩;let Oo:∀(t:Pt)(v:V)(j:Hp),a' H2 j->ah j t v->t.To L->t.V4=1->t.sz=1->∀b,j b=ε->rCat (.ο p) (.ο b) (L2.MT j b (.M7 [v])) Q:=λt v j Z e ot hd hz b d=>by
  let C:=Z.ν (a'.MT (o:=.M7 [v]) d);show(p,b,xs,[v],5,C _ _ hp,j_,b1 (LE _),J xs D t v _ C (hP.kp (a'.kp C)) (e.kp (a'.kp (a'.MT d))) i ot (!6) (!6) (LE _))
 refine(2,aQ (λ_=>(0,l1,λt e=>(l1,λb d=>Oo (.Oo .Ql) (.ο t) _ (a'.MT e) (t,1,j_) trivial ζ ζ b d))) (λ_=>?_));refine(2,aQ (λ_=>(0,l2,λq1 g=>(0,8,!0,λm R m2=>?_))) (λ_=>?_))
 .obtain ⟨k,U⟩:=Kq R m2;show(AJ j_ U (l1,λt e=>(l1,λb d=>Oo (.Oo k) (.ο t) _ ((a'.MT g).ν (a'.MT e)) (t,1,j_) trivial ζ ζ b d)))
 .let hz:(tx L).β≤Λ:=sT (by rw[oh];have:=hL.hi;lia);let ap:(0:MN)<((tx L).β:MN):=by rw[oh];have:=hL.lo;lia
  refine(6,6,0,hz,8,ap,λm R m1=>?_);let⟨c,hc,ar⟩:=mr (xs:=(tx L).Tc.NF) R (by rw[Po];show m1);show(_,8,hz,hc,l2,λt e=>(l1,λb d=>Oo (.RB c) (.ο t) _ (a'.MT e) (t,1,j_) (AC ar) ζ ζ b d))
def a_Z:vw ["_law_cells","_law_letters_here","_law_stack","_law_cell","_law_found","_law_k"] ["_law_cells","_law_letters_here"] (h_ K4):=Aa
def Ca(F:vh K "_law_shape" "_law_shape" K4 f fd)(T:SI K mg UM UZ RU)(ab:Df P w K mg ς "_law_pushed" 1 ["_law_stack","_law_number","_law_letters_here"] sp_pushed):aa P w K mg ς pu 2 f fd ["_law_cells","_law_letters_here"] (LX K):=by
 refine F.Vo a_Z ?_;rintro _ _ _ s H _ _ _ hr⟨a,ns,L,ζ,hL,ha,hn,q⟩;refine(_,(m_ (va 2 a_Z.nd (AA Dh)) (m_ (De O0.PU ζ (Cn (pv 0)) (CB 3 a_Z.nd) (k_ (va 2 a_Z.nd (wx ab hr (wm (pv 2) (Af Gk (Af wV (Af Gk (pv 3) b') b') b') (pv 1)))))) (m_ (u_ (Ap (Cj T.PQ (pv 2)) b') (k_ (o9 (Bg (o_ n')))) (wh)) (m_ (va 4 a_Z.nd (AB (pv 2) b')) (m_ (De O0.PU ζ (eJ ζ T.N4 (q_ b' (Cj T.PQ (pv 2)))) (CB 5 a_Z.nd) (k_ (va 4 a_Z.nd (Bg (wm (AB (AA (wm n' n' n')) (Af Gk (pv 5) b')) (pv 4) (AB (pv 2) (pv 5))))))) (k_ (o9 (pv 4)))))))),3);let l1:1≤Λ:=sT (by change 1≤16777216;decide);let l3:3≤Λ:=sT (by change 3≤16777216;decide);let C:∀{H':Hp},a' H H'->o5 K H' a (ns.NN V.MS):=λs=>s.Sz ha;refine(Nf _,λp0 A=>(0,a,1,(_,C (a'.MT A)),dA (K:=K) (a:=a) (xs:=ns.NN V.MS) (λi D H'=>E4 λ(p:υ)(xs:γ V)(d:γ Pt)(u:ω V)=>A8 (D=[δ (.ο a),δ (.NA (tx L)),δ (.ο p),u,ε,ε]) (a' H H') (H' p<*.M7 xs) (BJ (ah H') xs d) (∀t∈d,t.To L) (aZ d≤i) (aY d≤i) (xs.β≤i)) (p0,[],[],ε,1,a'.MT A,j_,trivial,λt Q=>(nomatch Q),LE _,LE _,LE _) ?_ ?_ ?_))
 .rintro i D H' hi⟨p,xs,d,u,ζ,h,_⟩;show C h
 .rintro i v D H1 O⟨p,xs,d,u,ζ,h,hp,E,e,hd,hz,hl⟩;let hi:i<ns.β:=by
   have:=(q5 O).1
   rwa [ol]at this
  rw[tS,n_ hi]at O;cases O;refine(6,8,!0,λr r0 r1=>(8,.NU (!0,!0),8,!0,λr2 _ _=>(0,p,xs,d,r2,L,1,hL,hp,E,!6,e,λp' I x H2 s2 h1 h2 h3 h4 h5 h6=>?_)));show(p',I,x,0,h.ν s2,h1,h2,h3,!6,!6,!6)
 .rintro D H1⟨p,xs,d,u,ζ,h,hp,E,e,hd,hz,hl⟩;rw[ol]at hd hz hl;let an:=E.PQ;refine(0,p,0,.NJ (o5.of hp),1,0,aQ (λ_=>(l1,λt Q=>q (.ο t) (.Oo .Rj) _ (h.ν (a'.MT Q)) (t,1,j_) trivial (!0) (!0))) (λh0=>?_));let h0:0<xs.β:=Φ.pos_of_ne_zero λz=>h0 (by rw[z];rfl);let VI:∀{j:Φ},j<xs.β->∃v t,xs[j]?=δ v/\d[j]?=δ t/\ah H1 t v:=λ{j}hj=>mW E hj;let⟨v0,t0,e1,e2,S⟩:=VI h0;refine(0,AJ hp (AG e1) ?_);refine(0,p,0,.NJ (o5.of hp),4,(!0,!0,!6,!6),3);refine HM (n:=(((xs.β:Φ):MN)-1).Ou) (λj g H'=>E3 λ(v:V)(t:Pt)(M:ω V)=>A6 (g=[δ (.ο a),δ (.NA (tx L)),δ (.ο p),u,δ v,M]) (a' H1 H') (ah H' t v) (t.To L) (t.V4≤aZ (d.OE (j+1))) (t.sz≤aY (d.OE (j+1))+j)) (v0,t0,ε,1,a'.Tn _,S,e t0 (AC e2),3,3) ?_ ?_
  .rw [iF e2];show LE _
  .rw [iF e2];show LE _
  .rintro j g H2 hj⟨v,t,M,ζ,s2,U,X,B,y⟩;let Y:1+j<xs.β:=by lia
   let⟨J,l,f1,f2,R⟩:=VI Y;refine(l3,λq1 W=>(0,8,!0,λr r0 r3=>?_));let⟨k,hk⟩:=Kr r0 r3;let m:=a'.MT (o:=.M7 [V.NA "then",.NA "either",.NA "then"]) W;let Z:AN xs (1+(j:MN))<*J:=by
    rw[show(1+(j:MN))=((1+j:Φ):MN) by lia];show AG f1
   refine(AJ j_ hk (6,0,AJ (m _ _ (s2 _ _ hp)) Z (l3,λb hb=>?_)));let N:=m.ν (a'.MT (o:=.No [.NA (Dn k),v,J]) hb);refine(.ο b,.PF k t l,0,s2.ν N,(b,v,J,1,j_,U.kp (a'.kp N),R.kp (a'.kp (s2.ν N))),(X,e l (AC f2)),3,3)
   .rw [show j+1+1=(1+j)+1 by lia,DX f2,Iv];rw[show j+1=1+j by lia]at B;have:=t.U5;have:=l.U5;change max t.V4 l.V4+1≤_;lia
   .rw [show j+1+1=(1+j)+1 by lia,DX f2,IA];rw[show j+1=1+j by lia]at y;change t.sz+l.sz+1≤_;lia
  .rintro g H2⟨v,t,M,ζ,s2,U,X,B,y⟩;let ap:=pN d ((((xs.β:Φ):MN)-1).Ou+1);let ag:=n8 d ((((xs.β:Φ):MN)-1).Ou+1);show(0,q v t H2 (h.ν s2) U X (!6) (!6))
def d_i:vw ["_law_shape_here","_law_name","_law_between"] ["_law_shape_here"] (h_ K5):=Aa
def Cb(F:vh K "_law_piece" "_law_piece" K5 f U)(T:SI K mg UM UZ RU)(hm:mg "_law_piece"<*.ο f)(Z:Ao K U ["_law_shape_here"] []):aa P w K mg ς pu 12 f U ["_law_shape_here"] (IK 12):=by
 let PQ:∀n vs H Q E,IK n vs H Q E->vs.β=["_law_shape_here"].β:=λn vs H Q E h=>by
  let⟨L,t,v,ζ,_⟩:=h;rfl
 let QD:∀n:Φ,aa P w K mg ς pu n f U ["_law_shape_here"] (IK n):=by
  intro n;induction n with
  |TF=>show(PQ 0,λ_ _ _ _ _ _ vs Q E _ _ _ _ h=>by let⟨L,t,v,_,_,N,_⟩:=h;have:=t.U5;lia)
  |Si n ih=>
   let r:Df P w K mg ς "_law_piece" n ["_law_shape_here"] (IK n):=(f,U,hm,F.kp,Z,ih);refine F.ok d_i (PQ _) (λQm A Fr s H vs Q E R h=>?_);let⟨L,t,v,ζ,O,N,i,V_,q⟩:=h;refine(_,(m_ (va 1 d_i.nd (Ae 0)) (m_ (u_ (Ap (pv 1) n') (k_ (o9 (Ae 0))) (wh)) (m_ (u_ (Ap (Cj T.PQ (pv 0)) b') (k_ (o9 (rz di (cG (C8.NZ n' n' (C8.NZ n' n' (C8.NZ n' n' C8.Ow))) (!3) (!0) (!0)) (pv 1) (λ_ _=>rfl)))) (wh)) (m_ (u_ (Ap (pv 1) n') (k_ (o9 (Af DN (wx r R (o_ (Ae 0))) n'))) (wh)) (m_ (u_ (Ap (Cj T.PQ (pv 0)) b') (k_ (o9 (Af DN (Af DN (Af DN n' (rz di (cG (C8.NZ n' n' (C8.NZ n' n' C8.Ow)) (!3) (!0) (!0)) (pv 1) (λ_ _=>rfl))) (wx r R (o_ (Ae 0)))) n'))) (wh)) (m_ (va 2 d_i.nd (rz di (cG (C8.NZ n' n' (C8.NZ n' n' (C8.NZ n' n' (C8.NZ n' n' C8.Ow)))) (!3) (!0) (!0)) (pv 1) (λ_ _=>rfl))) (k_ (o9 (Af DN (Af DN (Af DN (Af DN n' (wx r R (o_ (Ae 0)))) (pv 2)) (wx r R (o_ (Ae 0)))) n'))))))))),3);let l:∀a b:LN,a.β≤600->b.β≤600->(tx a).β+(tx b).β≤Λ:=λa b ha hb=>by rw[oh,oh];show sT (!6)
   let J:NB.Ni "("=tx [40]:=by decide +kernel
   let I:NB.Ni ")"=tx [41]:=by decide +kernel
   cases t with
   |RB c=>
    let⟨p,ζ,hp⟩:=O;show(z8 hp aL (2,am (!3) (z8 hp aJ (q [c] H (a'.Tn _) (G.RB i) (by change 1≤4*1;decide)))))
   |Oo k=>
    let⟨p,ζ,hp⟩:=O;let h0:u0 K H p [.NA (Hy k)]:=u0.of hp;refine(0,p,_,8,h0,AG (j:=0) ζ,2,ac (by cases k<;>decide +kernel) ?_);refine(0,p,0,.NU h0,1,0,am ζ λo z C g e=>?_);cases k with
    |PU=>
     refine(0,o,_,8,e,(by decide +kernel:_<*V.NA "0"),3);rw[show NB.Ni "0"=tx [48] by decide +kernel];show q [48] z g (G.Oo .PU) (by change 1≤4*1;decide)
    |Rj=>
     refine(0,o,_,8,e,(by decide +kernel:_<*V.NA "1"),3);rw[show NB.Ni "1"=tx [49] by decide +kernel];show q [49] z g (G.Oo .Rj) (by change 1≤4*1;decide)
    |Ql=>
     refine(0,o,_,8,e,(by decide +kernel:_<*V.NA "."),3);rw[show NB.Ni "."=tx [46] by decide +kernel];show q [46] z g (G.Oo .Ql) (by change 1≤4*1;decide)
   |Ol k x=>
    let⟨p,u,ζ,hp,M⟩:=O;let h0:u0 K H p [.NA (GV k),u]:=u0.of hp;let N:x.V4+1≤n+1:=N;let hz:x.sz+1≤60:=V_;refine(0,p,_,8,h0,AG (j:=0) ζ,2,ac (by cases k<;>decide +kernel) ?_);refine(0,p,0,.NU h0,1,0,ac (by change ¬ V.MS 2=V.MS 1;decide) ?_);cases k with
    |again=>
     refine(2,am (!3) (0,p,_,8,h0,AG (j:=1) ζ,L,x,u,1,M,!6,i,!6,λd z g D X=>?_));refine(tx d,tx [42],1,Nb V.NA (!3),l _ _ (!6) (by change 1≤600;decide),3);rw[Ct];show q _ z g (G.again D) (by rw[w_];change _+1≤4*(x.sz+1);lia)
    |Ob=>
     refine(2,ac (!3) (0,p,0,.NU h0,1,0,am ζ λo z C g e=>?_));refine(0,o,_,8,e,(by decide +kernel:_<*V.NA "!"),tx [40],tx [33],Nb V.NA J,Nb V.NA (!3),l _ _ (by change 1≤600;decide) (by change 1≤600;decide),3);refine(z8 (g _ _ hp) aJ (L,x,u,1,M.kp (a'.kp g),!6,i,!6,λd W s2 D X=>?_));refine(tx ([40]++[33]),tx d,Nb V.NA (Ct _ _),1,l _ _ (by change 2≤600;decide) (!6),tx ([40]++[33]++d),tx [41],Nb V.NA (Ct _ _),Nb V.NA I,l _ _ (by change d.β+1+1≤600;lia) (by change 1≤600;decide),3);rw[Ct];show q (40::((33::d)++[41])) W (g.ν s2) (G.YN (G.pre .Ob D (!0))) (by change ((33::d)++[41]).β+1≤4*(x.sz+1);rw[w_];change d.β+1+1+1≤_;lia)
    |OJ=>
     refine(2,ac (!3) (0,p,0,.NU h0,1,0,am ζ λo z C g e=>?_));refine(0,o,_,8,e,(by decide +kernel:_<*V.NA "<"),tx [40],tx [60],Nb V.NA J,Nb V.NA (!3),l _ _ (by change 1≤600;decide) (by change 1≤600;decide),3);refine(z8 (g _ _ hp) aJ (L,x,u,1,M.kp (a'.kp g),!6,i,!6,λd W s2 D X=>?_));refine(tx ([40]++[60]),tx d,Nb V.NA (Ct _ _),1,l _ _ (by change 2≤600;decide) (!6),tx ([40]++[60]++d),tx [41],Nb V.NA (Ct _ _),Nb V.NA I,l _ _ (by change d.β+1+1≤600;lia) (by change 1≤600;decide),3);rw[Ct];show q (40::((60::d)++[41])) W (g.ν s2) (G.YN (G.pre .OJ D (!0))) (by change ((60::d)++[41]).β+1≤4*(x.sz+1);rw[w_];change d.β+1+1+1≤_;lia)
   |PF k x y=>
    let⟨p,u,w',ζ,hp,M,hy⟩:=O;let h0:u0 K H p [.NA (Dn k),u,w']:=u0.of hp;let N:max x.V4 y.V4+1≤n+1:=N;let hz:x.sz+y.sz+1≤60:=V_;refine(0,p,_,8,h0,AG (j:=0) ζ,2,ac (by cases k<;>decide +kernel) ?_);refine(0,p,0,.NU h0,1,0,ac (by change ¬ V.MS 3=V.MS 1;decide) ?_);refine(2,ac (by cases k<;>decide +kernel) (0,p,0,.NU h0,1,0,ac (by change ¬ V.MS 3=V.MS 2;decide) λo z C g e=>?_));obtain⟨S,hS,eS,lS⟩:∃S,aF [(NB.Ni "either",V.NA "|",),("less",.NA "-",),("both",.NA "&",),("then",.NA "",)] (Dn k)=δ (.NA S)/\S=tx (m2 k)/\(m2 k).β≤1:=by
     cases k
     .exact ("|",!3,!3,!0)
     .exact ("-",!3,!3,!0)
     .exact ("&",!3,!3,!0)
     .exact ("",!3,!3,!0)
    subst eS;refine(0,o,_,8,e,hS,3);refine(z8 (g _ _ hp) aJ (L,x,u,1,M.kp (a'.kp g),!6,i.1,!6,λd W s2 D X=>?_));refine(tx [40],tx d,Nb V.NA J,1,l _ _ (by change 1≤600;decide) (!6),0,tx ([40]++d),tx (m2 k),Nb V.NA (Ct _ _),1,l _ _ (by change d.β+1≤600;lia) (!2),3);let B:=g.ν s2;refine(z8 (B _ _ hp) dI (L,y,w',1,hy.kp (a'.kp B),!6,i.2,!6,λm H3 s3 Y ab=>?_));let la:([40]++d++m2 k).β≤d.β+2:=by rw[w_];change d.β+1+_≤_;lia
    refine(tx ([40]++d++m2 k),tx m,Nb V.NA (Ct _ _),1,l _ _ (!6) (!6),tx ([40]++d++m2 k++m),tx [41],Nb V.NA (Ct _ _),Nb V.NA I,l _ _ (by rw[w_];lia) (by change 1≤600;decide),3);rw[Ct];let g3:=G.YN (G.UA k D Y (IO (gR k) (!0)) (IO (QH (gR k)) (!0)));refine q (40::((d++m2 k++m)++[41])) H3 (B.ν s3) g3 ?_;change ((d++m2 k++m)++[41]).β+1≤4*(x.sz+y.sz+1);rw[w_,w_,w_];change d.β+_+_+1+1≤_;lia
 show QD 12
def b_x:vw ["_law_found","_law_letters_here","_law_row","_law_goal"] ["_law_found","_law_letters_here"] (h_ K6):=Aa
def MG(F:vh K "_law_is_machine" "_law_is_machine" K6 f Z)(T:SI K mg UM UZ RU):aa P w K mg ς pu 1 f Z ["_law_found","_law_letters_here"] sp_ismach:=by
 refine F.Vo b_x ?_;rintro _ _ _ s H _ _ _ _⟨m,L,W,B,ζ,U,g,q⟩;refine(_,(m_ (u_ ((CO (DM (BZ (Ck T.RE T.P_ Pe (pv 0)))) (CO (GS (Cj T.PQ (pv 0)) b') (CO (DM (BZ (Ck T.RE T.NA boot_str (Ae 0)))) (EJ (GS (Ae 0) (pv 1)))))).pt) (k_ (o9 BK)) (wh)) (m_ (u_ ((CO (DM (BZ (Ck T.RE T.P_ Pe (Ae 0)))) (CO (DM (BZ (Ck T.RE T.P_ Pe (Ae 0)))) (EJ (Ap (Cj T.PQ (Ae 0)) b')))).pt) (k_ (o9 BK)) (wh)) (m_ (De O0.PU ζ (qO (Ae 0)) (CB 2 b_x.nd) (m_ (u_ ((CO (DM (BZ (Ck T.RE T.P_ Pe (pv 2)))) (EJ (GS (Cj T.PQ (pv 2)) (Hx T.PQ (pv 1))))).pt) (k_ (o9 BK)) (wh)) (k_ (De O0.PU ζ (qO (pv 2)) (CB 3 b_x.nd) (k_ (u_ ((CO (DM (BZ (Ck T.RE T.MS boot_int (pv 3)))) (CO (BZ (Ck T.RE T.Ph XI (pv 3))) (CO (A1 jc (pv 3) b' (A' _)) (EJ (A1 vG (pv 3) (Cj T.PQ (Ae 0)) (A' _)))))).pt) (k_ (o9 BK)) (wh))))))) (k_ (o9 (FC (EM bA (Cj T.PQ (Ae 0)) (Cj T.PQ (Ae 0)) (A' _)) (FB (Ds (pW ζ) (!4) T.QD Oi.Sf.boot_all (o_ (EB ["_law_found","_law_letters_here","_law_row","_law_goal"] ζ (!0) (Dz (Ae 0)) (λcl C fp s' H'=>(B3,(Ds (sV (T:="bool") K) (!4) T.RE Oi.Sf.boot_isinstance (q_ (pv 0) (mZ (v:=.ty "bool") (!4) T.Ph XI ζ))))))))))))))),3);let⟨t,mk,l,h1,h2,M,Y,X⟩:=U;let hz:(tx L).β≤Λ:=sT (by rw[oh];show IO g.lt.hi (!0));let p:(l.NN V.ο).β=W.β:=by rw[ol,Y]
 let Q:=g.n1;let a0:∀{H':Hp},a' H H'->u0 K H' m [.NA (tx L),.ο t,.ο mk]:=λs=>u0.of (s _ _ h1);let rf:=a'.Tn H;refine(10,ai.No h1,(Ft K).1,0,aj (0,m,0,.NU (u0.of h1),1,0,D9 ζ ?_));refine(z8 h1 aL (_,4,ai.NA _,Dv K,0,aj ?_));refine(z8 h1 aL (2,D9 ζ ?_));refine(z8 h1 aJ (_,4,ai.No h2,(Ft K).1,0,aj ?_));refine(z8 h1 dI (_,4,ai.No M,(Ft K).1,0,aj ?_));refine(z8 h1 aJ (t,0,.NU (u0.of h2),1,0,3));rw[p,sP (!6)];refine aj ?_;refine(z8 h1 aJ (t,1,(_,u0.of h2),3));refine nA (K:=K) (a:=t) (xs:=l.NN V.ο) (λi d H'=>E2 λs2 k=>d=[δ (.ο m),δ (.NA (tx L)),s2,k]/\H'=H) (ε,ε,5) ?_ ?_ ?_
 .rintro i d H' hi⟨s2,k,ζ,ζ⟩;show u0.of h2
 .rintro i x d H' N⟨s2,k,ζ,ζ⟩;rw[tS]at N;let⟨u,E,ζ⟩:=BG N;let⟨ws,y,e⟩:=X i u E;let⟨z,A⟩:=g.Vx ws (AC y);refine(10,ai.No e,(Ft K).1,0,aj (0,u,0,.NU (u0.of e),6,hz,1,0,3));rw[f_,z,oh];refine D9 ζ ?_;refine(0,u,1,(_,u0.of e),3);refine nA (K:=K) (a:=u) (xs:=c_ ws) (λi d n=>∃k,d=[δ (.ο m),δ (.NA (tx L)),δ (.ο u),k]/\n=H') (0,1) ?_ ?_ ?_
  .rintro j d n I⟨k,ζ,ζ⟩;show u0.of e
  .rintro j x d n hxj⟨k,ζ,ζ⟩;let I:j<ws.β:=by have:=(q5 hxj).1;rwa [f_]at this
   rw[CY I]at hxj;cases hxj;let S:=A _ (GM I);refine(10,ai.MS _,lF K,0,aj (10,ai.MS _,lG K,0,aj (0,_,2,3)));rw[M5 (MN.TY.Ot (MN.natCast_nonneg _))];refine aj (0,z8 h1 aJ (t,0,.NU (u0.of h2),_,2,3));rw[p,M5 (MN.not_le.Ot (MN.YO.Ot S))];show aj (0,1)
  .rintro d n⟨k,ζ,ζ⟩;show(4,1)
 .rintro d H'⟨s2,k,ζ,ζ⟩;refine(z8 h1 dI (mk,0,.NU (u0.of M),z8 h1 aJ (t,0,.NU (u0.of h2),1,0,3)));rw[p,ol,g.bl,b7,NM ζ];refine aw ?_;dsimp only[BQ,Aw];refine EZ (a:=mk) (λR h=>(z8 h1 dI h)) (.NU ζ) M (λD j ys n=>ys=(W5 j ξ).NN V.bl) (by rw[ol,g.bl];show sT (IO g.n60 (!0))) (λD J=>rfl) ?_ ?_
  .intro D j x ys n R1 R2 J hxj o r hp k1 k2;rw[tS]at hxj;let⟨b,O,ζ⟩:=BG hxj;refine l_ (10,ai.bl _,Du K,k1 _ n r (a'.Ra o J) ?_);rw[hp,γ.replicate_succ',Nw];rfl
  .intro D ys n J o r hp;subst hp;show(D,0,r,λb O=>(γ.mem_replicate.mp O).2,q _ o)
def ZZ:vw ["_law_found","_law_due","_law_k"] ["_law_found","_law_due"] (h_ K7):=Aa
def CJ(F:vh K "_law_same" "_law_same" K7 f C)(T:SI K mg UM UZ RU)(R:mg "_law_same"<*.ο f)(L:Ao K C ["_law_found","_law_due"] []):aa P w K mg ς pu 4 f C ["_law_found","_law_due"] (IL 3):=by
 let Xi:∀(d:Φ)(t:Sp),Df P w K mg ς "_law_same" d ["_law_found","_law_due"] t->(∀d' x y H Q E,d=d'+1->ip H d' x y->Q (.bl ξ) H->t [x,y] H Q E)->aa P w K mg ς pu (d+1) f C ["_law_found","_law_due"] (IL d):=by
  intro d t N J;refine F.ok ZZ (λvs H Q E h=>?_) (λQm A Fr s H vs Q E W h=>?_)
  .obtain ⟨x,y,ζ,_⟩:=h;rfl
  .obtain ⟨x,y,ζ,hlike,q⟩:=h;refine(_,(m_ (u_ ((CO (BZ (Ck T.RE T.P_ Pe (pv 1))) (EJ (BZ (Ck T.RE T.Qx Vr (pv 1))))).pt) (m_ (u_ ((CO (GS (Ck T.RE T.P_ Pe (pv 0)) (Ck T.RE T.P_ Pe (pv 1))) (EJ (GS (Ck T.RE T.Qx Vr (pv 0)) (Ck T.RE T.Qx Vr (pv 1))))).pt) (k_ (o9 BK)) (wh)) (m_ (u_ (GS (Cj T.PQ (pv 0)) (Cj T.PQ (pv 1))) (k_ (o9 BK)) (wh)) (m_ (De O0.PU ζ (G_ ζ T.N4 (o_ (Cj T.PQ (pv 1)))) (CB 2 ZZ.nd) (k_ (u_ (DM (BZ (wx N W (q_ (rz rQ (pv 0) (pv 2) (λ_ _=>rfl)) (rz rQ (pv 1) (pv 2) (λ_ _=>rfl)))))) (k_ (o9 BK)) (wh)))) (k_ (o9 BK))))) (wh)) (m_ (u_ (BZ (Ck T.RE T.Ph XI (pv 1))) (k_ (o9 (FC (Ck T.RE T.Ph XI (pv 0)) (FB (EM bA (pv 0) (pv 1) (A' _)))))) (wh)) (m_ (u_ (BZ (Ck T.RE T.MS boot_int (pv 1))) (k_ (o9 (FC (Ck T.RE T.MS boot_int (pv 0)) (FC (BP (Ck T.RE T.Ph XI (pv 0))) (FB (EM bA (pv 0) (pv 1) (A' _))))))) (wh)) (m_ (u_ (BZ (Ck T.RE T.NA boot_str (pv 1))) (k_ (o9 (FC (Ck T.RE T.NA boot_str (pv 0)) (FB (EM bA (pv 0) (pv 1) (A' _)))))) (wh)) (k_ (IP)))))),3);let B:(x=y/\dB x=ξ)\/∃d' p q xs ys,d=d'+1/\x=.ο p/\y=.ο q/\((H p=δ (.No xs)/\H q<*.No ys)\/(H p=δ (.M7 xs)/\H q<*.M7 ys))/\xs.β=ys.β/\xs.β≤2100/\∀(i:Φ)(x y:V),xs[i]?<*x->ys[i]?<*y->ip H d' x y:=by
    cases d with
    |TF=>show .NJ hlike
    |Si d'=>show hlike.Nx .NJ λ⟨p,q,xs,ys,h⟩=>.NU (d',p,q,xs,ys,1,h)
   rcases B with⟨rfl,Z⟩|⟨d',p,j,xs,ys,S,ζ,ζ,v,m,M,o⟩
   .cases x with
    |bl b=>
     refine(10,ai.bl _,xp K,0,aj (10,ai.bl _,xq K,0,aj ?_));refine(10,ai.bl _,Du K,0,aw (10,ai.bl _,Du K,0,aw (6,1,3)));change Q (.bl (decide (V.bl b=V.bl b))) H;rw[NM ζ];show q
    |MS b=>
     refine(10,ai.MS _,xm K,0,aj (10,ai.MS _,xn K,0,aj ?_));refine(10,ai.MS _,lG K,0,aj ?_);refine(10,ai.MS _,lF K,0,aw (10,ai.MS _,lF K,0,aw (10,ai.MS _,lG K,6,aw (6,1,3))));change Q (.bl (decide (V.MS b=V.MS b))) H;rw[NM ζ];show q
    |NA b=>
     refine(10,ai.NA _,xi K,0,aj (10,ai.NA _,xj K,0,aj ?_));refine(10,ai.NA _,xl K,0,aj ?_);refine(10,ai.NA _,xk K,0,aj ?_);refine(10,ai.NA _,Dv K,0,aw (10,ai.NA _,Dv K,0,aw (6,1,3)));change Q (.bl (decide (V.NA b=V.NA b))) H;rw[NM ζ];show q
    |_=>show MM (show η=ξ from Z) MZ.M'
   .let hseq1:o5 K H p xs\/u0 K H p xs:=v.Nx (λz=>.NU (u0.of z.1)) (λz=>.NJ (o5.of z.1));let a:o5 K H j ys\/u0 K H j ys:=v.Nx (λz=>.NU (u0.of z.2)) (λz=>.NJ (o5.of z.2));rcases v with⟨hp,k⟩|⟨hp,k⟩
    .refine (10,ai.No k,(Ft K).1,0,aw (aw ?_));refine(10,ai.No hp,(Ft K).1,10,ai.No k,(Ft K).1,1,0,D9 ζ (10,ai.No hp,rP K,10,ai.No k,rP K,1,0,D9 ζ ?_));refine(0,p,xs,1,hseq1,0,j,ys,1,a,1,0,D9 (by rw[m]) ?_);refine(0,j,ys,1,a,0,!6,!6,3);refine HM (n:=ys.β) (λi r H'=>∃u,r=[δ (.ο p),δ (.ο j),u]/\H'=H) (ε,5) ?_ ?_
     .rintro i r O Y⟨u,ζ,ζ⟩;let I:=n_ (l:=xs) (i:=i) (!6);let D:=n_ (l:=ys) (i:=i) (!2);let g:AN xs (0+(i:MN))<*xs[i]:=by rw[MN.QA];show AG I
      let e:AN ys (0+(i:MN))<*ys[i]:=by rw[MN.QA];show AG D
      show(6,.NU (.NJ (p,xs,8,u0.of hp,g,6,.NU (.NJ (j,ys,8,u0.of k,e,J d' _ _ _ _ _ S (o i _ _ I D) (0,aj (0,1)))))))
     .rintro r O⟨u,ζ,ζ⟩;show q
    .refine (10,ai.M7 k,lE K,0,aj (10,ai.M7 k,(Ft K).2.1,0,aw ?_));refine(10,ai.M7 hp,lE K,10,ai.M7 k,lE K,1,0,D9 ζ (10,ai.M7 hp,(Ft K).2.1,10,ai.M7 k,(Ft K).2.1,1,0,D9 ζ ?_));refine(0,p,xs,1,hseq1,0,j,ys,1,a,1,0,D9 (by rw[m]) ?_);refine(0,j,ys,1,a,0,!6,!6,3);refine HM (n:=ys.β) (λi r H'=>∃u,r=[δ (.ο p),δ (.ο j),u]/\H'=H) (ε,5) ?_ ?_
     .rintro i r O Y⟨u,ζ,ζ⟩;let I:=n_ (l:=xs) (i:=i) (!6);let D:=n_ (l:=ys) (i:=i) (!2);let g:AN xs (0+(i:MN))<*xs[i]:=by rw[MN.QA];show AG I
      let e:AN ys (0+(i:MN))<*ys[i]:=by rw[MN.QA];show AG D
      show(6,.NJ (p,xs,8,o5.of hp,g,6,.NJ (j,ys,8,o5.of k,e,J d' _ _ _ _ _ S (o i _ _ I D) (0,aj (0,1)))))
     .rintro r O⟨u,ζ,ζ⟩;show q
 let QD:∀d:Φ,aa P w K mg ς pu (d+1) f C ["_law_found","_law_due"] (IL d):=by
  intro d;induction d with
  |TF=>show Xi 0 (λ_ _ _ _=>NX) (f,C,R,F.kp,L,(λ_ _ _ _ h=>h.Nx,λ_ _ _ _ _ _ _ _ _ _ _ _ _ h=>h.Nx)) (λd' _ _ _ _ _ h=>by cases h)
  |Si d U=>show Xi (d+1) (IL d) (f,C,R,F.kp,L,U) (λd' x y H Q E h X q=>by cases h;show(x,y,1,X,q))
 show QD 3
def b_f:vw ["_law_letters_here","_law_text","_law_found"] ["_law_letters_here","_law_text"] (h_ K8):=Aa
def MH(F:vh K "_law_machine_of" "_law_machine_of" K8 f A)(T:SI K mg UM UZ RU)(m:G0 K mg RU UM I fdX)(E:vR P w K mg ς c RU ts)(D:F' P w K mg ς c cP)(h:Df P w K mg ς "read" 7 [Q3,"text"] (mP c)):aa P w K mg ς pu 24 f A ["_law_letters_here","_law_text"] (iL ts):=by
 refine F.Vo b_f ?_;rintro _ _ _ _ _ _ _ _ i⟨L,n,t,l,ζ,g,x,e,r,y,o,q⟩;let⟨fm,z,p,C,H⟩:=E;let d:=i.Pk (j:=7) (!0);refine(_,(m_ (va 2 b_f.nd (GA)) (m_ (qG (R:=RU) (5,5,m.kT,λv=>(k_ (va 2 b_f.nd (GA))),!0) (uh (j:=2) b_f.nd (wx h d (q_ (pv 0) (pv 1))) (λk=>(D.pc k).cl) p H i C (o_ (pv 0)) ζ (Or.NJ ζ))) (k_ (o9 (pv 2))))),3);refine(6,L,n,t,l,1,g,g.az,x,e,λv J b hp=>?_);let⟨a,dx,fs,ζ,h1,l1⟩:=hp.ins' Q0 (!3);show(t.kd,a,dx,fs,1,h1,l1,0,a,t,L,1,hp,r,g,(KT.of b).tb y,λH' k=>(m.exm,0,o H' ((KT.of b).ν k)),λf W B H' k u s e=>(0,q f W B H' ((KT.of b).ν k) u s e))
def e_N:vw ["_law_script","_law_letters_here","_law_at","_law_told","_law_kind","_law_pair","_law_here","_law_there"] ["_law_script"] (h_ Bo):=Aa
def G3(F:vh K "law" "law" Bo f fd)(T:SI K mg UM UZ RU)(aA:∀p∈ts,∃c,(c,p.1,)∈RM)(a9:Df P w K mg ς "_law_letters" 1 ["_law_cell"] sp_letters)(an:Df P w K mg ς "_law_cell_at" 1 ["_law_script","_law_k"] (mQ K))(a8:Df P w K mg ς "_law_shape" 2 ["_law_cells","_law_letters_here"] (LX K))(a6:Df P w K mg ς "_law_first_ways" 1 ["_law_kind","_law_x","_law_y","_law_z"] (Jy 0 8))(a4:Df P w K mg ς "_law_second_ways" 1 ["_law_kind","_law_x","_law_y","_law_z"] (Jy 8 16))(ar:Df P w K mg ς "_law_piece" 12 ["_law_shape_here"] (IK 12))(ap:Df P w K mg ς "_law_machine_of" 24 ["_law_letters_here","_law_text"] (iL ts))(a5:Df P w K mg ς "_law_is_machine" 1 ["_law_found","_law_letters_here"] sp_ismach)(a7:Df P w K mg ς "_law_same" 4 ["_law_found","_law_due"] (IL 3)):aa P w K mg ς pu 25 f fd ["_law_script"] (gp K RM):=by
 refine F.Vo e_N ?_;rintro _ _ _ _ H _ _ _ S⟨a,ns,ζ,hS,bf,a0,kq⟩;let s:=S.Pk (j:=1) (!0);let aH:=S.Pk (j:=2) (!0);let aC:=S.Pk (j:=4) (!0);let I:=S.Pk (j:=12) (!0);refine(_,(m_ (va 1 e_N.nd (wx a9 s (o_ (wx an s (q_ (pv 0) (b')))))) (m_ (De O0.PU ζ (Cn (AA (Bp b' (wm b' b' b')))) (CB 2 e_N.nd) (m_ (Jm ["_law_script","_law_letters_here","_law_at","_law_told","_law_kind","_law_pair","_law_here","_law_there"] (j:=3) ζ e_N.nd (!0) ζ (Or.NJ ζ) (G_ ζ T.N4 (o_ b')) (λcl C fp s' H'=>(B3,wx a8 aH (q_ (Gh (qp K) (pv 1) (FE (Af jd (Af jd (pv 3) (Af wV b' (pv 0))) b')) (FE (Af jd (Af jd (pv 3) (Af wV b' (pv 0))) b'))) (pv 2))))) (m_ (va 4 e_N.nd (Af Gk (wx an s (q_ (pv 0) (pv 2))) b')) (FJ (u_ (A1 jc (pv 4) b' (A' _)) (k_ (va 5 e_N.nd (wx a6 s (Bp (pv 4) (wm (AB (pv 3) b') (AB (pv 3) b') (AB (pv 3) b')))))) (k_ (va 5 e_N.nd (wx a4 s (Bp (pv 4) (wm (AB (pv 3) b') (AB (pv 3) b') (AB (pv 3) b'))))))) (FJ (va 6 e_N.nd (wx ap S (q_ (pv 1) (wx ar I (o_ (AB (pv 5) b')))))) (FJ (va 7 e_N.nd (wx ap S (q_ (pv 1) (wx ar I (o_ (AB (pv 5) b')))))) (k_ (u_ ((G7 (A1 gK (pv 6) GA (A' _)) (HK (A1 gK (pv 7) GA (A' _)))).pt) (k_ (u_ ((CO (DM (BZ (wx a5 s (q_ (pv 6) (pv 1))))) (CO (A1 Be (Cj T.PQ (Ae 6)) b' (A' _)) (EJ (DM (BZ (wx a7 aC (q_ (pv 7) (pv 6)))))))).pt) (k_ (o9 BK)) (wh))) (wh))))))))) (k_ (o9 BK)))),3);let hT:bG ts H:=λp hp=>by
  let⟨c,hc⟩:=aA p hp;show(#[],a0 (c,p.1,) hc,iC,λq _=>.NJ ζ)
 let b4:(4:Φ)≤Λ:=sT (by change 4≤16777216;decide);refine(0,a,ns,(0),1,hS,!0,λz0=>(z0,1,λL hL=>?_));refine(b4,λQ aN=>?_);let k0:KT ts H (L2.MT H Q (.M7 [V.MS 1,.MS 14,.MS 27,.MS 40])):=KT.of (a'.MT aN);let M:L2.MT H Q (.M7 [V.MS 1,.MS 14,.MS 27,.MS 40]) Q<*.M7 [V.MS 1,.MS 14,.MS 27,.MS 40]:=j_;generalize L2.MT H Q (.M7 [V.MS 1,.MS 14,.MS 27,.MS 40])=H0 at k0 M;refine(Q,1,(_,o5.of M),dA (K:=K) (a:=Q) (xs:=[V.MS 1,.MS 14,.MS 27,.MS 40]) (λi b H'=>E6 λ(u2:ω V)(u3:ω V)(u4:ω V)(u5:ω V)(U:ω V)(O:ω V)=>b=[δ (.ο a),δ (.NA (tx L)),u2,u3,u4,u5,U,O]/\KT ts H0 H') (7,7,4,KT.of (a'.Tn _)) ?_ ?_ ?_)
 .rintro i b H1 hi⟨_,_,_,_,_,_,_,k1⟩;show o5.of (k1.sm.M7 M)
 .rintro i v b H1 J⟨u2,u3,u4,u5,U,O,ζ,k1⟩;obtain⟨l,ζ,bm⟩:∃l:Φ,v=.MS (l:MN)/\l≤40:=by
   match i with
   |0=>cases J;show((1),1,!0)
   |1=>cases J;show((14),1,!0)
   |2=>cases J;show((27),1,!0)
   |3=>cases J;show((40),1,!0)
   |n+4=>simp at J
  let as:=k0.ν k1;let a2:=vF as.sm hS;dsimp only[Bv];dsimp only[Sk,aP,aK,Cq,Aw,Cr,BQ];refine Jc (n:=3) (λR h=>h) (!0) (λD j ys H'=>∃A:γ Pt,A3 (BJ (ah H') ys A) (ys.β=j) (∀t∈A,t.To L/\t.V4≤5/\t.sz≤9)) (λD hD=>([],trivial,1,λt ht=>(nomatch ht))) ?_ ?_
  .rintro D j ys H' R1 R2 hD hj ag N⟨A,hP,hy,m⟩k1 k2;refine l_ (6,0,8,.NJ (!0,!0),8,_,2,6,8,.NJ (!0,!0),8,_,2,a,0,ag.Sz a2,λp hp=>(0,p,sS ns (δ ((l:MN)+4*(0+(j:MN))+1)) (δ ((l:MN)+4*(0+(j:MN))+5)),L,1,hL,3,vf (!6) (!6) (!6),λv t H3 Y J ho hd hz=>?_))
   .rw [<-pO];show o5.of j_
   let sA:=(a'.MT hp).ν Y;let e:=sA _ _ N;let kL:=Kp.M7 (o:=.M7 (ys++[v])) e;refine k1 v H3 e (a'.Ra (ag.ν sA) hD) (A++[t],(hP.kp ((a'.kp sA).ν kL)).snoc (J.kp kL),by rw[w_,hy];rfl,λt' aB=>?_);rcases Nd.mp aB with z|z
   .exact m t' z
   .rw [Ay z];show(ho,hd,hz)
  rintro D ys H2 hD s2 N⟨A,hP,hy,m⟩;let⟨v1,v2,v3,ζ⟩:=y0 hy;let⟨x,y,z,ζ⟩:=y0 (hP.PQ.MQ.ν hy);let⟨hx,ab,hz,_⟩:=hP;let⟨ox,dx,zx⟩:=m x (!1);let⟨oy,dy,zy⟩:=m y (!1);let⟨oz,dz,zz⟩:=m z (!1);let k2:=k1.ν (KT.of (ts:=ts) s2);let a1:=vF (k0.ν k2).sm hS;refine(6,a,ns,0,a1,!6,λzk=>(8,!0,λr r0 bl=>?_));let⟨k,ζ⟩:=MN.eq_ofNat_of_zero_le r0;let e:o5 K H2 D [v1,v2,v3]:=o5.of N;let d:=vU ox oy oz zx zy zz dx dy dz (!0) k;refine⟨λb H'=>∃p u w,b=[δ (.ο a),δ (.NA (tx L)),δ (.MS (l:MN)),δ (.ο D),δ (.MS (k:MN)),δ (.ο p),U,O]/\KT ts H0 H'/\H' p=δ (.M7 [u,w])/\ah H' (CM x y z k).1 u/\ah H' (CM x y z k).2 w,?_,?_⟩
  .refine (0,_,2,aQ (λh8=>?_) (λh8=>?_))
   .let h8:(k:MN)<8:=h8;show(6,D,_,8,e,AG (j:=0) ζ,0,D,_,8,e,AG (j:=1) ζ,0,D,_,8,e,AG (j:=2) ζ,k,v1,v2,v3,x,y,z,1,Nf _,!6,hx,ab,hz,λp u w H3 Y hp hu hw=>(p,u,w,1,k2.ν (KT.of Y),hp,hu,hw))
   .let h8:¬ (k:MN)<8:=h8;show(6,D,_,8,e,AG (j:=0) ζ,0,D,_,8,e,AG (j:=1) ζ,0,D,_,8,e,AG (j:=2) ζ,k,v1,v2,v3,x,y,z,1,!6,!6,hx,ab,hz,λp u w H3 Y hp hu hw=>(p,u,w,1,k2.ν (KT.of Y),hp,hu,hw))
  rintro bk H3⟨p,u,w,ζ,k3,hp,hu,hw⟩;refine⟨λb H'=>∃v6,b=[δ (.ο a),δ (.NA (tx L)),δ (.MS (l:MN)),δ (.ο D),δ (.MS (k:MN)),δ (.ο p),δ v6,O]/\KT ts H0 H'/\H' p=δ (.M7 [u,w])/\ah H' (CM x y z k).2 w/\Tl L H' (CM x y z k).1 v6,?_,?_⟩
  .refine (6,p,_,8,o5.of hp,AG (j:=0) ζ,L,_,u,1,hu,by have:=d.1.2.2;lia,d.1.1,by have:=d.1.2.1;lia,λtw H4 X hg hl=>?_);let k4:=k3.ν (KT.of (ts:=ts) X);refine(L,tw,_,(4),1,hL,hg,by have:=d.1.2.1;lia,by have:=d.1.2.2;lia,(k0.ν k4).tb hT,λH5 k5=>?_,λf W B H5 k5 E hc hl=>?_)
   .exact (0,k4.ν k5,k5.sm.M7 (X _ _ hp),(hw.kp (a'.kp X)).kt k5,.NJ ζ)
   .exact (0,k4.ν k5,k5.sm.M7 (X _ _ hp),(hw.kp (a'.kp X)).kt k5,.NU (f,W,B,1,E,hc,hl))
  rintro bi H4⟨v6,ζ,k4,aM,az,t6⟩;refine⟨λb H'=>∃v7,b=[δ (.ο a),δ (.NA (tx L)),δ (.MS (l:MN)),δ (.ο D),δ (.MS (k:MN)),δ (.ο p),δ v6,δ v7]/\KT ts H0 H'/\Tl L H' (CM x y z k).1 v6/\Tl L H' (CM x y z k).2 v7,?_,?_⟩
  .refine (6,p,_,8,o5.of aM,AG (j:=1) ζ,L,_,w,1,az,by have:=d.2.2.2;lia,d.2.1,by have:=d.2.2.1;lia,λtw H5 s5 hg hl=>?_);let k5:=k4.ν (KT.of (ts:=ts) s5);refine(L,tw,_,(4),1,hL,hg,by have:=d.2.2.1;lia,by have:=d.2.2.2;lia,(k0.ν k5).tb hT,λH6 Z=>?_,λf W B H6 Z E hc hl=>?_)
   .exact (0,k5.ν Z,t6.kt ((KT.of s5).ν Z),.NJ ζ)
   .exact (0,k5.ν Z,t6.kt ((KT.of s5).ν Z),.NU (f,W,B,1,E,hc,hl))
  rintro bg H5⟨v7,ζ,k5,t6,t7⟩;let done:∀H',KT ts H5 H'->E6 λ(u2 u3 u4 u5 U O:ω V)=>([δ (.ο a),δ (.NA (tx L)),δ (.MS (l:MN)),δ (.ο D),δ (.MS (k:MN)),δ (.ο p),δ v6,δ v7]:St)=[δ (.ο a),δ (.NA (tx L)),u2,u3,u4,u5,U,O]/\KT ts H0 H':=λH' k'=>(7,7,4,k5.ν k');rcases t6 with ζ|⟨f,W,B,ζ,E,⟨c1,aV⟩,aT⟩
  .exact (2,aj (aj (done _ (KT.of (a'.Tn _)))))
  refine(2,aw ?_);rcases t7 with ζ|⟨g,W2,B2,ζ,a3,⟨c2,aU⟩,aS⟩
  .exact (2,aj (done _ (KT.of (a'.Tn _))))
  refine(2,aw ?_);let⟨rfl,ζ⟩:=uK aV aU (aT.ν ((p7 k).ν aS.MQ));refine(6,f,L,W,B,1,E.mt,E.ma,λH6 s6=>(0,aj ?_));let⟨wy,mk,bd,e1,e2,e3,e4,e5⟩:=id (E.mt.OR s6);refine(z8 e1 aJ (wy,0,.NU (u0.of e2),_,2,ac (by rw[ol,e4];have:=E.le;lia) ?_));show(6,4,ly (a3.mt.OR s6) (E.mt.OR s6) E.ma,0,aj (done _ (KT.of s6)))
 .rintro b H1 _;show kq _
end
def G4{l:Δ.W.X6}{w:N1}{K K0:Nn}{h:NR}{mg:NB->ω θ}{fa b1 b0 bV bU bP bM bD bs P0 P1 P2 P3 P4 P5 P6 P7:υ}(hK:K=Ch [P0,P1,P2,P3,P4,P5,P6,P7] K0)(hl:[P0,P1,P2,P3,P4,P5,P6,P7].Nz)(X:K.In h)(G:h.Ns LT mg)(hm:mg "law"<*.ο fa){co:υ}(nA_:Pp K LT "RoomError"<*δ (.ο co)){an:υ}(nG_:Pp K LT "OtherLetters"<*δ (.ο an)){r:υ}(nH_:Pp K LT "TooMany"<*δ (.ο r)){d M fZ m I n J g B t P f z j D o L i E x Q y R u O Y C F Z:υ}(n_Pattern:Pp K LT "Pattern"<*δ (.ο d))(n_Desk:Pp K LT "Desk"<*δ (.ο M))(n_Never:Pp K LT "Never"<*δ (.ο m))(n_Empty:Pp K LT "Empty"<*δ (.ο n))(n_AnySign:Pp K LT "AnySign"<*δ (.ο g))(n_Sign:Pp K LT "Sign"<*δ (.ο t))(n_Outside:Pp K LT "Outside"<*δ (.ο f))(n_Turned:Pp K LT "Turned"<*δ (.ο j))(n_Again:Pp K LT "Again"<*δ (.ο o))(n_Either:Pp K LT "Either"<*δ (.ο i))(n_Less:Pp K LT "Less"<*δ (.ο x))(n_Both:Pp K LT "Both"<*δ (.ο y))(n_Then:Pp K LT "Then"<*δ (.ο u))(y_Never:Δ.W.QZ K0 (.ο m) "shape"<*δ (.ο I))(y_Empty:Δ.W.QZ K0 (.ο n) "shape"<*δ (.ο J))(y_AnySign:Δ.W.QZ K0 (.ο g) "shape"<*δ (.ο B))(y_Sign:Δ.W.QZ K0 (.ο t) "shape"<*δ (.ο P))(y_Outside:Δ.W.QZ K0 (.ο f) "shape"<*δ (.ο z))(y_Turned:Δ.W.QZ K0 (.ο j) "shape"<*δ (.ο D))(y_Again:Δ.W.QZ K0 (.ο o) "shape"<*δ (.ο L))(y_Either:Δ.W.QZ K0 (.ο i) "shape"<*δ (.ο E))(y_Less:Δ.W.QZ K0 (.ο x) "shape"<*δ (.ο Q))(y_Both:Δ.W.QZ K0 (.ο y) "shape"<*δ (.ο R))(y_Then:Δ.W.QZ K0 (.ο u) "shape"<*δ (.ο O))(yi_Sign:Δ.W.QZ K0 (.ο t) "__init__"<*δ (.ο Y))(yi_Around:Δ.W.QZ K0 (.ο f) "__init__"<*δ (.ο C))(yi_Pair:Δ.W.QZ K0 (.ο i) "__init__"<*δ (.ο F))(yi_Desk:Δ.W.QZ K0 (.ο M) "__init__"<*δ (.ο Z))(yM:Δ.W.QZ K0 (.ο m) "machine"<*δ (.ο fZ))(b_Never:dN K m d I fZ)(b_Empty:dN K n d J fZ)(ZA:dN K g d B fZ)(b_Sign:dN K t d P fZ)(Y':dN K f d z fZ)(b_Turned:dN K j d D fZ)(b_Again:dN K o d L fZ)(b_Either:dN K i d E fZ)(b_Less:dN K x d Q fZ)(b_Both:dN K y d R fZ)(b_Then:dN K u d O fZ)(q_Never:Iu K m)(q_Empty:Iu K n)(q_AnySign:Iu K g)(q_Sign:Mk K t Y)(q_Outside:Mk K f C)(q_Turned:Mk K j C)(q_Again:Mk K o C)(q_Either:Mk K i F)(q_Less:Mk K x F)(q_Both:Mk K y F)(q_Then:Mk K u F)(q_Desk:Mk K M Z)(s_Never:C_ K "shape" "Never.shape" nu I)(s_Empty:C_ K "shape" "Empty.shape" nv J)(s_AnySign:C_ K "shape" "AnySign.shape" fo B)(s_Sign:C_ K "shape" "Sign.shape" sj P)(s_Outside:C_ K "shape" "Outside.shape" fj z)(s_Turned:C_ K "shape" "Turned.shape" jv D)(s_Again:C_ K "shape" "Again.shape" nw L)(s_Either:C_ K "shape" "Either.shape" jw E)(s_Less:C_ K "shape" "Less.shape" sk Q)(s_Both:C_ K "shape" "Both.shape" sq R)(s_Then:C_ K "shape" "Then.shape" si O)(si_Sign:C_ K "__init__" "Sign.__init__" lP Y)(si_Around:C_ K "__init__" "Around.__init__" dq C)(si_Pair:C_ K "__init__" "Pair.__init__" lQ F)(si_Desk:C_ K "__init__" "Desk.__init__" lR Z)(sM:C_ K "machine" "Pattern.machine" K' fZ){d2 d3:υ}{e2 e3:Nt ZI}{n2 n3:Φ}(rn2:Pp K LT "KINDS"<*δ (.ο d2))(rl2:K.ρ d2<*{OO:=.MO "dict",NL:=.Pz e2 n2})(re2:dY w e2.NF dKINDS)(rs2:(d2==Ov)=η)(rn3:Pp K LT "STRENGTHS"<*δ (.ο d3))(rl3:K.ρ d3<*{OO:=.MO "dict",NL:=.Pz e3 n3})(re3:dY w e3.NF sR)(rs3:(d3==Ov)=η)(dcl:Cp K M)(dn1:Ah K M "patterns")(dn2:Ah K M "waiting")(oG_:Dx K an)(eG_:GJ K an)(mG_:Zh K (.ο an) (.ο co)<*ξ)(iGG_:Pr K (.ο an) (.ο an)<*ξ)(iGH_:Pr K (.ο an) (.ο r)<*η)(vG_:Pr K (.ο an) (.MO "ValueError")<*ξ)(eH_:GJ K r)(mH_:Zh K (.ο r) (.ο co)<*ξ)(iHG_:Pr K (.ο r) (.ο an)<*η)(iHH_:Pr K (.ο r) (.ο r)<*ξ)(vH_:Pr K (.ο r) (.MO "ValueError")<*ξ){fI:υ}{ge k3:ω υ}{fc:Nt (ω θ)}{g1 hf hL fv kD:θ}{eA:υ}{cW:υ}(nW:Pp K LT "Walk"<*δ (.ο cW))(hI0:Δ.W.QZ K0 (.ο cW) "__init__"<*δ (.ο fI))(OO:Cp K cW)(mk:Mk K cW fI)(na1:Ah K cW "letters")(na2:Ah K cW "things")(na3:Ah K cW "words")(na4:Ah K cW "ways")(na5:Ah K cW "marks")(lI:K.ρ fI<*(g1,ge,.Qb (Px "__init__" "Walk.__init__" (t5 HF) (p_ HF) (h_ HF) .ε hf hL fv k3 (.ο eA) kD),fc))(cI:PD K (.ο eA) "Walk.__init__"=ξ){fX:υ}{fO kR:ω υ}{e4:Nt (ω θ)}{gx g8 hD fm ks:θ}{ey:υ}(hX0:Δ.W.QZ K0 (.ο r) "__init__"<*δ (.ο fX))(xo:BW K r fX)(xc:j0 K r)(xn1:Ah K r "words")(xn2:Ah K r "tails")(xn3:Ah K r "part")(xb:tL K co)(xf:isFn K (.ο fX)=ξ)(xe:Zh K (.ο r) (.ο r)<*ξ)(lX:K.ρ fX<*(gx,fO,.Qb (Px "__init__" "TooMany.__init__" (t5 Gz) (p_ Gz) (h_ Gz) .ε g8 hD fm kR (.ο ey) ks),e4))(cX:PD K (.ο ey) "TooMany.__init__"=ξ){tD:υ}{g3:θ}{gk:ω υ}{ff:Nt (ω θ)}{nD:Φ}{fV:υ}{fP kT:ω υ}{e5:Nt (ω θ)}{gz ha hE fn kt:θ}{ez:υ}(aV:Pp K LT "walked"<*δ (.ο fV))(lV:K.ρ fV<*(gz,fP,.Qb (Px "walked" "walked" (t5 Bt) (p_ Bt) (h_ Bt) (.ο tD) ha hE fn kT (.ο ez) kt),e5))(cV:PD K (.ο ez) "walked"=ξ)(lD:K.ρ tD<*(g3,gk,.Sz #[.ε] nD,ff)){fM:υ}{gd k2:ω υ}{e9:Nt (ω θ)}{g0 he hI ft kB:θ}(aM:Pp K LT "walked_machine"<*δ (.ο fM))(lM:K.ρ fM<*(g0,gd,.Qb (Px "walked_machine" "walked_machine" (t5 Em) (p_ Em) (h_ Em) .ε he hI ft k2 (.ο b1) kB),e9))(cM:PD K (.ο b1) "walked_machine"=ξ){fA:υ}{gs k7:ω υ}{fl:Nt (ω θ)}{g7 hj hP fD kP:θ}(aA:Pp K LT "paired"<*δ (.ο fA))(lA:K.ρ fA<*(g7,gs,.Qb (Px "paired" "paired" (t5 Dq) (p_ Dq) (h_ Dq) .ε hj hP fD k7 (.ο b0) kP),fl))(cA:PD K (.ο b0) "paired"=ξ){fB:υ}{go k6:ω υ}{fk:Nt (ω θ)}{g5 hi hO fy kL:θ}(aB:Pp K LT "either"<*δ (.ο fB))(lB:K.ρ fB<*(g5,go,.Qb (Px "either" "either" (t5 EF) (p_ EF) (h_ EF) .ε hi hO fy k6 (.ο bV) kL),fk))(cB:PD K (.ο bV) "either"=ξ){fC:υ}{gl k5:ω υ}{fg:Nt (ω θ)}{g4 hh hN fx kK:θ}(aC:Pp K LT "both"<*δ (.ο fC))(lC:K.ρ fC<*(g4,gl,.Qb (Px "both" "both" (t5 EG) (p_ EG) (h_ EG) .ε hh hN fx k5 (.ο bU) kK),fg))(cC:PD K (.ο bU) "both"=ξ){fS:υ}{ga k0:ω υ}{e7:Nt (ω θ)}{gT hc hG fr kw:θ}(aS:Pp K LT "less"<*δ (.ο fS))(lS:K.ρ fS<*(gT,ga,.Qb (Px "less" "less" (t5 EH) (p_ EH) (h_ EH) .ε hc hG fr k0 (.ο bP) kw),e7))(cS:PD K (.ο bP) "less"=ξ){fH:υ}{gi k4:ω υ}{fe:Nt (ω θ)}{g2 hg hM fw kH:θ}(aH:Pp K LT "then"<*δ (.ο fH))(lH:K.ρ fH<*(g2,gi,.Qb (Px "then" "then" (t5 H.y_) (p_ H.y_) (h_ H.y_) .ε hg hM fw k4 (.ο bM) kH),fe))(cH:PD K (.ο bM) "then"=ξ){fN:υ}{gc k1:ω υ}{e8:Nt (ω θ)}{gV hd hH fs kA:θ}(aN:Pp K LT "again"<*δ (.ο fN))(lN:K.ρ fN<*(gV,gc,.Qb (Px "again" "again" (t5 A.vb) (p_ A.vb) (h_ A.vb) .ε hd hH fs k1 (.ο bD) kA),e8))(cN:PD K (.ο bD) "again"=ξ){fU:υ}{fT kW:ω υ}{e6:Nt (ω θ)}{gS hb hF fp kv:θ}(aU:Pp K LT "walked_turned"<*δ (.ο fU))(lU:K.ρ fU<*(gS,fT,.Qb (Px "walked_turned" "walked_turned" (t5 Tu.i_) (p_ Tu.i_) (h_ Tu.i_) .ε hb hF fp kW (.ο bs) kv),e6))(cU:PD K (.ο bs) "walked_turned"=ξ)(l0:Ax K "numbered" Ku)(l1:Ax K "many_lots" Kv)(l2:Ax K "rounds_of" Kw)(l3:Ax K "first_rooms" Kx)(l4:Ax K "parting_word" Ky)(l5:Ax K "folded" cn)(l6:Ax K "tails_of" Kz)(l7:Ax K "told" kN)(l8:Ax K "need_same_letters" KA)(l9:Ax K "least" gw)(l10:Ax K "lots_after" KB)(l11:Ax K "lot_of" ck)(l12:Ax K "has_marked" KC)(l13:Ax K "rooms_into" KD)(l14:Ax K "outside" KE)(l15:Ax K "turned" ci)(l16:Ax K "short_machine" KF)(l17:Ax K "piece_machine" KG)(l18:Ax K "joined" cm)(l19:Ax K "machine_of" KH)(l20:Ax K "is_letters" KI)(l21:Ax K "need_letters" KJ)(l22:Ax K "is_wanting" KL)(l23:Ax K "can_stand" KM)(l24:Ax K "need_pattern" KN)(l25:Ax K "piece_of" KO)(l26:Ax K "pair_of" KP)(l27:Ax K "settle" cj)(l28:Ax K "put" qB)(l29:Ax K "tokens_of" KQ)(l30:Ax K "pattern_of" KR)(l31:Ax K "read" kO)(l32:Ax K "_law_cell_at" KU)(l33:Ax K "_law_letters" KW)(l34:Ax K "_law_first_ways" KY)(l35:Ax K "_law_second_ways" KZ)(l36:Ax K "_law_pushed" K3)(l37:Ax K "_law_shape" K4)(l38:Ax K "_law_piece" K5)(l39:Ax K "_law_is_machine" K6)(l40:Ax K "_law_same" K7)(l41:Ax K "_law_machine_of" K8){eq:υ}{eo c8:ω υ}{en:Nt (ω θ)}{ep c3 c5 c2 c7:θ}{cx:υ}(a42:Pp K LT "law"<*δ (.ο eq))(l42:K.ρ eq<*(ep,eo,.Qb (Px "law" "law" (t5 Bo) (p_ Bo) (h_ Bo) .ε c3 c5 c2 c8 (.ο cx) c7),en))(c42:PD K (.ο cx) "law"=ξ)(Zv:Pp K LT "len"<*ε)(z_range:Pp K LT "range"<*ε)(z_isinst:Pp K LT "isinstance"<*ε)(z_int:Pp K LT "int"<*ε)(z_bool:Pp K LT "bool"<*ε)(z_tuple:Pp K LT "tuple"<*ε)(z_list:Pp K LT "list"<*ε)(z_str:Pp K LT "str"<*ε)(Zu:Pp K LT "zip"<*ε)(Zw:Pp K LT "enumerate"<*ε)(z_reversed:Pp K LT "reversed"<*ε)(z_max:Pp K LT "max"<*ε)(z_all:Pp K LT "all"<*ε)(z_any:Pp K LT "any"<*ε)(z_set:Pp K LT "set"<*ε)(z_sorted:Pp K LT "sorted"<*ε)(z_enum:Pp K LT "enumerate"<*ε){b5:XM}(z_most:Pp K LT "MOST_ROOMS"<*δ (.MS 8 b5))
  :∃fd:Sg,(∀(s:MJ)(v:θ),X9 s fd ([v],[]) [("_law_script",v,)])/\∀ς:NR,K.In ς->ς.Ns LT mg->DB ς mg->(∀q∈[(b1,P0,),(b0,P1,),(bV,P2,),(bU,P3,),(bP,P4,),(bM,P5,),(bD,P6,),(bs,P7,)],QI ς q.1 q.2)->aa l.Ξ w K mg ς pu 25 fa fd ["_law_script"] (gp K [(b1,P0,),(b0,P1,),(bV,P2,),(bU,P3,),(bP,P4,),(bM,P5,),(bD,P6,),(bs,P7,)]):=by
 let e:=hm.MQ.ν (O6 X G a42);cases e;let T:SI K mg co an r:=(O6 X G nA_,O6 X G nG_,O6 X G nH_,oG_,eG_,mG_,iGG_,iGH_,vG_,eH_,mH_,iHG_,iHH_,vH_,Nl X G Zv,Nl X G z_range,Nl X G z_isinst,Nl X G z_int,Nl X G z_bool,Nl X G z_tuple,Nl X G z_list,Nl X G z_str,Nl X G Zu,Nl X G Zw,Nl X G z_reversed,Nl X G z_max,Nl X G z_all,Nl X G z_any,Nl X G z_set,Nl X G z_sorted,Nl X G z_enum,(b5,O6 X G z_most));let⟨f0,a0,_,F0⟩:=l0;let⟨f1,a1,_,F1⟩:=l1;let⟨f2,a2,_,F2⟩:=l2;let⟨f3,a3,_,F3⟩:=l3;let⟨f4,a4,_,F4⟩:=l4;let⟨f5,a5,_,F5⟩:=l5;let⟨f6,a6,_,F6⟩:=l6;let⟨f7,a7,_,F7⟩:=l7;let⟨f8,a8,_,F8⟩:=l8;let⟨f9,a9,_,F9⟩:=l9;let⟨n5,e0,_,cv⟩:=l10;let⟨n4,eS,_,ct⟩:=l11;let⟨n1,eO,_,cs⟩:=l12;let⟨n0,eN,_,cp⟩:=l13;let⟨hA,m1,_,ei⟩:=l14;let⟨hz,m0,_,eg⟩:=l15;let⟨nT,mN,_,ee⟩:=l16;let⟨nS,mC,_,ed⟩:=l17;let⟨hy,mA,_,ec⟩:=l18;let⟨hx,eH,_,cP⟩:=l19;let⟨nR,mx,_,eb⟩:=l20;let⟨nP,mw,_,ea⟩:=l21;let⟨nO,ms,_,d6⟩:=l22;let⟨nL,mq,_,d5⟩:=l23;let⟨nI,mp,_,d4⟩:=l24;let⟨nC,md,_,d1⟩:=l25;let⟨nz,mc,_,d0⟩:=l26;let⟨nx,mb,_,dV⟩:=l27;let⟨nt,ma,_,dT⟩:=l28;let⟨ns,lw,_,dz⟩:=l29;let⟨nr,lt,_,dy⟩:=l30;let⟨nq,ls,_,dx⟩:=l31;let⟨np,lp,_,dv⟩:=l32;let⟨no,ln,_,dt⟩:=l33;let⟨nm,lm,_,ds⟩:=l34;let⟨nl,le,_,dp⟩:=l35;let⟨nk,lb,_,dn⟩:=l36;let⟨nf,la,_,dk⟩:=l37;let⟨ne,eC,_,cO⟩:=l38;let⟨nb,k9,_,de⟩:=l39;let⟨na,eB,_,cK⟩:=l40;let⟨m8,k8,_,dd⟩:=l41;let m4:=D8 (st:=Bo) l42 c42 (BE l42);let WT:=Gy.mk (O6 X G nW) OO mk na1 na2 na3 na4 na5 (D8 (st:=HF) lI cI (BE lI));let TM:G0 K mg r co fX _:=(O6 X G nH_,O6 X G nA_,xo,xc,xn1,xn2,xn3,xb,xf,xe,eH_,mH_,D8 (st:=Gz) lX cX (BE lX));let WK:II K cW:=(OO,na1,na4,na5);let DL:∀ς:NR,Df l.Ξ w K mg ς "lots_after" 1 ["machine","rooms"] Tm:=λς=>@Ir l.Ξ w K mg ς h X G _ _ _ _ _ _ _ e0 cv (BN cv (by intros;rfl)) (LY cv T);let DH:∀ς:NR,Df l.Ξ w K mg ς "has_marked" 1 ["machine","rooms"] Xy:=λς=>@Ir l.Ξ w K mg ς h X G _ _ _ _ _ _ _ eO cs (BN cs (by intros;rfl)) (L0 cs T);let DT:∀ς:NR,Df l.Ξ w K mg ς "lot_of" 1 ["rooms"] (HH K):=λς=>@Ir l.Ξ w K mg ς h X G _ _ _ _ _ _ _ eS ct (B6 ct (by intros;rfl)) (Cm ct T);let DR:∀ς:NR,Df l.Ξ w K mg ς "rooms_into" 1 ["machine","place","rooms"] Tu.Z6:=λς=>@Ir l.Ξ w K mg ς h X G _ _ _ _ _ _ _ eN cp (Gx cp (by intros;rfl)) (L1 cp T);let⟨az,b2⟩:=s_Never;let⟨aT,b3⟩:=s_Empty;let⟨U,ar⟩:=s_AnySign;let⟨bl,cg⟩:=s_Sign;let⟨S,ap⟩:=s_Outside;let⟨ab,bg⟩:=s_Turned;let⟨bd,b4⟩:=s_Again;let⟨ag,bi⟩:=s_Either;let⟨bm,ch⟩:=s_Less;let⟨bo,cl⟩:=s_Both;let⟨bk,cf⟩:=s_Then;let⟨ej,b6⟩:=si_Sign;let⟨c4,bf⟩:=si_Around;let⟨ek,cd⟩:=si_Pair;let⟨el,ce⟩:=si_Desk;let⟨hw,e1⟩:=sM;refine(Px "law" "law" (t5 Bo) (p_ Bo) (h_ Bo) .ε c3 c5 c2 c8 (.ο cx) c7,λs v=>.of_eq ζ,λς _ _ hB hC=>?_);let PC:∀k,vt K ((ED m n g t f j o i x y u) k) d:=Hz b_Never.pc b_Empty.pc ZA.pc b_Sign.pc Y'.pc b_Turned.pc b_Again.pc b_Either.pc b_Less.pc b_Both.pc b_Then.pc;let mS:∀k,dX K ((ED m n g t f j o i x y u) k) "shape" ((ED I J B P z D L E Q R O) k):=Hz b_Never.me b_Empty.me ZA.me b_Sign.me Y'.me b_Turned.me b_Again.me b_Either.me b_Less.me b_Both.me b_Then.me;let bS:∀k,Ao K ((ED az aT U bl S ab bd ag bm bo bk) k) ["self"] []:=Hz (EE b2 (by intros;rfl)) (EE b3 (by intros;rfl)) (EE ar (by intros;rfl)) (EE cg (by intros;rfl)) (EE ap (by intros;rfl)) (EE bg (by intros;rfl)) (EE b4 (by intros;rfl)) (EE bi (by intros;rfl)) (EE ch (by intros;rfl)) (EE cl (by intros;rfl)) (EE cf (by intros;rfl));let mM:∀k,dX K ((ED m n g t f j o i x y u) k) "machine" fZ:=Hz b_Never.mm b_Empty.mm ZA.mm b_Sign.mm Y'.mm b_Turned.mm b_Again.mm b_Either.mm b_Less.mm b_Both.mm b_Then.mm;let PK:F' l.Ξ w K mg ς (ED m n g t f j o i x y u) d:=(O6 X G n_Pattern,Hz (O6 X G n_Never) (O6 X G n_Empty) (O6 X G n_AnySign) (O6 X G n_Sign) (O6 X G n_Outside) (O6 X G n_Turned) (O6 X G n_Again) (O6 X G n_Either) (O6 X G n_Less) (O6 X G n_Both) (O6 X G n_Then),PC,λk=>by cases k;show q_Never;show q_Empty;show q_AnySign,(7,q_Sign,qX b6,Km b6 (by intros;rfl)),(_,_,λk=>by cases k;show q_Outside;show q_Turned;show q_Again,lh bf,Km bf (by intros;rfl)),(_,_,λk=>by cases k;show q_Either;show q_Less;show q_Both;show q_Then,qY cd,Mj cd (by intros;rfl)),((ED I J B P z D L E Q R O),(ED az aT U bl S ab bd ag bm bo bk),mS,bS,m6 PC mS bS (Hz b2 b3 ar cg ap bg b4 bi ch cl cf)));let RK:fW l.Ξ w K mg ς (ED m n g t f j o i x y u) M d2 d2 d3:=(O6 X G rn2,O6 X G rn3,jL rl2 re2 rE rs2,jL rl3 re3 wZ rs3,O6 X G n_Desk,dcl,dn1,dn2,(7,q_Desk,qZ ce,EE ce (by intros;rfl)));revert mM PK RK;generalize (ED m n g t f j o i x y u)=c;intro mM PK RK;let N:=@Ir l.Ξ w K mg ς h X G;obtain⟨ts,as⟩:∃ts:γ (υ×γ (Sh×NB)),ts=[(P0,ON,),(P1,ca,),(P2,JA,),(P3,JB,),(P4,JC,),(P5,H.W3,),(P6,A.W4,),(P7,Tu.AW,)]:=(_,ζ);let nd:(ts.NN Up.fst).Nz:=by rw[as];show hl
 let i0:(P0,ON,)∈ts:=by rw[as];simp
 let i1:(P1,ca,)∈ts:=by rw[as];simp
 let i2:(P2,JA,)∈ts:=by rw[as];simp
 let i3:(P3,JB,)∈ts:=by rw[as];simp
 let i4:(P4,JC,)∈ts:=by rw[as];simp
 let i5:(P5,H.W3,)∈ts:=by rw[as];simp
 let i6:(P6,A.W4,)∈ts:=by rw[as];simp
 let i7:(P7,Tu.AW,)∈ts:=by rw[as];simp
 let hk:∀p∈ts,∃c,(c,p.1,)∈[(b1,P0,),(b0,P1,),(bV,P2,),(bU,P3,),(bP,P4,),(bM,P5,),(bD,P6,),(bs,P7,)]:=by
  rw[as];intro p hp;simp only[MP,NV,N7]at hp;rcases hp with ζ|rfl|rfl|rfl|rfl|rfl|rfl|rfl
  .exact (b1,!1)
  .exact (b0,!1)
  .exact (bV,!1)
  .exact (bU,!1)
  .exact (bP,!1)
  .exact (bM,!1)
  .exact (bD,!1)
  .exact (bs,!1)
 let hv:QI ς b1 P0:=hC (b1,P0,) (!1);let hu:QI ς b0 P1:=hC (b0,P1,) (!1);let ht:QI ς bV P2:=hC (bV,P2,) (!1);let hs:QI ς bU P3:=hC (bU,P3,) (!1);let hr:QI ς bP P4:=hC (bP,P4,) (!1);let hq:QI ς bM P5:=hC (bM,P5,) (!1);let ho:QI ς bD P6:=hC (bD,P6,) (!1);let hn:QI ς bs P7:=hC (bs,P7,) (!1);let es:Df l.Ξ w K mg ς "walked_machine" 6 ["machine"] (Js cW P0 ON):=(fM,_,O6 X G aM,BE lM,B6 (D8 (st:=Em) lM cM (BE lM)) (by intros;rfl),q9 lM cM lV cV (BE lV) (O6 X G aV) lD WT (Nl X G Zv) (Nl X G Zu) hv hB);let h0:Df l.Ξ w K mg ς "walked_turned" 6 ["machine"] (Tu.BY cW P7 Tu.AW):=(fU,_,O6 X G aU,BE lU,B6 (D8 (st:=Tu.i_) lU cU (BE lU)) (by intros;rfl),Tu.Fj lU cU lV cV (BE lV) (O6 X G aV) lD WT (Nl X G Zv) (Nl X G Zu) (Nl X G z_tuple) (Nl X G z_range) (Nl X G Zw) hn hB DR);let iv:=N a0 F0 (B6 F0 (by intros;rfl)) (Db F0 T );let da:=N a1 F1 (B6 F1 (by intros;rfl)) (CF F1 T );let et:=N a2 F2 (Gx F2 (by intros;rfl)) (CG F2 T iv da);let ex:=N a3 F3 (B6 F3 (by intros;rfl)) (Mq F3 T da);let hR:=N a4 F4 (Me F4 (by intros;rfl)) (Mr F4 T );let ev:=N a5 F5 (BN F5 (by intros;rfl)) (Ep F5 T WK ex);let hU:=N a6 F6 (Gx F6 (by intros;rfl)) (Dc F6 T WK hR);let cw:AT l.Ξ w K mg ς "told" 4 ["walk"] (G1 cW r):=(f7,_,O6 X G a7,F7.kp,B6 F7 (by intros;rfl),uv F7 T WK na3 TM et da ev ex hU);let ew:AT l.Ξ w K mg ς "need_same_letters" 1 ["machine","second"] (Jx an):=(f8,_,O6 X G a8,F8.kp,BN F8 (by intros;rfl),Ms F8 T );let cD:=N a9 F9 (B6 F9 (by intros;rfl)) (Fl F9 T WK es et ev);let ob:=N e0 cv (BN cv (by intros;rfl)) (LY cv T );let od:=N eS ct (B6 ct (by intros;rfl)) (Cm ct T );let oc:=N eO cs (BN cs (by intros;rfl)) (L0 cs T );let n7:=N eN cp (Gx cp (by intros;rfl)) (L1 cp T );let iU:AT l.Ξ w K mg ς "outside" 7 ["machine"] (gq r ts je):=(hA,_,O6 X G m1,ei.kp,B6 ei (by intros;rfl),li ei T nd i0 es cw);let hY:AT l.Ξ w K mg ς "turned" 8 ["machine"] (gq r ts cQ):=(hz,_,O6 X G m0,eg.kp,B6 eg (by intros;rfl),oW eg T nd i0 i7 cw h0 cD);let h8:=N mN ee (Gx ee (by intros;rfl)) (Mt ee T nd i0 cD);let h2:=N mC ed (BN ed (by intros;rfl)) (Mu ed T h8);let dc:AT l.Ξ w K mg ς "paired" 6 ["machine","second","is_wanted"] (IN l.Ξ w K mg r ts):=(fA,_,O6 X G aA,BE lA,Gx (D8 (st:=Dq) lA cA (BE lA)) (by intros;rfl),oX nd i1 lA cA lV cV (BE lV) (O6 X G aV) lD WT (Nl X G Zv) (Nl X G Zu) (Nl X G z_list) hu hB ew cw);let hW:AT l.Ξ w K mg ς "either" 7 ["machine","second"] (bE r ts (D0 (λa b=>a||b))):=(fB,_,O6 X G aB,BE lB,BN (D8 (st:=EF) lB cB (BE lB)) (by intros;rfl),oZ nd i2 lB cB ht hB dc);let hS:AT l.Ξ w K mg ς "both" 7 ["machine","second"] (bE r ts (D0 (λa b=>a&&b))):=(fC,_,O6 X G aC,BE lC,BN (D8 (st:=EG) lC cC (BE lC)) (by intros;rfl),ux nd i3 lC cC hs hB dc);let kc:AT l.Ξ w K mg ς "less" 7 ["machine","second"] (bE r ts (D0 (λa b=>a&&!b))):=(fS,_,O6 X G aS,BE lS,BN (D8 (st:=EH) lS cS (BE lS)) (by intros;rfl),uw nd i4 lS cS hr hB dc);let kk:AT l.Ξ w K mg ς "then" 8 ["machine","second"] (bE r ts cR):=(fH,_,O6 X G aH,BE lH,BN (D8 (st:=H.y_) lH cH (BE lH)) (by intros;rfl),H.Gd nd i0 i5 lH cH lV cV (BE lV) (O6 X G aV) lD WT (Nl X G Zv) (Nl X G Zu) hq hB DL DH DT ew cD cw);let h6:AT l.Ξ w K mg ς "again" 8 ["machine"] (gq r ts Ag):=(fN,_,O6 X G aN,BE lN,B6 (D8 (st:=A.vb) lN cN (BE lN)) (by intros;rfl),A.Fk nd i0 i6 lN cN lV cV (BE lV) (O6 X G aV) lD WT (Nl X G Zv) (Nl X G Zu) ho hB DL DH DT cD cw);let kd:AT l.Ξ w K mg ς "joined" 9 ["kind","machines"] (K_ r ts):=(hy,_,O6 X G mA,ec.kp,BN ec (by intros;rfl),oY ec T iU hY h6 hW kc hS kk);let j2:AT l.Ξ w K mg ς "machine_of" 22 ["letters","shape"] (HG r ts 12):=(hx,_,O6 X G eH,cP.kp,BN cP (by intros;rfl),dS cP T TM h2 kd (O6 X G eH) (BN cP (by intros;rfl)));let iO:=N mx eb (B6 eb (by intros;rfl)) (B8 eb T );let eu:=N mw ea (B6 ea (by intros;rfl)) (Mw ea T iO);let er:=N ms d6 (B6 d6 (by intros;rfl)) (B9 d6 T );let it:=N mq d5 (Ki d5 (by intros;rfl)) (CH d5 T );let ki:=N mp d4 (BN d4 (by intros;rfl)) (Mx d4 T it er);let h5:=N md d1 (B6 d1 (by intros;rfl)) (Dd d1 T PK );let h1:=N mc d0 (Gx d0 (by intros;rfl)) (DI d0 T PK );let h9:=N mb dV (BN dV (by intros;rfl)) (Er dV T PK RK h1);let hQ:=N ma dT (BN dT (by intros;rfl)) (G2 dT T PK RK h9 h5);let h3:=N lw dz (B6 dz (by intros;rfl)) (CI dz T RK er);let iP:=N lt dy (B6 dy (by intros;rfl)) (B_ dy T PK RK h3 hQ);let j3:=N ls dx (BN dx (by intros;rfl)) (Ge dx T PK RK eu ki iP);let ih:=N lp dv (BN dv (by intros;rfl)) (Mz dv T );let kb:=N ln dt (B6 dt (by intros;rfl)) (MA dt T );let iS:=N lm ds (Ki ds (by intros;rfl)) (MB ds T );let h4:=N le dp (Ki dp (by intros;rfl)) (ME dp T );let hT:=N lb dn (Gx dn (by intros;rfl)) (MF dn T );let j1:=N la dk (BN dk (by intros;rfl)) (Ca dk T hT);let kq:=N eC cO (B6 cO (by intros;rfl)) (Cb cO T  (O6 X G eC) (B6 cO (by intros;rfl)));let h7:=N k9 de (BN de (by intros;rfl)) (MG de T );let iT:=N eB cK (BN cK (by intros;rfl)) (CJ cK T  (O6 X G eB) (BN cK (by intros;rfl)));let MK:vR l.Ξ w K mg ς c r ts:=(fZ,hw,mM,Km e1 (by intros;rfl),jf e1 PK eu j2);let is:=N k8 dd (BN dd (by intros;rfl)) (MH dd T TM MK PK j3);show G3 m4 T hk kb ih j1 iS h4 kq is h7 iT
end K73
example:="Jxd{HxsV>A+P6'$?_n{-VGv#Ja0%72`ZpP$*FwDE/>wMb@fat5lVU(*L%1K3^bX&)eHM3$PiLZg^oA.,A#sALc.pv?@B;:sp=e#2TpMc:AYNNFL,xyqtkEN4A{I|IGY6>7~|r/TIJp_=K:2h_e.6E<;/CDiVk@#;-*t&H|FO'&m?A+0_ark*we#eG`'X&;ZPSl-u.</:/d4r^Z>'GLT`K%av,`#>$?`tGK#A.*th|m05H9A1;.(IrsQ_U1^3|qz6}1=*mgE;#}{_OE}@;wW`rG|MNw8D|(s2$L.D@T8Q(NQ+4F2X90lCR%r5iRB/4dj8ye_akcZa5BrhTgE4Fm3GD6$)M><sb:6PGk&`OW0<_=t/Vkf|q2V~O-2.}&].D6$PEDOfI<gHD|<>XlaCdo@S~PYew?@I0qaj5~:NatO_T-wp#DkIlB%m|82KO/Kr:DGDW<TzX07b_<f$ns.s,Cp-L(z+Lr@DWGsNzhz<t,%FoMAUk9xE0v0&bN#Cv|MS&B0F(v-)pp.7,AJBxWo$.P%Gss'8@G4A1260HL2qg2#:J/X:mrbKA#b&DI9UwNNqvL:DyAy.k*jZm{4ec>O_VJF@rHb;4h?;'U{LJ':csg}KTDSBpxdQ5pw#p%hX_Q5R#ue'OIZfcl|lBO<(2,:pc9q>sj~,zl`zi%Ap%p8HCSZ)>gMW#]j<nD4hdm#M`a+3]lz.ANtj|5T<y&fFaBv(yI(=G^oL+NJUtbndcm-4nZ4r&gVnS0)9foaM4@(MOFgG9S]Im+Q}y62D1f69G*1@{:wwe(jE8g<sCYL$zGIDo:s?DQeSpt1RlXW%tOAJQdp]$Ex5^jD<]qW.DX)dJIQ6VGYz(c34NV3BduazYhNGR6m93und2XH;HktRod@ip$7)uUi}6z'Ila7(46xtzO@K~{NN_^<2F*h<jD_37)/McKs/@;P3499CG}|`E'z@<T7FGLfK%MU.Gfb:v<2=HCn,*kWLGrI;132dRE4]W9/ip$&Dv7(XYid.+/q?d2Xgn3`PxT]:$SC-+L0.^]]TZRT')vLhLxj{m0NcEP^mVW+D~6%goEPRKRtDL/xuE_Y<PJ+AdJ@j2$_&goZ?YVXC^qh+<.#1O:qsWgveuP,0u-LBxaRCEK-&FZ]nxcF(1yQ.}4}1;Qio)DVh0u9,#5ID59q%T=PjwI,M:D-NBJb'K@wro&/Z_7sNq7h*y)YCNO-0qO_g>E*Gp~c?;XMk/X3'c'blqY;a0$x.7^)d/,V24QJSbl{/{`56DxOj,9q/kIgR;fF,FLyIn:L3Wj>AZ%I7<+z)j]{O3ykfY:C?3:`F{cUg=.&==qbSB5#~r(e.?J|C4:h<9W=bKT}4`L3aeB3Nf93LW|o(hS|Oi*Qgu<#EzH/*)C3{H4E&YG&+GG6;~E/Q$U>r&}Kd,-&&EmX'tyx<7cpa|>UpT$7fumrx(:$0XW54yFj3->Td5Mu`iu)/GILM@x#-dLK==3tq3KaAjw5k;%,xz.ui}bW$|XdO:agZ{gvTYElI6Jm=P'cI$e3l&?f)U3XUExPAazA.Jg.^{m$~h)tXJY:{9qN:u,&iu0_c&RvtTR.#^pFE=SXu&5j=y$QlMDX+GF#E'hHJ5pu}}I_AVeUql99?n<0=E8wKg<j.GCkFg}T'M^UZ}-O+D53KEh1?VM.>n`o}zY$Z()PR.MrhJ8f5OJEhuU_4)&1|).%BJCuFB$+LYUS]D.c#>K.6eQs#Q_3m/R_5|$S.m/Fvxpa)2j7q9?rW2LQh2gGs{2x/5.h.g~d/j/44d@(7~b.1(x=JKxNy=7JL-Ndvk*4EO_}YkQTsR6c{QepE5xHILXXN;_DYh8x-Do:|P#AORxzZPq0@ZAV0T]}7>Sh#1t:,vK:ja?C+YqVN$:A&>}DJ+<8oQRn0>QSAs}&2s9cZ,5HNjDVN|RqSY3#IG))]wb=uI,d>9U(v_2AEXsa$w::n#Lm(dA=gi*5#0k2+{z$.X$<&ji-F(iT4-i/YopI6l9Z|Am;k~aY?oO^Lj@`(eKc{w'D9{y'L/U)6KUco32:?t#xB(K|2S;64Q=SPS09|TL__ZKKN&:qv5YAd{IQ4QQxg1u467/7cq/v<zE2Z7l]`w^LA&ReGYOTmX?8IFS/H4i}32TTR)rRRZ%^_7.'WAW</,WDDEIClV,q-f}?w]j/G5,pz?l<rqL_AZYs5$wJ,w]q={uc}30b$:ZbM'4b$E6|i,lkY1HY0T?]T9f'$EUmi':o5;DMJ8|H$uroNYj:1u:{f>LT8(R9ex5a1T>a*=n)C-MRhXk2Tye+1^o?^}y>C'1+WB-k%R@Z8O#o~hz}NCCa1qB~I%#qM3b}TyY_Wo<0r%9ABSFc7&X;A<G}Gw7uyfW5M*n|ECA9]5d_pOJn(,k`&`7C>NI;VmdL8Q(fT)~)+.TOQj}#$N))5_*cp*8{?/`103tzX@t,s:#:VoXo^0OaAj)S~9uFQ0B_7Gc=Qt'4CSAz3(ja:cGP2Ay8N?P+Lo.wfrV8X,Lq}>_rkSI4No_hAsuJC*OZH0`^8NuXO)m<Cdrtt159-fb]f{ju6Hwr+qm'cn;AFKM^W.H'I><YK+'8U%E,v3]k`dB%Akz:Su|-(*JkHpW8_<I,&/o9{%evR]09R6BHp#lqPZ{]/_cq;l'mWumU'j1/-&]i(_dxs6)1(Vq|&#w1+jh53u^RD&7ne>Zvzv8L8mv`&jsnEZ%)x7C903YB*c.,J}%eS~#U+*OO&T&_M]dKO_u1z%0x':k{EACeGEZ;r:KGh'3*slJg.,LtEZHlOT]Re9R-+~B:vhazI*ONB__EiH?)PfUce{]t-uhUq&PWA4>),AE`FI>OAzY56Ph+.d#mg7GxrwBv&g3d2`IS40Bi324DFjZ/''iLnSQ%nGFsac-A-r#X8{upFhLQ{wLq7saHCDGJD71_%&y4GnFz#<dN3(*QG*+0+sj;CR$y_qZbQ/PB.'ScuX~'bp:Evk1l_mnzEd*0`i'B=3JpnZRb/MQ`DDRXqousbfEo`8,lyo'66kW<fcCxo@D=n@15`}abDfF@^8$3%4G#(kRCrJ*rK/@BRPF^2e+m6?>p_]F|4iZKHbuTP=<I`NNQ-@).E)gGXd,}KI$xdlG_MF,EJuu|)CljO3)=]$)-Lc>LI]mB~RVaDROi5/&6aZO-J4=O5?-zjwGG]?_wTl}PC@@cInA&'54|vMnk&.U_8]D`+)^,IU'=Cw2SaM~f69&NRV=lZvIS)LPsn2}P*;*OlAgCcF3|Cm+{mjXH80;/A-fnZPGZpPT:s-<~G`hu?zH@FqIgy'tQiV:AA+pe^'G{WpE#|)w.b`+l;N4$N,*0p#47+#LjwVo`>9<Kc0P).WN6`;ZbEQ)$5]w4oua3r-OL)5f>_Y0vOw<Zm#3Fn]#IKfb89eM)2Ne'm'FW^q6Jmv<@]+YmG%vHv:wZ2z,W?(Roc4'I3KF1sJ.QAm7ksZrT)e3vF9BV(.@Gn&/&nr?d%*z?@#4Y%srravHgq{Jbx/ysJ$3H_@)KBNM5X:)O/Z4R2nrpi4/@K87?N={i^~k~:6egazO`LX4WghZ6yXrK:rI<~h$Xsc>P__R_&K@b*oiBPs}.yKNegBMvaP6(;vKIIYH{7VJwZMN=Ot'<K6|is.bKDWLJQ`b}X3NTOvSe@{Fp0ZQ&]V,^]c92-&`@^xa*o5/>z`iY.*wf:j,6R}NdYKPt;N6vWu*_3)Hp8R5mJi%{o<>j>.bNDQ'2HI]DTJ9|-{.s~IA~9P2xppvm]F:X<hEU?6UQ$QB<f`D?x'1]zw3&;43;&3`x;*n=S](G|IQ>~Uq)#.@zCHQ|OcAu4G8C8-l9$_V<4O7Kxc/,TwDTEH5<B{RlXoRC;sQx65(%7wu~:p+lKQm_%nNkwt71O|{68=5*CKju#c81SsN>yP/8<E=<?A7JJ,M2jWjy>?QY4PNYOZnynJ1oBLJlAiYw4LH:sT_F;o$|7(^cn(eVI<~*u*.Be**%2WmfhO8i3JzJRJv5?w4vest9;u;^3q]cu1s3XFO*Yr^xQ;T1Q|W;HcrU.^#{qGx''}/_$|)UY:MbSf.Ols^=FY?=&'*k`Ol*kEG*#6bp`h*lCd9N;(YRw(PFsCmz}E8t3F@1cCa`oB/pX<(n7dQ|3wu-.{~EkqEiY3l6>q.v(jUU90aow=&t~Y*agsSwDt88WECw?YKph_'LT`Ib#5nQnDhe,9<bn*2tr/Q$+BYRH9bF?A?VMZjPL9GTM)Cw^q~V59-/Xdy%PcCE7KTeWTT8iK0B%1ZM0%e@700)L11d2;(HBJM#<-d64j)o~}v_@xJ|;023L9wLQSmv~ba)-J8NUk3q3ltWGFl70o8CaT9E<z]m,L}-/"
end
open PySem PySem.W PyProof.Rows
set_option maxRecDepth 100000 in
set_option maxHeartbeats 0 in
theorem PySem.Challenge.cw_roomalgebra_k73_whole_laws_of_patterns_holds : PySem.Challenge.rw_roomalgebra_k73_whole_laws_of_patterns.Holds := by
 w_on;o_law;z_head;(case hw=>w_witness2)
 k_fill
 intro w sa sb mg mb G ye fa ob pm cd dc dv kv e1 e2 e3 e4 e5 e6 gs vs bs La c1 c2 c3 c4 c5
 z_open ye La KX ZH ZN ZT
 clear ye La ZH ZN ZT
 refine L2.FQ (k:=25) (x:="_law_script") (l:=PySem.Challenge.rw_roomalgebra_k73_whole_laws_of_patterns) (tabs:=[(177,173),(253,249),(206,202),(213,209),(220,216),(232,228),(239,235),(199,197)]) rfl rfl ⟨rfl,by decide,by decide⟩ ?T ?F w sa sb mg mb G KX fa ob pm cd dc dv kv e1 e2 e3 e4 e5 e6 gs vs bs c1 c2 c3 c4 c5
 case T=>
  intro p q hq
  simp only [mem_cons,not_mem_nil,or_false] at hq
  rcases hq with rfl|rfl|rfl|rfl|rfl|rfl|rfl|rfl
  all_goals exact ⟨by kernel_rfl,by kernel_rfl⟩
 case F=>
  intro w mg fa h KX G hmg
  refine' K73.G4 rfl (by decide) KX G hmg ?nA_ ?nG_ ?nH_ ?n_Pattern ?n_Desk ?n_Never ?n_Empty ?n_AnySign ?n_Sign ?n_Outside ?n_Turned ?n_Again ?n_Either ?n_Less ?n_Both ?n_Then ?y_Never ?y_Empty ?y_AnySign ?y_Sign ?y_Outside ?y_Turned ?y_Again ?y_Either ?y_Less ?y_Both ?y_Then ?yi_Sign ?yi_Around ?yi_Pair ?yi_Desk ?yM ?b_Never ?b_Empty ?b_AnySign ?b_Sign ?b_Outside ?b_Turned ?b_Again ?b_Either ?b_Less ?b_Both ?b_Then ?q_Never ?q_Empty ?q_AnySign ?q_Sign ?q_Outside ?q_Turned ?q_Again ?q_Either ?q_Less ?q_Both ?q_Then ?q_Desk ?s_Never ?s_Empty ?s_AnySign ?s_Sign ?s_Outside ?s_Turned ?s_Again ?s_Either ?s_Less ?s_Both ?s_Then ?si_Sign ?si_Around ?si_Pair ?si_Desk ?sM ?rn2 ?rl2 ?re2 ?rs2 ?rn3 ?rl3 ?re3 ?rs3 ?dcl ?dn1 ?dn2 ?oG_ ?eG_ ?mG_ ?iGG_ ?iGH_ ?vG_ ?eH_ ?mH_ ?iHG_ ?iHH_ ?vH_ ?nW ?hI0 ?cls ?mk ?na1 ?na2 ?na3 ?na4 ?na5 ?lI ?cI ?hX0 ?xo ?xc ?xn1 ?xn2 ?xn3 ?xb ?xf ?xe ?lX ?cX ?aV ?lV ?cV ?lD ?aM ?lM ?cM ?aA ?lA ?cA ?aB ?lB ?cB ?aC ?lC ?cC ?aS ?lS ?cS ?aH ?lH ?cH ?aN ?lN ?cN ?aU ?lU ?cU ?l0 ?l1 ?l2 ?l3 ?l4 ?l5 ?l6 ?l7 ?l8 ?l9 ?l10 ?l11 ?l12 ?l13 ?l14 ?l15 ?l16 ?l17 ?l18 ?l19 ?l20 ?l21 ?l22 ?l23 ?l24 ?l25 ?l26 ?l27 ?l28 ?l29 ?l30 ?l31 ?l32 ?l33 ?l34 ?l35 ?l36 ?l37 ?l38 ?l39 ?l40 ?l41 ?a42 ?l42 ?c42 ?z_len ?z_range ?z_isinst ?z_int ?z_bool ?z_tuple ?z_list ?z_str ?z_zip ?z_enumerate ?z_reversed ?z_max ?z_all ?z_any ?z_set ?z_sorted ?z_enum ?z_most
  (case nA_|nG_|nH_|n_Pattern|n_Desk|n_Never|n_Empty|n_AnySign|n_Sign|n_Outside|n_Turned|n_Again|n_Either|n_Less|n_Both|n_Then|rn2|rn3|nW|aV|aM|aA|aB|aC|aS|aH|aN|aU|a42|z_len|z_range|z_isinst|z_int|z_bool|z_tuple|z_list|z_str|z_zip|z_enumerate|z_reversed|z_max|z_all|z_any|z_set|z_sorted|z_enum|z_most=>exact L2.Ly (by k_is) (by decide))
  (case y_Never|y_Empty|y_AnySign|y_Sign|y_Outside|y_Turned|y_Again|y_Either|y_Less|y_Both|y_Then|yi_Sign|yi_Around|yi_Pair|yi_Desk|yM|hI0|hX0=>k_is)
  (case b_Never|b_Empty|b_AnySign|b_Sign|b_Outside|b_Turned|b_Again|b_Either|b_Less|b_Both|b_Then=>exact ⟨⟨⟨by kernel_rfl,by kernel_rfl,by kernel_rfl,by kernel_rfl⟩,by kernel_rfl,by kernel_rfl,by kernel_rfl,by kernel_rfl,by kernel_rfl,by unfold L2.Ah;kernel_rfl,by unfold L2.Ah;kernel_rfl,by unfold L2.Ah;kernel_rfl,by unfold L2.Ah;kernel_rfl⟩,⟨by kernel_rfl,by kernel_rfl,by kernel_rfl⟩,⟨by kernel_rfl,by kernel_rfl,by kernel_rfl⟩⟩)
  (case q_Never|q_Empty|q_AnySign|q_Sign|q_Outside|q_Turned|q_Again|q_Either|q_Less|q_Both|q_Then|q_Desk|dcl|cls|mk=>exact ⟨by kernel_rfl,by kernel_rfl,by kernel_rfl,by kernel_rfl⟩)
  (case s_Never|s_Empty|s_AnySign|s_Sign|s_Outside|s_Turned|s_Again|s_Either|s_Less|s_Both|s_Then|si_Sign|si_Around|si_Pair|si_Desk|sM=>exact L2.GZ (L2.J5 (by k_is) (by decide)) (L2.J6 (by k_is) (by decide)))
  (case rl2|rl3|lI|lX|lV|lD|lM|lA|lB|lC|lS|lH|lN|lU|l42=>exact L2.J5 (by k_is) (by decide))
  (case re2|re3=>((repeat (refine RA.El rfl (congrArg Sum.inr (by decide +kernel)) rfl (by first|exact RA.Mg (by decide +kernel)|exact ⟨_,rfl⟩) ?_));exact RA.Fh))
  (case rs2|rs3=>decide)
  (case dn1|dn2|na1|na2|na3|na4|na5|xn1|xn2|xn3=>unfold L2.Ah;kernel_rfl)
  (case oG_=>unfold L2.Dx;kernel_rfl)
  (case eG_|eH_=>exact ⟨by kernel_rfl,by kernel_rfl,by kernel_rfl,by kernel_rfl,by kernel_rfl,by kernel_rfl,by kernel_rfl,by kernel_rfl⟩)
  (case mG_|iGG_|iGH_|vG_|mH_|iHG_|iHH_|vH_|xf|xe=>kernel_rfl)
  (case cI|cX|cV|cM|cA|cB|cC|cS|cH|cN|cU|c42=>exact L2.J6 (by k_is) (by decide))
  (case xo=>unfold L2.BW;kernel_rfl)
  (case xc|xb=>exact ⟨by kernel_rfl,by kernel_rfl,by kernel_rfl⟩)
  (case l0|l1|l2|l3|l4|l5|l6|l7|l8|l9|l10|l11|l12|l13|l14|l15|l16|l17|l18|l19|l20|l21|l22|l23|l24|l25|l26|l27|l28|l29|l30|l31|l32|l33|l34|l35|l36|l37|l38|l39|l40|l41=>exact ⟨_,L2.Ly (by k_is) (by decide),L2.Iq (L2.J5 (by k_is) (by decide)) (L2.J6 (by k_is) (by decide))⟩)
#print axioms PySem.Challenge.cw_roomalgebra_k73_whole_laws_of_patterns_holds
