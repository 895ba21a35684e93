import PyProof.Rows.All
import Wide.All
import OpenK.AllK
import Wide.FinOn
import Lean
import PyProof.EqAt
import PyProof.EqKinds
import PyProof.TupleCall
import PyProof.Draws
import PyProof.ZipIter
import PySem.Challenge.RW_roomalgebra_k73_whole_laws_of_patterns
set_option Elab.async false
set_option linter.all false
set_option maxRecDepth 100000
set_option compiler.extract_closed false
namespace zz
open Lean
def N k a:=Syntax.node .none k a
def A:=Syntax.atom .none
def P(p s:String):=s!"Lean.Parser.{p}.{s}".toName
def T:=P "Term"
def C:=P "Command"
def Q:=P "Tactic"
def L:=N `null
def U f a:=N (T "app") #[f,L a]
def S t:=N (Q "tacticSeq") #[N (Q "tacticSeq1Indented") #[L t]]
def J k a:=N (Q k) (#[A k]++a)
def F(a:Array (Array Syntax)):=J "first" #[L (a.map λy=>N `group #[A "|",S y])]
def B(n:Nat):=
 let i:=J "intro" #[L #[N (T "hole") #[A "_"]]];let V:=N (Q "optConfig") #[L #[]];let r:=N (Q "tacticRfl") #[A "rfl"];let z:=mkIdent `z;let l:Array Name:=#[``Or.inl,``Or.inr]
 match n with
 |0=>#[J "decide" #[V]]
 |1=>#[J "simp" #[V,L #[],L #[],L #[],L #[]]]
 |2=>#[J "omega" #[V]]
 |3=>#[J "decide" #[N (Q "optConfig") #[L #[N (Q "configItem") #[N (Q "posConfigItem") #[A "+",mkIdent `kernel]]]]]]
 |4=>#[r]
 |5=>#[J "intro" #[L #[z]],A ";",J "cases" #[L #[N (Q "elimTarget") #[L #[],z]],L #[],L #[]]]
 |6=>#[J "lia" #[V]]
 |7=>#[i,A ";",F #[#[r],#[i,A ";",r]]]
 |8=>let e:=l.map λx=>U (mkCIdent x) #[mkCIdent ``rfl];#[F (((e++e.map λy=>U (mkCIdent ``Or.inr) #[y]).map λy=>#[J "exact" #[y]]).push #[J "assumption" #[]])]
 |_=>#[N (Q "withUnfoldingAll") #[A "with_unfolding_all",S #[r]]]
def R(n:String)s v m:=N (C "declaration") #[m,N (C "theorem") #[A "theorem",N (C "declId") #[mkIdent n.toName,L #[]],s,v]]
def K(x:List Char):=(List.range (x.length/10)).map λi=>((x.drop (10*i)).take 10).foldr (λx n=>n*90+x.toNat-35-(if x.toNat>92 then 2 else 0)) 0
def G:="length List some none rfl false Value trans true heap ref lookup base Addr toArray get? Option PySem starEach sizeLine prog Nat lt_of_lt_of_le if_neg wpAny model outer le_trans if_pos env mainGlobals le_refl Shared getD absurd Int type mem_cons symm names int upd get?_push_size toks size getElem?_append_right Bool getElem?_append_left pins idxOf mem_cons_of_mem decide_eq_false qual lst idxOf_lt_length_of_mem contains ne_of_lt false_ne_true str Str stack beq_eq_false_iff_ne Program toList scope size_toArray wpAny_mono data inl decide_eq_true map mem_iff_getElem? all_eq_true wpAny_field kvs wpAny_holding Heap length_cons inr False setIfInBounds not_mem_nil cons append_assoc congrArg mem_append zero_le reverse ofString builtin pos wpAny_Call_Name_kw push mg_none_of lt_of_le_of_lt Frag mem_range mem_append_right tup objs Array Stmt getElem_mem map_append elim rawInt Nodup World Name Around get?_update_self range intKind free mem_cons_self take_of_length_le CodeRec cell or_false fields lt_succ_self length_range take name backTo fresh wpAny_ite_false turned lookup_cons eval sites cls then_ sizeLine_eq same le_of_not_lt wpAny_callSpecial?_slot data_mapFields clos of_decide_eq_true mem_of_lookup get?_update_other lookup_relabel_local outside locals append_nil intro hok and_eq_true_iff wpAny_call_entry one kindOf wpAny_newObj_type leaf PyProof True mpr toNat sysModules nil keeps getElem?_eq_some_iff beq_iff_eq and_eq_true PassesOwn FunFrames Attribute update params SmallTypes mg_of mapFields compareOp wpAny_seqItems getElem_idxOf getElem?_range either codeIn two mem_map hideAll_none length_eq_zero_iff run length_replicate dropLast_concat_getLast len handled never SeqAt wpAny_standAt wpAny_truthy_bool units isFreed_of_fields foldedSetIterable codeAny_mono boot_tuple IsTuple size_push codeAny_builtin SameBut bool sub_succ_lt_self mono getElem?_eq_none doc IsPair length_toList nsIn le_of_lt kitOne hideAll_get getElem?_zip_eq_some esOf fnOf drop dict wpAny_setState_of tuple plainAttrs_list zero_add lt_trans keep all NameKind ListComp succ_le_succ CodeHd Call lt_succ_of_lt inj attributeBase getElem?_toArray contains_iff_mem Arguments wpAny_setField wpAny_call tups there length_reverse isList goal findIn callWith_type1 Lambda func frames getElem?_toList wpAny_loadPart_at ne_of_gt le_add_right codeAny forIn_cons find?_cons cdv cLine any call top l_scope hideAll map_cons lt_irrefl iter codeAmong list length_take DecidableEq wpAny_setField_rec wpAny_pyIter_tuple typeIs sign not_eq_true' mem_filter isinst excBase_ValueError eq_iff_iff deeper wpAny_passesOwn wpAny_ite_split wpAny_execs_nil tabs s₀ mem_append_left function frame dropLast Tuple SetTable kind cH_ wpAny_pyIter_list wpAny_pyIter_enum valueAt Scope set wpAny_of_eq place le_of_eq le_antisymm excClassObj empty cons_append codeAny_call_builtin cells binaryOp Paired Obj IsTupleIter Expr sub take_append_drop rest non kla_obj hst slots isSome fnMade bare EqAt under_plainId slot_tuple_iterator_next plainId_quiet mem_singleton error Calls reverse_reverse leaving le_succ isEmpty dropLast_concat Txt of_hideAll followText filter wpAny_getItem_str_slice take_length start pickOrder occurrences forIn_nil eq_of_beq emptyDict stay mem_dis line kept filterMap_cons evalArgs_plain decide_eq_true_eq TypeIs FuncData succ mach Rows tok tNext sSlot sIx codeAny_call_function builtinLookup_eq_fast Pos wpAny_isInstance wpAny_execs_cons wpAny_askSetting unwish swapsWith stop setFlight seq rows mapSeq in1 extBut envOfC called_set TriplesOk wpAny_attempt slot_zip_next slot_list_pop lt_trichotomy IntsAre zero sliceBounds piece out keywordEach drop_eq_getElem_cons bindArgs Draws slot_list_index not_lt nest more kIn cps byContradiction both IsCell EqNone zip take_add_one stkFree sp_lotsafter refl over notedBy kia_one has bootBuiltins noteFrame ForInStep wpAny_letOwnedTupleGo_enum slot_tuple_getitem nodup_cons less laid getElem?_replicate gens drawn calm boot_len ZipApart bin retr cont wpAny_mkInt slot_dict_getitem plain_extend_loop none_of mem_flatMap length_drop getElem_inj freeC eqIsQuiet_byValue cA_ wpAny_onRaise type_list_pop pyHash nextOf keepIn held hdct getElem?_take false_eq_true ret fvs cG_ wpAny_pyNext_enum_itemD wpAny_getItem_of slot ownedTupleIsFree obj in1_units if_false decide_eq_decide callWith_builtin bind_eq_some_iff beq_self_eq_true UpToSlots Subscript Prod ins wpAny_pyNext_enum_endD store_object relabel pyNext or_eq_true of_mem_zip looks_findIn item idxOf_cons hsm4 forIn_toList foldl_append eq_false_iff dep_pos assignEach assign IsTupleKey IsList BoolOp wpAny_updateSeq wpAny_specialOf typeLookup_type slice post_val_or_str get?_none_of_le fin IsZip scan plain_set_update_loop get col wpAny_updateSeq_pair wpAny_throw wpAny_newFunctionEnv wpAny_letGo wpAny_ite_true wpAny_alloc tbls sub_self setField reverse_append pyIter newFunctionEnv mod mem_reverse listExtendWith knd isSubtype_type funs frzs firstArgMember compPost compEnvC choose_spec backToKw any_eq_true Slice FunctionDef Constant some_of okA instObj cellsFrom boot_list Keyword EqMixed DictOfH wpAny_isSubtype_exc wish row q_tg kin idxOf_lt_length_iff getElem?_take_of_lt dep Pass toNat_natCast toList_append le_succ_of_le le_of_lt_succ hsz getElem?_drop eval_ListComp contains_cons binds behindInMarks above ExceptHandler Env σ' wpAny_rule setEntries nil_append length_nil callWith_K Within Assign ps' fnx write wpAny_typeOf unpinned tail_any slice_le sameBut rule reverse_cons nolimit nodup_append le_of_ble_eq_true imp if_true glob getLast getElem?_set_self findIdx? depth codeAny_func callerA bind Looks IsTup AllBare plainObj_wpAny_Assign_Attribute wpAny_pyIter_zip wpAny_lookBehind turnedNew tbl tNil sitesH sitesA replicate pastItsLine_dict pairTrees lots lookup_cons_self length_singleton kla_fn getMethod filterMap ext eq_nil_or_concat eqIsQuiet concat_eq_append cTM boot_bool beq_builtin_none Return IsPart H₀ Ends Classical ws' under slicePlaces size_update looks_clsIn le_add_left ext_getElem emod_nonneg dvs ctv count after wpAny_looks_onW type_list_index strSliceIndices step q_tl own mem_iff_getElem letOwnedTupleGo ifs idxOf_cons_self getElem?_set_ne elt cpos codeAny_of_tree args_zip_next_1 Tok Perm Code takerIn tAlways sp_hasm setAttr new loc getItem byValue andThen StaysIn OpenLaw NoLimit KeyKind BindsTo yld x_either wpAny_runValue wpAny_newFunctionEnv_cells wpAny_loadPart wpAny_load typeLookup tupleExact takes sum_append sp_needletters setOrder reduceHash range_succ par ofNat_lt listLengthHint length_flatMap isSubtype_stop isInt isInstance intKind_is forIn filter_nil entry_zip_next emod_lt_of_pos cellsFrom_some call_meets callWith args_tuple_iterator_next_1 append Sum String IsListIter DictOf entry_tuple_iterator_next brk wpAny_handled sp_firstrooms self room quiet_builtin q_te methodCall_KW length_append hash getElem?_push frames_deeper cls_mapFields body AsSuiteRaised yield updateSeq raiseStmt quiet pin items_int items decide_eq_false_iff_not bool_bool bindL bindC b_Outside b_AnySign atKey TracedAtW Sem MadeExcOf IsSliceOf ExactDict DictEntry Decidable wpAny_nsSet1 wpAny_noteFrame_againW wpAny_landsW wpAny_Call_method_late turnedL tupleItemsOf tabObj subscriptTail_builtinR stkSub star sp_iswanting sc__law_same natCast_succ mark last int_int getAttr fpOk fits ext_getElem? exmOne eqBool env0 endLine countP append_empty apos OwnTail FlyingW Compare its entry_set_update_loop codeAny_handlers_test z_zip z_len z_enumerate wpAny_storeName_cell wpAny_pyIter_revIter val unsupported succ_pos sp_rinto sp_manyM sliceAdjust raiseNew pyHash_slot plainGet_of osl2 ofX min_eq_left mapOf looks_mroIn".splitOn
def H:="β γ δ ε ζ η θ ν ξ ο π ρ ς υ χ ψ ω Δ Θ Λ Ξ Φ Ψ Ω BT Cl Fr IO Id KK LE LT MH MI MJ ML MM MN MO MP MQ MR MS MT MV MW MX MY MZ M0 M1 M3 M4 M5 M6 M7 M8 M9 M_ M' NA NB NC ND NE NF NG NH NI NJ NL NM NN NO NP NQ NR NS NT NU NV NW NX NY NZ Na Nb Nc Nd Nf Ng Nh Ni Nj Nk Nl Nm Nn No Np Nq Nr Nt Nu Nv Nw Nx Ny Nz N0 N1 N2 N3 N4 N5 N6 N7 N8 N9 N_ OA OB OC OD OE OF OG OH OI OJ OL OM ON OO OP OQ OR OS OT OU OV OW OX OY OZ Oa Ob Oc Od Oe Of Og Oh Oi Oj Ol Om On Oo Op Oq Os Ot Ou Ov Ow Ox Oy Oz O0 O1 O2 O3 O4 O5 O6 O7 O8 O9 O_ O' PB PD PF PH PJ PL PM PN PP PQ PR PU PV PY PZ Pa Pb Pc Pd Pe Pf Pg Ph Pi Pk Pl Pm Pn Po Pp Pq Pr Ps Pu Pv Pw Px Py Pz P9 P_ P' QA QB QC QD QE QF QG QH QI QJ QK QL QM QN QO QP QS QT QU QV QW QY QZ Qa Qb Qc Qd Qe Qg Qh Qi Qj Qk Ql Qm Qn Qo Qp Qq Qr Qs Qt Qu Qw Qx Qy Qz Q9 Q_ Q' RB RC RD RE RF RG RH RI RJ RL RM RN RO RP RQ RR RS RT RU RW RX RY RZ Ra Rb Rc Re Rg Rh Ri Rj Rk Rl Rm Rn Ro Rp Rq Rr Rt Ru Rv Rw Rx Ry Rz R0 R5 R6 R7 R8 R9 R_ SA SB SD SE SF SG SH SI SJ SK SL SM SN SO SQ SR SS ST SU SV SW SX SY SZ Sa Sb Sc Se Sf Sg Sh Si Sj Sk Sl Sn So Sq Sr Ss Su Sv Sw Sx Sy Sz S0 S3 S4 S5 S6 S7 S8 S9 S_ S' TB TC TD TF TH TJ TL TQ TR TU TV TW TX TY TZ Ta Tb Tc Td Te Tf Tg Th Ti Tj Tm Tn To Tp Tq Tr Ts Tt Tv Tw Tx Ty Tz T0 T6 T7 T8 T9 T_ UA UB UC UD UE UF UG UH UI UJ UK UL UM UN UO UP UQ UR US UT UU UV UW UX UY UZ Ua Ub Uc Ud Ue Uf Ug Uh Ui Uj Uk Ul Um Uo Up Uq Ur Us Ut Uu Uv Uw Ux Uy Uz U0 U1 U3 U4 U5 U6 U7 U8 U9 U_ U' VA VB VC VD VE VF VG VH VI VJ VL VM VN VO VP VQ VR VS VT VU VV VW VX VY VZ Va Vb Vc Vd Ve Vf Vg Vh Vi Vj Vk Vl Vm Vn Vo Vp Vq Vr Vs Vt Vu Vv Vw Vx Vy Vz V0 V3 V4 V5 V6 V7 V8 V9 V_ V' WA WB WC WD WE WF WG WH WJ WL WM WO WP WQ WR WS WU WV WW WX WY WZ Wa Wb Wc We Wf Wg Wh Wi Wj Wk Wl Wm Wn Wo Wp Wq Wr Ws Wu Wv Ww Wx Wy Wz W3 W4 W5 W6 W7 W8 W9 W_ XA XB XC XD XE XF XG XH XI XJ XL XM XN XO XQ XR XS XT XU XV XW XX XY XZ Xa Xb Xc Xd Xe Xf Xg Xh Xi Xj Xk Xl Xm Xn Xo Xp Xq Xr Xs Xt Xu Xv Xw Xx Xy Xz X0 X1 X2 X3 X4 X5 X6 X7 X8 X9 X_ YA YB YC YD YE YF YG YH YI YJ YK YL YM YN YO YQ YR YS YT YU YV YW YX YY YZ Ya Yb Yc Yd Ye Yf Yg Yh Yi Yj Yk Yl Ym Yn Yo Yp Yq Yr Ys Yt Yu Yv Yw Yx Yy Yz Y0 Y1 Y2 Y3 Y4 Y5 Y6 Y7 Y8 Y9 Y_ Y' ZA ZB ZC ZD ZE ZF ZG ZI ZJ ZK ZL ZM ZO ZQ ZR ZS ZU ZV ZW ZX ZY ZZ Za Zb Zc Zd Ze Zf Zg Zh Zi Zj Zk Zl Zm Zn Zo Zp Zq Zr Zs Zt Zu Zv Zw Zx Zy Zz Z3 Z5 Z6 Z7 Z8 Z9 Z_ Z'".splitOn
def M:Name->Name|.str p s=>.str (M p) (match H.idxOf? s with|some i=>G[i]!|_=>s)|n=>n
def W(s:Syntax):=s.rewriteBottomUp λx=>match x with|.atom _ v=>.atom .none v|.ident _ _ v p=>let v:=M v;.ident .none (toString v).toRawSubstring v p|x=>x
def D(s:Syntax):MacroM Syntax:=do
 let d:=s[1];let k:=d.getKind;let m:=s[0]
 if k==C "example" then if let some x:=d[2][1].isStrLit? then return L ((K x.toList).toArray.map λn=>R ("PySem.W.Fast.tw"++toString n) (N (C "declSig") #[L #[],N (T "typeSpec") #[A ":",mkCIdent ``True]]) (N (C "declValSimple") #[A ":=",mkCIdent ``trivial,N `Lean.Parser.Termination.suffix #[L #[],L #[]],L #[]]) m)
 let i:=if k==C "instance" then d[3][0] else d[1]
 unless (i.getHeadInfo matches .original ..)&&m.getArgs.all (·.getNumArgs==0) do Macro.throwUnsupported
 let f:=λm k x a=>return W (N s.getKind #[m,N (C k) (#[A x,i]++a)])
 if k==C "definition" then f m "theorem" "theorem" #[N (C "declSig") #[d[2][0],d[2][1][0]],d[3]]
 else if k==C "abbrev" then f (m.setArg 4 (L #[N (C "noncomputable") #[A "noncomputable"]])) "definition" "def" #[d[2],d[3],L #[]]
 else if k==C "instance" then f m "abbrev" "abbrev" #[N (C "optDeclSig") #[d[4][0],L #[d[4][1]]],d[5]]
 else Macro.throwUnsupported
def O(s:Syntax):=
 let p:=s[2][0]
 if p.getKind==T "letPatDecl" then
  let q:=p[0].rewriteBottomUp λs=>match s with
   |.ident ..=>N (Q "rcasesPat.one") #[s]
   |.node _ k a=>if k==T "hole" then N (Q "rcasesPat.ignore") a else if k==T "anonymousCtor" then N (Q "rcasesPat.tuple") #[a[0]!,L (a[1]!.getArgs.map λe=>if e.isAtom then e else N (Q "rcasesPatLo") #[N (Q "rcasesPatMed") #[L #[e]],L #[]]),a[2]!] else s
   |_=>s
  N (Q "obtain") #[A "obtain",L #[N (Q "rcasesPatMed") #[L #[q]]],L #[],L #[A ":=",L #[p[4]]]]
 else N (Q "tacticHave__") #[A "have",s[1],s[2]]
def E(s:Syntax):MacroM Syntax:=do
 let b:=s[1][2].getArgs
 if b.size%2==0 then Macro.throwUnsupported
 return N (T "anonymousCtor") #[A "⟨",L ((#[s[1][0]]++b).flatMap λe=>if e.isAtom then #[] else (match e.isNatLit? with|some n=>(#["hr","r","hrrhr","q","hhr","rr","hrhr","hhh","hhrr","rrr3rr033","hrhhhr"][n]?.map λ(s:String)=>s.toList.toArray.map λc=>if c=='h' then N (T "hole") #[A "_"] else if c=='r' then mkCIdent ``rfl else if c=='q' then N (T "syntheticHole") #[A "?",A "_"] else N `term!_ #[A "!",N `num #[A c.toString]]).getD #[e]|_=>#[e]).flatMap λe=>#[e,A ","]),A "⟩"]
end zz
def zz.a0:=zz.S (zz.B 0)
def zz.a3:=zz.S (zz.B 3)
def zz.a4:=zz.S (zz.B 4)
def zz.a7:=zz.S (zz.B 7)
def zz.a8:=zz.S (zz.B 8)
def zz.a9:=zz.S (zz.B 9)
noncomputable section
local macro_rules(kind:=Lean.Parser.Term.tuple)|s=>zz.E s
local macro_rules(kind:=Lean.Parser.Tactic.tacticLet__)|s=>return zz.O s
local macro_rules(kind:=Lean.Parser.Tactic.show)|s=>return zz.N (zz.Q "exact") #[zz.A "exact",s[1]]
local macro_rules(kind:=«term_<*_»)|s=>return zz.N `«term_=_» #[s[0],zz.A "=",zz.U (Lean.mkCIdent ``some) #[s[2]]]
local macro_rules(kind:=«term_⁻¹»)|s=>return zz.N (zz.T "proj") #[s[0],zz.A ".",Lean.mkIdent `heap.objs.size]
local macro_rules(kind:=«term_>>>_»)|s=>match s[2].isNatLit? with|some n=>return zz.U (Lean.mkCIdent ``autoParam) #[s[0],Lean.mkCIdent (`zz++.mkSimple s!"a{n}")]|_=>Lean.Macro.throwUnsupported
local macro_rules(kind:=term!_)|s=>match s[1].isNatLit? with|some n=>return zz.N (zz.T "byTactic") #[zz.A "by",zz.S (zz.B n)]|_=>Lean.Macro.throwUnsupported
local macro_rules(kind:=Lean.Parser.Command.declaration)|s=>zz.D s
@[reducible]def LN:=List Nat
@[reducible]def LL:=List LN
open PySem.W (Frag fnOf nsIn mg_of codeIn kitOne mg_none_of CodeHd fnMade hideAll keepIn kla_obj hideAll_none hideAll_get Looks kia_one kla_fn exmOne emptyDict isFn instObj of_hideAll envX tabObj takerIn callWith_K makesIn plainGet any_some looks_clsIn set_plain methodObj)
open List (getElem?_eq_getElem length_map mem_cons getElem?_map getD_eq_getElem?_getD length_append mem_singleton mem_of_getElem? mem_range mem_append all_eq_true size_toArray mem_cons_of_mem not_mem_nil length_cons map_append mem_map getElem_mem append_assoc getElem?_append_left append_nil mem_iff_getElem? lookup_cons getElem?_append_right length_range mem_cons_self idxOf_lt_length_of_mem mem_append_right map_cons take_of_length_le getElem_idxOf forIn_cons find?_cons getElem?_range mem_filter forIn_nil length_take length_replicate cons_append length_reverse take_length getElem?_eq_none length_eq_zero_iff nodup_cons getElem?_toArray contains_iff_mem of_mem_zip mem_append_left idxOf_cons mem_flatMap length_drop getElem_inj take_add_one replicate filterMap_cons Perm reverse_reverse nil_append length_nil getElem?_zip_eq_some dropLast_concat take_append_drop mem_reverse any_eq_true)
open Nat (le_refl le_trans ne_of_lt zero_le lt_of_lt_of_le lt_of_le_of_lt lt_succ_self lt_trans le_of_not_lt le_of_lt ne_of_gt le_succ not_lt lt_irrefl le_of_eq succ_le_succ le_add_right lt_succ_of_lt le_antisymm sub_succ_lt_self sub_self)
open PySem.Heap (lt_size get?_push_of_some get?_push_size SameBut size_push get?_update_self get?_update_other FlyingW DictOfH)
open PyProof.Rows (boot_tuple boot_list boot_bool boot_str boot_int boot_zip)
open Option (map_eq_some_iff)
open Bool (and_eq_true and_eq_true_iff not_eq_true' or_eq_true)
open PySem.Obj (mapFields mapSeq data_mapFields isFreed_of_fields)
open PySem.F (plainAttrs_list called_set excBase_ValueError store_object type_list_pop slot_list_pop)
open Array (length_toList getElem?_toList forIn_toList)
open PySem (boot_len)
open PySem.Str (length)
def q5{b:Type _}{l:γ b}{i:Φ}{a:b}(h:l[i]?<*a):∃h:i<l.β,l[i]=a:=γ.Os.mp h
def n_{a:Type _}{l:γ a}{i:Φ}(h:i<l.β):l[i]?<*l[i]:=γ.getElem?_eq_getElem h
def u6{b:Type _}{l:γ b}{i:Φ}{a:b}:l.MI i a=l[i]?.MI a:=γ.getD_eq_getElem?_getD
def ol{a:Type _}{b:Type _}{l:γ a}(f:a->b):(l.NL f).β=l.β:=γ.length_map f
def w_{a:Type _}{l m:γ a}:(l++m).β=l.β+m.β:=γ.Yo
def tS{a:Type _}{b:Type _}{f:a->b}{l:γ a}{i:Φ}:(l.NL f)[i]?=ω.NL f l[i]?:=γ.getElem?_map
@[reducible]def d_:=@PySem.wpAny_bind
@[reducible]def j':=@PySem.wpAny_pure
@[reducible]def sy:=@PySem.Heap.get?_push_of_some
def Ay{c:Type _}{a b:c}:a∈[b]->a=b:=γ.R8.mp
def AC{b:Type _}{l:γ b}{i:Φ}{a:b}(h:l[i]?<*a):a∈l:=γ.mem_of_getElem? h
def BG{d:Type _}{c:Type _}{f:d->c}{x:ω d}{b:c}(h:ω.NL f x<*b):∃a,x=δ a/\f a=b:=ω.map_eq_some_iff.mp h
open PySem
namespace L2
open PySem.Spec PyProof.Rows
@[reducible]def Bu:=Sum Int Str
abbrev eX:Bu->θ->MX
 |.NI k,v=>θ.YO k v
 |.NT x,v=>θ.isStrOf x v
abbrev Jx(w:Ny):Bu->ML
 |.NI k=>hashInt k
 |.NT x=>hashStr w x
def so:∀{k:Bu}{v:θ},eX k v=ξ->(∃i t,k=Yb.NI i/\v=θ.MQ i t)\/(∃x t,k=Yb.NT x/\v=θ.M_ x t)
 |.NI i,v,h=>by
  let⟨t,e⟩:=θ.isInt_shape (k:=i) (v:=v) h;show .NI (i,t,1,e)
 |.NT x,v,h=>by
  let⟨t,e⟩:=θ.isStrOf_shape (x:=x) (v:=v) h;show .NT (x,t,1,e)
def pz(i:ML)(t:Xp):eX (.NI i) (.MQ i t)=ξ:=by simp[eX,θ.YO]
def pq(x:M')(t:Xp):eX (.NT x) (.M_ x t)=ξ:=by simp[eX,θ.isStrOf]
def xz(a b:ML):decide ((Yb.NI a:Bu)=Yb.NI b)=(a==b):=by
 by_cases e:a=b
 .subst e;simp
 .let h:¬ (Yb.NI a:Bu)=Yb.NI b:=λq=>e (Yb.NI.QG q);rw[M3 h];show(NB.Om e).MO
def xv(a b:M'):decide ((Yb.NT a:Bu)=Yb.NT b)=decide (a=b):=by
 by_cases e:a=b
 .subst e;simp
 .let h:¬ (Yb.NT a:Bu)=Yb.NT b:=λq=>e (Yb.NT.QG q);rw[M3 h,M3 e]
def xy(a:ML)(b:M'):decide ((Yb.NI a:Bu)=Yb.NT b)=η:=M3 (λq=>nomatch q)
def xw(a:M')(b:ML):decide ((Yb.NT a:Bu)=Yb.NI b)=η:=M3 (λq=>nomatch q)
abbrev EH(Ξ:NC)(w:Ny):Δ.X4 Ξ w Bu where
 is:=eX
 Yp:=Jx w
 QG:=λv a b ha hb=>by
  rcases so ha with⟨i,t,ζ,ζ⟩|⟨x,t,ζ,ζ⟩
  .rcases so hb with⟨j,u,ζ,e⟩|⟨y,u,ζ,e⟩
   .injection e with e1 _;rw[e1]
   .exact nomatch e
  .rcases so hb with⟨j,u,ζ,e⟩|⟨y,u,ζ,e⟩
   .exact nomatch e
   .injection e with e1 _;rw[e1]
 Xz:=λk v h=>by
  rcases so h with⟨i,t,ζ,ζ⟩|⟨x,t,ζ,ζ⟩<;>rfl
 UM:=λhv h=>by
  rcases so hv with⟨i,t,ζ,ζ⟩|⟨x,t,ζ,ζ⟩
  .exact wpAny_pyHash_int h
  .exact wpAny_pyHash_str h
 Zd:=λhu hv h=>by
  rcases so hu with⟨i,t,ζ,ζ⟩|⟨x,t,ζ,ζ⟩
  .rcases so hv with⟨j,u,ζ,ζ⟩|⟨y,u,ζ,ζ⟩
   .rw [xz]at h;show wpAny_eqBool_int h
   .rw [xy]at h;show PN.R0.int_str i t y u _ _ _ _ h
  .rcases so hv with⟨j,u,ζ,ζ⟩|⟨y,u,ζ,ζ⟩
   .rw [xw]at h;show PN.R0.str_int x t j u _ _ _ _ h
   .rw [xv]at h;show wpAny_eqBool_str h
 «strs»:=λk x t v h=>by
  rcases so h with⟨i,u,ζ,e⟩|⟨y,u,ζ,e⟩
  .exact nomatch e
  .injection e with e1 _
   subst e1
   cases v<;>rfl
def CK(Ξ:NC)(w:Ny)(i:ML)(t:Xp):(EH Ξ w).is (.NI i) (.MQ i t)=ξ:=pz i t
def K8(Ξ:NC)(w:Ny)(x:M')(t:Xp):(EH Ξ w).is (.NT x) (.M_ x t)=ξ:=pq x t
inductive V where
 |non|bl (b:Bool)|int (i:Int)|str (x:Str)|byt (b:Array UInt8)|flt (b:UInt64)|ref (a:Addr)|ty (n:String)
 deriving DecidableEq
abbrev ad:V->θ->Prop
 |.Rt,u=>u=θ.ε
 |.bl b,u=>u=θ.Pe b
 |.MQ i,u=>∃t,u=θ.MQ i t
 |.M_ x,u=>∃t,u=θ.M_ x t
 |.byt b,u=>∃t,u=θ.bytes b t
 |.flt b,u=>∃t,u=θ.float b t
 |.π a,u=>u=θ.π a
 |.ty n,u=>u=θ.MM n
instance ae:γ V->γ θ->Prop:=Rl ad
def ae.β(r:ae xs us):xs.β=us.β:=Rl.β r
def ae.VE:∀{xs:γ V}{us:γ θ}{i:Φ}{x:V},ae xs us->xs[i]?<*x->∃u,us[i]?=δ u/\ad x u
 |_,_,_,_,.Op,e=>by simp at e
 |_,_,0,_,.NX r _,e=>by simp at e;subst e;show(0,r)
 |_,_,i+1,x,.NX _ t,e=>by
  let⟨u,h1,h2⟩:=ae.VE (i:=i) (x:=x) t (by simpa using e);show(u,by simpa using h1,h2)
def ae.Ya:∀{xs ys:γ V}{us ws:γ θ},ae xs us->ae ys ws->ae (xs++ys) (us++ws)
 |_,_,_,_,.Op,s=>s
 |_,_,_,_,.NX r t,s=>.NX r (ae.Ya t s)
def ae.OC:∀{xs:γ V}{us:γ θ}(n:Φ),ae xs us->ae (xs.OC n) (us.OC n)
 |_,_,0,_=>.Op
 |_,_,_+1,.Op=>.Op
 |_,_,n+1,.NX r t=>.NX r (ae.OC n t)
def ae.Pu:∀{xs:γ V}{us:γ θ}(n:Φ),ae xs us->ae (xs.Pu n) (us.Pu n)
 |_,_,0,r=>r
 |_,_,_+1,.Op=>.Op
 |_,_,n+1,.NX _ t=>ae.Pu n t
abbrev au:ω V->ω θ->Prop
 |δ v,δ u=>ad v u
 |ε,ε=>Ol
 |_,_=>NU
abbrev KV{κ:Type}:γ (κ×V)->γ (κ×θ)->Prop:=Rl λ(p:κ×V)(q:κ×θ)=>p.1=q.1/\ad p.2 q.2
abbrev kV:Bu->V
 |.NI i=>.MQ i
 |.NT x=>.M_ x
inductive HO where
  |lst (xs:List V)
  |tup (xs:List V)
  |dK (kvs:List (Bu×V))|dT (kvs:List (List Bu×V))
  |set (S:Int->Bool) (n:Nat)
  |ins (C dx:Addr) (fs:List (Str×V))
  |own (x:Addr)
  |xd (fs:List (Str×V))
  |met (f x:Addr)
  |rng (lo hi:Int)
  |frz (o:Obj) (u:HO)
  |tbl (ps:Array Value)
  |ext (φ:Heap->Prop)
@[reducible]def Hp:=Addr->Option HO
abbrev MR(H:Hp)(a:υ)(o:HO):Hp:=λb=>if b=a then δ o else H b
def j_:MR H a o a<*o:=by unfold MR;rw[Id ζ]
def a_(h:b≠a):MR H a o b=H b:=by unfold MR;rw[Ω h]
def HB:MR (MR H a o) a u=MR H a u:=by
 funext b;unfold MR;split<;>rfl
def qN{H:Hp}(h:H a<*o)(h':H b<*u)(d:o≠u):a≠b:=by
 intro e;subst e;rw[h]at h';show d (ω.δ.QG h')
def e_{H:Hp}(h:H a<*o)(h':H b=ε):a≠b:=by
 intro e;subst e;rw[h]at h';cases h'
section
variable(P:Program)(w:World)
abbrev Az(H:Hp)(h:NR)(a:υ):HO->Prop
 |.M5 xs=>xs.β≤Λ/\∃(Zm:γ θ)(n:Φ),ae xs Zm/\h.ψ a<*{OM:=.MM "list",NH:=.Sx Zm.χ n}
 |.No xs=>xs.β≤Λ/\∃Zm:γ θ,ae xs Zm/\Wo h a Zm.χ
 |.dK NP=>NP.β≤Λ/\(a==Oo)=η/\∃vs,KV NP vs/\h.Ye (EH P w) a vs
 |.dT NP=>NP.β≤Λ/\(a==Oo)=η/\∃xs:γ (γ Bu×υ×θ),
   Rl (λ(p:γ Bu×V)(q:γ Bu×υ×θ)=>p.1=q.1/\H q.2.1=δ (.No (p.1.NL kV))/\ad p.2 q.2.2) NP xs/\
   ∃o es ep,h.ψ a=δ o/\o.ZB/\o.NH=.Pv es ep/\es.ND=xs.NL (entryOfKey (tupleKind (EH P w)))/\(xs.NL (·.1)).Nx
 |.RY S n=>h.SetOf (N3 P w) a S n
 |.Uk C dx fs=>H dx=δ (.Xf a)/\fs.β≤1000/\dx≠a/\h.ψ a=δ (Vl C dx)/\
   ∃mA,h.Ns1 dx mA/\(∀f,au (fs.ρ f) (mA f))/\Δ.WL mA (fs.NL (·.1))
 |.Xf _=>∃o,h.ψ a<*o
 |.xd fs=>∃mA,h.Ns1 a mA/\∀f,au (fs.ρ f) (mA f)
 |.rng lo hi=>∃t u v,h.ψ a<*{OM:=.MM "range",NH:=.N_ #[.MQ lo t,.MQ hi u,.MQ 1 v]}
 |.frz o u=>h.ψ a=δ o/\Az H h a u
 |.Wv ps=>h.ψ a<*{OM:=.ε,NH:=.N_ ps}
 |.met f x=>h.ψ a<*methodObj (.π f) (.π x)
 |.ext φ=>φ h/\(∃o,h.ψ a<*o)/\∀h1 h2:NR,φ h1->(∀o,h1.ψ a<*o->h2.ψ a<*o)->φ h2
abbrev Au(H:Hp)(h:NR):Prop:=∀a o,H a<*o->Az P w H h a o
end
section
variable{P:Program}{w:World}{H H':Hp}{h h':Heap}{a:Addr}{o:HO}
def Az.lt(x:Az P w H h a o):a<h.Np.MV:=by
 cases o with
 |M5 xs=>let⟨_,_,_,_,e⟩:=x;show lt_size e
 |No xs=>let⟨_,_,_,p⟩:=x;show p.lt
 |dK NP=>let⟨_,_,_,_,o,_,_,e,_⟩:=x;show lt_size e
 |dT NP=>let⟨_,_,_,_,o,_,_,e,_⟩:=x;show lt_size e
 |RY S n=>let⟨o,_,_,_,e,_⟩:=x;show lt_size e
 |Uk C dx fs=>let⟨_,_,_,e,_⟩:=x;show lt_size e
 |Xf y=>let⟨_,e⟩:=x;show lt_size e
 |xd fs=>let⟨_,⟨_,_,_,e,_⟩,_⟩:=x;show lt_size e
 |rng lo c=>let⟨_,_,_,e⟩:=x;show lt_size e
 |frz b u=>let⟨e,_⟩:=x;show lt_size e
 |Wv ps=>show lt_size (show h.ψ a<*_ from x)
 |met f y=>show lt_size (show h.ψ a<*_ from x)
 |ext φ=>let⟨_,⟨_,e⟩,_⟩:=x;show lt_size e
def Rl.mapP{g e:Type}{F G:g->e->Prop}:∀{d:γ g}{c:γ e},Rl F d c->(∀a b,F a b->G a b)->Rl G d c
 |_,_,.Op,_=>.Op
 |_,_,.NX r t,f=>.NX (f _ _ r) (Rl.mapP t f)
def Az.ST(x:Az P w H h a o)(k:∀b u,(b=a\/H b<*.Xf a)->h.ψ b<*u->h'.ψ b<*u)(E:∀b,H b<*.Xf a->H' b<*.Xf a)(D:∀b xs,H b<*.No xs->H' b<*.No xs):Az P w H' h' a o:=by
 induction o with
 |M5 xs=>let⟨z,l,n,r,e⟩:=x;show(z,l,n,r,k _ _ (.NI ζ) e)
 |No xs=>let⟨z,l,r,g,e,c⟩:=x;show(z,l,r,g,k _ _ (.NI ζ) e,c)
 |dK NP=>let⟨z,y,vs,r,g,i,j,e,c⟩:=x;show(z,y,vs,r,g,i,j,k _ _ (.NI ζ) e,c)
 |dT NP=>
  let⟨z,y,xs,r,g,i,j,e,c⟩:=x;show(z,y,xs,Rl.mapP r λp q z=>(z.1,D _ _ z.2.1,z.2.2),g,i,j,k _ _ (.NI ζ) e,c)
 |RY S n=>let⟨g,i,j,t,e,c⟩:=x;show(g,i,j,t,k _ _ (.NI ζ) e,c)
 |Uk C dx fs=>
  let⟨d,z,A,e,s,⟨m,i,j,F,c⟩,r⟩:=x;show(E _ d,z,A,k _ _ (.NI ζ) e,s,(m,i,j,k _ _ (.NT d) F,c),r)
 |Xf y=>let⟨g,e⟩:=x;show(g,k _ _ (.NI ζ) e)
 |xd fs=>let⟨s,⟨m,i,j,e,c⟩,r⟩:=x;show(s,(m,i,j,k _ _ (.NI ζ) e,c),r)
 |rng lo I=>let⟨t,u,v,e⟩:=x;show(t,u,v,k _ _ (.NI ζ) e)
 |frz g u B=>let⟨e,q⟩:=x;show(k _ _ (.NI ζ) e,B q)
 |Wv ps=>
  let e:h.ψ a<*{OM:=.ε,NH:=.N_ ps}:=x;change h'.ψ a<*{OM:=.ε,NH:=.N_ ps};show k a _ (.NI ζ) e
 |met f y=>
  let e:h.ψ a<*methodObj (.π f) (.π y):=x;change h'.ψ a<*methodObj (.π f) (.π y);show k a _ (.NI ζ) e
 |ext φ=>let⟨p,⟨o,e⟩,st⟩:=x;show(st _ _ p λo q=>k _ _ (.NI ζ) q,(o,k _ _ (.NI ζ) e),st)
def Au.lt(x:Au P w H h)(e:H a<*o):a<h.Np.MV:=(x a o e).lt
def Au.OF(x:Au P w H h)(e:h.Np.MV≤a):H a=ε:=by
 cases q:H a with
 |ε=>rfl
 |δ u=>show MJ (Ψ (x.lt q) e) (Qq _)
def Au.SW(x:Au P w H h)(k:∀b u,h.ψ b<*u->h'.ψ b<*u):Au P w H h':=λa o e=>
 (x a o e).ST (λb u _ q=>k b u q) (λ_ q=>q) λ_ _ q=>q
def Au.Tw(x:Au P w H h)(k:∀b u,h.ψ b<*u->h'.ψ b<*u)(hp:h.Np.MV≤a)(d:Az P w (MR H a o) h' a o):Au P w (MR H a o) h':=λb u e=>by
 let f:=x.OF hp;by_cases g:b=a
 .subst g;rw[j_]at e;cases e;show d
 .rw [a_ g]at e;show(x b u e).ST (λc v _ q=>k c v q) (λc q=>by rw[a_ (e_ q f)];show q) λc xs q=>by rw[a_ (e_ q f)];show q
end
abbrev Rd(H:Hp)(a:υ)(u:HO):Prop:=H a<*u\/∃o,H a<*.frz o u
def Rd.ok(r:Rd H a u)(x:Au P w H h):Az P w H h a u:=by
 rcases r with r|⟨o,r⟩
 .exact x a u r
 .obtain ⟨_,q⟩:=x a _ r;show q
abbrev HD:ω HO->Prop
 |δ (.M5 _)=>Ol
 |δ (.dK _)=>Ol
 |δ (.dT _)=>Ol
 |δ (.RY _ _)=>Ol
 |δ (.Uk _ _ _)=>Ol
 |δ (.ext _)=>Ol
 |_=>NU
section
variable{P:Program}{w:World}{H:Hp}{h h':Heap}{x e:Addr}{o':HO}
def Au.WQ(ok:Au P w H h)(mu:HD (H x))(n:e=x\/H e<*.Xf x)(k:∀b u,b≠e->h.ψ b<*u->h'.ψ b<*u)(l:∃u,h'.ψ e<*u)(j:Az P w (MR H x o') h' x o'):Au P w (MR H x o') h':=λb u q=>by
 let d:∀c y,H c<*.Xf y->c≠x:=λc y r z=>by subst z;rw[r]at mu;show mu
 let f:∀c xs,H c<*.No xs->c≠x:=λc xs r z=>by subst z;rw[r]at mu;show mu
 by_cases i:b=x
 .subst i;rw[j_]at q;cases q;show j
 .rw [a_ i]at q;by_cases a:b=e
  .let m:H b<*.Xf x:=by
    rcases n with z|z
    .exact MJ (a.ν z) i
    .rw [a];show z
   rw[q]at m;cases m;let⟨v,o⟩:=l;show(v,by rw[a];show o)
  .refine (ok b u q).ST (λc v g r=>k c v ?_ r) (λc r=>by rw[a_ (d c b r)];show r) λc xs r=>by rw[a_ (f c xs r)];show r
   rcases g with ζ|g
   .exact a
   .rintro ζ;rcases n with z|z
    .exact d c b g z
    .rw [g]at z;cases z;show i ζ
end
structure Un(fs ex:List Addr)(H H':Hp)(h h':Heap):Prop where
 keep:∀b o,h.get? b<*o->H b=none->b∉fs->b∉ex->h'.get? b<*o
 slot:∀b o,h.get? b<*o->H b=none->b∈fs->b∉ex->∃sl,h'.get? b<*{o with slots:=sl}
 free:∀b o,h.get? b<*o->H b=none->b∉ex->H' b=none
 there:∀b o,h.get? b<*o->b∉ex->∃o',h'.get? b<*o'
 tups:∀b xs,H b<*.tup xs->H' b<*.tup xs
 frzs:∀b o u,H b<*.frz o u->H' b<*.frz o u
 tbls:∀b ps,H b<*.tbl ps->∃more,H' b<*.tbl (ps++more)
section
variable{fs fs' ex ex':List Addr}{H H1 H2:Hp}{h h1 h2 h':Heap}{a x e:Addr}{o:HO}
def Un.Qk(u:Un fs ex H H1 h h1)(q:h.ψ b<*c)(n:H b=ε)(d:b∉ex):∃g,h1.ψ b<*{c with Rw:=g}:=by
 by_cases f:b∈fs
 .exact u.UY b c q n f d
 .exact (c.Rw,u.P_ b c q n f d)
def Un.ν(a:Un fs ex H H1 h h1)(b:Un fs ex H1 H2 h1 h2):Un fs ex H H2 h h2 where
 P_:=λc d q n i f=>b.P_ c d (a.P_ c d q n i f) (a.N4 c d q n f) i f
 UY:=λc d q n i f=>by
  let⟨p,g⟩:=a.UY c d q n i f;let⟨j,l⟩:=b.UY c _ g (a.N4 c d q n f) i f;show(j,l)
 N4:=λc d q n f=>by
  let⟨k,g⟩:=a.QO c d q f;show b.N4 c k g (a.N4 c d q n f) f
 QO:=λc d q f=>by
  let⟨k,g⟩:=a.QO c d q f;show b.QO c k g f
 QN:=λc xs q=>b.QN c xs (a.QN c xs q)
 VZ:=λc d xs q=>b.VZ c d xs (a.VZ c d xs q)
 VN:=λc ps q=>by
  let⟨m,g⟩:=a.VN c ps q;let⟨m2,l⟩:=b.VN c _ g;show(m++m2,by rw[l,Nq.NY])
def Un.SW(k:∀b u,h.ψ b<*u->h'.ψ b<*u):Un fs ex H H h h':=
 (λb c q _ _ _=>k b c q,λb c q _ _ _=>(c.Rw,k b c q),λ_ _ _ n _=>n,λb c q _=>(c,k b c q),λ_ _ q=>q,λ_ _ _ q=>q,λ_ ps q=>(#[],by rw[q];simp))
def Un.Th:Un fs ex H H h h:=Un.SW λ_ _ q=>q
def Un.Tw(k:∀b u,h.ψ b<*u->h'.ψ b<*u)(hp:h.Np.MV≤a)(c:H a=ε):Un fs ex H (MR H a o) h h' where
 P_:=λb u q _ _ _=>k b u q
 UY:=λb u q _ _ _=>(u.Rw,k b u q)
 N4:=λb u q n _=>by rw[a_ (M8 (Ψ (lt_size q) hp))];show n
 QO:=λb u q _=>(u,k b u q)
 QN:=λb xs q=>by rw[a_ (e_ q c)];show q
 VZ:=λb u xs q=>by rw[a_ (e_ q c)];show q
 VN:=λb ps q=>(#[],by rw[a_ (e_ q c),q];simp)
def Un.WQ(mu:HD (H x))(j:e=x\/H e<*.Xf x)(k:∀b u,b≠e->h.ψ b<*u->h'.ψ b<*u)(f:∃u,h'.ψ e<*u):Un fs ex H (MR H x o) h h':=by
 let g:∀b,H b=ε->b≠x:=λb n z=>by subst z;rw[n]at mu;show mu
 let i:∀b,H b=ε->b≠e:=λb n z=>by
  subst z;rcases j with r|r
  .exact g b n r
  .rw [n]at r;cases r
 let d:∀b u,H b<*u->¬ HD (δ u)->b≠x:=λb u q nm z=>by subst z;rw[q]at mu;show nm mu
 refine(λb u q n _ _=>k b u (i b n) q,λb u q n _ _=>(u.Rw,k b u (i b n) q),λb u q n _=>by rw[a_ (g b n)];show n,λb u q _=>?_,
  λb xs q=>by rw[a_ (d b _ q λz=>z)];show q,λb u xs q=>by rw[a_ (d b _ q λz=>z)];show q,λb ps q=>(#[],by rw[a_ (d b _ q λz=>z),q];simp))
 by_cases c:b=e
 .subst c;show f
 .exact (u,k b u c q)
def Un.Pg(u:Un fs ex H H1 h h1)(g:∀b∈fs,b∈fs')(f:∀b∈ex,b∈ex'):Un fs' ex' H H1 h h1:=
 (λb d q n i c=>u.P_ b d q n (λz=>i (g b z)) λz=>c (f b z),λ_ _ q n _ c=>u.Qk q n λz=>c (f _ z),λb d q n c=>u.N4 b d q n λz=>c (f b z),λb d q c=>u.QO b d q λz=>c (f b z),u.QN,u.VZ,u.VN)
end
abbrev F_(h:NR)(H:Hp):γ υ:=(γ.N2 h.Np.MV).SJ λa=>(H a).Rx
abbrev dq(h:NR)(H:Hp):NR:=Qo h (F_ h H)
def pF(h:NR)(H:Hp):(dq h H).Np.MV=h.Np.MV:=Δ.W.hideAll_size _ _
def r9(e:h.ψ b<*o)(n:H b=ε):(dq h H).ψ b<*o:=
 Pp _ e λa=>by
  let q:(H b).Rx=ξ:=(Q'.mp a).2;rw[n]at q;simp at q
def uy(e:(dq h H).ψ b<*o):h.ψ b=δ o/\H b=ε:=by
 let e':h.ψ b<*o:=SH (F_ h H) e;refine(e',3);cases q:H b with
 |ε=>rfl
 |δ x=>
  let a:b∈F_ h H:=Q'.Om (Nm.Om (lt_size e'),by simp[q]);let z:(dq h H).ψ b=ε:=O' (F_ h H) a;rw[z]at e;cases e
structure Mod(K:Frag)(mg:Str->Option Value)(base:Heap):Prop where
 kin:K.In base
 glob:base.Ns mainGlobals mg
 blt:∃mb,base.Ns builtinsNs mb/\∀x:Str,x≠"__name__"->mb x=bootBuiltins x
 nolimit:base.NoLimit
structure Cx where
 prog:Program
 w:World
 K:Frag
 mg:Str->Option Value
 base:Heap
 A:Around
 N:List Str
 s₀:Shared
 H₀:Hp
 env:Env
 outer:List Env
 stack:List Env
 ex:List Addr
 fn:Str->Bool
 calm:Bool
 pn:List (Addr×Obj)
 xe:Value->Shared->Prop
abbrev s_(l:γ WC):γ υ:=l.W_ (·.RN)
instance Cx.fs(X:Cx):γ υ:=s_ X.Fr
abbrev GY(sc:RX)(x:M'):Prop:=sc.MP.ρ x<*.local\/sc.MP.ρ x<*.N8\/sc.MP.ρ x<*.N4
abbrev DG(sc:RX)(x:M'):Prop:=sc.MP.ρ x<*.local\/sc.MP.ρ x<*.N8
abbrev zF(KK:WC)(h:NR)(m:M'->ω θ)(x:M')(u:θ):Prop:=
 (KK.Og x=δ .local/\m x<*u)\/((KK.Og x<*.N8\/KK.Og x<*.N4)/\∃c,KK.Rj.ρ x=δ c/\h.Tb c (δ u))
structure Cx.Ok(X:Cx):Prop where
 mod:Mod X.K X.mg X.base
 kind:X.env.scope.kind=.function
 glob:X.env.globals=mainGlobals
 blt:X.env.builtins=builtinsNs
 above:X.s₀⁻¹≤X.env.locals
 inj:∀x y c,X.env.cells.lookup x<*c->X.env.cells.lookup y<*c->x=y
 has:∀x,(X.env.kindOf x<*.cell\/X.env.kindOf x<*.free)->∃c,X.env.cells.lookup x<*c
 cab:∀x c,X.fn x=true->X.env.cells.lookup x<*c->X.s₀⁻¹≤c
 hd:X.calm=true->X.A.handled=none
 frames:X.A.frames<*X.stack
 stk:X.stack=X.outer\/(X.stack=X.env::X.outer/\X.env.frame<*X.env.locals)
 exf:∀b∈X.ex,b≠X.env.locals/\∀x c,X.env.cells.lookup x<*c->c≠b
 bs:∀b o,X.base.get? b<*o->X.s₀.heap.get? b=some o/\X.H₀ b=none
 bsz:X.base.objs.size≤X.s₀⁻¹
 noex:∀b o,X.base.get? b<*o->b∉X.ex
 exfs:∀b∈X.ex,b∉X.fs
 funs:X.s₀.heap.FunFrames X.base X.outer
 frf:∀b∈X.fs,X.H₀ b=none
structure f'(X:Cx)(pins:List (Addr×Obj))(σ:List (Option V))(H:Hp)(s:Shared):Prop where
 ok:X.Ok
 os:s.os=X.s₀.os
 bare:AllBare s.gens
 base:Un X.fs X.ex X.H₀ H X.s₀.heap s.heap
 loc:∃m,s.heap.Ns X.env.locals m/\∀(i:Nat)(x:Str)(v:V),X.N[i]?<*x->σ[i]?<*some v->GY X.env.scope x->∃u,ad v u/\zF X.env s.heap m x u
 cell:∀x c,X.env.cells.lookup x<*c->∃v,s.heap.IsCell c v
 free:H X.env.locals=none
 freeC:∀x c,X.env.cells.lookup x<*c->H c=none
 pin:∀p∈X.pn++pins,s.heap.get? p.1=some p.2/\H p.1=none/\p.1≠X.env.locals/\p.1∉X.fs/\∀v,p.2.data≠.cell v
 hok:Au X.prog X.w H s.heap
 len:σ.length=X.N.length
section
variable{X:Cx}{pins:List (Addr×Obj)}{σ:List (Option V)}{H H':Hp}{s:Shared}{h':Heap}
def Cx.Ok.nofr(ok:X.Ok)(e:X.ς.ψ b<*o):b∉X.fs:=λa=>by
 have:=(ok.VY.mem a).1;rw[e]at this;cases this
def f'.bs(I:f' X MZ σ H s):∀b o,X.ς.ψ b<*o->s.ο.ψ b=δ o/\H b=ε:=λb o e=>
 (I.ς.P_ b o (I.ok.bs b o e).1 (I.ok.bs b o e).2 (I.ok.nofr e) (I.ok.noex b o e),I.ς.N4 b o (I.ok.bs b o e).1 (I.ok.bs b o e).2 (I.ok.noex b o e))
def f'.bk(I:f' X MZ σ H s):∀b o,X.ς.ψ b<*o->s.ο.ψ b<*o:=λb o e=>(I.bs b o e).1
def f'.VT(I:f' X MZ σ H s):Mod X.K X.mg X.ς:=I.ok.VT
def f'.TX(I:f' X MZ σ H s):X.K.In s.ο:=I.ok.VT.Vv.Oq I.bk
def f'.lt(I:f' X MZ σ H s):X.KK.OZ<s⁻¹:=let⟨_,a,_⟩:=I.Xx;a.lt
def f'.sz(I:f' X MZ σ H s):X.RJ⁻¹≤s⁻¹:=IO I.ok.WA (Pn I.lt)
def f'.nofs(I:f' X MZ σ H s){a:υ}(h:s⁻¹≤a):a∉X.fs:=λc=>by
 let⟨_,o,b,_⟩:=I.ok.VY.mem c;show MJ (Ψ (lt_size b) (IO I.sz h)) (Qq _)
def f'.cne(I:f' X MZ σ H s):∀x c,X.KK.Rj.ρ x<*c->c≠X.KK.OZ:=λx c e z=>by
 let⟨v,o,d,f⟩:=I.N8 x c e;let⟨m,⟨g,h,i,a,b,_⟩,_⟩:=I.Xx;rw[z,a]at d;cases d;rw[b]at f;cases f
def f'.VY(I:f' X MZ σ H s):s.ο.Ow X.ς X.Fr:=by
 let P':∀(l:γ WC),(∀b∈s_ l,b∈X.fs)->X.RJ.ο.Ow X.ς l->s.ο.Ow X.ς l:=by
  intro l;induction l with
  |Op=>intro _ _;trivial
  |NX KK r g=>
   intro f k;let⟨m,⟨L,o,a,j,i,n⟩,h⟩:=k;let d:L∈X.fs:=f L (by unfold s_;rw[SX,a];show N5);let⟨p,e⟩:=I.ς.UY L o i (I.ok.frf L d) d λz=>I.ok.exfs L z d;show(m,(L,_,a,j,e,n),g (λb c=>f b (by unfold s_;rw[SX,a];show M1 _ c)) h)
 show P' X.Fr (λ_ c=>c) I.ok.VY
def f'.NA(I:f' X MZ σ H s):s.ο.Ow X.ς X.NA:=by
 rcases I.ok.stk with e|⟨e,b⟩
 .rw [e];show I.VY
 .rw [e];let⟨m,a,_⟩:=I.Xx;refine .NX (by rw[I.ok.RR];decide) b a ?_ I.VY;show NR.U' (IO I.ok.bsz I.ok.WA)
def f'.ZO(I:f' X MZ σ H s):∀b∈s_ X.NA,b∈X.KK.OZ::X.fs:=λb a=>by
 rcases I.ok.stk with e|⟨e,c⟩
 .rw [e]at a;show M1 _ a
 .rw [e]at a;unfold s_ at a;rw[SX,c]at a;show a
def f'.Tf(I:f' X MZ σ H s):∀b∈s_ X.NA,H b=ε:=λb a=>by
 rcases MN.mp (I.ZO b a)with e|a
 .rw [e];show I.N4
 .obtain ⟨_,o,c,_⟩:=I.ok.VY.mem a;show I.ς.N4 b o c (I.ok.frf b a) λz=>I.ok.exfs b z a
def f'.Xd{ch:γ υ}(I:f' X MZ σ H s)(j:∀b∈ch,(b∈X.ex\/X.RJ⁻¹≤b)/\b≠X.KK.OZ/\(∀x c,X.KK.Rj.ρ x<*c->c≠b)/\∀p∈X.pn++MZ,p.1≠b)(h:∀b o,b≠X.KK.OZ->b∉X.fs->b∉ch->s.ο.ψ b<*o->H b=ε->h'.ψ b<*o)(B:∀b o,b≠X.KK.OZ->b∈X.fs->b∉ch->s.ο.ψ b<*o->H b=ε->∃Q,h'.ψ b<*{o with Rw:=Q})(f:∀b o,b∉ch->s.ο.ψ b<*o->H b=ε->H' b=ε)(C:∀b o,b∉ch->s.ο.ψ b<*o->∃L,h'.ψ b<*L)(F:∀b xs,H b<*.No xs->H' b<*.No xs)(N:∀b o u,H b<*.frz o u->H' b<*.frz o u)(J:∀b ps,H b<*.Wv ps->∃TW,H' b<*.Wv (ps++TW))(ns:∀m,s.ο.Ns X.KK.OZ m->h'.Ns X.KK.OZ m)(R:Au X.Ξ X.w H' h')(hg:Wp g'):f' X MZ σ H' {s with ο:=h',Ty:=g',Tz:=d',MT:=t'}:=by
 let M:∀b o,X.RJ.ο.ψ b<*o->b≠X.KK.OZ:=λb o e=>M8 (Ψ (lt_size e) I.ok.WA);let y:∀b o,X.RJ.ο.ψ b<*o->b∉X.ex->b∉ch:=λb o e a D=>by
  rcases(j b D).1 with z|z
  .exact a z
  .exact MJ (Ψ (lt_size e) z) (Qq _)
 let t:∀x c,X.KK.Rj.ρ x<*c->∀v,s.ο.Tb c v->h'.Tb c v:=λx c e v T=>by
  let⟨o,E,S⟩:=T;let g:c∉ch:=λz=>(j c z).2.2.1 x c e ζ;by_cases W:c∈X.fs
  .obtain ⟨Q,q⟩:=B c o (I.cne x c e) W g E (I.UH x c e);show(_,q,S)
  .exact (o,h c o (I.cne x c e) W g E (I.UH x c e),S)
 refine(I.ok,I.os,hg,(λb o e n D a=>?_,λb o e n D a=>?_,λb o e n a=>?_,λb o e a=>?_,λb xs e=>F b xs (I.ς.QN b xs e),λb o xs e=>N b o xs (I.ς.VZ b o xs e),λb ps e=>?_),3,λx c e=>?_,3,λx c e=>?_,λp hp=>?_,R,I.PJ)
 .exact h b o (M b o e) D (y b o e a) (I.ς.P_ b o e n D a) (I.ς.N4 b o e n a)
 .obtain ⟨Q,A⟩:=I.ς.UY b o e n D a;let⟨P,O⟩:=B b _ (M b o e) D (y b o e a) A (I.ς.N4 b o e n a);show(P,O)
 .obtain ⟨L,A⟩:=I.ς.QO b o e a;show f b L (y b o e a) A (I.ς.N4 b o e n a)
 .obtain ⟨L,A⟩:=I.ς.QO b o e a;show C b L (y b o e a) A
 .obtain ⟨Y,A⟩:=I.ς.VN b ps e;let⟨m2,O⟩:=J b _ A;show(Y++m2,by rw[O,Nq.NY])
 .obtain ⟨m,Z,hl⟩:=I.Xx;refine(m,ns m Z,λi x v A O e3=>?_);let⟨u,r,l⟩:=hl i x v A O e3;refine(u,r,3);rcases l with l|⟨k,c,e,z⟩
  .exact .NI l
  .exact .NT (k,c,e,t x c e _ z)
 .obtain ⟨v,z⟩:=I.N8 x c e;show(v,t x c e v z)
 .obtain ⟨m,⟨o,_,_,E,_⟩,_⟩:=I.Xx;show f _ o (λz=>(j _ z).2.1 ζ) E I.N4
 .obtain ⟨v,o,E,S⟩:=I.N8 x c e;show f c o (λz=>(j c z).2.2.1 x c e ζ) E (I.UH x c e)
 .obtain ⟨e,n,U,nf,d⟩:=I.Yz p hp;let g:p.1∉ch:=λz=>(j p.1 z).2.2.2 p hp ζ;show(h p.1 p.2 U nf g e n,f p.1 p.2 g e n,U,nf,d)
def f'.un(I:f' X MZ σ H s)(u:Un X.fs [] H H' s.ο h')(c:Au X.Ξ X.w H' h'):f' X MZ σ H' {s with ο:=h',MT:=t'}:=by
 let⟨m,⟨o,t,v,h,r⟩,_⟩:=id I.Xx;let⟨l,k⟩:=u.Qk h I.N4 (!1);show I.Xd (g':=s.Ty) (d':=s.Tz) (ch:=[]) (λ_ z=>nomatch z) (λb o _ d _ e n=>u.P_ b o e n d (!1)) (λb o _ d _ e n=>u.UY b o e n d (!1)) (λb o _ e n=>u.N4 b o e n (!1)) (λb o _ e=>u.QO b o e (!1)) u.QN u.VZ u.VN (λq j=>by
  let⟨p,f,g,a,i⟩:=j;rw[h]at a;cases a;show(_,f,g,k,i)) c I.Rz
def f'.Ql(I:f' X MZ σ H s)(u:Un (s_ X.NA) ch H H' s.ο h')(g:Au X.Ξ X.w H' h')(t:Wp g')(f:∀b∈ch,(b∈X.ex\/X.RJ⁻¹≤b)/\b≠X.KK.OZ/\(∀x c,X.KK.Rj.ρ x<*c->c≠b)/\∀p∈X.pn++MZ,p.1≠b):f' X MZ σ H' {s with ο:=h',Ty:=g',Tz:=d',MT:=t'}:=by
 let⟨m,⟨o,C,D,k,r⟩,_⟩:=id I.Xx;let⟨y,h⟩:=u.Qk k I.N4 λz=>(f _ z).2.1 ζ;show I.Xd (ch:=ch) f (λb o h v a e n=>u.P_ b o e n (λz=>(MN.mp (I.ZO b z)).Nv h v) a) (λb o _ _ a e n=>u.Qk e n a) (λb o a e n=>u.N4 b o e n a) (λb o a e=>u.QO b o e a) u.QN u.VZ u.VN (λB q=>by
  let⟨A,i,j,d,l⟩:=q;rw[k]at d;cases d;show(_,i,j,h,l)) g t
def f'.OH(I:f' X MZ σ H s)(k:∀b o,b≠it->s.ο.ψ b<*o->h'.ψ b<*o)(h:H it=ε)(f:it≠X.KK.OZ)(h1:it∈X.ex\/X.RJ⁻¹≤it)(h2:∀x c,X.KK.Rj.ρ x<*c->c≠it)(l:∀p∈X.pn++MZ,p.1≠it):f' X MZ σ H {s with ο:=h',MT:=t'}:=by
 let d:∀b u,H b<*u->b≠it:=λb u e z=>by rw[z,h]at e;cases e
 refine I.Xd (g':=s.Ty) (d':=s.Tz) (ch:=[it]) (λb j=>?_) (λb o _ _ a e _=>k b o (λz=>a (by simp[z])) e) (λb o _ _ a e _=>(o.Rw,k b o (λz=>a (by simp[z])) e)) (λ_ _ _ _ n=>n)
  (λb o a e=>(o,k b o (λz=>a (by simp[z])) e)) (λ_ _ e=>e) (λ_ _ _ e=>e) (λb ps e=>(#[],by rw[e];simp)) (λm i=>?_) (λb u e=>?_) I.Rz
 .let e:b=it:=by simpa using j
  subst e;show(h1,f,h2,l)
 .obtain ⟨o,t,w,g,r⟩:=i;show(o,t,w,k _ o (Ne.MO f) g,r)
 .refine (I.Oc b u e).ST (λc v a q=>k c v ?_ q) (λ_ q=>q) λ_ _ q=>q;rcases a with z|z
  .rw [z];show d b u e
  .exact d c _ z
def f'.Sg(I:f' X MZ σ H s)(t:Φ):f' X MZ σ H {s with MT:=t}:=I.un (h':=s.ο) (t':=t) Un.Th I.Oc
def f'.SW(I:f' X MZ σ H s)(k:∀b u,s.ο.ψ b<*u->h'.ψ b<*u):f' X MZ σ H {s with ο:=h',MT:=t'}:=I.un (Un.SW k) (I.Oc.SW k)
def f'.Tw{a:υ}(I:f' X MZ σ H s)(k:∀b u,s.ο.ψ b<*u->h'.ψ b<*u)(hp:s⁻¹≤a)(c:Az X.Ξ X.w (MR H a o) h' a o):f' X MZ σ (MR H a o) {s with ο:=h',MT:=t'}:=I.un (Un.Tw k hp (I.Oc.OF hp)) (I.Oc.Tw k hp c)
def f'.WQ(I:f' X MZ σ H s)(mu:HD (H x))(d:e=x\/H e<*.Xf x)(k:∀b u,b≠e->s.ο.ψ b<*u->h'.ψ b<*u)(a:∃u,h'.ψ e<*u)(c:Az X.Ξ X.w (MR H x o) h' x o):f' X MZ σ (MR H x o) {s with ο:=h',MT:=t'}:=I.un (Un.WQ mu d k a) (I.Oc.WQ mu d k a c)
def f'.pins_of(I:f' X MZ σ H s)(h:∀p∈a,s.ο.ψ p.1=δ p.2/\H p.1=ε/\p.1≠X.KK.OZ/\p.1∉X.fs/\∀v,p.2.NH≠.N8 v):f' X a σ H s:=
 (I.ok,I.os,I.Rz,I.ς,I.Xx,I.N8,I.N4,I.UH,λp hp=>(Na.mp hp).Nv (λz=>I.Yz p (RL _ z)) (h p),I.Oc,I.PJ)
def Bc{N:γ M'}(c:N.Nx){i j:Φ}(a:N[i]?<*x)(b:N[j]?<*x):i=j:=by
 let⟨h1,e⟩:=q5 a;let⟨h2,d⟩:=q5 b;show(UG c).mp (e.ν d.MO)
def ef(I:f' X MZ σ H s)(hN:X.N.Nx)(U:X.N[i]?<*x)(B:DG X.KK.NE x)(r:ad v u)(h:∀s',f' X MZ (σ.RY i (δ v)) H s'->(∃a,Pd a s.ο s'.ο/\(a=X.KK.OZ\/X.KK.Rj.ρ x<*a))->Q () s')(hf:(X.fn x=ξ\/X.KK.NE.MP.ρ x<*.local)>>>8):BT M A (storeName X.KK x u) Q E s:=by
 let⟨m,hn,hl⟩:=id I.Xx;let W:(X.KK.NE.RR==.class||(X.KK.NE.RR==.module&&X.KK.OZ != X.KK.globals))=η:=by rw[I.ok.RR];rfl
 let J:i<σ.β:=by rw[I.PJ];show(q5 U).1
 let R:=I.cne;let g:∀{a:υ}{h':NR},(∃o,s.ο.ψ a=δ o/\H a=ε)->Pd a s.ο h'->Au X.Ξ X.w H h':=λ{a h'}ha f b ob e=>by
  let⟨_,_,C⟩:=ha;refine(I.Oc b ob e).ST (λc w' t q=>(f.2 c ?_).ν q) (λ_ q=>q) λ_ _ q=>q;rintro ζ;rcases t with ζ|t
  .rw [C]at e;cases e
  .rw [C]at t;cases t
 rcases B with F|F
 .refine wpAny_storeName_local F hn (λh' ag f=>?_) W;let⟨oL,_,_,ab,_⟩:=id hn;refine h _ (I.ok,I.os,I.Rz,(λb o e n P B=>?_,λb o e n P B=>?_,I.ς.N4,λb o e B=>?_,I.ς.QN,I.ς.VZ,I.ς.VN),(_,ag,λj y v' l D e3=>?_),λy c e=>?_,I.N4,I.UH,λp hp=>?_,g (oL,ab,I.N4) f,by simpa using I.PJ) (_,f,.NI ζ)
  .exact (f.2 b (M8 (Ψ (lt_size e) I.ok.WA))).ν (I.ς.P_ b o e n P B)
  .obtain ⟨sl,l⟩:=I.ς.UY b o e n P B;show(sl,(f.2 b (M8 (Ψ (lt_size e) I.ok.WA))).ν l)
  .obtain ⟨o',l⟩:=I.ς.QO b o e B;show(o',(f.2 b (M8 (Ψ (lt_size e) I.ok.WA))).ν l)
  .by_cases L:j=i
   .subst L;rw[U]at l;cases l;rw[γ.Wh J]at D;cases D;show(u,r,.NI (F,!1))
   .rw [γ.Xk (Ne.MO L)]at D;let⟨u',r',q⟩:=hl j y v' l D e3;refine(u',r',3);rcases q with⟨k,e⟩|⟨k,c,e,z⟩
    .refine .NI (k,3);have:y≠x:=λe=>L (Bc hN l (e▸U));simp[this,e]
    .exact .NT (k,c,e,z.WW f (R y c e))
  .obtain ⟨w',z⟩:=I.N8 y c e;show(w',z.WW f (R y c e))
  .obtain ⟨e,n,ne,nf,d⟩:=I.Yz p hp;show((f.2 p.1 ne).ν e,n,ne,nf,d)
 .let O:X.fn x=ξ:=by
   rcases hf with z|z
   .exact z
   .rw [z]at F;cases F
  let⟨c,t⟩:=I.ok.Tn x (.NI F);let⟨w',z⟩:=I.N8 x c t;refine Zs I.ok.RR F t z (λh' Z f=>?_);let⟨oc,T,S⟩:=id z;refine h {s with ο:=h'} (I.ok,I.os,I.Rz,(λb o e n P B=>?_,λb o e n P B=>?_,I.ς.N4,λb o e B=>?_,I.ς.QN,I.ς.VZ,I.ς.VN),(m,hn.WW f (Ne.MO (R x c t)),λj y v' l D e3=>?_),λy c' e=>?_,I.N4,I.UH,λp hp=>?_,g (oc,T,I.UH x c t) f,by simpa using I.PJ) (c,f,.NT t)
  .exact (f.2 b (M8 (Ψ (lt_size e) (I.ok.cab x c O t)))).ν (I.ς.P_ b o e n P B)
  .obtain ⟨sl,l⟩:=I.ς.UY b o e n P B;show(sl,(f.2 b (M8 (Ψ (lt_size e) (I.ok.cab x c O t)))).ν l)
  .obtain ⟨o',l⟩:=I.ς.QO b o e B;show(o',(f.2 b (M8 (Ψ (lt_size e) (I.ok.cab x c O t)))).ν l)
  .by_cases L:j=i
   .subst L;rw[U]at l;cases l;rw[γ.Wh J]at D;cases D;show(u,r,.NT (.NI F,c,t,Z))
   .rw [γ.Xk (Ne.MO L)]at D;let⟨u',r',q⟩:=hl j y v' l D e3;refine(u',r',3);rcases q with q|⟨k,c',e,z'⟩
    .exact .NI q
    .refine .NT (k,c',e,z'.WW f ?_);rintro ζ;show L (Bc hN l (I.ok.QG _ _ _ e t▸U))
  .by_cases Y:c'=c
   .subst Y;show(_,Z)
   .obtain ⟨w2,z2⟩:=I.N8 y c' e;show(w2,z2.WW f Y)
  .obtain ⟨e,n,ne,nf,d⟩:=I.Yz p hp;refine((f.2 p.1 ?_).ν e,n,ne,nf,d);intro q;rw[q,T]at e;let q':oc=p.2:=ω.δ.QG e;show d w' (by rw[<-q'];show S)
def AO(I:f' X MZ σ H s)(d:X.N.Nx)(b:X.N[i]?<*x)(a:DG X.KK.NE x)(r:ad v u)(h:∀s',f' X MZ (σ.RY i (δ v)) H s'->Q () s')(c:(X.fn x=ξ\/X.KK.NE.MP.ρ x<*.local)>>>8):BT M A (storeName X.KK x u) Q E s:=
 ef I d b a r (λs' e _=>h s' e) c
def f'.call'(I:f' X MZ σ H s)(g:s'.os=s.os)(u:Un (s_ X.NA) ch H H' s.ο s'.ο)(a:Au X.Ξ X.w H' s'.ο)(h:Wp s'.Ty)(d:∀b∈ch,(b∈X.ex\/X.RJ⁻¹≤b)/\b≠X.KK.OZ/\(∀x c,X.KK.Rj.ρ x<*c->c≠b)/\∀p∈X.pn++MZ,p.1≠b):f' X MZ σ H' s':=by
 let⟨h',g',d',t',f⟩:=s';let e:f=s.os:=g;subst e;show I.Ql (g':=g') (t':=t') (d':=d') u a h d
end
@[reducible]def XK:=Value->Option Addr->Hp->Prop
@[reducible]def St:=List (Option V)
@[reducible]def VK:=V->Hp->Prop
@[reducible]def TE:=St->Hp->VK->Prop
@[reducible]def TT:=St->Hp->(Bool->Hp->Prop)->Prop
@[reducible]def TA:=St->Hp->(List V->Hp->Prop)->Prop
structure Ends where
 nx:St->Hp->Prop
 rt:VK
 bk:St->Hp->Prop:=λ_ _=>False
 ct:St->Hp->Prop:=λ_ _=>False
@[reducible]def TS:=Ends->St->Hp->Prop
inductive EP(X:Cx)(pins:List (Addr×Obj))(σ:St)(Q:VK)(u:Value)(s':Shared):Prop
 |mk (v H':_) (_:f' X pins σ H' s') (_:ad v u) (_:Q v H')
inductive TP(X:Cx)(pins:List (Addr×Obj))(σ:St)(Q:Bool->Hp->Prop)(b:Bool)(s':Shared):Prop
 |mk (H':_) (_:f' X pins σ H' s') (_:Q b H')
inductive AP(X:Cx)(pins:List (Addr×Obj))(σ:St)(Q:List V->Hp->Prop)(us:List Value)(s':Shared):Prop
 |mk (vs H':_) (_:f' X pins σ H' s') (_:ae vs us) (_:Q vs H')
abbrev SP(X:Cx)(MZ:γ (υ×Rm))(D:XL)(f:Flow)(s':MH):Prop:=
 match f with
 |.next=>∃WD H',f' X MZ WD H' s'/\D.nx WD H'
 |.Yg=>∃WD H',f' X MZ WD H' s'/\D.bk WD H'
 |.T_=>∃WD H',f' X MZ WD H' s'/\D.ct WD H'
 |.UT u=>∃v WD H',f' X MZ WD H' s'/\ad v u/\D.rt v H'
abbrev PE(X:Cx)(e:Ro)(t:TE):Prop:=
 ∀(MZ:γ (υ×Rm))(s:MH)(σ:St)(H:Hp)(Q:VK),f' X MZ σ H s->t σ H Q->BT (Cl X.Ξ X.w) X.A (OJ e X.KK) (EP X MZ σ Q) X.xe s
abbrev PT(X:Cx)(e:Ro)(t:TT):Prop:=
 ∀(MZ:γ (υ×Rm))(s:MH)(σ:St)(H:Hp)(Q:MX->Hp->Prop),f' X MZ σ H s->t σ H Q->BT (Cl X.Ξ X.w) X.A (isTrue e X.KK (OJ e X.KK)) (TP X MZ σ Q) X.xe s
abbrev PW(X:Cx)(e:Ro)(t:TT):Prop:=
 ∀(whole:Y_ θ)(MZ:γ (υ×Rm))(s:MH)(σ:St)(H:Hp)(Q:MX->Hp->Prop),f' X MZ σ H s->t σ H Q->BT (Cl X.Ξ X.w) X.A (isTrue e X.KK whole) (TP X MZ σ Q) X.xe s
def PW.pt(h:PW X e t):PT X e t:=h _
abbrev PA(X:Cx)(es:γ Ro)(t:TA):Prop:=
 ∀(Ng:Sn)(MZ:γ (υ×Rm))(s:MH)(σ:St)(H:Hp)(Q:γ V->Hp->Prop),f' X MZ σ H s->t σ H Q->BT (Cl X.Ξ X.w) X.A (spliced (OE Ng (Θ es X.KK))) (AP X MZ σ Q) X.xe s
abbrev PS(X:Cx)(st:Nr)(t:TS):Prop:=
 ∀(MZ:γ (υ×Rm))(s:MH)(σ:St)(H:Hp)(D:XL),f' X MZ σ H s->t D σ H->BT (Cl X.Ξ X.w) X.A (exec st X.KK) (SP X MZ D) X.xe s
abbrev BA(X:Cx)(st:γ Nr)(t:TS):Prop:=
 ∀(MZ:γ (υ×Rm))(s:MH)(σ:St)(H:Hp)(D:XL),f' X MZ σ H s->t D σ H->BT (Cl X.Ξ X.w) X.A (execs st X.KK) (SP X MZ D) X.xe s
def ri{t:Y_ c}{Q b:c->MH->Prop}(h:BT M A t Q E s)(d:∀a s,Q a s->b a s):BT M A t b E s:=NG h d λ_ _ x=>x
section
variable{X:Cx}
inductive bB(i:Nat)(σ:St)(H:Hp)(Q:VK):Prop
 |mk (v:_) (_:σ[i]?<*some v) (_:Q v H)
abbrev tC(v:V):TE:=λ_ H Q=>Q v H
def wQ{Ng:Sn}(w:X.N[i]?<*x)(o:GY X.KK.NE x)(g:((x==("__debug__":M'))=η)>>>0)(j:((x==("__classdict__":M'))=η)>>>0):PE X (.Nz x Ng) (bB i):=by
 intro f s n H Q I h;let⟨v,e,h⟩:=h;let⟨m,p,t⟩:=I.Xx;let⟨u,r,l⟩:=t i x v w e o;let d:EP X f n Q u s:=(v,H,I,r,h);rcases l with⟨b,q⟩|⟨b,c,k,a⟩
 .exact wpAny_Name (wpAny_loadName_local I.ok.RR b p q d) g
 .rcases b with b|b
  .exact wpAny_Name (wpAny_loadName_cell I.ok.RR b k a d) g
  .exact wpAny_Name (wpAny_loadName_free I.ok.RR b k a d j) g
def b'{i j Ng}:PE X (.Vi (.MQ i) j Ng) (tC (.MQ i)):=λ_ _ _ H _ I h=>wpAny_Constant_int (.MQ i,H,I.Sg _,(_,ζ),h)
def BK{b j Ng}:PE X (.Vi (.Pe b) j Ng) (tC (.bl b)):=λ_ _ _ H _ I h=>Constant_bool (.bl b,H,I,1,h)
def Gu{j Ng}:PE X (.Vi .ε j Ng) (tC .Rt):=λ_ _ _ H _ I h=>Constant_none (.Rt,H,I,1,h)
def n'{x j Ng}:PE X (.Vi (.M_ x) j Ng) (tC (.M_ x)):=λ_ _ _ H _ I h=>R_.Constant_str (.M_ x,H,I.Sg _,(_,ζ),h)
abbrev Gl(X:Cx)(x:M'):Prop:=X.KK.Og x<*.globalImplicit
def v_{b:St}(I:f' X a b H s)(d:Gl X x)(c:X.mg x<*u)(h:Q u s)(e:((x==("__debug__":M'))=η)>>>0):BT (Cl X.Ξ X.w) X.A (OJ (.Nz x Ng) X.KK) Q E s:=
 R_.Name_function_global I.ok.RR d (R_.loadGlobal_global (by rw[I.ok.Wf];show I.VT.Wf.Oq I.bk) c h) e
def An{E:θ->MH->Prop}{b:St}{Ng:Sn}(I:f' X a b H s)(f:Gl X x)(e:X.mg x=ε)(c:To x<*u)(h:Q u s)(d:(x≠"__name__")>>>0)(g:((x==("__debug__":M'))=η)>>>0):BT (Cl X.Ξ X.w) X.A (OJ (.Nz x Ng) X.KK) Q E s:=by
 let⟨i,h1,h2⟩:=I.VT.blt;show R_.Name_function_global I.ok.RR f (R_.loadGlobal_builtin (by rw[I.ok.Wf];show I.VT.Wf.Oq I.bk) e (by rw[I.ok.blt];show h1.Oq I.bk) ((h2 x d).ν c) h) g
def GZ(b:Gl X x)(a:X.mg x<*u)(r:ad v u)(c:((x==("__debug__":M'))=η)>>>0):PE X (.Nz x Ng) (tC v):=
 λ_ _ _ H _ I h=>v_ I b a (v,H,I,r,h) c
def mW{Ng:Sn}(d:Gl X x)(c:X.mg x=ε)(a:To x<*u)(r:ad v u)(b:(x≠"__name__")>>>0)(e:((x==("__debug__":M'))=η)>>>0):PE X (.Nz x Ng) (tC v):=
 λ_ _ _ H _ I h=>An I d c a (v,H,I,r,h) b e
variable{a b:Expr}{ta tb:TE}{pos:Pos}
inductive L1(Q:Bool->Hp->Prop)(x:V)(H1:Hp):Prop
 |mk (c:_) (_:x=.bl c) (_:Q c H1)
abbrev tB(t:TE):TT:=λσ H Q=>t σ H (L1 Q)
def BY(h:PE X e t)(l:(∀c,isTrue e X.KK c=(do let v <-c;standAt e.Ng;holding [v] (truthy v)))>>>7):PT X e (tB t):=by
 intro f s i H Q I hw;refine isTrue_plain (ri (h f s i H _ I hw) λv o g=>?_) (l _);let⟨x,n,m,j,k⟩:=g;let⟨d,ζ,q⟩:=k;cases j;show PQ (n,m,q)
variable{tA tB':TT}{rest:List Expr}
abbrev zV(t u:TT):TT:=λσ H Q=>t σ H λc H1=>if c=ξ then u σ H1 Q else Q η H1
abbrev L3(t u:TT):TT:=λσ H Q=>t σ H λc H1=>if c=ξ then Q ξ H1 else u σ H1 Q
abbrev zO(t:TT):TT:=λσ H Q=>t σ H λc H1=>Q (!c) H1
def HE(g:PT X a tA):PW X (.U5 .And [a] Ng) tA:=by
 intro i d s f H Q I h;refine isTrue_and (ri (g d s f H Q I h) λc j e=>?_);cases c with
 |ξ=>show isTrue_and_nil e
 |η=>show e
def EI(g:PT X a tA):PW X (.U5 .Or [a] Ng) tA:=by
 intro i d s f H Q I h;refine isTrue_or (ri (g d s f H Q I h) λc j e=>?_);cases c with
 |η=>show isTrue_or_nil e
 |ξ=>show e
def G0(n:PT X a tA)(m:PW X (.U5 .And (b::Rr) Ng) tB'):PW X (.U5 .And (a::b::Rr) Ng) (zV tA tB'):=by
 intro k d s f H Q I h;refine isTrue_and (ri (n d s f H _ I h) λc l e=>?_);let⟨j,i,g⟩:=e;cases c with
 |ξ=>show m k d l f j Q i g
 |η=>show(j,i,g)
def CL(n:PT X a tA)(m:PW X (.U5 .Or (b::Rr) Ng) tB'):PW X (.U5 .Or (a::b::Rr) Ng) (L3 tA tB'):=by
 intro k d s f H Q I h;refine isTrue_or (ri (n d s f H _ I h) λc l e=>?_);let⟨j,i,g⟩:=e;cases c with
 |ξ=>show(j,i,g)
 |η=>show m k d l f j Q i g
def DI(i:PT X a tA):PT X (.UnaryOp .Not a Ng) (zO tA):=by
 intro d s g H Q I h;show isTrue_not (ri (i d s g H (λc f=>Q (!c) f) I h) λc s' e=>by let⟨f,j,q⟩:=e;show(f,j,q))
inductive wE(ta tb:TE)(σ:St)(Q:VK)(x:V)(H1:Hp):Prop
 |mk (c:_) (_:x=.bl c) (_:if c=true then tb σ H1 Q else Q (.bl false) H1)
abbrev yn(ta tb:TE):TE:=λσ H Q=>ta σ H (wE ta tb σ Q)
inductive yb(ta tb:TE)(σ:St)(Q:VK)(x:V)(H1:Hp):Prop
 |mk (c:_) (_:x=.bl c) (_:if c=true then Q (.bl true) H1 else tb σ H1 Q)
abbrev zN(ta tb:TE):TE:=λσ H Q=>ta σ H (yb ta tb σ Q)
inductive ww(Q:VK)(x:V)(H1:Hp):Prop
 |mk (c:_) (_:x=.bl c) (_:Q (.bl (!c)) H1)
abbrev yc(ta:TE):TE:=λσ H Q=>ta σ H (ww Q)
def Fz{op}(h:PE X a t):PE X (.U5 op [a] Ng) t:=λc s d H Q I hw=>BoolOp_one (h c s d H Q I hw)
def FA(n:PE X a ta)(m:PE X (.U5 .And (b::Rr) Ng) tb):PE X (.U5 .And (a::b::Rr) Ng) (yn ta tb):=by
 intro d s g H Q I h;refine BoolOp_and (ri (n d s g H _ I h) λv k f=>?_);let⟨x,j,i,l,e⟩:=f;let⟨c,ζ,e⟩:=e;cases l;refine PQ ?_;cases c with
 |ξ=>show m d k g j Q i e
 |η=>show(.bl η,j,i,1,e)
def yR(n:PE X a ta)(m:PE X (.U5 .Or (b::Rr) Ng) tb):PE X (.U5 .Or (a::b::Rr) Ng) (zN ta tb):=by
 intro d s g H Q I h;refine BoolOp_or (ri (n d s g H _ I h) λv k f=>?_);let⟨x,j,i,l,e⟩:=f;let⟨c,ζ,e⟩:=e;cases l;refine PQ ?_;cases c with
 |η=>show m d k g j Q i e
 |ξ=>show(.bl ξ,j,i,1,e)
def BP(j:PE X a ta):PE X (.UnaryOp .Not a Ng) (yc ta):=by
 intro d s g H Q I h;refine UnaryOp_ (ri (j d s g H _ I h) λv m f=>?_);let⟨x,l,k,i,e⟩:=f;let⟨c,ζ,e⟩:=e;cases i;show not_of (PQ (.bl (!c),l,k,1,e))
abbrev L4(t:TT)(ta tb:TE):TE:=λσ H Q=>t σ H λc H1=>if c=ξ then ta σ H1 Q else tb σ H1 Q
def cJ(m:PT X c tA)(o:PE X a ta)(n:PE X b tb):PE X (.IfExp c a b Ng) (L4 tA ta tb):=by
 intro e s f H Q I h;refine wpAny_IfExp (ri (m e s f H _ I h) λd i g=>?_);let⟨l,k,j⟩:=g;cases d with
 |ξ=>show o e i f l Q k j
 |η=>show n e i f l Q k j
end
abbrev o5(K:Nl)(H:Hp)(a:υ)(xs:γ V):Prop:=
 Rd H a (.M5 xs) \/
  ∃(o:Rm)(Zm:Nq θ)(n:Φ),K.ρ a=δ o/\o.OM=.MM "list"/\o.Pv=ε/\o.NH=.Sx Zm n/\Zm.MV≤Λ/\ae xs Zm.ND
abbrev u0(K:Nl)(H:Hp)(a:υ)(xs:γ V):Prop:=
 Rd H a (.No xs) \/
  ∃(o:Rm)(Zm:Nq θ)(n:Φ),K.ρ a=δ o/\o.OM=.MM "tuple"/\o.NH=.Sx Zm n/\Zm.MV≤Λ/\ae xs Zm.ND
abbrev Jy:θ->ω V
 |.ε=>δ .Rt
 |.Pe b=>δ (.bl b)
 |.MQ i _=>δ (.MQ i)
 |.M_ x _=>δ (.M_ x)
 |.bytes b _=>δ (.byt b)
 |.float b _=>δ (.flt b)
 |.π a=>δ (.π a)
 |.MM n=>δ (.ty n)
 |_=>ε
def ad.abs(r:ad x u):Jy u<*x:=by
 cases x with
 |Rt=>cases r;rfl
 |bl _=>cases r;rfl
 |MQ _=>let⟨t,ζ⟩:=r;rfl
 |M_ _=>let⟨t,ζ⟩:=r;rfl
 |byt _=>let⟨t,ζ⟩:=r;rfl
 |flt _=>let⟨t,ζ⟩:=r;rfl
 |π _=>cases r;rfl
 |ty _=>cases r;rfl
def ad.QG(r:ad x u)(q:ad y u):x=y:=ω.δ.QG (r.abs.MO.ν q.abs)
def ae.QG:∀{xs ys:γ V}{us:γ θ},ae xs us->ae ys us->xs=ys
 |_,_,_,.Op,.Op=>rfl
 |_,_,_,.NX r t,.NX a t'=>by rw[r.QG a,ae.QG t t']
section
variable{X:Cx}{pins:List (Addr×Obj)}{σ:St}{H:Hp}{s:Shared}{a:Addr}{xs ys:List V}
def o5.of{K:Nl}(h:H a<*.M5 xs):o5 K H a xs:=.NI (.NI h)
def u0.of{K:Nl}(h:H a<*.No xs):u0 K H a xs:=.NI (.NI h)
def f'.Qt(I:f' X MZ σ H s)(h:o5 X.K H a xs):∃b:γ θ,ae xs b/\PlainL s.ο a b.χ/\xs.β≤Λ:=by
 rcases h with h|⟨o,b,n,d,g,f,c,hz,r⟩
 .obtain ⟨z,b,n,r,e⟩:=h.ok I.Oc;show(b,r,(_,n,e,5,1),z)
 .refine (b.ND,r,(o,n,I.TX a o d,g,f,by simpa using c),3);let e:=r.β;simp only[Pl]at e;lia
def f'.Px(I:f' X MZ σ H s)(h:u0 X.K H a xs):∃b:γ θ,ae xs b/\Wo s.ο a b.χ/\xs.β≤Λ:=by
 rcases h with h|⟨o,b,n,d,f,c,hz,r⟩
 .obtain ⟨z,b,r,p⟩:=h.ok I.Oc;show(b,r,p,z)
 .refine (b.ND,r,(o,I.TX a o d,f,n,by simpa using c),3);let e:=r.β;simp only[Pl]at e;lia
def f'.list_inj(I:f' X MZ σ H s)(h:o5 X.K H a xs)(h':o5 X.K H a ys):xs=ys:=by
 let⟨b,r,⟨o,n,e,_,_,d⟩,_⟩:=I.Qt h;let⟨its',c,⟨f,g,e',_,_,d'⟩,_⟩:=I.Qt h';rw[e]at e';cases e';rw[d]at d';injection d' with d1 _;have:b=its':=by simpa using NZ Nq.ND d1
 subst this;show r.QG c
def f'.tuple_inj(I:f' X MZ σ H s)(h:u0 X.K H a xs)(h':u0 X.K H a ys):xs=ys:=by
 let⟨b,r,⟨o,e,_,n,d⟩,_⟩:=I.Px h;let⟨its',c,⟨f,e',_,g,d'⟩,_⟩:=I.Px h';rw[e]at e';cases e';rw[d]at d';injection d' with d1 _;have:b=its':=by simpa using NZ Nq.ND d1
 subst this;show r.QG c
end
instance Cx.Vs(X:Cx)(E:θ->MH->Prop):Cx:={X with xe:=E}
instance Cx.nox(X:Cx):Cx:=X.Vs λ_ _=>NU
def Cx.Ok.Vs{X:Cx}(ok:X.Ok)(E:θ->MH->Prop):(X.Vs E).Ok:=
 (ok.VT,ok.RR,ok.Wf,ok.blt,ok.WA,ok.QG,ok.Tn,ok.cab,ok.hd,ok.QZ,ok.stk,ok.exf,ok.bs,ok.bsz,ok.noex,ok.exfs,ok.VY,ok.frf)
def Cx.Ok.Ss{X:Cx}(ok:(X.Vs E).Ok):X.Ok:=
 (ok.VT,ok.RR,ok.Wf,ok.blt,ok.WA,ok.QG,ok.Tn,ok.cab,ok.hd,ok.QZ,ok.stk,ok.exf,ok.bs,ok.bsz,ok.noex,ok.exfs,ok.VY,ok.frf)
section
variable{X:Cx}{pins:List (Addr×Obj)}{σ:St}{H:Hp}{s:Shared}{E:Value->Shared->Prop}
def f'.Vs(I:f' X MZ σ H s)(E:θ->MH->Prop):f' (X.Vs E) MZ σ H s:=(I.ok.Vs E,I.os,I.Rz,I.ς,I.Xx,I.N8,I.N4,I.UH,I.Yz,I.Oc,I.PJ)
def f'.Ss(I:f' (X.Vs E) MZ σ H s):f' X MZ σ H s:=(I.ok.Ss,I.os,I.Rz,I.ς,I.Xx,I.N8,I.N4,I.UH,I.Yz,I.Oc,I.PJ)
def SP.Ss(h:SP (X.Vs E) MZ D f s'):SP X MZ D f s':=by
 cases f with
 |next=>let⟨a,H',I,q⟩:=h;show(a,H',I.Ss,q)
 |Yg=>let⟨a,H',I,q⟩:=h;show(a,H',I.Ss,q)
 |T_=>let⟨a,H',I,q⟩:=h;show(a,H',I.Ss,q)
 |UT u=>let⟨v,a,H',I,r,q⟩:=h;show(v,a,H',I.Ss,r,q)
def BA.nox{st:γ Nr}(h:BA X.nox st t):BA X st t:=λMZ s σ H D I hw=>
 NG (h MZ s σ H D (I.Vs _) hw) (λ_ _ q=>q.Ss) λ_ _ z=>NU.Nv z
end
section
variable{X:Cx}{st:Stmt}{rest:List Stmt}{t u:TS}{e:Expr}{te:TE}{pos:Pos}
abbrev Sh:TS:=λD σ H=>D.nx σ H
abbrev aP(t u:TS):TS:=λD σ H=>t {D with nx:=u D} σ H
def wh:BA X [] Sh:=λ_ _ a H _ I h=>RH (a,H,I,h)
def m_(h1:PS X st t)(h2:BA X Rr u):BA X (st::Rr) (aP t u):=by
 intro a s c H D I h;refine Sq (ri (h1 a s c H {D with nx:=u D} I h) λf d q=>?_);cases f with
 |next=>
  let⟨b,H',g,q⟩:=q;show h2 a d b H' D g q
 |UT v=>show q
 |Yg=>show q
 |T_=>show q
def k_(h1:PS X st t):BA X [st] t:=by
 intro a s b H D I h;refine Sq (ri (h1 a s b H D I h) λf c q=>?_);cases f with
 |next=>show RH q
 |UT v=>show q
 |Yg=>show q
 |T_=>show q
abbrev tBreak:TS:=λD σ H=>D.bk σ H
def iZ:PS X (.Break Ng) tBreak:=λ_ _ a H _ I h=>wpAny_Break (a,H,I,h)
def f'.Yy{b:St}(I:f' X a b H s):interactive X.KK=η:=by simp[interactive,I.ok.RR]
abbrev yj(te:TE):TS:=λD σ H=>te σ H λ_ H1=>D.nx σ H1
def BB(g:PE X e te)(f:(Su e ε Ng.SV X.KK=pure η)>>>4):PS X (.Ro e Ng) (yj te):=by
 intro a s c H D I h;show wpAny_Expr_any (ri (g a s c H _ I h) λv k b=>by let⟨x,j,i,l,d⟩:=b;show(c,j,i,d)) I.Yy f
abbrev gh(te:TE):TS:=λD σ H=>te σ H D.rt
def o9(g:PE X e te):PS X (.XH (δ e) Ng) (gh te):=by
 intro a s c H D I h;show wpAny_Return_some (ri (g a s c H _ I h) λv k b=>by let⟨x,j,i,d,f⟩:=b;show(x,c,j,i,d,f))
abbrev zR(c:TT)(t u:TS):TS:=λD σ H=>c σ H λb H1=>if b=ξ then t D σ H1 else u D σ H1
def u_(n:PT X c tc)(p:BA X a t)(o:BA X b u):PS X (.If c a b Ng) (zR tc t u):=by
 intro f s g H D I h;refine wpAny_If (ri (n f s g H _ I h) λd j i=>?_);let⟨m,l,k⟩:=i;cases d with
 |ξ=>show p f j g m D l k
 |η=>show o f j g m D l k
abbrev tNever:TS:=λ_ _ _=>NU
def II:PS X st tNever:=λ_ _ _ _ _ _ h=>h.Nv
end
@[reducible]def TG:=V->St->Hp->(St->Hp->Prop)->Prop
@[reducible]def TGs:=List V->St->Hp->(St->Hp->Prop)->Prop
abbrev PG(X:Cx)(target:Ro)(t:TG):Prop:=
 ∀(MZ:γ (υ×Rm))(s:MH)(σ:St)(H:Hp)(v:V)(u:θ)(Q:St->Hp->Prop),f' X MZ σ H s->ad v u->t v σ H Q->
  BT (Cl X.Ξ X.w) X.A (U1 target X.KK u) (λ_ s'=>∃WD H',f' X MZ WD H' s'/\Q WD H') X.xe s
abbrev IJ(X:Cx)(ts:γ Ro)(t:TGs):Prop:=
 ∀(MZ:γ (υ×Rm))(s:MH)(σ:St)(H:Hp)(vs:γ V)(us:γ θ)(Q:St->Hp->Prop),f' X MZ σ H s->ae vs us->t vs σ H Q->
  BT (Cl X.Ξ X.w) X.A (assignInOrder ((U0 ts X.KK).NL (·.2)) us) (λ_ s'=>∃WD H',f' X MZ WD H' s'/\Q WD H') X.xe s
@[reducible]def HF:=V->V->V->Hp->(Hp->Prop)->Prop
abbrev xQ(X:Cx)(t:HF):Prop:=
 ∀(MZ:γ (υ×Rm))(s:MH)(σ:St)(H:Hp)(o i v:V)(ov iv u:θ)(Q:Hp->Prop),f' X MZ σ H s->ad o ov->ad i iv->ad v u->t o i v H Q->
  BT (Cl X.Ξ X.w) X.A (setItem ov iv u) (λ_ s'=>∃H',f' X MZ σ H' s'/\Q H') X.xe s
section
variable{X:Cx}{pos:Pos}
abbrev Bv(i:Φ):TG:=λv σ H Q=>Q (σ.RY i (δ v)) H
def bK(e:X.N.Nx)(c:X.N[i]?<*x)(b:DG X.KK.NE x)(d:(X.fn x=ξ\/X.KK.NE.MP.ρ x<*.local)>>>8):PG X (.Nz x Ng) (Bv i):=by
 intro a s g H v u Q I r h;show wpAny_assign_Name (AO I e c b r (λs' f=>(_,H,f,h)) d)
abbrev gNil:TGs:=λvs σ H Q=>vs=[]/\Q σ H
abbrev ss(t:TG)(u:TGs):TGs:=λvs σ H Q=>∃v r,vs=v::r/\t v σ H λWD H'=>u r WD H' Q
def bJ:IJ X [] gNil:=by
 intro a s b H vs us Q I r h;let⟨e,h⟩:=h;subst e;cases r;show assignInOrder_nil (b,H,I,h)
def F'(h1:PG X e t)(h2:IJ X d u)(k:((U0 (e::d) X.KK).NL (·.2)=U1 e X.KK::(U0 d X.KK).NL (·.2))>>>4):IJ X (e::d) (ss t u):=by
 intro a s f H vs us Q I r h;let⟨v,o,l,h⟩:=h;subst l;cases r with
 |NX r i=>
  rw[k];refine assignInOrder_cons (ri (h1 a s f H _ _ _ I r h) λ_ g c=>?_);let⟨b,n,m,j⟩:=c;show h2 a g b n _ _ Q m i j
inductive zr(K:Frag)(n:Nat)(t:TGs)(v:V)(σ:St)(H:Hp)(Q:St->Hp->Prop):Prop
 |mk (a xs:_) (_:v=.ref a) (_:u0 K H a xs) (_:xs.length=n) (_:t xs σ H Q)
def gE{k:Φ}(w:X.T0=ξ)(h:IJ X d t)(p:((U0 d X.KK).β=n)>>>4)(Rv:((U0 d X.KK).Wi (·.1)=ε)>>>4):PG X (.RP d k Ng) (zr X.K n t):=by
 intro c s f H v u Q I r hw;let⟨a,xs,x,m,q,hw⟩:=hw;subst x;cases r;let⟨i,g,l,hz⟩:=I.Px m;refine assign_Tuple_tuple (I.ok.hd w) l (by simp[p,<-q,g.β]) Rv λh' j=>?_;let y:f' X c f H {s with ο:=h'}:=I.SW (t':=s.MT) λb o e=>j b o (M8 (lt_size e)) e;show h c _ f H xs _ Q y (by simpa using g) hw
abbrev Jz(to ti:TE)(t:HF):TG:=λv σ H Q=>to σ H λo H1=>ti σ H1 λi H2=>t o i v H2 λH3=>Q σ H3
def EJ(z:PE X o to)(A:PE X i j)(w:xQ X t)(B:(∀v,U1 (.Ui o i Ng) X.KK v=(do
   let b <-holding [v] (OJ o X.KK)
   let c <-holding [v,b] (OJ i X.KK)
   standAt Ng
   holding [v,b,c] (setItem b c v)
   release [v,b,c] []))>>>7):PG X (.Ui o i Ng) (Jz to j t):=by
 intro a s d H v u Q I r h;rw[B];refine d_ (NQ (ri (z a s d H _ I h) λb k f=>?_));let⟨x,L,E,m,q⟩:=f;refine d_ (NQ (ri (A a k d L _ E q) λc s2 e=>?_));let⟨y,J,D,l,p⟩:=e;refine d_ (PP (d_ (NQ (ri (w a s2 d J x y v b c u _ D m l r p) λ_ M g=>?_))));let⟨F,C,n⟩:=g;show wpAny_release (d,F,C,n)
abbrev aK(te:TE)(g:TG):TS:=λD σ H=>te σ H λx H1=>g x σ H1 D.nx
def EK(n:PE X e f)(m:PG X b g)(l:(swapsWithSole [b] e Ng.SV X.KK=pure η)>>>4)(hw:(swappedStores [b] e X.KK=pure ε)>>>4)(h1:((U0 [b] X.KK).NL (·.2)=[U1 b X.KK])>>>4):PS X (.WM [b] e Ng) (aK f g):=by
 intro a s d H D I h;refine wpAny_Assign_stores (ri (n a s d H _ I h) λv i c=>?_) l hw;let⟨x,p,o,j,k⟩:=c;rw[h1];show ri (m a i d p x v _ o j k) λ_ s2 q=>q
def wO(p:X.N.Nx)(m:X.N[i]?<*x)(k:DG X.KK.NE x)(o:PE X e f)(l:(Su e (δ (.Nz x a)) Ng.SV X.KK=pure η)>>>4)(n:(X.fn x=ξ\/X.KK.NE.MP.ρ x<*.local)>>>8):PS X (.WM [.Nz x a] e Ng) (aK f (Bv i)):=by
 intro b s d H D I h;refine wpAny_Assign_Name (ri (o b s d H _ I h) λv u c=>?_) l;let⟨y,t,r,g,j⟩:=c;show AO r p m k g (λs2 q=>(_,t,q,j)) n
abbrev qf(c:TT)(tb:TS):TS:=λD σ H=>∃W:Φ->St->Hp->Prop,(∃m,W m σ H)/\∀m σ H,W m σ H->
 c σ H λb H1=>if b=ξ then ∃N:St->Hp->Prop,(∀WD H',N WD H'->∃m',m'<m/\W m' WD H')/\tb {D with nx:=N,ct:=N,bk:=D.nx} σ H1 else D.nx σ H1
def cF(hp:Ov (Cl X.Ξ X.w) X.A X.KK X.xe)(L:PT X c tc)(M:BA X j E):PS X (.While c j [] Ng) (qf tc E):=by
 intro d s B H D I h;let⟨W,⟨J,w0⟩,i⟩:=h;refine wpAny_While (codeAny_whileLoop (λn s'=>∃g H',f' X d g H' s'/\W n g H') ?_ J (B,H,I,w0));rintro n F⟨e,z,O,C⟩;refine RF hp (ri (L d F e z _ O (i n e z C)) λb s2 r=>?_);let⟨y,x,m⟩:=r;cases b with
 |ξ=>
  let⟨N,u,m⟩:=m;rw[Id ζ];refine RF hp (ri (M d s2 e y _ x m) λf P l=>?_);cases f with
  |next=>
   let⟨a,k,t,o⟩:=l;let⟨p,q,w3⟩:=u a k o;show(p,q,a,k,t,w3)
  |T_=>
   let⟨a,k,t,o⟩:=l;let⟨p,q,w3⟩:=u a k o;show(p,q,a,k,t,w3)
  |Yg=>show l
  |UT v=>show l
 |η=>
  rw[Ω MX.M9];show RH (e,y,x,m)
end
structure It where
 go:Nat->Hp->Prop
 yld:Nat->Hp->V->Hp->Prop
 stop:Nat->Hp->Prop
abbrev be(X:Cx)(MZ:γ (υ×Rm))(H:Hp)(b:υ):Prop:=
 H b=ε/\b≠X.KK.OZ/\b∉X.fs/\(b∈X.ex\/X.RJ⁻¹≤b)/\(∀x c,X.KK.Rj.ρ x<*c->c≠b)/\∀p∈X.pn++MZ,p.1≠b
def f'.ZZ{f:St}{b:υ}(I:f' X a f H s)(d:s⁻¹≤b)(g:H' b=ε):be X a H' b:=by
 refine(g,Qc (Ψ I.lt d),I.nofs d,.NT (IO I.sz d),λx c e z=>?_,λp hp z=>?_)
 .obtain ⟨v,q⟩:=I.N8 x c e;show MJ (Ψ q.lt (by rw[z];show d)) (Qq _)
 .exact MJ (Ψ (lt_size (I.Yz p hp).1) (by rw[z];show d)) (Qq _)
structure dI(P:Program)(w:World)(K:Frag)(tg:Expr)(J:It)(fp:List Addr)(it:Addr)(tn:Nat->Heap->Prop):Prop where
 mem:it∈fp
 obj:∀i h,tn i h->∀b∈fp,∃o,h.get? b=some o/\∀v,o.data≠.cell v
 keep:∀i h h',tn i h->(∀b∈fp,∀o,h.get? b<*o->h'.get? b<*o)->tn i h'
 item:∀(X:Cx),X.prog=P->X.w=w->X.K=K->X.calm=true->∀(i:Nat)(pins:List (Addr×Obj))(s:Shared)(σ:St)(H:Hp)(E:Value->Shared->Prop),f' X pins σ H s->(∀b∈fp,be X pins H b)->tn i s.heap->J.go i H->
  wpAny (model P w) X.A (pyNext (.ref it)) (λr s1=>∃u,r=some u/\
   wpAny (model P w) X.A (letOwnedTupleGo tg (.ref it) u) (λ_ s2=>∃x H',f' X pins σ H' s2/\ad x u/\J.yld i H x H'/\tn (i+1) s2.heap/\∀b∈fp,H' b=none) E s1) E s
 done:∀(X:Cx),X.prog=P->X.w=w->X.K=K->X.calm=true->∀(i:Nat)(pins:List (Addr×Obj))(s:Shared)(σ:St)(H:Hp)(E:Value->Shared->Prop),f' X pins σ H s->(∀b∈fp,be X pins H b)->tn i s.heap->J.stop i H->
  wpAny (model P w) X.A (pyNext (.ref it)) (λr s1=>r=none/\f' X pins σ H s1) E s
 self:∀(A:Around)(i:Nat)(s:Shared)(Q:Value->Shared->Prop)(E:Value->Shared->Prop),tn i s.heap->Q (.ref it) s->wpAny (model P w) A (pyIter (.ref it)) Q E s
@[reducible]def TI:=St->Hp->(It->Hp->Prop)->Prop
inductive K9(X:Cx)(pins:List (Addr×Obj))(σ:St)(tg:Expr)(R:It->Hp->Prop)(itv:Value)(s2:Shared):Prop
 |mk (it:Addr) (fp:List Addr) (tn:Nat->Heap->Prop) (J:It) (H':Hp) (_:itv=.ref it) (_:f' X pins σ H' s2) (_:dI X.prog X.w X.K tg J fp it tn) (_:tn 0 s2.heap) (_:(∀b∈fp,be X pins H' b)) (_:R J H')
abbrev PI(X:Cx)(tg Qr:Ro)(wi:TI):Prop:=
 ∀(MZ:γ (υ×Rm))(s:MH)(σ:St)(H:Hp)(R:It->Hp->Prop),f' X MZ σ H s->wi σ H R->
  BT (Cl X.Ξ X.w) X.A (OJ Qr X.KK) (λv s1=>BT (Cl X.Ξ X.w) X.A (VR v) (K9 X MZ σ tg R) X.xe s1) X.xe s
def fo{M:Model}{A:N0}(c:s.ο.ψ it<*o)(f:o.OM=.MM n)(e:o.NH=.N_ vs)(d:["enumerate","zip","dict_itemiterator","dict_reverseitemiterator","odict_iterator","itertools.zip_longest","itertools.pairwise"].M7 n=η)(a:Q () s):BT M A (Xh b (.π it) u) Q E s:=by
 unfold Xh;cases b<;>first
  |show j' a
  | (cases u<;>first
    |show j' a
    | (refine d_ (YA c ?_)
       rw[f,e];change BT M A (if (["enumerate","zip","dict_itemiterator","dict_reverseitemiterator","odict_iterator","itertools.zip_longest","itertools.pairwise"].M7 n&&vs[0]?==δ (Nw _))=ξ then _ else _) Q E s;rw[Ω (by intro h;rw[d,MX.false_and]at h;cases h)];show j' a))
abbrev G1(K:Nl)(a:υ):It:=
 ⟨λi H=>∃xs x,o5 K H a xs/\xs[i]?<*x,λi H x H'=>H'=H/\∀xs,o5 K H a xs->xs[i]?<*x,λi H=>∃xs,o5 K H a xs/\xs.β≤i⟩
abbrev G2(K:Nl)(a:υ):It:=
 ⟨λi H=>∃xs x,u0 K H a xs/\xs[i]?<*x,λi H x H'=>H'=H/\∀xs,u0 K H a xs->xs[i]?<*x,λi H=>∃xs,u0 K H a xs/\xs.β≤i⟩
abbrev Fk(lo:ML)(n:Φ):It:=(λi _=>i<n,λi H x H'=>H'=H/\x=.MQ (lo+i),λi _=>n≤i)
def d8{K:Nl}(a it:υ):dI P w K W (G1 K a) [it] it (λi h=>h.Yd it a i)  where
 mem:=by simp
 Ua:=λi h st b g=>by
  let e:b=it:=by simpa using g
  subst e;let⟨o,e,c,d⟩:=st;show(o,e,λv z=>by rw[d]at z;cases z)
 P_:=λi h h' st k=>st.at λo e=>k it (!1) o e
 Ut:=by
  intro X y hw A M i f s L H E I m st t;subst y hw A;let⟨xs,x,l,r⟩:=t;let⟨q,n,p,hz⟩:=I.Qt l;let⟨u,R,O⟩:=n.VE r;let⟨J,F,S,D,C,B⟩:=m it (!1);refine wpAny_pyNext_list_item st p.QS (x:=u) (by simpa using R) λh' j N=>?_;let U:f' X f L H {s with ο:=h'}:=I.OH (t':=s.MT) (λb o g e=>(N.2 b g).ν e) J F D C B;let⟨o,e,c,d⟩:=id j;show(u,1,fo (s:={s with ο:=h'}) e c d (!0) (x,H,U,O,(1,λys Q=>by rw[I.list_inj Q l];show r),j,λb g=>(m b g).1))
 done:=by
  intro X y hw A M i f s L H E I m st t;subst y hw A;let⟨xs,l,r⟩:=t;let⟨q,n,p,hz⟩:=I.Qt l;let⟨J,F,S,D,C,B⟩:=m it (!1);let Y:=n.β;show wpAny_pyNext_list_end (I.ok.hd M) st p.QS (by simp;lia) λh' T=>(1,I.OH (t':=s.MT) (λb o g e=>T b o g e) J F D C B)
 Yj:=λ_ _ _ _ _ st h=>wpAny_pyIter_listiter st h
def K_{K:Nl}(a it:υ):dI P w K W (G2 K a) [it] it (λi h=>h.Rn it a i)  where
 mem:=by simp
 Ua:=λi h st b j=>by
  let e:b=it:=by simpa using j
  subst e;let⟨o,e,c,d⟩:=st;show(o,e,λv z=>by rw[d]at z;cases z)
 P_:=λi h h' st k=>st.at λo e=>k it (!1) o e
 Ut:=by
  intro X y hw A M i f s L H E I n st t;subst y hw A;let⟨xs,x,m,r⟩:=t;let⟨g,q,p,hz⟩:=I.Px m;let⟨u,R,O⟩:=q.VE r;let⟨J,F,S,D,C,B⟩:=n it (!1);refine wpAny_pyNext_tuple_item st (show s.ο.Pa a g.χ from p) (x:=u) (by simpa using R) λh' l N=>?_;let U:f' X f L H {s with ο:=h'}:=I.OH (t':=s.MT) (λb o j e=>(N.2 b j).ν e) J F D C B;let⟨o,e,c,d⟩:=id l;show(u,1,fo (s:={s with ο:=h'}) e c d (!0) (x,H,U,O,(1,λys Q=>by rw[I.tuple_inj Q m];show r),l,λb j=>(n b j).1))
 done:=by
  intro X y hw A M i f s L H E I n st t;subst y hw A;let⟨xs,m,r⟩:=t;let⟨g,q,p,hz⟩:=I.Px m;let⟨J,F,S,D,C,B⟩:=n it (!1);let Y:=q.β;show wpAny_pyNext_tuple_end (I.ok.hd M) st (show s.ο.Pa a g.χ from p) (by simp;lia) λh' T=>(1,I.OH (t':=s.MT) (λb o j e=>T b o j e) J F D C B)
 Yj:=λ_ _ _ _ _ st h=>wpAny_pyIter_tupleiter st h
def kn{K:Nl}(it:υ)(lo:ML)(n:Φ):dI P w K M (Fk lo n) [it] it (λi h=>IsRangeIter h it (lo+(i:Φ)*1) ((n:ML)-(i:Φ)) 1)  where
 mem:=by simp
 Ua:=λi h st b c=>by
  let e:b=it:=by simpa using c
  subst e;show(_,st,λv z=>by
   let B:Data.N_ _=Data.N8 v:=z;cases B)
 P_:=λi h h' st k=>k it (!1) _ st
 Ut:=by
  intro X l hw m j i a s y H E I f st g;subst l hw m;let⟨x,u,F,r,q,p⟩:=f it (!1);let W:=Walks.N2 (Ξ:=X.Ξ) (w:=X.w) (I.ok.hd j) it lo 1 n;refine W.Ut i s _ _ g st λv h' A D d C=>?_;let⟨t,ζ⟩:=D;let L:f' X a y H {s with ο:=h',MT:=A}:=I.OH (λb o c e=>C b o (by simpa using c) e) x u r q p;refine(0,fo (s:={s with ο:=h',MT:=A}) (n:="range_iterator") d ζ ζ (!0) (.MQ (lo+i),H,L,(t,3),(1,1),d,λb c=>(f b c).1));rw[ML.mul_one]
 done:=by
  intro X l hw m j i a s y H E I f st g;subst l hw m;let⟨x,u,F,r,q,p⟩:=f it (!1);show wpAny_pyNext_range_end (I.ok.hd j) st (by have:n≤i:=g;lia) λh' J=>(1,I.OH (t':=s.MT) (λb o c e=>J b o c e) x u r q p)
 Yj:=λ_ _ _ _ _ st h=>wpAny_pyIter_rangeiter st h
section
variable{X:Cx}{tg:Expr}
inductive xF(K:Frag)(R:It->Hp->Prop)(x:V)(H1:Hp):Prop
 |mk (a:_) (_:x=.ref a) (_:(∃xs,o5 K H1 a xs)) (_:R (G1 K a) H1)
abbrev zo(K:Nl)(tl:TE):TI:=λσ H R=>tl σ H (xF K R)
inductive zh(K:Frag)(R:It->Hp->Prop)(x:V)(H1:Hp):Prop
 |mk (a:_) (_:x=.ref a) (_:(∃xs,u0 K H1 a xs)) (_:R (G2 K a) H1)
abbrev JA(K:Nl)(tl:TE):TI:=λσ H R=>tl σ H (zh K R)
def Cm(t:PE X l j):PI X tg l (zo X.K j):=by
 intro c s i H R I h;refine ri (t c s i H _ I h) λv d g=>?_;let⟨x,w,f,k,m⟩:=g;let⟨a,e,⟨xs,r⟩,q⟩:=m;subst e;cases k;let⟨n,y,p,hz⟩:=f.Qt r;refine RT p.QS ?_;refine(d⁻¹,[d⁻¹],_,_,w,1,f.SW (t':=d.MT) λb o e=>sy _ e,d8 a _,(_,MS _ ζ,5),λb u=>?_,q);let e:b=d⁻¹:=by simpa using u
 subst e;show f.ZZ (LT _) (f.Oc.OF (LT _))
def qK(t:PE X l k):PI X tg l (JA X.K k):=by
 intro d s j H R I h;refine ri (t d s j H _ I h) λv c i=>?_;let⟨x,w,f,m,n⟩:=i;let⟨a,e,⟨xs,r⟩,q⟩:=n;subst e;cases m;let⟨g,y,p,hz⟩:=f.Px r;refine Qy (show c.ο.Pa a g.χ from p) ?_;refine(c⁻¹,[c⁻¹],_,_,w,1,f.SW (t':=c.MT) λb o e=>sy _ e,K_ a _,(_,MS _ ζ,5),λb u=>?_,q);let e:b=c⁻¹:=by simpa using u
 subst e;show f.ZZ (LT _) (f.Oc.OF (LT _))
def iV{d:St}{lo a:ML}(I:f' X c d H s)(h1:-(2^62)≤lo)(h2:lo<2^62)(j:-(2^62)≤a)(i:a<2^62)(q:R (Fk lo (a-lo).On) H):BT (Cl X.Ξ X.w) X.A (VR (.π s⁻¹)) (K9 X c d tg R) E {s with ο:=s.ο.Ni {OM:=.MM "range",NH:=.N_ #[.MQ lo t,.MQ a u,.MQ 1 v]},MT:=g}:=by
 refine wpAny_pyIter_range (IsRange.Xw ..) (small_one h1 h2 j i) ?_;let f:f' X c d H {s with ο:=s.ο.Ni {OM:=.MM "range",NH:=.N_ #[.MQ lo t,.MQ a u,.MQ 1 v]},MT:=g}:=I.SW λb o e=>sy _ e;refine((s.ο.Ni {OM:=.MM "range",NH:=.N_ #[.MQ lo t,.MQ a u,.MQ 1 v]}).Np.MV,[(s.ο.Ni {OM:=.MM "range",NH:=.N_ #[.MQ lo t,.MQ a u,.MQ 1 v]}).Np.MV],_,_,H,1,
  f.SW (t':=g) λb o e=>sy _ e,kn _ lo (a-lo).On,3,λb h=>?_,q)
 .let l:lo+((0:Φ):ML)*1=lo:=by simp
  let k:(((a-lo).On:Φ):ML)-((0:Φ):ML)=Builtin.Range.rangeSize lo a 1:=by rw[rangeSize_one];split<;>lia
  change IsRangeIter _ _ (lo+((0:Φ):ML)*1) ((((a-lo).On:Φ):ML)-((0:Φ):ML)) 1;rw[l,k];show MS _ ζ
 .let e:b=(s.ο.Ni {OM:=.MM "range",NH:=.N_ #[.MQ lo t,.MQ a u,.MQ 1 v]}).Np.MV:=by simpa using h
  subst e;show f.ZZ (LT _) (f.Oc.OF (LT _))
inductive xE(R:It->Hp->Prop)(vs:List V)(H1:Hp):Prop
 |mk (j:Int) (_:vs=[.int j]) (_:-(2^62)≤j) (_:j<2^62) (_:R (Fk 0 j.toNat) H1)
abbrev vN(ta:TA):TI:=λσ H R=>ta σ H (xE R)
inductive xD(R:It->Hp->Prop)(vs:List V)(H1:Hp):Prop
 |mk (i j:Int) (_:vs=[.int i,.int j]) (_:(-(2^62)≤i/\i<2^62/\-(2^62)≤j/\j<2^62)) (_:R (Fk i (j-i).toNat) H1)
abbrev zm(ta:TA):TI:=λσ H R=>ta σ H (xD R)
def G3(n:Gl X "range")(m:X.mg "range"=ε)(o:PA X [a] ta)(l:(Θ [a] X.KK=[(η,OJ a X.KK,)])>>>4):PI X tg (.QE (.Nz "range" p) [a] [] Ng) (vN ta):=by
 intro b s f H R I h;refine Call_ (An I n m boot_range (Oj.Sf.QV (ri (o Ng b s f H _ I h) λus v d=>?_) l ζ));let⟨vs,w,u,i,c⟩:=d;let⟨j,e,c,k,q⟩:=c;subst e;cases i with
 |NX r g=>
  cases g;let⟨t,ζ⟩:=r;show call_range_1 (iV u (!6) (!6) c k (by simpa using q))
def eI{p Ng:Sn}(y:Gl X "range")(x:X.mg "range"=ε)(z:PA X [a,b] ta)(w:(Θ [a,b] X.KK=[(η,OJ a X.KK,),(η,OJ b X.KK,)])>>>4)(d:(Θ [b] X.KK=[(η,OJ b X.KK,)])>>>4):PI X tg (.QE (.Nz "range" p) [a,b] [] Ng) (zm ta):=by
 intro c s l H R I h;refine Call_ (An I y x boot_range (Oj.Sf.QV (ri (z Ng c s l H _ I h) λus B k=>?_) (by rw[w,d]) (by rw[d];rfl)));let⟨vs,C,A,m,g⟩:=k;let⟨i,j,e,⟨g,v,u,o⟩,q⟩:=g;subst e;cases m with
 |NX r f=>
  cases f with
  |NX n f=>
   cases f;let⟨t,ζ⟩:=r;let⟨t',ζ⟩:=n;show call_range_2 (iV A g v u o q)
abbrev zS(wi:TI)(g:TG)(tb:TS):TS:=λD σ H=>wi σ H λJ H1=>∃W:Φ->Φ->St->Hp->Prop,(∃m,W 0 m σ H1)/\∀i m σ H,W i m σ H->
 (J.Sv i H/\D.nx σ H)\/(J.go i H/\∃N:St->Hp->Prop,(∀WD H',N WD H'->∃m',m'<m/\W (i+1) m' WD H')/\∀x H',J.X6 i H x H'->g x σ H' λσ2 H2=>tb {D with nx:=N,ct:=N,bk:=D.nx} σ2 H2)
abbrev gB(fp:γ υ)(h:NR):γ (υ×Rm):=fp.W_ λb=>(h.ψ b).NL λo=>(b,o,)
def G4(a:b∈c)(e:h.ψ b<*o):(b,o,)∈gB c h:=γ.mem_filterMap.Om (b,a,by rw[e];rfl)
def oY(hp:p∈gB c h):p.1∈c/\h.ψ p.1<*p.2:=by
 let⟨b,a,e⟩:=γ.mem_filterMap.mp hp;cases q:h.ψ b with
 |ε=>rw[q]at e;cases e
 |δ o=>
  rw[q]at e;let e':(b,o,)=p:=ω.δ.QG e;subst e';show(a,q)
def f'.pinned{c:St}(I:f' X a c H s)(i:∀b∈g,be X a H b)(h:∀b∈g,∃o,s.ο.ψ b=δ o/\∀v,o.NH≠.N8 v):f' X (a++gB g s.ο) c H s:=
 I.pins_of λp hp=>(Na.mp hp).Nv (λz=>I.Yz p (Nn _ z)) λz=>by
  let⟨f,e⟩:=oY z;let⟨l,k,j,_⟩:=i p.1 f;let⟨o,e',d⟩:=h p.1 f;rw[e]at e';cases e';show(e,l,k,j,d)
def f'.WS{b:St}(I:f' X (a++pl) b H s):f' X a b H s:=I.pins_of λp hp=>I.Yz p (Nn _ (RL _ hp))
def Db(hp:Ov (Cl X.Ξ X.w) X.A X.KK X.xe)(hc:X.T0=ξ)(hi:PI X tg Qr wi)(hg:PG X tg g)(p:BA X M tb)(hs:(∀x,PV Qr X.KK x=pure x)>>>7):PS X (.For tg Qr M [] Ng) (zS wi g tb):=by
 intro c s σ H D I h;refine wpAny_For (ri (hi c s σ H _ I h) λv s1 h1=>ri h1 λag s2 h2=>?_) hs;let⟨it,L,tn,J,H2,e,I2,T,Q,f2,W,⟨m0,w0⟩,B⟩:=h2;subst e;let l:∀{H':Hp},(∀b∈L,H' b=ε)->∀b∈L,be X c H' b:=λhn b p=>(hn b p,(f2 b p).2);refine codeAny_forLoop_any (λn s'=>∃i k H',f' X c k H' s'/\tn i s'.ο/\(∀b∈L,H' b=ε)/\W i n k H') ?_ m0 ((0),σ,H2,I2,Q,λb p=>(f2 b p).1,w0);rintro n s3⟨i,j,O,I3,C,F,w3⟩;rcases B i n j O w3 with⟨Sv,qn⟩|⟨go,N,hN,Xd⟩
 .refine RF hp (ri (T.done X ζ ζ ζ hc i c s3 j O X.xe I3 (l F) C Sv) λr s4⟨S,I4⟩=>?_);subst S;show RH (j,O,I4,qn)
 .refine RF hp (ri (T.Ut X ζ ζ ζ hc i c s3 j O X.xe I3 (l F) C go) λr s4⟨u,S,h4⟩=>?_);subst S;refine RF hp (ri h4 λ_ s5 U=>?_);let⟨x,H5,I5,r5,y5,z,Z⟩:=U;let ab:=I5.pinned (l Z) (T.Ua _ _ z);refine RF hp (ri (hg _ s5 j H5 x u _ ab r5 (Xd x H5 y5)) λ_ s6 Y=>?_);let⟨P,H6,I6,q6⟩:=Y;refine RF hp (ri (p _ s6 P H6 _ I6 q6) λf R y=>?_);let again:∀{a:St}{t:Hp},f' X (c++gB L s5.ο) a t R->N a t->∃m,m<n/\∃i k H',f' X c k H' R/\tn i R.ο/\(∀b∈L,H' b=ε)/\W i m k H':=λ{a t}q E=>by
   let⟨m',hm,w7⟩:=hN a t E;refine(m',hm,i+1,a,t,q.WS,T.P_ _ _ _ z λb p o e=>(q.Yz (b,o,) (Nn _ (Nn _ (G4 p e)))).1,λb p=>?_,w7);let⟨o,e,d⟩:=T.Ua _ _ z b p;show(q.Yz (b,o,) (Nn _ (Nn _ (G4 p e)))).2.1
  cases f with
  |next=>let⟨a,t,q,E⟩:=y;show again q E
  |T_=>let⟨a,t,q,E⟩:=y;show again q E
  |Yg=>let⟨a,t,q,y⟩:=y;show(a,t,q.WS,y)
  |UT v=>let⟨x7,a,t,q,r7,y⟩:=y;show(x7,a,t,q.WS,r7,y)
end
def dw{K:Nl}{g:TG}{k:TS}{D:XL}(c:Φ->St->Hp->Prop)(h0:c 0 b H)(r:∀i b H,i≤xs.β->c i b H->o5 K H a xs)(o:∀i x b H,xs[i]?<*x->c i b H->g x b H λd j=>k {D with nx:=c (i+1),ct:=c (i+1),bk:=D.nx} d j)(t:∀b H,c xs.β b H->D.nx b H):∃W:Φ->Φ->St->Hp->Prop,(∃m,W 0 m b H)/\∀i m b H,W i m b H->
   ((G1 K a).Sv i H/\D.nx b H)\/((G1 K a).go i H/\∃N:St->Hp->Prop,(∀f H',N f H'->∃l,l<m/\W (i+1) l f H')/\∀x H',(G1 K a).X6 i H x H'->g x b H' λd j=>k {D with nx:=N,ct:=N,bk:=D.nx} d j):=by
 refine(λi m b H=>m=xs.β-i/\i≤xs.β/\c i b H,(xs.β,!1,Nb _,h0),3);rintro i m b H⟨rfl,s,p⟩;let q:=r i b H s p;by_cases h:i<xs.β
 .refine .NT ((xs,xs[i],q,by simp[h]),c (i+1),λf H' n=>(xs.β-(i+1),!2,1,h,n),λx H' y=>?_);let⟨e,y⟩:=y;subst e;show o i x b _ (y xs q) p
 .let e:i=xs.β:=by lia
  subst e;show .NI ((xs,q,LT _),t b H p)
def nv{K:Nl}{g:TG}{k:TS}{D:XL}(c:Φ->St->Hp->Prop)(h0:c 0 b H)(r:∀i b H,i≤xs.β->c i b H->u0 K H a xs)(o:∀i x b H,xs[i]?<*x->c i b H->g x b H λd j=>k {D with nx:=c (i+1),ct:=c (i+1),bk:=D.nx} d j)(t:∀b H,c xs.β b H->D.nx b H):∃W:Φ->Φ->St->Hp->Prop,(∃m,W 0 m b H)/\∀i m b H,W i m b H->
   ((G2 K a).Sv i H/\D.nx b H)\/((G2 K a).go i H/\∃N:St->Hp->Prop,(∀f H',N f H'->∃l,l<m/\W (i+1) l f H')/\∀x H',(G2 K a).X6 i H x H'->g x b H' λd j=>k {D with nx:=N,ct:=N,bk:=D.nx} d j):=by
 refine(λi m b H=>m=xs.β-i/\i≤xs.β/\c i b H,(xs.β,!1,Nb _,h0),3);rintro i m b H⟨rfl,s,p⟩;let q:=r i b H s p;by_cases h:i<xs.β
 .refine .NT ((xs,xs[i],q,by simp[h]),c (i+1),λf H' n=>(xs.β-(i+1),!2,1,h,n),λx H' y=>?_);let⟨e,y⟩:=y;subst e;show o i x b _ (y xs q) p
 .let e:i=xs.β:=by lia
  subst e;show .NI ((xs,q,LT _),t b H p)
def HG{lo:ML}{g:TG}{j:TS}{D:XL}(f:Φ->St->Hp->Prop)(h0:f 0 a H)(o:∀i a H,i<n->f i a H->g (.MQ (lo+i)) a H λb h=>j {D with nx:=f (i+1),ct:=f (i+1),bk:=D.nx} b h)(q:∀a H,f n a H->D.nx a H):∃W:Φ->Φ->St->Hp->Prop,(∃m,W 0 m a H)/\∀i m a H,W i m a H->
   ((Fk lo n).Sv i H/\D.nx a H)\/((Fk lo n).go i H/\∃N:St->Hp->Prop,(∀c H',N c H'->∃k,k<m/\W (i+1) k c H')/\∀x H',(Fk lo n).X6 i H x H'->g x a H' λb h=>j {D with nx:=N,ct:=N,bk:=D.nx} b h):=by
 refine(λi m a H=>m=n-i/\i≤n/\f i a H,(n,!1,Nb _,h0),3);rintro i m a H⟨rfl,r,p⟩;by_cases d:i<n
 .refine .NT (d,f (i+1),λc H' l=>(n-(i+1),!6,1,d,l),λx H' y=>?_);let⟨e,y⟩:=y;subst e y;show o i a _ d p
 .let e:i=n:=by lia
  subst e;show .NI (LT _,q a H p)
def pZ(g:St->Hp->Prop)(μ:St->Hp->Φ)(h0:g a H)(k:∀a H,g a H->c a H λb e=>if b=ξ then i {D with nx:=λd H'=>g d H'/\μ d H'<μ a H,ct:=λd H'=>g d H'/\μ d H'<μ a H,bk:=D.nx} a e else D.nx a e)(f:∀a H Q h,(∀b e,Q b e->h b e)->c a H Q->c a H h):qf c i D a H:=by
 refine(λm a H=>m=μ a H/\g a H,(0,h0),3);rintro m a H⟨rfl,p⟩;refine f a H _ _ (λb e q=>?_) (k a H p);cases b with
 |ξ=>show(_,λd H'⟨j,l⟩=>(_,l,1,j),q)
 |η=>show q
@[reducible]def R2:=V->V->Hp->VK->Prop
abbrev AQ(X:Cx)(f:θ->θ->Y_ θ)(r:R2):Prop:=
 ∀(MZ:γ (υ×Rm))(s:MH)(σ:St)(H:Hp)(x y:V)(v u:θ)(Q:VK),f' X MZ σ H s->ad x v->ad y u->r x y H Q->
  BT (Cl X.Ξ X.w) X.A (f v u) (EP X MZ σ Q) X.xe s
abbrev JB(X:Cx)(f:θ->Y_ θ)(r:V->Hp->VK->Prop):Prop:=
 ∀(MZ:γ (υ×Rm))(s:MH)(σ:St)(H:Hp)(x:V)(v:θ)(Q:VK),f' X MZ σ H s->ad x v->r x H Q->
  BT (Cl X.Ξ X.w) X.A (f v) (EP X MZ σ Q) X.xe s
abbrev Dc(X:Cx)(f:θ)(r:γ V->Hp->VK->Prop):Prop:=
 ∀(MZ:γ (υ×Rm))(s:MH)(σ:St)(H:Hp)(xs:γ V)(us:γ θ)(Q:VK),f' X MZ σ H s->ae xs us->r xs H Q->
  BT (Cl X.Ξ X.w) X.A (Ql f us) (EP X MZ σ Q) X.xe s
abbrev Fl(r:R2)(ta tb:TE):TE:=λσ H Q=>ta σ H λx H1=>tb σ H1 λy H2=>r x y H2 Q
abbrev L5(r:V->Hp->VK->Prop)(ta:TE):TE:=λσ H Q=>ta σ H λx H1=>r x H1 Q
inductive rI(C:Int->Int->Prop)(g:Int->Int->V)(x:V)(y:V)(H:Hp)(Q:VK):Prop
 |mk (i j:_) (_:x=.int i) (_:y=.int j) (_:C i j) (_:Q (g i j) H)
inductive Fn(g:Int->Int->V)(x:V)(y:V)(H:Hp)(Q:VK):Prop
 |mk (i j:_) (_:x=.int i) (_:y=.int j) (_:Q (g i j) H)
inductive rU(g:Int->V)(x:V)(H:Hp)(Q:VK):Prop
 |mk (i:_) (_:x=.int i) (_:Q (g i) H)
section
variable{X:Cx}{a b c:Expr}{ta tb tc:TE}{pos:Pos}
def Gv(B:PE X a ta)(z:PE X b tb){e:St}{R:V->V->Hp->Prop}(I:f' X d e H s)(h:ta e H λx m=>tb e m λy g=>R x y g){f:θ->θ->Y_ θ}(t:∀v u s2 x y g,f' X d e g s2->ad x v->ad y u->R x y g->BT (Cl X.Ξ X.w) X.A (f v u) Q X.xe s2):BT (Cl X.Ξ X.w) X.A (OJ a X.KK) (λv j=>BT (Cl X.Ξ X.w) X.A (OJ b X.KK) (λu i=>BT (Cl X.Ξ X.w) X.A (f v u) Q X.xe i) X.xe j) X.xe s:=by
 refine ri (B d s e H _ I h) λv n l=>?_;let⟨x,m,D,p,r⟩:=l;refine ri (z d n e m _ D r) λu s2 k=>?_;let⟨y,g,C,o,q⟩:=k;show t v u s2 x y g C p o q
def Ae(i:AQ X (Rk op) r)(k:PE X a ta)(j:PE X b tb):PE X (.BinOp a op b Ng) (Fl r ta tb):=by
 intro d s e H Q I h;show wpAny_BinOp (Gv k j I h λv u s2 x y m l g f q=>i d s2 e m x y v u Q l g f q)
def Er(k:JB X (unaryOp op) r)(l:PE X a ta):PE X (.UnaryOp op a Ng) (L5 r ta):=by
 intro d s f H Q I h;show UnaryOp_ (ri (l d s f H _ I h) λv g e=>by let⟨x,n,m,i,j⟩:=e;show k d g f n x v Q m i j)
def JC{g:ML->ML->ML}(WX:∀(i j:ML)(t u:Xp)(s:MH)(Q:θ->MH->Prop)(E:θ->MH->Prop),C i j->Q (.MQ (g i j) s.MT) {s with MT:=s.MT+1}->BT (Cl X.Ξ X.w) X.A (f (.MQ i t) (.MQ j u)) Q E s):AQ X f (rI C λi j=>.MQ (g i j)):=by
 intro d s m H x y v u Q I k e h;let⟨i,j,ζ,ζ,l,q⟩:=h;let⟨t,ζ⟩:=k;let⟨t',ζ⟩:=e;show WX i j t t' s _ _ l (.MQ (g i j),H,I.Sg _,(_,ζ),q)
def yU{g:ML->ML->ML}(WX:∀(i j:ML)(t u:Xp)(s:MH)(Q:θ->MH->Prop)(E:θ->MH->Prop),Q (.MQ (g i j) s.MT) {s with MT:=s.MT+1}->BT (Cl X.Ξ X.w) X.A (f (.MQ i t) (.MQ j u)) Q E s):AQ X f (Fn λi j=>.MQ (g i j)):=by
 intro d s l H x y v u Q I k e h;let⟨i,j,ζ,ζ,q⟩:=h;let⟨t,ζ⟩:=k;let⟨t',ζ⟩:=e;show WX i j t t' s _ _ (.MQ (g i j),H,I.Sg _,(_,ζ),q)
def ur{g:ML->ML->MX}(WX:∀(i j:ML)(t u:Xp)(s:MH)(Q:θ->MH->Prop)(E:θ->MH->Prop),Q (.Pe (g i j)) s->BT (Cl X.Ξ X.w) X.A (f (.MQ i t) (.MQ j u)) Q E s):AQ X f (Fn λi j=>.bl (g i j)):=by
 intro d s l H x y v u Q I k e h;let⟨i,j,ζ,ζ,q⟩:=h;let⟨t,ζ⟩:=k;let⟨t',ζ⟩:=e;show WX i j t t' s _ _ (.bl (g i j),H,I,1,q)
abbrev JD(i j:ML):Prop:=0<j/\j<1073741824
abbrev xR(i j:ML):Prop:=(-(2^64)<i/\i<2^64)\/(-(2^64)<j/\j<2^64)
def xR.ok(h:xR i j):IntMulOk i j:=by
 rcases h with⟨h1,h2⟩|⟨h1,h2⟩
 .exact .of_left (intBits_le_64 h1 h2)
 .exact .of_right (intBits_le_64 h1 h2)
def lg:AQ X (Rk .Add) (Fn λi j=>.MQ (i+j)):=yU λ_ _ _ _ _ _ _ q=>add_int q
def wX:AQ X (Rk .Sub) (Fn λi j=>.MQ (i-j)):=yU λ_ _ _ _ _ _ _ q=>sub_int q
def wZ:AQ X (Rk .Mult) (rI xR λi j=>.MQ (i*j)):=JC λ_ _ _ _ _ _ _ d q=>mul_int q d.ok
def gM:AQ X (Rk .FloorDiv) (rI JD λi j=>.MQ (i/j)):=JC λi j _ _ _ _ _ d q=>by
 let h1:(0:ML)<j:=d.1;let h2:j<1073741824:=d.2;show floordiv_int (!6) (by rw[ML.fdiv_eq_ediv_of_nonneg i (!6)];show q) (.NI (Oj.noPylong_small (!2)))
def gL:AQ X (Rk .Mod) (rI (λ_ j=>0<j) λi j=>.MQ (i%j)):=JC λi j _ _ _ _ _ d q=>by
 let h1:(0:ML)<j:=d;show mod_int' (!6) (by rw[ML.fmod_eq_emod_of_nonneg i (!6)];show q)
def L6{g:ML->ML}(WX:∀(i:ML)(t:Xp)(s:MH)(Q:θ->MH->Prop)(E:θ->MH->Prop),Q (.MQ (g i) s.MT) {s with MT:=s.MT+1}->BT (Cl X.Ξ X.w) X.A (f (.MQ i t)) Q E s):JB X f (rU λi=>.MQ (g i)):=by
 intro d s j H x v Q I e h;let⟨i,ζ,q⟩:=h;let⟨t,ζ⟩:=e;show WX i t s _ _ (.MQ (g i),H,I.Sg _,(_,ζ),q)
def Es:JB X (unaryOp .USub) (rU λi=>.MQ (-i)):=L6 λ_ _ _ _ _ q=>neg_int q
end
abbrev yB:V->V->MX
 |.Rt,.Rt=>ξ|.Rt,.MQ _=>ξ|.MQ _,.Rt=>ξ|.Rt,.bl _=>ξ|.bl _,.Rt=>ξ|.Rt,.M_ _=>ξ|.M_ _,.Rt=>ξ
 |.MQ _,.MQ _=>ξ|.bl _,.bl _=>ξ|.M_ _,.M_ _=>ξ|.byt _,.byt _=>ξ
 |.MQ _,.M_ _=>ξ|.M_ _,.MQ _=>ξ|.bl _,.M_ _=>ξ|.M_ _,.bl _=>ξ
 |_,_=>η
abbrev rEq:R2:=λx y H Q=>yB x y=ξ/\Q (.bl (decide (x=y))) H
abbrev rNe:R2:=λx y H Q=>yB x y=ξ/\Q (.bl (!decide (x=y))) H
def nJ:decide (V.MQ i=V.MQ j)=(i==j):=by
 rw[MX.RD];simp
def sQ:decide (V.bl i=V.bl j)=(i==j):=by
 rw[MX.RD];simp
def nH:decide (V.M_ i=V.M_ j)=(i==j):=by
 rw[MX.RD];simp
def nK:decide (V.byt i=V.byt j)=(i.ND==j.ND):=by
 rw[MX.RD];cases i;cases j;simp
section
variable{X:Cx}{a b c:Expr}{ta tb tc:TE}{pos:Pos}
def AY{f:St}(I:f' X d f H s)(q:Q (.bl k) H)(e:k=k'):EP X d f Q (.Pe k') s:=by
 subst e;show(.bl k,H,I,1,q)
def bz:AQ X (O3 .Eq) rEq:=by
 intro g s k H x y v u Q I f d h;let⟨e,q⟩:=h;cases x with
 |Rt=>
  cases f;cases y with
  |Rt=>cases d;show Δ.Tc.eq_none_none (AY I q (!1))
  |bl j=>cases d;show Δ.Tc.eq_none_bool (AY I q (!1))
  |MQ j=>let⟨t',ζ⟩:=d;show Δ.Tc.eq_none_int (AY I q (!1))
  |M_ j=>let⟨t',ζ⟩:=d;show Δ.Tc.eq_none_str (AY I q (!1))
  |_=>show MJ (show η=ξ from e) MX.M9
 |bl i=>
  cases f;cases y with
  |Rt=>cases d;show Δ.Tc.eq_bool_none (AY I q (!1))
  |bl j=>cases d;show eq_bool (AY I q sQ)
  |M_ j=>let⟨t',ζ⟩:=d;show Δ.Vp.eq_bool_str (AY I q (!1))
  |_=>show MJ (show η=ξ from e) MX.M9
 |MQ i=>
  let⟨t,ζ⟩:=f;cases y with
  |Rt=>cases d;show Δ.Tc.eq_int_none (AY I q (!1))
  |MQ j=>let⟨t',ζ⟩:=d;show eq_int (AY I q nJ)
  |M_ j=>let⟨t',ζ⟩:=d;show Δ.Vp.eq_int_str (AY I q (!1))
  |_=>show MJ (show η=ξ from e) MX.M9
 |M_ i=>
  let⟨t,ζ⟩:=f;cases y with
  |Rt=>cases d;show Δ.Tc.eq_str_none (AY I q (!1))
  |bl j=>cases d;show Δ.Vp.eq_str_bool (AY I q (!1))
  |MQ j=>let⟨t',ζ⟩:=d;show Δ.Vp.eq_str_int (AY I q (!1))
  |M_ j=>let⟨t',ζ⟩:=d;show eq_str (AY I q nH)
  |_=>show MJ (show η=ξ from e) MX.M9
 |byt i=>
  let⟨t,ζ⟩:=f;cases y with
  |byt j=>let⟨t',ζ⟩:=d;show Δ.W.eq_bytes (AY I q nK)
  |_=>show MJ (show η=ξ from e) MX.M9
 |_=>cases y<;>show MJ (show η=ξ from e) MX.M9
def yT:AQ X (O3 .NotEq) rNe:=by
 intro g s k H x y v u Q I f d h;let⟨e,q⟩:=h;cases x with
 |Rt=>
  cases f;cases y with
  |Rt=>cases d;show Δ.Tc.ne_none_none (AY I q (!1))
  |bl j=>cases d;show Δ.Tc.ne_none_bool (AY I q (!1))
  |MQ j=>let⟨t',ζ⟩:=d;show Δ.Tc.ne_none_int (AY I q (!1))
  |M_ j=>let⟨t',ζ⟩:=d;show Δ.Tc.ne_none_str (AY I q (!1))
  |_=>show MJ (show η=ξ from e) MX.M9
 |bl i=>
  cases f;cases y with
  |Rt=>cases d;show Δ.Tc.ne_bool_none (AY I q (!1))
  |bl j=>cases d;show ne_bool (AY I q (NZ not sQ))
  |M_ j=>let⟨t',ζ⟩:=d;show Δ.Vp.ne_bool_str (AY I q (!1))
  |_=>show MJ (show η=ξ from e) MX.M9
 |MQ i=>
  let⟨t,ζ⟩:=f;cases y with
  |Rt=>cases d;show Δ.Tc.ne_int_none (AY I q (!1))
  |MQ j=>let⟨t',ζ⟩:=d;show ne_int (AY I q (NZ not nJ))
  |M_ j=>let⟨t',ζ⟩:=d;show Δ.Vp.ne_int_str (AY I q (!1))
  |_=>show MJ (show η=ξ from e) MX.M9
 |M_ i=>
  let⟨t,ζ⟩:=f;cases y with
  |Rt=>cases d;show Δ.Tc.ne_str_none (AY I q (!1))
  |bl j=>cases d;show Δ.Vp.ne_str_bool (AY I q (!1))
  |MQ j=>let⟨t',ζ⟩:=d;show Δ.Vp.ne_str_int (AY I q (!1))
  |M_ j=>let⟨t',ζ⟩:=d;show ne_str (AY I q (NZ not nH))
  |_=>show MJ (show η=ξ from e) MX.M9
 |byt i=>
  let⟨t,ζ⟩:=f;cases y with
  |byt j=>let⟨t',ζ⟩:=d;show Δ.W.ne_bytes (AY I q (NZ not nK))
  |_=>show MJ (show η=ξ from e) MX.M9
 |_=>cases y<;>show MJ (show η=ξ from e) MX.M9
def jc:AQ X (O3 .Lt) (Fn λi j=>.bl (decide (i<j))):=ur λ_ _ _ _ _ _ _ q=>lt_int q
def mY:AQ X (O3 .LtE) (Fn λi j=>.bl (decide (i≤j))):=ur λ_ _ _ _ _ _ _ q=>le_int q
def Be:AQ X (O3 .Gt) (Fn λi j=>.bl (decide (j<i))):=ur λ_ _ _ _ _ _ _ q=>gt_int q
def vK:AQ X (O3 .GtE) (Fn λi j=>.bl (decide (j≤i))):=ur λ_ _ _ _ _ _ _ q=>ge_int q
def HH:AQ X (O3 .In) (λx y H Q=>∃i j,x=.M_ i/\y=.M_ j/\Q (.bl (!(Builtin.M'.SO j i 0 j.β 1).SE)) H):=by
 intro d s g H x y v u Q I f e h;let⟨i,j,ζ,ζ,q⟩:=h;let⟨t,ζ⟩:=f;let⟨t',ζ⟩:=e;show in_str (AY I q ζ)
def gK:AQ X (O3 .IsNot) (λx y H Q=>y=.Rt/\Q (.bl (!decide (x=.Rt))) H):=by
 intro e s g H x y v u Q I d f h;let⟨rfl,q⟩:=h;cases f;refine isnot_none_gen (AY I q ?_);cases x<;>first
  |(cases d;rfl)
  |(let⟨t,ζ⟩:=d;rfl)
def gJ:AQ X (O3 .NotIn) (λx y H Q=>∃i j,x=.M_ i/\y=.M_ j/\Q (.bl (!(!(Builtin.M'.SO j i 0 j.β 1).SE))) H):=by
 intro d s g H x y v u Q I f e h;let⟨i,j,ζ,ζ,q⟩:=h;let⟨t,ζ⟩:=f;let⟨t',ζ⟩:=e;show notIn_str (AY I q ζ)
def A'(b:Ro)(h:(op≠.In)>>>0)(h2:(op≠.NotIn)>>>0):V' op b=η:=by
 let e:(op==CmpOp.In)=η:=by cases op<;>first|rfl|show MJ ζ h
 let d:(op==CmpOp.NotIn)=η:=by cases op<;>first|rfl|show MJ ζ h2
 cases b<;>simp[V',e,d]
def EL(i:AQ X (O3 op) r)(l:PE X a ta)(k:PE X b tb)(j:V' op b=η):PE X (.Zl a [op] [b] Ng) (Fl r ta tb):=by
 intro d s e H Q I h;show wpAny_Compare1 (Gv l k I h λv u s2 x y n m g f q=>i d s2 e n x y v u Q m g f q) j
inductive wo(Q:Bool->Hp->Prop)(x:V)(H':Hp):Prop
 |mk (k:_) (_:x=.bl k) (_:Q k H')
abbrev mI(t:TE):TT:=λσ H Q=>t σ H (wo Q)
def A1(p:AQ X (O3 op) r)(w:PE X a ta)(t:PE X b tb)(q:V' op b=η):PT X (.Zl a [op] [b] Ng) (mI (Fl r ta tb)):=by
 intro d s f H Q I h;refine wpAny_isTrue_Compare1 (ri (w d s f H _ I h) λv g⟨x,F,C,l,o⟩=>ri (t d g f F _ C o) λu s2⟨y,E,B,j,n⟩=>
  ri (p d s2 f E x y v u _ B l j n) λc J⟨z,D,A,i,k,e,m⟩=>?_) q
 subst e;cases i;show PQ (D,A,m)
abbrev wB(r r':R2)(ta tb tc:TE):TE:=λσ H Q=>ta σ H λx H1=>tb σ H1 λy H2=>r x y H2 λz H3=>∃k,z=.bl k/\
 (if k=ξ then tc σ H3 λw' H4=>r' y w' H4 Q else Q (.bl η) H3)
def iX(P:AQ X (O3 op) r)(i:AQ X (O3 op') F)(U:PE X a ta)(T:PE X b tb)(S:PE X c tc)(R:(lastMarks [op,op'] [b,c]=η)>>>9):PT X (.Zl a [op,op'] [b,c] Ng) (mI (wB r F ta tb tc)):=by
 intro f s g H Q I h;refine isTrue_chain (ri (U f s g H _ I h) λv A⟨x,H1,I1,E,N⟩=>test_link (ri (T f A g H1 _ I1 N) λu s2⟨y,H2,I2,l,M⟩=>
  ri (P f s2 g H2 x y v u _ I2 E l M) λd w⟨z,o,n,D,k,e,m⟩=>?_)) R
 subst e;cases D;refine PQ ?_;cases k with
 |η=>
  let⟨k',e',O⟩:=m;cases e';show ite_ff (o,n,O)
 |ξ=>
  refine ite_tt (test_last (ri (S f w g o _ n m) λq t⟨p,H4,Z,C,L⟩=>ri (i f t g H4 y p u q _ Z l C L) λd' s5 j=>?_));let⟨z2,H5,Y,B,k2,W,J⟩:=j;subst W;cases B;show PQ (H5,Y,J)
def db:(Λ:Φ)<2^63:=by rw[OO];decide
def DJ:AQ X (Rk .Add) (λx y H Q=>∃i j,x=.M_ i/\y=.M_ j/\i.β+j.β≤Λ/\Q (.M_ (i++j)) H):=by
 intro d s g H x y v u Q I f e h;let⟨i,j,ζ,ζ,hz,q⟩:=h;let⟨t,ζ⟩:=f;let⟨t',ζ⟩:=e;show add_str (λt' k=>(.M_ (i++j),H,I.Sg _,(_,ζ),q)) hz
def Do(r:ae [x] us):∃u,us=[u]/\ad x u:=by
 cases r with
 |NX e d=>cases d;show(0,e)
def b8(r:ae [x,y] us):∃u d,us=[u,d]/\ad x u/\ad y d:=by
 cases r with
 |NX h g=>
  cases g with
  |NX f e=>cases e;show(4,h,f)
end
structure mB(h:Heap)(x dx C:Addr)(mA:Str->Option Value):Prop where
 obj:h.get? x<*instObj C dx
 ns:h.Ns1 dx mA
 ne:dx≠x
def JE{h:NR}(n:h.Ns1 dx f):∃c,h.ψ dx=δ c/\∀OD,Δ.W.lookIn OD c<*f OD:=by
 let⟨o,d,p,i,l,k,_,j⟩:=n;refine(o,i,λOD=>?_);let e:=j OD;unfold nsFind findBy at e;rw[<-Nq.find?_toList]at e;unfold Δ.W.lookIn;rw[l];dsimp only;split
 .rename_i y q;rw[q]at e;show NZ δ e
 .rename_i q;rw[q]at e;let a:d.ND.Qk (·.refKey)=η:=by
   rw[γ.any_eq_false];intro y g;let⟨z,t,b⟩:=k y (Nq.mem_toList_iff.mp g);simp[ZC.refKey,b]
  let m:¬ d.ND.Qk (·.refKey)=ξ:=by rw[a];show MX.M9
  rw[Ω m];show NZ δ e
def mB.look(I:mB h x dx C b):∃a,Δ.W.InstAt h x (Vl C dx) C (δ a)/\∀OD,Δ.W.lookIn OD a<*b OD:=
 let⟨a,c,d⟩:=JE I.ns
 (a,(I.Ua,5,c),d)
section
variable{prog:Program}{w:World}{A:Around}{E:Value->Shared->Prop}{s:Shared}{K:Frag}{x dx C f:Addr}{mA:Str->Option Value}{name:Str}{v:Value}
def uU(X:K.In s.ο)(I:mB s.ο x dx C mA)(e:plainGet K C OD=ξ)(d:Δ.W.hasDictIn K C=ξ)(g:Δ.W.QU K (.π C) OD<*ε)(b:mA OD<*v)(a:Δ.W.handedIn v=ξ)(h:Q v {s with MT:=s.MT+1}):BT (Cl Ξ w) A (ZY (.π x) OD expr) Q E s:=by
 let⟨i,J,c⟩:=I.look;show Δ.W.get_value X J (Δ.W.Z6 e).1 (Δ.W.findObj_own d g ζ (by rw[c,b])) a h
def sr(X:K.In s.ο)(I:mB s.ο x dx C mA)(a:plainGet K C OD=ξ)(g:Δ.W.QU K (.π C) OD<*δ (.π f))(d:isFn K (.π f)=ξ)(c:mA OD=ε)(h:Q (.π f,[.π x],) s):BT (Cl Ξ w) A (W9 (.π x) OD pl) Q E s:=by
 let⟨b,J,e⟩:=I.look;show Δ.W.method_fn X J (Δ.W.Z6 a).1 (Δ.W.Z6 a).2 g (Ot.mp d) (by change (Δ.W.lookIn OD b).NL (·.Rx)<*η;rw[e,c];rfl) h
def tZ(X:K.In s.ο)(I:mB s.ο x dx C mA)(m:Δ.W.QU K (.π C) "__setattr__"<*δ (.Nf "object.__setattr__"))(hp:Δ.W.plainOver K C=ξ)(l:Xs K C OD<*ε)(n:Δ.W.hasDictIn K C=ξ)(hw:Δ.WL mA ns)(V6:ns.β≤Λ)(h:∀h',mB h' x dx C (λy=>if y=OD then δ v else mA y)->Pd dx s.ο h'->Q () {s with ο:=h',MT:=s.MT+2}):BT (Cl Ξ w) A (Xv (.π x) OD v) Q E s:=by
 let⟨t,J,z⟩:=I.look;refine set_plain X J m (Δ.W.osa_open (s:={s with MT:=s.MT+1}) (r:=ε) X J hp l λb=>?_);let⟨B,o,i⟩:=any_some n;let k:s.ο.ψ x<*(.π C,δ dx,.plain,#[]):=I.Ua;refine d_ (j' (d_ (d_ (X_ k (d_ (Wn.here (s:={s with MT:=s.MT+1}) (XS X o) ?_))))));rw[i];refine j' (a:=δ dx) (d_ (j' (d_ ?_)));refine ZE (s:={s with MT:=s.MT+1}) I.ns λh' d c=>?_;let⟨u,p,q,e,g,j⟩:=d.XY (Δ.WL.NX OD v hw);refine d_ (Ws e (by rw[g];show W3 (IO j (by rw[NS];lia))) ?_);show j' (h _ ((c.2 _ (Ne.MO I.ne)).ν I.Ua,d,I.ne) c)
def rE(X:K.In s.ο)(b:makesIn K C=ξ)(c:Δ.W.QU K (.π C) "__init__"<*δ (.π f))(e:Δ.W.typeIn K (.π f)<*.MM "function")(h:Qe (Cl Ξ w) (A.XO (.Nf "type.__call__" (.π C::vs,kw))) (.Ql (.π f) (.π (s⁻¹+1)::vs,kw)) (Δ.W.InitBack (s⁻¹+1) R)
   {s with ο:=(s.ο.Ni SS).Ni (Vl C s⁻¹)}):Qe (Cl Ξ w) A (.Ql (.π C) (vs,kw)) R s:=by
 let⟨i,g,d,t,os⟩:=s;show Δ.W.make_core (Δ.W.makes_of X b) (Δ.W.Us X c) (λa=>Δ.W.bind_fn X a e) (.NI ζ) h
def pf(X:K.In s.ο)(b:makesIn K C=ξ)(c:Δ.W.QU K (.π C) "__init__"<*δ (.Nf "object.__init__"))(e:∀a,Wn (Cl Ξ w) s.ο (bindSpecial (.Nf "object.__init__") a) (.Nf "object.__init__",[a],))(h:Qe (Cl Ξ w) (A.XO (.Nf "type.__call__" ([.π C],[]))) (.Ql (.Nf "object.__init__") ([.π (s⁻¹+1)],[])) (Δ.W.InitBack (s⁻¹+1) R)
   {s with ο:=(s.ο.Ni SS).Ni (Vl C s⁻¹)}):Qe (Cl Ξ w) A (.Ql (.π C) ([],[])) R s:=by
 let⟨i,g,d,t,os⟩:=s;show Δ.W.make_core (Δ.W.makes_of X b) (Δ.W.Us X c) e (.NT (1,1)) h
end
abbrev af(f:M')(v:V):γ (M'×V)->γ (M'×V)
 |[]=>[(f,v,)]
 |(g,x)::r=>if g=f then(g,v,)::r else(g,x,)::af f v r
def Cn(f g:M')(v:V):∀fs:γ (M'×V),(af f v fs).ρ g=if g=f then δ v else fs.ρ g
 |[]=>by
  change γ.ρ g [(f,v,)]=_;by_cases h:g=f
  .let a:(g==f)=ξ:=Ot.Om h;simp only[γ.ρ,a,Id h]
  .let a:(g==f)=η:=NB.Om h;simp only[γ.ρ,a,Ω h]
 |(k,x)::r=>by
  let c:=Cn f g v r;rw[show af f v ((k,x,)::r)=(if k=f then(k,v,)::r else(k,x,)::af f v r)from ζ];by_cases b:k=f
  .rw [Id b];by_cases h:g=k
   .let a:(g==k)=ξ:=Ot.Om h;simp only[γ.ρ,a,Id (h.ν b)]
   .let a:(g==k)=η:=NB.Om h;simp only[γ.ρ,a,Ω (λe:g=f=>h (e.ν b.MO))]
  .rw [Ω b];by_cases h:g=k
   .let a:(g==k)=ξ:=Ot.Om h;simp only[γ.ρ,a,Ω (λe:g=f=>b (h.MO.ν e))]
   .let a:(g==k)=η:=NB.Om h;simp only[γ.ρ,a];show c
def HI(f:M')(v:V):∀fs:γ (M'×V),f∈(af f v fs).NL (·.1)/\∀g,g∈fs.NL (·.1)->g∈(af f v fs).NL (·.1)
 |[]=>(by simp[af],λg h=>by simp at h)
 |(k,x)::r=>by
  let⟨i1,i2⟩:=HI f v r;rw[show af f v ((k,x,)::r)=(if k=f then(k,v,)::r else(k,x,)::af f v r)from ζ];by_cases a:k=f
  .rw [Id a];subst a;show(!1,λg h=>by simpa using h)
  .rw [Ω a];refine(3,λg h=>?_)
   .rw [Qp];show M1 _ i1
   .rw [Qp]at h⊢;rcases MN.mp h with e|e
    .exact MN.Om (.NI e)
    .exact M1 _ (i2 g e)
def BC(f:M')(v:V):∀fs:γ (M'×V),(af f v fs).β≤fs.β+1
 |[]=>by simp[af]
 |(k,x)::r=>by
  let b:=BC f v r;rw[show af f v ((k,x,)::r)=(if k=f then(k,v,)::r else(k,x,)::af f v r)from ζ];by_cases a:k=f
  .rw [Id a,NS,NS];lia
  .rw [Ω a,NS,NS];lia
def au.Vj(r:au (δ v) o):∃u,o=δ u/\ad v u:=by
 cases o with
 |ε=>show(show NU from r).Nv
 |δ u=>show(u,1,r)
def au.UD(r:au ε o):o=ε:=by
 cases o with
 |ε=>rfl
 |δ u=>show(show NU from r).Nv
def fh(r:ad v u):Δ.W.handedIn u=ξ:=by
 cases v with
 |Rt=>cases(show u=θ.ε from r);rfl
 |bl b=>cases(show u=θ.Pe b from r);rfl
 |MQ i=>let⟨t,e⟩:=(show ∃t,u=θ.MQ i t from r);cases e;rfl
 |M_ x=>let⟨t,e⟩:=(show ∃t,u=θ.M_ x t from r);cases e;rfl
 |byt b=>let⟨t,e⟩:=(show ∃t,u=θ.bytes b t from r);cases e;rfl
 |flt b=>let⟨t,e⟩:=(show ∃t,u=θ.float b t from r);cases e;rfl
 |π a=>cases(show u=θ.π a from r);rfl
 |ty n=>cases(show u=θ.MM n from r);rfl
section
variable{P:Program}{w:World}{H H':Hp}{h h':Heap}{a C dx:Addr}{fs fs':List (Str×V)}
def HJ(c:Au P w H h)(e:H a<*.Uk C dx fs):∃b,mB h a dx C b/\(∀f,au (fs.ρ f) (b f))/\Δ.WL b (fs.NL (·.1))/\fs.β≤1000/\H dx<*.Xf a:=by
 let⟨d,z,i,g,b,n,r,q⟩:=(show Az P w H h a (.Uk C dx fs)from c a _ e);show(b,(g,n,i),r,q,z,d)
end
structure Co(K:Frag)(C:Addr):Prop where
 pg:plainGet K C Str.empty=true
 hd:PySem.W.hasDictIn K C=true
 po:PySem.W.plainOver K C=true
 sa:PySem.W.findIn K (.ref C) "__setattr__"<*some (.builtin "object.__setattr__")
def Co.VE{K:Nl}(c:Co K C)(f:M'):plainGet K C f=ξ:=c.pg
abbrev Af(K:Nl)(C:υ)(f:M'):Prop:=Δ.W.QU K (.π C) f<*ε
def Af.taker{K:Nl}(n:Af K C f):Xs K C f<*ε:=by
 unfold Xs;rw[show Δ.W.QU K (.π C) f<*ε from n];rfl
structure dX(K:Frag)(C:Addr)(m:Str)(f:Addr):Prop where
 at_:PySem.W.findIn K (.ref C) m<*some (.ref f)
 fn:isFn K (.ref f)=true
 kp:keepIn K (.ref f)=true
section
variable{X:Cx}{pins:List (Addr×Obj)}{σ:St}{H:Hp}{s:Shared}{a C dx:Addr}{fs:List (Str×V)}{f:Str}{v:V}{A:Around}{E:Value->Shared->Prop}
def lW(I:f' X MZ σ H s)(e:H a<*.Uk C dx fs)(c:Co X.K C)(n:Af X.K C f)(l:fs.ρ f<*v)(h:∀u s',f' X MZ σ H s'->ad v u->Q u s'):BT (Cl X.Ξ X.w) A (ZY (.π a) f b) Q E s:=by
 let⟨g,O,r,_,_,_⟩:=HJ I.Oc e;let⟨u,i,d⟩:=au.Vj (v:=v) (o:=g f) (by rw[<-l];show r f);show uU I.TX O (c.VE f) c.hd n i (fh d) (h u _ (I.Sg _) d)
def K'(I:f' X MZ σ H s)(e:H a<*.Uk C dx fs)(c:Co X.K C)(k:dX X.K C m g)(l:fs.ρ m=ε)(h:Q (.π g,[.π a],) s):BT (Cl X.Ξ X.w) A (W9 (.π a) m pl) Q E s:=by
 let⟨b,O,r,_,_,_⟩:=HJ I.Oc e;let d:b m=ε:=au.UD (by rw[<-l];show r m);show sr I.TX O (c.VE m) k.at_ k.fn d h
def kI(I:f' X MZ σ H s)(e:H a<*.Uk C dx fs)(c:Co X.K C)(n:Af X.K C f)(D:fs.β<1000)(m:ad y u)(h:∀s',f' X MZ σ (MR H a (.Uk C dx (af f y fs))) s'->Q () s'):BT (Cl X.Ξ X.w) A (Xv (.π a) f u) Q E s:=by
 let⟨j,O,r,i,_,k⟩:=HJ I.Oc e;let hz:(fs.NL (·.1)).β≤Λ:=by rw[ol,OO];omega
 refine tZ I.TX O c.sa c.po n.taker c.hd i hz λh' d l=>h _ ?_;let t:∃o,h'.ψ dx<*o:=let⟨o,_,_,e',_⟩:=d.ns;(o,e');refine I.WQ (x:=a) (e:=dx) (by rw[e];show Ol.Ob) (.NT k) (λb q B z=>(l.2 b B).ν z) t ?_;refine(by rw[a_ O.ne];show k,3,O.ne,d.Ua,_,d.ns,λg=>?_,λg p=>?_)
 .have:=BC f y fs;lia
 .change au ((af f y fs).ρ g) (if g=f then δ u else j g);rw[Cn];by_cases q:g=f
  .rw [Id q,Id q];show m
  .rw [Ω q,Ω q];show r g
 .by_cases q:g=f
  .rw [q];show(HI f y fs).1
  .refine (HI f y fs).2 g (i g λz=>p ?_);change (if g=f then δ u else j g)=ε;rw[Ω q];show z
def f'.made(I:f' X MZ σ H s):f' X MZ σ (MR (MR H s⁻¹ (.Xf (s⁻¹+1))) (s⁻¹+1) (.Uk C s⁻¹ []))
  {s with ο:=(s.ο.Ni SS).Ni (Vl C s⁻¹)}:=by
 let d:(s.ο.Ni SS).ψ s⁻¹<*SS:=MS s.ο ζ;let j:((s.ο.Ni SS).Ni (Vl C s⁻¹)).ψ (s⁻¹+1)<*Vl C s⁻¹:=by
  have:=MS (s.ο.Ni SS) (o:=Vl C s⁻¹) ζ
  rwa [Pb]at this
 let i:(s.ο.Ni SS).Ns s⁻¹ (λ_=>ε):=(SS,#[],_,d,1,(λe h=>MJ h (!1)),λ_=>rfl);let k:=I.Tw (a:=s⁻¹) (o:=.Xf (s⁻¹+1)) (h':=s.ο.Ni SS) (t':=s.MT) (λb u q=>sy _ q) (LT _) (_,d);refine k.Tw (a:=s⁻¹+1) (o:=.Uk C s⁻¹ []) (t':=s.MT) (λb u q=>sy _ q) (Rb (Pb _ _)) ?_;let c:s⁻¹≠s⁻¹+1:=M8 (OA _);refine(by rw[a_ c,j_],Nb _,c,j,λ_=>ε,(NR.Ns1.of_empty i).at λo q=>sy _ q,λ_=>Ol.Ob,λy g=>MJ ζ g)
def DM(c:QH e f KK (OJ e KK)=OJ e KK)(h:BT (Cl Ξ w) A (OJ e KK) (λo b=>BT (Cl Ξ w) A (ZY o f ξ) Q E b) E s):BT (Cl Ξ w) A (OJ (.Ox e f Ng) KK) Q E s:=
 Attribute_any_ h (by rw[arm_eval_Attribute,c])
end
inductive yh(K:Frag)(f:Str)(Q:VK)(x:V)(H1:Hp):Prop
 |mk (a C dx fs v:_) (_:x=.ref a) (_:H1 a<*.ins C dx fs) (_:Co K C) (_:Af K C f) (_:fs.lookup f<*v) (_:Q v H1)
abbrev yi(K:Nl)(ta:TE)(f:M'):TE:=λσ H Q=>ta σ H (yh K f Q)
inductive yJ(K:Frag)(f:Str)(D:Ends)(σ:St)(y:V)(x:V)(H2:Hp):Prop
 |mk (a C dx fs:_) (_:x=.ref a) (_:H2 a<*.ins C dx fs) (_:Co K C) (_:Af K C f) (_:fs.length<1000) (_:D.nx σ (upd H2 a (.ins C dx (af f y fs))))
abbrev zZ(K:Nl)(ta tv:TE)(f:M'):TS:=λD σ H=>tv σ H λy H1=>ta σ H1 (yJ K f D σ y)
section
variable{X:Cx}{o e value:Expr}{f:Str}{pos pos' tpos:Pos}{ta tv:TE}
def AD(k:PE X e ta)(m:QH e f X.KK (OJ e X.KK)=OJ e X.KK):PE X (.Ox e f Ng) (yi X.K ta f):=by
 intro b s g H Q I h;refine DM m (ri (k b s g H _ I h) λu A d=>?_);let⟨x,y,w,i,a,C,dx,fs,v,p,r,c,n,l,q⟩:=d;subst p;obtain ζ:u=θ.π a:=i;show lW w r c n l λz s2 t j=>(v,y,t,j,q)
def EM(v:PE X o ta)(r:PE X value tv)(t:Su value (δ (.Ox o f pos')) Ng.SV X.KK=pure η):PS X (.WM [.Ox o f pos'] value Ng) (zZ X.K ta tv f):=by
 intro b s d H D I h;refine Wq (ri (r b s d H _ I h) λu i⟨y,F,E,j,q⟩=>ri (v b i d F _ E q) λp s2 g=>?_) t;let⟨x,L,B,k,a,C,dx,fs,w,z,c,n,l,m⟩:=g;subst w;obtain ζ:p=θ.π a:=k;show kI B z c n l j λJ A=>(d,_,A,m)
end
section
variable{X:Cx}{pins:List (Addr×Obj)}{σ:St}{H:Hp}{s:Shared}{A:Around}{E:Value->Shared->Prop}{Q:Value->Shared->Prop}{c:Value}{b:Bool}
inductive ai(K:Frag)(H:Hp):V->Value->Prop where
 |non:ai K H .non (.type "NoneType")
 |bl (x:Bool):ai K H (.bl x) (.type "bool")
 |int (i:Int):ai K H (.int i) (.type "int")
 |str (x:Str):ai K H (.str x) (.type "str")
 |flt (x:UInt64):ai K H (.flt x) (.type "float")
 |lst {a:Addr} {xs:List V} (e:H a<*.lst xs):ai K H (.ref a) (.type "list")
 |frz {a:Addr} {o:Obj} {xs:List V} (e:H a<*.frz o (.lst xs)):ai K H (.ref a) (.type "list")
 |tup {a:Addr} {xs:List V} (e:H a<*.tup xs):ai K H (.ref a) (.type "tuple")
 |dK {a:Addr} {kvs:List (Bu×V)} (e:H a<*.dK kvs):ai K H (.ref a) (.type "dict")
 |dT {a:Addr} {kvs:List (List Bu×V)} (e:H a<*.dT kvs):ai K H (.ref a) (.type "dict")
 |ins {a C dx:Addr} {fs:List (Str×V)} (e:H a<*.ins C dx fs) (cl:Co K C) (ha:PySem.W.findIn K (.ref C) "__class__"<*some (.builtin "object.__class__"))
   (hn:PySem.W.specialIn K (.builtin "object.__class__") "__get__"<*some (.builtin "getset_descriptor.__get__")) (htk:PySem.W.takesIn K (.builtin "object.__class__")<*true)
   (hm:PySem.W.mroIn K C (.type "object")<*true):ai K H (.ref a) (.ref C)
def pC(I:f' X MZ σ H s)(d:ad x u)(ty:ai X.K H x t)(e:Po X.K t c<*b)(h:∀k,Q (.Pe b) {s with MT:=k}):BT (Cl X.Ξ X.w) A (Ql (.Nf "isinstance") [u,c]) Q E s:=by
 cases ty with
 |Rt=>cases(show u=θ.ε from d);show Tm Δ.W.kitx_none I.TX Ol.Ob e (λz=>nomatch z) h
 |bl y=>cases(show u=θ.Pe y from d);show Tm Δ.W.kitx_bool I.TX Ol.Ob e (λz=>nomatch z) h
 |MQ i=>let⟨t,q⟩:=(show ∃t,u=θ.MQ i t from d);cases q;show Tm Δ.W.kitx_int I.TX Ol.Ob e (λz=>nomatch z) h
 |M_ y=>let⟨t,q⟩:=(show ∃t,u=θ.M_ y t from d);cases q;show Tm Δ.W.kitx_str I.TX Ol.Ob e (λz=>nomatch z) h
 |flt y=>let⟨t,q⟩:=(show ∃t,u=θ.float y t from d);cases q;show Tm Δ.W.kitx_float I.TX Ol.Ob e (λz=>nomatch z) h
 |@M5 a xs f=>
  cases(show u=θ.π a from d);let⟨_,_,n,_,h1⟩:=(show Az X.Ξ X.w H s.ο a (.M5 xs)from I.Oc a _ f);show Tm Δ.W.kitx_list I.TX (_,h1,1) e (λz=>nomatch z) h
 |@frz a l xs f=>
  cases(show u=θ.π a from d);let⟨_,_,_,n,_,h1⟩:=(show Az X.Ξ X.w H s.ο a (.frz l (.M5 xs))from I.Oc a _ f);show Tm Δ.W.kitx_list I.TX (_,h1,1) e (λz=>nomatch z) h
 |@No a xs f=>
  cases(show u=θ.π a from d);let⟨_,_,_,p⟩:=(show Az X.Ξ X.w H s.ο a (.No xs)from I.Oc a _ f);let⟨o,h1,h2,_⟩:=p;show Tm Δ.W.kitx_tuple I.TX (o,h1,h2) e (λz=>nomatch z) h
 |@dK a NP f=>
  cases(show u=θ.π a from d);let⟨_,_,vs,_,p⟩:=(show Az X.Ξ X.w H s.ο a (.dK NP)from I.Oc a _ f);let⟨o,B,D,h1,h2,_⟩:=p;show Tm Δ.W.kitx_dict I.TX (o,h1,h2.1) e (λz=>nomatch z) h
 |@dT a NP f=>
  cases(show u=θ.π a from d);let⟨_,_,xs,_,o,B,D,h1,h2,_⟩:=(show Az X.Ξ X.w H s.ο a (.dT NP)from I.Oc a _ f);show Tm Δ.W.kitx_dict I.TX (o,h1,h2.1) e (λz=>nomatch z) h
 |@Uk a C dx fs f j v m g r=>
  cases(show u=θ.π a from d);let⟨L,O,_⟩:=HJ I.Oc f;let⟨F,J,_⟩:=O.look;show Tm (Δ.W.kitx_own (j.VE _) j.hd v m g r) I.TX J e (λz=>nomatch z) h
end
structure ak(k:Nat)(A:Around):Prop where
 hd:A.handled=none
 dp:A.depth+3*k+5<recursionLimit
 un:A.units+16*k+200<cLine
def ak.Pg(r:ak k A)(h:j≤k):ak j A:=(r.hd,by have:=r.dp;lia,by have:=r.un;lia)
def ak.RE(r:ak (k+1) A)(KK:WC):ak k (A.RE KK):=
 (r.hd,by have:=r.dp;change A.Wj+1+3*k+5<_;lia,by have:=r.un;change A.PR+3+16*k+200<_;lia)
def Lb{A:N0}:(A.XO (.Nf "type.__call__" (.π C::us,kw))).Wj=A.Wj+1:=by
 first|rfl|simp[N0.XO,Xr.weight,Xr.isCreation,Xr.isGuard,Xr.isCaller,Xr.QZ,Xr.isFrame,guardIds]
def lr{A:N0}:(A.XO (.Nf "type.__call__" (.π C::us,kw))).PR=A.PR+1:=by
 first|rfl|simp[N0.XO,Xr.cUnits,Xr.QZ,Xr.isFrame]
def ak.make(r:ak (k+1) A)(C:υ)(us:γ θ)(kw:γ (M'×θ)):ak k (A.XO (.Nf "type.__call__" (.π C::us,kw))):=
 (r.hd,by have:=r.dp;rw[Lb];lia,by have:=r.un;rw[lr];lia)
def ak.Wj(r:ak k A):A.Wj<recursionLimit:=by have:=r.dp;lia
def ak.PR(r:ak k A):A.PR+64<Qj:=by have:=r.un;lia
def ak.units0(r:ak k A):A.PR<Qj:=by have:=r.un;lia
abbrev Ww:TA:=λ_ H Q=>Q [] H
abbrev Aw(ta:TE)(tr:TA):TA:=λσ H Q=>ta σ H λx H1=>tr σ H1 λxs H2=>Q (x::xs) H2
section
variable{X:Cx}{e:Expr}{es:List Expr}{te:TE}{t:TA}{pos:Pos}
def Dd:PA X [] Ww:=λ_ _ _ _ H Q I h=>R_.spliced_nil ([],H,I,.Op,h)
def Bp(n:PE X e te)(m:PA X es t)(l:(Θ (e::es) X.KK=(η,OJ e X.KK,)::Θ es X.KK)>>>4):PA X (e::es) (Aw te t):=by
 intro Ng a s d H Q I h;rw[l];change BT _ _ (spliced ((η,OJ e X.KK,)::OE Ng (Θ es X.KK))) _ _ s;refine R_.spliced_cons (ri (n a s d H _ I h) λu f c=>?_);let⟨x,r,p,i,k⟩:=c;show ri (m Ng a f d r _ p k) λus s2 b=>by let⟨xs,q,o,g,j⟩:=b;show(x::xs,q,o,.NX i g,j)
abbrev zM(t:TA):TE:=λσ H Q=>t σ H λxs H1=>xs.β≤Λ/\∀p,H1 p=ε->Q (.π p) (MR H1 p (.No xs))
abbrev yf(t:TA):TE:=λσ H Q=>t σ H λxs H1=>xs.β≤Λ/\∀p,H1 p=ε->Q (.π p) (MR H1 p (.M5 xs))
def Bg{i}(h:PA X es t):PE X (.RP es i Ng) (zM t):=by
 intro a s g H Q I j;refine wpAny_Tuple_spliced (ri (h Ng a s g H _ I j) λus c⟨xs,f,d,r,z,q⟩=>(by rw[<-r.β];show z,3));let k:f c⁻¹=ε:=d.Oc.OF (LT _);refine(.π c⁻¹,MR f c⁻¹ (.No xs),d.Tw (t':=c.MT) (λb u e=>sy _ e) (LT _) ?_,1,q _ k);show(z,us,r,(_,MS _ ζ,1,0))
def AA(h:PA X es t):PE X (.γ es Ng) (yf t):=by
 intro a s g H Q I i;refine wpAny_List_spliced (ri (h Ng a s g H _ I i) λus c⟨xs,f,d,r,z,q⟩=>(by rw[<-r.β];show z,3));let j:f c⁻¹=ε:=d.Oc.OF (LT _);refine(.π c⁻¹,MR f c⁻¹ (.M5 xs),d.Tw (t':=c.MT) (λb u e=>sy _ e) (LT _) ?_,1,q _ j);show(z,us,(0),r,MS _ ζ)
end
@[reducible]def Sp:=List V->Hp->VK->XK->Prop
@[reducible]def CXT:=List Env->Hp->Shared->XK->Value->Shared->Prop
structure bx(P:Program)(w:World)(K:Frag)(mg:Str->Option Value)(base:Heap)(A:Around)(outer:List Env)(s:Shared)(H:Hp):Prop where
 frames:A.frames<*outer
 mod:Mod K mg base
 bs:∀b o,base.get? b<*o->s.heap.get? b=some o/\H b=none
 bsz:base.objs.size≤s⁻¹
 funs:s.heap.FunFrames base outer
 frf:∀b∈s_ outer,H b=none
 hok:Au P w H s.heap
 bare:AllBare s.gens
inductive CE(outer:List Env)(P:Program)(w:World)(H:Hp)(s:Shared)(Q:VK)(u:Value)(s':Shared):Prop
 |mk (v H':_) (_:s'.os=s.os) (_:AllBare s'.gens) (_:Un (s_ outer) [] H H' s.heap s'.heap) (_:Au P w H' s'.heap) (_:ad v u) (_:Q v H')
abbrev CR(CX:CXT)(Fr:γ WC)(P:NC)(w:Ny)(H:Hp)(s:MH)(Q:VK)(E:XK)(r:Result)(s':MH):Prop:=
 match r with
 |.ok (.UT u)=>CE Fr P w H s Q u s'
 |.ok _=>NU
 |.R9 e=>CX Fr H s E e s'
structure aa(P:Program)(w:World)(K:Frag)(mg:Str->Option Value)(base:Heap)(CX:CXT)(k:Nat)(f:Addr)(fd:FuncData)(ps:List Str)(sp:Sp):Prop where
 len:∀vs H Q E,sp vs H Q E->vs.length=ps.length
 run:∀(A:Around)(outer:List Env)(s:Shared)(H:Hp)(args:Args)(us:List Value)(vs:List V)(Q:VK)(E:XK),ak k A->bx P w K mg base A outer s H->BindsTo s fd args (ps.zip us)->ae vs us->sp vs H Q E->
  codeAny (model P w) A (.call (.ref f) args) (CR CX outer P w H s Q E) s
def aa.Pg{P:NC}{w:Ny}{K:Nl}(F:aa P w K mg ς e j f d ps b)(h:j≤k):aa P w K mg ς e k f d ps b:=(F.PJ,λA Fr s H a us vs Q E c=>F.PD A Fr s H a us vs Q E (c.Pg h))
def bx.make{K:Nl}(e:bx P w K mg ς A Fr s H)(C:υ)(us:γ θ)(kw:γ (M'×θ)):bx P w K mg ς (A.XO (.Nf "type.__call__" (.π C::us,kw))) Fr s H:=(by first|show e.QZ|(simpa[N0.XO,Xr.envs,Xr.isFrame,pushEnvs]using e.QZ),e.VT,e.bs,e.bsz,e.VY,e.frf,e.Oc,e.Rz)
section
variable{X:Cx}{pins:List (Addr×Obj)}{σ:St}{H:Hp}{s s':Shared}
def f'.Ze(I:f' X MZ σ H s):bx X.Ξ X.w X.K X.mg X.ς X.A X.NA s H:=
 (I.ok.QZ,I.ok.VT,I.bs,IO I.ok.bsz I.sz,I.NA,I.Tf,I.Oc,I.Rz)
def f'.XZ(I:f' X MZ σ H s)(h:CE X.NA X.Ξ X.w H s Q u s'):EP X MZ σ Q u s':=by
 let⟨v,H',os,a,un,e,r,q⟩:=h;let⟨f,g,d,t,c⟩:=s';obtain ζ:c=s.os:=os;show(v,H',I.Ql (h':=f) (g':=g) (d':=d) (t':=t) (ch:=[]) un e a (λb z=>MJ z (!1)),r,q)
end
abbrev Cp(sp:Sp)(XW:γ V)(E:XK)(t:TA):TE:=λσ H Q=>t σ H λvs H1=>sp (vs++XW) H1 Q E
abbrev vF(C:υ)(sp:Sp)(XW:γ V)(E:XK)(t:TA):TE:=λσ H Q=>t σ H λvs H1=>∀x dx,H1 x=ε->H1 dx=ε->dx≠x->
 sp (.π x::(vs++XW)) (MR (MR H1 dx (.Xf x)) x (.Uk C dx [])) (λv H2=>v=.Rt/\Q (.π x) H2) E
abbrev Ao(K:Nl)(fd:Sb)(ps:γ M')(ds:γ θ):Prop:=
 ∀(s:MH)(us:γ θ),K.In s.ο->(us++ds).β=ps.β->X5 s fd (us,[]) (ps.Td (us++ds))
def Ao.P'{K:Nl}(h:∀us:γ θ,us.β=ps.β->TL b (us,[])=pure (ps.Td us)):Ao K b ps []:=λs us _ a=>by
 rw[Oa]at a⊢;show .of_eq (h us a)
abbrev Et(CX:CXT)(X:Cx)(E:XK):Prop:=∀(MZ:γ (υ×Rm))(σ:St)(H:Hp)(s:MH)(e:θ)(s':MH),f' X MZ σ H s->CX X.NA H s E e s'->X.xe e s'
section
variable{X:Cx}{CX:CXT}{k:Nat}{f C:Addr}{fd:FuncData}{ps:List Str}{sp:Sp}{dvs:List V}{ds:List Value}{E:XK}{x m:Str}{p pos apos:Pos}{e o:Expr}{es:List Expr}{ta:TE}{t:TA}
def kQ{c:St}(F:aa X.Ξ X.w X.K X.mg X.ς CX k f fd ps sp)(i:ak k X.A)(n:Ao X.K fd ps ds)(l:ae XW ds)(g:Et CX X E)(I:f' X a c H s)(r:ae vs us)(h:sp (vs++XW) H Q E):BT (Cl X.Ξ X.w) X.A (Ql (.π f) us) (EP X a c Q) X.xe s:=by
 let d:ae (vs++XW) (us++ds):=r.Ya l;let j:(us++ds).β=ps.β:=by rw[<-d.β];show F.PJ _ _ _ _ h
 refine QM (PY (F.PD X.A X.NA s H (us,[]) (us++ds) (vs++XW) Q E i I.Ze (n s us I.TX j) d h) λr s' b=>?_);cases r with
 |R9 e=>show g a c H s e s' I b
 |ok q=>
  cases q with
  |UT u=>show I.XZ b
  |next=>show NU.Nv b
  |Yg=>show NU.Nv b
  |T_=>show NU.Nv b
def mV(F:aa X.Ξ X.w X.K X.mg X.ς CX k f fd ps sp)(j:ak k X.A)(u:Gl X x)(l:X.mg x<*.π f)(n:UO X.K (.π f)=ξ)(z:Ao X.K fd ps ds)(y:ae XW ds)(i:Et CX X E)(B:PA X (e::es) t)(c:((x==("__debug__":M'))=η)>>>0)(v:(Θ (e::es) X.KK=(η,OJ e X.KK,)::Θ es X.KK)>>>4)(b:((OE Ng (Θ es X.KK)).Qk (·.1)=η)>>>4):PE X (.QE (.Nz x p) (e::es) [] Ng) (Cp sp XW E t):=by
 intro a s g H Q I h;refine Nh (v_ I u l ?_ c);refine WJ (h₀:=X.ς) I.ok.VT.Vv n (ri (B Ng a s g H _ I h) λus D⟨vs,J,d,r,q⟩=>(d.TX,3)) v b;show kQ F j z y i d r q
structure Mk(K:Frag)(C f:Addr):Prop where
 makes:makesIn K C=true
 init:PySem.W.findIn K (.ref C) "__init__"<*some (.ref f)
 fn:isFn K (.ref f)=true
 kp:keepIn K (.ref C)=true
def CM{d:St}(M:Mk X.K C f)(F:aa X.Ξ X.w X.K X.mg X.ς CX k f fd ps sp)(q:ak (k+1) X.A)(B:Ao X.K fd ps ds)(z:ae XW ds)(n:Et CX X E)(I:f' X b d H s)(r:ae vs us)(h:∀x dx,H x=ε->H dx=ε->dx≠x->sp (.π x::(vs++XW)) (MR (MR H dx (.Xf x)) x (.Uk C dx [])) (λv N=>v=.Rt/\Q (.π x) N) E):BT (Cl X.Ξ X.w) X.A (Ql (.π C) us) (EP X b d Q) X.xe s:=by
 let i:=h (s⁻¹+1) s⁻¹ (I.Oc.OF (SD _)) (I.Oc.OF (LT _)) (M8 (OA _));let c:=f'.made (C:=C) I;let g:ae (V.π (s⁻¹+1)::(vs++XW)) (θ.π (s⁻¹+1)::(us++ds)):=.NX ζ (r.Ya z);let y:(θ.π (s⁻¹+1)::us++ds).β=ps.β:=by
  let e:=g.β;rw[F.PJ _ _ _ _ i]at e;show e.MO
 refine QM (rE (f:=f) I.TX M.makes M.init (Ot.mp M.fn) (PY (F.PD _ X.NA _ _ (θ.π (s⁻¹+1)::us,[]) (θ.π (s⁻¹+1)::(us++ds)) _ _ E (q.make C us [])
  (c.Ze.make C us []) (B _ (θ.π (s⁻¹+1)::us) c.TX y) g i) λr s' a=>?_))
 cases r with
 |R9 e=>show n b d _ _ e s' c a
 |ok D=>
  cases D with
  |UT u=>
   let⟨v,H',L,j,J,l⟩:=c.XZ a;subst J;show(j,(V.π (s⁻¹+1),H',L,1,l))
  |next=>show NU.Nv a
  |Yg=>show NU.Nv a
  |T_=>show NU.Nv a
def FB(M:Mk X.K C f)(F:aa X.Ξ X.w X.K X.mg X.ς CX k f fd ps sp)(j:ak (k+1) X.A)(n:Gl X x)(l:X.mg x<*.π C)(y:Ao X.K fd ps ds)(v:ae XW ds)(i:Et CX X E)(z:PA X (e::es) t)(c:((x==("__debug__":M'))=η)>>>0)(u:(Θ (e::es) X.KK=(η,OJ e X.KK,)::Θ es X.KK)>>>4)(b:((OE Ng (Θ es X.KK)).Qk (·.1)=η)>>>4):PE X (.QE (.Nz x p) (e::es) [] Ng) (vF C sp XW E t):=by
 intro a s g H Q I h;refine Nh (v_ I n l ?_ c);refine WJ (h₀:=X.ς) I.ok.VT.Vv M.kp (ri (z Ng a s g H _ I h) λus B⟨vs,D,d,r,q⟩=>(d.TX,3)) u b;show CM M F j y v i d r q
def qM(M:Mk X.K C f)(F:aa X.Ξ X.w X.K X.mg X.ς CX k f fd ps sp)(d:ak (k+1) X.A)(i:Gl X x)(g:X.mg x<*.π C)(l:Ao X.K fd ps ds)(j:ae XW ds)(c:Et CX X E)(a:((x==("__debug__":M'))=η)>>>0):PE X (.QE (.Nz x p) [] [] Ng) (vF C sp XW E Ww):=by
 intro b s n H Q I h;refine Nh (v_ I i g ?_ a);show Δ.W.callWith_K0 I.TX M.kp (CM (us:=[]) M F d l j c I .Op h)
end
section
variable{X:Cx}{CX:CXT}{k:Nat}{f C:Addr}{fd:FuncData}{ps ks:List Str}{sp:Sp}{E:XK}{x m:Str}{p pos apos kpos:Pos}{e o:Expr}{es:List Expr}{kws:List Keyword}{te ta:TE}{t tk:TA}{nm:Option Str}
variable{g:List Value->List Value->List Value}{gV:List V->List V->List V}
end
structure vw(N P:List Str)(sc:Scope):Prop where
 kind:sc.kind=.function
 co:sc.isCoroutine=false
 gen:sc.isGenerator=false
 nd:N.Nodup
 pre:N.take P.length=P
 par:∀x∈P,sc.names.lookup x<*.local\/sc.names.lookup x<*.cell
 nofree:∀y∈sc.names,y.2≠.free
def fK{Og:M'->ω QA}{x:M'}:∀{a:γ (M'×θ)}{m:M'->ω θ},(∀v,(x,v,)∉a)->Y4 Og a m x=m x
 |[],_,_=>rfl
 |(n,v)::r,m,h=>by
  unfold Y4;rw[fK λw hw=>h w (M1 _ hw)];split
  .have:x≠n:=by rintro ζ;show h v N5
   simp[this]
  .rfl
def Cb{Og:M'->ω QA}{x:M'}:∀{a:γ (M'×θ)}{m:M'->ω θ},(∀v,(x,v,)∉a)->Y5 Og a m x=m x
 |[],_,_=>rfl
 |(n,v)::r,m,h=>by
  unfold Y5;rw[Cb λw hw=>h w (M1 _ hw)];split
  .rfl
  .have:x≠n:=by rintro ζ;show h v N5
   simp[this]
def Cd{Og:M'->ω QA}{x:M'}{v:θ}:∀{P:γ M'}{vs:γ θ}{i:Φ}{m:M'->ω θ},P.Nx->P[i]?<*x->vs[i]?<*v->Og x<*.local->
  Y4 Og (P.Td vs) m x<*v
 |[],_,_,_,_,h,_,_=>by simp at h
 |_::_,[],_,_,_,_,h,_=>by simp at h
 |p::P,w::vs,0,m,a,h1,h2,b=>by
  simp at h1 h2;subst h1;subst h2;change Y4 Og ((p,w,)::P.Td vs) m p=_;unfold Y4;rw[fK λv c=>(Tt.mp a).1 (Ur c).1,Id b];simp
 |p::P,w::vs,i+1,m,a,h1,h2,b=>by
  change Y4 Og ((p,w,)::P.Td vs) m x=_;unfold Y4;show Cd (i:=i) (Tt.mp a).2 (by simpa using h1) (by simpa using h2) b
def fL{Og:M'->ω QA}{x:M'}{v:θ}:∀{P:γ M'}{vs:γ θ}{i:Φ}{m:M'->ω θ},P.Nx->P[i]?<*x->vs[i]?<*v->Og x≠δ .local->
  Y5 Og (P.Td vs) m x<*v
 |[],_,_,_,_,h,_,_=>by simp at h
 |_::_,[],_,_,_,_,h,_=>by simp at h
 |p::P,w::vs,0,m,a,h1,h2,b=>by
  simp at h1 h2;subst h1;subst h2;change Y5 Og ((p,w,)::P.Td vs) m p=_;unfold Y5;rw[Cb λv c=>(Tt.mp a).1 (Ur c).1,Ω b];simp
 |p::P,w::vs,i+1,m,a,h1,h2,b=>by
  change Y5 Og ((p,w,)::P.Td vs) m x=_;unfold Y5;show fL (i:=i) (Tt.mp a).2 (by simpa using h1) (by simpa using h2) b
abbrev SM(N:γ M')(vs:γ V):St:=vs.NL δ++Wz (N.β-vs.β) ε
abbrev aG(CX:CXT)(P:NC)(w:Ny)(K:Nl)(mg:M'->ω θ)(ς:NR)(N:γ M')(M4:M')(NE:RX)(f:υ)(cd:θ)(A:N0)(Fr:γ WC)(s:MH)(H:Hp)(E:XK):Cx where
 Ξ:=P
 w:=w
 K:=K
 mg:=mg
 ς:=ς
 A:=A.RE (S4 M4 NE s⁻¹ f cd)
 N:=N
 RJ:=s
 XJ:=H
 KK:=S4 M4 NE s⁻¹ f cd
 Fr:=Fr
 NA:=S4 M4 NE s⁻¹ f cd::Fr
 ex:=[]
 T0:=ξ
 fn:=λ_=>ξ
 pn:=[]
 xe:=λe s'=>BT (Cl P w) (A.RE (S4 M4 NE s⁻¹ f cd)) (SB (S4 M4 NE s⁻¹ f cd) e) (λ_ s''=>CX Fr H s E e s'') (λe' s''=>CX Fr H s E e' s'') s'
def CN{sc:RX}(h:sc.MP.ρ x<*.N8):∃c,(Vm n sc.MP []).ρ x<*c:=by
 let q:=Δ.W.YW sc.MP n [] (.NI h);show ω.isSome_iff_exists.mp q
def eZ{F:CXT}{P:NC}{w:Ny}{K:Nl}{mg:M'->ω θ}{ς:NR}{N ps:γ M'}{M4:M'}{d:RX}{f:υ}{t:θ}{A:N0}{Fr:γ WC}{s B:MH}{H:Hp}{E:XK}{us:γ θ}{vs:γ V}(S:vw N ps d)(L:A.PL=ε)(g:bx P w K mg ς A Fr s H)(Q:vs.β=ps.β)(r:ae vs us)(x:InCallC s s⁻¹ (Y4 (S4 M4 d s⁻¹ f t).Og (ps.Td us) λ_=>ε) (Vm (s⁻¹+1) d.MP []) (Y5 (S4 M4 d s⁻¹ f t).Og (ps.Td us) λ_=>ε) B):f' (aG F P w K mg ς N M4 d f t A Fr s H E) [] (SM N vs) H B:=by
 let J:ps.β≤N.β:=by have:=NZ γ.β S.pre;rw[Qu]at this;lia
 let⟨h1,O,ζ,D⟩:=x.done;let j:∀b:υ,b∉(aG F P w K mg ς N M4 d f t A Fr s H E).ex:=λb z=>MJ (show b∈([]:γ υ)from z) (!1);refine((g.VT,S.RR,5,LT _,λy z c h1 h2=>?_,λy l=>?_,λy c _ h=>?_,λ_=>L,N0.Yr g.QZ,.NT (1,1),λb z=>MJ z (j b),g.bs,g.bsz,λb _ _=>j b,λb z=>MJ z (j b),g.VY,g.frf),
  rfl,g.Rz,Un.SW D,(_,x.toInCall.ns,λi y v h1 h2 R=>?_),λy c h=>(_,x.N8 y c h),g.Oc.OF (LT _),λy c h=>?_,λp hp=>MJ (show p∈([]:γ (υ×Rm))from hp) (!1),g.Oc.SW D,3)
 .exact name_of_addr x.apart (Δ.OV h1) (Δ.OV h2)
 .let l:d.MP.ρ y<*.N8\/d.MP.ρ y<*.N4:=l;rcases l with l|l
  .exact CN l
  .exact MJ ζ (S.nofree _ (Δ.OV l))
 .exact Pn (x.WA y c (Δ.OV h))
 .let o:i<vs.β:=by
   unfold SM at h2;by_cases o:i<vs.β
   .exact o
   .rw [MW (by simpa using o)]at h2;rw[γ.Tx]at h2;split at h2<;>cases h2
  let M:vs[i]?<*v:=by
   unfold SM at h2;rw[MY (by simpa using o),tS]at h2;cases e:vs[i]? with
   |ε=>rw[e]at h2;cases h2
   |δ a=>rw[e]at h2;cases h2;rfl
  let⟨u,C,I⟩:=r.VE M;let hp:ps[i]?<*y:=by
   rw[<-S.pre,γ.Vx (!6)];show h1
  let m:ps.Nx:=by rw[<-S.pre];show S.nd.sublist (γ.take_sublist _ _)
  refine(u,I,3);rcases S.YJ y (AC hp)with k|k
  .exact .NI (k,Cd m hp C k)
  .obtain ⟨c,e⟩:=CN (n:=s⁻¹+1) k;refine .NT (.NI k,c,e,3);let q:=x.N8 y c e;rw[fL m hp C (by change d.MP.ρ y≠_;rw[k];decide)]at q;show q
 .exact g.Oc.OF (Pn (x.WA y c (Δ.OV h)))
 .unfold SM;change _=N.β;rw[w_,ol,PF];lia
def jC{z:CXT}{P:NC}{w:Ny}{K:Nl}{mg:M'->ω θ}{ς:NR}{k:Φ}{f:υ}{OD M4:M'}{c:QK}{d:γ Nr}{a:RX}{T kV Pi pm Qi ct Z:θ}{an Y:ω υ}{D:Nq (ω θ)}{N ps:γ M'}{B:Sp}(lk:K.ρ f<*(Z,Y,.QY (Ps OD M4 c d a T kV Pi pm an Qi ct),D))(M:O8 K Qi M4=ξ)(S:vw N ps a)(PJ:∀vs H Q E,B vs H Q E->vs.β=ps.β)(i:∀(A:N0)(Fr:γ WC)(s:MH)(H:Hp)(vs:γ V)(Q:VK)(E:XK),ak k (A.RE (S4 M4 a s⁻¹ f Qi))->B vs H Q E->
   ∃t,BA (aG z P w K mg ς N M4 a f Qi A Fr s H E) d t/\t {nx:=λ_ H'=>Q .Rt H',rt:=Q} (SM N vs) H):aa P w K mg ς z (k+1) f (Ps OD M4 c d a T kV Pi pm an Qi ct) ps B:=by
 refine(PJ,λA Fr s H U us vs Q E L p hb r l=>?_);let hl:=PJ _ _ _ _ l;let X:K.In s.ο:=p.VT.Vv.Oq λb o e=>(p.bs b o e).1;let F:s.ο.X3:=p.VT.WZ.Oq λb o e=>(p.bs b o e).1;let h:∀y∈ps.Td us,a.MP.ρ y.1<*.local\/(a.MP.ρ y.1=δ .N8/\((Vm (s⁻¹+1) a.MP []).ρ y.1).Rx=ξ):=λO hy=>by
  let⟨n,v⟩:=O;rcases S.YJ n (Ur hy).1 with q|q
  .exact .NI q
  .exact .NT (q,Δ.W.YW _ _ _ (.NI q))
 refine Sk L.Wj (X _ _ lk) ζ S.co S.gen ζ (Δ.W.codeRec_of X M) (hb _ _ _ _ ?_);refine X9 S.RR h λKK he R x=>?_;subst he;refine(F.Oq x.toInCall.P_,Wk ?_);let⟨t,ht,hq⟩:=i A Fr s H vs Q E (L.RE _) l;let I:f' (aG z P w K mg ς N M4 a f Qi A Fr s H E) [] (SM N vs) H R:=eZ S L.hd p hl r x;refine NG (ht [] R (SM N vs) H _ I hq) (λfl s' j=>?_) λe s' j=>j;let m:∀{g:St}{H':Hp}{v:V}{u:θ},f' (aG z P w K mg ς N M4 a f Qi A Fr s H E) [] g H' s'->ad v u->Q v H'->CE Fr P w H s Q u s':=
  λ{g H' v u}J C q=>(v,H',J.os,J.Rz,J.ς,J.Oc,C,q)
 cases fl with
 |UT u=>
  let⟨v,g,H',J,C,q⟩:=j;show m J C q
 |next=>
  let⟨g,H',J,q⟩:=j;show m (v:=V.Rt) (u:=θ.ε) J ζ q
 |Yg=>
  let⟨_,_,_,q⟩:=j;show NU.Nv q
 |T_=>
  let⟨_,_,_,q⟩:=j;show NU.Nv q
section
variable{X:Cx}{x:Str}{p pos:Pos}{e:Expr}{es:List Expr}{t:TA}{id T:String}{r:List V->Hp->VK->Prop}
abbrev BQ(r:γ V->Hp->VK->Prop)(t:TA):TE:=λσ H Q=>t σ H λvs H1=>r vs H1 Q
def Dp(q:Dc X (.Nf id) r)(n:Gl X x)(m:X.mg x=ε)(k:To x<*.Nf id)(u:PA X (e::es) t)(l:(x≠"__name__")>>>0)(c:((x==("__debug__":M'))=η)>>>0)(o:(Θ (e::es) X.KK=(η,OJ e X.KK,)::Θ es X.KK)>>>4)(b:((OE Ng (Θ es X.KK)).Qk (·.1)=η)>>>4):PE X (.QE (.Nz x p) (e::es) [] Ng) (BQ r t):=by
 intro a s f H Q I h;refine Nh (An I n m k ?_ l c);show Oj.Sf.callWith_builtin1 (ri (u Ng a s f H _ I h) λus g d=>by let⟨vs,w,v,i,j⟩:=d;show q a g f w vs us Q v i j) o b
def Eu(q:Dc X (.MM T) r)(n:Gl X x)(m:X.mg x=ε)(k:To x<*.MM T)(u:PA X (e::es) t)(l:(x≠"__name__")>>>0)(c:((x==("__debug__":M'))=η)>>>0)(o:(Θ (e::es) X.KK=(η,OJ e X.KK,)::Θ es X.KK)>>>4)(b:((OE Ng (Θ es X.KK)).Qk (·.1)=η)>>>4):PE X (.QE (.Nz x p) (e::es) [] Ng) (BQ r t):=by
 intro a s f H Q I h;refine Nh (An I n m k ?_ l c);show Oj.Sf.QV (ri (u Ng a s f H _ I h) λus g d=>by let⟨vs,w,v,i,j⟩:=d;show q a g f w vs us Q v i j) o b
end
end L2
namespace HT
open PyProof.Rows
section
open PySem.SeqAt
open PySem.AutoSeq1 (wpAny_loadPart')
open PySem.MeetsSeq PySem.MeetsSeq2 PySem.MeetsSeq3
end
section
variable{prog:Program}{w:World}{A:Around}{E:Value->Shared->Prop}{s:Shared}
abbrev Sj(n d:Φ):ω ML->Φ
 |ε=>d
 |δ v=>if v<0 then(v+(n:ML)).On else min v.On n
def CO(n d:Φ):Sj n d ε=d:=ζ
def DN(n d k:Φ):Sj n d (δ (k:ML))=min k n:=by
 change (if (k:ML)<0 then((k:ML)+(n:ML)).On else min (k:ML).On n)=min k n;rw[Ω (!6),ML.V0]
def wL(n d:Φ)(b:d≤n)(o:ω ML):Sj n d o≤n:=by
 cases o with
 |ε=>show b
 |δ v=>
  change (if v<0 then(v+(n:ML)).On else min v.On n)≤n;by_cases a:v<0
  .rw [Id a];lia
  .rw [Ω a];show Φ.min_le_right _ _
def nM(v:ML)(n d:Φ):(if v<0 then max (v+(n:ML)) 0 else min v (n:ML))=((Sj n d (δ v):Φ):ML):=by
 change (if v<0 then max (v+(n:ML)) 0 else min v (n:ML))=(((if v<0 then(v+(n:ML)).On else min v.On n):Φ):ML);by_cases a:v<0
 .simp only[Id a];lia
 .simp only[Ω a];lia
def my(lo a:ω ML)(n:Φ):Builtin.Vg.Zz lo a 1 (n:ML)=(((Sj n 0 lo:Φ):ML),((Sj n n a:Φ):ML),):=by
 let h1:¬ ((1:ML)<0):=by lia
 unfold Builtin.Vg.Zz;simp only[h1,Uc];refine Uj.XA ?_ ?_
 .cases lo with
  |ε=>rfl
  |δ v=>show nM v n 0
 .cases a with
  |ε=>rfl
  |δ v=>show nM v n n
def lc(i j:Φ):Builtin.Vg.XQ (i:ML) (j:ML) 1=j-i:=by
 unfold Builtin.Vg.XQ;let h1:(1:ML)>0:=by lia
 simp only[h1,We,ML.ediv_one];split<;>lia
def Lc(p:XI v o)(h:Q o s):BT (Cl Ξ w) A (Builtin.Vg.slicePartIndex v) Q E s:=by
 cases p with
 |ε=>show slicePart_none h
 |MQ i t=>show slicePart_int h
def L7{lo b:ω ML}{n:Φ}(f:s.ο.ZA d vl vu .ε)(pl:XI vl lo)(e:XI vu b)(h:Q (((Sj n 0 lo:Φ):ML),1,Sj n n b-Sj n 0 lo,) s):BT (Cl Ξ w) A (Builtin.Vg.sliceApplied (.π d) (pure (n:ML))) Q E s:=by
 let⟨os,a,g,c⟩:=id f;unfold Builtin.Vg.sliceApplied Builtin.Vg.sliceFields;refine d_ (d_ (NO a c (x:=vl) ζ (d_ (NO a c (x:=vu) ζ (d_ (NO a c (x:=.ε) ζ (j' ?_)))))));refine d_ (slicePart_none ?_);change BT _ _ (if ((1:ML)==0)=ξ then _ else _) _ _ s;rw[Ω (!0)];refine d_ (Lc pl (d_ (Lc e (d_ (j' ?_)))));change BT _ _ (match Builtin.Vg.Zz lo b 1 (n:ML)with|(lo,b)=>pure (lo,(1:ML),Builtin.Vg.XQ lo b 1,)) _ _ s;rw[my lo b n];change BT _ _ (pure (((Sj n 0 lo:Φ):ML),(1:ML),Builtin.Vg.XQ ((Sj n 0 lo:Φ):ML) ((Sj n n b:Φ):ML) 1,)) _ _ s;rw[lc];show j' h
def qH(xs:Nq θ)(i k:Φ):((γ.N2 k).W_ λ(m:Φ)=>xs[((i:ML)+(m:ML)*1).On]?).χ=((xs.ND.Pu i).OC k).χ:=by
 let e:(λ(m:Φ)=>xs[((i:ML)+(m:ML)*1).On]?)=λm=>xs[i+m]?:=by
  funext m;have:((i:ML)+(m:ML)*1).On=i+m:=by lia
  rw[this]
 rw[e];have:=pick_run xs i k;rw[γ.filterMap_map]at this;let a:((λx=>xs[x]?)∘λx=>i+x)=λm=>xs[i+m]?:=ζ;rw[a]at this;rw[this]
def Bh{lo c:ω ML}(d:Wo s.ο t a)(k:s.ο.ZA j vl vu .ε)(pl:XI vl lo)(l:XI vu c)(hw:¬ (Sj a.MV 0 lo=0/\Sj a.MV a.MV c=a.MV))(h:Q (.π s⁻¹) {s with ο:=s.ο.Ni {OM:=.MM "tuple",NH:=.Sx ((a.ND.Pu (Sj a.MV 0 lo)).OC (Sj a.MV a.MV c-Sj a.MV 0 lo)).χ} })(V6:a.MV≤Λ):BT (Cl Ξ w) A (Xy (.π t) (.π j)) Q E s:=by
 let b:sizeOk (.Sx ((a.ND.Pu (Sj a.MV 0 lo)).OC (Sj a.MV a.MV c-Sj a.MV 0 lo)).χ):=by
  change ((a.ND.Pu (Sj a.MV 0 lo)).OC (Sj a.MV a.MV c-Sj a.MV 0 lo)).χ.MV≤Λ;rw[NF,Qu,UF,Pl];omega
 let r:Sj a.MV a.MV c≤a.MV:=wL _ _ (LT _) c;let⟨os,e,g,n⟩:=id k;let i:s.Sa (.π j) "slice":=(os,e,g);unfold Xy;try with_reducible refine NQ ?_
 first|refine d_ (j' ?_)|skip
 refine d_ (wpAny_sequenceKey d.Qz (!0) ?_);refine d_ (OR (OD:=M'.Nd "__getitem__") d.Qz Oj.Sf.Ts
  (Oe Oj.Sf.Ts d.Qz entry_tuple_getitem ?_ (args_tuple_getitem _ _)))
 change BT _ _ (Builtin.RP.ZK (.π t)>>=_) _ _ s;refine d_ (tupleItemsOf_ d ?_);refine d_ (WR i ?_);rw[Id (!0)];refine d_ (L7 k pl l ?_);let f:¬ ((((Sj a.MV 0 lo:Φ):ML)==0&&(1:ML)==1&&(Sj a.MV a.MV c-Sj a.MV 0 lo)==a.MV)=ξ):=by
  intro q;rw[Ou,Ou]at q;let p:((Sj a.MV 0 lo:Φ):ML)=0:=SR q.1.1;let o:Sj a.MV a.MV c-Sj a.MV 0 lo=a.MV:=SR q.2;show hw (!6,!6)
 change BT _ _ (if (((Sj a.MV 0 lo:Φ):ML)==0&&(1:ML)==1&&(Sj a.MV a.MV c-Sj a.MV 0 lo)==a.MV)=ξ then _ else _) _ _ s;rw[Ω f,qH];first
  |show d_ (m:=Builtin.RP.YC _) (Oh (j' (0,j' h)) b)
  |show d_ (m:=Builtin.RP.YC _) (Oh (d_ (j' (j' (0,j' h)))) b)
  |show d_ (d_ (m:=Builtin.RP.YC _) (Oh (j' (j' (0,j' h))) b))
  |show d_ (d_ (m:=Builtin.RP.YC _) (Oh (j' (0,j' h)) b))
end
end HT
namespace L2
open PySem.Spec PyProof.Rows
@[reducible]def TO:=St->Hp->(Option Int->Hp->Prop)->Prop
abbrev PO(X:Cx)(e:ω Ro)(t:TO):Prop:=
 ∀(MZ:γ (υ×Rm))(s:MH)(σ:St)(H:Hp)(Q:ω ML->Hp->Prop),f' X MZ σ H s->t σ H Q->
  BT (Cl X.Ξ X.w) X.A (evalPart e X.KK) (λu s'=>∃o H',f' X MZ σ H' s'/\XI u o/\Q o H') X.xe s
abbrev tNoPart:TO:=λ_ H Q=>Q ε H
inductive wu(Q:Option Int->Hp->Prop)(x:V)(H1:Hp):Prop
 |mk (i:_) (_:x=.int i) (_:Q (some i) H1)
abbrev ya(t:TE):TO:=λσ H Q=>t σ H (wu Q)
section
variable{X:Cx}{e:Expr}{te:TE}{lo hi:Option Expr}{tl th:TO}{pos p2:Pos}
def Gw:PO X ε tNoPart:=by
 intro a s b H Q I h;rw[evalPart_none];show j' (ε,H,I,.ε,h)
def FC(h:PE X e te):PO X (δ e) (ya te):=by
 intro a s c H Q I hw;rw[evalPart_some];refine ri (h a s c H _ I hw) λu k b=>?_;let⟨x,j,g,d,f⟩:=b;let⟨i,ζ,q⟩:=f;let⟨t,ζ⟩:=d;show(δ i,j,g,.MQ i t,q)
abbrev HK(X:Cx)(r:V->ω ML->ω ML->Hp->VK->Prop):Prop:=
 ∀(MZ:γ (υ×Rm))(s:MH)(σ:St)(H:Hp)(x:V)(v vl vu:θ)(lo hi:ω ML)(sl:υ)(Q:VK),f' X MZ σ H s->ad x v->s.ο.ZA sl vl vu .ε->XI vl lo->XI vu hi->r x lo hi H Q->
  ∃T id,YB (.MM T) "__getitem__"=pure (δ (.Nf id))/\s.Sa v T/\BT (Cl X.Ξ X.w) X.A (Xy v (.π sl)) (EP X MZ σ Q) X.xe s
abbrev L8(r:V->ω ML->ω ML->Hp->VK->Prop)(te:TE)(tl th:TO):TE:=λσ H Q=>te σ H λx H1=>tl σ H1 λl H2=>th σ H2 λu H3=>r x l u H3 Q
def Ga(z:HK X r)(D:PE X e te)(B:PO X lo tl)(t:PO X hi th):PE X (.Ui e (.Vg lo hi ε p2) Ng) (L8 r te tl th):=by
 intro a s d H Q I h;refine Subscript_ (ri (D a s d H _ I h) λv j g=>?_);let⟨x,O,M,k,o⟩:=g;refine wpAny_Slice (ri (B a j d O _ M o) λvl s2⟨l,N,L,pl,n⟩=>ri (t a s2 d N _ L n) λvu c f=>?_);let⟨u,i,J,p,m⟩:=f;rw[evalPart_none];refine j' ?_;let F:f' X a d i {c with ο:=c.ο.Ni {OM:=.MM "slice",NH:=.N_ #[vl,vu,.ε]} }:=J.SW (t':=c.MT) λb P q=>sy _ q;let⟨T,id,E,y,C⟩:=z a {c with ο:=c.ο.Ni {OM:=.MM "slice",NH:=.N_ #[vl,vu,.ε]} } d i x v vl vu l u c⁻¹ Q F k (NR.ZA.Xw ..) pl p m;change BT (Cl X.Ξ X.w) X.A (subscriptTail e (.Vg lo hi ε p2) v (.π c⁻¹)) (EP X a d Q) X.xe {c with ο:=c.ο.Ni {OM:=.MM "slice",NH:=.N_ #[vl,vu,.ε]} };show WU (ops:=[.π c⁻¹,v]) y E C (by with_unfolding_all rfl)
abbrev AL(xs:γ V)(lo hi:ω ML):γ V:=(xs.Pu (HT.Sj xs.β 0 lo)).OC (HT.Sj xs.β xs.β hi-HT.Sj xs.β 0 lo)
def Ld(xs:γ V)(lo hi:ω ML):(AL xs lo hi).β≤xs.β:=by
 unfold AL;rw[Qu,UF];lia
inductive z4(K:Frag)(x:V)(lo:Option Int)(hi:Option Int)(H:Hp)(Q:VK):Prop
 |mk (a xs:_) (_:x=.ref a) (_:u0 K H a xs) (_:¬ (HT.sIx xs.length 0 lo=0/\HT.sIx xs.length xs.length hi=xs.length)) (_:∀p,H p=none->Q (.ref p) (upd H p (.tup (AL xs lo hi))))
def wG:HK X (z4 X.K):=by
 intro f s m H x v vl vu lo hi n Q I i l pl j h;let⟨a,xs,ζ,k,hw,q⟩:=h;cases i;let⟨d,r,g,hz⟩:=I.Px k;let c:d.χ.MV=xs.β:=by rw[NF];show r.β.MO
 refine("tuple",_,Oj.Sf.Ts.ρ,g.Qz,3);refine HT.Bh g l pl j (by rw[c];show hw) ?_ (by rw[c];show hz);rw[c];refine(.π s⁻¹,_,I.Tw (t':=s.MT) (o:=.No (AL xs lo hi)) (λb p q=>sy _ q) (LT _) ?_,1,q _ (I.Oc.OF (LT _)));show(IO (Ld xs lo hi) hz,_,(r.Pu (HT.Sj xs.β 0 lo)).OC (HT.Sj xs.β xs.β hi-HT.Sj xs.β 0 lo),Wo.Xw _ _)
end
abbrev Fo(n:Φ)(i:ML):ω Φ:=if 0≤i then(if i<n then δ i.On else ε)else if -(n:ML)≤i then δ (i+n).On else ε
abbrev AN{α:Type}(xs:γ α)(i:ML):ω α:=(Fo xs.β i).Wm λj=>xs[j]?
def uN(h:Fo n i<*j):seqIndex? i n=δ j/\j<n/\-(n:ML)≤i/\i<n:=by
 unfold Fo at h;by_cases h0:0≤i
 .rw [Id h0]at h;by_cases h1:i<n
  .rw [Id h1]at h;let e:i.On=j:=ω.δ.QG h;show(by rw[seqIndex_of h0 h1,e],!6,!6,h1)
  .rw [Ω h1]at h;cases h
 .rw [Ω h0]at h;by_cases h1:-(n:ML)≤i
  .rw [Id h1]at h;let e:(i+n).On=j:=ω.δ.QG h;show(by rw[seqIndex_neg (!6) h1,e],!6,h1,!6)
  .rw [Ω h1]at h;cases h
def ii{xs:γ a}{v:a}(h:AN xs i<*v):∃j,seqIndex? i xs.β=δ j/\xs[j]?=δ v/\j<xs.β/\-(xs.β:ML)≤i/\i<xs.β:=by
 unfold AN at h;cases e:Fo xs.β i with
 |ε=>rw[e]at h;cases h
 |δ j=>
  rw[e]at h;let⟨h1,h2,c,b⟩:=uN e;show(j,h1,h,h2,c,b)
def AG{xs:γ a}{j:Φ}{v:a}(h:xs[j]?<*v):AN xs (j:ML)<*v:=by
 let b:j<xs.β:=(q5 h).1;let e:Fo xs.β (j:ML)<*j:=by
  unfold Fo;rw[Id (!6),Id (!6)];simp
 unfold AN;rw[e];show h
def IK(xs:γ a)(v:a):AN (xs++[v]) (-1)<*v:=by
 let b:(xs++[v]).β=xs.β+1:=by simp
 let e:Fo (xs++[v]).β (-1)<*xs.β:=by
  unfold Fo;rw[b,Ω (!0),Id (!6)];congr 1;lia
 unfold AN;rw[e];change (xs++[v])[xs.β]?<*v;simp
abbrev io(b:Ro):Prop:=∀o i,subscripted b η o i=operate [o,i] (Xy o i)
abbrev CP(X:Cx)(r:R2):Prop:=
 ∀(value U9:Ro)(MZ:γ (υ×Rm))(s:MH)(σ:St)(H:Hp)(x y:V)(v u:θ)(Q:VK),f' X MZ σ H s->ad x v->ad y u->r x y H Q->
  subscripted U9 η v u=operate [v,u] (Xy v u)->BT (Cl X.Ξ X.w) X.A (subscriptTail value U9 v u) (EP X MZ σ Q) X.xe s
abbrev JF(X:Cx)(id:Yc)(r:V->γ V->Hp->VK->Prop):Prop:=
 ∀(MZ:γ (υ×Rm))(s:MH)(σ:St)(H:Hp)(x:V)(xs:γ V)(v:θ)(us:γ θ)(Q:VK),f' X MZ σ H s->ad x v->ae xs us->r x xs H Q->
  BT (Cl X.Ξ X.w) X.A (Ql (.Nf id) (v::us)) (EP X MZ σ Q) X.xe s
section
variable{X:Cx}{a b:Expr}{ta tb:TE}{pos:Pos}
def CP.or(h:CP X r)(h':CP X k):CP X (λx y H Q=>r x y H Q\/k x y H Q):=by
 intro c d e s f H x y v u Q I i g q j;rcases q with q|q
 .exact h c d e s f H x y v u Q I i g q j
 .exact h' c d e s f H x y v u Q I i g q j
def rz(i:CP X r)(k:PE X a ta)(j:PE X b tb)(g:io b):PE X (.Ui a b Ng) (Fl r ta tb):=by
 intro c s d H Q I h;show Subscript_ (Gv k j I h λv u s2 x y m l f e q=>i a b c s2 d m x y v u Q l f e q (g _ _))
inductive qB(K:Frag)(x:V)(y:V)(H:Hp)(Q:VK):Prop
 |mk (p xs i v:_) (_:x=.ref p) (_:y=.int i) (_:o5 K H p xs) (_:AN xs i<*v) (_:Q v H)
inductive kY(K:Frag)(x:V)(y:V)(H:Hp)(Q:VK):Prop
 |mk (p xs i v:_) (_:x=.ref p) (_:y=.int i) (_:u0 K H p xs) (_:AN xs i<*v) (_:Q v H)
inductive rIxS(x:V)(y:V)(H:Hp)(Q:VK):Prop
 |mk (z i c:_) (_:x=.str z) (_:y=.int i) (_:z.length≤sizeLine) (_:AN z.cps.toList i<*c) (_:Q (.str ⟨#[c]⟩) H)
def bT:CP X (qB X.K):=by
 intro e f c s m H x y v u Q I B A h n;let⟨p,xs,i,z,ζ,ζ,C,E,q⟩:=h;cases B;let⟨t,ζ⟩:=A;let⟨k,r,pl,hz⟩:=I.Qt C;let⟨j,h1,h2,M,J,F⟩:=ii E;let⟨w,o,g⟩:=r.VE h2;let D:=r.β;let L:=db;let d:EP X c m Q w s:=(z,H,I,g,q);by_cases h0:0≤i
 .let l:i.On=j:=by
   rw[seqIndex_of h0 F]at h1;show ω.δ.QG h1
  show item_listR pl.QS h0 (!6) (by rw[l];simpa using o) d n
 .let l:(i+(k.χ.MV:ML)).On=j:=by
   rw[seqIndex_neg (!6) J]at h1;rw[NF,<-D];show ω.δ.QG h1
  show ZM (x:=w) pl.QS.Qz slot_list_getitem.ρ
   (wpAny_getItem_list_neg (Q:=λr s'=>r=w/\EP X c m Q r s') pl.QS (!6) (by rw[NF]<;>lia) (!6) (by rw[l];simpa using o) (1,d)) n
def dg:CP X (kY X.K):=by
 intro d e c s k H x y v u Q I m l h o;let⟨p,xs,i,z,ζ,ζ,A,C,q⟩:=h;cases m;let⟨t,ζ⟩:=l;let⟨n,r,pl,hz⟩:=I.Px A;let⟨j,h1,h2,L,J,F⟩:=ii C;let⟨w,D,f⟩:=r.VE h2;let B:=r.β;let E:=db;let g:EP X c k Q w s:=(z,H,I,f,q);show ZM (x:=w) pl.Qz Ts.ρ
  (getItem_tuple (j:=j) (Q:=λr s'=>r=w/\EP X c k Q r s') pl (!6) (!6) (by rw[NF,<-B];show h1) (by simpa using D) (1,g)) o
def gX:CP X rIxS:=by
 intro d e f s A H x y v u Q I k g h l;let⟨z,i,c,ζ,ζ,hz,n,q⟩:=h;let⟨t,ζ⟩:=k;let⟨t',ζ⟩:=g;let⟨j,h1,h2,C,p,o⟩:=ii n;let m:z.TY.ND.β=z.β:=by simp[β]
 rw[m]at h1 p o;let B:=db;show WU (typeIs_str s z t) slot_str_getitem.ρ (getItem_str (c:=c) (by
  let w:decide (i < -(2^63:ML))=η:=M3 (!6);let r:decide (i≥2^63)=η:=M3 (!6);rw[w,r,MX.N9]) (by rw[h1];simpa using h2) (.M_ ⟨#[c]⟩,H,I.Sg _,(_,ζ),q)) l
abbrev L9(K:Nl):R2:=λx y H Q=>qB K x y H Q\/kY K x y H Q\/rIxS x y H Q
def rO:CP X (L9 X.K):=bT.or (dg.or gX)
def f'.M5{f:St}(I:f' X d f H s)(h:H p<*.M5 xs):∃(c:γ θ)(n:Φ),ae xs c/\s.ο.ψ p=δ {OM:=.MM "list",NH:=.Sx c.χ n}/\xs.β≤Λ:=by
 let⟨z,c,n,r,e⟩:=I.Oc p _ h;show(c,n,r,e,z)
def gr(lo c:ω ML)(n:Φ):(TC lo c ε n).1=((HT.Sj n 0 lo:Φ):ML)/\(TC lo c ε n).2.1=((HT.Sj n n c:Φ):ML)/\(TC lo c ε n).2.2=1:=by
 refine(3,3,1)
 .cases lo with
  |ε=>simp[TC,HT.Sj]
  |δ i=>
   simp only[TC,HT.Sj,ω.getD_none,show(1:ML)>0 by decide,We];by_cases h:i<0
   .simp only[h,We]<;>lia
   .simp only[h,Uc]<;>lia
 .cases c with
  |ε=>simp[TC,HT.Sj]
  |δ i=>
   simp only[TC,HT.Sj,ω.getD_none,show(1:ML)>0 by decide,We];by_cases h:i<0
   .simp only[h,We]<;>lia
   .simp only[h,Uc]<;>lia
def dO(c:γ θ)(lo d:ω ML):slicePick c.χ lo d ε=((c.Pu (HT.Sj c.β 0 lo)).OC (HT.Sj c.β c.β d-HT.Sj c.β 0 lo)).χ:=by
 let⟨h1,h2,e⟩:=gr lo d c.χ.MV;unfold slicePick;rw[h1,h2,e];simp only[sliceRange_one,pick_run,NF]<;>rfl
inductive yL(K:Frag)(x:V)(lo:Option Int)(hi:Option Int)(H:Hp)(Q:VK):Prop
 |mk (a xs:_) (_:x=.ref a) (_:o5 K H a xs) (_:∀p,H p=none->Q (.ref p) (upd H p (.lst (AL xs lo hi))))
def HL:HK X (yL X.K):=by
 intro e s m H x v vl vu lo d n Q I g l pl i h;let⟨a,xs,ζ,k,q⟩:=h;cases g;let⟨j,r,f,hz⟩:=I.Qt k;let c:=r.β;refine("list",_,slot_list_getitem.ρ,f.QS.Qz,3);refine wpAny_getItem_list_slice f.QS l pl i .ε (!1) ?_ (by rw[NF]<;>lia);rw[dO,<-c];refine(.π s⁻¹,_,I.Tw (t':=s.MT) (o:=.M5 (AL xs lo d)) (λb p q=>sy _ q) (LT _) ?_,1,q _ (I.Oc.OF (LT _)));show(IO (Ld xs lo d) hz,_,(0),(r.Pu (HT.Sj xs.β 0 lo)).OC (HT.Sj xs.β xs.β d-HT.Sj xs.β 0 lo),MS _ ζ)
abbrev bp:V->MX
 |.Rt=>ξ
 |.bl _=>ξ
 |.MQ _=>ξ
 |.M_ _=>ξ
 |_=>η
abbrev FD:V->V->MX
 |.Rt,.Rt=>ξ
 |.bl a,.bl b=>a==b
 |.bl a,.MQ b=>(if a then 1 else 0)==b
 |.MQ a,.bl b=>a==(if b then 1 else 0)
 |.MQ a,.MQ b=>a==b
 |.M_ a,.M_ b=>a==b
 |_,_=>η
def Gx(d:ad y u)(c:ad x v)(f:bp y=ξ)(e:bp x=ξ):PN.R0 A s u v (FD y x):=by
 cases y with
 |Rt=>
  cases d;cases x with
  |Rt=>cases c;show PN.R0.OP _
  |bl b=>cases c;show PN.R0.none_bool b
  |MQ b=>let⟨t,ζ⟩:=c;show PN.R0.none_int b t
  |M_ b=>let⟨t,ζ⟩:=c;show PN.R0.none_str b t
  |_=>show MJ (show η=ξ from e) MX.M9
 |bl a=>
  cases d;cases x with
  |Rt=>cases c;show PN.R0.bool_none a
  |bl b=>cases c;show PN.R0.Y3 a b
  |MQ b=>let⟨t,ζ⟩:=c;show PN.R0.bool_int a b t
  |M_ b=>let⟨t,ζ⟩:=c;show PN.R0.bool_str a b t
  |_=>show MJ (show η=ξ from e) MX.M9
 |MQ a=>
  let⟨t',ζ⟩:=d;cases x with
  |Rt=>cases c;show PN.R0.int_none a t'
  |bl b=>cases c;show PN.R0.int_bool a t' b
  |MQ b=>let⟨t,ζ⟩:=c;show PN.R0.ZX a t' b t
  |M_ b=>let⟨t,ζ⟩:=c;show PN.R0.int_str a t' b t
  |_=>show MJ (show η=ξ from e) MX.M9
 |M_ a=>
  let⟨t',ζ⟩:=d;cases x with
  |Rt=>cases c;show PN.R0.str_none a t'
  |bl b=>cases c;show PN.R0.str_bool a t' b
  |MQ b=>let⟨t,ζ⟩:=c;show PN.R0.str_int a t' b t
  |M_ b=>let⟨t,ζ⟩:=c;show PN.R0.str_str a t' b t
  |_=>show MJ (show η=ξ from e) MX.M9
 |_=>show MJ (show η=ξ from f) MX.M9
abbrev FE(x:V)(u:θ):MX:=match u with
 |.ε=>FD .Rt x
 |.Pe b=>FD (.bl b) x
 |.MQ i _=>FD (.MQ i) x
 |.M_ z _=>FD (.M_ z) x
 |_=>η
def EN(r:ad y u)(f:bp y=ξ):FE x u=FD y x:=by
 cases y with
 |Rt=>cases r;rfl
 |bl b=>cases r;rfl
 |MQ i=>let⟨t,ζ⟩:=r;rfl
 |M_ z=>let⟨t,ζ⟩:=r;rfl
 |_=>show MJ (show η=ξ from f) MX.M9
def il{x:V}:∀{xs:γ V}{us:γ θ},ae xs us->xs.P' bp=ξ->us.Qk (FE x)=xs.Qk λy=>FD y x
 |_,_,.Op,_=>rfl
 |y::xs,u::us,.NX r t,f=>by
  rw[γ.all_cons,Ou]at f;rw[γ.any_cons,γ.any_cons,EN r f.1,il t f.2]
def BR{A:N0}{s:MH}{x:V}{v:θ}(d:ad x v)(e:bp x=ξ):∀{xs:γ V}{us:γ θ},ae xs us->xs.P' bp=ξ->∀u∈us,PN.R0 A s u v (FE x u)
 |_,_,.Op,_=>λu c=>by cases c
 |y::xs,u::us,.NX r t,f=>λg c=>by
  rw[γ.all_cons,Ou]at f;rcases MN.mp c with ζ|c
  .rw [EN r f.1];show Gx r d f.1 e
  .exact BR d e t f.2 g c
abbrev EO(x:V)(xs:γ V):MX:=xs.Qk λy=>FD y x
inductive Le(K:Frag)(neg:Bool)(x:V)(y:V)(H:Hp)(Q:VK):Prop
 |mk (p xs:_) (_:y=.ref p) (_:(o5 K H p xs\/u0 K H p xs)) (_:bp x=true) (_:xs.all bp=true) (_:Q (.bl (if neg then !EO x xs else EO x xs)) H)
def IL:AQ X (O3 .In) (Le X.K η):=by
 intro f s j H x y v u Q I e i h;let⟨p,xs,ζ,d,g,fs,q⟩:=h;cases i;rcases d with d|d
 .obtain ⟨c,r,pl,hz⟩:=I.Qt d;refine PN.in_listAt (FE x) pl.QS (λw hw=>BR e g r fs w (by simpa using hw)) (.bl _,H,I,1,3);rw[show c.χ.Qk (FE x)=c.Qk (FE x) by simp,il r fs];show q
 .obtain ⟨c,r,pl,hz⟩:=I.Px d;refine PN.in_tupleAt (FE x) pl (λw hw=>BR e g r fs w (by simpa using hw)) (.bl _,H,I,1,3);rw[show c.χ.Qk (FE x)=c.Qk (FE x) by simp,il r fs];show q
def G5:Dc X (.Nf "len") (λxs H Q=>∃p ys,xs=[.π p]/\(o5 X.K H p ys\/u0 X.K H p ys)/\Q (.MQ ys.β) H):=by
 intro g s j H xs us Q I r h;let⟨p,ys,ζ,d,q⟩:=h;let⟨u,ζ,i⟩:=Do r;cases i;let k:=db;rcases d with d|d
 .obtain ⟨f,e,pl,hz⟩:=I.Qt d;let c:=e.β;show R_.call_len_list pl.QS (by simp only[NF]<;>lia) (.MQ ys.β,H,I.Sg _,(s.MT+1,by rw[NF,c]),q)
 .obtain ⟨f,e,pl,hz⟩:=I.Px d;let c:=e.β;show len_tuple pl (by simp only[NF]<;>lia) (.MQ ys.β,H,I.Sg _,(s.MT+1,by rw[NF,c]),q)
def Lf:Dc X (.Nf "len") (λxs H Q=>∃z,xs=[.M_ z]/\z.β≤Λ/\Q (.MQ z.β) H):=by
 intro c s d H xs us Q I r h;let⟨z,ζ,hz,q⟩:=h;let⟨u,ζ,t,ζ⟩:=Do r;let e:=db;show len_str (!6) (.MQ z.β,H,I.Sg _,(_,ζ),q)
def Lh:Dc X (.MM "list") (λxs H Q=>∃p ys,xs=[.π p]/\(o5 X.K H p ys\/u0 X.K H p ys)/\∀l,H l=ε->Q (.π l) (MR H l (.M5 ys))):=by
 intro g s z H xs us Q I r h;let⟨p,ys,ζ,j,q⟩:=h;let⟨u,ζ,A⟩:=Do r;cases A;let m:∀(c:γ θ),ae ys c->ys.β≤Λ->∀(h':NR)(f:Φ),(∀b y,s.ο.ψ b<*y->h'.ψ b<*y)->
   h'.ψ s⁻¹<*{OM:=.MM "list",Pv:=ε,NH:=.Sx c.χ f,Rw:=#[]}->EP X g z Q (.π s⁻¹) {s with ο:=h'}:=λc d hz h' f i e=>
  (.π s⁻¹,_,I.Tw (t':=s.MT) i (LT _) (show Az X.Ξ X.w _ h' _ (.M5 ys)from(hz,c,f,d,e)),1,q _ (I.Oc.OF (LT _)))
 rcases j with j|j
 .obtain ⟨c,d,pl,hz⟩:=I.Qt j;let k:=d.β;let⟨o,t,x,n,v⟩:=pl.QS;show call_list_seq p (.NI ζ) t x v (λh' f i e=>m c d hz h' f i e) (by simp only[NF]<;>lia)
 .obtain ⟨c,d,pl,hz⟩:=I.Px j;let k:=d.β;let⟨o,t,x,n,v⟩:=pl;show call_list_seq p (.NT ζ) t x v (λh' f i e=>m c d hz h' f i e) (by simp only[NF]<;>lia)
def Gb:Dc X (.MM "tuple") (λxs H Q=>∃p ys,xs=[.π p]/\((o5 X.K H p ys/\∀l,H l=ε->Q (.π l) (MR H l (.No ys)))\/(u0 X.K H p ys/\Q (.π p) H))):=by
 intro c s i H xs us Q I r h;let⟨p,ys,ζ,h⟩:=h;let⟨u,ζ,m⟩:=Do r;cases m;rcases h with⟨g,q⟩|⟨g,q⟩
 .obtain ⟨d,f,pl,hz⟩:=I.Qt g;let j:=f.β;refine call_tuple_list pl.QS (λh' n=>?_) (by simp only[NF]<;>lia);let k:f' X c i H {s with ο:=h'}:=I.SW (t':=s.MT) n;let t:f' X c i (MR H h'.Np.MV (.No ys)) {s with ο:=h'.Ni {OM:=.MM "tuple",NH:=.Sx d.χ} }:=
   k.Tw (t':=s.MT) (λb o e=>sy _ e) (LT _) (show Az X.Ξ X.w _ _ _ (.No ys)from(hz,d,f,Wo.Xw _ _))
  show(.π h'.Np.MV,_,t,1,q _ (k.Oc.OF (LT _)))
 .obtain ⟨d,f,pl,hz⟩:=I.Px g;show call_tuple_same pl (.π p,H,I,1,q)
abbrev JG(K:Nl)(T:Yc)(x:V)(H:Hp):Prop:=match x with
 |.M_ _=>T="str"
 |.MQ _=>T="int"
 |.π p=>(T="list"/\∃xs,o5 K H p xs)\/(T="tuple"/\∃o,K.ρ p=δ o/\o.OM=.MM "tuple"/\o.Pv=ε) \/
   (T="dict"/\((∃NP,H p<*.dK NP)\/∃NP,H p<*.dT NP))\/(T="set"/\∃S n,H p<*.RY S n)
 |_=>NU
def qa{l:St}(I:f' X j l H s)(r:ad x v)(ty:JG X.K T x H):s.Sa v T/\∀a,v=.π a->∃k,s.ο.ψ a=δ k/\k.Pv=ε:=by
 cases x with
 |M_ z=>
  let⟨t,ζ⟩:=r;cases(show T="str" from ty);show(typeIs_str s z t,λ_ e=>nomatch e)
 |MQ i=>
  let⟨t,ζ⟩:=r;cases(show T="int" from ty);show(typeIs_int s i t,λ_ e=>nomatch e)
 |π p=>
  cases r;rcases ty with⟨rfl,xs,q⟩|⟨rfl,o,d,u,g⟩|⟨rfl,d⟩|⟨rfl,S,n,d⟩
  .obtain ⟨m,_,pl,_⟩:=I.Qt q;refine(pl.QS.Qz,λa e=>?_);cases e;let⟨o,n,e,c,g,_⟩:=pl;show(o,e,g)
  .refine ((o,I.TX p o d,u),λa e=>?_);cases e;show(o,I.TX _ o d,g)
  .let z:∃o,s.ο.ψ p=δ o/\o.ZB:=by
    rcases d with⟨NP,d⟩|⟨NP,d⟩
    .obtain ⟨_,_,_,_,o,_,_,e,f,_⟩:=I.Oc p _ d;show(o,e,f)
    .obtain ⟨_,_,_,_,o,_,_,e,f,_⟩:=I.Oc p _ d;show(o,e,f)
   let⟨o,e,f⟩:=z;refine((o,e,f.1),λa h=>?_);cases h;show(o,e,f.2.1)
  .obtain ⟨o,_,_,_,e,f,_⟩:=I.Oc p _ d;refine((o,e,f.1),λa h=>?_);cases h;show(o,e,f.2.1)
 |_=>show NU.Nv ty
abbrev zU(K:Nl)(T:Yc)(r:V->γ V->Hp->VK->Prop)(to:TE):TE:=λσ H Q=>to σ H λx H1=>JG K T x H1/\r x [] H1 Q
abbrev Cq(K:Nl)(T:Yc)(r:V->γ V->Hp->VK->Prop)(to:TE)(t:TA):TE:=λσ H Q=>to σ H λx H1=>JG K T x H1/\t σ H1 λxs H2=>r x xs H2 Q
variable{o e:Expr}{es:List Expr}{to:TE}{t:TA}{name:Str}{apos cpos:Pos}{T id:String}{r:V->List V->Hp->VK->Prop}
def cL(pa:PlainAttrs T)(g:Slot T OD id)(i:typeOf (.Nf id)=pure (.MM "method_descriptor"))(u:JF X id r)(q:PE X o to)(f:(QH o OD X.KK (OJ o X.KK)=OJ o X.KK)>>>4)(d:((Zi.Zf==Xm.SV)=ξ)>>>4):PE X (.QE (.Ox o OD Zi) [] [] Xm) (zU X.K T r to):=by
 intro c s k H Q I h;refine wpAny_Call_method0_late f d (ri (q c s k H _ I h) λv n j=>?_);let⟨x,w,m,l,ty,p⟩:=j;let⟨h1,h2⟩:=qa m l ty;show(T,id,pa,g,i,h1,h2,R_.Ue ζ (Δ.evalArgs_none (u c n k w x [] v [] Q m l .Op p)))
def jb(pa:PlainAttrs T)(i:Slot T OD id)(l:typeOf (.Nf id)=pure (.MM "method_descriptor"))(D:JF X id r)(C:PE X o to)(E:PA X (e::es) t)(g:(QH o OD X.KK (OJ o X.KK)=OJ o X.KK)>>>4)(j:(((OE Xm (Θ (e::es) X.KK)).P' (λx=>!x.1)&&(Ve Xm (TH [] X.KK)).P' (λx=>x.1.Rx)
   && decide ((e::es).β+([]:γ Vo).β+(if ([]:γ Vo).SE then 0 else 1)<30))=ξ)>>>4)(f:((Zi.Zf==Xm.SV)=ξ)>>>4)(B:(Θ (e::es) X.KK=(η,OJ e X.KK,)::Θ es X.KK)>>>4)(d:((OE Xm (Θ es X.KK)).Qk (·.1)=η)>>>4):PE X (.QE (.Ox o OD Zi) (e::es) [] Xm) (Cq X.K T r to t):=by
 intro c s k H Q I h;refine ZI g j f ζ (ri (C c s k H _ I h) λv w n=>?_);let⟨x,L,u,p,ty,A⟩:=n;let⟨h1,h2⟩:=qa u p ty;refine(T,id,pa,i,l,h1,h2,3);let q:=E Xm c w k L _ u A;rw[B]at q⊢;refine R_.Ue (by change (η||(OE Xm (Θ es X.KK)).Qk (·.1))=η;rw[d]<;>rfl) (R_.SY ?_);show ri q λus s2 m=>by let⟨vs,J,F,y,z⟩:=m;show D c s2 k J x vs v us Q F p y z
end
abbrev IM(X:Cx)(id:Yc)(r:V->γ V->Hp->VK->Prop):Prop:=
 ∀(MZ:γ (υ×Rm))(s:MH)(σ:St)(H:Hp)(x:V)(xs:γ V)(v:θ)(us:γ θ)(Q:VK),f' X MZ σ H s->ad x v->ae xs us->r x xs H Q->
  BT (Cl X.Ξ X.w) X.A (Ql (.Nf id) (v::us)) (EP X MZ σ Q) X.xe s
def ae.Of:∀{x:V}{us:γ θ},ae [x] us->∃u,us=[u]/\ad x u
 |_,_,.NX r .Op=>(0,r)
def ae.TB:∀{us:γ θ},ae [] us->us=[]
 |_,.Op=>rfl
def ae.RO(h:ae xs us):ae xs.RO us.RO:=by
 induction h with
 |Op=>show .Op
 |NX r t a=>
  cases t with
  |Op=>show .Op
  |NX q t'=>show .NX r a
def lZ{c:Type}(l:γ c):l.eraseIdx (l.β-1)=l.RO:=by
 induction l with
 |Op=>rfl
 |NX a r d=>
  cases r with
  |Op=>rfl
  |NX b r=>
   let e:(a::b::r).β-1=((b::r).β-1)+1:=by
    let h1:(a::b::r).β=r.β+2:=ζ;let h2:(b::r).β=r.β+1:=ζ;lia
   rw[e,γ.eraseIdx_cons_succ,d];all_goals rfl
section
variable{X:Cx}{pins:List (Addr×Obj)}{σ:St}{H:Hp}{s:Shared}{l b:Addr}{xs ys zs:List V}
def f'.lset{a its':γ θ}(I:f' X MZ σ H s)(i:H l<*.M5 xs)(e:s.ο.ψ l<*{OM:=.MM "list",NH:=.Sx a.χ n})(g:f a.χ=its'.χ)(c:ae ys its')(hz:ys.β≤Λ):f' X MZ σ (MR H l (.M5 ys)) {s with ο:=s.ο.Oy l (Sz f),MT:=t'}:=by
 let q:=Δ.IsL.Oy e f;rw[g]at q;refine I.WQ (x:=l) (e:=l) (by rw[i];show trivial) (.NI ζ) (λj u h d=>(OW s.ο (Sz f) (Ne.MO h)).ν d) (_,q) ?_;show(hz,its',_,c,q)
def f'.lnew(I:f' X MZ σ H s)(c:ae ys a)(hz:ys.β≤Λ):f' X MZ σ (MR H s⁻¹ (.M5 ys)) {s with ο:=s.ο.Ni {OM:=.MM "list",NH:=.Sx a.χ},MT:=t'}:=
 I.Tw (λ_ _ q=>sy _ q) (LT _) (hz,a,(0),c,MS _ ζ)
def f'.OF(I:f' X MZ σ H s):H s⁻¹=ε:=I.Oc.OF (LT _)
def f'.lstM(I:f' X MZ σ H s)(c:H l<*.M5 xs):xs.β≤Λ/\∃(a:γ θ)(n:Φ),ae xs a/\xs.β=a.β/\s.ο.ψ l<*{OM:=.MM "list",NH:=.Sx a.χ n}:=by
 let⟨z,a,n,r,e⟩:=I.Oc l _ c;show(z,a,n,r,r.β,e)
end
section
variable{X:Cx}
inductive rAppend(x:V)(vs:List V)(H:Hp)(Q:VK):Prop
 |mk (l xs y:_) (_:x=.ref l) (_:vs=[y]) (_:H l<*.lst xs) (_:xs.length<sizeLine) (_:Q .non (upd H l (.lst (xs++[y]))))
def eQ:IM X "list.append" rAppend:=by
 intro b s i H x vs v us Q I d f h;let⟨l,xs,y,ζ,ζ,c,hz,q⟩:=h;cases d;let⟨u,ζ,g⟩:=f.Of;let⟨z,a,n,r,j,e⟩:=I.lstM c;refine YX F.slot_list_append (_,e,1) F.entry_list_append (F.args_list_append_2 _ _) (Δ.list_append l a.χ n u (by rw[NF];lia)) (e,3);refine(.Rt,_,I.lset (its':=a++[u]) c e (!1) (r.Ya (.NX g .Op)) ?_,1,q);rw[w_,γ.W7];lia
inductive rPop(x:V)(vs:List V)(H:Hp)(Q:VK):Prop
 |mk (l xs y:_) (_:x=.ref l) (_:vs=[]) (_:H l<*.lst xs) (_:xs[xs.length-1]?<*y) (_:Q y (upd H l (.lst xs.dropLast)))
def cZ:IM X "list.pop" rPop:=by
 intro d s p H x vs v us Q I g i h;let⟨l,xs,y,ζ,ζ,f,k,q⟩:=h;cases g;let c:=i.TB;subst c;let⟨z,a,n,r,o,e⟩:=I.lstM f;let⟨u,m,j⟩:=r.VE k;let b:a.χ[a.χ.MV-1]?<*u:=by
  change a.χ[a.β-1]?<*u;rw[<-Qa,<-o];show m
 refine YX F.S9 (_,e,1) F.entry_list_pop (F.args_list_pop_1 _) (MeetsSeq.list_pop_last l a.χ n u b (by rw[NF];lia)) (e,3);refine(y,_,I.lset (its':=a.RO) f e ?_ r.RO ?_,j,q)
 .change a.χ.eraseIdxIfInBounds (a.χ.MV-1)=a.RO.χ;rw[NF,γ.eraseIdxIfInBounds_toArray,lZ]
 .rw [γ.length_dropLast];lia
inductive rCat(x:V)(y:V)(H:Hp)(Q:VK):Prop
 |mk (l b xs zs:_) (_:x=.ref l) (_:y=.ref b) (_:H l<*.lst xs) (_:H b<*.lst zs) (_:xs.length+zs.length≤sizeLine) (_:∀p,H p=none->Q (.ref p) (upd H p (.lst (xs++zs))))
def Gy:AQ X (Rk .Add) rCat:=by
 intro d s t H x y v u Q I g f h;let⟨l,b,xs,zs,ζ,ζ,k,m,hz,q⟩:=h;cases g;cases f;let⟨z,c,n,r,B,e⟩:=I.lstM k;let⟨w,a,A,i,j,p⟩:=I.lstM m;refine Δ.P.add_list e p ?_ (by rw[NF,NF];lia);let o:c.χ++a.χ=(c++a).χ:=by simp
 rw[o];show(.π _,_,I.lnew (t':=s.MT) (r.Ya i) (by rw[w_];omega),1,q _ I.OF)
end
section
variable{prog:Program}{w:World}{A:Around}{E:Value->Shared->Prop}{s:Shared}
end
section
variable{X:Cx}
end
end L2
namespace Att
open PySem.W PySem.Calls PyProof.Rows
def L_:∀(ns:γ ML)(vs:γ θ),WellAll P h vs (ns.NL WData.MQ)->S' vs ns:=by
 intro ns;induction ns with
 |Op=>
  intro vs w;rw[γ.map_nil]at w;cases w;show .Op
 |NX n ns c=>
  intro vs w;rw[Qp]at w;cases w with
  |NX a b=>
   cases a;show .NX _ _ (c _ b)
def oA{l:X2}(u:l.most<*n)(c:l.Vt.toRowW.claim.pre b=ξ)(k:WellAll P h e b):∃a vs ns,e=[θ.π a]/\b=[WData.Qt (ns.NL WData.MQ)]/\h.ψ a=δ {OM:=.MM "list",NH:=.Sx vs.χ}/\S' vs ns/\ns.β≤n:=by
 let m:WShape.hasAll [] b [.Qt .MQ]=ξ:=(pre_splitW c).1;let o:l.pre.holds [] {args:=b}=ξ:=(pre_splitW c).2;let⟨d,r,ζ,h1,h2⟩:=hasAllW_cons m;obtain ζ:=hasAllW_nil h2;let⟨xs,ζ,v⟩:=hasW_list h1;let⟨ns,ζ⟩:=Y0 v;let f:ns.β≤n:=by
  unfold X2.pre at o;let j:(WTm.not (.lt (.lit (.MQ (n:ML))) (.PJ (.arg 0)))).holds [] {args:=[.Qt (ns.NL .MQ)]}=ξ:=by
   let j:=(holds_andW o).1;rw[u]at j;show j
  let i:=condW_of j (w_not (w_lt w_lit (w_len_list (w_arg ζ))));rw[ol]at i;refine OQ λq=>?_;let s:(n:ML)<((ns.β:Φ):ML):=by omega
  first
   |(rw[NJ s]at i;show MJ i (!0))
   |(simp at i;omega)
 cases k with
 |NX p w2=>
  cases w2;cases p with
  |Qt t g=>show(_,_,ns,5,t,L_ ns _ g,f)
def oK(l:X2)(a:γ WData):l.Vt.toRowW.claim.post a (.Pe ξ) a=ξ:=
 postW_of (r:=l.Vt.toRowW) (X:=(ξ==ξ))
  (show WShape.Tn [] (.Pe ξ) .Pe=ξ by first|rfl|decide|simp[WShape.Tn,WShape.arms,WShape.armsAll])
  (show(WTm.eq .res (.lit (.Pe ξ))).value [] {args:=a,res:=δ (.Pe ξ),XZ:=a}<*.Pe (ξ==ξ)from w_eq_bool (w_res ζ) w_lit) ζ
def CQ{l:X2}(C:l.most<*n)(s:d.Oz.defaults=[])(Ql:∀(w:Ny)(c b:MH)(mg k:M'->ω θ)(fa:υ)(o:Rm)(pm j Pi:θ)(a:υ)(vs:γ θ)(ns:γ ML),
   Ground q loose [] XP w c mg k b.ο->YP w b.ο->
   b.ο.ψ fa<*o->o.NH=.QY (docDef d.OD d.Oz d.Yt d.NE pm j Pi)->b.ο.N7 j d.OD->mg d.OD<*.π fa->
   b.ο.ψ a<*{OM:=.MM "list",NH:=.Sx vs.χ}->S' vs ns->ns.β≤n->b.Ty=#[]->
   Qe (Cl l.Ξ w) Wl (.Ql (.π fa) ([.π a],[])) (λr s'=>r=.ok (.UT (.Pe ξ))/\OldK b.ο s'.ο/\s'.os=b.os/\Wp s'.Ty) b):WalkO q loose XP YP l.Vt.toRowW d [] (λf vs=>Δ.Ql f vs):=by
 intro w c b mg k G Y fa o pm j Pi L kV B H t x p F y u M g v z m E;obtain ζ:L=.ε:=Dflts.ε x s;obtain ζ:kV=.ε:=Dflts.noKw x;let⟨a,vs,ns,ζ,ζ,h,e,i⟩:=oA C g m;refine enter_call (PY (Ql w c b mg k fa o pm j Pi a vs ns G Y B (fd_plain H) t p h e i F) λr s' A=>?_);let⟨rfl,h2,J,I⟩:=A;show(.NI (.Pe ξ,.Pe ξ,[],1,λ_=>rfl,.Pe ξ,oK l _,λ_=>(γ.Pairwise.Op,λ_ D=>(nomatch D))),h2,J,I)
section
variable{prog:Program}{w:World}{A:Around}{E:Value->Shared->Prop}{s:Shared}{K:Frag}
end
end Att
namespace L2
open PySem.Spec PyProof.Rows
def d_D:∀{vs:γ θ}{ns:γ ML},S' vs ns->ae (ns.NL V.MQ) vs
 |_,_,.Op=>.Op
 |_,_,.NX n t h=>.NX (t,1) (d_D h)
abbrev Cr(s:Nr)(j:Φ):Nr:=match s with
 |.ClassDef _ _ _ Yt _ _ _ _ _ _ _=>Yt.MI j (.Vz ((0),(0),(0),(0)))
 |_=>.Vz ((0),(0),(0),(0))
abbrev t5(s:Nr):QK:=match s with
 |.Vh _ a _ _ _ _ _ _ _ _=>a
 |_=>{posonlyargs:=[],args:=[],vararg:=ε,kwonlyargs:=[],kw_defaults:=[],kwarg:=ε,defaults:=[]}
abbrev p_(s:Nr):γ Nr:=match s with
 |.Vh _ _ b _ _ _ _ _ _ _=>b
 |_=>[]
abbrev h_(s:Nr):RX:=match s with
 |.Vh _ _ _ _ _ _ sc _ _ _=>sc
 |_=>{RR:=.RM,MP:=[],isGenerator:=η,isCoroutine:=η}
instance pu:CXT:=λ_ _ _ _ _ _=>NU
instance E0:XK:=λ_ _ _=>NU
def CS:Et pu X E0:=λ_ _ _ _ _ _ _ h=>h.Nv
structure vh(K:Frag)(x qual:Str)(st:Stmt)(f:Addr)(fd:FuncData):Prop where
 ex:∃(oc:Value)(od:Option Addr)(kV doc pm:Value)(an:Option Addr)(cdv ct:Value)(osl:Array (Option Value)),
  fd=fnOf x qual (t5 st) (p_ st) (h_ st) .none kV doc pm an cdv ct/\K.lookup f=some (oc,od,.func fd,osl)/\codeIn K cdv qual=true
 kp:keepIn K (.ref f)=true
section
variable{P:Program}{w:World}{K:Frag}{mg:Str->Option Value}{base:Heap}
def vh.ok{st:Nr}(F:vh K x M4 st f i)(S:vw N ps (h_ st))(PJ:∀vs H Q E,d vs H Q E->vs.β=ps.β)(a:∀(Qi:θ)(A:N0)(Fr:γ WC)(s:MH)(H:Hp)(vs:γ V)(Q:VK)(E:XK),ak k (A.RE (S4 M4 (h_ st) s⁻¹ f Qi))->d vs H Q E->
   ∃t,BA (aG pu P w K mg ς N M4 (h_ st) f Qi A Fr s H E).nox (p_ st) t/\t {nx:=λ_ H'=>Q .Rt H',rt:=Q} (SM N vs) H):aa P w K mg ς pu (k+1) f i ps d:=by
 let⟨l,j,kV,Pi,pm,an,Qi,ct,e,ζ,lk,c⟩:=F.ex;refine jC lk c S PJ λA Fr s H vs Q E g b=>?_;let⟨t,h,q⟩:=a Qi A Fr s H vs Q E g b;show(t,h.nox,q)
def vh.V_{st:Nr}(F:vh K x M4 st f c)(h:∀(kV Pi pm:θ)(an:ω υ)(Qi ct:θ)(us:γ θ),us.β=ps.β->TL (Ps x M4 (t5 st) (p_ st) (h_ st) .ε kV Pi pm an Qi ct) (us,[])=pure (ps.Td us)):Ao K c ps []:=by
 let⟨e,d,kV,Pi,pm,an,Qi,ct,a,ζ,lk,b⟩:=F.ex;show .P' (h kV Pi pm an Qi ct)
def D7{st:Nr}{kV Pi pm Qi ct:θ}(l:K.ρ f<*(d,b,.QY (Ps x M4 (t5 st) (p_ st) (h_ st) .ε kV Pi pm an Qi ct),a))(c:O8 K Qi M4=ξ)(k:UO K (.π f)=ξ):vh K x M4 st f (Ps x M4 (t5 st) (p_ st) (h_ st) .ε kV Pi pm an Qi ct):=((d,b,kV,Pi,pm,an,Qi,ct,a,1,l,c),k)
end
def Gc(h:n≤1000):n<Λ:=Nk h (!0)
section
variable{X:Cx}
def pv(i:Φ){Ng:Sn}(d:(X.N[i]?<*x)>>>4)(b:GY X.KK.NE x>>>8)(c:((x==("__debug__":M'))=η)>>>0)(a:((x==("__classdict__":M'))=η)>>>0):PE X (.Nz x Ng) (bB i):=wQ d b c a
end
def aj{A B:Prop}(h:B):if η=ξ then A else B:=by
 rw[Ω MX.M9];show h
def aw{A B:Prop}(h:A):if ξ=ξ then A else B:=by
 rw[Id ζ];show h
def D8{c A B:Prop}[ZD c](a:c)(h:B):if (!decide c)=ξ then A else B:=by
 rw[NJ a];show aj h
abbrev a'(H H':Hp):Prop:=∀b o,H b<*o->H' b<*o
def a'.Th(H:Hp):a' H H:=λ_ _ h=>h
def a'.ν(a:a' H e)(b:a' e d):a' H d:=λc o h=>b c o (a c o h)
def a'.N4(e:a' H H')(h:H' l=ω.ε):H l=ω.ε:=by
 cases q:H l with
 |ε=>rfl
 |δ o=>
  rw[e l o q]at h;cases h
def a'.Sx{K:Nl}(e:a' H H')(h:o5 K H a xs):o5 K H' a xs:=by
 rcases h with(h|⟨o,h⟩)|h
 .exact .NI (.NI (e _ _ h))
 .exact .NI (.NT (o,e _ _ h))
 .exact .NT h
end L2
set_option Elab.async false
set_option maxRecDepth 100000
set_option maxHeartbeats 4000000
namespace RA
open L2
end RA
namespace L2
inductive E2{a0 a1:Type}(p:a0->a1->Prop):Prop
 |mk (x0:a0) (x1:a1) (h:p x0 x1)
inductive E3{a0 a1 a2:Type}(p:a0->a1->a2->Prop):Prop
 |mk (x0:a0) (x1:a1) (x2:a2) (h:p x0 x1 x2)
inductive E4{a0 a1 a2 a3:Type}(p:a0->a1->a2->a3->Prop):Prop
 |mk (x0:a0) (x1:a1) (x2:a2) (x3:a3) (h:p x0 x1 x2 x3)
inductive E5{a0 a1 a2 a3 a4:Type}(p:a0->a1->a2->a3->a4->Prop):Prop
 |mk (x0:a0) (x1:a1) (x2:a2) (x3:a3) (x4:a4) (h:p x0 x1 x2 x3 x4)
inductive E6{a0 a1 a2 a3 a4 a5:Type}(p:a0->a1->a2->a3->a4->a5->Prop):Prop
 |mk (x0:a0) (x1:a1) (x2:a2) (x3:a3) (x4:a4) (x5:a5) (h:p x0 x1 x2 x3 x4 x5)
inductive A3(a0 a1 a2:Prop):Prop
 |mk (_:a0) (_:a1) (_:a2)
inductive A4(a0 a1 a2 a3:Prop):Prop
 |mk (_:a0) (_:a1) (_:a2) (_:a3)
inductive A5(a0 a1 a2 a3 a4:Prop):Prop
 |mk (_:a0) (_:a1) (_:a2) (_:a3) (_:a4)
inductive A6(a0 a1 a2 a3 a4 a5:Prop):Prop
 |mk (_:a0) (_:a1) (_:a2) (_:a3) (_:a4) (_:a5)
inductive A7(a0 a1 a2 a3 a4 a5 a6:Prop):Prop
 |mk (_:a0) (_:a1) (_:a2) (_:a3) (_:a4) (_:a5) (_:a6)
inductive A8(a0 a1 a2 a3 a4 a5 a6 a7:Prop):Prop
 |mk (_:a0) (_:a1) (_:a2) (_:a3) (_:a4) (_:a5) (_:a6) (_:a7)
inductive A9(a0 a1 a2 a3 a4 a5 a6 a7 a8:Prop):Prop
 |mk (_:a0) (_:a1) (_:a2) (_:a3) (_:a4) (_:a5) (_:a6) (_:a7) (_:a8)
end L2
namespace L2
open PySem.Spec PyProof.Rows
abbrev Gz(x:M'):It:=(λi _=>i<x.β,λi H v H'=>H'=H/\∃c,x.TY[i]?=δ c/\v=.M_ ⟨#[c]⟩,λi _=>x.β≤i)
def oi{K:Nl}(x:M')(t:Xp)(it:υ):dI P w K M (Gz x) [it] it (λi h=>h.IsStrIter it "str_ascii_iterator" x t i)  where
 mem:=by simp
 Ua:=λi h st b g=>by
  let e:b=it:=by simpa using g
  subst e;let⟨o,e,c,d⟩:=st;show(o,e,λv z=>by rw[d]at z;cases z)
 P_:=λi h h' st k=>by
  let⟨o,e,r⟩:=st;show(o,k it (!1) o e,r)
 Ut:=by
  intro X m hw n C i a s B H E I l st f;subst m hw n;let f:i<x.TY.MV:=f;let⟨A,y,F,u,q,p⟩:=l it (!1);refine wpAny_pyNext_ascii_item st (c:=x.TY[i]) (by simp[f]) λh' j D=>?_;let L:f' X a B H {s with ο:=h',MT:=s.MT+1}:=I.OH (t':=s.MT+1) (λb o g e=>(D.2 b g).ν e) A y u q p;let⟨o,e,c,d⟩:=id j;show(0,fo (s:={s with ο:=h',MT:=s.MT+1}) e c d (!0) (.M_ ⟨#[x.TY[i]]⟩,H,L,(_,ζ),(1,_,by simp[f],1),j,λb g=>(l b g).1))
 done:=by
  intro X m hw n C i a s B H E I l st f;subst m hw n;let f:x.TY.MV≤i:=f;let⟨A,y,F,u,q,p⟩:=l it (!1);show wpAny_pyNext_ascii_end (I.ok.hd C) st (by simp[f]) λh' J=>(1,I.OH (t':=s.MT) (λb o g e=>J b o g e) A y u q p)
 Yj:=λ_ _ _ _ _ st h=>wpAny_pyIter_striter_ascii st h
def oa{K:Nl}(x:M')(t:Xp)(it:υ):dI P w K M (Gz x) [it] it (λi h=>h.IsStrIter it "str_iterator" x t i)  where
 mem:=by simp
 Ua:=λi h st b g=>by
  let e:b=it:=by simpa using g
  subst e;let⟨o,e,c,d⟩:=st;show(o,e,λv z=>by rw[d]at z;cases z)
 P_:=λi h h' st k=>by
  let⟨o,e,r⟩:=st;show(o,k it (!1) o e,r)
 Ut:=by
  intro X m hw n C i a s B H E I l st f;subst m hw n;let f:i<x.TY.MV:=f;let⟨A,y,F,u,q,p⟩:=l it (!1);refine wpAny_pyNext_wide_item st (c:=x.TY[i]) (by simp[f]) λh' j D=>?_;let L:f' X a B H {s with ο:=h',MT:=s.MT+1}:=I.OH (t':=s.MT+1) (λb o g e=>(D.2 b g).ν e) A y u q p;let⟨o,e,c,d⟩:=id j;show(0,fo (s:={s with ο:=h',MT:=s.MT+1}) e c d (!0) (.M_ ⟨#[x.TY[i]]⟩,H,L,(_,ζ),(1,_,by simp[f],1),j,λb g=>(l b g).1))
 done:=by
  intro X m hw n C i a s B H E I l st f;subst m hw n;let f:x.TY.MV≤i:=f;let⟨A,y,F,u,q,p⟩:=l it (!1);show wpAny_pyNext_wide_end (I.ok.hd C) st (by simp[f]) λh' J=>(1,I.OH (t':=s.MT) (λb o g e=>J b o g e) A y u q p)
 Yj:=λ_ _ _ _ _ st h=>wpAny_pyIter_striter_wide st h
inductive zi(R:It->Hp->Prop)(v:V)(H1:Hp):Prop
 |mk (x:_) (_:v=.str x) (_:R (Gz x) H1)
abbrev zj(tl:TE):TI:=λσ H R=>tl σ H (zi R)
def gD(r:PE X l m):PI X u l (zj m):=by
 intro d s k H R I h;refine ri (r d s k H _ I h) λv a g=>?_;let⟨y,j,c,n,p⟩:=g;let⟨x,ζ,q⟩:=p;let⟨t,ζ⟩:=n;cases i:x.TY.P' (· < 128)
 .refine wpAny_pyIter_wide i ?_;refine(a⁻¹,[a⁻¹],_,_,j,1,c.SW (t':=a.MT) λb o e=>sy _ e,oa x t _,(_,MS _ ζ,5),λb f=>?_,q);let e:b=a⁻¹:=by simpa using f
  subst e;show c.ZZ (LT _) (c.Oc.OF (LT _))
 .refine wpAny_pyIter_ascii i ?_;refine(a⁻¹,[a⁻¹],_,_,j,1,c.SW (t':=a.MT) λb o e=>sy _ e,oi x t _,(_,MS _ ζ,5),λb f=>?_,q);let e:b=a⁻¹:=by simpa using f
  subst e;show c.ZZ (LT _) (c.Oc.OF (LT _))
def nw{g:TG}{k:TS}{D:XL}(f:Φ->St->Hp->Prop)(h0:f 0 a H)(o:∀i c a H,x.TY[i]?<*c->f i a H->g (.M_ ⟨#[c]⟩) a H λb j=>k {D with nx:=f (i+1),ct:=f (i+1),bk:=D.nx} b j)(r:∀a H,f x.β a H->D.nx a H):∃W:Φ->Φ->St->Hp->Prop,(∃m,W 0 m a H)/\∀i m a H,W i m a H->
   ((Gz x).Sv i H/\D.nx a H)\/((Gz x).go i H/\∃N:St->Hp->Prop,(∀d H',N d H'->∃l,l<m/\W (i+1) l d H')/\∀y H',(Gz x).X6 i H y H'->g y a H' λb j=>k {D with nx:=N,ct:=N,bk:=D.nx} b j):=by
 refine(λi m a H=>m=x.β-i/\i≤x.β/\f i a H,(x.β,!1,Nb _,h0),3);rintro i m a H⟨rfl,u,p⟩;by_cases h:i<x.β
 .refine .NT (h,f (i+1),λd H' n=>(x.β-(i+1),!2,1,h,n),λy H' q=>?_);let⟨e,c,s,t⟩:=q;subst e t;show o i c a _ s p
 .let e:i=x.β:=by lia
  subst e;show .NI (LT _,r a H p)
section
variable{X:Cx}
inductive rSlS(x:V)(lo:Option Int)(hi:Option Int)(H:Hp)(Q:VK):Prop
 |mk (z:_) (_:x=.str z) (_:z.length≤sizeLine) (_:Q (.str (Txt.slice z lo hi)) H)
def ql:HK X rSlS:=by
 intro b s g H x v vl vu lo p r Q I m n pl f h;let⟨z,ζ,hz,q⟩:=h;let⟨t,ζ⟩:=m;refine("str",_,Δ.F.slot_str_getitem.ρ,typeIs_str _ _ _,3);let a:∀t' k,EP X b g Q (.M_ (SG.U9 z lo p) t') {s with MT:=k}:=λt' k=>(.M_ _,H,I.Sg k,(t',1),q);let⟨o,c,e,d⟩:=n;cases pl with
 |ε=>
  cases f with
  |ε=>show SK (l:=ε) (u:=ε) (st:=ε) (o,c,e,d) ζ (U_ (IO (SG.WV z _ _) hz,λt' k=>a t' k))
  |MQ j uj=>show SK (l:=ε) (u:=δ (j,uj,)) (st:=ε) (o,c,e,d) ζ (U_ (IO (SG.WV z _ _) hz,λt' k=>a t' k))
 |MQ i ui=>
  cases f with
  |ε=>show SK (l:=δ (i,ui,)) (u:=ε) (st:=ε) (o,c,e,d) ζ (U_ (IO (SG.WV z _ _) hz,λt' k=>a t' k))
  |MQ j uj=>show SK (l:=δ (i,ui,)) (u:=δ (j,uj,)) (st:=ε) (o,c,e,d) ζ (U_ (IO (SG.WV z _ _) hz,λt' k=>a t' k))
def rB:JF X "str.count" (λx xs H Q=>∃z y,x=.M_ z/\xs=[.M_ y]/\Q (.MQ (SG.XY z y)) H):=by
 intro a s c H x xs v us Q I b rs h;let⟨z,y,ζ,ζ,q⟩:=h;let⟨t,ζ⟩:=b;let⟨u,ζ,t',ζ⟩:=Do rs;show SC.XY (.MQ _,H,I.Sg _,(_,ζ),q)
def eL:AQ X (O3 .LtE) (λx y H Q=>∃i j,x=.M_ i/\y=.M_ j/\Q (.bl (!decide (j.TY.ND<i.TY.ND))) H):=by
 intro a s d H x y v u Q I c b h;let⟨i,j,ζ,ζ,q⟩:=h;let⟨t,ζ⟩:=c;let⟨t',ζ⟩:=b;show Δ.P.le_str (.bl _,H,I,1,q)
def jU:Dc X (.Nf "isinstance") (λxs H Q=>∃x t,xs=[x,.ty T]/\ai X.K H x t/\Po X.K t (.MM T)=δ b/\Q (.bl b) H):=by
 intro a s g H xs us Q I r h;let⟨x,t,ζ,ty,e,q⟩:=h;let⟨u,i,ζ,f,d⟩:=b8 r;cases d;show pC I f ty e λc=>(.bl b,H,I.Sg c,1,q)
end
abbrev oI(X:Cx)(x:M')(sc:RX)(cl:γ (M'×υ))(C:υ)(fp:γ υ)(s:MH)(H:Hp):Cx where
 Ξ:=X.Ξ
 w:=X.w
 K:=X.K
 mg:=X.mg
 ς:=X.ς
 A:=X.A
 N:=x::X.N
 RJ:=s
 XJ:=H
 KK:=Vc sc cl C X.KK
 Fr:=X.NA
 NA:=X.NA
 ex:=fp
 fn:=λ_=>η
 T0:=X.T0
 pn:=[]
 xe:=λ_ _=>NU
abbrev FF(X:Cx)(Xi:γ Ro)(t:TT):Prop:=
 ∀(MZ:γ (υ×Rm))(s:MH)(σ:St)(H:Hp)(Q:MX->Hp->Prop),f' X MZ σ H s->t σ H Q->
  BT (Cl X.Ξ X.w) X.A (YS Xi ξ λc r=>if r=ξ then do let ok <-isTrue c X.KK (OJ c X.KK);pure (Tq.Yv ok)else pure (Tq.Yv r)) (TP X MZ σ Q) X.xe s
abbrev Xt:TT:=λ_ H Q=>Q ξ H
def l_{A B:Hp->Prop}(h:A H):Xt c H (λb a=>if b=ξ then A a else B a):=aw (A:=A H) (B:=B H) h
def BZ:FF X [] Xt:=λ_ _ _ H _ I h=>wpAny_tests_nil (H,I,h)
def mT(h:PT X c t):FF X [c] t:=λa s b H Q I hw=>wpAny_tests_one (h a s b H Q I hw)
abbrev FG(wi:TI)(tt:TT)(te:TE):TE:=λσ H Q=>wi σ H λJ H1=>∀D,H1 D=ε->∃W:Φ->Φ->γ V->Hp->Prop,
 (∃m,W 0 m [] (MR H1 D (.M5 [])))/\∀i m ys H2,W i m ys H2->H2 D=δ (.M5 ys)/\((J.Sv i H2/\Q (.π D) H2)\/(J.go i H2/\ys.β<Λ/\∀x H3,J.X6 i H2 x H3->
  tt (δ x::σ) H3 λb H4=>if b=ξ then te (δ x::σ) H4 λy H5=>H5 D=δ (.M5 ys)/\∃m',m'<m/\W (i+1) m' (ys++[y]) (MR H5 D (.M5 (ys++[y])))
   else ∃m',m'<m/\W (i+1) m' ys H4))
def G6{a b:Φ}(h:a≠b):(show υ from a)≠(show υ from b):=h
def JH(z:∀y∈sc.MP,y.2=.N4->∃c,KK.Rj.ρ y.1<*c):∃f,closureFor sc KK=pure f/\(∀y c,f.ρ y<*c->KK.Rj.ρ y<*c)/\∀y∈sc.MP,y.2=.N4->∃c,f.ρ y.1<*c:=by
 let B:∀(l:γ (M'×QA))(b:γ (M'×υ)),(∀y∈l,y.2=.N4->∃c,KK.Rj.ρ y.1<*c)->(∀y c,b.ρ y<*c->KK.Rj.ρ y<*c)->
   ∃f,(YS l b λ(p:M'×QA)r=>if (p.2==.N4)=ξ then do let a <-cellOf KK p.1;pure (Tq.Yv ((p.1,a,)::r))else pure (Tq.Yv r):Y_ (γ (M'×υ)))=pure f/\
    (∀y c,f.ρ y<*c->KK.Rj.ρ y<*c)/\(∀y c,b.ρ y<*c->∃g,f.ρ y<*g)/\∀y∈l,y.2=.N4->∃c,f.ρ y.1<*c:=by
  intro l;induction l with
  |Op=>intro b _ o;show(b,1,o,λy c e=>(c,e),λy d=>by simp at d)
  |NX p r w=>
   intro b t o;let⟨n,k⟩:=p;by_cases u:k=.N4
   .subst u;let⟨c,x⟩:=t (n,.N4,) N5 ζ;let C:cellOf KK n=pure c:=by unfold cellOf;rw[x]
    let v:∀y g,((n,c,)::b).ρ y<*g->KK.Rj.ρ y<*g:=λy g e=>by
     by_cases d:(y==n)=ξ
     .rw [OI,d]at e;cases e;rw[SR d];show x
     .rw [OI,MX.Uy.Om d]at e;show o y g e
    let⟨f,h1,h2,q,m⟩:=w ((n,c,)::b) (λy d=>t y (M1 _ d)) v;let j:∀y g,b.ρ y<*g->∃i,((n,c,)::b).ρ y<*i:=λy g e=>by
     by_cases d:(y==n)=ξ
     .exact (c,by rw[OI,d])
     .exact (g,by rw[OI,MX.Uy.Om d];show e)
    refine(f,3,h2,λy g e=>?_,λy d h=>?_)
    .rw [Qg];simp only[Ug,We,C,pure_bind];show h1
    .obtain ⟨i,e'⟩:=j y g e;show q y i e'
    .rcases MN.mp d with ζ|d
     .exact q n c (by rw[OI,Ug])
     .exact m y d h
   .let A:(k==QA.N4)=η:=by simpa using u
    let⟨f,h1,h2,q,m⟩:=w b (λy d=>t y (M1 _ d)) o;refine(f,3,h2,q,λy d h=>?_)
    .rw [Qg];simp only[A,MX.US,Uc,pure_bind];show h1
    .rcases MN.mp d with ζ|d
     .exact MJ h u
     .exact m y d h
 let⟨f,h1,h2,_,m⟩:=B sc.MP [] z (λy c e=>by simp at e);refine(f,3,h2,m);change ((YS sc.MP [] λ(p:M'×QA)r=>if (p.2==.N4)=ξ then do let a <-cellOf KK p.1;pure (Tq.Yv ((p.1,a,)::r))else pure (Tq.Yv r):Y_ (γ (M'×υ)))>>=λs=>pure s)=pure f;rw[bind_pure,h1]
def vr(h:(Uo sc KK).MP.ρ y<*k):sc.MP.ρ y<*k\/(k=.N8/\sc.MP.ρ y=δ .N4/\KK.Og y<*.N8):=by
 let f:∀(l:γ (M'×QA)),(l.NL λ(n,k)=>if (k==.N4&&KK.NE.RR==.RM&&KK.Og n==δ .N8)then(n,QA.N8,)else(n,k,)).ρ y<*k->
   l.ρ y<*k\/(k=.N8/\l.ρ y=δ .N4/\KK.Og y<*.N8):=by
  intro l;induction l with
  |Op=>intro h;simp at h
  |NX p r d=>
   let⟨n,c⟩:=p;intro h;simp only[Qp]at h;by_cases b:(c==QA.N4&&KK.NE.RR==.RM&&KK.Og n==δ .N8)=ξ
   .rw [Id b]at h;rw[OI]at h⊢;cases a:y==n with
    |ξ=>
     rw[a]at h;let e:k=.N8:=(ω.δ.QG h).MO;let i:c=.N4:=by
      have:=(Od.mp (Od.mp b).1).1;simpa using this
     let g:KK.Og n<*.N8:=by
      have:=(Od.mp b).2;simpa using this
     rw[SR a];show .NT (e,by rw[i],g)
    |η=>
     rw[a]at h;show d h
   .rw [Ω b]at h;rw[OI]at h⊢;cases a:y==n with
    |ξ=>rw[a]at h;show .NI h
    |η=>rw[a]at h;show d h
 show f sc.MP h
section
variable{X:Cx}{elt iter:Expr}{x:Str}{px pos:Pos}{ifs:List Expr}{sc:Scope}{wi:TI}{tt:TT}{te:TE}
end
abbrev Df(P:NC)(w:Ny)(K:Nl)(mg:M'->ω θ)(ς:NR)(x:M')(k:Φ)(ps:γ M')(sp:Sp):Prop:=
 ∃(f:υ)(fd:Sb),mg x=δ (.π f)/\UO K (.π f)=ξ/\Ao K fd ps []/\aa P w K mg ς pu k f fd ps sp
def wx{p Ng:Sn}(D:Df X.Ξ X.w X.K X.mg X.ς x k ps d)(g:ak k X.A)(j:PA X (e::a) t)(h:Gl X x>>>4)(c:((x==("__debug__":M'))=η)>>>0)(i:(Θ (e::a) X.KK=(η,OJ e X.KK,)::Θ a X.KK)>>>4)(b:((OE Ng (Θ a X.KK)).Qk (·.1)=η)>>>4):PE X (.QE (.Nz x p) (e::a) [] Ng) (Cp d [] E0 t):=by
 let⟨f,m,h1,h2,l,F⟩:=D;show mV F g h h1 h2 l .Op CS j c i b
def am{c A B:Prop}[ZD c](a:c)(h:A):if decide c=ξ then A else B:=by
 rw[NJ a];show aw h
def ac{c A B:Prop}[ZD c](a:¬ c)(h:B):if decide c=ξ then A else B:=by
 rw[M3 a];show aj h
def jp{A B:Prop}(h1:c=ξ->A)(h2:c=η->B):if c=ξ then A else B:=by
 cases c
 .exact aj (h2 ζ)
 .exact aw (h1 ζ)
def aQ{c A B:Prop}[ZD c](h1:c->A)(h2:¬ c->B):if decide c=ξ then A else B:=by
 by_cases h:c
 .exact am h (h1 h)
 .exact ac h (h2 h)
def a'.MR(n:H D=ε):a' H (MR H D o):=λb u e=>by rw[a_ (e_ e n)];show e
def sT(h:n≤16777216):n≤Λ:=by rw[OO];show h
def mr{xs:γ b}{i:ML}(h0:0≤i)(h1:i<xs.β):∃v,AN xs i=δ v/\xs[i.On]?<*v:=by
 let⟨j,ζ⟩:=ML.eq_ofNat_of_zero_le h0;let a:j<xs.β:=by lia
 show(xs[j],AG (by simp[a]),by simp[a])
abbrev zT(t u:TS):TS:=λD σ H=>∃M:St->Hp->Prop,t {D with nx:=M} σ H/\∀WD H',M WD H'->u D WD H'
def FH{st:Nr}(h1:PS X st t)(h2:BA X Rr u):BA X (st::Rr) (zT t u):=by
 intro a s c H D I h;let⟨M,h,e⟩:=h;refine Sq (ri (h1 a s c H {D with nx:=M} I h) λf d q=>?_);cases f with
 |next=>
  let⟨b,H',g,q⟩:=q;show h2 a d b H' D g (e b H' q)
 |UT v=>show q
 |Yg=>show q
 |T_=>show q
abbrev sS(ns:γ ML)(lo hi:ω ML):γ ML:=(ns.Pu (HT.Sj ns.β 0 lo)).OC (HT.Sj ns.β ns.β hi-HT.Sj ns.β 0 lo)
def pM(ns:γ ML)(lo a:ω ML):AL (ns.NL V.MQ) lo a=(sS ns lo a).NL V.MQ:=by
 unfold AL sS;rw[ol,γ.map_take,γ.map_drop]
section
variable{X:Cx}
def JI:AQ X (Rk .FloorDiv) (rI (λ_ j=>0<j/\j<1073741824) λi j=>.MQ (i/j)):=gM
def jd:AQ X (Rk .Add) (Fn λi j=>.MQ (i+j)):=lg
def yS:AQ X (Rk .Sub) (Fn λi j=>.MQ (i-j)):=wX
def wY:AQ X (Rk .Mult) (rI (λi j=>(-(2^64)<i/\i<2^64)\/(-(2^64)<j/\j<2^64)) λi j=>.MQ (i*j)):=wZ
end
section
variable{X:Cx}
def Gd:AQ X (Rk .Mod) (λx y H Q=>∃i j,x=.MQ i/\y=.MQ j/\0<j/\∀r,0≤r->r<j->Q (.MQ r) H):=by
 intro a s c H x y v u Q I e d h;let⟨i,j,g,f,b,q⟩:=h;show gL a s c H x y v u Q I e d (i,j,g,f,b,q _ (ML.XV _ (!6)) (ML.YV _ b))
end
def Ah(h:H a<*o)(n:H b=ε):MR H b u a<*o:=by
 rw[a_ (e_ h n)];show h
def tf(h:H a<*o)(n:H b<*v)(d:o≠v):MR H b u a<*o:=by
 rw[a_ (qN h n d)];show h
def lG(K:Nl):Po K (.MM "int") (.MM "bool")<*η:=by kernel_rfl
def lF(K:Nl):Po K (.MM "int") (.MM "int")<*ξ:=by with_unfolding_all rfl
def Dr(K:Nl):Po K (.MM "bool") (.MM "bool")<*ξ:=by with_unfolding_all rfl
def Ds(K:Nl):Po K (.MM "str") (.MM "str")<*ξ:=by with_unfolding_all rfl
section
variable{X:Cx}
end
end L2
namespace RA
end RA
namespace RA
open PySem.StrLaws Builtin Builtin.Str
abbrev tx(l:LN):M':=⟨l.χ⟩
def Fp(l:LN):(tx l).TY.ND=l:=by simp[tx]
def oh(l:LN):(tx l).β=l.β:=by simp[tx,β]
def Cs(a b:LN):tx a++tx b=tx (a++b):=by
 apply M'.ext';change a.χ++b.χ=(a++b).χ;simp
def gb(h:tx a=tx b):a=b:=by
 have:=NZ (λs:M'=>s.TY.ND) h;simpa[tx]using this
def kl(l:LN)(i:Φ):(tx l).TY[i]?=l[i]?:=by simp[tx]
def Dq(l:LN)(c i:Φ):At (tx l) ⟨#[c]⟩ (tx l).β i↔l[i]?<*c:=by
 let h:=subAt_one (tx l) c i;rw[Fp]at h;show h
def ia(l:LN)(c:Φ):SG.M7 (tx l) ⟨#[c]⟩=decide (c∈l):=by
 let h:=found_one (tx l) c;rw[Fp]at h;show h
def jt:∀{l:LN}{c i:Φ},l[i]?<*c->l.M0 c≤i
 |[],_,_,h=>by simp at h
 |a::l,c,0,h=>by
  let e:a=c:=by simpa using h
  subst e;simp
 |a::l,c,i+1,h=>by
  rw[Uu];cases e:a==c with
  |ξ=>simp
  |η=>
   have:=jt (l:=l) (c:=c) (i:=i) (by simpa using h);simp;omega
def qk(x:M')(h:0≤j):SG.U9 x ε (δ j)=tx (x.TY.ND.OC j.On):=by
 let c:∀j:ML,0≤j->j≤x.TY.ND.β->SG.U9 x ε (δ j)=tx (x.TY.ND.OC j.On):=λj h0 h1=>by
  let e:SG.U9 x ε (δ j)=sliceText x ε (δ j):=ζ;rw[e,sliceText_to (h0,h1)];simp[tx]
 by_cases f:j≤x.TY.ND.β
 .exact c j h f
 .let e:SG.U9 x ε (δ j)=SG.U9 x ε (δ (x.β:ML)):=by
   let d:x.β=x.TY.ND.β:=by simp[β]
   let g:Xc ε (δ j) 1 x.β=Xc ε (δ (x.β:ML)) 1 x.β:=by
    let a:¬ (j<0):=by lia
    let b:¬ ((x.β:ML)<0):=by lia
    let m:min j (x.β:ML)=(x.β:ML):=by lia
    simp[Xc,a,b,m]
   unfold SG.U9;rw[g]
  rw[e,c _ (!6) (by simp[β])];let d:x.β=x.TY.ND.β:=by simp[β]
  rw[N6 (i:=j.On) (!6),N6 (!6)]
def kF(x:M'){i:ML}(h:0≤i)(h1:i≤x.TY.ND.β):SG.U9 x (δ i) ε=tx (x.TY.ND.Pu i.On):=by
 let e:SG.U9 x (δ i) ε=sliceText x (δ i) ε:=ζ;rw[e,sliceText_from (h,h1)];let a:((x.TY.ND.β:ML)-i).On=(x.TY.ND.Pu i.On).β:=by rw[UF];lia
 rw[a,SL];rfl
def rM(a b:Φ):(!decide ((⟨#[b]⟩:M').TY.ND<(⟨#[a]⟩:M').TY.ND))=decide (a≤b):=by
 change (!decide ([b]<[a]))=decide (a≤b);rw[lt_cons_cons,lt_nil_nil,MX.and_false,MX.N9];by_cases h:a≤b
 .rw [M3 (!6),NJ h];rfl
 .rw [NJ (!6),M3 h];rfl
def jP(l:LN)(c:Φ):∀(b:LN)(a f:Φ),ChainG (tx l) ⟨#[c]⟩ (tx l).β a b f->(∀k,f≤k->¬ At (tx l) ⟨#[c]⟩ (tx l).β k)->(l.Pu a).XY c=b.β:=by
 intro b;induction b with
 |Op=>
  intro a f h j;let e:f=a:=h;subst e;rw[WH,γ.count_eq_zero];intro m;let⟨i,g⟩:=NM.mp m;rw[γ.V7]at g;show j _ (Qd _ _) ((Dq l c _).Om g)
 |NX d r o=>
  intro a f h j;let⟨h1,h2,u,t⟩:=h;let s:=(Dq l c d).mp h2;let q:=o (d+1) f t j;let⟨n,v⟩:=q5 s;let split:l.Pu a=(l.Pu a).OC (d-a)++c::l.Pu (d+1):=by
   conv=>lhs;rw[<-Rq (d-a) (l.Pu a)]
   rw[γ.drop_drop,show a+(d-a)=d by lia,γ.TJ n,v]
  rw[split,γ.count_append,γ.count_cons_self,q,NS];let z:((l.Pu a).OC (d-a)).XY c=0:=by
   rw[γ.count_eq_zero];intro m;let⟨i,g⟩:=NM.mp m;rw[γ.UR]at g;split at g
   .rename_i p;rw[γ.V7]at g;show u (a+i) (Qd _ _) (!6) ((Dq l c _).Om g)
   .cases g
  lia
def D9(l:LN)(c:Φ):SG.XY (tx l) ⟨#[c]⟩=(l.XY c:Φ):=by
 unfold SG.XY;let⟨f,h1,h2⟩:=occ_tight (tx l) ⟨#[c]⟩ (by simp[β]);let q:=jP l c _ 0 f h1 h2;rw[γ.drop_zero]at q;rw[q]
structure CH(L:LN):Prop where
 lo:1≤L.length
 hi:L.length≤3
 nd:L.Nodup
 az:∀c∈L,97≤c/\c≤122
def HM{L:LN}(b:L.Nx)(h:i<L.β):L.M0 L[i]=i:=by
 let h1:=jt (l:=L) (c:=L[i]) (i:=i) (by simp[h]);let a:L.M0 L[i]<L.β:=by omega
 let e:=O5 a;by_cases d:L.M0 L[i]<i
 .exact MJ e (γ.pairwise_iff_getElem.mp b _ _ a h d)
 .lia
def sL{f l:LN}(b:i<l.β)(a:(f++l).Nx):((f++[l[i]])++(l.OC i++l.Pu (i+1))).Nx/\∀c,c∈(f++[l[i]])++(l.OC i++l.Pu (i+1))->c∈f++l:=by
 let e:l=l.OC i++l[i]::l.Pu (i+1):=by
  conv=>lhs;rw[<-Rq i l,γ.TJ b]
 let p:(f++l).Xq ((f++[l[i]])++(l.OC i++l.Pu (i+1))):=by
  conv=>lhs;rw[e]
  rw[NY];refine Xq.append_left f ?_;change (l.OC i++l[i]::l.Pu (i+1)).Xq (l[i]::(l.OC i++l.Pu (i+1)));show γ.perm_middle
 show(p.nodup_iff.mp a,λc d=>p.mem_iff.Om d)
end RA
namespace RA
open L2
def xN:(M'.Nd "abcdefghijklmnopqrstuvwxyz")=tx (γ.range' 97 26):=by decide +kernel
def dC:(M'.Nd "")=tx []:=by decide +kernel
structure g_(L:LN)(W:LL)(B:List Bool):Prop where
 lt:CH L
 n1:1≤W.length
 n60:W.length≤2100
 bl:B.length=W.length
 row:∀ws∈W,ws.length=L.length/\∀x∈ws,x<W.length
abbrev Bw(L:LN)(W:LL)(r c:Φ):Φ:=(W.MI r []).MI (L.M0 c) 0
abbrev PD(L:LN)(W:LL)(r:Φ)(w:LN):Φ:=w.foldl (Bw L W) r
def g_.at(h:g_ L W B)(b:r<W.β)(e:c∈L):∃ws x,W[r]?=δ ws/\ws[L.M0 c]?=δ x/\Bw L W r c=x/\x<W.β:=by
 let hw:W[r]?<*W[r]:=by simp[b]
 let⟨h1,h2⟩:=h.Vt W[r] (Nt b);let d:L.M0 c<W[r].β:=by rw[h1];show M6 e
 let a:W[r][L.M0 c]?<*W[r][L.M0 c]:=by simp[d]
 refine(W[r],W[r][L.M0 c],hw,a,3,h2 _ (Nt d));unfold Bw;let f:W.MI r []=W[r]:=by
  rw[u6,hw];rfl
 rw[f,u6,a];rfl
def EQ(L:LN)(W:LL)(r:Φ)(w:LN)(c:Φ):PD L W r (w++[c])=Bw L W (PD L W r w) c:=by
 unfold PD;rw[γ.Ux];rfl
def De{L:LN}{W:LL}{B:γ MX}(h:g_ L W B):∀{w:LN}{r:Φ},r<W.β->(∀c∈w,c∈L)->PD L W r w<W.β
 |[],_,a,_=>a
 |c::w,r,a,hw=>by
  let⟨ws,x,_,_,e,b⟩:=h.at a (hw c (!1));show De h (w:=w) (r:=Bw L W r c) (by rw[e];show b) λd f=>hw d (by simp[f])
abbrev c_(ws:LN):γ V:=ws.NL λ(n:Φ)=>V.MQ (n:ML)
abbrev dJ(H:Hp)(Sy:γ υ)(W:LL):Prop:=∀(i:Φ)(r:υ),Sy[i]?<*r->∃ws,W[i]?=δ ws/\H r<*.No (c_ ws)
inductive zl(H:Hp)(m:Addr)(L:LN)(W:LL)(B:List Bool):Prop
 |mk (wy mk:Addr) (rows:List Addr) (_:H m<*.tup [.str (tx L),.ref wy,.ref mk]) (_:H wy<*.tup (rows.map V.ref)) (_:H mk<*.tup (B.map V.bl)) (_:rows.length=W.length) (_:dJ H rows W)
def dJ.OP(h:dJ H a W)(s:a' H H'):dJ H' a W:=λi r e=>by
 let⟨ws,h1,h2⟩:=h i r e;show(ws,h1,s _ _ h2)
def zl.OP(h:zl H m L W B)(s:a' H H'):zl H' m L W B:=by
 let⟨b,mk,a,h1,h2,e,d,c⟩:=h;show(b,mk,a,s _ _ h1,s _ _ h2,s _ _ e,d,c.OP s)
def D_{a b:Type}{xs:γ a}(f:a->b){x:a}(h:xs[i]?<*x):AN (xs.NL f) ((i:Φ):ML)<*f x:=AG (by rw[tS,h];rfl)
end RA
namespace L2
namespace RV
section
variable{prog:Program}{w:World}{A:Around}{E:Value->Shared->Prop}{s:Shared}
end
end RV
namespace ZP
abbrev bc(S:γ υ)(h h':NR):Prop:=h'.Np.MV=h.Np.MV/\∀c o,c∉S->h.ψ c<*o->h'.ψ c<*o
def bc.Of(x:Pd a h h')(m:a∈S):bc S h h':=(x.1,λc o b e=>(x.2 c λq=>b (q▸m)).ν e)
def bc.ν(x:bc S h h1)(y:bc S h1 h2):bc S h h2:=(y.1.ν x.1,λc o a e=>y.2 c o a (x.2 c o a e))
section
variable{prog:Program}{w:World}{A:Around}{E:Value->Shared->Prop}{s:Shared}{z TI TO i1 i2:Addr}{f1 f2:List Addr}{n1 n2 k:Nat}{P1 P2:Nat->Value->Prop}{S1 S2:Nat->Heap->Prop}{a b:Value}
def Ge{Q:θ->MH->Prop}(D1:TQ Ξ w A i1 f1 n1 P1 S1)(Z:TQ Ξ w A i2 f2 n2 P2 S2)(m1:∀c∈f1,c=i1\/c∉[z,TO,i1,i2])(m2:∀c∈f2,c=i2\/c∉[z,TO,i1,i2])(d:T7 z TI TO i1 i2 TI TI)(hz:VB s.ο z TI TO .ε)(B:Pk s.ο TI (.π i1) (.π i2))(P:Pk s.ο TO a b)(h1:S1 k s.ο)(h2:S2 k s.ο)(l1:k<n1)(l2:k<n2)(hQ:∀x y h' tk,P1 k x->P2 k y->VB h' z TI TO (Nw s⁻¹)->Pk h' TI (.π i1) (.π i2)->Pk h' TO x y->S1 (k+1) h'->S2 (k+1) h'->Pk h' s⁻¹ x y->
   (∀c o,c∉[z,TO,i1,i2]->s.ο.ψ c<*o->h'.ψ c<*o)->Q (.π s⁻¹) {s with ο:=h',MT:=tk}):BT (Cl Ξ w) A (Builtin.«zip.__next__» ([.π z],[])) (λR s'=>∃v,R=.done (.UT v)/\Q v s') E s:=by
 unfold Builtin.«zip.__next__»;refine d_ (RZ (a:=(θ.π z,[],)) ζ (d_ (NO hz ζ (x:=.Pe η) ζ (d_ (NO hz ζ (x:=.π TI) ζ (d_ (O4 B ζ ?_)))))));refine OG (!1) (d_ ?_);unfold Builtin.O0.UZ;refine d_ (NO hz ζ (x:=.ε) ζ (j' (VL (!0) (d_ (WE (d_ (NO hz ζ (x:=.π TO) ζ (d_ (Qx hz (!1) λg1 z1 c1=>?_)))))))));let k1:bc [z,TO,i1,i2] s.ο g1:=.Of c1 (!1);let n:∀{j:Φ}{g g':NR},(∀c o,c∉[z,TO,i1,i2]->g.ψ c<*o->g'.ψ c<*o)->S1 j g->(∀o,g.ψ i1<*o->g'.ψ i1<*o)->S1 j g':=λk st e=>D1.RN _ _ _ st λc h=>by
  rcases m1 c h with ζ|O
  .exact e
  .exact λo q=>k c o O q
 let l:∀{j:Φ}{g g':NR},(∀c o,c∉[z,TO,i1,i2]->g.ψ c<*o->g'.ψ c<*o)->S2 j g->(∀o,g.ψ i2<*o->g'.ψ i2<*o)->S2 j g':=λk st e=>Z.RN _ _ _ st λc h=>by
  rcases m2 c h with ζ|O
  .exact e
  .exact λo q=>k c o O q
 simp only[γ.zipIdx_cons,γ.zipIdx_nil,Qg,SQ];refine d_ (d_ (d_ (UK (d_ (m:=Builtin.O0.UN (.π i1)) (D1.Ut k _ _ _ l1 (n k1.2 h1 λo e=>(c1.2 i1 d.i1z).ν e) λx g2 t2 p1 d1 D=>j' ?_)))));let W:Pk g2 TO a b:=(D.2 TO d.TOi1).ν ((c1.2 TO d.TOz).ν P);refine d_ (O4 W ζ (d_ (VG W λg3 o3 r=>d_ (VJ (j' (d_ (d_ (UK (d_ (m:=Builtin.O0.UN (.π i2)) (Z.Ut k _ _ _ l2 (l ((k1.ν (.Of D (!1))).ν (.Of r (!1))).2 h2 λo e=>?_) λy g4 t4 p2 d2 C=>j' ?_))))))))))
 .exact (r.2 i2 d.TOi2.MO).ν ((D.2 i2 d.i12.MO).ν ((c1.2 i2 d.i2z).ν e))
 let U:Pk g4 TO x b:=(C.2 TO d.TOi2).ν o3;refine d_ (O4 U ζ (d_ (VG U λf H p=>d_ (VJ (j' (j' ?_))))));replace H:Pk f TO x y:=H;let k5:bc [z,TO,i1,i2] s.ο f:=(((k1.ν (.Of D (!1))).ν (.Of r (!1))).ν (.Of C (!1))).ν (.Of p (!1));let T:VB f z TI TO .ellipsis:=(p.2 z d.TOz.MO).ν ((C.2 z d.i2z.MO).ν ((r.2 z d.TOz.MO).ν ((D.2 z d.i1z.MO).ν z1)));let N:S1 (k+1) f:=n (((bc.Of (S:=[z,TO,i1,i2]) r (!1)).ν (.Of C (!1))).ν (.Of p (!1))).2 d1 λo e=>(p.2 i1 d.TOi1.MO).ν ((C.2 i1 d.i12).ν ((r.2 i1 d.TOi1.MO).ν e));let M:S2 (k+1) f:=l (bc.Of (S:=[z,TO,i1,i2]) p (!1)).2 d2 λo e=>(p.2 i2 d.TOi2.MO).ν e;refine d_ (O4 H ζ (d_ (wpAny_newTuple ?_)));unfold Builtin.O0.ownedTupleHandOut;let z6:VB (f.Ni {OM:=.MM "tuple",NH:=.Sx #[x,y]}) z TI TO .ellipsis:=sy _ T;refine d_ (d_ (Qx z6 (!1) λg7 J Y=>?_));replace J:VB g7 z TI TO (Nw f.Np.MV):=J;refine Qx J (!1) λI F X=>j' (0,3);replace F:VB I z TI TO (Nw f.Np.MV):=F;let i:∀c o,c≠z->f.ψ c<*o->I.ψ c<*o:=λc o h e=>(X.2 c h).ν ((Y.2 c h).ν (sy _ e));let t:f.Np.MV≠z:=Qc (lt_size T);let u:Pk I f.Np.MV x y:=(X.2 _ t).ν ((Y.2 _ t).ν (MS _ ζ));let sz:f.Np.MV=s⁻¹:=k5.1;let L:Pk f TI (.π i1) (.π i2):=k5.2 TI _ (by simp[d.TIz,d.TITO,d.TIi1,d.TIi2]) B;change Q (.π f.Np.MV) _;rw[sz]at F u⊢;show hQ x y I t4 p1 p2 F (i _ _ d.TIz L) (i _ _ d.TOz H) (n (λc o h e=>i c o (λq=>h (by simp[q])) e) N λo e=>i _ o d.i1z e) (l (λc o h e=>i c o (λq=>h (by simp[q])) e) M λo e=>i _ o d.i2z e) u λc o h e=>i c o (λq=>h (by simp[q])) (k5.2 c o h e)
def ER(J:TQ Ξ w A i1 f1 n1 P1 S1)(S:TQ Ξ w A i2 f2 n2 P2 S2)(Y:∀c∈f1,c=i1\/c∉[z,TO,i1,i2])(m2:∀c∈f2,c=i2\/c∉[z,TO,i1,i2])(d:T7 z TI TO i1 i2 TI TI)(hz:VB s.ο z TI TO .ε)(D:Pk s.ο TI (.π i1) (.π i2))(C:Pk s.ο TO a b)(h1:S1 k s.ο)(h2:S2 k s.ο)(p:k=n1\/(k<n1/\k=n2))(hE:∀h' e l,(∀c o,c∉[z,TO,i1,i2]->s.ο.ψ c<*o->h'.ψ c<*o)->(∃o,h'.ψ e=δ o/\o.OM=.MM "StopIteration")->E (.π e) {s with ο:=h',MT:=l}):BT (Cl Ξ w) A (Builtin.«zip.__next__» ([.π z],[])) Q E s:=by
 unfold Builtin.«zip.__next__»;refine d_ (RZ (a:=(θ.π z,[],)) ζ (d_ (NO hz ζ (x:=.Pe η) ζ (d_ (NO hz ζ (x:=.π TI) ζ (d_ (O4 D ζ (OG (!1) (d_ ?_)))))))));unfold Builtin.O0.UZ;refine d_ (NO hz ζ (x:=.ε) ζ (j' (VL (!0) (d_ (WE (d_ (NO hz ζ (x:=.π TO) ζ (d_ (Qx hz (!1) λF M c1=>?_)))))))));let k1:bc [z,TO,i1,i2] s.ο F:=.Of c1 (!1);let I:∀{j:Φ}{g g':NR},(∀c o,c∉[z,TO,i1,i2]->g.ψ c<*o->g'.ψ c<*o)->S1 j g->(∀o,g.ψ i1<*o->g'.ψ i1<*o)->S1 j g':=λk st e=>J.RN _ _ _ st λc i=>by
  rcases Y c i with ζ|y
  .exact e
  .exact λo q=>k c o y q
 let H:∀{j:Φ}{g g':NR},(∀c o,c∉[z,TO,i1,i2]->g.ψ c<*o->g'.ψ c<*o)->S2 j g->(∀o,g.ψ i2<*o->g'.ψ i2<*o)->S2 j g':=λk st e=>S.RN _ _ _ st λc i=>by
  rcases m2 c i with ζ|y
  .exact e
  .exact λo q=>k c o y q
 let N:S1 k F:=I k1.2 h1 λo e=>(c1.2 i1 d.i1z).ν e;let TF:∀(it:υ)(g g':NR)(e:υ)(l:Φ),it=i1\/it=i2->bc [z,TO,i1,i2] s.ο g->VB g z TI TO .ellipsis->NR.ExtBut it g g'->(∃o,g'.ψ e=δ o/\o.OM=.MM "StopIteration")->
   BT (Cl Ξ w) A (VP (.π z) 0 .ε) (λ_ s'=>E (.π e) s') E {s with ο:=g',MT:=l}:=λit g g' e l n Z hg P f=>by
  let⟨X,f,R⟩:=f;let v:z≠it:=by rcases n with q|q<;>rw[q];show d.i1z.MO;show d.i2z.MO
  let L:VB g' z TI TO .ellipsis:=P z _ v hg;let ez:e≠z:=λq=>by
   rw[q]at f;have:=NZ (ω.NL Rm.OM) (f.MO.ν L);rw[ω.map_some,ω.map_some,R]at this;show MJ (show θ.MM "StopIteration"=θ.MM "zip" from ω.δ.QG this) (!0)
  refine Qx (s:={s with ο:=g',MT:=l}) L (!1) λt _ h=>hE t e l (λc o i q=>?_) (X,(h.2 e ez).ν f,R);refine(h.2 c λr=>i (by simp[r])).ν (P c o (λr=>i ?_) (Z.2 c o i q));rcases n with q|q<;>rw[r,q]<;>simp
 simp only[γ.zipIdx_cons,γ.zipIdx_nil,Qg,SQ];rcases p with ζ|⟨B,ζ⟩
 .refine d_ (d_ (d_ (UK (d_ (m:=Builtin.O0.UN (.π i1)) (J.done _ _ _ N λt e U f=>?_)))));show TF i1 F t e s.MT (.NI ζ) k1 M U f
 .refine d_ (d_ (d_ (UK (d_ (m:=Builtin.O0.UN (.π i1)) (J.Ut k _ _ _ B N λx t W p1 d1 h=>j' ?_)))));let O:Pk t TO a b:=(h.2 TO d.TOi1).ν ((c1.2 TO d.TOz).ν C);refine d_ (O4 O ζ (d_ (VG O λg3 o3 u=>d_ (VJ (j' (d_ (d_ (UK (d_ (m:=Builtin.O0.UN (.π i2)) (S.done _ _ _ (H ((k1.ν (.Of h (!1))).ν (.Of u (!1))).2 h2 λo e=>?_) λg4 e T f=>?_))))))))))
  .exact (u.2 i2 d.TOi2.MO).ν ((h.2 i2 d.i12.MO).ν ((c1.2 i2 d.i2z).ν e))
  .exact TF i2 g3 g4 e W (.NT ζ) ((k1.ν (.Of h (!1))).ν (.Of u (!1))) ((u.2 z d.TOz.MO).ν ((h.2 z d.i1z.MO).ν M)) T f
end
section
variable{prog:Program}{w:World}{A:Around}{E:Value->Shared->Prop}{s:Shared}{z TI TO i1 i2:Addr}{n1 n2 k:Nat}{P1 P2:Nat->Value->Prop}{S1 S2:Nat->Heap->Prop}{a b:Value}
abbrev ES(x:M')(t:Xp):Rm:={OM:=.MM (if x.TY.P' (· < 128)then "str_ascii_iterator" else "str_iterator"),NH:=.N_ #[.M_ x t,.MQ 0 0]}
def pB(h:Q (.π s⁻¹) {s with ο:=s.ο.Ni (ES x t)}):BT (Cl Ξ w) A (VR (.M_ x t)) Q E s:=by
 unfold ES at h;cases e:x.TY.P' (· < 128)<;>rw[e]at h
 .exact wpAny_pyIter_wide e h
 .exact wpAny_pyIter_ascii e h
abbrev CT(x:M')(t:Xp)(it:υ)(i:Φ)(h:NR):Prop:=h.IsStrIter it (if x.TY.P' (· < 128)then "str_ascii_iterator" else "str_iterator") x t i
def draws(d:A.PL=ε)(it:υ)(x:M')(t:Xp):TQ Ξ w A it [it] x.TY.MV (λi v=>∃c u,x.TY[i]?=δ c/\v=.M_ ⟨#[c]⟩ u) (CT x t it):=by
 unfold CT;cases x.TY.P' (· < 128)
 .exact TQ.strWide d it x t
 .exact TQ.strAscii d it x t
end
end ZP
end L2
namespace RA
open L2 Builtin Builtin.Str
def JJ:(M'.Nd "a")=⟨#[97]⟩:=by decide +kernel
def zK:(M'.Nd "z")=⟨#[122]⟩:=by decide +kernel
end RA
namespace L2
open PySem.Spec PyProof.Rows
section
variable{X:Cx}{pins:List (Addr×Obj)}{σ:St}{H:Hp}{s:Shared}{h':Heap}
def Ar{S:γ υ}(f:∀b∈S,H b=ε)(e:H b<*u):b∉S:=λa=>by rw[f b a]at e;cases e
def f'.ZJ{S:γ υ}(I:f' X MZ σ H s)(k:∀b o,b∉S->s.ο.ψ b<*o->h'.ψ b<*o)(f:∀b∈S,be X MZ H b):f' X MZ σ H {s with ο:=h',MT:=t'}:=by
 refine I.Ql (g':=s.Ty) (d':=s.Tz) (ch:=S) (λb o e _ _ d=>k b o d e,λb o e _ _ d=>(o.Rw,k b o d e),λ_ _ _ n _=>n,λb o e d=>(o,k b o d e),λ_ _ e=>e,λ_ _ _ e=>e,λ_ ps e=>(#[],by rw[e];simp))
  (λb u e=>(I.Oc b u e).ST (λc v d q=>k c v ?_ q) (λ_ q=>q) λ_ _ q=>q) I.Rz λb a=>((f b a).2.2.2.1,(f b a).2.1,(f b a).2.2.2.2.1,(f b a).2.2.2.2.2)
 rcases d with z|z
 .rw [z];show Ar (λb a=>(f b a).1) e
 .exact Ar (λb a=>(f b a).1) z
def f'.Wu{S:γ υ}{t':Φ}{o:HO}(I:f' X MZ σ H s)(k:∀b o,b∉S->s.ο.ψ b<*o->h'.ψ b<*o)(f:∀b∈S,be X MZ H b)(h:Az X.Ξ X.w (MR H s⁻¹ o) h' s⁻¹ o):f' X MZ σ (MR H s⁻¹ o) {s with ο:=h',MT:=t'}:=by
 let i:H s⁻¹=ε:=I.Oc.OF (LT _);let g:∀b u,H b<*u->b≠s⁻¹:=λb u e=>e_ e i;refine I.Ql (g':=s.Ty) (d':=s.Tz) (ch:=S) (λb o e _ _ d=>k b o d e,λb o e _ _ d=>(o.Rw,k b o d e),λb o e n _=>?_,λb o e d=>(o,k b o d e),λb xs e=>by rw[a_ (g b _ e)];show e,λb o u e=>by rw[a_ (g b _ e)];show e,λb ps e=>(#[],by rw[a_ (g b _ e),e];simp))
  (λb u e=>?_) I.Rz λb a=>((f b a).2.2.2.1,(f b a).2.1,(f b a).2.2.2.2.1,(f b a).2.2.2.2.2)
 .rw [a_ (M8 (lt_size e))];show n
 .by_cases a:b=s⁻¹
  .subst a;rw[j_]at e;cases e;show h
  .rw [a_ a]at e;refine(I.Oc b u e).ST (λc v d q=>k c v ?_ q) (λc q=>by rw[a_ (g c _ q)];show q) λc xs q=>by rw[a_ (g c _ q)];show q
   rcases d with z|z
   .rw [z];show Ar (λb a=>(f b a).1) e
   .exact Ar (λb a=>(f b a).1) z
end
end L2
namespace L2
open PySem.Spec PyProof.Rows Builtin Builtin.Str
section
variable{X:Cx}{e:Expr}{te:TE}
end
end L2
namespace L2
open PySem.Spec PyProof.Rows
abbrev mu(o:Rm):ω υ×ω θ:=(o.Pv,match o.NH with|.N_ vs=>vs[2]?|_=>ε,)
abbrev Ai{α:Type}:Y_ α->Prop
 |.pure _=>Ol
 |.raise _=>Ol
 |.Zv _=>Ol
 |.load _ _ k=>∀o,Ai (k o)
 |.Oy _ _ f k=>(∀o,mu (f o)=mu o)/\Ai (k ())
 |.alloc _ k=>∀a,Ai (k a)
 |.NA k=>∀a,Ai (k a)
 |.ask k=>∀a,Ai (k a)
 |.PL _ k=>∀a,Ai (k a)
 |_=>NU
abbrev DK(h h':NR):Prop:=∀(b:υ)(o:Rm),h.Np[b]?<*o->∃o',h'.Np[b]?=δ o'/\mu o'=mu o
def DK.Th:DK h h:=λ_ o e=>(o,e,1)
def DK.ν(a:DK h h1)(b:DK h1 h2):DK h h2:=λx o e=>let⟨_,f,d1⟩:=a x o e;let⟨c,d,d2⟩:=b x _ f;(c,d,d2.ν d1)
def l'{f:c->Y_ e}(d:∀a,Ai (f a)):∀{t:Y_ c},Ai t->Ai (t>>=f):=by
 intro t;change Ai t->Ai (Y_.Wm t f);induction t with
 |pure a=>show λ_=>d a
 |raise=>show id
 |Zv=>show id
 |load a p k b=>show λh o=>b o (h o)
 |Oy a p g k b=>show λh=>(h.1,b () h.2)
 |alloc o k b=>show λh a=>b a (h a)
 |NA k b=>show λh a=>b a (h a)
 |ask k b=>show λh a=>b a (h a)
 |PL o k b=>show λh a=>b a (h a)
 |_=>show λh=>h.Nv
def uV{Q:i->Sn->MH->Prop}:∀(t:Y_ i)(p:Sn)(s:MH),Ai t->DK h0 s.ο->Y_.wp M Γ t (λa p s'=>DK h0 s'.ο->Q a p s') E p s->Y_.wp M Γ t Q E p s:=by
 intro t;induction t with
 |pure a=>show λp s _ d h=>h d
 |raise=>show λp s _ d h=>h
 |Zv=>show λp s _ d h=>h
 |load a q k c=>show λp s g d⟨o,e,h⟩=>(o,e,c o p s (g o) d h)
 |Oy a q f k c=>
  refine λp s g d⟨e,h⟩=>(e,c () p _ g.2 (d.ν λb o z=>?_) h);change ∃j,(s.ο.Np.modify a f)[b]?=δ j/\_;rw[Nq.getElem?_modify];split
  .rw [z];show(f o,1,g.1 o)
  .exact (o,z,1)
 |alloc o k c=>
  refine λp s g d h=>c _ p _ (g _) (d.ν λb u z=>(u,3,1)) h;change (s.ο.Np.Ni o)[b]?<*u;rw[Nq.Yq,Ω (M8 (Nq.Os.mp z).1)];show z
 |NA k c=>show λp s g d h=>c _ p s (g _) d h
 |ask k c=>show λp s g d h=>c _ p s (g _) d h
 |PL o k c=>show λp s g d h=>c _ p s (g _) d h
 |_=>show λp s g=>g.Nv
def AR{t:Y_ b}{Q:b->MH->Prop}(g:Ai t)(h:BT M A t (λa s'=>DK s.ο s'.ο->Q a s') E s):BT M A t Q E s:=
 λΓ p c=>uV t p s g .Th (h Γ p c)
def jx(h:∀o,mu (f o)=mu o):Ai (Oy a f):=(h,Ol.Ob)
def JK(a:υ):Ai (load a):=λ_=>Ol.Ob
def Ba:Ai NA:=λ_=>Ol.Ob
def AE(v:θ)(i:Φ):Ai (field v i):=by
 unfold field fieldsOf;refine l' (λa=>by split<;>show Ol.Ob) ?_;split
 .refine l' (λo=>by split<;>show Ol.Ob) (JK _)
 .exact Ol.Ob
def GA(a:i≠2)(o:Rm):mu (o.O2 (·.NV i x))=mu o:=by
 let⟨c,d,b,e⟩:=o;cases b with
 |N_ vs=>change (d,(vs.NV i x)[2]?,)=(d,vs[2]?,);rw[Nq.getElem?_setIfInBounds_ne a]
 |_=>rfl
def du(v:θ)(i:Φ)(x:θ)(a:(i≠2)>>>0):Ai (VP v i x):=by
 unfold VP updateField;split
 .refine l' (λo=>?_) (JK _);split
  .split
   .exact (λo=>GA a o,Ol.Ob)
   .exact Ol.Ob
  .exact Ol.Ob
 .exact Ol.Ob
def AS(e:θ)(f:ω υ):Ai (Sw e f):=by
 unfold Sw;show l' (λa=>by split;show du _ _ _;show Ol.Ob) (AE _ _)
def Li:∀l:γ WC,Ai (readyFrames l)
 |[]=>Ol.Ob
 |KK::r=>by
  unfold readyFrames;split
  .refine l' (λo=>?_) (JK _);split
   .exact Ol.Ob
   .refine l' (λb=>l' (λv=>l' (λ_=>Li r) ?_) ?_) ?_
    .exact jx λ_=>rfl
    .unfold keptBack;split
     .split
      .exact Ol.Ob
      .refine l' (λ_=>?_) ?_
       .exact Ol.Ob
       unfold underTheClaimsCaller;show l' (λ_=>by first|show Ol.Ob|(split<;>show Ol.Ob)) Ba
     .exact Ol.Ob
    .unfold behindIsImport;split
     .exact Ol.Ob
     .split
      .exact Ol.Ob
      .refine l' (λ_=>?_) (AE _ _);show Ol.Ob
  .exact Ol.Ob
def ET(T:Yc)(vs:γ θ):Ai (newFields T vs):=by
 unfold newFields newObj newObjAsIs;dsimp only;split
 .exact Ol.Ob
 .refine l' (λa=>?_) ?_
  .exact Ol.Ob
  .exact λ_=>Ol.Ob
def Ce(e:θ)(KK:WC):Ai (Tp e KK):=by
 unfold Tp;split
 .refine l' (λh=>?_) (AE _ _);let Rr:∀b:MX,Ai (do VP e 1 (<-EntryCells.newEntry h (<-Δ.frameOf KK) .ε (Nw ‹υ›) .ε (<-entryPlaceOf ‹υ› b))):=λb=>by
   refine l' (λc=>l' (λpl=>l' (λx=>du _ _ _) ?_) ?_) ?_
   .exact ET _ _
   .unfold entryPlaceOf;refine l' (λa=>by split<;>show Ol.Ob) Ba
   .unfold Δ.frameOf frameEnvs;refine l' (λd=>l' (λo=>by split<;>show Ol.Ob) ?_) (l' (λ_=>?_) Ba)
    rotate_left
    .exact Ol.Ob
    unfold frameObject;split
    .exact Ol.Ob
    .refine l' (λ_=>?_) (Li _);show Ol.Ob
  split
  .refine l' (λx=>?_) (AE _ _);split
   .exact Ol.Ob
   .exact l' (λ_=>Rr _) (du _ _ _)
  .exact Rr _
 .exact Ol.Ob
def Bi(KK:WC)(e:θ):Ai (SB KK e):=l' (λ_=>AS _ _) (Ce _ _)
inductive FI(h:Heap)(e T:Addr)(cls a0:Value)(d:Option Addr):Prop
 |mk (oe vs oT ts:_) (_:h.get? e<*oe) (_:(oe.cls=cls/\vs[0]?<*a0)) (_:oe.data=.fields vs) (_:vs[1]?<*.ref T) (_:T≠e) (_:h.get? T<*oT) (_:oT.data=.fields ts) (_:ts[3]?<*.none) (_:∀x,d<*x->mu oe=(some x,some .none,))
def FI.traced(x:FI h e T OM a0 d)(n:ς.ψ T=ε):h.TracedW ς e OM a0:=by
 let⟨a,vs,b,ts,h1,h2,k,j,i,g,f,c,_⟩:=x;show(a,vs,T,b,ts,h1,h2,k,j,n,i,g,f,c)
def gZ(x:h.TracedW ς e OM a0):∃T,ς.ψ T=ε/\FI h e T OM a0 ε:=by
 let⟨a,vs,T,b,ts,h1,h2,j,i,n,g,f,d,c⟩:=x;show(T,n,a,vs,b,ts,h1,h2,j,i,g,f,d,c,λ_ z=>nomatch z)
def bN{h:NR}(e:h.ψ a<*o):h.Np[a]?<*o:=by
 unfold NR.ψ at e;split at e
 .cases e
 .exact e
def FI.up(f:FI h' e T OM a0 ε)(k:DK h h')(g:h.ψ e<*o)(q:∀x,d<*x->mu o=(δ x,δ .ε,)):FI h' e T OM a0 d:=by
 let⟨b,vs,c,ts,h1,h2,p,n,m,l,j,i,_⟩:=f;let⟨s,a,r⟩:=k e o (bN g);rw[bN h1]at a;cases a;show(b,vs,c,ts,h1,h2,p,n,m,l,j,i,λx z=>r.ν (q x z))
inductive Al(P:Program)(w:World)(outer:List Env)(H:Hp)(s:Shared)(E:XK)(ev:Value)(s':Shared):Prop
 |mk (e T:Addr) (C a0:Value) (dd:Option Addr) (H':Hp) (_:ev=.ref e) (_:s'.os=s.os) (_:AllBare s'.gens) (_:Un (s_ outer) [] H H' s.heap s'.heap) (_:Au P w H' s'.heap) (_:s.heap.get? e=none) (_:s.heap.get? T=none) (_:H' e=none) (_:H' T=none) (_:FI s'.heap e T C a0 dd) (_:E C dd H')
def FJ{h ς:NR}{a:γ υ}:∀{l:γ WC},h.Ow ς l->(∀b∈s_ l,b∈a)->h.Ow (Qo h a) l
 |[],_,_=>trivial
 |KK::r,i,c=>by
  let⟨j,⟨L,o,d,n,g,k⟩,f⟩:=i;let e:s_ (KK::r)=L::s_ r:=by unfold s_;rw[SX,d]
  show(j,(L,o,d,O' _ (c L (by rw[e];show N5)),g,k),FJ f λb m=>c b (by rw[e];show M1 _ m))
def Gf{h ς:NR}:∀{l:γ WC},h.Ow ς l->∀b∈s_ l,∃o,h.ψ b=δ o/\∀vs,o.NH≠.N_ vs
 |KK::r,f,b,a=>by
  let⟨k,⟨L,o,g,j,d,i⟩,c⟩:=f;let e:s_ (KK::r)=L::s_ r:=by unfold s_;rw[SX,g]
  rw[e]at a;rcases MN.mp a with ζ|a
  .exact (o,d,i)
  .exact Gf c b a
section
variable{X:Cx}{pins:List (Addr×Obj)}{σ:St}{H H':Hp}{s:Shared}{h1 h2:Heap}
def f'.flown{S:γ υ}(I:f' X MZ σ H s)(un:Un (s_ X.NA) [] H H' s.ο h1)(x:Au X.Ξ X.w H' h1)(t:∀b∈S,s.ο.ψ b=ε)(m:∀b∈S,H' b=ε)(d:∀b o,h1.ψ b<*o->b∉S->b∉s_ X.NA->h2.ψ b<*o)(D:h1.Uh h2)(M:Wp g'):f' X MZ σ H' {s with ο:=h2,Ty:=g',Tz:=d',MT:=t'}/\Un (s_ X.NA) [] H H' s.ο h2/\Au X.Ξ X.w H' h2:=by
 let g:∀b o,s.ο.ψ b<*o->b∉S:=λb o e a=>by rw[t b a]at e;cases e
 let A:∀b∈s_ X.NA,∃o,s.ο.ψ b=δ o/\∀vs,o.NH≠.N_ vs:=Gf I.NA;let r:∀b∈s_ X.NA,H' b=ε:=λb a=>by
  let⟨o,L,_⟩:=A b a;show un.N4 b o L (I.Tf b a) (!1)
 let k:Un (s_ X.NA) [] H H' s.ο h2:=by
  refine(λb o e n a j=>d b o (un.P_ b o e n a j) (g b o e) a,λb o e n a j=>?_,un.N4,λb o e j=>?_,un.QN,un.VZ,un.VN)
  .obtain ⟨F,C⟩:=un.UY b o e n a j;let⟨J,f,y⟩:=A b a;rw[e]at f;cases f;let⟨l,B⟩:=D b _ C y;show(l,B)
  .obtain ⟨E,C⟩:=un.QO b o e j;by_cases a:b∈s_ X.NA
   .obtain ⟨J,f,y⟩:=A b a;rw[e]at f;cases f;let⟨F,B⟩:=un.UY b o e (I.Tf b a) a j;let⟨l,N⟩:=D b _ B y;show(_,N)
   .exact (E,d b E C (g b o e) a)
 let h:Au X.Ξ X.w H' h2:=λb u e=>(x b u e).ST (λc v i q=>d c v q (λp=>?_) λp=>?_) (λ_ q=>q) λ_ _ q=>q
 .exact (I.Ql (g':=g') (d':=d') (t':=t') (ch:=[]) k h M (λ_ z=>nomatch z),k,h)
 .rcases i with ζ|i
  .rw [m c p]at e;cases e
  .rw [m c p]at i;cases i
 .rcases i with ζ|i
  .rw [r c p]at e;cases e
  .rw [r c p]at i;cases i
def AH(I:f' X MZ σ H s)(a:X.ex=[])(d:s.ο.ψ b=ε):X.RJ.ο.ψ b=ε:=by
 cases e:X.RJ.ο.ψ b with
 |ε=>rfl
 |δ o=>
  let⟨c,q⟩:=I.ς.QO b o e (by rw[a];simp);rw[d]at q;cases q
def G7(c:Au P w H h)(d:h.ψ b=ε):H b=ε:=by
 cases e:H b with
 |ε=>rfl
 |δ u=>
  obtain⟨o,q⟩:∃o,h.ψ b<*o:=by
   let z:=c b u e;cases u with
   |M5=>let⟨_,a,n,_,q⟩:=z;show(_,q)
   |No=>let⟨_,a,_,o,q,_⟩:=z;show(_,q)
   |dK=>let⟨_,_,vs,_,o,f,g,q,_⟩:=z;show(_,q)
   |dT=>let⟨_,_,xs,_,o,f,g,q,_⟩:=z;show(_,q)
   |RY=>let⟨o,f,g,t,q,_⟩:=z;show(o,q)
   |Uk=>let⟨_,_,_,q,_⟩:=z;show(_,q)
   |Xf=>show z
   |xd=>let⟨i,⟨o,f,g,q,_⟩,_⟩:=z;show(o,q)
   |rng=>let⟨t,u,v,q⟩:=z;show(_,q)
   |frz=>show(_,z.1)
   |Wv=>show(_,z)
   |met=>show(_,z)
   |ext=>show z.2.1
  rw[d]at q;cases q
def IN(j:FI h e T OM a0 d)(f:h.Ow ς l):T∉s_ l:=λc=>by
 let⟨k,vs,m,ts,_,_,_,_,_,i,a,_⟩:=j;let⟨o,b,g⟩:=Gf f T c;rw[i]at b;cases b;show g ts a
end
section
variable{X:Cx}{E:XK}
def pi(f:X.ex=[])(Rv:X.NA=X.KK::X.Fr)(g:X.KK.RN<*X.KK.OZ){p:St}(I:f' X k p H s)(mk:NR.Y' s.ο h1 e C vs)(q:E C ε H):BT (Cl X.Ξ X.w) X.A (SB X.KK (.π e)) (λ_ a=>Al X.Ξ X.w X.Fr X.XJ X.RJ E (.π e) a) (λe' a=>Al X.Ξ X.w X.Fr X.XJ X.RJ E e' a) {s with ο:=h1}:=by
 let d:s.ο.Ow X.ς (X.KK::X.Fr):=Rv▸I.NA;refine wpAny_leaves_madeW (s:={s with ο:=h1}) (ς:=Qo s.ο (s_ X.NA)) (h:=s.ο) (by rw[<-Rv];show I.ok.QZ) g (λb o z=>SH _ z) (FJ d (by rw[Rv];show λ_ z=>z)) mk λh' t m No B r=>?_;let⟨i,u,c⟩:=I.flown (H':=H) (h1:=s.ο) (h2:=h') (g':=s.Ty) (d':=s.Tz) (t':=s.MT) (S:=[]) Un.Th I.Oc (λ_ z=>nomatch z) (λ_ z=>nomatch z) (λb o z _ x=>m.1 b o (Pp _ z x))
  (λb o z v=>r b o (mk.Oq b o z) v) I.Rz
 let⟨T,l,n⟩:=gZ m.2.2.2;let dT:s.ο.ψ T=ε:=by
  cases z:s.ο.ψ T with
  |ε=>rfl
  |δ o=>
   let y:=IN n i.NA;rw[Pp _ z y]at l;cases l
 let j:=i.ς;rw[f]at j;show(e,T,C,.π t,ε,H,1,i.os,I.Rz,j,c,AH I f mk.Xw,AH I f dT,G7 I.Oc mk.Xw,G7 I.Oc dT,n,q)
def rL(D:X.ex=[])(Rv:X.NA=X.KK::X.Fr)(F:X.KK.RN<*X.KK.OZ)(hE:∀C d H,E' C d H->E C d H){N:St}(I:f' X k N H s)(cx:Al X.Ξ X.w X.NA H s E' Y s'):BT (Cl X.Ξ X.w) X.A (SB X.KK Y) (λ_ f=>Al X.Ξ X.w X.Fr X.XJ X.RJ E Y f) (λe' f=>Al X.Ξ X.w X.Fr X.XJ X.RJ E e' f) s':=by
 let⟨e,T,C,a0,dd,H',ζ,os,a,un,h,Z,dT,Q,R,W,q⟩:=cx;let⟨c,g,d,j,B⟩:=s';obtain ζ:B=s.os:=os;let I1:f' X k N H' {s with ο:=c,Ty:=g,Tz:=d,MT:=j}:=I.Ql (g':=g) (d':=d) (t':=j) (ch:=[]) un h a (λ_ z=>nomatch z);let x:c.Ow X.ς (X.KK::X.Fr):=Rv▸I1.NA;let fl:Zk (Qo c (e::T::s_ X.NA)) (X.KK::X.Fr) e C a0 c:=
  (λb o z=>SH _ z,O' _ (!1),FJ x (by rw[<-Rv];show λb z=>M1 _ (M1 _ z)),W.traced (O' _ (!1)))
 refine AR (s:=(c,g,d,j,s.os)) (Bi _ _) (wpAny_leaves_onW (s:=(c,g,d,j,s.os)) (by rw[<-Rv];show I.ok.QZ) F fl λh' u up dk=>?_);let l:∀b o,c.ψ b<*o->b∉[e,T]->b∉s_ X.NA->h'.ψ b<*o:=λb o z U p=>u.1 b o (Pp _ z λn=>by
  rcases MN.mp n with y|n
  .exact U (by rw[y];simp)
  .rcases MN.mp n with y|n
   .exact U (by rw[y];simp)
   .exact p n)
 let⟨M,ab,m⟩:=I.flown (H':=H') (h1:=c) (h2:=h') (g':=g) (d':=d) (t':=j) (S:=[e,T]) un h (λb p=>by rcases MN.mp p with z|z;rw[z];show Z;rw[Ay z];show dT)
  (λb p=>by rcases MN.mp p with z|z;rw[z];show Q;rw[Ay z];show R) l up a
 let⟨T',P,i⟩:=gZ u.2.2.2;let v:s.ο.ψ T'=ε/\H' T'=ε:=by
  cases z:c.ψ T' with
  |ε=>
   refine(3,G7 h z);cases y:s.ο.ψ T' with
   |ε=>rfl
   |δ o=>
    let⟨o',r⟩:=un.QO T' o y (!1);rw[z]at r;cases r
  |δ o=>
   by_cases t:T'=T
   .rw [t];show(dT,R)
   .let L:T'≠e:=by let⟨_,_,_,_,_,_,_,_,z,_⟩:=i;show z
    let J:=IN i M.NA;rw[Pp _ z (by simp[t,L,J])]at P;cases P
 let O:=M.ς;rw[D]at O;let⟨oe,_,_,_,g1,_,_,_,_,_,_,_,g2⟩:=W;show(e,T',C,a0,dd,H',1,M.os,a,O,m,AH I D Z,AH I D v.1,Q,v.2,i.up dk g1 g2,hE _ _ _ q)
end
section
variable{X:Cx}
abbrev tK(X:Cx)(e:Ro)(c:St->Prop):Prop:=∀(MZ:γ (υ×Rm))(s:MH)(σ:St)(H:Hp)(Q:θ->MH->Prop),f' X MZ σ H s->c σ->(∀y t s',f' X MZ σ H s'->y.β≤100000->Q (.M_ y t) s')->
 BT (Cl X.Ξ X.w) X.A (OJ e X.KK) Q X.xe s
abbrev mD(X:Cx):γ Ro->(St->Prop)->Prop
 |[],_=>Ol
 |e::es,c=>tK X e c/\mD X es c
def jz(h:(x.β≤100000)>>>0):tK X (.Vi (.M_ x) j Ng) c:=λ_ _ _ _ _ I _ q=>R_.Constant_str (q x _ _ (I.Sg _) h)
abbrev vv(i:Φ)(σ:St):Prop:=∃x:M',σ[i]?=δ (δ (.M_ x))/\x.β≤5000/\∀c∈x.TY.ND,c<1000000
def wH(h:n≤100000):n≤Λ:=by rw[OO];omega
def jy(i:Φ)(j:PE X v (bB i))(k:∀a,c a->vv i a):tK X (.FormattedValue v (-1) ε Ng) c:=λb s a H Q I l q=>by
 let⟨x,e,r,_⟩:=k a l;refine Oj.Sf.FormattedValue_plain (ri (j b s a H (λw f=>w=.M_ x/\f=H) I (_,e,5)) λu p d=>?_);let⟨w,f,o,h,n,m⟩:=d;subst n m;let⟨t,ζ⟩:=h;show Oj.Sf.formatField_str (λt' g=>q x t' _ (o.Sg g) (!2)) (wH (!2))
def Lj{c:St->Prop}{a:γ (υ×Rm)}{f:St}{H:Hp}{Q:M'->MH->Prop}(g:c f)(q:∀TF s,f' X a f H s->TF.β≤3000000->Q TF s):∀{d:γ Ro}{b:M'}{s:MH},mD X d c->d.β≤20->b.β+d.β*100000≤3000000->f' X a f H s->
  Joins (Cl X.Ξ X.w) X.A X.xe (evalEach d X.KK) b Q s
 |[],b,s,_,_,hz,I=>by
  rw[show evalEach [] X.KK=[] by rfl];show q b s I (by simpa using hz)
 |e::d,b,s,h,i,hz,I=>by
  rw[show evalEach (e::d) X.KK=OJ e X.KK::evalEach d X.KK by rfl];refine h.1 a s f H _ I g λy t s' j k=>(y,t,1,3,3)
  .rw [M'.Yo,OO];simp at hz;lia
  .refine Lj g q h.2 (by simp at i;omega) ?_ j;rw[M'.Yo];simp at hz;lia
abbrev zP(c:St->Prop):TE:=λσ H Q=>c σ/\∀x,Q (.M_ x) H
def wR(h:mD X (b::a::Rr) c)(e:((b::a::Rr).β≤20)>>>0):PE X (.JoinedStr (b::a::Rr) Ng) (zP c):=by
 intro d s i H Q I ⟨f,q⟩;refine wpAny_JoinedStr (Lj f (λTF s' g hz=>(3,.M_ TF,H,g.Sg _,(_,ζ),q TF)) h e ?_ I)
 .have:M'.Rg.β=0:=ζ;simp at e⊢;lia
 .rw [OO];omega
end
abbrev Dt(K:Nl)(C:υ):Prop:=Δ.W.excIn K C [.MM "ValueError",.MM "Exception",.MM "BaseException",.MM "object"] "ValueError.__new__"=ξ
def Dt.Ua{K:Nl}(q:Dt K C)(X:K.In h):∃bm N nm j bs UQ sn Rp ab VF dd k0 k1 k2 k3 k5 mN,h.ψ C=δ (Re nm j C N bs bm UQ sn Rp ab VF dd k0 k1 k2 k3 k5 "ValueError.__new__")/\h.Ns N mN/\mN "__init__"=ε/\
  Zj h [.MM "ValueError",.MM "Exception",.MM "BaseException",.MM "object"] bm:=by
 unfold Dt Δ.W.excIn at q;split at q;case h_2=>cases q
 case h_1 o dd n i c=>
  split at q;case h_2=>cases q
  case h_1 D bm k0 k1 k2 k3 mk k5 m k=>
   let⟨q,a⟩:=Od.mp q;let⟨q,b⟩:=Od.mp q;let⟨q,g⟩:=Od.mp q;let⟨q,d⟩:=Od.mp q;let⟨f,e⟩:=Od.mp q;cases Ot.mp f;cases Ot.mp e;let⟨l⟩:=i;cases k;cases n;cases m;cases Q_ _▸d;show(bm,7,7,7,dd,k0,k1,k2,k3,k5,_,X _ _ c,.of_isNs (Δ.W.isNs_of_in X b),Δ.W.nsMap_none_of_in X b (Ot.mp a),Δ.W.tail_of_in X g)
abbrev tE(X:Cx)(E:XK):Prop:=∀(MZ:γ (υ×Rm))(σ:St)(H:Hp)(s:MH)(h1:NR)(e:υ)(C:θ)(vs:γ θ),f' X MZ σ H s->NR.Y' s.ο h1 e C vs->E C ε H->X.xe (.π e) {s with ο:=h1}
abbrev wq(C:υ)(E:XK)(t:TA):TS:=λ_ σ H=>t σ H λvs H1=>vs.β≤Λ/\E (.π C) ε H1
def qF{r a Ng:Sn}(z:X.T0=ξ)(B:tE X E)(J:Dt X.K C)(u:X.mg x<*.π C)(A:PA X (j::Rr) t)(w:Gl X x>>>4)(y:((x==("__debug__":M'))=η)>>>0)(l:(Θ (j::Rr) X.KK=(η,OJ j X.KK,)::Θ Rr X.KK)>>>4)(d:((OE a (Θ Rr X.KK)).Qk (·.1)=η)>>>4):PS X (.Raise (δ (.QE (.Nz x r) (j::Rr) [] a)) ε Ng) (wq C E t):=by
 intro b s k H D I h;let⟨bm,N,nm,p,bs,UQ,sn,Rp,ab,VF,dd,k0,k1,k2,k3,k5,mN,i,F,f,n⟩:=J.Ua I.ok.VT.Vv;refine wpAny_Raise_call_subT (C:=C) (nm:=nm) (q:=p) (N:=N) (bs:=bs) (bm:=bm) (UQ:=UQ) (sn:=sn) (Rp:=Rp) (ab:=ab) (VF:=VF) (dd:=dd) (k0:=k0) (k1:=k1) (k2:=k2) (k3:=k3) (k5:=k5) RC (mN:=mN)
  (n.hasType RC.hasBase) (I.ok.hd z) (by rw[l];change (η||(OE a (Θ Rr X.KK)).Qk (·.1))=η;rw[d];rfl) f (v_ I w u (1,3) y)
 let m:=A a b s k H _ I h;rw[l]at m⊢;show R_.SY (ri m λus s2 g=>by let⟨vs,L,c,o,v,q⟩:=g;show(1,by rw[<-o.β];show v,c.bk _ _ i,F.Oq c.bk,n.Oq c.bk,λh' e mk=>B b k L s2 h' e _ _ c mk q))
section
variable{P:Program}{w:World}{K:Frag}{mg:Str->Option Value}{base:Heap}{N:List Str}{qual:Str}{scope:Scope}{f:Addr}{cd:Value}{A:Around}{outer:List Env}{s:Shared}{H:Hp}{E:XK}
def ky:tE (aG (Al P w) P w K mg ς N M4 NE f cd A Fr s H E) E:=λa b d c h1 e C vs I mk q=>pi (X:=aG (Al P w) P w K mg ς N M4 NE f cd A Fr s H E) ζ ζ ζ I mk q
def CI(b:∀C d H,e C d H->E C d H):Et (Al P w) (aG (Al P w) P w K mg ς N M4 NE f cd A Fr s H E) e:=λa g j h i s' I c=>rL (X:=aG (Al P w) P w K mg ς N M4 NE f cd A Fr s H E) ζ ζ ζ b I c
end
def vh.okX{P:NC}{w:Ny}{K:Nl}{st:Nr}(F:vh K x M4 st f h)(S:vw N ps (h_ st))(PJ:∀vs H Q E,d vs H Q E->vs.β=ps.β)(a:∀(Qi:θ)(A:N0)(Fr:γ WC)(s:MH)(H:Hp)(vs:γ V)(Q:VK)(E:XK),ak k (A.RE (S4 M4 (h_ st) s⁻¹ f Qi))->d vs H Q E->
   ∃t,BA (aG (Al P w) P w K mg ς N M4 (h_ st) f Qi A Fr s H E) (p_ st) t/\t {nx:=λ_ H'=>Q .Rt H',rt:=Q} (SM N vs) H):aa P w K mg ς (Al P w) (k+1) f h ps d:=by
 let⟨j,i,kV,Pi,pm,an,Qi,ct,e,ζ,lk,c⟩:=F.ex;show jC lk c S PJ λA Fr s H vs Q E g b=>a Qi A Fr s H vs Q E g b
abbrev AT(P:NC)(w:Ny)(K:Nl)(mg:M'->ω θ)(ς:NR)(x:M')(k:Φ)(ps:γ M')(sp:Sp):Prop:=
 ∃(f:υ)(fd:Sb),mg x=δ (.π f)/\UO K (.π f)=ξ/\Ao K fd ps []/\aa P w K mg ς (Al P w) k f fd ps sp
def Ct{X:Cx}{p Ng:Sn}(D:AT X.Ξ X.w X.K X.mg X.ς x k ps d)(g:ak k X.A)(hp:Et (Al X.Ξ X.w) X E)(j:PA X (e::a) t)(h:Gl X x>>>4)(c:((x==("__debug__":M'))=η)>>>0)(i:(Θ (e::a) X.KK=(η,OJ e X.KK,)::Θ a X.KK)>>>4)(b:((OE Ng (Θ a X.KK)).Qk (·.1)=η)>>>4):PE X (.QE (.Nz x p) (e::a) [] Ng) (Cp d [] E t):=by
 let⟨f,m,h1,h2,l,F⟩:=D;show mV F g h h1 h2 l .Op hp j c i b
abbrev dB(e:υ)(C:θ)(d:ω υ):HO:=.ext λh=>∃o,h.ψ e=δ o/\o.OM=C/\(∃vs,o.NH=.N_ vs)/\∀x,d<*x->mu o=(δ x,δ .ε,)
instance Cx.UP(X:Cx)(v:θ):Cx:={X with A:=X.A.ZV (δ v),T0:=η,xe:=λ_ _=>NU}
section
variable{X:Cx}{pins:List (Addr×Obj)}{σ:St}{H:Hp}{s:Shared}
def f'.UP(I:f' X MZ σ H s)(v:θ):f' (X.UP v) MZ σ H s:=
 ((I.ok.VT,I.ok.RR,I.ok.Wf,I.ok.blt,I.ok.WA,I.ok.QG,I.ok.Tn,I.ok.cab,λz=>MX.noConfusion z,I.ok.QZ,I.ok.stk,I.ok.exf,I.ok.bs,I.ok.bsz,I.ok.noex,I.ok.exfs,I.ok.VY,I.ok.frf),I.os,I.Rz,I.ς,I.Xx,I.N8,I.N4,I.UH,I.Yz,I.Oc,I.PJ)
def f'.unheld(I:f' (X.UP v) MZ σ H s)(ok:X.Ok):f' X MZ σ H s:=(ok,I.os,I.Rz,I.ς,I.Xx,I.N8,I.N4,I.UH,I.Yz,I.Oc,I.PJ)
def f'.track(I:f' X MZ σ H s)(l:H e=ε)(m:X.RJ.ο.ψ e=ε)(i:X.KK.OZ≠e)(j:∀x c,X.KK.Rj.ρ x<*c->c≠e)(h:∀p∈X.pn++MZ,p.1≠e)(k:φ s.ο)(a:∃o,s.ο.ψ e<*o)(st:∀h1 h2:NR,φ h1->(∀o,h1.ψ e<*o->h2.ψ e<*o)->φ h2):f' X MZ σ (MR H e (.ext φ)) s:=by
 let d:∀b u,H b<*u->b≠e:=λb u q=>e_ q l;let g:∀b o,X.RJ.ο.ψ b<*o->b≠e:=λb o q z=>by rw[z,m]at q;cases q
 refine(I.ok,I.os,I.Rz,(I.ς.P_,I.ς.UY,λb o q n f=>?_,I.ς.QO,λb xs q=>?_,λb o u q=>?_,λb ps q=>?_),I.Xx,I.N8,3,λx c q=>?_,λp hp=>?_,λb u q=>?_,I.PJ)
 .rw [a_ (g b o q)];show I.ς.N4 b o q n f
 .let z:=I.ς.QN b xs q;rw[a_ (d b _ z)];show z
 .let z:=I.ς.VZ b o u q;rw[a_ (d b _ z)];show z
 .obtain ⟨TW,z⟩:=I.ς.VN b ps q;show(TW,by rw[a_ (d b _ z)];show z)
 .rw [a_ i];show I.N4
 .rw [a_ (j x c q)];show I.UH x c q
 .obtain ⟨w,v,t⟩:=I.Yz p hp;show(w,by rw[a_ (h p hp)];show v,t)
 .by_cases f:b=e
  .subst f;rw[j_]at q;cases q;show(k,a,st)
  .rw [a_ f]at q;show(I.Oc b u q).ST (λ_ _ _ r=>r) (λc r=>by rw[a_ (d c _ r)];show r) λc xs r=>by rw[a_ (d c _ r)];show r
def f'.reframed{e:St}(I:f' X MZ σ H s)(f:Pd X.KK.OZ s.ο h')(ns:h'.Ns X.KK.OZ k)(lk:∀(i:Φ)(x:M')(v:V),X.N[i]?<*x->e[i]?<*δ v->GY X.KK.NE x->∃u,ad v u/\zF X.KK h' k x u)(w:e.β=X.N.β):f' X MZ e H {s with ο:=h',MT:=t'}:=by
 let g:∀b o,X.RJ.ο.ψ b<*o->b≠X.KK.OZ:=λb o q=>M8 (Ψ (lt_size q) I.ok.WA);let j:∀b u,H b<*u->b≠X.KK.OZ:=λb u q=>e_ q I.N4;refine(I.ok,I.os,I.Rz,(λb o q n h a=>(f.2 b (g b o q)).ν (I.ς.P_ b o q n h a),λb o q n h a=>?_,I.ς.N4,λb o q a=>?_,I.ς.QN,I.ς.VZ,I.ς.VN),(k,ns,lk),λx c q=>?_,I.N4,I.UH,λp hp=>?_,λb u q=>?_,w)
 .obtain ⟨m,z⟩:=I.ς.UY b o q n h a;show(m,(f.2 b (g b o q)).ν z)
 .obtain ⟨t,z⟩:=I.ς.QO b o q a;show(t,(f.2 b (g b o q)).ν z)
 .obtain ⟨v,o,z,d⟩:=I.N8 x c q;show(v,o,(f.2 c (I.cne x c q)).ν z,d)
 .obtain ⟨B,A,l,y⟩:=I.Yz p hp;show((f.2 p.1 l).ν B,A,l,y)
 .refine (I.Oc b u q).ST (λc v a r=>(f.2 c ?_).ν r) (λ_ r=>r) λ_ _ r=>r;rcases a with ζ|a
  .exact j c u q
  .exact j c _ a
def f'.goes2(I:f' X MZ σ H s)(g:X.N.Nx)(B:X.N[i]?<*n)(y:X.KK.Og n<*.local)(q:∀s',Pd X.KK.OZ s.ο s'.ο->s'.Ty=s.Ty->f' X MZ (σ.RY i ε) H s'->Q () s'):BT (Cl X.Ξ X.w) A (do bindName X.KK n .ε;unbindBehindTheSuite X.KK n Ng) Q E s:=by
 let⟨m,p,t⟩:=id I.Xx;refine wpAny_nameGoes_keeps y p (by rw[I.ok.RR];rfl) λh' v ns b=>q _ b ζ (I.reframed b ns (λj x w f hw k=>?_) (by rw[γ.length_set];show I.PJ));let a:j≠i:=λz=>by
  subst z;let e:j<σ.β:=by rw[I.PJ];show(q5 f).1
  rw[γ.Wh e]at hw;cases hw
 rw[γ.Xk (Ne.MO a)]at hw;let d:x≠n:=λz=>a (Bc g f (by rw[z];show B));let⟨u,r,l⟩:=t j x w f hw k;refine(u,r,3);rcases l with⟨k1,k2⟩|⟨k1,c,k2,o,k3,h⟩
 .exact .NI (k1,by change (if x=n then v else m x)<*u;rw[Ω d];show k2)
 .exact .NT (k1,c,k2,o,(b.2 c (I.cne x c k2)).ν k3,h)
end
def ml{Ec:XK}{X:Cx}{l:γ (υ×Rm)}{Y:St}{H:Hp}(hex:X.ex=[])(Rv:X.NA=X.KK::X.Fr)(as:X.KK.RN<*X.KK.OZ)(nd:X.N.Nx)(hi:X.N[i]?<*n)(hk:X.KK.Og n<*.local)(hl:DG X.KK.NE n)(hf:X.fn n=ξ\/X.KK.NE.MP.ρ n<*.local)(hg:Gl X x)(hm:X.mg x<*.π R)(go:∀e C d H' Z,Ec C d H'->H' e=ε->X.RJ.ο.ψ e=ε->f' X l (Y.RY i (δ (.π e))) (MR H' e (dB e C d)) Z->BT (Cl X.Ξ X.w) (X.A.ZV (δ (.π e))) (execs (b0::suite) X.KK) (λf s6=>BT (Cl X.Ξ X.w) X.A (do bindName X.KK n .ε;unbindBehindTheSuite X.KK n E) (λ_ s7=>Qf f s7) X.xe s6) (Yu (Cl X.Ξ X.w) (X.A.ZV (δ (.π e))) X.KK n E (Tj (Cl X.Ξ X.w) (X.A.ZV (δ (.π e))) X.KK (cameBackBy (Cl X.Ξ X.w) X.A X.KK X.xe))) Z)(I:f' X l Y H s)(cx:Al X.Ξ X.w X.NA H s (λC d H'=>Zc X.K C (.π R)=δ ξ/\Ec C d H') ev s')(hd:(x==("__debug__":M'))=η):BT (Cl X.Ξ X.w) X.A (Tp ev X.KK) (λ_ s2=>BT (Cl X.Ξ X.w) X.A (Sw ev ε) (λ_ s3=>BT (Cl X.Ξ X.w) X.A (handleBy ev X.KK [.WB (δ (.Nz x np)) (δ n) (b0::suite) E]) Qf X.xe s3) X.xe s2) X.xe s':=by
 let⟨e,T,C,a0,dd,H',ζ,os,F,un,P,de,dT,he,hT,fT,B,q⟩:=cx;let⟨D,g,d,u,an⟩:=s';obtain ζ:an=s.os:=os;let I1:f' X l Y H' {s with ο:=D,Ty:=g,Tz:=d,MT:=u}:=I.Ql (g':=g) (d':=d) (t':=u) (ch:=[]) un P F (λ_ z=>nomatch z);let ag:D.Ow X.ς (X.KK::X.Fr):=Rv▸I1.NA;let fl:Zk (Qo D (e::T::s_ X.NA)) (X.KK::X.Fr) e C a0 D:=
  (λb o z=>SH _ z,O' _ (!1),FJ ag (by rw[<-Rv];show λb z=>M1 _ (M1 _ z)),fT.traced (O' _ (!1)))
 let seen:∀(h':NR),(Qo D (e::T::s_ X.NA)).X1 h'->D.Uh h'->f' X l Y H' {s with ο:=h',Ty:=g,Tz:=d,MT:=u}:=λh' fk up=>
  (I.flown (H':=H') (h1:=D) (h2:=h') (g':=g) (d':=d) (t':=u) (S:=[e,T]) un P (λb Q=>by rcases MN.mp Q with z|z;rw[z];show de;rw[Ay z];show dT)
   (λb Q=>by rcases MN.mp Q with z|z;rw[z];show he;rw[Ay z];show hT) (λb o z hS Q=>fk b o (Pp _ z λj=>by
    rcases MN.mp j with y|j
    .exact hS (by rw[y];simp)
    .rcases MN.mp j with y|j
     .exact hS (by rw[y];simp)
     .exact Q j)) up F).1
 refine AR (s:=(D,g,d,u,s.os)) (Ce _ _) (Xa (s:=(D,g,d,u,s.os)) (by rw[<-Rv];show I.ok.QZ) as fl λh2 aM O aT=>AR (s:=(h2,g,d,u,s.os)) (AS _ _) (ZG (s:=(h2,g,d,u,s.os)) aM λh3 L M aS=>?_));let I3:=seen h3 L.1 (O.ν M);let⟨oe,ar,aB⟩:=L.QO;let ty:Wn (Cl X.Ξ X.w) h3 (typeOf (.π e)) C:=aB▸(Wn.ld ar).X0 .now;refine wpAny_handleBy_cons (Zo (v_ (X:=X.UP (.π e)) (I3.UP _) hg hm ?_ hd)) (!5);refine(Δ.W.exm_one I3.TX ty B).here ?_;refine codeAny_handlers_suite_as (AR (s:=(h3,g,d,u,s.os)) (AS _ _) (lands_againW (s:=(h3,g,d,u,s.os)) L λh4 U ab aN=>?_));let I4:=seen h4 U.1 ((O.ν M).ν ab);let⟨o4,v4,J,aC,az,_⟩:=U.first;let t:∀b o,s.ο.ψ b<*o->b≠e:=λb o z y=>by rw[y,de]at z;cases z
 let aA:∀x,dd<*x->mu o4=(δ x,δ .ε,):=λx z=>by
  let⟨ap,_,_,_,g1,_,_,_,_,_,_,_,g2⟩:=fT;let⟨o',e1,e2⟩:=((aT.ν aS).ν aN) e ap (bN g1);rw[bN J]at e1;cases e1;show e2.ν (g2 x z)
 let I5:=I4.track (e:=e) (φ:=λh=>∃o,h.ψ e=δ o/\o.OM=C/\(∃vs,o.NH=.N_ vs)/\∀x,dd<*x->mu o=(δ x,δ .ε,)) he (AH I hex de) (by let⟨m,⟨o,es,ep,z,_⟩,_⟩:=I.Xx;show t _ o z) (λy c z=>by let⟨v,o,r,_⟩:=I.N8 y c z;show t c o r)
  (λp hp=>t p.1 p.2 (I.Yz p hp).1) (o4,J,aC,(v4,az),aA) (o4,J) λa b aH k=>by let⟨o,y,z⟩:=aH;show(o,k o y,z)
 show AO I5 nd hi hl (v:=.π e) ζ (λZ I6=>go e C dd H' Z q he (AH I hex de) I6) hf
section
variable{X:Cx}{pins:List (Addr×Obj)}{σ:St}{H:Hp}{s:Shared}{x n y fx:Str}{R:Addr}{i j k:Nat}{np hpos pos p cp yp ap:Pos}{b0:Stmt}{suite:List Stmt}{ts:TS}{D:Ends}{ps:List Str}{sp:Sp}{e:Expr}{es:List Expr}{t:TA}
end
section
variable{X:Cx}
end
end L2
namespace L2
open PySem.Spec PySem.W PyProof.Rows Builtin Builtin.ObjectAttr Builtin.Getset_descriptor
structure GB(K:Frag)(C:Addr):Prop where
 ga:findIn K (.ref C) "__getattribute__"<*some (.builtin "BaseException.__getattribute__")
 noHook:findIn K (.ref C) "__getattr__"<*none
 cls:findIn K (.ref C) "__class__"<*some (.builtin "object.__class__")
 get:specialIn K (.builtin "object.__class__") "__get__"<*some (.builtin "getset_descriptor.__get__")
 tk:takesIn K (.builtin "object.__class__")<*true
 obj:mroIn K C (.type "object")<*true
 exc:mroIn K C (.type "BaseException")<*true
 isC:isClsIn K C=true
section
variable{prog:Program}{w:World}{A:Around}{E:Value->Shared->Prop}{s:Shared}{K:Frag}{e C:Addr}
end
end L2
namespace RA
open L2
structure Sm(w:LN):Prop where
 len:w.length≤4000
 cod:∀c∈w,c<1000000
def CH.sm(h:CH L):Sm L:=(by have:=h.hi;lia,λc a=>by have:=(h.az c a).2;lia)
def Sm.txt(h:Sm w)(e:a[i]?<*δ (.M_ (tx w))):vv i a:=(tx w,e,by rw[oh];have:=h.PJ;lia,by rw[Fp];show h.cod)
abbrev j4(H:Hp)(Sy:γ υ)(Rs:γ (γ ML)):Prop:=Sy.β=Rs.β/\∀(i:Φ)(r:υ),Sy[i]?<*r->∃R,Rs[i]?=δ R/\H r<*.No (R.NL V.MQ)
def j4.at(h:j4 H a Rs){i:Φ}(e:(a.NL V.π)[i]?<*x):∃r R,x=.π r/\a[i]?=δ r/\Rs[i]?=δ R/\H r<*.No (R.NL V.MQ):=by
 rw[tS]at e;cases b:a[i]? with
 |ε=>rw[b]at e;cases e
 |δ r=>
  rw[b]at e;let⟨R,h1,h2⟩:=h.2 i r b;show(r,R,(ω.δ.QG e).MO,1,h1,h2)
abbrev tI(H:Hp)(m:υ)(L:LN)(Rs:γ (γ ML))(Bs:γ MX):Prop:=
 ∃(wy mk:υ)(Sy:γ υ),H m=δ (.No [.M_ (tx L),.π wy,.π mk])/\H wy=δ (.No (Sy.NL V.π))/\H mk=δ (.No (Bs.NL V.bl))/\j4 H Sy Rs
abbrev dA:V->MX
 |.bl _=>ξ
 |.MQ _=>ξ
 |.M_ _=>ξ
 |_=>η
abbrev ip(H:Hp):Φ->V->V->Prop
 |0,x,y=>x=y/\dA x=ξ
 |d+1,x,y=>(x=y/\dA x=ξ)\/∃p q xs ys,x=.π p/\y=.π q/\((H p=δ (.No xs)/\H q<*.No ys)\/(H p=δ (.M5 xs)/\H q<*.M5 ys))/\xs.β=ys.β/\xs.β≤2100/\
   ∀(i:Φ)(x y:V),xs[i]?<*x->ys[i]?<*y->ip H d x y
def eT(h:dA x=ξ):ip H d x x:=by
 cases d with
 |TB=>show(1,h)
 |Sc d=>show Or.NI (1,h)
def Ll{xs:γ V}(h:xs.P' dA=ξ):∀(i:Φ)(x y:V),xs[i]?<*x->xs[i]?<*y->ip H d x y:=λi x y b a=>by
 rw[b]at a;cases a;show eT (NN.mp h x (AC b))
def pE(R:γ ML):(R.NL V.MQ).P' dA=ξ:=by
 rw[NN];intro x a;let⟨z,_,ζ⟩:=O_.mp a;rfl
def sW(R:γ MX):(R.NL V.bl).P' dA=ξ:=by
 rw[NN];intro x a;let⟨z,_,ζ⟩:=O_.mp a;rfl
def lx(h1:j4 H g Rs)(h2:j4 H f Rs)(hz:∀R∈Rs,R.β≤2100):∀(i:Φ)(x y:V),(g.NL V.π)[i]?<*x->(f.NL V.π)[i]?<*y->ip H (d+1) x y:=λi x y j h=>by
 let⟨a,R,ζ,_,e,l⟩:=h1.at j;let⟨b,m,ζ,_,c,k⟩:=h2.at h;rw[e]at c;cases c;show Or.NT (a,b,8,.NI (l,k),1,by rw[ol];show hz R (AC e),Ll (pE R))
def ph(h1:tI H h L Rs Bs)(h2:tI H m2 L Rs Bs)(l:Rs.β≤2100)(m:Bs.β≤2100)(hz:∀R∈Rs,R.β≤2100):ip H 3 (.π h) (.π m2):=by
 let⟨k,mk,g,t,s,r,f⟩:=h1;let⟨c,e,d,q,p,o,j⟩:=h2;refine Or.NT (h,m2,8,.NI (t,q),1,by change 3≤2100;decide,λi x y a b=>?_);match i,a,b with
 |0,a,b=>cases a;cases b;show eT ζ
 |1,a,b=>cases a;cases b;show Or.NT (k,c,8,.NI (s,p),by rw[ol,ol,f.1,j.1],by rw[ol,f.1];show l,lx f j hz)
 |2,a,b=>cases a;cases b;show Or.NT (mk,e,8,.NI (r,o),1,by rw[ol];show m,Ll (sW Bs))
 |n+3,a,b=>cases a
end RA
namespace RA
abbrev aq(L:LN):LN->LN->MX
 |c::a,d::b=>if c=d then aq L a b else decide (L.M0 c<L.M0 d)
 |_,_=>η
abbrev AF(L a b:LN):MX:=if a.β≠b.β then decide (a.β<b.β)else aq L a b
section
variable{κ:Type}[DecidableEq κ]
abbrev aO(acc:γ κ):γ κ->γ κ
 |[]=>acc
 |k::ks=>aO (if k∈acc then acc else acc++[k]) ks
abbrev zg(ks:γ κ):γ κ:=aO [] ks
abbrev ay(ks:γ κ):LN:=ks.NL λk=>(zg ks).M0 k
def fE(k:κ):∀(ks a:γ κ),aO a (ks++[k])=if k∈aO a ks then aO a ks else aO a ks++[k]
 |[],_=>rfl
 |_::ks,_=>fE k ks _
def jI:∀(ks b:γ κ)(k:κ),k∈b\/k∈ks↔k∈aO b ks
 |[],b,k=>by simp[aO]
 |a::ks,b,k=>by
  change _↔k∈aO (if a∈b then b else b++[a]) ks;rw[<-jI ks];by_cases h:a∈b
  .rw [Id h,MN];constructor
   .rintro (x|rfl|x)
    .exact .NI x
    .exact .NI h
    .exact .NT x
   .rintro (x|x)
    .exact .NI x
    .exact .NT (.NT x)
  .rw [Ω h,MN,Na,R8];constructor
   .rintro (x|x|x)
    .exact .NI (.NI x)
    .exact .NI (.NT x)
    .exact .NT x
   .rintro ((x|x)|x)
    .exact .NI x
    .exact .NT (.NI x)
    .exact .NT (.NT x)
def SU{ks:γ κ}{k:κ}:k∈zg ks↔k∈ks:=by
 rw[zg,<-jI];simp
def AU(ks:γ κ)(k:κ):zg (ks++[k])=if k∈zg ks then zg ks else zg ks++[k]:=fE k ks []
def jJ:∀(ks b:γ κ),(aO b ks).β≤b.β+ks.β
 |[],_=>by simp[aO]
 |a::ks,b=>by
  let h:=jJ ks (if a∈b then b else b++[a]);let h2:(if a∈b then b else b++[a]).β≤b.β+1:=by
   split
   .lia
   .simp
  change (aO (if a∈b then b else b++[a]) ks).β≤_;rw[NS];lia
def nG(ks:γ κ):(zg ks).β≤ks.β:=by
 have:=jJ ks [];simpa[zg]using this
def DO{l:γ κ}{a b:κ}(c:a∈l)(h:l.M0 a=l.M0 b):a=b:=by
 let h1:l.M0 a<l.β:=M6 c;let h2:l.M0 b<l.β:=by lia
 let e:=O5 h1;let d:=O5 h2;rw[<-e,<-d];congr 1
def G8{l:γ κ}{c:κ}:∀{i:Φ},l[i]?<*c->l.M0 c≤i:=by
 induction l with
 |Op=>intro i e;simp at e
 |NX a l d=>
  intro i e;by_cases b:a=c
  .subst b;rw[γ.Xj];show Nb _
  .cases i with
   |TB=>simp at e;show MJ e b
   |Sc i=>
    let h1:=d (i:=i) (by simpa using e);let h2:(a::l).M0 c=l.M0 c+1:=by
     rw[Uu,NB.Om b];rfl
    lia
def HN(ks:γ κ):(ay ks).β=ks.β:=by simp[ay]
def HP{ks:γ κ}{i:Φ}{k:κ}(h:ks[i]?<*k):(ay ks).MI i 0=(zg ks).M0 k:=by
 rw[u6,ay,tS,h];rfl
def Lm{ks:γ κ}{x:Φ}(h:x∈ay ks):x<ks.β:=by
 let⟨k,a,ζ⟩:=O_.mp h;show Ψ (M6 (SU.Om a)) (nG ks)
def G9{ks:γ κ}{i j:Φ}{a b:κ}(c:ks[i]?<*a)(d:ks[j]?<*b):(ay ks).MI i 0=(ay ks).MI j 0↔a=b:=by
 rw[HP c,HP d];constructor
 .exact DO (SU.Om (AC c))
 .rintro ζ;rfl
def BL{l m:γ κ}{a:κ}(h:a∈l):(l++m).M0 a=l.M0 a:=by
 rw[γ.idxOf_append,Id h]
def nh{l:γ κ}{a:κ}(h:a∉l):(l++[a]).M0 a=l.β:=by
 rw[γ.idxOf_append,Ω h];simp
def oZ{q:Type}[Qw q]:∀(n:Φ)(ks:γ κ)(c:γ q),ks.β=n->c.β=n->
  (∀(i j:Φ)(a b:κ)(f x:q),ks[i]?<*a->ks[j]?<*b->c[i]?<*f->c[j]?<*x->(a=b↔f=x))->
  (zg ks).β=(zg c).β/\∀(i:Φ)(a:κ)(f:q),ks[i]?<*a->c[i]?<*f->(zg ks).M0 a=(zg c).M0 f:=by
 intro n;induction n with
 |TB=>
  intro ks c h1 h2 _;rw[PB]at h1 h2;subst h1 h2;show(1,λi a f h=>by simp at h)
 |Sc n D=>
  intro ks c h1 h2 hp;obtain⟨k,l,ζ⟩:∃k l,ks=l++[k]:=(ks.Wg (by intro z;rw[z]at h1;cases h1),ks.RO,(γ.PH _).MO);obtain⟨k',r,ζ⟩:∃k l,c=l++[k]:=(c.Wg (by intro z;rw[z]at h2;cases h2),c.RO,(γ.PH _).MO);let l1:l.β=n:=by simpa using h1
  let l2:r.β=n:=by simpa using h2
  let s:∀{w:Type}{l:γ w}{k:w}{i:Φ}{a:w},l[i]?<*a->(l++[k])[i]?<*a:=λ{w l k i a}e=>by
   rw[MY (q5 e).1];show e
  let p:(l++[k])[n]?<*k:=by rw[MW (!6),l1];simp
  let d:(r++[k'])[n]?<*k':=by rw[MW (!6),l2];simp
  let⟨A,y⟩:=D l r l1 l2 λi j a b f x m o F E=>hp i j a b f x (s m) (s o) (s F) (s E);let C:k∈zg l↔k'∈zg r:=by
   rw[SU,SU];constructor
   .intro t;let⟨i,v⟩:=NM.mp t;let g:i<r.β:=by have:=(q5 v).1;lia
    let e:=(hp i n k k r[i] k' (s v) p (s (n_ g)) d).mp ζ;rw[<-e];show Nt g
   .intro t;let⟨i,v⟩:=NM.mp t;let g:i<l.β:=by have:=(q5 v).1;lia
    let e:=(hp i n l[i] k k' k' (s (n_ g)) p (s v) d).Om ζ;rw[<-e];show Nt g
  let split:∀{i:Φ}{a:κ}{f:q},(l++[k])[i]?<*a->(r++[k'])[i]?<*f->(l[i]?=δ a/\r[i]?<*f)\/(i=n/\a=k/\f=k'):=λ{i a f}m o=>by
   by_cases v:i<n
   .rw [MY (!6)]at m o;show .NI (m,o)
   .have:i=n:=by
     have:=(q5 m).1;simp at this;lia
    subst this;rw[p]at m;rw[d]at o;show .NT (1,(ω.δ.QG m).MO,(ω.δ.QG o).MO)
  rw[AU,AU];by_cases t:k∈zg l
  .let u:=C.mp t;rw[Id t,Id u];refine(A,λi a f m o=>?_);rcases split m o with⟨m,o⟩|⟨rfl,ζ,ζ⟩
   .exact y i a f m o
   .obtain ⟨j,B⟩:=NM.mp (SU.mp t);let g:j<r.β:=by have:=(q5 B).1;lia
    let e:=(hp j i a a r[j] f (s B) p (s (n_ g)) d).mp ζ;show y j a f B (by rw[<-e];show n_ g)
  .let u:k'∉zg r:=λz=>t (C.Om z);rw[Ω t,Ω u];refine(by simp[A],λi a f m o=>?_);rcases split m o with⟨m,o⟩|⟨rfl,ζ,ζ⟩
   .rw [BL (SU.Om (AC m)),BL (SU.Om (AC o))];show y i a f m o
   .rw [nh t,nh u,A]
def IP{d:Type}[Qw d]{ks:γ κ}{c:γ d}(l:ks.β=c.β)(hp:∀(i j:Φ)(a b:κ)(k g:d),ks[i]?<*a->ks[j]?<*b->c[i]?<*k->c[j]?<*g->(a=b↔k=g)):ay ks=ay c:=by
 let⟨_,h⟩:=oZ c.β ks c l ζ hp;refine γ.Zb λi=>?_;by_cases m:i<ks.β
 .let f:ks[i]?<*ks[i]:=n_ m;let e:c[i]?<*(c[i]'(!6)):=n_ (!6);rw[ay,ay,tS,tS,f,e];show NZ δ (h i _ _ f e)
 .rw [Ph (by rw[HN];lia),Ph (by rw[HN];lia)]
end
abbrev eY(W:LL)(W5:LN)(i:Φ):Φ×LN:=(W5.MI i 0,(W.MI i []).NL λg=>W5.MI g 0,)
abbrev FK(W:LL)(W5:LN):γ (Φ×LN):=(γ.N2 W.β).NL (eY W W5)
abbrev Rd(W:LL)(B:γ MX):Φ->LN
 |0=>ay B
 |k+1=>ay (FK W (Rd W B k))
def JL(h:i<W.β):(FK W a)[i]?<*eY W a i:=by
 rw[FK,tS,O6 h];rfl
def DP(W:LL)(a:LN):(FK W a).β=W.β:=by simp[FK]
def DQ{L:LN}{W:LL}{B:γ MX}(h:g_ L W B):∀k,(Rd W B k).β=W.β
 |0=>by rw[Rd,HN,h.bl]
 |k+1=>by rw[Rd,HN,DP]
def dL(h:g_ L W B)(a:x∈Rd W B k):x<W.β:=by
 cases k with
 |TB=>rw[<-h.bl];show Lm a
 |Sc k=>rw[<-DP W (Rd W B k)];show Lm a
abbrev r_(W:LL)(B:γ MX)(k r:Φ):Φ:=(Rd W B k).MI r 0
def jk(h:g_ L W B)(d:r<W.β)(c:s<W.β):r_ W B 0 r=r_ W B 0 s↔B.MI r η=B.MI s η:=by
 let b:B[r]?<*(B[r]'(by rw[h.bl];show d)):=n_ _;let a:B[s]?<*(B[s]'(by rw[h.bl];show c)):=n_ _;rw[r_,r_,Rd,G9 b a,u6,u6,b,a];rfl
def Ea(h:g_ L W B)(a:r<W.β):(W.MI r []).β=L.β/\∀x∈W.MI r [],x<W.β:=by
 let e:W.MI r []=W[r]:=by rw[u6,n_ a];rfl
 rw[e];show h.Vt _ (Nt a)
abbrev QT(W:LL)(r i:Φ):Φ:=(W.MI r []).MI i 0
def Ev(h:g_ L W B)(a:r<W.β)(b:i<L.β):QT W r i<W.β:=by
 let⟨h1,h2⟩:=Ea h a;rw[QT,u6,n_ (!6)];show h2 _ (Nt _)
def G_(L:LN)(W:LL)(r c:Φ):Bw L W r c=QT W r (L.M0 c):=ζ
def Gg(h:g_ L W B)(b:r<W.β)(a:s<W.β):r_ W B (k+1) r=r_ W B (k+1) s↔r_ W B k r=r_ W B k s/\∀i<L.β,r_ W B k (QT W r i)=r_ W B k (QT W s i):=by
 rw[r_,r_,Rd,G9 (JL b) (JL a),eY,eY,Uj.mk.injEq];let⟨f,_⟩:=Ea h b;let⟨d,_⟩:=Ea h a;refine and_congr Iff.rfl (λe i c=>?_,λe=>γ.Zb λi=>?_)
 .have:=NZ (λl=>l[i]?) e;simp only[tS]at this;rw[n_ (!6),n_ (!6)]at this;rw[QT,QT,u6 (l:=W.MI r []),u6 (l:=W.MI s []),n_ (!6),n_ (!6)];show ω.δ.QG this
 .by_cases c:i<L.β
  .have:=e i c;rw[QT,QT,u6 (l:=W.MI r []),u6 (l:=W.MI s []),n_ (!6),n_ (!6)]at this;rw[tS,tS,n_ (!6),n_ (!6)];show NZ δ this
  .rw [tS,tS,Ph (!6),Ph (!6)]
def rG(h:g_ L W B)(f:r<W.β)(d:s<W.β):∀{j:Φ},j≤k->r_ W B k r=r_ W B k s->r_ W B j r=r_ W B j s:=by
 induction k with
 |TB=>intro j b e;rw[Φ.le_zero.mp b];show e
 |Sc k c=>
  intro j b e;by_cases a:j=k+1
  .subst a;show e
  .exact c (!6) ((Gg h f d).mp e).1
abbrev iB(n:Φ)(W5:LN):Φ:=(γ.N2 n).Zg λx=>decide (∃y,y<x/\W5.MI y 0=W5.MI x 0)
def JM{f:Type}{p q:f->MX}:∀{l:γ f},(∀x∈l,p x=ξ->q x=ξ)->(∃x∈l,q x=ξ/\p x=η)->l.Zg p<l.Zg q
 |[],_,⟨x,b,_⟩=>by simp at b
 |a::l,e,⟨x,b,g,hp⟩=>by
  let h:l.Zg p≤l.Zg q:=γ.countP_mono_left λy c=>e y (by simp[c]);rw[γ.countP_cons,γ.countP_cons];rcases MN.mp b with ζ|b
  .rw [g,hp];simp;lia
  .have:=JM (l:=l) (λy c=>e y (by simp[c])) (x,b,g,hp);let h1:=e a (!1);cases d:p a with
   |η=>simp;lia
   |ξ=>rw[h1 d];simp;omega
def iA(h:g_ L W B)(e:Rd W B (k+1)≠Rd W B k):iB W.β (Rd W B (k+1))<iB W.β (Rd W B k):=by
 refine JM (λx o hp=>?_) ?_
 .let o:=Nm.mp o;let⟨y,D,f⟩:=OU hp;show NJ (y,D,((Gg h (P9 D o) o).mp f).1)
 .refine XM.TZ λF=>e ?_;let A:∀s,s<W.β->∀r,r<s->r_ W B k r=r_ W B k s->r_ W B (k+1) r=r_ W B (k+1) s:=by
   intro s;induction s using Φ.strongRecOn with
   |_ s C=>
    intro d r g q;refine XM.TZ λp=>F (s,Nm.Om d,NJ (r,g,q),M3 ?_);rintro⟨z,hz,l⟩;let l:r_ W B (k+1) z=r_ W B (k+1) s:=l;let E:=((Gg h (P9 hz d) d).mp l).1;rcases Φ.S_ r z with c|c|c
    .exact p ((C z hz (P9 hz d) r c (q.ν E.MO)).ν l)
    .subst c;show p l
    .exact p ((C r g (P9 g d) z c (E.ν q.MO)).MO.ν l)
  let m:∀r s,r<W.β->s<W.β->(r_ W B (k+1) r=r_ W B (k+1) s↔r_ W B k r=r_ W B k s):=λr s g d=>by
   refine(λq=>((Gg h g d).mp q).1,λq=>?_);rcases Φ.S_ r s with c|c|c
   .exact A s d r c q
   .rw [c]
   .exact (A r g s c q.MO).MO
  cases k with
  |TB=>
   change ay (FK W (Rd W B 0))=ay B;refine IP (by rw[DP,h.bl]) λi j a b I H f n w v=>?_;let u:i<W.β:=by have:=(q5 f).1;rwa [DP]at this
   let t:j<W.β:=by have:=(q5 n).1;rwa [DP]at this
   rw[<-G9 f n,<-G9 w v];show m i j u t
  |Sc k=>
   change ay (FK W (Rd W B (k+1)))=ay (FK W (Rd W B k));refine IP (by rw[DP,DP]) λi j a b I H f n w v=>?_;let u:i<W.β:=by have:=(q5 f).1;rwa [DP]at this
   let t:j<W.β:=by have:=(q5 n).1;rwa [DP]at this
   rw[<-G9 f n,<-G9 w v];show m i j u t
abbrev aX(W:LL)(B:γ MX)(k r s:Φ):γ MX:=((W.MI r []).Td (W.MI s [])).NL λp=>decide (r_ W B k p.1=r_ W B k p.2)
abbrev Ra(W:LL)(B:γ MX)(k r s:Φ):Φ:=(aX W B k r s).M0 η
abbrev pw(L:LN)(W:LL)(B:γ MX):Φ->Φ->Φ->LN
 |0,_,_=>[]
 |k+1,r,s=>L.MI (Ra W B k r s) 0::pw L W B k (QT W r (Ra W B k r s)) (QT W s (Ra W B k r s))
def IQ(h:g_ L W B)(b:r<W.β)(a:s<W.β)(c:i<L.β):(aX W B k r s)[i]?<*decide (r_ W B k (QT W r i)=r_ W B k (QT W s i)):=by
 let⟨f,_⟩:=Ea h b;let⟨d,_⟩:=Ea h a;rw[aX,tS,QT,QT,u6 (l:=W.MI r []),u6 (l:=W.MI s [])];let e:((W.MI r []).Td (W.MI s []))[i]?<*((W.MI r [])[i]'(!6),(W.MI s [])[i]'(!6),):=by
  rw[Pq];show(n_ _,n_ _)
 rw[e,n_ (!6),n_ (!6)];rfl
def JN(h:g_ L W B)(b:r<W.β)(a:s<W.β):(aX W B k r s).β=L.β:=by
 let⟨d,_⟩:=Ea h b;let⟨c,_⟩:=Ea h a;rw[aX,ol,γ.length_zip];lia
def qG(h:g_ L W B)(d:r<W.β)(c:s<W.β)(l:r_ W B (k+1) r≠r_ W B (k+1) s)(n:r_ W B k r=r_ W B k s):Ra W B k r s<L.β/\r_ W B k (QT W r (Ra W B k r s))≠r_ W B k (QT W s (Ra W B k r s))/\∀i<Ra W B k r s,r_ W B k (QT W r i)=r_ W B k (QT W s i):=by
 let m:η∈aX W B k r s:=by
  refine XM.TZ λj=>l ((Gg h d c).Om (n,λi f=>XM.TZ λq=>j ?_));have:=IQ h (k:=k) d c f;rw[M3 q]at this;show AC this
 let a:Ra W B k r s<(aX W B k r s).β:=M6 m;let g:Ra W B k r s<L.β:=by rw[JN h d c]at a;show a
 refine(g,3,λi f=>?_)
 .let p:=O5 a;let b:=IQ h (k:=k) d c g;rw[n_ a]at b;let o:decide (r_ W B k (QT W r (Ra W B k r s))=r_ W B k (QT W s (Ra W B k r s)))=η:=by
   rw[<-ω.δ.QG b];show p
  show of_decide_eq_false o
 .let b:=IQ h (k:=k) d c (i:=i) (!2);refine XM.TZ λq=>?_;rw[M3 q]at b;have:(aX W B k r s).M0 η≤i:=by
   let e:=(q5 b);let⟨h1,h2⟩:=e;show G8 b
  let t:Ra W B k r s≤i:=this;lia
def d7{L:LN}{W:LL}{B:γ MX}(h:g_ L W B){k:Φ}(e:∀i<k,Rd W B (i+1)≠Rd W B i):∀j≤k,iB W.β (Rd W B j)+j≤W.β
 |0,_=>by
  have:=γ.countP_le_length (p:=λx=>decide (∃y,y<x/\(Rd W B 0).MI y 0=(Rd W B 0).MI x 0)) (l:=γ.N2 W.β);rw[OB]at this;show this
 |j+1,a=>by
  let h1:=d7 h e j (!6);let h2:=iA h (e j (!6));lia
def lY(h:g_ L W B)(e:∀i<k,Rd W B (i+1)≠Rd W B i):k≤4410000:=by
 let h1:=d7 h e k (LT _);let h2:=h.n60;lia
end RA
namespace L2
open PySem.Spec PyProof.Rows
def a'.RY(s:a' H H')(n:H a=ε):a' H (L2.MR H' a o):=λb u e=>by
 rw[a_ (e_ e n)];show s b u e
def pP{J:It}{xs:γ V}{s:TT}{t:TE}{p:St}{Q:VK}(n:υ->Φ->γ V->Hp->Prop)(hz:xs.β≤Λ)(z:∀i d,a' H d->i<xs.β->J.go i d)(w:∀i d x j,a' H d->J.X6 i d x j->j=d/\xs[i]?<*x)(v:∀d,a' H d->J.Sv xs.β d)(h0:∀D,H D=ε->n D 0 [] (MR H D (.M5 [])))(B:∀(D:υ)(i:Φ)(x:V)(ys:γ V)(H':Hp)(u:VK)(R2:Hp->Prop),H D=ε->xs[i]?<*x->a' H H'->H' D<*.M5 ys->n D i ys H'->
   (∀y h,h D<*.M5 ys->a' H (MR h D (.M5 (ys++[y])))->n D (i+1) (ys++[y]) (MR h D (.M5 (ys++[y])))->u y h)->(∀g,a' H g->g D<*.M5 ys->n D (i+1) ys g->R2 g)->
   s (δ x::p) H' λb g=>if b=ξ then t (δ x::p) g u else R2 g)(C:∀D ys H',H D=ε->a' H H'->H' D<*.M5 ys->n D xs.β ys H'->Q (.π D) H'):∀D,H D=ε->∃W:Φ->Φ->γ V->Hp->Prop,
 (∃m,W 0 m [] (MR H D (.M5 [])))/\∀i m ys d,W i m ys d->d D=δ (.M5 ys)/\((J.Sv i d/\Q (.π D) d)\/(J.go i d/\ys.β<Λ/\∀x j,J.X6 i d x j->
  s (δ x::p) j λb g=>if b=ξ then t (δ x::p) g λy h=>h D=δ (.M5 ys)/\∃o,o<m/\W (i+1) o (ys++[y]) (MR h D (.M5 (ys++[y])))
   else ∃o,o<m/\W (i+1) o ys g)):=by
 intro D q;refine(λi m ys d=>m=xs.β-i/\i≤xs.β/\ys.β≤i/\a' H d/\d D=δ (.M5 ys)/\n D i ys d,(xs.β,!1,Nb _,!1,a'.MR q,j_,h0 D q),3);rintro i m ys d⟨rfl,F,E,f,l,hp⟩;refine(l,3);by_cases k:i<xs.β
 .refine .NT (z i d f k,!6,λx j r=>?_);let⟨e,A⟩:=w i d x j f r;subst e;show B D i x ys j _ _ q A f l hp (λy h a b c=>(a,xs.β-(i+1),!6,1,k,by rw[w_];change ys.β+1≤i+1;lia,b,j_,c)) (λg a b c=>(xs.β-(i+1),!6,1,k,!6,a,b,c))
 .let e:i=xs.β:=by lia
  subst e;show .NI (v d f,C D ys d q f l hp)
section
variable{K:Frag}{tl:TE}{a:Addr}{xs:List V}{tt:TT}{te:TE}{σ:St}{H:Hp}{Q:VK}
end
def Fq(K:Nl):Po K (.MM "tuple") (.MM "tuple")=δ ξ/\Po K (.MM "list") (.MM "list")=δ ξ/\Po K (.MM "str") (.MM "str")<*ξ:=
 (by with_unfolding_all rfl,by with_unfolding_all rfl,by with_unfolding_all rfl)
def rN(K:Nl):Po K (.MM "tuple") (.MM "list")<*η:=by kernel_rfl
def lE(K:Nl):Po K (.MM "list") (.MM "tuple")<*η:=by kernel_rfl
def xq(K:Nl):Po K (.MM "int") (.MM "tuple")<*η:=by kernel_rfl
def xr(K:Nl):Po K (.MM "int") (.MM "list")<*η:=by kernel_rfl
def xt(K:Nl):Po K (.MM "bool") (.MM "tuple")<*η:=by kernel_rfl
def xu(K:Nl):Po K (.MM "bool") (.MM "list")<*η:=by kernel_rfl
def xl(K:Nl):Po K (.MM "str") (.MM "tuple")<*η:=by kernel_rfl
def xm(K:Nl):Po K (.MM "str") (.MM "list")<*η:=by kernel_rfl
def xp(K:Nl):Po K (.MM "str") (.MM "bool")<*η:=by kernel_rfl
def xn(K:Nl):Po K (.MM "str") (.MM "int")<*η:=by kernel_rfl
def jV:Dc X (.Nf "isinstance") (λxs H Q=>∃x t b,xs=[x,.ty T]/\ai X.K H x t/\Po X.K t (.MM T)=δ b/\Q (.bl b) H):=by
 intro a s c H xs us Q I r h;let⟨x,t,b,h1,h2,d,q⟩:=h;show jU (b:=b) a s c H xs us Q I r (x,t,h1,h2,d,q)
section
variable{X:Cx}{elt iter:Expr}{x:Str}{px pos:Pos}{ifs:List Expr}{sc:Scope}{wi:TI}{tt:TT}{te:TE}
def Cf(f:Su (.QB Xl [(c,Qr,Xi,(0))] sc Ng) (δ (.Nz y d)) a.SV KK=pure ξ)(h:∀p,BT M A (comprehension (.QB Xl [(c,Qr,Xi,(0))] sc Ng) sc KK p (newList []) η (OJ Qr KK) (δ (U1 (.Nz y d) KK))) (λ_ s'=>Q .next s') E s):BT M A (exec (.WM [.Nz y d] (.QB Xl [(c,Qr,Xi,(0))] sc Ng) a) KK) Q E s:=by
 let b:BT M A (evalThenUse (.QB Xl [(c,Qr,Xi,(0))] sc Ng) KK (U1 (.Nz y d) KK)) (λ_ s'=>Q .next s') E s:=
  d_ (NG (h Qr.Ng) (λ_ _ q=>j' q) λ_ _ e=>e)
 let Of:=exec_Assign_Name_used (KK:=KK) y d (.QB Xl [(c,Qr,Xi,(0))] sc Ng) a f;show Of▸d_ (PP (d_ (NG b (λ_ _ q=>j' q) λ_ _ e=>e)))
end
def sV(K:Nl)(a:(X.K=K)>>>4):Dc X (.Nf "isinstance") (λxs H Q=>∃x t b,xs=[x,.ty T]/\ai K H x t/\Po K t (.MM T)=δ b/\Q (.bl b) H):=by
 subst a;show jV
def Lk(K:Nl)(a:(X.K=K)>>>4):Dc X (.MM "tuple") (λxs H Q=>∃p ys,xs=[.π p]/\((o5 K H p ys/\∀l,H l=ε->Q (.π l) (MR H l (.No ys)))\/(u0 K H p ys/\Q (.π p) H))):=by
 subst a;show Gb
section
variable{X:Cx}{elt iter:Expr}{x:Str}{px pos:Pos}{ifs:List Expr}{sc:Scope}{wi:TI}{tt:TT}{te:TE}
end
section
variable{κ:Type}[DecidableEq κ]
abbrev aF(NP:γ (κ×V))(k:κ):ω V:=(NP.find? λkv=>decide (kv.1=k)).NL (·.2)
def iz{p:κ×V}{r:γ (κ×V)}{k:κ}(e:p.1=k):aF (p::r) k<*p.2:=by simp[aF,Qh,e]
def Bj{p:κ×V}{r:γ (κ×V)}{k:κ}(e:¬ p.1=k):aF (p::r) k=aF r k:=by simp[aF,Qh,e]
def au.MI(r:au o u)(a:ad d d'):ad (o.MI d) (u.MI d'):=by
 cases o with
 |ε=>cases u with
  |ε=>show a
  |δ _=>show(show NU from r).Nv
 |δ _=>cases u with
  |ε=>show(show NU from r).Nv
  |δ _=>show r
def KV.Zu{NP:γ (κ×V)}{vs:γ (κ×θ)}(r:KV NP vs)(k:κ):au (aF NP k) (RW vs k):=by
 unfold KV at r;induction r with
 |Op=>show Ol.Ob
 |@NX p q ps a h t c=>
  let⟨h1,h2⟩:=h;by_cases e:p.1=k
  .let e':q.1=k:=h1.MO.ν e;let b:RW (q::a) k<*q.2:=by simp[RW,Qh,e']
   rw[iz e,b];show h2
  .let e':¬ q.1=k:=λz=>e (h1.ν z);let b:RW (q::a) k=RW a k:=by simp[RW,Qh,e']
   rw[Bj e,b];show c
end
def vM(r:ad (kV k) u):(EH P w).is k u=ξ:=by
 cases k with
 |NI i=>let⟨t,e⟩:=(show ∃t,u=θ.MQ i t from r);subst e;show CK P w i t
 |NT x=>let⟨t,e⟩:=(show ∃t,u=θ.M_ x t from r);subst e;show K8 P w x t
structure j8(P:Program)(w:World)(K:Frag)(d:Addr)(kvs:List (Bu×V)):Prop where
 at_:∀h:Heap,K.In h->∃vs,KV kvs vs/\h.DictOf (EH P w) d vs
 ns:(d==sysModules)=false
section
variable{X:Cx}{d:Addr}{kvs:List (Bu×V)}
inductive JO(d:Addr)(kvs:List (Bu×V))(x:V)(y:V)(H:Hp)(Q:VK):Prop
 |mk (k v:_) (_:x=.ref d) (_:y=kV k) (_:aF kvs k<*v) (_:Q v H)
def EU(D:j8 X.Ξ X.w X.K d NP):CP X (JO d NP):=by
 intro a b f s m H x y v u Q I i g h l;let⟨k,z,ζ,ζ,j,q⟩:=h;cases i;let⟨vs,e,dd⟩:=D.at_ _ I.TX;let⟨n,hw,c⟩:=au.Vj (v:=z) (o:=RW vs k) (by rw[<-j];show e.Zu k);show WU (ops:=[.π d,u]) dd.Qz Δ.F.UB.ρ (UX (vM g) dd.Z_ hw (z,H,I.Sg _,c,q)) l
abbrev yg(d:υ)(NP:γ (Bu×V))(to:TE)(t:TA):TE:=λσ H Q=>to σ H λx H1=>x=.π d/\t σ H1 λxs H2=>∃k z,xs=[kV k,z]/\Q ((aF NP k).MI z) H2
def DS(D:j8 X.Ξ X.w X.K d NP){i b:Sn}(W:PE X o to)(Y:PA X [e,f] t)(l:(QH o "get" X.KK (OJ o X.KK)=OJ o X.KK)>>>4)(n:(((OE b (Θ [e,f] X.KK)).P' (λx=>!x.1)&&(Ve b (TH [] X.KK)).P' (λx=>x.1.Rx)
   && decide (([e,f]:γ Ro).β+([]:γ Vo).β+(if ([]:γ Vo).SE then 0 else 1)<30))=ξ)>>>4)(j:((i.Zf==b.SV)=ξ)>>>4)(U:(Θ [e,f] X.KK=(η,OJ e X.KK,)::Θ [f] X.KK)>>>4)(c:((OE b (Θ [f] X.KK)).Qk (·.1)=η)>>>4):PE X (.QE (.Ox o "get" i) [e,f] [] b) (yg d NP to t):=by
 intro g s r H Q I h;refine ZI l n j ζ (ri (W g s r H _ I h) λv J q=>?_);let⟨x,H1,B,P,Z,S⟩:=q;subst Z;cases P;let⟨vs,N,dd⟩:=D.at_ _ B.TX;let⟨T,es,ep,h1,h2,h3⟩:=id dd;refine("dict",_,Δ.F.plainAttrs_dict,Δ.F.slot_dict_get,Δ.F.type_dict_get,dd.Qz,λa e=>?_,3)
 .cases e;show(T,h1,h2.2.1)
 .let u:=Y b g J r H1 _ B S;rw[U]at u⊢;refine R_.Ue (by change (η||(OE b (Θ [f] X.KK)).Qk (·.1))=η;rw[c]<;>rfl) (R_.SY ?_);refine ri u λus s2 z=>?_;let⟨xs,H2,A,O,k,y,ζ,R⟩:=z;let⟨u1,E,ζ,M,L⟩:=b8 O;let⟨C,m,p⟩:=D.at_ _ A.TX;show call_meetsIn Δ.F.slot_dict_get p.Qz Δ.F.entry_dict_get (Δ.F.args_dict_get_3 _ _ _) (meets_dict_get_default (EH X.Ξ X.w) d (vM M) D.ns E) (_,p.Z_,(_,H2,A.Sg _,(m.Zu k).MI L,R))
end
abbrev rW(b:MX):θ->MX
 |.Pe c=>c==b
 |_=>η
def G'(h:rW b v=ξ):v=.Pe b:=by
 cases v with
 |Pe c=>rw[SR (show(c==b)=ξ from h)]
 |_=>show MJ (show η=ξ from h) MX.M9
abbrev EV(P:NC)(w:Ny):Δ.X4 P w MX where
 is:=rW
 Yp:=λb=>YH (if b then 1 else 0)
 QG:=λv a b ha hb=>by
  let e:=(G' ha).MO.ν (G' hb)
  cases e
  rfl
 Xz:=λk v h=>by rw[G' h];rfl
 UM:=λ{A E s k v Q}h q=>by
  cases G' h
  refine Δ.W.Z5 (T:="bool") ζ F.slot_bool_hash entry_int_hash (args_int_hash _) (XG _) (.NI ζ) ?_
  cases k
  .exact (show BT _ _ (do UT (<-mkInt 0)) _ _ s from d_ (UA (j' (4,q))))
  .exact (show BT _ _ (do UT (<-mkInt 1)) _ _ s from d_ (UA (j' (4,q))))
 Zd:=λ{A E s a b u v Q}ha hb q=>by
  cases G' ha
  cases G' hb
  let e:(a==b)=decide (a=b):=by cases a<;>cases b<;>rfl
  show PN.R0.Y3 a b _ _ _ _ (by rw[e];show q)
 «strs»:=λk x t v h=>MJ (show η=ξ from h) MX.M9
@[reducible]def NK:=Nat×LN
abbrev zs(ks:LN):γ ML:=ks.NL λ(n:Φ)=>(n:ML)
def fY(h:zs a=zs b):a=b:=by
 induction a generalizing b with
 |Op=>cases b with
  |Op=>rfl
  |NX y b=>cases h
 |NX x a c=>cases b with
  |Op=>cases h
  |NX y b=>
   let h:((x:ML)::zs a)=((y:ML)::zs b):=h;injection h with h1 h2;rw[c h2,ML.ofNat.QG h1]
section
variable(P:Program)(w:World)
abbrev z7(h:NR)(k:NK)(a:υ):Prop:=∃(o:Rm)(n:Φ)(t:Xp)(b:υ),h.ψ a=δ o/\o.OM=.MM "tuple"/\o.NH=.Sx #[.MQ (k.1:ML) t,.π b] n/\U3 (N3 P w) h (zs k.2) b
abbrev cY(k:NK):ML:=YH (Builtin.RP.tupleHashOf [hashInt (k.1:ML),tupleKeyHash (N3 P w) (zs k.2)])
end
section
variable{P:Program}{w:World}
def z7.QG(i:z7 P w h x a)(g:z7 P w h y a):x=y:=by
 let⟨o,n,t,b,h1,_,k,j⟩:=i;let⟨E,F,t',z,d,_,c,l⟩:=g;rw[h1]at d;cases d;rw[k]at c;injection c with v _;let u:[θ.MQ (x.1:ML) t,.π b]=[θ.MQ (y.1:ML) t',.π z]:=NZ Nq.ND v;injection u with s r;injection s with q _;injection r with p _;injection p with m;subst m;let f:=fY (j.QG l);let e:x.1=y.1:=ML.ofNat.QG q;let⟨D,C⟩:=x;let⟨B,A⟩:=y;simp only at f e;rw[f,e]
def z7.Oq{l m}(x:z7 P w h k a)(c:h.ψ d<*o)(e:o.NH=.Pv l m)(f:Pd d h h'):z7 P w h' k a:=by
 let⟨i,n,t,b,h1,h2,g,j⟩:=x;refine(i,n,t,b,(f.2 a ?_).ν h1,h2,g,j.Oq c e f);rintro ζ;rw[h1]at c;cases c;rw[g]at e;cases e
def z7.No(x:z7 P w h k a):∃t b,h.Pa a #[.MQ (k.1:ML) t,.π b]/\U3 (N3 P w) h (zs k.2) b:=by
 let⟨o,n,t,b,h1,h2,d,c⟩:=x;show(t,b,(o,h1,h2,n,d),c)
def o8(c:A.PR+1<Qj)(x:z7 P w s.ο k a)(q:Q (cY P w k) {s with MT:=s.MT+(k.2.β+3)}):BT (Cl P w) A (UM (.π a)) Q E s:=by
 let⟨o,n,t,b,h1,h2,f,d⟩:=x;refine Δ.W.Z5 (T:="tuple") (o,h1,h2) F.slot_tuple_hash F.entry_tuple_hash (F.args_tuple_hash_1 _) (XG _) (.NT (!6)) ?_;refine d_ (m:=Builtin.RP.ZK (.π a)) (wpAny_tupleItemsOf h1 f (d_ ?_));rw[<-Uw];change BT _ _ (YS [θ.MQ (k.1:ML) t,.π b] _ _) _ _ _;rw[Qg];refine d_ (d_ (wpAny_pyHash_int (d_ (j' (j' ?_)))));dsimp only;rw[Qg];refine d_ (d_ (wpAny_pyHash_tuple (VW:=N3 P w) (by change A.S0.PR<Qj;rw[N0.Ub];show c) d (d_ (j' (j' ?_)))));dsimp only;rw[SQ];refine j' ?_;refine d_ (UA (j' (4,3)));let e:s.MT+1+((zs k.2).β+1)+1=s.MT+(k.2.β+3):=by
  have:(zs k.2).β=k.2.β:=by simp[zs]
  lia
 simpa[e,cY]using q
def gg(x:U3 (N3 P w) h ks b):U3 (N3 i g) h ks b:=by
 let⟨o,c,n,h1,h2,f,d⟩:=x;refine(o,c,n,h1,h2,f,3);generalize c.ND=l at d⊢;induction d with
 |Op=>show .Op
 |NX a _ e=>show .NX a e
def uF(D:A.PR+1<Qj)(v:z7 P w s.ο x a)(r:z7 P w s.ο y b)(E:θ->MH->Prop)(Q:MX->MH->Prop)(q:Q (decide (x=y)) s):BT (Cl P w) A (Zd (.π a) (.π b)) Q E s:=by
 by_cases g:a=b
 .subst g;let e:=v.QG r;rw[NJ e]at q;show PN.R0.OP (.π a) P w E Q q
 .obtain ⟨t,c,h1,h2⟩:=v.No;let⟨u,d,H,F⟩:=r.No;let i:A.S0.PR<Qj:=by rw[N0.Ub];show D
  let f:PN.R0 A.S0 s (.π c) (.π d) (decide (zs x.2=zs y.2)):=λI B L J C=>wpAny_eqBool_tuple (VW:=N3 I B) i (gg h2) (gg F) C;let P':=PN.R0.of_refs (A:=A) g (PN.RcAt.tuples (s:=s) (e:=λj=>if j=0 then((x.1:ML)==(y.1:ML))else decide (zs x.2=zs y.2)) h1 H (!6) (λj l1 l2=>by
   match j,l1,l2 with
   |0,_,_=>show PN.R0.ZX _ t _ u
   |1,_,_=>show f
   | n+2,l1,_=>show MJ l1 (by change ¬ (n+2<2);lia)))
  refine P' P w E Q ?_;let e:((γ.N2 (min (#[θ.MQ (x.1:ML) t,.π c]:Nq θ).MV (#[θ.MQ (y.1:ML) u,.π d]:Nq θ).MV)).P' (λj=>if j=0 then((x.1:ML)==(y.1:ML))else decide (zs x.2=zs y.2))&&(#[θ.MQ (x.1:ML) t,.π c]:Nq θ).MV==(#[θ.MQ (y.1:ML) u,.π d]:Nq θ).MV)=decide (x=y):=by
   change (((x.1:ML)==(y.1:ML))&&(decide (zs x.2=zs y.2)&&ξ)&&ξ)=_;let⟨p,o⟩:=x;let⟨m,l⟩:=y;by_cases h:p=m
   .by_cases k:o=l
    .subst h k;simp
    .have:zs o≠zs l:=λz=>k (fY z);simp[h,k,this]
   .have:¬ ((p:ML)=(m:ML)):=λz=>h (ML.ofNat.QG z);simp[h,this]
  rw[e];show q
def IR(x:s.ο.Pa a b)(g:∀v∈b.ND,∀(R:MX->MH->Prop),R ξ s->BT (Cl P w) A (XC n v) R E s)(q:Q ξ s):BT (Cl P w) A (XC (n+1) (.π a)) Q E s:=by
 let⟨o,h1,h2,m,h⟩:=x;let d:s.Sa (.π a) "tuple":=(o,h1,h2);unfold XC;refine d_ (U7 d F.slot_tuple_eq.ρ (d_ (m:=YQ (.π a) (.MM "tuple")) (So d isSubtype_tuple_tuple ?_)));simp only[MX.not_true,MX.US,Uc];refine d_ (O4 h1 h (d_ ?_));change BT _ _ (YS b _ _) _ _ _;rw[<-Uw];refine wpAny_forIn_list _ (λRr r s'=>r.1=ε/\s'=s/\∀v∈Rr,v∈b.ND) _ ?_ ?_ _ _ (5,λv e=>e)
 .rintro v Rr r s'⟨c,ζ,P'⟩;refine d_ (g v (P' v N5) _ ?_);simp only[MX.not_true,MX.US,Uc];show j' (5,λu f=>P' u (M1 _ f))
 .rintro⟨j,i⟩s'⟨c,ζ,_⟩;simp only at c;subst c;show j' q
def lq(x:z7 P w s.ο k a)(q:Q ξ s):BT (Cl P w) A (XC 8 (.π a)) Q E s:=by
 let⟨t,b,h1,h2⟩:=x.No;refine IR (n:=7) h1 (λv c R r=>?_) q;let c:v∈[θ.MQ (k.1:ML) t,.π b]:=c;rcases MN.mp c with ζ|c
 .rw [UI _ ζ];show j' r
 .rw [Ay c];let⟨o,d,n,h,g,f,e⟩:=h2;refine IR (n:=6) (o,h,g,n,f) (λv c R r=>?_) r;rw[UI _ (e.Xz v c)];show j' r
end
abbrev rq(P:NC)(w:Ny):HeapKind P w NK where
 is:=z7 P w
 Yp:=cY P w
 draws:=λk=>k.2.β+3
 Yk:=λA=>A.PR+1<Qj
 QG:=λa b=>a.QG b
 Oq:=λx ho hd hs=>x.Oq ho hd hs
 UM:=λhu hk h=>o8 hu hk h
 Zd:=λhu hx hy h=>uF hu hx hy _ _ h
 Yy:=λhk h=>lq hk h
section
variable{X:Cx}{elt iter:Expr}{x y:Str}{px py pt pos:Pos}{kt:Nat}{sc:Scope}{wi:TI}{te:TE}
abbrev kC(K:Nl)(wi:TI)(te:TE):TE:=λσ H Q=>wi σ H λJ H1=>∀D,H1 D=ε->∃W:Φ->Φ->γ V->Hp->Prop,
 (∃m,W 0 m [] (MR H1 D (.M5 [])))/\∀i m ys H2,W i m ys H2->H2 D=δ (.M5 ys)/\((J.Sv i H2/\Q (.π D) H2)\/(J.go i H2/\ys.β<Λ/\∀x H3,J.X6 i H2 x H3->
  ∃p a b,x=.π p/\u0 K H3 p [a,b]/\te (δ a::δ b::σ) H3 λy H5=>H5 D=δ (.M5 ys)/\∃m',m'<m/\W (i+1) m' (ys++[y]) (MR H5 D (.M5 (ys++[y])))))
end
section
variable{prog:Program}{w:World}{A:Around}{E:Value->Shared->Prop}{s:Shared}{it t:Addr}{i:Nat}{items:Array Value}
def ll(a:s.ο.Rn it t i)(g:s.ο.Pa t Y1)(f:Y1[i]?<*x)(j:∀h',h'.Rn it t (i+1)->Pd it s.ο h'->Q x {s with ο:=h'}):BT (Cl Ξ w) A (Builtin.O0.UN (.π it)) Q E s:=by
 let⟨o,c,h,b⟩:=id a;let⟨k,d,_,l,e⟩:=g;unfold Builtin.O0.UN;refine d_ (OR (OD:=M'.Nd "__next__") a.Qz F.R6 (Oe F.R6 a.Qz F.Yf ?_ (F.YZ _)));refine d_ (m:=field (.π it) 0) (NO c b (x:=.π t) ζ (OG ζ (d_ (m:=field (.π it) 1) (NO c b (x:=.MQ i 0) ζ (d_ (m:=seqItems? (.π t)) (O4 d e ?_))))));simp only[ML.V0,f];refine d_ (QL c b (!1) (j' (x,1,j' (j _ (_,N1 _ c (PU (OS b _)),(Rm.Ys ..).ν h,3) (Pd.Oy ..)))));rw[OS b];simp[Nw]
def o6(h:A.PL=ε)(b:s.ο.Rn it t i)(k:s.ο.Pa t Y1)(j:Y1[i]?=ε)(l:∀h' e,NR.ExtBut it s.ο h'->(∃o,h'.ψ e=δ o/\o.OM=.MM "StopIteration")->E (.π e) {s with ο:=h'}):BT (Cl Ξ w) A (Builtin.O0.UN (.π it)) Q E s:=by
 let⟨o,d,q,g⟩:=id b;let⟨n,c,_,p,f⟩:=k;unfold Builtin.O0.UN;refine d_ (OR (OD:=M'.Nd "__next__") b.Qz F.R6 (Oe F.R6 b.Qz F.Yf ?_ (F.YZ _)));refine d_ (m:=field (.π it) 0) (NO d g (x:=.π t) ζ (OG ζ (d_ (m:=field (.π it) 1) (NO d g (x:=.MQ i 0) ζ (d_ (m:=seqItems? (.π t)) (O4 c f ?_))))));simp only[ML.V0,j];refine d_ (WE (d_ (QL d g (!1) (d_ (m:=newExc (.MM "StopIteration") []) ?_))));simp only[newExc,newTuple];refine d_ (Oh (d_ (m:=Va _ _) (RZ (a:=θ.ε) (by first|rfl|(simp only[Va];rfl)) (Oh ?_ (by size_fits)))) (by size_fits));simp only[Z3];refine d_ (Yh ?_);first|rw[show A.S0.PL=ε from h]|rw[h]
 show d_ (j' (VH (l _ _ (((Pd.Oy ..).S3.Ni _).Ni _) (_,MS _ ζ,1))))
end
def Wo.Oq{h h':NR}(x:h.Pa t a)(k:∀o,h.ψ t<*o->h'.ψ t<*o):h'.Pa t a:=let⟨o,e,r⟩:=x;(o,k o e,r)
def dE(k:A.PL=ε)(it t:υ)(d:t≠it)(a:Nq θ):TQ Ξ w A it [it,t] a.MV (λi v=>a[i]?<*v) (λi h=>h.Rn it t i/\h.Pa t a)  where
 live:=λ_ _ st=>let⟨o,j,_⟩:=st.1;(o,j)
 RN:=λ_ _ _ st f=>(st.1.at λo e=>f it (!1) o e,Wo.Oq st.2 λo e=>f t (!1) o e)
 Ut:=λi s Q E g st l=>ll st.1 st.2 (x:=a[i]) (by simp[g]) λh' c b=>l _ h' s.MT (by simp[g]) (c,Wo.Oq st.2 λo e=>(b.2 t d).ν e) b
 done:=λs Q E st m=>o6 k st.1 st.2 (!1) m
def oo:isSubtype (.MM "enumerate") (.MM "enumerate")=pure ξ:=by rw[VX];kernel_rfl
set_option maxHeartbeats 1000000 in
def ji(l:υ)(a:Nq θ)(n:Φ)(e:ω υ)(i:Nq (ω θ)):Meets (Builtin.«enumerate.__new__» ([.MM "enumerate",.π l],[])) (λ_ R s=>s.ο.ψ l=δ {OM:=.MM "tuple",Pv:=e,NH:=.Sx a n,Rw:=i}/\
   R (.ok (.UT (.π (s.ο.Ni {OM:=.MM "tuple_iterator",NH:=.N_ #[.π l,.MQ 0 0]}).Np.MV)))
    {s with ο:=(s.ο.Ni {OM:=.MM "tuple_iterator",NH:=.N_ #[.π l,.MQ 0 0]}).Ni {OM:=.MM "enumerate",NH:=.N_ #[.ε,.Pe η,.π s⁻¹,Nw 0,.ε,.ε]} }):=
 .of_wp λΞ w A R s h=>by
  let⟨hp,g,d,k,os⟩:=s;let⟨j,h⟩:=h;let f:=oo;let b:hp.Pa l a:=(_,j,1,n,1)
  wp_walk using Qy b
  refine wpAny_stack_any λst=>j' ?_;split
  .rename_i c _ _ _ _ _;cases(c==θ.MM "enumerate")<;>(wp_walk using Qy b;show(0,h))
  .wp_walk using Qy b
   show(0,h)
def mo(p:s.ο.Pa l a)(h:∀h',IsEnum h' (s⁻¹+1) s⁻¹ 0 .ε->h'.Rn s⁻¹ l 0->(∀b o,s.ο.ψ b<*o->h'.ψ b<*o)->Q (.π (s⁻¹+1)) {s with ο:=h'}):BT (Cl Ξ w) A (Ql (.MM "enumerate") [.π l]) Q E s:=by
 let⟨⟨c,f,r,k⟩,m,j,n,i⟩:=p;simp only at j i;subst j i;refine callType_new F.called_enumerate (!0) (F.typeCall_enumerate_1 _) (F.newCall_enumerate_1 _) (λd=>F.args_object_init_2 d _) F.entry_enumerate_new (ji l a n f k) (m,3);generalize e:s.ο.Ni {OM:=.MM "tuple_iterator",NH:=.N_ #[.π l,.MQ 0 0]}=G;let hz:G.Np.MV=s⁻¹+1:=by rw[<-e];show Pb ..
 let g:IsEnum (G.Ni {OM:=.MM "enumerate",NH:=.N_ #[.ε,.Pe η,.π s⁻¹,Nw 0,.ε,.ε]}) (s⁻¹+1) s⁻¹ 0 .ε:=by
  let q:=MS G (o:={OM:=.MM "enumerate",NH:=.N_ #[.ε,.Pe η,.π s⁻¹,Nw 0,.ε,.ε]}) ζ;rw[hz]at q;show q
 change _/\_;rw[hz];show((_,g,1),h _ g (_,sy _ (by rw[<-e];show MS _ ζ),5) λb o x=>sy _ (by rw[<-e];show sy _ x))
abbrev vB(a:υ):It:=⟨λi H=>∃xs x,H a=δ (.No xs)/\xs[i]?<*x,λi H v H'=>∃p x xs,H a=δ (.No xs)/\xs[i]?=δ x/\v=.π p/\H p=ε/\H'=MR H p (.No [.MQ (i:ML),x]),λi H=>∃xs,H a=δ (.No xs)/\i=xs.β⟩
def ko{K:Nl}(a e it:υ)(r:e≠it):dI P w K (.RP es kt pt) (vB a) [e,it] e (λi h=>(∃f,IsEnum h e it i f)/\h.Rn it a i)  where
 mem:=by simp
 Ua:=λi h Z c C=>by
  let⟨⟨f,j⟩,⟨M,m,_,d1⟩⟩:=Z;simp only[MN,NW,N9]at C;rcases C with ζ|rfl
  .exact (_,j,λv q=>by cases q)
  .exact (M,m,λv q=>by rw[d1]at q;cases q)
 P_:=λi h h' ab k=>by let⟨⟨f,j⟩,⟨M,m,r1⟩⟩:=ab;show((f,k e (!1) _ j),(M,k it (!1) _ m,r1))
 Ut:=by
  rintro X hP hw hK C i D s σ H E I O⟨⟨f,j⟩,y⟩hg;subst hP hw hK;let⟨xs,x,N,hx⟩:=hg;let⟨d,T,p,hz⟩:=I.Px (u0.of N);let⟨u,hu,ru⟩:=T.VE hx;let B:s.ο.Pa a d.χ:=p;let W:i<d.χ.MV:=by
   have:=(q5 hu).1;simpa using this
  let t:a≠it:=by
   let⟨o,m,c1,_⟩:=B;let⟨o2,J,L,_⟩:=y;rintro ζ;rw[m]at J;cases J;rw[c1]at L;show MJ L (!0)
  let Y:e≠a:=by
   let⟨o,m,c1,_⟩:=B;rintro ζ;let F:s.ο.ψ e<*_:=j;rw[m]at F;cases F;show MJ (show θ.MM "enumerate"=θ.MM "tuple" from c1) (!0)
  refine UW (dE (A:=X.A.S0) (I.ok.hd C) it a t d.χ) j (y,B) W r (by simp[r,Y]) λv g R pv ho st U V6 gk=>(0,3);let ev:v=u:=by
   have:d.χ[i]?<*v:=pv;rw[QI,hu]at this;show(ω.δ.QG this).MO
  subst ev;refine Tr (s:={s with ο:=g,MT:=R+1}) ho λg' ge gs=>?_;let Q:∀b o,b≠e->g.ψ b<*o->g'.ψ b<*o:=λb o l q=>(gs.2 b l).ν q;let ne:s⁻¹≠e:=Qc (lt_size j);let No:Az X.Ξ X.w (MR H s⁻¹ (.No [.MQ (i:ML),x])) g' s⁻¹ (.No [.MQ (i:ML),x]):=
   (sT (by change 2≤16777216;decide),[.MQ i R,v],.NX (_,ζ) (.NX ru .Op),(_,Q _ _ ne U,1,(0),1))
  refine(.π s⁻¹,_,I.Wu (S:=[e,it]) (h':=g') (t':=R+1) (λb o l q=>Q b o (λz=>l (by simp[z])) (gk b o (λz=>l (by simp[z])) (λz=>l (by simp[z])) q)) O No,1,
   (_,x,xs,N,hx,1,I.Oc.OF (LT _),1),((_,by rw[ML.ZU];show ge),st.1.at λo q=>Q _ o (λz=>r z.MO) q),λb l=>?_)
  let lt:b<s⁻¹:=by
   let⟨M,m,_⟩:=y;simp only[MN,NW,N9]at l;rcases l with ζ|rfl
   .exact lt_size j
   .exact lt_size m
  rw[a_ (M8 lt)];show(O b l).1
 done:=by
  rintro X hP hw hK C i D s σ H E I O⟨⟨f,j⟩,y⟩n;subst hP hw hK;let⟨xs,N,ζ⟩:=n;let⟨d,T,p,hz⟩:=I.Px (u0.of N);let B:s.ο.Pa a d.χ:=p;let t:a≠it:=by
   let⟨o,m,c1,_⟩:=B;let⟨o2,J,L,_⟩:=y;rintro ζ;rw[m]at J;cases J;rw[c1]at L;show MJ L (!0)
  let V6:xs.β=d.χ.MV:=by rw[T.β];simp
  refine Ul (dE (A:=X.A.S0) (I.ok.hd C) it a t d.χ) j (by rw[<-V6];show y,B) λg gs=>(1,3);show I.ZJ (S:=[e,it]) (λb o l q=>gs b o (λz=>l (by simp[z])) q) O
 Yj:=λ_ _ _ _ _ st h=>by
  let⟨⟨f,j⟩,_⟩:=st;show RU j h
section
variable{X:Cx}{elt iter:Expr}{x:Str}{px pos:Pos}{ifs:List Expr}{sc:Scope}{wi:TI}{tt:TT}{te:TE}
end
structure EW(P:Program)(w:World)(κ:Type)[DecidableEq κ] where
 knd:HeapKind P w κ
 kin:Hp->κ->Addr->Prop
 ok:∀{H:Hp}{h:Heap}{k:κ}{a:Addr},kin H k a->Au P w H h->knd.is h k a
 room:∀{A:Around},A.units+64<cLine->knd.room A.in1/\knd.room A
 stay:∀{H H':Hp}{k:κ}{a:Addr},(∀b xs,H b<*.tup xs->H' b<*.tup xs)->kin H k a->kin H' k a
abbrev FL(H:Hp)(k:γ ML)(a:υ):Prop:=H a<*.No (k.NL V.MQ)
abbrev Fs(H:Hp)(k:NK)(a:υ):Prop:=∃b,H a=δ (.No [.MQ (k.1:ML),.π b])/\H b<*.No ((zs k.2).NL V.MQ)
def Y0{P:NC}{w:Ny}:∀{ks:γ ML}{us:γ θ},ae (ks.NL V.MQ) us->ItemsAre (N3 P w) ks us
 |[],_,r=>by rw[γ.map_nil]at r;cases r;show .Op
 |k::ks,_,r=>by
  rw[Qp]at r;cases r with
  |NX h t=>
   let⟨u,ζ⟩:=(show ∃t,_=θ.MQ k t from h);show .NX (by change θ.YO k (.MQ k u)=ξ;simp[θ.YO]) (Y0 t)
def kx(e:FL H k a)(ok:Au P w H h):U3 (N3 P w) h k a:=by
 let⟨_,b,r,o,h1,h2,n,c⟩:=(show Az P w H h a (.No (k.NL V.MQ))from ok a _ e);show(o,b.χ,n,h1,h2,c,by simpa using Y0 r)
abbrev Ft(P:NC)(w:Ny):EW P w (γ ML) where
 VW:=tupleKind (N3 P w)
 Vv:=FL
 ok:=λe ok=>kx e ok
 Yk:=λ{A}hu=>(by change A.S0.PR<Qj;rw[N0.Ub];lia,by change A.PR<Qj;lia)
 ST:=λs e=>s _ _ e
abbrev Ew(P:NC)(w:Ny):EW P w NK where
 VW:=rq P w
 Vv:=Fs
 ok:=λ{H h k a}e ok=>by
  let⟨b,e1,e2⟩:=e
  let⟨_,Zm,r,o,h1,h2,n,h3⟩:=(show Az P w H h a (.No [.MQ (k.1:ML),.π b])from ok a _ e1)
  let⟨u1,u2,ζ,r1,r2⟩:=b8 r
  let⟨t,ζ⟩:=(show ∃t,u1=θ.MQ (k.1:ML) t from r1)
  cases(show u2=θ.π b from r2)
  show(o,n,t,b,h1,h2,h3,kx e2 ok)
 Yk:=λ{A}hu=>(by change A.S0.PR+1<Qj;rw[N0.Ub];lia,by change A.PR+1<Qj;lia)
 ST:=λs hZ1=>by let⟨b,e1,e2⟩:=hZ1;show(b,s _ _ e1,s _ _ e2)
abbrev B3{P:NC}{w:Ny}{κ:Type}[Qw κ](VW:Δ.X4 P w κ)(d:υ)(NP:γ (κ×V)):HO:=.ext λh=>(d==Oo)=η/\NP.β≤Λ/\∃vs,KV NP vs/\h.Ye VW d vs
instance Hb(κ:Type):(κ×υ×V)->(κ×υ×θ)->Prop:=λp q=>p.1=q.1/\p.2.1=q.2.1/\ad p.2.2 q.2.2
abbrev Bx{P:NC}{w:Ny}{κ:Type}[Qw κ](D:EW P w κ)(d:υ)(NP:γ (κ×υ×V)):HO:=.ext λh=>(d==Oo)=η/\NP.β≤Λ/\∃xs,Rl (Hb κ) NP xs/\
 ∃o es ep,h.ψ d=δ o/\o.ZB/\o.NH=.Pv es ep/\es.ND=xs.NL (entryOfKey D.VW)/\(xs.NL (·.1)).Nx
section
variable{P:Program}{w:World}{κ:Type}[DecidableEq κ]
def BS{VW:Δ.X4 P w κ}{H:Hp}{h:NR}{d:υ}{NP:γ (κ×V)}{vs:γ (κ×θ)}(ns:(d==Oo)=η)(c:NP.β≤Λ)(r:KV NP vs)(dd:h.Ye VW d vs):Az P w H h d (B3 VW d NP):=by
 refine((ns,c,vs,r,dd),let⟨o,_,_,e,_⟩:=dd;(o,e),λh1 h2 a b=>?_);let⟨j,i,vs,r,o,f,g,e,q⟩:=a;show(j,i,vs,r,o,f,g,b o e,q)
def fb{D:EW P w κ}{H:Hp}{h:NR}{d:υ}{NP:γ (κ×υ×V)}{xs:γ (κ×υ×θ)}(ns:(d==Oo)=η)(l:NP.β≤Λ)(r:Rl (Hb κ) NP xs)(dd:h.Vq D.VW d xs):Az P w H h d (Bx D d NP):=by
 let⟨o,c,f,e,k,j,i,_,g⟩:=dd;refine((ns,l,xs,r,o,c,f,e,k,j,i,g),(o,e),λh1 h2 a b=>?_);let⟨n,m,vs,r,o,c,f,e,q⟩:=a;show(n,m,vs,r,o,c,f,b o e,q)
def Ex{VW:Δ.X4 P w κ}{H:Hp}{h:NR}{d:υ}{NP:γ (κ×V)}(ok:Au P w H h)(e:H d<*B3 VW d NP):(d==Oo)=η/\NP.β≤Λ/\∃vs,KV NP vs/\h.Ye VW d vs:=(ok d _ e).1
def dr{D:EW P w κ}{H:Hp}{h:NR}{d:υ}{NP:γ (κ×υ×V)}(ok:Au P w H h)(e:H d<*Bx D d NP)(f:∀x∈NP,D.Vv H x.1 x.2.1):(d==Oo)=η/\NP.β≤Λ/\∃xs,Rl (Hb κ) NP xs/\h.Vq D.VW d xs:=by
 let⟨u,g,xs,r,o,m,n,s,j,i,c,b⟩:=(ok d _ e).1;refine(u,g,xs,r,o,m,n,s,j,i,c,3,b);clear c b e g;induction r with
 |Op=>intro x a;simp at a
 |@NX p q ps v h t k=>
  intro x a;rcases MN.mp a with ζ|a
  .have:=D.ok (f p (!1)) ok;rw[<-h.1,<-h.2.1];show this
  .exact k (λy l=>f y (by simp[l])) x a
abbrev aE(NP:γ (κ×υ×V))(k:κ):ω V:=(NP.find? λx=>decide (x.1=k)).NL (·.2.2)
def lJ{NP:γ (κ×υ×V)}{xs:γ (κ×υ×θ)}(r:Rl (Hb κ) NP xs)(k:κ):au (aE NP k) ((Y8 xs k).NL (·.2)):=by
 induction r with
 |Op=>show Ol.Ob
 |@NX p q ps a h t d=>
  by_cases e:p.1=k
  .let e':q.1=k:=h.1.MO.ν e;let c:aE (p::ps) k<*p.2.2:=by simp[aE,Qh,e]
   let b:Y8 (q::a) k<*q.2:=by simp[Y8,Qh,e']
   rw[c,b];show h.2.2
  .let e':¬ q.1=k:=λz=>e (h.1.ν z);let c:aE (p::ps) k=aE ps k:=by simp[aE,Qh,e]
   let b:Y8 (q::a) k=Y8 a k:=by simp[Y8,Qh,e']
   rw[c,b];show d
def gG{d c:Type}{F:d->c->Prop}{a:d}{b:c}(h:F a b):∀{l:γ d}{m:γ c},Rl F l m->Rl F (l++[a]) (m++[b])
 |_,_,.Op=>.NX h .Op
 |_,_,.NX r t=>.NX r (gG h t)
def JP(r:au o u):o.Rx=u.Rx:=by
 cases o<;>cases u<;>first|rfl|show(show NU from r).Nv
end
section
variable{X:Cx}{pins:List (Addr×Obj)}{σ:St}{H:Hp}{s:Shared}{d:Addr}
def f'.bigS(I:f' X MZ σ H s):Oo<s⁻¹:=by
 let h:LE<s⁻¹:=(I.VT.Wf.Oq I.bk).lt;show P9 (!0) h
abbrev vC(P:NC)(w:Ny)(H:Hp)(d:υ)(y:V)(r:ω V):Prop:=
 (∃NP k,H d=δ (B3 (EV P w) d NP)/\y=.bl k/\r=aF NP k) \/
 (∃NP k b,H d=δ (Bx (Ew P w) d NP)/\(∀x∈NP,Fs H x.1 x.2.1)/\y=.π b/\Fs H k b/\r=aE NP k) \/
 ∃NP k b,H d=δ (Bx (Ft P w) d NP)/\(∀x∈NP,FL H x.1 x.2.1)/\y=.π b/\FL H k b/\r=aE NP k
abbrev zH(P:NC)(w:Ny)(H:Hp)(d:υ)(y v:V)(H':Hp):Prop:=
 (∃NP k,H d=δ (B3 (EV P w) d NP)/\y=.bl k/\aF NP k=ε/\NP.β<Λ/\H'=MR H d (B3 (EV P w) d (NP++[(k,v,)]))) \/
 (∃NP k b,H d=δ (Bx (Ew P w) d NP)/\(∀x∈NP,Fs H x.1 x.2.1)/\y=.π b/\Fs H k b/\aE NP k=ε/\NP.β<Λ/\H'=MR H d (Bx (Ew P w) d (NP++[(k,b,v,)]))) \/
 ∃NP k b,H d=δ (Bx (Ft P w) d NP)/\(∀x∈NP,FL H x.1 x.2.1)/\y=.π b/\FL H k b/\aE NP k=ε/\NP.β<Λ/\H'=MR H d (Bx (Ft P w) d (NP++[(k,b,v,)]))
abbrev zI(P:NC)(w:Ny)(H:Hp)(d:υ)(n:Φ):Prop:=
 (∃NP,H d=δ (B3 (EV P w) d NP)/\n=NP.β)\/∃NP,H d=δ (Bx (Ew P w) d NP)/\n=NP.β
def sg{a:Type}[Qw a]{D:EW X.Ξ X.w a}{NP:γ (a×υ×V)}{k:a}{b:υ}{v:V}{A:N0}{E:θ->MH->Prop}{Q:θ->MH->Prop}(m:A.PR+64<Qj)(I:f' X MZ σ H s)(e:H d<*Bx D d NP)(n:∀x∈NP,D.Vv H x.1 x.2.1)(j:D.Vv H k b)(l:δ v=aE NP k)(h:∀c s',f' X MZ σ H s'->ad v c->Q c s'):BT (Cl X.Ξ X.w) A (Xy (.π d) (.π b)) Q E s:=by
 let⟨_,_,xs,g,dd⟩:=dr I.Oc e n;let⟨c,hw,f⟩:=au.Vj (v:=v) (o:=(Y8 xs k).NL (·.2)) (by rw[l];show lJ g k);let⟨p,hp,i⟩:=BG hw;refine wpAny_getItem_heap (D.Yk m).1 (D.ok j I.Oc) dd hp ?_;rw[i];show h c _ (I.Sg _) f
def gY{a:Type}[Qw a]{D:EW X.Ξ X.w a}{NP:γ (a×υ×V)}{k:a}{b:υ}{A:N0}{E:θ->MH->Prop}{Q:θ->MH->Prop}(g:A.PR+64<Qj)(I:f' X MZ σ H s)(e:H d<*Bx D d NP)(i:∀x∈NP,D.Vv H x.1 x.2.1)(f:D.Vv H k b)(h:∀s',f' X MZ σ H s'->Q (.Pe (!(aE NP k).Rx)) s'):BT (Cl X.Ξ X.w) A (O3 .NotIn (.π b) (.π d)) Q E s:=by
 let⟨ns,_,xs,c,dd⟩:=dr I.Oc e i;refine wpAny_notIn_heap (D.Yk g).1 (D.ok f I.Oc) ns dd ?_;let q:=JP (lJ c k);rw[ω.isSome_map]at q;rw[<-q];show h _ (I.Sg _)
def HQ(I:f' X MZ σ H s)(mu:HD (H d))(f:Pd d s.ο h')(g:∃q,h'.ψ d<*q)(a:Az X.Ξ X.w (MR H d c) h' d c):f' X MZ σ (MR H d c) {s with ο:=h',MT:=t'}:=
 I.WQ (x:=d) (e:=d) mu (.NI ζ) (λb q h z=>(f.2 b h).ν z) g a
def vO{a:Type}[Qw a]{D:EW X.Ξ X.w a}{NP:γ (a×υ×V)}{xs:γ (a×υ×θ)}{k:a}{b:υ}{v:V}{r:θ}{h':NR}{t':Φ}(I:f' X MZ σ H s)(e:H d<*Bx D d NP)(ns:(d==Oo)=η)(i:NP.β<Λ)(c:Rl (Hb a) NP xs)(h:aE NP k=ε)(f:ad v r)(dd:h'.Vq D.VW d (storedH xs k b r))(g:Pd d s.ο h'):f' X MZ σ (MR H d (Bx D d (NP++[(k,b,v,)]))) {s with ο:=h',MT:=t'}:=by
 let q:=au.UD (show au ε ((Y8 xs k).NL (·.2)) by rw[<-h];show lJ c k);rw[storedH_new (ω.map_eq_none_iff.mp q)]at dd;show HQ I (by rw[e];show Ol.Ob) g (let⟨o,_,_,q,_⟩:=dd;(o,q)) (fb ns (by rw[w_];show i) (gG (F:=Hb a) (5,f) c) dd)
def sf{c:Type}[Qw c]{D:EW X.Ξ X.w c}{NP:γ (c×υ×V)}{k:c}{b:υ}{v:V}{r:θ}{A:N0}{E:θ->MH->Prop}{Q:Unit->MH->Prop}(j:A.PR+64<Qj)(I:f' X MZ σ H s)(e:H d<*Bx D d NP)(o:∀x∈NP,D.Vv H x.1 x.2.1)(i:D.Vv H k b)(m:aE NP k=ε)(n:NP.β<Λ)(g:ad v r)(h:∀s',f' X MZ σ (MR H d (Bx D d (NP++[(k,b,v,)]))) s'->Q () s'):BT (Cl X.Ξ X.w) A (setItem (.π d) (.π b) r) Q E s:=by
 let⟨ns,hz,xs,a,dd⟩:=dr I.Oc e o;show wpAny_setItem_heap (V6:=by rw[<-Rl.β a];show hz) (D.Yk j).1 (D.ok i I.Oc) dd λh' f l=>h _ (vO I e ns n a m g f l)
def bR{NP:γ (a×V)}{vs:γ (a×θ)}{k:a}(b:KV NP vs)(c:ad v r):KV (NP++[(k,v,)]) (vs++[(k,r,)]):=gG (F:=λ(p:a×V)(q:a×θ)=>p.1=q.1/\ad p.2 q.2) (1,c) b
def IS{a:Type}[Qw a]{vs:γ (a×θ)}{k:a}{r:θ}(h:RW vs k=ε):stored vs k r=vs++[(k,r,)]:=by
 unfold stored;rw[Ω];intro q;rw[Vf]at q;let⟨x,b,e⟩:=q;unfold RW at h;rw[ω.map_eq_none_iff,γ.find?_eq_none]at h;show h x b e
def m7(ns:(d==Oo)=η)(b:s.ο.ψ d<*o)(f:o.ZB)(e:o.NH=.Pv a i)(hz:a.MV≤Λ)(h:∀t t',Q (.MQ (a.MV:Φ) t) {s with MT:=t'}):BT (Cl X.Ξ X.w) A (Ql (.Nf "len") [.π d]) Q E s:=by
 let c:s.Sa (.π d) "dict":=(o,b,f.1);let g:(a.MV:ML)<2^63:=by rw[OO]at hz;lia
 refine R_.call_function_entry kind_len plain_len entry_len (args_len1 _) ?_;unfold Builtin.«len»;refine d_ (m:=oneArg "len" _) (j' (d_ (m:=callSpecial? (.π d) (M'.Nd "__len__")) (OR (OD:=M'.Nd "__len__") c F.slot_dict_len (Oe F.slot_dict_len c F.entry_dict_len ?_ (F.args_dict_len_1 _)))));refine d_ (m:=dictSize d) ?_;unfold dictSize;refine d_ (wpAny_dictEntries b e (j' (d_ (m:=Builtin.Dict.pendingCount d) (wpAny_pendingCount_other ns (d_ (UA (j' (0,d_ (NQ (j' (d_ (VJ ?_))))))))))));refine OG (!1) (OG (by simp;lia) (d_ (UA (j' (0,3)))));simpa using h _ _
end
section
variable{X:Cx}
inductive ug(P:Program)(w:World)(x:V)(y:V)(H:Hp)(Q:VK):Prop
 |mk (d o:_) (_:y=.ref d) (_:vC P w H d x o) (_:Q (.bl (!o.isSome)) H)
def oP(m:X.A.PR+64<Qj):AQ X (O3 .NotIn) (ug X.Ξ X.w):=by
 intro l s p H x y v u Q I a n h;let⟨d,o,ζ,g,q⟩:=h;cases n;rcases g with⟨NP,k,e,ζ,ζ⟩|⟨NP,k,b,e,i,ζ,f,ζ⟩|⟨NP,k,b,e,i,ζ,f,ζ⟩
 .cases a;let⟨ns,_,vs,c,dd⟩:=Ex I.Oc e;refine wpAny_notIn_of (VW:=EV X.Ξ X.w) (k:=k) (show rW k (.Pe k)=ξ by cases k<;>rfl) ns dd.Z_ ?_;rw[<-JP (c.Zu k)];show(.bl _,H,I.Sg _,1,q)
 .cases a;show gY (D:=Ew X.Ξ X.w) m I e i f λs' j=>(.bl _,H,j,1,q)
 .cases a;show gY (D:=Ft X.Ξ X.w) m I e i f λs' j=>(.bl _,H,j,1,q)
def vf{f:St}(I:f' X c f H s)(g:vC X.Ξ X.w H d y o):s.Sa (.π d) "dict":=by
 rcases g with⟨NP,k,e,_⟩|⟨NP,k,b,e,a,_⟩|⟨NP,k,b,e,a,_⟩
 .obtain ⟨_,_,vs,_,dd⟩:=Ex I.Oc e;show dd.Qz
 .obtain ⟨_,_,vs,_,dd⟩:=dr (D:=Ew X.Ξ X.w) I.Oc e a;show dd.Qz
 .obtain ⟨_,_,vs,_,dd⟩:=dr (D:=Ft X.Ξ X.w) I.Oc e a;show dd.Qz
inductive yP(P:Program)(w:World)(x:V)(y:V)(H:Hp)(Q:VK):Prop
 |mk (d v:_) (_:x=.ref d) (_:vC P w H d y (some v)) (_:Q v H)
def rQ(B:X.A.PR+64<Qj):CP X (yP X.Ξ X.w):=by
 intro c f t s J H x y v u Q I C i h E;let⟨d,z,ζ,g,q⟩:=h;cases C;refine WU (ops:=[.π d,u]) (vf I g) Δ.F.UB.ρ ?_ E;rcases g with⟨NP,k,e,ζ,l⟩|⟨NP,k,b,e,n,ζ,m,l⟩|⟨NP,k,b,e,n,ζ,m,l⟩
 .cases i;let⟨ns,_,vs,j,dd⟩:=Ex I.Oc e;let⟨r,hw,a⟩:=au.Vj (v:=z) (o:=RW vs k) (by rw[l];show j.Zu k);show UX (VW:=EV X.Ξ X.w) (k:=k) (show rW k (.Pe k)=ξ by cases k<;>rfl) dd.Z_ hw (z,H,I.Sg _,a,q)
 .cases i;show sg (D:=Ew X.Ξ X.w) B I e n m l λr s' p a=>(z,H,p,a,q)
 .cases i;show sg (D:=Ft X.Ξ X.w) B I e n m l λr s' p a=>(z,H,p,a,q)
inductive yO(P:Program)(w:World)(o:V)(i:V)(v:V)(H:Hp)(Q:Hp->Prop):Prop
 |mk (d H':_) (_:o=.ref d) (_:zH P w H d i v H') (_:Q H')
def Eb(x:X.A.PR+64<Qj):xQ X (yO X.Ξ X.w):=by
 intro t s C H o i v E F u Q I y m l h;let⟨d,H',ζ,g,q⟩:=h;cases y;rcases g with⟨NP,k,e,ζ,f,j,ζ⟩|⟨NP,k,b,e,p,ζ,n,f,j,ζ⟩|⟨NP,k,b,e,p,ζ,n,f,j,ζ⟩
 .cases m;let⟨ns,hz,vs,a,dd⟩:=Ex I.Oc e;refine wpAny_setItem_pairs (VW:=EV X.Ξ X.w) (k:=k) (V6:=by rw[<-a.β];show hz) (show rW k (.Pe k)=ξ by cases k<;>rfl) dd λh' c B=>(_,3,q);let z:=au.UD (show au ε (RW vs k) by rw[<-f];show a.Zu k);rw[IS z]at c;show HQ I (by rw[e];show Ol.Ob) B (let⟨o,_,_,q,_⟩:=c;(o,q)) (BS ns (by rw[w_];show j) (bR a l) c)
 .cases m;show sf (D:=Ew X.Ξ X.w) x I e p n f j l λs' r=>(_,r,q)
 .cases m;show sf (D:=Ft X.Ξ X.w) x I e p n f j l λs' r=>(_,r,q)
def Ed:Dc X (.Nf "len") (λxs H Q=>∃d n,xs=[V.π d]/\zI X.Ξ X.w H d n/\Q (.MQ (n:Φ)) H):=by
 intro i s m H xs us Q I r h;let⟨d,n,ζ,g,q⟩:=h;let⟨p,ζ,j⟩:=Do r;cases j;rcases g with⟨NP,e,ζ⟩|⟨NP,e,ζ⟩
 .obtain ⟨ns,hz,vs,a,o,f,l,h1,h2,c,_,hp,_⟩:=Ex I.Oc e;let b:f.MV=NP.β:=by rw[a.β,<-hp.β];simp
  refine m7 (X:=X) ns h1 h2 c (!6) λt t'=>(.MQ (NP.β:Φ),H,I.Sg _,(t,by rw[b]),q)
 .obtain ⟨ns,hz,xs,a,o,f,l,h1,h2,c,k,_⟩:=(I.Oc d _ e).1;let b:f.MV=NP.β:=by rw[Rl.β a,<-Pl,k,ol]
  refine m7 (X:=X) ns h1 h2 c (!6) λt t'=>(.MQ (NP.β:Φ),H,I.Sg _,(t,by rw[b]),q)
inductive Ln where
 |bl|nest|pair
abbrev uE(P:NC)(w:Ny)(d:υ):Ln->HO
 |.bl=>B3 (EV P w) d []
 |.TV=>Bx (Ew P w) d []
 |.pair=>Bx (Ft P w) d []
def xa(h:NR)(a:Oo<h.Np.MV)(k:Ln):Az P w H (h.Ni {OM:=.MM "dict",NH:=.Pv #[]}) h.Np.MV (uE P w h.Np.MV k):=by
 let ns:(h.Np.MV==Oo)=η:=NB.Om (Ne.MO (M8 a));cases k with
 |bl=>show BS (VW:=EV P w) ns (Nb _) .Op (NR.Ye.Xw h)
 |TV=>show fb (D:=Ew P w) ns (Nb _) .Op (Vq.Xw h)
 |pair=>show fb (D:=Ft P w) ns (Nb _) .Op (Vq.Xw h)
inductive yk(P:Program)(w:World)(_0:St)(H:Hp)(Q:VK):Prop
 |mk (k:_) (_:∀p,H p=none->Q (.ref p) (upd H p (uE P w p k)))
def uq:PE X (.Dict [] [] Ng) (yk X.Ξ X.w):=λb s c H Q I⟨k,h⟩=>
 wpAny_Dict_empty (.π s⁻¹,_,I.Tw (a:=s⁻¹) (o:=uE X.Ξ X.w s⁻¹ k) (t':=s.MT) (λ_ _ q=>sy _ q) (LT _) (xa s.ο I.bigS k),1,h _ (I.Oc.OF (LT _)))
end
namespace ZP
section
variable{prog:Program}{w:World}{A:Around}{E:Value->Shared->Prop}{s:Shared}{z TI TO i1 i2:Addr}{f1 f2:List Addr}{n1 n2 k:Nat}{P1 P2:Nat->Value->Prop}{S1 S2:Nat->Heap->Prop}{a b:Value}
abbrev Gh(a:υ):Rm:={OM:=.MM "tuple_iterator",NH:=.N_ #[.π a,.MQ 0 0]}
def rR{a:υ}(d:s.ο.Pa a c)(h:Q (.π s⁻¹) {s with ο:=s.ο.Ni (Gh a)}):BT (Cl Ξ w) A (VR (.π a)) Q E s:=Qy d h
end
end ZP
def jr:∀{ns:γ ML}{us:γ θ},ae (ns.NL V.MQ) us->S' us ns
 |[],_,r=>by rw[γ.map_nil]at r;cases r;show .Op
 |n::ns,_,r=>by
  rw[Qp]at r;cases r with
  |NX h t=>
   let⟨u,ζ⟩:=(show ∃t,_=θ.MQ n t from h);show .NX n u (jr t)
section
variable{X:Cx}
inductive rIndexB(x:V)(vs:List V)(H:Hp)(Q:VK):Prop
 |mk (l:Addr) (bs:List Bool) (_:x=.ref l) (_:vs=[.bl false]) (_:H l<*.lst (bs.map V.bl)) (_:false∈bs) (_:Q (.int (bs.idxOf false:Nat)) H)
def eP:IM X "list.index" rIndexB:=by
 intro C s T H x vs v us Q I J L h;let⟨l,bs,ζ,ζ,E,P,q⟩:=h;cases J;let⟨u,ζ,M⟩:=L.Of;cases M;let⟨z,f,n,r,U,e⟩:=I.lstM E;let d:f.β=bs.β:=by rw[<-r.β,ol]
 let o:bs.M0 η<bs.β:=M6 P;let k:∀(j:Φ)(t:j<f.χ.MV),∃g:j<bs.β,f.χ[j]=.Pe bs[j]:=λj t=>by
  let g:j<bs.β:=by simpa[d]using t
  refine(g,3);let⟨a,S,N⟩:=r.VE (i:=j) (x:=.bl bs[j]) (by rw[tS,n_ g];rfl);cases N;let⟨_,q⟩:=q5 S;simpa using q
 let w:((bs.M0 η:Φ):ML)<2^63-1:=by
  let R:(bs.NL V.bl).β≤Λ:=(I.M5 E).Vd.Vd.2.2;rw[ol,OO]at R;lia
 refine YX F.TR (_,e,1) F.entry_list_index (F.args_list_index_2 _ _) (PN.list_indexAt l f.χ n ε #[] (.Pe η) (λy=>match y with|.Pe b=>b==η|_=>η) (bs.M0 η) (by simpa[d]using o) w ?_ ?_) (e,3,(.MQ _,H,I.Sg _,(_,ζ),q))
 .obtain ⟨g,p⟩:=k (bs.M0 η) (by simpa[d]using o);rw[p];have:=O5 g;rw[this];rfl
 .intro m A D;let⟨g,p⟩:=k m A;rw[p];change (bs[m]==η)=η;cases B:bs[m]with
  |ξ=>rfl
  |η=>
   have:=RA.G8 (l:=bs) (c:=η) (i:=m) (by rw[n_ g,B]);lia
 .intro y O;let⟨j,t,ζ⟩:=Nq.Xg.mp O;let⟨g,p⟩:=k j t;rw[p];show PN.R0.Y3 _ _
inductive JQ(K:Frag)(x:V)(y:V)(H:Hp)(Q:VK):Prop
 |mk (p q:Addr) (xs ys:List Int) (_:x=.ref p) (_:y=.ref q) (_:H p<*.lst (xs.map V.int)) (_:H q<*.lst (ys.map V.int)) (_:xs.length=ys.length) (_:Q (.bl (decide (xs=ys))) H)
def w4(L:X.A.PR<Qj):AQ X (O3 .Eq) (JQ X.K):=by
 intro r s U H x y v u Q I C B h;let⟨p,q,xs,ys,ζ,ζ,hp,N,W,k⟩:=h;cases C;cases B;let⟨c,o,l,J⟩:=I.Qt (o5.of hp);let⟨d,n,g,F⟩:=I.Qt (o5.of N);let l1:=o.β;let l2:=n.β;rw[ol]at l1 l2;refine PN.eq_listAt (e:=λj=>decide (xs.MI j 0=ys.MI j 0)) l.QS g.QS (by simp;lia) L (λj h1 h2=>?_) (.bl _,H,I,1,3)
 .let w:j<xs.β:=by simp at h1;lia
  let f:j<ys.β:=by lia
  let⟨a,P,E⟩:=o.VE (i:=j) (x:=.MQ xs[j]) (by rw[tS,n_ w];rfl);let⟨b,O,D⟩:=n.VE (i:=j) (x:=.MQ ys[j]) (by rw[tS,n_ f];rfl);let⟨t,ζ⟩:=E;let⟨t',ζ⟩:=D;let T:c.χ[j]=.MQ xs[j] t:=by
   let⟨_,e⟩:=q5 P;simpa using e
  let S:d.χ[j]=.MQ ys[j] t':=by
   let⟨_,e⟩:=q5 O;simpa using e
  rw[T,S];let R:decide (xs.MI j 0=ys.MI j 0)=(xs[j]==ys[j]):=by
   rw[u6,u6,n_ w,n_ f];by_cases z:xs[j]=ys[j]<;>simp[z]
  change PN.R0 _ _ _ _ (decide (xs.MI j 0=ys.MI j 0));rw[R];show PN.R0.ZX _ t _ t'
 .let e:((γ.N2 c.χ.MV).P' λj=>decide (xs.MI j 0=ys.MI j 0))=decide (xs=ys):=by
   let M:c.χ.MV=xs.β:=by simp;lia
   rw[M];by_cases z:xs=ys
   .subst z;simp
   .rw [M3 z,MX.Uy];intro P';refine z (γ.Zb λi=>?_);rw[NN]at P';by_cases m:i<xs.β
    .have:=OU (P' i (Nm.Om m));rw[u6,u6,n_ m,n_ (!6)]at this;rw[n_ m,n_ (!6)];show NZ δ this
    .rw [Ph (!6),Ph (!6)]
  rw[e];show k
end
abbrev IT(a:υ)(n:Φ):It:=⟨λi H=>∃xs,H a=δ (.M5 xs)/\xs.β=n/\i<n,λi H v H'=>H'=H/\∃xs,H a=δ (.M5 xs)/\xs[n-1-i]?<*v,λi _=>i=n⟩
def qd{K:Nl}(a it:υ)(n:Φ):dI P w K tg (IT a n) [it] it (λi h=>h.IsRevIter it a ((n:ML)-1-(i:ML)))  where
 mem:=by simp
 Ua:=λi h st b j=>by
  let e:b=it:=by simpa using j
  subst e;let⟨o,e,c,d⟩:=st;show(o,e,λv z=>by rw[d]at z;cases z)
 P_:=λi h h' st k=>st.at λo e=>k it (!1) o e
 Ut:=by
  intro X y hw A O i f s L H E I r st l;subst y hw A;let⟨xs,N,hl,hi⟩:=l;let J:(n:ML)-1-(i:ML)=((n-1-i:Φ):ML):=by omega
  rw[J]at st;let M:xs[n-1-i]?<*(xs[n-1-i]'(!2)):=n_ _;let⟨S,Q,p,hz⟩:=I.Qt (o5.of N);let⟨u,T,R⟩:=Q.VE M;let⟨m,F,Y,D,C,B⟩:=r it (!1);refine wpAny_pyNext_rev_item st p.QS (x:=u) (by simpa using T) λh' g q=>?_;let I1:f' X f L H {s with ο:=h'}:=I.OH (t':=s.MT) (λb o j e=>(q.2 b j).ν e) m F D C B;let Z:((n-1-i:Φ):ML)-1=(n:ML)-1-((i+1:Φ):ML):=by lia
  rw[Z]at g;let⟨o,U,t,W⟩:=id g;refine(u,1,fo (s:={s with ο:=h'}) U t W (!0) (_,H,I1,R,(1,xs,N,M),g,λb j=>?_));let e:b=it:=by simpa using j
  subst e;show m
 done:=by
  intro X y hw A O i f s L H E I r st l;subst y hw A;let l:i=n:=l;let J:(n:ML)-1-(i:ML)=-1:=by lia
  rw[J]at st;let⟨m,F,Y,D,C,B⟩:=r it (!1);show wpAny_pyNext_rev_end (I.ok.hd O) st λh' q=>(1,I.OH (t':=s.MT) (λb o j e=>q b o j e) m F D C B)
 Yj:=λ_ _ _ _ _ st h=>Zt st h
inductive zn(R:It->Hp->Prop)(vs:List V)(H1:Hp):Prop
 |mk (a xs:_) (_:vs=[.ref a]) (_:H1 a<*.lst xs) (_:R (IT a xs.length) H1)
abbrev JR(t:TA):TI:=λσ H R=>t σ H (zn R)
def wP{m a:Ro}{p Ng:Sn}(y:Gl X "reversed")(x:X.mg "reversed"=ε)(B:PA X [a] ta)(v:(Θ [a] X.KK=(η,OJ a X.KK,)::Θ [] X.KK)>>>4)(j:((OE Ng (Θ [] X.KK)).Qk (·.1)=η)>>>4):PI X m (.QE (.Nz "reversed" p) [a] [] Ng) (JR ta):=by
 intro g s l H R I h;refine Nh (An I y x Oj.Sf.boot_reversed (Oj.Sf.QV (ri (B Ng g s l H _ I h) λus d z=>?_) v j));let⟨vs,C,i,t,b,xs,ζ,w,q⟩:=z;let⟨D,ζ,r⟩:=Do t;cases r;let⟨f,n,u,hz⟩:=i.Qt (o5.of w);let V6:f.χ.MV=xs.β:=by rw[n.β];simp
 refine call_reversed_list u.QS ?_;let k:(d.ο.Ni (revObj b ((f.χ.MV:ML)-1))).IsRevIter d⁻¹ b ((xs.β:ML)-1-((0:Φ):ML)):=(_,MS _ ζ,1,by rw[V6];simp[revObj]);refine Zt (s:={d with ο:=d.ο.Ni (revObj b ((f.χ.MV:ML)-1))}) k ?_;refine(_,[d⁻¹],_,IT b xs.β,C,1,i.SW (t':=d.MT) λb o e=>sy _ e,qd b _ _,k,λc A=>?_,q);let e:c=d⁻¹:=by simpa using A
 subst e;show i.ZZ (LT _) (i.Oc.OF (LT _))
end L2
namespace RA
def eU(L:LN)(c d:Φ):∀{a b:LN},aq L a b=ξ->aq L (a++[c]) (b++[d])=ξ
 |[],_,h=>by simp[aq]at h
 |_::_,[],h=>by simp[aq]at h
 |x::a,y::b,h=>by
  rw[Rh,Rh,aq];rw[aq]at h;by_cases e:x=y
  .rw [Id e]at h⊢;show eU L c d h
  .rw [Ω e]at h⊢;show h
def Lo(L:LN)(c:Φ):∀{a b:LN},a.β=b.β->aq L (a++[c]) (b++[c])=ξ->aq L a b=ξ
 |[],[],_,h=>by simp[aq]at h
 |[],_::_,e,_=>by simp at e
 |_::_,[],e,_=>by simp at e
 |x::a,y::b,e,h=>by
  rw[Rh,Rh,aq]at h;rw[aq];by_cases q:x=y
  .rw [Id q]at h⊢;show Lo L c (by simpa using e) h
  .rw [Ω q]at h⊢;show h
def eV(L:LN){c d:Φ}(b:L.M0 c<L.M0 d):∀a:LN,aq L (a++[c]) (a++[d])=ξ
 |[]=>by
  rw[WG,WG,aq,Ω (λe=>by rw[e]at b;lia)];show NJ b
 |x::a=>by
  rw[Rh,Rh,aq,Id ζ];show eV L b a
def Lp(L:LN):∀{a b:LN},aq L a b=ξ->aq L b a=η
 |[],_,h=>by simp[aq]at h
 |_::_,[],h=>by simp[aq]at h
 |x::a,y::b,h=>by
  rw[aq]at h⊢;by_cases e:x=y
  .rw [Id e]at h;rw[Id e.MO];show Lp L h
  .rw [Ω e]at h;rw[Ω (Ne.MO e)];have:=OU h;show M3 (!6)
def Lq(L:LN):∀{a b c:LN},aq L a b=ξ->aq L b c=ξ->aq L a c=ξ
 |[],_,_,h,_=>by simp[aq]at h
 |_::_,[],_,h,_=>by simp[aq]at h
 |_::_,_::_,[],_,h=>by simp[aq]at h
 |x::a,y::b,z::c,h,k=>by
  rw[aq]at h k⊢;by_cases e:x=y
  .subst e;rw[Id ζ]at h;by_cases f:x=z
   .rw [Id f]at k⊢;show Lq L h k
   .rw [Ω f]at k⊢;show k
  .rw [Ω e]at h;let h1:=OU h;by_cases f:y=z
   .subst f;rw[Ω e];show h
   .rw [Ω f]at k;let k1:=OU k;rw[Ω (λg=>by rw[g]at h1;lia)];show NJ (!2)
def Lr{L:LN}:∀{a b:LN},a.β=b.β->(∀c∈a,c∈L)->(∀c∈b,c∈L)->aq L a b=ξ\/a=b\/aq L b a=ξ
 |[],[],_,_,_=>.NT (.NI ζ)
 |[],_::_,e,_,_=>by simp at e
 |_::_,[],e,_,_=>by simp at e
 |x::a,y::b,e,f,g=>by
  rw[aq,aq];by_cases q:x=y
  .subst q;rw[Id ζ,Id ζ];rcases Lr (a:=a) (b:=b) (by simpa using e) (λc d=>f c (by simp[d])) (λc d=>g c (by simp[d]))with h|h|h
   .exact .NI h
   .exact .NT (.NI (by rw[h]))
   .exact .NT (.NT h)
  .rw [Ω q,Ω (Ne.MO q)];rcases Φ.S_ (L.M0 x) (L.M0 y)with h|h|h
   .exact .NI (NJ h)
   .exact MJ (DO (f x (!1)) h) q
   .exact .NT (.NT (NJ h))
section
variable{L a b c:LN}
def Hc(h:a.β<b.β):AF L a b=ξ:=by
 unfold AF;rw[Id (!6)];show NJ h
def EX(h:a.β=b.β):AF L a b=aq L a b:=by
 unfold AF;rw[Ω (by simpa using h)]
def dD(h:AF L a b=ξ):a.β≤b.β:=by
 by_cases e:a.β=b.β
 .lia
 .unfold AF at h;rw[Id e]at h;have:=OU h;lia
def sI(x y:Φ)(h:AF L a b=ξ):AF L (a++[x]) (b++[y])=ξ:=by
 let d:=dD h;by_cases e:a.β=b.β
 .rw [EX (by simp[e])];rw[EX e]at h;show eU L x y h
 .exact Hc (by simp;lia)
def sJ(h:L.M0 x<L.M0 y):AF L (a++[x]) (a++[y])=ξ:=by
 rw[EX (!1)];show eV L h a
def IU(h:AF L a b=ξ):AF L b a=η:=by
 let d:=dD h;by_cases e:a.β=b.β
 .rw [EX e]at h;rw[EX e.MO];show Lp L h
 .unfold AF;rw[Id (Ne.MO e)];show M3 (!6)
def By(h:AF L a b=ξ)(k:AF L b c=ξ):AF L a c=ξ:=by
 let h1:=dD h;let h2:=dD k;by_cases e:a.β=c.β
 .rw [EX (!6)]at h k;rw[EX e];show Lq L h k
 .exact Hc (!6)
def vd:AF L a []=η:=by
 unfold AF;by_cases e:a.β=([]:LN).β
 .rw [Ω (by simpa using e)];cases a<;>simp[aq]
 .rw [Id e];simp
def fz(f:∀x∈a,x∈L)(d:∀x∈b,x∈L):AF L a b=ξ\/a=b\/AF L b a=ξ:=by
 by_cases e:a.β=b.β
 .rw [EX e,EX e.MO];show Lr e f d
 .by_cases h:a.β<b.β
  .exact .NI (Hc h)
  .exact .NT (.NT (Hc (!6)))
def g9(e:∀x∈a,x∈L)(d:∀x∈b,x∈L)(h:AF L b a=η)(k:AF L c b=η):AF L c a=η:=by
 cases q:AF L c a with
 |η=>rfl
 |ξ=>
  rcases fz e d with t|t|t
  .rw [By q t]at k;cases k
  .rw [<-t,q]at k;cases k
  .rw [t]at h;cases h
def jH(x:Φ)(h:AF L b a=η):AF L (b++[x]) (a++[x])=η:=by
 cases q:AF L (b++[x]) (a++[x])with
 |η=>rfl
 |ξ=>
  let d:=dD q;by_cases e:b.β=a.β
  .rw [EX (by simp[e])]at q;rw[EX e,Lo L x e q]at h;cases h
  .rw [Hc (by simp at d;lia)]at h;cases h
end
section
variable{κ:Type}[DecidableEq κ]
abbrev aR(g:κ->Φ->κ)(L:LN)(s:κ)(w:LN):κ:=w.foldl (λt c=>g t (L.M0 c)) s
def JS(g:κ->Φ->κ)(L:LN)(s:κ)(w:LN)(c:Φ):aR g L s (w++[c])=g (aR g L s w) (L.M0 c):=by
 unfold aR;rw[γ.Ux];rfl
structure Bf(g:κ->Nat->κ)(L:LN)(s:κ)(ts:List κ)(ws:LL)(n k:Nat):Prop where
 len:ts.length=ws.length
 nd:ts.Nodup
 t0:ts[0]?<*s
 w0:ws[0]?<*[]
 srt:∀(i j:Nat)(a b:LN),i<j->ws[i]?<*a->ws[j]?<*b->AF L a b=true
 lead:∀(i:Nat)(t:κ)(a:LN),ts[i]?<*t->ws[i]?<*a->(∀c∈a,c∈L)/\aR g L s a=t
 par:∀(j:Nat)(b:LN),ws[j]?<*b->b=[]\/∃(p q:Nat)(a:LN),ws[p]?=some a/\q<L.length/\b=a++[L.getD q 0]/\(p<n\/(p=n/\q<k))
 fin:∀(r q:Nat)(t:κ)(a:LN),(r<n\/(r=n/\q<k))->q<L.length->ts[r]?<*t->ws[r]?<*a->∃(j:Nat)(b:LN),ts[j]?=some (g t q)/\ws[j]?=some b/\AF L (a++[L.getD q 0]) b=false
variable{g:κ->Nat->κ}{L:LN}{s:κ}{ts:List κ}{ws:LL}{n k:Nat}
def Bf.SM(g:κ->Φ->κ)(L:LN)(s:κ):Bf g L s [s] [[]] 0 0 where
 PJ:=ζ
 nd:=by simp
 t0:=ζ
 w0:=ζ
 srt:=λi j a b l f d=>by
  have:=(q5 d).1;simp at this;lia
 lead:=λi t a e f=>by
  match i,e,f with
  |0,e,f=>cases e;cases f;show(λc m=>by simp at m,1)
  |i+1,e,_=>simp at e
 YJ:=λj b d=>by
  match j,d with
  |0,d=>cases d;show .NI ζ
  |j+1,d=>simp at d
 VA:=λr q t a h=>by lia
def Bf.behind(h:Bf g L s ts ws n k)(d:L.Nx){a:LN}(i:ws[n]?<*a)(f:k<L.β){j:Φ}{b:LN}(l:ws[j]?<*b):AF L b (a++[L.MI k 0])=ξ:=by
 rcases h.YJ j b l with ζ|⟨p,q,r,hp,e,ζ,c⟩
 .exact Hc (!1)
 .rcases c with c|⟨rfl,c⟩
  .exact sI _ _ (h.srt p n r a c hp i)
  .rw [i]at hp;cases hp;refine sJ ?_;let o:L.M0 (L.MI q 0)=q:=by rw[u6,n_ e];show HM d e
   let m:L.M0 (L.MI k 0)=k:=by rw[u6,n_ f];show HM d f
   rw[o,m];show c
def m5(h:r<n\/(r=n/\q<k+1)):(r<n\/(r=n/\q<k))\/(r=n/\q=k):=by lia
def Bf.old(h:Bf g L s ts ws n k)(u:L.Nx){t:κ}{a:LN}(v:ts[n]?<*t)(o:ws[n]?<*a)(y:k<L.β)(x:g t k∈ts):Bf g L s ts ws n (k+1):=
 {h with
  YJ:=λj b z=>by
   rcases h.YJ j b z with e|⟨p,q,i,h1,h2,A,B⟩
   .exact .NI e
   .exact .NT (p,q,i,h1,h2,A,!6)
  VA:=λr q t' i f w c d=>by
   rcases m5 f with f|⟨rfl,ζ⟩
   .exact h.VA r q t' i f w c d
   .rw [v]at c;rw[o]at d;cases c;cases d;let⟨j,m⟩:=NM.mp x;let l:j<ws.β:=by rw[<-h.PJ];show(q5 m).1
    show(j,ws[j],m,n_ l,IU (h.behind u o y (n_ l)))}
def Bf.Xw(h:Bf g L s ts ws n k)(O:L.Nx){t:κ}{a:LN}(F:ts[n]?<*t)(E:ws[n]?<*a)(C:k<L.β)(R:g t k∉ts):Bf g L s (ts++[g t k]) (ws++[a++[L.MI k 0]]) n (k+1):=by
 let P:L.MI k 0=L[k]:=by rw[u6,n_ C];rfl
 let w:∀{o:Type}{l:γ o}{x y:o}{i:Φ},l[i]?<*y->(l++[x])[i]?<*y:=λ{o l x y i}e=>by
  rw[MY (q5 e).1];show e
 let split:∀{o:Type}{l:γ o}{x y:o}{i:Φ},(l++[x])[i]?<*y->l[i]?<*y\/(i=l.β/\y=x):=λ{o l x y i}e=>by
  by_cases S:i<l.β
  .rw [MY S]at e;show .NI e
  .rw [MW (!6)]at e;have:i-l.β=0:=by
    have:=(q5 e).1;simp at this;omega
   rw[this]at e;show .NT (!6,(ω.δ.QG e).MO)
 let A:(ts++[g t k])[ts.β]?<*g t k:=by rw[MW (LT _),VO];rfl
 let u:(ws++[a++[L.MI k 0]])[ws.β]?<*(a++[L.MI k 0]):=by rw[MW (LT _),VO];rfl
 let⟨I,B⟩:=h.lead n t a F E;refine(by simp[h.PJ],3,w h.t0,w h.w0,λi j x y J d z=>?_,λi t' x f d=>?_,λj b M=>?_,λr q t' x H Q f d=>?_)
 .rw [γ.Wa];show(h.nd,!1,λx d y z e=>R (by rw[Ay z]at e;rw[<-e];show d))
 .rcases split z with z|⟨rfl,ζ⟩
  .rcases split d with d|⟨rfl,ζ⟩
   .exact h.srt i j x y J d z
   .have:=(q5 z).1;lia
  .rcases split d with d|⟨rfl,ζ⟩
   .exact h.behind O E C d
   .lia
 .rcases split f with f|⟨rfl,ζ⟩
  .rcases split d with d|⟨rfl,ζ⟩
   .exact h.lead i t' x f d
   .have:=(q5 f).1;rw[h.PJ]at this;lia
  .rcases split d with d|⟨_,ζ⟩
   .have:=(q5 d).1;rw[h.PJ]at this;lia
   .refine (λc D=>?_,3)
    .rcases Na.mp D with D|D
     .exact I c D
     .rw [Ay D,P];show Nt C
    .rw [JS,B,P,HM O C]
 .rcases split M with M|⟨rfl,ζ⟩
  .rcases h.YJ j b M with e|⟨p,q,Y,h1,h2,T,h4⟩
   .exact .NI e
   .exact .NT (p,q,Y,w h1,h2,T,!6)
  .exact .NT (n,k,a,w E,C,1,.NT (1,OA k))
 .let hrn:r≤n:=by lia
  let Z:=(q5 F).1;let m:ts[r]?<*t':=by rw[MY (!2)]at f;show f
  let v:ws[r]?<*x:=by rw[MY (by rw[<-h.PJ];omega)]at d;show d
  rcases m5 H with H|⟨rfl,ζ⟩
  .obtain ⟨j,b,X,W,U⟩:=h.VA r q t' x H Q m v;show(j,b,w X,w W,U)
  .rw [F]at m;rw[E]at v;cases m;cases v;refine(ts.β,_,A,by rw[h.PJ];show u,3);cases N:AF L (a++[L.MI q 0]) (a++[L.MI q 0])with
   |η=>rfl
   |ξ=>show N.MO.ν (IU N)
def Bf.next(h:Bf g L s ts ws n L.β):Bf g L s ts ws (n+1) 0:=
 {h with
  YJ:=λj b f=>by
   rcases h.YJ j b f with e|⟨p,q,m,h1,h2,l,u⟩
   .exact .NI e
   .exact .NT (p,q,m,h1,h2,l,!6)
  VA:=λr q t a o d c i=>h.VA r q t a (!6) d c i}
def Bf.told(h:Bf g L s ts ws ts.β 0)(F:L.Nx):∀(w:LN)(m:Φ),w.β=m->(∀c∈w,c∈L)->∃(j:Φ)(b:LN),ts[j]?=δ (aR g L s w)/\ws[j]?=δ b/\AF L w b=η:=by
 intro w m;induction m generalizing w with
 |TB=>
  intro e _;rw[PB.mp e];show((0),[],h.t0,h.w0,vd)
 |Sc m u=>
  intro e hw;obtain⟨c,v,ζ⟩:∃c v,w=v++[c]:=(w.Wg (by intro z;rw[z]at e;cases e),w.RO,(γ.PH _).MO);let y:∀x∈v,x∈L:=λx d=>hw x (by simp[d]);let l:c∈L:=hw c (!1);let⟨r,a,i,t,E⟩:=u v (by simpa using e) y;let A:=(q5 i).1;let f:L.M0 c<L.β:=M6 l;let⟨j,b,q,p,o⟩:=h.VA r (L.M0 c) _ a (.NI A) f i t;let D:L.MI (L.M0 c) 0=c:=by rw[u6,n_ f];show O5 f
  rw[D]at o;let⟨C,_⟩:=h.lead r _ a i t;refine(j,b,by rw[JS];show q,p,3);let⟨B,_⟩:=h.lead j _ b q p;refine g9 (b:=a++[c]) B (λx d=>?_) o (jH c E);rcases Na.mp d with d|d
  .exact C x d
  .rw [Ay d];show l
abbrev BU(U ts:γ κ):Φ:=U.Zg λx=>!decide (x∈ts)
def eW{U ts:γ κ}{x:κ}(b:x∈U)(a:x∉ts):BU U (ts++[x])<BU U ts:=by
 refine JM (λz hz h=>?_) (x,b,3,3)
 .simp only[Q_,Y2]at h⊢;show λq=>h (RL _ q)
 .simp only[Q_,Y2];show a
 .simp only[MX.not_eq_false',SZ];show Nn _ (R8.Om ζ)
end
end RA
namespace L2
open PySem.Spec PyProof.Rows
abbrev Du(J:It)(a:υ)(o:HO)(xs:γ V):Prop:=∀H2:Hp,H2 a<*o->(∀i,i<xs.β->J.go i H2)/\(∀i x H3,i<xs.β->J.X6 i H2 x H3->H3=H2/\xs[i]?<*x)/\J.Sv xs.β H2
def wW{K:Nl}:Du (G1 K a) a (.M5 xs) xs:=λf e=>
 (λi h=>(xs,xs[i],o5.of e,n_ h),λi x d _ b=>by let⟨c,h⟩:=b;show(c,h xs (o5.of e)),(xs,o5.of e,LT _))
def wV{K:Nl}:Du (G2 K a) a (.No xs) xs:=λf e=>
 (λi h=>(xs,xs[i],u0.of e,n_ h),λi x d _ b=>by let⟨c,h⟩:=b;show(c,h xs (u0.of e)),(xs,u0.of e,LT _))
inductive JT(R:It->Hp->Prop)(x:V)(H1:Hp):Prop
 |mk (a o xs:_) (_:x=.ref a) (_:(o=.lst xs\/o=.tup xs)) (_:H1 a<*o) (_:∀J,Du J a o xs->R J H1)
abbrev JU(tl:TE):TI:=λσ H R=>tl σ H (JT R)
def Dv(z:PE X l r):PI X B l (JU r):=by
 intro f s n H R I h;refine ri (z f s n H _ I h) λv c j=>?_;let⟨x,k,g,u,w⟩:=j;let⟨a,o,xs,e,y,m,q⟩:=w;subst e;cases u;let d:∀b∈[c⁻¹],be X f k b:=λb A=>by
  let e:b=c⁻¹:=by simpa using A
  subst e;show g.ZZ (LT _) (g.Oc.OF (LT _))
 rcases y with ζ|rfl
 .obtain ⟨i,t,p,hz⟩:=g.Qt (o5.of m);refine RT p.QS ?_;show(c⁻¹,[c⁻¹],_,_,k,1,g.SW (t':=c.MT) λb o e=>sy _ e,d8 a _,(_,MS _ ζ,5),d,q _ wW)
 .obtain ⟨i,t,p,hz⟩:=g.Px (u0.of m);refine Qy (show c.ο.Pa a i.χ from p) ?_;show(c⁻¹,[c⁻¹],_,_,k,1,g.SW (t':=c.MT) λb o e=>sy _ e,K_ a _,(_,MS _ ζ,5),d,q _ wV)
def jA{g:TG}{k:TS}{D:XL}(u:Du J a o xs)(d:Φ->St->Hp->Prop)(h0:d 0 b H)(w:∀i b H,d i b H->H a<*o)(v:∀i x b H,xs[i]?<*x->d i b H->g x b H λf j=>k {D with nx:=d (i+1),ct:=d (i+1),bk:=D.nx} f j)(A:∀b H,d xs.β b H->D.nx b H):∃W:Φ->Φ->St->Hp->Prop,(∃m,W 0 m b H)/\∀i m b H,W i m b H->
   (J.Sv i H/\D.nx b H)\/(J.go i H/\∃N:St->Hp->Prop,(∀h H',N h H'->∃l,l<m/\W (i+1) l h H')/\∀x H',J.X6 i H x H'->g x b H' λf j=>k {D with nx:=N,ct:=N,bk:=D.nx} f j):=by
 refine(λi m b H=>m=xs.β-i/\i≤xs.β/\d i b H,(xs.β,!1,Nb _,h0),3);rintro i m b H⟨rfl,z,p⟩;let⟨s,r,q⟩:=u H (w i b H p);by_cases c:i<xs.β
 .refine .NT (s i c,d (i+1),λh H' t=>(xs.β-(i+1),Pf _ _ c,1,c,t),λx H' y=>?_);let⟨e,n⟩:=r i x H' c y;subst e;show v i x b _ n p
 .let e:i=xs.β:=Rc z (OQ c);subst e;show .NI (q,A b H p)
def JV{u:TT}{v:TE}{q:St}{Q:VK}(C:Du J a o xs)(M:H a<*o)(l:υ->Φ->γ V->Hp->Prop)(hz:xs.β≤Λ)(h0:∀D,H D=ε->l D 0 [] (MR H D (.M5 [])))(F:∀(D:υ)(i:Φ)(x:V)(ys:γ V)(H':Hp)(w:VK)(R2:Hp->Prop),H D=ε->xs[i]?<*x->a' H H'->H' D<*.M5 ys->l D i ys H'->
   (∀y h,h D<*.M5 ys->a' H (MR h D (.M5 (ys++[y])))->l D (i+1) (ys++[y]) (MR h D (.M5 (ys++[y])))->w y h)->(∀g,a' H g->g D<*.M5 ys->l D (i+1) ys g->R2 g)->
   u (δ x::q) H' λb g=>if b=ξ then v (δ x::q) g w else R2 g)(I:∀D ys H',H D=ε->a' H H'->H' D<*.M5 ys->l D xs.β ys H'->Q (.π D) H'):∀D,H D=ε->∃W:Φ->Φ->γ V->Hp->Prop,
 (∃m,W 0 m [] (MR H D (.M5 [])))/\∀i m ys f,W i m ys f->f D=δ (.M5 ys)/\((J.Sv i f/\Q (.π D) f)\/(J.go i f/\ys.β<Λ/\∀x p,J.X6 i f x p->
  u (δ x::q) p λb g=>if b=ξ then v (δ x::q) g λy h=>h D=δ (.M5 ys)/\∃n,n<m/\W (i+1) n (ys++[y]) (MR h D (.M5 (ys++[y])))
   else ∃n,n<m/\W (i+1) n ys g)):=by
 intro D r;refine(λi m ys f=>m=xs.β-i/\i≤xs.β/\ys.β≤i/\a' H f/\f D=δ (.M5 ys)/\l D i ys f,(xs.β,!1,Nb _,!1,a'.MR r,j_,h0 D r),3);rintro i m ys f⟨rfl,L,t,j,k,hp⟩;refine(k,3);let⟨B,A,z⟩:=C f (j _ _ M);by_cases d:i<xs.β
 .refine .NT (B i d,Nk t (Ψ d hz),λx p s=>?_);let⟨e,E⟩:=A i x p d s;subst e;show F D i x ys p _ _ r E j k hp (λy h a b c=>(a,xs.β-(i+1),Pf _ _ d,1,d,by rw[w_];show QC t,b,j_,c)) (λg a b c=>(xs.β-(i+1),Pf _ _ d,1,d,Φ.V4 t,a,b,c))
 .let e:i=xs.β:=Rc L (OQ d);subst e;show .NI (z,I D ys f r j k hp)
abbrev mE(K:Nl)(J:It)(te:TE)(σ:St)(H1:Hp)(Q:VK):Prop:=∀D,H1 D=ε->∃W:Φ->Φ->γ V->Hp->Prop,
 (∃m,W 0 m [] (MR H1 D (.M5 [])))/\∀i m ys H2,W i m ys H2->H2 D=δ (.M5 ys)/\((J.Sv i H2/\Q (.π D) H2)\/(J.go i H2/\ys.β<Λ/\∀x H3,J.X6 i H2 x H3->
  ∃p a b,x=.π p/\u0 K H3 p [a,b]/\te (δ a::δ b::σ) H3 λy H5=>H5 D=δ (.M5 ys)/\∃m',m'<m/\W (i+1) m' (ys++[y]) (MR H5 D (.M5 (ys++[y])))))
def Ls{K:Nl}{s:St}(v:Φ->V->V->Prop)(j:υ->Φ->γ V->Hp->Prop)(hz:n≤Λ)(B:∀i c,a' H c->i<n->J.go i c)(A:∀i c x h,a' H c->i<n->J.X6 i c x h->∃p a b,x=.π p/\v i a b/\c p=ε/\h=MR c p (.No [a,b]))(z:∀c,a' H c->J.Sv n c)(h0:∀D,H D=ε->j D 0 [] (MR H D (.M5 [])))(C:∀(D:υ)(i:Φ)(a b:V)(ys:γ V)(H' h:Hp)(u:VK),H D=ε->i<n->v i a b->a' H H'->H' D<*.M5 ys->j D i ys H'->a' H' h->
   (∀y k,k D<*.M5 ys->a' H (MR k D (.M5 (ys++[y])))->j D (i+1) (ys++[y]) (MR k D (.M5 (ys++[y])))->u y k)->w (δ a::δ b::s) h u)(E:∀D ys H',H D=ε->a' H H'->H' D<*.M5 ys->j D n ys H'->Q (.π D) H'):mE K J w s H Q:=by
 intro D l;refine(λi m ys c=>m=n-i/\i≤n/\ys.β≤i/\a' H c/\c D=δ (.M5 ys)/\j D i ys c,(n,!1,Nb _,!1,a'.MR l,j_,h0 D l),3);rintro i m ys c⟨rfl,F,t,f,g,hp⟩;refine(g,3);by_cases d:i<n
 .refine .NT (B i c f d,Nk t (Ψ d hz),λx h o=>?_);let⟨p,a,b,ζ,r,q,ζ⟩:=A i c x h f d o;refine(p,a,b,1,u0.of j_,C D i a b ys c _ _ l d r f g hp (a'.MR q) λy k M L I=>(M,n-(i+1),Pf _ _ d,1,d,by rw[w_];show QC t,L,j_,I))
 .let e:i=n:=Rc F (OQ d);subst e;show .NI (z c f,E D ys c l f g hp)
def mi{K:Nl}{k:St}(j:H c<*.No xs)(d:υ->Φ->γ V->Hp->Prop)(hz:xs.β≤Λ)(h0:∀D,H D=ε->d D 0 [] (MR H D (.M5 [])))(q:∀(D:υ)(i:Φ)(x:V)(ys:γ V)(H' e:Hp)(f:VK),H D=ε->xs[i]?<*x->a' H H'->H' D<*.M5 ys->d D i ys H'->a' H' e->
   (∀y g,g D<*.M5 ys->a' H (MR g D (.M5 (ys++[y])))->d D (i+1) (ys++[y]) (MR g D (.M5 (ys++[y])))->f y g)->o (δ (.MQ (i:ML))::δ x::k) e f)(r:∀D ys H',H D=ε->a' H H'->H' D<*.M5 ys->d D xs.β ys H'->Q (.π D) H'):mE K (vB c) o k H Q:=by
 refine Ls (n:=xs.β) (λi a b=>a=.MQ (i:ML)/\xs[i]?<*b) d hz (λi m s h=>(xs,xs[i],s _ _ j,n_ h)) ?_ (λm s=>(xs,s _ _ j,1)) h0 ?_ r
 .rintro i m x e s h⟨p,y,zs,l,A,z,w,v⟩;rw[s _ _ j]at l;cases l;show(p,_,y,z,(1,A),w,v)
 .rintro D i a b ys H' e f u J⟨rfl,t⟩I F E C B;show q D i b ys H' e f u t I F E C B
def Fu(K:Nl)(a:(X.K=K)>>>4):CP X (qB K):=by
 subst a;show bT
def Hd(K:Nl)(a:(X.K=K)>>>4):CP X (kY K):=by
 subst a;show dg
def pA{X:Cx}(P:NC)(w:Ny)(a:X.A.PR+64<Qj)(b:(X.Ξ=P)>>>4)(hw:(X.w=w)>>>4):CP X (yP P w):=by
 subst b hw;show rQ a
def qS:Du (IT a ys.β) a (.M5 ys) ys.Nc:=λj e=>by
 refine(λi h=>(ys,e,1,by simpa using h),λi x g c h=>?_,3)
 .obtain ⟨f,xs,b,d⟩:=h;rw[e]at b;cases b;refine(f,3);rw[γ.getElem?_reverse (by simpa using c)];show d
 .change ys.Nc.β=ys.β;rw[QP]
def fF{xs:γ V}(h:t≤xs.β):AL xs ε (δ (t:ML))=xs.OC t:=by
 unfold AL;rw[HT.CO,HT.DN,γ.drop_zero,Φ.sub_zero,Φ.Z9 h]
end L2
namespace RA
open L2
inductive KS where
 |inl (b:Bool)
 |inr (k:NK)
instance:DecidableEq KS:=λa b=>match a,b with
 |.inl a,.inl b=>if h:a=b then isTrue (by rw[h])else isFalse λz=>h (KS.inl.inj z)
 |.inr a,.inr b=>if h:a=b then isTrue (by rw[h])else isFalse λz=>h (KS.inr.inj z)
 |.inl _,.inr _=>isFalse λz=>by cases z
 |.inr _,.inl _=>isFalse λz=>by cases z
abbrev IV:KS->MX
 |.NI _=>η
 |.NT _=>ξ
abbrev j6(H:Hp):KS->V->Prop
 |.NI b,x=>x=.bl b
 |.NT k,x=>∃p,x=.π p/\Fs H k p
def AV(s:∀b xs,H b<*.No xs->H' b<*.No xs)(h:Fs H k a):Fs H' k a:=by
 let⟨b,d,c⟩:=h;show(b,s _ _ d,s _ _ c)
def j6.ST(s:∀b xs,H b<*.No xs->H' b<*.No xs)(h:j6 H k x):j6 H' k x:=by
 cases k with
 |NI b=>show h
 |NT k=>
  let⟨p,e,h⟩:=h;show(p,e,AV s h)
def HR{g f:Type}[Qw f](b:g->f)(c:g->V)(k:f):∀(NP:γ g)(n:Φ),(∀i x,NP[i]?<*x->c x=.MQ ((n+i:Φ):ML))->
  (NP.find? λx=>decide (b x=k)).NL c=if k∈NP.NL b then δ (.MQ ((n+(NP.NL b).M0 k:Φ):ML))else ε
 |[],n,_=>by simp
 |a::NP,n,h=>by
  by_cases e:b a=k
  .let h0:=h 0 a ζ;rw[Id (by simp[e])];subst e;simp[Qh,h0]
  .let j:=HR b c k NP (n+1) λi x l=>by
    have:=h (i+1) x (by simpa using l);rw[this];congr 2;lia
   let m:(NP.NL b).M0 k+1=((a::NP).NL b).M0 k:=by
    rw[Qp,Uu,NB.Om e];rfl
   rw[Qh,M3 e];change (NP.find? λx=>decide (b x=k)).NL c=_;rw[j];by_cases d:k∈NP.NL b
   .rw [Id d,Id (by rw[Qp];show M1 _ d),<-m];congr 3;lia
   .rw [Ω d,Ω (by rw[Qp,MN];rintro(z|z);show e z.MO;show d z)]
abbrev x_(P:NC)(w:Ny)(H:Hp)(d:υ)(TV:MX)(ks:γ KS):Prop:=
 (TV=η/\∃NP:γ (MX×V),H d=δ (B3 (EV P w) d NP)/\(NP.NL λx=>(KS.NI x.1:KS))=zg ks/\∀(i:Φ)(x:MX×V),NP[i]?<*x->x.2=V.MQ (i:ML)) \/
 (TV=ξ/\∃NP:γ (NK×υ×V),H d=δ (Bx (Ew P w) d NP)/\(∀x∈NP,Fs H x.1 x.2.1)/\(NP.NL λx=>(KS.NT x.1:KS))=zg ks/\∀(i:Φ)(x:NK×υ×V),NP[i]?<*x->x.2.2=V.MQ (i:ML))
section
variable{P:Program}{w:World}{H:Hp}{d:Addr}{nest:Bool}{ks:List KS}
abbrev gN(ks:γ KS)(k:KS):ω V:=if k∈zg ks then δ (.MQ ((zg ks).M0 k:Φ))else ε
def x_.VE(h:x_ P w H d TV ks)(j:j6 H k x)(g:IV k=TV):vC P w H d x (gN ks k):=by
 rcases h with⟨rfl,NP,e,f,c⟩|⟨rfl,NP,e,l,f,c⟩
 .cases k with
  |NT k=>cases g
  |NI b=>
   refine .NI (NP,b,e,j,3);have:=HR (λx:MX×V=>(KS.NI x.1:KS)) (·.2) (KS.NI b) NP 0 (λi x a=>by rw[c i x a,Φ.Pz]);rw[f]at this;unfold gN aF;rw[Φ.Pz]at this;rw[<-this];congr 2;funext x;show Ud.Om (λz=>KS.NI.QG z,λz=>by rw[z])
 .cases k with
  |NI k=>cases g
  |NT b=>
   let⟨p,n,m⟩:=j;refine .NT (.NI (NP,b,p,e,l,n,m,3));have:=HR (λx:NK×υ×V=>(KS.NT x.1:KS)) (·.2.2) (KS.NT b) NP 0 (λi x a=>by rw[c i x a,Φ.Pz]);rw[f]at this;unfold gN aE;rw[Φ.Pz]at this;rw[<-this];congr 2;funext x;show Ud.Om (λz=>KS.NT.QG z,λz=>by rw[z])
def x_.PJ(h:x_ P w H d TV ks):zI P w H d (zg ks).β:=by
 rcases h with⟨_,NP,e,a,_⟩|⟨_,NP,e,_,a,_⟩
 .exact .NI (NP,e,by rw[<-a,ol])
 .exact .NT (NP,e,by rw[<-a,ol])
def x_.OP(h:x_ P w H d TV ks)(a:k∈zg ks):x_ P w H d TV (ks++[k]):=by
 unfold x_ at h⊢;rw[AU,Id a];show h
def x_.Pg(h:x_ P w H d TV ks)(s:a' H H'):x_ P w H' d TV ks:=by
 rcases h with⟨a,NP,e,c⟩|⟨a,NP,e,g,c⟩
 .exact .NI (a,NP,s _ _ e,c)
 .exact .NT (a,NP,s _ _ e,λx f=>AV (λb xs z=>s _ _ z) (g x f),c)
def x_.QN(h:x_ P w H d TV ks)(e:H'=MR H d c):∀b xs,H b<*.No xs->H' b<*.No xs:=λb xs z=>by
 rw[e,a_ (λq=>?_)]
 .exact z
 .subst q;rcases h with⟨_,NP,a,_⟩|⟨_,NP,a,_⟩
  .rw [a]at z;cases z
  .rw [a]at z;cases z
def rc(h:¬ j<n)(h2:j-n<1):j=n:=by lia
def x_.put(h:x_ P w H d TV ks)(u:j6 H k x)(t:IV k=TV)(c:k∉zg ks)(A:(zg ks).β<Λ):∃v,zH P w H d x (.MQ ((zg ks).β:Φ)) (MR H d v)/\x_ P w (MR H d v) d TV (ks++[k]):=by
 let l:gN ks k=ε:=Ω c;let q:=h.VE u t;rw[l]at q;let h0:=h;rcases h with⟨rfl,NP,e,m,o⟩|⟨rfl,NP,e,B,m,o⟩
 .cases k with
  |NT k=>cases t
  |NI b=>
   let f:(zg ks).β=NP.β:=by rw[<-m,ol]
   let g:aF NP b=ε:=by
    have:=HR (λx:MX×V=>(KS.NI x.1:KS)) (·.2) (KS.NI b) NP 0 (λi x s=>by rw[o i x s,Φ.Pz]);rw[m,Ω c]at this;unfold aF;rw[<-this];congr 2;funext x;show Ud.Om (λz=>by rw[z],λz=>KS.NI.QG z)
   refine(_,.NI (NP,b,e,u,g,by rw[<-f];show A,1),.NI (1,NP++[(b,.MQ ((zg ks).β:Φ),)],j_,3,λi y a=>?_))
   .rw [AU,Ω c,Nu,m];rfl
   .by_cases n:i<NP.β
    .rw [MY n]at a;show o i y a
    .rw [MW (OQ n)]at a;let r:=rc n (q5 a).1;rw[r,VO]at a;cases a;change V.MQ ((zg ks).β:Φ)=_;rw[f,r]
 .cases k with
  |NI k=>cases t
  |NT b=>
   let f:(zg ks).β=NP.β:=by rw[<-m,ol]
   let⟨p,D,C⟩:=u;let g:aE NP b=ε:=by
    have:=HR (λx:NK×υ×V=>(KS.NT x.1:KS)) (·.2.2) (KS.NT b) NP 0 (λi x s=>by rw[o i x s,Φ.Pz]);rw[m,Ω c]at this;unfold aE;rw[<-this];congr 2;funext x;show Ud.Om (λz=>by rw[z],λz=>KS.NT.QG z)
   let j:=h0.QN (H':=MR H d (Bx (Ew P w) d (NP++[(b,p,.MQ ((zg ks).β:Φ),)]))) ζ;refine(_,.NT (.NI (NP,b,p,e,B,D,C,g,by rw[<-f];show A,1)),.NT (1,NP++[(b,p,.MQ ((zg ks).β:Φ),)],j_,λy a=>?_,3,λi y a=>?_))
   .rcases Na.mp a with a|a
    .exact AV j (B y a)
    .rw [Ay a];show AV j C
   .rw [AU,Ω c,Nu,m];rfl
   .by_cases n:i<NP.β
    .rw [MY n]at a;show o i y a
    .rw [MW (OQ n)]at a;let r:=rc n (q5 a).1;rw[r,VO]at a;cases a;change V.MQ ((zg ks).β:Φ)=_;rw[f,r]
def x_.Xw(P:NC)(w:Ny)(H:Hp)(p:υ)(TV:MX):x_ P w (MR H p (uE P w p (if TV=ξ then .TV else .bl))) p TV []:=by
 cases TV with
 |η=>show .NI (1,[],j_,1,λi x h=>by simp at h)
 |ξ=>show .NT (1,[],j_,λx h=>by simp at h,1,λi x h=>by simp at h)
end
def rh(bs:γ MX):ay (bs.NL λb=>(KS.NI b:KS))=ay bs:=IP (by rw[ol]) λi j a b f e h1 h2 d c=>by
 rw[tS,d]at h1;rw[tS,c]at h2;cases h1;cases h2;show(λz=>KS.NI.QG z,λz=>by rw[z])
def re(bs:γ NK):ay (bs.NL λb=>(KS.NT b:KS))=ay bs:=IP (by rw[ol]) λi j a b f e h1 h2 d c=>by
 rw[tS,d]at h1;rw[tS,c]at h2;cases h1;cases h2;show(λz=>KS.NT.QG z,λz=>by rw[z])
def ik{a b x:Φ}(h:a=b)(c:x<b):x<a:=Φ.lt_of_lt_of_eq c h.MO
def zB(h:i<j+1)(n:¬ i=j):i<j:=Φ.lt_of_le_of_ne (Φ.V5 h) n
def td{n:Φ}(h:n≤2100):-(2^62)≤(n:ML)/\(n:ML)<2^62:=by lia
def sZ{r:ML}{n:Φ}(h0:0≤r)(h1:r<n):r.On<n:=(ML.toNat_lt h0).Om h1
def vQ(h:¬ j<n)(h2:j-n<1):j=n:=by lia
def vq{n:Φ}(h:1≤n):(0:ML)<(n:ML):=ML.YK.Om h
def vo(h:i<t):t-1-i<t:=by omega
def xJ(h:i<t):∃u,t-i=u+1/\t-1-i=u/\t-(i+1)=u:=(t-i-1,!6,!6,!6)
def zA(h1:w=i)(h2:i<t)(b:t<k+1)(a:k≤4410000):w+1≤16777216:=by lia
def JW(h:k≤4410000):k+1<Λ:=by
 have:16777216≤Λ:=sT (!0);lia
def vp(z:ML)(b m:Φ)(a:0<m):∃n:Φ,(n:ML)=(b:ML)+z%(m:ML)/\b≤n/\n<b+m:=by
 let h0:=ML.XV z (show(m:ML)≠0 by lia);let h1:=ML.YV z (show(0:ML)<(m:ML) by lia);show(b+(z%(m:ML)).On,!6,!6,!6)
def xK(h:l+i=26)(a:i≤3):1≤l/\l≤26:=by lia
def zC{n:Φ}(h:n≤26):(n:ML)<1073741824:=by lia
def xI(h1:a≤n)(h2:b≤n)(c:n≤26):a+b≤16777216:=by lia
def vn{x:ML}(h:0≤x):(x+1).On=x.On+1:=by lia
def vt(h:k<l)(a:l+i=26):min k l+(l-(k+1))+(i+1)=26:=by lia
def HS(ws:LN):c_ ws=(zs ws).NL V.MQ:=by
 unfold c_ zs;rw[γ.map_map];rfl
def fW(ws:LN):(zs ws).β=ws.β:=by simp[zs]
def f_(ws:LN):(c_ ws).β=ws.β:=by simp[c_]
def CU(h:i<ws.β):(c_ ws)[i]?<*.MQ ((ws.MI i 0:Φ):ML):=by
 unfold c_;rw[tS,u6,n_ h];rfl
def DU{ns:LN}(h:r<ns.β):AN (c_ ns) (r:ML)<*.MQ ((ns.MI r 0:Φ):ML):=AG (CU h)
def DV{a:Type}{l:γ a}{x:a}(h:l[i]?<*x):l.OC (i+1)=l.OC i++[x]:=by
 rw[Te,h];rfl
def bZ{a b:Φ}:decide (V.MQ (a:ML)=V.MQ (b:ML))=decide (a=b):=by
 by_cases h:a=b
 .subst h;simp
 .have:¬ V.MQ (a:ML)=V.MQ (b:ML):=λz=>h (by injection z with z;show ML.ofNat.QG z);rw[M3 h,M3 this]
abbrev GC(H:Hp)(W5:γ υ)(W:LL)(B:γ MX):Prop:=∀(i:Φ)(r:υ),W5[i]?<*r->H r<*.M5 (c_ (Rd W B i))
def GC.OP(h:GC H a W B)(s:a' H H'):GC H' a W B:=λi r e=>s _ _ (h i r e)
def jD(g:j<n)(k:f j=η):η∈(γ.N2 n).NL f/\((γ.N2 n).NL f).M0 η<n/\f (((γ.N2 n).NL f).M0 η)=η/\∀i<((γ.N2 n).NL f).M0 η,f i=ξ:=by
 let VE:∀i,i<n->((γ.N2 n).NL f)[i]?<*f i:=λi d=>by rw[tS,O6 d];rfl
 let c:η∈(γ.N2 n).NL f:=O_.Om (j,Nm.Om g,k);let b:=M6 c;let a:((γ.N2 n).NL f).M0 η<n:=by simpa using b
 refine(c,a,3,λi d=>?_)
 .let e:=VE _ a;rw[n_ b,O5 b]at e;show(ω.δ.QG e).MO
 .let e:=VE i (!2);cases h:f i with
  |ξ=>rfl
  |η=>
   rw[h]at e;have:=G8 e;lia
def zl.Vt(d:a.β=W.β)(h:dJ H a W)(c:r<W.β):∃b,a[r]?=δ b/\H b<*.No (c_ (W.MI r [])):=by
 let e:a[r]?<*(a[r]'(!6)):=n_ _;let⟨ws,h1,h2⟩:=h r _ e;refine(_,e,3);rw[h2,u6,h1];rfl
def GE(s:a' H H')(h:H' p=ε):H p=ε:=by
 cases e:H p with
 |ε=>rfl
 |δ o=>rw[s _ _ e]at h;cases h
def mh{u:TT}{v:TE}{p:St}{Q:VK}(k:υ->Φ->γ V->Hp->Prop)(hz:n≤Λ)(h0:∀D,H D=ε->k D 0 [] (L2.MR H D (.M5 [])))(A:∀(D:υ)(i:Φ)(ys:γ V)(H':Hp)(w:VK)(R2:Hp->Prop),H D=ε->i<n->a' H H'->H' D<*.M5 ys->k D i ys H'->
   (∀y h,h D<*.M5 ys->a' H (L2.MR h D (.M5 (ys++[y])))->k D (i+1) (ys++[y]) (L2.MR h D (.M5 (ys++[y])))->w y h)->(∀g,a' H g->g D<*.M5 ys->k D (i+1) ys g->R2 g)->
   u (δ (.MQ (lo+(i:ML)))::p) H' λb g=>if b=ξ then v (δ (.MQ (lo+(i:ML)))::p) g w else R2 g)(B:∀D ys H',H D=ε->a' H H'->H' D<*.M5 ys->k D n ys H'->Q (.π D) H'):∀D,H D=ε->∃W:Φ->Φ->γ V->Hp->Prop,
 (∃m,W 0 m [] (L2.MR H D (.M5 [])))/\∀i m ys f,W i m ys f->f D=δ (.M5 ys)/\(((Fk lo n).Sv i f/\Q (.π D) f)\/((Fk lo n).go i f/\ys.β<Λ/\∀x r,(Fk lo n).X6 i f x r->
  u (δ x::p) r λb g=>if b=ξ then v (δ x::p) g λy h=>h D=δ (.M5 ys)/\∃l,l<m/\W (i+1) l (ys++[y]) (L2.MR h D (.M5 (ys++[y])))
   else ∃l,l<m/\W (i+1) l ys g)):=by
 intro D q;refine(λi m ys f=>m=n-i/\i≤n/\ys.β≤i/\a' H f/\f D=δ (.M5 ys)/\k D i ys f,(n,!1,Nb _,!1,a'.MR q,j_,h0 D q),3);rintro i m ys f⟨rfl,C,t,o,j,hp⟩;refine(j,3);by_cases d:i<n
 .refine .NT (d,Nk t (Ψ d hz),λx r s=>?_);let⟨e,z⟩:=s;subst e z;show A D i ys r _ _ q d o j hp (λy h a b c=>(a,n-(i+1),Pf _ _ d,1,d,by rw[w_];show QC t,b,j_,c)) (λg a b c=>(n-(i+1),Pf _ _ d,1,d,Φ.V4 t,a,b,c))
 .let e:i=n:=Rc C (OQ d);subst e;show .NI (LT _,B D ys f q o j hp)
def IW{a:γ υ}(c:a.β=k+1)(h:a[k]?<*b):AN (a.NL V.π) (-1)<*.π b:=by
 let e:a=a.OC k++[b]:=by rw[<-DV h,N6 (!6)]
 rw[e,Nu];show IK _ _
def c9{ws:LN}(h:j<ws.β):(ws.NL f).MI j 0=f (ws.MI j 0):=by
 rw[u6,u6,tS,n_ h];rfl
def GF{ws:LN}(h:j<ws.β):ws.MI j 0∈ws:=by
 rw[u6,n_ h];show Nt h
def m6{H:Hp}(h1:H r<*.M5 (c_ ns))(h2:H p<*.M5 (ls.NL V.π))(c:ls≠[]):r≠p:=by
 rintro ζ;rw[h1]at h2;injection h2 with h2;injection h2 with h2;cases ls with
 |Op=>show c ζ
 |NX a l=>
  cases ns with
  |Op=>cases h2
  |NX n ns=>
   rw[Qp,c_,Qp]at h2;injection h2 with b _;cases b
section
variable{K:Frag}{te:TE}{tt:TT}{σ:St}{H:Hp}{Q:VK}{a c d:Addr}{o:HO}{xs zs:List V}
def EY(h:∀R:VK,R (.π a) H->l σ H R)(q:o=.M5 xs\/o=.No xs)(j:H a<*o)(f:υ->Φ->γ V->Hp->Prop)(hz:xs.β≤Λ)(h0:∀D,H D=ε->f D 0 [] (L2.MR H D (.M5 [])))(n:∀(D:υ)(i:Φ)(x:V)(ys:γ V)(H':Hp)(k:VK)(R2:Hp->Prop),H D=ε->xs[i]?<*x->a' H H'->H' D<*.M5 ys->f D i ys H'->
   (∀y g,g D<*.M5 ys->a' H (L2.MR g D (.M5 (ys++[y])))->f D (i+1) (ys++[y]) (L2.MR g D (.M5 (ys++[y])))->k y g)->(∀e,a' H e->e D<*.M5 ys->f D (i+1) ys e->R2 e)->
   tt (δ x::σ) H' λb e=>if b=ξ then te (δ x::σ) e k else R2 e)(p:∀D ys H',H D=ε->a' H H'->H' D<*.M5 ys->f D xs.β ys H'->Q (.π D) H'):FG (JU l) tt te σ H Q:=
 h _ (a,o,xs,1,q,j,λJ m=>JV m j f hz h0 n p)
def IX{n:Φ}(j:∀R:γ V->Hp->Prop,R [.MQ (n:ML)] H->t σ H R)(m:n≤2100)(f:υ->Φ->γ V->Hp->Prop)(h0:∀D,H D=ε->f D 0 [] (L2.MR H D (.M5 [])))(k:∀(D:υ)(i:Φ)(ys:γ V)(H':Hp)(h:VK)(R2:Hp->Prop),H D=ε->i<n->a' H H'->H' D<*.M5 ys->f D i ys H'->
   (∀y g,g D<*.M5 ys->a' H (L2.MR g D (.M5 (ys++[y])))->f D (i+1) (ys++[y]) (L2.MR g D (.M5 (ys++[y])))->h y g)->(∀e,a' H e->e D<*.M5 ys->f D (i+1) ys e->R2 e)->
   tt (δ (.MQ (0+(i:ML)))::σ) H' λb e=>if b=ξ then te (δ (.MQ (0+(i:ML)))::σ) e h else R2 e)(l:∀D ys H',H D=ε->a' H H'->H' D<*.M5 ys->f D n ys H'->Q (.π D) H'):FG (vN t) tt te σ H Q:=
 j _ ((n:ML),1,!6,!6,mh (n:=n) f (sT (!2)) h0 k l)
end
def CV(L:LN)(W:LL)(r c:Φ)(u:LN):PD L W r (c::u)=PD L W (Bw L W r c) u:=ζ
section
variable{P:Program}{w:World}{H:Hp}{d q:Addr}{ps:List (Nat×Nat)}
end
def HU{B:γ MX}(h:r<B.β):AN (B.NL V.bl) ((r:Φ):ML)<*.bl (B.MI r η):=D_ V.bl (by rw[u6,n_ h];rfl)
def JX{b:Type}{l:γ b}(h:l.β=1):∃a,l=[a]:=match l,h with|[a],_=>(a,1)
def JY{c:Type}{l:γ c}(h:l.β=2):∃a b,l=[a,b]:=match l,h with|[a,b],_=>(a,b,1)
def zd{d:Type}{l:γ d}(h:l.β=3):∃a b c,l=[a,b,c]:=match l,h with|[a,b,c],_=>(a,b,c,1)
def zc{e:Type}{l:γ e}(h:l.β=4):∃a b c d,l=[a,b,c,d]:=match l,h with|[a,b,c,d],_=>(a,b,c,d,1)
end RA
namespace L2
open PySem.Spec PyProof.Rows
structure CW(N ps fr:List Str)(sc:Scope):Prop where
 kind:sc.kind=.function
 co:sc.isCoroutine=false
 gen:sc.isGenerator=false
 nd:N.Nodup
 pre:N.take ps.length=ps
 suf:N.drop (N.length-fr.length)=fr
 fit:ps.length+fr.length≤N.length
 par:∀x∈ps,sc.names.lookup x<*.local
 nocell:∀y∈sc.names,y.2≠.cell
structure A2(h:Heap)(clos:List (Str×Addr))(sc:Scope)(fr:List Str)(fvs:List V):Prop where
 inj:∀y z c,clos.lookup y<*c->clos.lookup z<*c->y=z
 has:∀y∈sc.names,y.2=.free->∃c,clos.lookup y.1<*c
 cell:∀y c,clos.lookup y<*c->∃v,h.IsCell c v
 len:fvs.length=fr.length
 val:∀(i:Nat)(y:Str)(v:V),fr[i]?<*y->fvs[i]?<*v->(sc.names.lookup y<*.free)/\∃c u,clos.lookup y=some c/\h.IsCell c (some u)/\ad v u
abbrev bA(CX:CXT)(P:NC)(w:Ny)(K:Nl)(mg:M'->ω θ)(ς:NR)(N:γ M')(M4:M')(NE:RX)(f:υ)(cd:θ)(OT:γ (M'×υ))(A:N0)(Fr:γ WC)(s:MH)(H:Hp)(E:XK):Cx where
 Ξ:=P
 w:=w
 K:=K
 mg:=mg
 ς:=ς
 A:=A.RE (envX M4 NE s⁻¹ f cd OT)
 N:=N
 RJ:=s
 XJ:=H
 KK:=envX M4 NE s⁻¹ f cd OT
 Fr:=Fr
 NA:=envX M4 NE s⁻¹ f cd OT::Fr
 ex:=[]
 T0:=ξ
 fn:=λ_=>η
 pn:=[]
 xe:=λe s'=>BT (Cl P w) (A.RE (envX M4 NE s⁻¹ f cd OT)) (SB (envX M4 NE s⁻¹ f cd OT) e) (λ_ s''=>CX Fr H s E e s'') (λe' s''=>CX Fr H s E e' s'') s'
abbrev Dx(N:γ M')(vs UU:γ V):St:=vs.NL δ++(Wz (N.β-vs.β-UU.β) ε++UU.NL δ)
def ue:∀{ps:γ M'}{us:γ θ}{i:Φ},ps.Nx->ps[i]?<*x->us[i]?<*v->(ps.Td us).Nc.ρ x<*v:=by
 intro ps us i f h1 h2;let g:(x,v,)∈(ps.Td us).Nc:=by
  rw[VU];let hz:(ps.Td us)[i]?<*(x,v,):=by rw[Pq];show(h1,h2)
  show AC hz
 let b:∀a,(x,a,)∈(ps.Td us).Nc->a=v:=λa c=>by
  rw[VU]at c;let⟨j,d⟩:=NM.mp c;rw[Pq]at d;let e:j=i:=Bc f d.1 h1;subst e;have:=d.2;rw[h2]at this;show(ω.δ.QG this).MO
 cases e:(ps.Td us).Nc.ρ x with
 |ε=>
  have:=γ.lookup_eq_none_iff.mp e _ g;simp at this
 |δ a=>rw[b a (Δ.OV e)]
section
variable{CX:CXT}{P:Program}{w:World}{K:Frag}{mg:Str->Option Value}{base:Heap}{N ps fr:List Str}{qual:Str}{scope:Scope}{f:Addr}{cd:Value}{clos:List (Str×Addr)}{A:Around}{outer:List Env}{s:Shared}{H:Hp}{E:XK}{us:List Value}{vs fvs:List V}
def Lu(S:CW N ps fr NE)(C:A2 ς OT NE fr UU)(I:A.PL=ε)(d:bx P w K mg ς A Fr s H)(T:vs.β=ps.β)(r:ae vs us)(D:h'.Ns s⁻¹ (λx=>(ps.Td us).Nc.ρ x))(t:Pd s⁻¹ (s.ο.Ni {OM:=.MM "frame",NH:=.Pv #[]}) h'):f' (bA CX P w K mg ς N M4 NE f cd OT A Fr s H E) [] (Dx N vs UU) H {s with ο:=h',MT:=Z}:=by
 let F:∀b o,s.ο.ψ b<*o->h'.ψ b<*o:=λb o e=>t.S3 b o (M8 (lt_size e)) (sy _ e);let j:∀b:υ,b∉(bA CX P w K mg ς N M4 NE f cd OT A Fr s H E).ex:=λb z=>MJ (show b∈([]:γ υ)from z) (!1);let g:∀c v,ς.Tb c v->h'.Tb c v:=λc v J=>by let⟨o,B,I⟩:=J;show(o,F c o (d.bs c o B).1,I)
 let Q:us.β=ps.β:=by rw[<-r.β];show T
 let L:=S.fit;let U:=C.PJ;refine((d.VT,S.RR,5,LT _,λy z c h1 h2=>C.QG y z c h1 h2,λy k=>?_,λy c h=>MJ (show η=ξ from h) MX.M9,λ_=>I,N0.Yr d.QZ,.NT (1,1),λb z=>MJ z (j b),d.bs,d.bsz,λb _ _=>j b,λb z=>MJ z (j b),d.VY,d.frf),
  rfl,d.Rz,Un.SW F,(_,D,λi y v h1 h2 h3=>?_),λy c h=>?_,d.Oc.OF (LT _),λy c h=>?_,λp hp=>MJ (show p∈([]:γ (υ×Rm))from hp) (!1),d.Oc.SW F,3)
 .let k:NE.MP.ρ y<*.N8\/NE.MP.ρ y<*.N4:=k;rcases k with k|k
  .exact MJ ζ (S.nocell _ (Δ.OV k))
  .exact C.Tn _ (Δ.OV k) ζ
 .let h1:N[i]?<*y:=h1;let hi:i<N.β:=(q5 h1).1;unfold Dx at h2;by_cases m:i<vs.β
  .let X:vs[i]?<*v:=by
    rw[MY (by simpa using m),tS]at h2;cases e:vs[i]? with
    |ε=>rw[e]at h2;cases h2
    |δ a=>rw[e]at h2;cases h2;rfl
   let⟨u,R,M⟩:=r.VE X;let hp:ps[i]?<*y:=by
    rw[<-S.pre,γ.Vx (!6)];show h1
   let n:ps.Nx:=by rw[<-S.pre];show S.nd.sublist (γ.take_sublist _ _)
   show(u,M,.NI (S.YJ y (AC hp),ue n hp R))
  .rw [MW (by simpa using m)]at h2;rw[ol]at h2;by_cases l:i-vs.β<N.β-vs.β-UU.β
   .rw [MY (by simpa using l),γ.Tx,Id l]at h2;cases h2
   .rw [MW (by simpa using l),PF,tS]at h2;let Y:i-vs.β-(N.β-vs.β-UU.β)=i-(N.β-fr.β):=by lia
    rw[Y]at h2;cases e:UU[i-(N.β-fr.β)]? with
    |ε=>rw[e]at h2;cases h2
    |δ a=>
     rw[e]at h2;cases h2;let W:fr[i-(N.β-fr.β)]?<*y:=by
      let q:(N.Pu (N.β-fr.β))[i-(N.β-fr.β)]?<*y:=by
       rw[γ.V7,show N.β-fr.β+(i-(N.β-fr.β))=i by omega];show h1
      rw[S.suf]at q;show q
     let⟨k1,c,u,k2,k3,O⟩:=C.Zu _ _ _ W e;show(u,O,.NT (.NT k1,c,k2,g c _ k3))
 .obtain ⟨v,z⟩:=C.N8 y c h;show(v,g c v z)
 .obtain ⟨v,o,B,_⟩:=C.N8 y c h;show(d.bs c o B).2
 .unfold Dx;change _=N.β;simp only[w_,ol,PF];lia
def Gi(ho:ς.ψ f<*o)(hd:o.NH=.QY (Δ.W.fnX OD M4 d g NE OT .ε .ε Pi pm ε (.π j) U))(R:ς.N7 (.π j) M4)(S:CW N ps fr NE)(C:A2 ς OT NE fr UU)(PJ:∀vs H Q E,X vs H Q E->vs.β=ps.β)(i:∀(A:N0)(Fr:γ WC)(s:MH)(H:Hp)(vs:γ V)(Q:VK)(E:XK),ak k (A.RE (envX M4 NE s⁻¹ f (.π j) OT))->X vs H Q E->
   ∃t,BA (bA pu P w K mg ς N M4 NE f (.π j) OT A Fr s H E).nox g t/\t {nx:=λ_ H'=>Q .Rt H',rt:=Q} (Dx N vs UU) H):aa P w K mg ς pu (k+1) f (Δ.W.fnX OD M4 d g NE OT .ε .ε Pi pm ε (.π j) U) ps X:=by
 refine(PJ,λA Fr s H ab us vs Q E L B hb r m=>?_);let Z:=PJ _ _ _ _ m;let F:s.ο.X3:=B.VT.WZ.Oq λb o e=>(B.bs b o e).1;let ag:us.β=ps.β:=by rw[<-r.β];show Z
 let h:∀y∈ps.Td us,NE.MP.ρ y.1<*.local:=λT hy=>by let⟨n,v⟩:=T;show S.YJ n (Ur hy).1
 let x:s.ο.N7 (.π j) M4:=by
  let⟨c,Y,ws,t,e1,e2,e3,e4⟩:=R;show(c,Y,ws,t,e1,(B.bs c Y e2).1,e3,e4)
 refine Sk L.Wj (B.bs f o ho).1 hd S.co S.gen ζ x (hb _ _ _ _ ?_);refine VI (closure:=OT) (around:=ε) S.nocell h (λh' M p=>?_) S.RR;let O:∀b o,s.ο.ψ b<*o->h'.ψ b<*o:=λb o e=>p.S3 b o (M8 (lt_size e)) (sy _ e);refine(F.Oq O,Wk ?_);let⟨t,ht,hq⟩:=i A Fr s H vs Q E (L.RE _) m;let I:f' (bA pu P w K mg ς N M4 NE f (.π j) OT A Fr s H E) [] (Dx N vs UU) H {s with ο:=h',MT:=s.MT+(ps.Td us).β}:=Lu S C L.hd B Z r M p;refine NG (ht.nox [] _ (Dx N vs UU) H _ I hq) (λfl s' l=>?_) λe s' l=>l;let z:∀{a:St}{H':Hp}{v:V}{u:θ},f' (bA pu P w K mg ς N M4 NE f (.π j) OT A Fr s H E) [] a H' s'->ad v u->Q v H'->CE Fr P w H s Q u s':=
  λ{a H' v u}J D q=>(v,H',J.os,J.Rz,J.ς,J.Oc,D,q)
 cases fl with
 |UT u=>
  let⟨v,a,H',J,D,q⟩:=l;show z J D q
 |next=>
  let⟨a,H',J,q⟩:=l;show z (v:=V.Rt) (u:=θ.ε) J ζ q
 |Yg=>
  let⟨_,_,_,q⟩:=l;show NU.Nv q
 |T_=>
  let⟨_,_,_,q⟩:=l;show NU.Nv q
end
abbrev wC(i:Φ)(f:υ)(sp:Sp)(t:TA):TE:=λσ H Q=>σ[i]?=δ (δ (.π f))/\t σ H λvs H1=>sp vs H1 Q E0
def HV{X:Cx}{k i:Φ}{f:υ}{u b:Sb}{d:θ}{p Ng:Sn}(F:aa X.Ξ X.w X.K X.mg X.ς pu k f u ps B)(J:ak k X.A)(o:X.ς.ψ f<*(d,n,.QY b,m))(N:Ao X.K u ps [])(E:PE X (.Nz x p) (bB i))(O:PA X (e::c) t)(M:(Θ (e::c) X.KK=(η,OJ e X.KK,)::Θ c X.KK)>>>4)(g:((OE Ng (Θ c X.KK)).Qk (·.1)=η)>>>4):PE X (.QE (.Nz x p) (e::c) [] Ng) (wC i f B t):=by
 intro a s l H Q I h;refine Nh (ri (E a s l H (λv j=>v=.π f/\j=H) I (_,h.1,5)) λP C L=>?_);let⟨v,j,z,D,ζ,ζ⟩:=L;obtain ζ:P=.π f:=D;refine Δ.W.callWith_F (d,n,b,m,(z.bs f _ o).1) (ri (O Ng a C l j _ z h.2) λus s2⟨vs,R,y,r,q⟩=>((d,n,b,m,(y.bs f _ o).1),3)) M g;show kQ F J N .Op CS y r (by rw[Oa];show q)
def fQ(q:Sn)(r:γ θ)(l:γ θ)(h:S6 l):Qs q (l++r)=(Qs q l).or (Qs q r):=by
 induction l using S6.induct with
 |case1=>simp[Qs]
 |case2 a t b u c Rr d=>
  let h:S6 Rr:=h;simp only[Rh,Qs];split
  .rfl
  .exact d h
 |case3 l h1 h2=>
  exfalso;unfold S6 at h;split at h
  .exact h1 ζ
  .exact h2 _ _ _ _ _ _ ζ
  .exact h
def Lv(x y:ML)(t u:Xp)(c:θ)(l:γ θ)(h:S6 l):S6 (l++[.MQ x t,.MQ y u,c]):=by
 induction l using S6.induct with
 |case1=>show Ol.Ob
 |case2 a t b u c Rr d=>show d h
 |case3 l h1 h2=>
  exfalso;unfold S6 at h;split at h
  .exact h1 ζ
  .exact h2 _ _ _ _ _ _ ζ
  .exact h
abbrev pd(c:υ)(q:M'):HO:=.ext λh=>h.N7 (.π c) q
abbrev Aj(f:υ)(OD M4:M')(Oz:QK)(Yt:γ Nr)(NE:RX)(OT:γ (M'×υ))(c:υ):HO:=.ext λh=>∃Pi pm XX,h.ψ f<*Ry OD M4 Oz Yt NE OT Pi pm c XX
inductive A_(H:Hp)(P0:Addr)(sites:List (Pos×Str)):Prop
 |mk (ps:_) (_:H P0<*.tbl ps) (_:TriplesOk ps.toList) (_:∀q∈sites,codeAmong q.1 ps.toList=none\/∃c,codeAmong q.1 ps.toList=some (.ref c)/\H c<*(pd c q.2))
abbrev Cu(P0:υ)(H H':Hp):Prop:=∀b o,b≠P0->H b<*o->H' b<*o
structure Dy(h:Heap)(mg:Str->Option Value):Prop where
 ex:∃bm o,mg "__builtins__"=some (.ref bm)/\bm≠builtinsNs/\bm≠mainGlobals/\h.get? bm=some o/\o.cls=.type "module"/\o.dict=some builtinsNs/\o.data=.plain
abbrev yd(X:Cx)(P0:υ)(OL:γ (Sn×M'))(i:Φ)(OD M4:M')(Oz:QK)(Yt:γ Nr)(sc:RX):TS:=λD σ H=>A_ H P0 OL/\
 ∀(OT:γ (M'×υ))(f c:υ)(H1:Hp),(∀y a,OT.ρ y<*a->X.KK.Rj.ρ y<*a)->(∀y∈sc.MP,y.2=.N4->∃a,OT.ρ y.1<*a)->H f=ε->f≠c->Cu P0 H H1->A_ H1 P0 OL->
  H1 c<*pd c M4->H1 f<*Aj f OD M4 Oz Yt sc OT c->D.nx (σ.RY i (δ (.π f))) H1
def fJ(x:h.N7 (.π c) q):Az P w H h c (pd c q):=by
 let⟨g,a,vs,t,e,b,f,d⟩:=id x;cases e;refine(x,(a,b),λh1 h2 y k=>?_);let⟨g,a,vs,t,e,b,f,d⟩:=y;cases e;show(_,a,vs,t,1,k _ b,f,d)
def nA{P:NC}{w:Ny}(x:h.ψ f<*Ry OD M4 a i b g Pi pm c l):Az P w H h f (Aj f OD M4 a i b g c):=
 ((Pi,pm,l,x),(_,x),λ_ _ j k=>by let⟨d,p,v,e⟩:=j;show(d,p,v,k _ e))
def FM{X:Cx}{d:QK}{g:γ Nr}{sc:RX}(hN:X.N.Nx)(hi:X.N[i]?<*OD)(hx:DG X.KK.NE OD)(J:X.KK.code=.π c)(hC:QD X.ς c P0)(hB:Dy X.ς X.mg)(an:(Ng,M4,)∈OL)(R:∀q∈OL,q.1.SV=Ng.SV->q.1.VF=Ng.VF->q.2=M4)(hq:(qualnameIn X.KK OD OD=M4)>>>4)(bD:(d.defaults=[])>>>4)(bg:(d.kw_defaults=[])>>>4)(ha:(annTrees d ε X.KK=[])>>>4)(az:((sc.MP.P' λy=>y.2 != .N4||X.KK.NE.MP.ρ y.1==δ .N8)=ξ)>>>4)(hf:(X.fn OD=ξ\/X.KK.NE.MP.ρ OD<*.local)>>>8):PS X (.Vh OD d g [] ε [] sc ε OD Ng) (yd X P0 OL i OD M4 d g sc):=by
 intro B s σ H D I h;let⟨⟨ps,hP,ht,M⟩,h⟩:=h;let bl:∀y∈sc.MP,y.2=.N4->X.KK.Og y.1<*.N8:=λy hy e=>by
  let q:=NN.mp az y hy;rw[e]at q;simpa[WC.Og]using q
 let⟨m,L,Y,Z⟩:=JH (KK:=X.KK) (sc:=sc) λy hy e=>I.ok.Tn y.1 (.NI (bl y hy e));let aH:s.ο.ψ P0<*ZL ps:=I.Oc P0 _ hP;let ab:P0<s⁻¹:=I.Oc.lt hP;let U:s.ο.BuiltinsAt X.mg P0:=by
  let⟨bm,o,e1,e2,e3,e4,e5,e6,e7⟩:=hB.ex;refine(bm,o,e1,e2,e3,λz=>?_,(I.bs bm o e4).1,e5,e6,e7);let n:=(I.bs bm o e4).2;rw[z,hP]at n;cases n
 let ar:s.ο.Ns LE X.mg:=I.VT.Wf.Oq I.bk;let bi:LE≠P0:=λz=>by
  let⟨o,es,ep,e,hd,_⟩:=ar;rw[z,aH]at e;cases e;cases hd
 let a5:=hC.Oq I.bk;refine Δ.W.nestDef_K bD bg ha ?_;rw[hq];let a6:∀{f:υ}{s1:MH}{Q:Hp},f' X B σ Q s1->D.nx (σ.RY i (δ (.π f))) Q->BT (Cl X.Ξ X.w) X.A (storeName X.KK OD (.π f)) (λ_ a7=>SP X B D .next a7) X.xe s1:=λ{f s1 Q}I1 q=>
  AO I1 hN hi hx (v:=.π f) ζ (λs' I'=>(_,Q,I',q)) hf
 let a8:∀{b:υ}{u:HO},H b<*u->b<s⁻¹:=λe=>I.Oc.lt e;rcases M _ an with bf|⟨c0,a0,a1⟩
 .refine Δ.W.makeFunction_K (mg:=X.mg) L I.ok.Wf ar J a5 aH ht bf bi U λj r Pi h' tk a9 as aV aN bd=>?_;let bM:P0≠j:=M8 (Ψ ab as);let C:s⁻¹<h'.Np.MV:=Nk as aV;let a4:P0≠h'.Np.MV:=M8 (P9 ab C);let aB:j≠h'.Np.MV:=M8 aV;generalize bo:h'.Np.MV=f at a4 aB C⊢;let kp:∀b o,b≠P0->s.ο.ψ b<*o->(h'.Ni (Ry OD M4 d g sc m Pi ((X.mg "__name__").MI .ε) j r)).ψ b<*o:=λb o k e=>sy _ (a9 b o k e);let aT:(h'.Ni (Ry OD M4 d g sc m Pi ((X.mg "__name__").MI .ε) j r)).ψ f<*Ry OD M4 d g sc m Pi ((X.mg "__name__").MI .ε) j r:=by rw[<-bo];show MS _ ζ
  let aU:(h'.Ni (Ry OD M4 d g sc m Pi ((X.mg "__name__").MI .ε) j r)).N7 (.π j) M4:=by
   let⟨c2,oc,vs,t,e,e1,e2,e3⟩:=aN;show(c2,oc,vs,t,e,sy _ e1,e2,e3)
  let T:(h'.Ni (Ry OD M4 d g sc m Pi ((X.mg "__name__").MI .ε) j r)).ψ P0<*ZL (ps++#[Nw Ng.SV,Nw Ng.VF,.π j]):=sy _ bd;generalize h'.Ni (Ry OD M4 d g sc m Pi ((X.mg "__name__").MI .ε) j r)=hh at kp aT aU T⊢;generalize ap:ps++#[Nw Ng.SV,Nw Ng.VF,.π j]=WO at T;let aM:∀{b:υ},b<s⁻¹->b≠j/\b≠f:=λk=>(M8 (Ψ k as),M8 (P9 k C));let P:∀{b:υ},b<s⁻¹->b≠P0->MR (MR (MR H P0 (.Wv WO)) j (pd j M4)) f (Aj f OD M4 d g sc m j) b=H b:=λk U=>by
   rw[a_ (aM k).2,a_ (aM k).1,a_ U]
  let ag:∀{b:υ},b≠P0->b≠j->b≠f->MR (MR (MR H P0 (.Wv WO)) j (pd j M4)) f (Aj f OD M4 d g sc m j) b=H b:=λh1 h2 h3=>by
   rw[a_ h3,a_ h2,a_ h1]
  let F:MR (MR (MR H P0 (.Wv WO)) j (pd j M4)) f (Aj f OD M4 d g sc m j) P0<*.Wv WO:=by rw[a_ a4,a_ bM,j_]
  let E:MR (MR (MR H P0 (.Wv WO)) j (pd j M4)) f (Aj f OD M4 d g sc m j) j<*pd j M4:=by rw[a_ aB,j_]
  let O:MR (MR (MR H P0 (.Wv WO)) j (pd j M4)) f (Aj f OD M4 d g sc m j) f<*Aj f OD M4 d g sc m j:=j_;generalize MR (MR (MR H P0 (.Wv WO)) j (pd j M4)) f (Aj f OD M4 d g sc m j)=Q at P ag F E O;let nP:∀{b:υ},H b=ε->b≠P0:=λn z=>by rw[z,hP]at n;cases n
  let x:∀{b:υ}{u:HO},H b<*u->b≠P0->Q b<*u:=λe k=>by rw[P (a8 e) k];show e
  let p:∀{b:υ}{u:HO},H b<*u->(∀ps,u≠.Wv ps)->Q b<*u:=λe hu=>x e λz=>by
   rw[z,hP]at e;cases e;show hu _ ζ
  let un:Un X.fs [] H Q s.ο hh:=by
   refine(λb o e n _ _=>kp b o (nP n) e,λb o e n _ _=>(o.Rw,kp b o (nP n) e),λb o e n _=>by rw[P (lt_size e) (nP n)];show n,λb o e _=>?_,λb xs e=>p e (λ_ z=>nomatch z),λb o u e=>p e (λ_ z=>nomatch z),λb qs e=>?_)
   .by_cases k:b=P0
    .rw [k];show(_,T)
    .exact (o,kp b o k e)
   .by_cases k:b=P0
    .rw [k,hP]at e;cases e;rw[k];show(_,by rw[F,ap])
    .exact (#[],by rw[x e k];simp)
  let aS:Au X.Ξ X.w Q hh:=λa o e=>by
   by_cases a2:a=f
   .rw [a2]at e⊢;rw[O]at e;cases e;show nA aT
   by_cases a3:a=j
   .rw [a3]at e⊢;rw[E]at e;cases e;show fJ aU
   by_cases aC:a=P0
   .rw [aC]at e⊢;rw[F]at e;cases e;show T
   rw[ag aC a3 a2]at e;refine(I.Oc a o e).ST (λb u k q=>kp b u (λz=>?_) q) (λb q=>p q (λ_ z=>nomatch z)) λb xs q=>p q (λ_ z=>nomatch z);rcases k with k|k
   .exact aC (k▸z)
   .rw [z,hP]at k;cases k
  let I1:f' X B σ Q {s with ο:=hh,MT:=tk}:=I.un un aS;refine a6 I1 (h m f j Q Y Z (I.Oc.OF (Pn C)) (Ne.MO aB) (λb o k e=>x e k) (WO,F,3,λq S=>?_) E O)
  .rw [<-ap,Nq.V3];show Lv _ _ _ _ _ _ ht
  .rw [<-ap,Nq.V3,fQ _ _ _ ht];rcases M q S with hn|⟨c1,h1,h2⟩
   .rw [hn,ω.none_or];by_cases l:q.1.SV=Ng.SV/\q.1.VF=Ng.VF
    .refine .NT (j,3,3)
     .change Qs q.1 [Nw Ng.SV,Nw Ng.VF,.π j]=_;simp[Qs,Nw,l.1,l.2]
     .rw [R q S l.1 l.2];show E
    .refine .NI ?_;change Qs q.1 [Nw Ng.SV,Nw Ng.VF,.π j]=_;simp only[Qs,Nw];rw[Ω];intro z;simp at z;show l (!6,!6)
   .rw [h1,ω.some_or];show .NT (c1,1,p h2 (λ_ z=>nomatch z))
 .refine Δ.W.makeFunction_hit (mg:=X.mg) L I.ok.Wf ar J a5 aH ht a0 U λr Pi h' tk hk V6=>?_;let I1:f' X B σ (MR H h'.Np.MV (Aj h'.Np.MV OD M4 d g sc m c0)) {s with ο:=h'.Ni (Ry OD M4 d g sc m Pi ((X.mg "__name__").MI .ε) c0 r),MT:=tk}:=
   I.Tw (λb u e=>sy _ (hk b u e)) V6 (nA (MS _ ζ))
  let aA:H h'.Np.MV=ε:=I.Oc.OF V6;let kH:∀{b:υ}{u:HO},H b<*u->MR H h'.Np.MV (Aj h'.Np.MV OD M4 d g sc m c0) b<*u:=λe=>by rw[a_ (e_ e aA)];show e
  refine a6 I1 (h m _ c0 _ Y Z aA (Ne.MO (e_ a1 aA)) (λb o _ e=>kH e) (ps,kH hP,ht,λq S=>?_) (kH a1) j_);rcases M q S with hn|⟨c1,h1,h2⟩
  .exact .NI hn
  .exact .NT (c1,h1,kH h2)
abbrev Ak(U:γ υ)(H:Hp):Hp:=λb=>if b∈U then ε else H b
abbrev T9(U:γ υ)(H H':Hp):Hp:=λb=>if b∈U then H b else H' b
def HW(h:b∈U):Ak U H b=ε:=Id h
def BH(h:b∉U):Ak U H b=H b:=Ω h
def GG(h:b∈U):T9 U H H' b=H b:=Id h
def Ee(h:b∉U):T9 U H H' b=H' b:=Ω h
def Mod.Oq{K:Nl}(M:Mod K mg h)(k:∀b o,h.ψ b<*o->h'.ψ b<*o):Mod K mg h':=
 (M.Vv.Oq k,M.Wf.Oq k,let⟨c,a,b⟩:=M.blt;(c,a.Oq k,b),M.WZ.Oq k)
section
variable{P:Program}{w:World}{K:Frag}{mg:Str->Option Value}{base:Heap}{A:Around}{outer:List Env}{s:Shared}{H:Hp}{U:List Addr}
def ix(f:bx P w K mg ς A Fr s H)(l:∀u∈U,∃φ,H u<*.ext φ):∃c,bx P w K mg c A Fr s (Ak U H)/\(∀b o,ς.ψ b<*o->c.ψ b<*o)/\∀b o,s.ο.ψ b<*o->b∉s_ Fr->Ak U H b=ε->c.ψ b<*o:=by
 let h:∀b o,s.ο.ψ b<*o->b∉s_ Fr->Ak U H b=ε->(Qo s.ο (F_ s.ο (Ak U H)++s_ Fr)).ψ b<*o:=λb o e r p=>Pp _ e λk=>by
  rcases Na.mp k with z|z
  .let q:((Ak U H) b).Rx=ξ:=(Q'.mp z).2;rw[p]at q;cases q
  .exact r z
 let g:∀b,H b=ε->b∉U:=λb n z=>by
  let⟨φ,e⟩:=l b z;rw[n]at e;cases e
 let Rp:∀b o,ς.ψ b<*o->(Qo s.ο (F_ s.ο (Ak U H)++s_ Fr)).ψ b<*o:=λb o e=>by
  let⟨j,n⟩:=f.bs b o e;refine h b o j (λz=>?_) (by rw[BH (g b n)];show n);have:=(f.VY.mem z).1;rw[e]at this;cases this
 let d:∀{b:υ}{u:HO},H b<*u->(∀φ,u≠.ext φ)->Ak U H b<*u:=λ{b u}e m=>by
  rw[BH λz=>?_]
  .exact e
  .obtain ⟨φ,e'⟩:=l b z;rw[e]at e';show m φ (ω.δ.QG e')
 refine(Qo s.ο (F_ s.ο (Ak U H)++s_ Fr),(f.QZ,f.VT.Oq Rp,λb o e=>?_,Rb (Δ.W.hideAll_size _ _),FJ f.VY λb i=>Nn _ i,λb i=>?_,λa o e=>?_,f.Rz),Rp,h)
 .let j:=SH _ e;refine(j,3);cases q:Ak U H b with
  |ε=>rfl
  |δ u=>
   let k:b∈F_ s.ο (Ak U H)++s_ Fr:=RL _ (Q'.Om (Nm.Om (lt_size j),by simp[q]));rw[O' _ k]at e;cases e
 .rw [BH (g b (f.frf b i))];show f.frf b i
 .let t:a∉U:=λz=>by rw[HW z]at e;cases e
  rw[BH t]at e;show(f.Oc a o e).ST (λ_ _ _ q=>q) (λb q=>d q (λ_ z=>nomatch z)) λb xs q=>d q (λ_ z=>nomatch z)
def dZ(C:bx P w K mg ς A Fr s H)(y:∀u∈U,∃φ,H u<*.ext φ)(h:CE Fr P w (Ak U H) s (λv E=>(∀u∈U,E u=ε)->Q v (T9 U H E)) u s'):CE Fr P w H s Q u s':=by
 let⟨v,H',os,p,un,B,r,q⟩:=h;let d:∀b,H b=ε->b∉U:=λb n z=>by
  let⟨φ,e⟩:=y b z;rw[n]at e;cases e
 let k:∀b∈U,b∉s_ Fr:=λb c z=>d b (C.frf b z) c;let f:∀b∈U,∃o,s.ο.ψ b=δ o/\s'.ο.ψ b=δ o/\H' b=ε:=λb c=>by
  let⟨φ,e⟩:=y b c;let⟨_,⟨o,m⟩,_⟩:=C.Oc b _ e;show(o,m,un.P_ b o m (HW c) (k b c) (!1),un.N4 b o m (HW c) (!1))
 let g:∀{b:υ}{x:HO},H b<*x->(∀φ,x≠.ext φ)->b∉U:=λ{b x}e j z=>by
  let⟨φ,e'⟩:=y b z;rw[e]at e';show j φ (ω.δ.QG e')
 let i:∀{b:υ}{x:HO},H' b<*x->T9 U H H' b<*x:=λ{b x}e=>by
  rw[Ee λz=>?_]
  .exact e
  .obtain ⟨_,_,_,n⟩:=f b z;rw[e]at n;cases n
 refine(v,T9 U H H',os,p,(λb o e n c j=>?_,λb o e n c j=>?_,λb o e n j=>?_,un.QO,λb xs e=>?_,λb o x e=>?_,λb ps e=>?_),λa o e=>?_,r,q λb c=>(f b c).Vd.2.2)
 .exact un.P_ b o e (by rw[BH (d b n)];show n) c j
 .exact un.UY b o e (by rw[BH (d b n)];show n) c j
 .rw [Ee (d b n)];show un.N4 b o e (by rw[BH (d b n)];show n) j
 .let c:=g e (λ_ z=>nomatch z);rw[Ee c];show un.QN b xs (by rw[BH c];show e)
 .let c:=g e (λ_ z=>nomatch z);rw[Ee c];show un.VZ b o x (by rw[BH c];show e)
 .let c:=g e (λ_ z=>nomatch z);rw[Ee c];show un.VN b ps (by rw[BH c];show e)
 .by_cases t:a∈U
  .rw [GG t]at e;let⟨φ,e'⟩:=y a t;rw[e']at e;cases e;let⟨o,m,l,_⟩:=f a t;let⟨F,_,D⟩:=C.Oc a _ e';show(D _ _ F (λI z=>by rw[m]at z;cases z;show l),(o,l),D)
  .rw [Ee t]at e;show(B a o e).ST (λ_ _ _ z=>z) (λb z=>i z) λb xs z=>i z
end
structure GH(X:Cx)(U:List Addr)(σ:St)(H:Hp)(base':Heap):Prop where
 sub:∀b o,X.base.get? b<*o->base'.get? b<*o
 mod:Mod X.K X.mg base'
 ext:∀u φ,u∈U->H u<*.ext φ->φ base'
 inj:∀y z c,X.env.cells.lookup y<*c->X.env.cells.lookup z<*c->y=z
 cell:∀y c,X.env.cells.lookup y<*c->∃v,base'.IsCell c v
 val:∀(i:Nat)(y:Str)(v:V),X.N[i]?<*y->σ[i]?<*some v->X.env.scope.names.lookup y<*.cell->∃c u,X.env.cells.lookup y=some c/\base'.IsCell c (some u)/\ad v u
abbrev x6(X:Cx)(f:υ)(fd:Sb)(ps:γ M')(XW:γ V)(t:TA):TE:=λσ H Q=>t σ H λvs H1=>∃U:γ υ,(∀u∈U,∃φ,H1 u<*.ext φ)/\∀base':NR,GH X U σ H1 base'->
 ∃(k:Φ)(sp:Sp),ak k X.A/\aa X.Ξ X.w X.K X.mg base' pu k f fd ps sp/\sp (vs++XW) (Ak U H1) (λv H2=>(∀u∈U,H2 u=ε)->Q v (T9 U H1 H2)) E0
def HX{X:Cx}{f:υ}{p Ng:Sn}(hg:Gl X x)(hm:X.mg x<*.π f)(hk:UO X.K (.π f)=ξ)(hb:Ao X.K fd ps ds)(hd:ae XW ds)(ha:PA X (e::C) t)(M:∀y,X.fn y=ξ)(O:((x==("__debug__":M'))=η)>>>0)(he:(Θ (e::C) X.KK=(η,OJ e X.KK,)::Θ C X.KK)>>>4)(E:((OE Ng (Θ C X.KK)).Qk (·.1)=η)>>>4):PE X (.QE (.Nz x p) (e::C) [] Ng) (x6 X f fd ps XW t):=by
 intro l s R H Q I h;refine Nh (v_ I hg hm ?_ O);refine WJ (h₀:=X.ς) I.ok.VT.Vv hk (ri (ha Ng l s R H _ I h) λus D⟨vs,H1,b,r,q⟩=>(b.TX,3)) he E;let⟨U,Z,q⟩:=q;let⟨a,e0,n,j⟩:=ix b.Ze Z;let d:∀y c v,X.KK.Rj.ρ y<*c->D.ο.Tb c v->a.Tb c v:=λy c v g P=>by
  let⟨o,T,N⟩:=P;let Y:=b.UH y c g;refine(o,j c o T (λz=>?_) ?_,N)
  .rcases MN.mp (b.ZO c z)with z|z
   .exact b.cne y c g z
   .obtain ⟨_,o',J,_⟩:=b.ok.VY.mem z;show MJ (lt_size J) (TU.Om (b.ok.cab y c (M y) g))
  .unfold Ak;split
   .rfl
   .exact Y
 let W:GH X U R H1 a:=by
  refine(n,e0.VT,λu φ hu e=>?_,b.ok.QG,λy c g=>?_,λi y v e1 e2 e3=>?_)
  .obtain ⟨p1,⟨o,T⟩,p3⟩:=b.Oc u _ e;refine p3 _ _ p1 λo2 z=>j u o2 z (λy=>?_) (HW hu);rw[b.Tf u y]at e;cases e
  .obtain ⟨v,z⟩:=b.N8 y c g;show(v,d y c v g z)
  .obtain ⟨m,Y,L⟩:=b.Xx;let⟨u,ru,lk⟩:=L i y v e1 e2 (.NT (.NI e3));rcases lk with⟨k1,_⟩|⟨_,c,g,z⟩
   .have:X.KK.NE.MP.ρ y<*.local:=k1;rw[e3]at this;cases this
   .exact (c,u,g,d y c _ g z,ru)
 let⟨k,sp,hr,F,w⟩:=q a W;let S:ae (vs++XW) (us++ds):=r.Ya hd;let L:(us++ds).β=ps.β:=by rw[<-S.β];show F.PJ _ _ _ _ w
 refine QM (PY (F.PD X.A X.NA D (Ak U H1) (us,[]) (us++ds) (vs++XW) _ E0 hr e0 (hb D us b.TX L) S w) λr s' B=>?_);cases r with
 |R9 e=>show NU.Nv B
 |ok fl=>
  cases fl with
  |UT u=>show b.XZ (dZ b.Ze Z B)
  |next=>show NU.Nv B
  |Yg=>show NU.Nv B
  |T_=>show NU.Nv B
abbrev Cg(ts:γ υ)(K:Nl):Nl:=K.SJ λq=>!ts.M7 q.1
def FN{ts:γ υ}{a:υ}(d:ts.M7 a=η):∀{K:Nl},(Cg ts K).ρ a=K.ρ a
 |[]=>rfl
 |(b,x)::r=>by
  unfold Cg;rw[γ.filter_cons];by_cases e:a=b
  .subst e;rw[Id (by simpa using d),OI,OI];simp
  .let c:(a==b)=η:=NB.Om e;split
   .rw [OI,OI,c];show FN (K:=r) d
   .rw [OI,c];show FN (K:=r) d
def bL{ts:γ υ}{a:υ}{o:Rm}:∀{K:Nl},(Cg ts K).ρ a<*o->ts.M7 a=η
 |[],e=>by cases e
 |(b,x)::r,e=>by
  unfold Cg at e;rw[γ.filter_cons]at e;split at e
  .rename_i d;rw[OI]at e;by_cases c:a=b
   .subst c;simpa using d
   .rw [NB.Om c]at e;show bL (K:=r) e
  .exact bL (K:=r) e
def JZ{K:Nl}(e:K.ρ a<*o)(b:ts.M7 a=η):(Cg ts K).ρ a<*o:=(FN b).ν e
def Lw{K:Nl}(e:Pm K a x=r)(b:ts.M7 a=η):Pm (Cg ts K) a x=r:=by
 unfold Pm at e⊢;rw[FN b];show e
def J0{K:Nl}(e:O8 K (.π c) x=ξ)(a:ts.M7 c=η):O8 (Cg ts K) (.π c) x=ξ:=by
 unfold O8 at e⊢;dsimp only at e⊢;rw[FN a];show e
abbrev ib(K:Nl)(c P:υ):MX:=match K.ρ c with
 | δ ⟨.MM n,_,.N_ vs,_⟩=>n=="code"&&c != P&&(match (vs[11]?:ω θ),(vs[18]?:ω θ),(vs[7]?:ω θ),(vs[9]?:ω θ),(vs[10]?:ω θ)with
   |δ (.π Q),δ (.M_ _ _),δ (.MQ _ _),δ (.Pe _),δ (.MQ _ _)=>Q==P
   | _,_,_,_,_=>η)
 |_=>η
def mj{K:Nl}(X:K.In h)(e:ib K c P=ξ):QD h c P:=by
 unfold ib at e;split at e
 .rename_i n dd vs w g;let f:=X _ _ g;rw[Ou,Ou]at e;let⟨⟨r,q⟩,d⟩:=e;split at d
  .rename_i Q s t i u b j v h1 h2 p o m;let l:Q=P:=SR d;subst l;let a:∀{k:Φ}{x:θ},vs[k]?<*x->vs.MI k .ε=x:=λ{k x}z=>by
    rw[Nq.getD_eq_getD_getElem?,z];rfl
   show(_,vs,s,t,i,u,b,j,v,f,by rw[SR r],1,h1,a h1,a h2,a p,a o,a m,by simpa using q)
  .cases d
 .cases e
structure vR(K:Frag)(q:Addr×Addr):Prop where
 code:ib K q.1 q.2=true
 tab:K.lookup q.2<*(tabObj #[])
abbrev gn(K:Nl)(RI:γ (υ×υ)):Sp:=λvs H Q _=>∃(a:υ)(ns:γ ML),vs=[.π a]/\o5 K H a (ns.NL V.MQ)/\ns.β≤63/\(∀q∈RI,H q.2<*(.Wv #[]))/\∀H',Q (.bl ξ) H'
def jT(x:QD h c P)(k:∀o,o.OM=.MM "code"->h.ψ c<*o->h'.ψ c<*o):QD h' c P:=by
 let⟨o,vs,d,l,a,j,f,b,i,e,g,r⟩:=x;show(o,vs,d,l,a,j,f,b,i,k o g e,g,r)
def pj{P:NC}{w:Ny}{K:Nl}(KX:K.In c.ο)(hT:∀q∈RI,vR K q)(R:c.ο.Ns LE mg)(hB:Dy c.ο mg)(i:c.ο.Ns builtinsNs mb)(ag:∀x:M',x≠"__name__"->mb x=To x)(T:c.ο.X3)(hg:c.Ty=#[])(L:c.ο.ψ a<*{OM:=.MM "list",NH:=.Sx vs.χ})(hi:S' vs ns)(hl:ns.β≤63)(hr:ak k Wl)(F:∀ς:NR,(Cg (RI.NL (·.2)) K).In ς->ς.Ns LE mg->Dy ς mg->(∀q∈RI,QD ς q.1 q.2)->aa P w (Cg (RI.NL (·.2)) K) mg ς pu k fa fd [x] (gn (Cg (RI.NL (·.2)) K) RI))(J:∀(s:MH)(u:θ),X5 s fd ([u],[]) [(x,u,)]):Qe (Cl P w) Wl (.Ql (.π fa) ([.π a],[])) (λr s'=>r=.ok (.UT (.Pe ξ))/\OldK c.ο s'.ο/\s'.os=c.os/\Wp s'.Ty) c:=by
 let rv:=d_D hi;let O:=hi.β;let S:ns.β≤Λ:=IO hl (by rw[OO];decide);let j:∀q∈RI,c.ο.ψ q.2<*(ZL #[]):=λq g=>KX _ _ (hT q g).tab;let hd:∀q∈RI,QD c.ο q.1 q.2:=λq g=>mj KX (hT q g).code;let inT:∀{b:υ},(RI.NL (·.2)).M7 b=ξ->∃q∈RI,q.2=b:=λ{b}i=>by
  rw[QJ]at i;let⟨q,g,e⟩:=O_.mp i;show(q,g,e)
 let t:∀{q:υ×υ},q∈RI->(RI.NL (·.2)).M7 q.2=ξ:=λ{q}g=>by
  rw[QJ];show γ.mem_map_of_mem g
 let aT:(RI.NL (·.2)).M7 a=η:=by
  cases z:(RI.NL (·.2)).M7 a with
  |η=>rfl
  |ξ=>
   let⟨q,g,e⟩:=inT z;let p:=j q g;rw[e,L]at p;cases p
 let E:∀H:Hp,o5 (Cg (RI.NL (·.2)) K) H a (ns.NL V.MQ)->Au P w H c.ο->(∀b,H b=ε\/(b=a/\K.ρ a=ε/\H b<*.frz {OM:=.MM "list",NH:=.Sx vs.χ} (.M5 (ns.NL V.MQ)))\/((RI.NL (·.2)).M7 b=ξ/\H b<*(.Wv #[])))->
   (∀q∈RI,H q.2<*(.Wv #[]))->
   Qe (Cl P w) Wl (.Ql (.π fa) ([.π a],[])) (λr s'=>r=.ok (.UT (.Pe ξ))/\OldK c.ο s'.ο/\s'.os=c.os/\Wp s'.Ty) c:=by
  intro H hS Q hO ap;let f:∀{b:υ}{o:Rm},c.ο.ψ b<*o->H b=ε->(dq c.ο H).ψ b<*o:=λe n=>r9 e n;let freeOf:∀{b:υ}{o:Rm},c.ο.ψ b<*o->b≠a->o≠ZL #[]->H b=ε:=λ{b o}e I ab=>by
   rcases hO b with z|⟨z,_⟩|⟨z,_⟩
   .exact z
   .exact MJ z I
   .obtain ⟨q,g,D⟩:=inT z;let p:=j q g;rw[D,e]at p;show MJ (ω.δ.QG p) ab
  let A:∀{b:υ}{m:M'->ω θ},c.ο.Ns b m->(dq c.ο H).Ns b m:=λ{b m}an=>by let⟨o,es,ep,e,d,r⟩:=an;show(o,es,ep,f e (freeOf e (λz=>by rw[z,L]at e;cases e;cases d) (λz=>by rw[z]at d;cases d)),d,r)
  let W:(Cg (RI.NL (·.2)) K).In (dq c.ο H):=λb o e=>by
   let hn:=bL e;let p:=KX b o ((FN hn).MO.ν e);refine f p ?_;rcases hO b with z|⟨z,N,_⟩|⟨z,_⟩
   .exact z
   .rw [FN hn,z,N]at e;cases e
   .rw [hn]at z;cases z
  let as:Dy (dq c.ο H) mg:=by
   let⟨bm,o,p,D,e3,M,e5,e6,Z⟩:=hB.ex;show(bm,o,p,D,e3,f M (freeOf M (λz=>by rw[z,L]at M;cases M;cases Z) (λz=>by rw[z]at Z;cases Z)),e5,e6,Z)
  let ar:∀q∈RI,QD (dq c.ο H) q.1 q.2:=λq g=>jT (hd q g) λo U e=>f e (freeOf e (λz=>by rw[z,L]at e;cases e;injection U with U;show MJ U (!0)) (λz=>by rw[z]at U;cases U));let hM:Mod (Cg (RI.NL (·.2)) K) mg (dq c.ο H):=(W,A R,(mb,A i,ag),let⟨mc,h1,h2⟩:=T;(mc,A h1,h2));let e0:bx P w (Cg (RI.NL (·.2)) K) mg (dq c.ο H) Wl [] c H:=(1,hM,λb o e=>uy e,Rb (pF _ _),trivial,λb i=>MJ (show b∈([]:γ υ)from i) (!1),Q,.of_eq hg);refine PY ((F _ W (A R) as ar).PD Wl [] c H ([.π a],[]) [.π a] [.π a] (λv _=>v=.bl ξ) (λ_ _ _=>NU) hr e0 (J c (.π a)) (.NX ζ .Op) (a,ns,1,hS,hl,ap,λ_=>rfl)) λr s' h=>?_;cases r with
  |R9 e=>show NU.Nv h
  |ok fl=>
   cases fl with
   |next=>show NU.Nv h
   |Yg=>show NU.Nv h
   |T_=>show NU.Nv h
   |UT u=>
    let⟨v,H',os,X,un,C,r',q⟩:=h;let q':v=.bl ξ:=q;subst q';obtain ζ:u=θ.Pe ξ:=r';refine(1,(λb o e=>?_,λb o e=>un.QO b o e (!1)),os,X);rcases hO b with z|⟨z1,_,z⟩|⟨z1,z⟩
    .exact .NI (un.P_ b o e z (by intro y;show MJ (show b∈([]:γ υ)from y) (!1)) (!1))
    .obtain ⟨p,_⟩:=Q b _ z;let⟨D,_⟩:=C b _ (un.VZ b _ _ z);rw[e]at p;cases p;show .NI D
    .obtain ⟨q,g,D⟩:=inT z1;let⟨TW,z3⟩:=un.VN b _ z;let e3:s'.ο.ψ b<*{OM:=.ε,NH:=.N_ (#[]++TW)}:=C b _ z3;let M:=j q g;rw[D,e]at M;cases M;refine .NT (.NI (3,1,#[],TW,1,e3));have:=((hd q g).tab (j q g)).isCodeTable;rw[D]at this;show this
 let Y:∀{H:Hp}{b:υ},(RI.NL (·.2)).M7 b=ξ->Az P w H c.ο b (.Wv #[]):=λ{H b}z=>by
  let⟨q,g,e⟩:=inT z;let p:=j q g;rw[e]at p;show p
 cases hk:K.ρ a with
 |δ o=>
  let e:=KX a o hk;rw[L]at e;cases e;refine E (λb=>if (RI.NL (·.2)).M7 b=ξ then δ (.Wv #[])else ε) (.NT (_,vs.χ,_,(FN aT).ν hk,5,1,by rw[NF,O];show S,by simpa using rv)) (λb u z=>?_) (λb=>?_) (λq g=>Id (t g))
  .by_cases i:(RI.NL (·.2)).M7 b=ξ
   .let B:=(Id i).MO.ν z;cases B;show Y i
   .let B:=(Ω i).MO.ν z;cases B
  .by_cases i:(RI.NL (·.2)).M7 b=ξ
   .exact .NT (.NT (i,Id i))
   .exact .NI (Ω i)
 |ε=>
  refine E (λb=>if b=a then δ (.frz {OM:=.MM "list",NH:=.Sx vs.χ} (.M5 (ns.NL V.MQ)))else if (RI.NL (·.2)).M7 b=ξ then δ (.Wv #[])else ε) (.NI (.NT ({OM:=.MM "list",NH:=.Sx vs.χ},Id ζ))) (λb u z=>?_) (λb=>?_) (λq g=>?_)
  .by_cases i:b=a
   .let B:=(Id i).MO.ν z;cases B;subst i;show(L,by rw[ol];show S,vs,_,rv,L)
   .let B:=(Ω i).MO.ν z;by_cases l:(RI.NL (·.2)).M7 b=ξ
    .let N:=(Id l).MO.ν B;cases N;show Y l
    .let N:=(Ω l).MO.ν B;cases N
  .by_cases i:b=a
   .exact .NT (.NI (i,hk,Id i))
   .by_cases l:(RI.NL (·.2)).M7 b=ξ
    .exact .NT (.NT (l,(Ω i).ν (Id l)))
    .exact .NI ((Ω i).ν (Ω l))
  .let I:q.2≠a:=λz=>by
    have:=t g;rw[z,aT]at this;cases this
   show(Ω I).ν (Id (t g))
def FO{l:Δ.W.X2}{K:Params->Nl}(I:l.most<*63)(r:d.Oz.defaults=[])(H:ak k Wl)(N:∀p,∀q∈RI,vR (K p) q)(F:∀(w:Ny)(mg:M'->ω θ)(fa:υ)(h:NR),(Cg (RI.NL (·.2)) (K w.Oz)).In h->h.Ns LE mg->mg d.OD<*.π fa->
   ∃v:Sb,(∀(s:MH)(u:θ),X5 s v ([u],[]) [(x,u,)])/\∀ς:NR,(Cg (RI.NL (·.2)) (K w.Oz)).In ς->ς.Ns LE mg->Dy ς mg->(∀q∈RI,QD ς q.1 q.2)->
    aa l.Ξ w (Cg (RI.NL (·.2)) (K w.Oz)) mg ς pu k fa v [x] (gn (Cg (RI.NL (·.2)) (K w.Oz)) RI)):Δ.W.WalkO q loose XP (λw h=>(K w.Oz).In h) l.Vt.toRowW d [] (λf vs=>Δ.Ql f vs):=by
 refine Att.CQ I r λw B c mg X fa o pm cd Pi a vs ns G Y Z C L n j i m J=>?_;let D:(K w.Oz).In c.ο:=Y;let U:(Cg (RI.NL (·.2)) (K w.Oz)).In c.ο:=λb o e=>D b o ((FN (bL e)).MO.ν e);let⟨v,M,O⟩:=F w mg fa _ U G.T.g n;let⟨bm,E,S,R,A,Q,P,y⟩:=G.T.bmain;let t:bm≠LE:=λz=>by
  let⟨o,es,ep,e,C,_⟩:=G.T.g;rw[z,e]at A;cases A;rw[C]at y;cases y
 show pj D (N w.Oz) G.T.g (bm,E,S,R,t,A,Q,P,y) G.T.b G.T.builtins G.T.WZ J j i m H O M
inductive Sd where
 |tx (x:Str) (k:Tok)|tp (a:Addr)|ls (a:Addr)
namespace Sd
abbrev vl:Sd->V
 |.tx x _=>.M_ x
 |.tp a=>.π a
 |.ls a=>.π a
abbrev vu:Sd->θ
 |.tx x t=>.M_ x t
 |.tp a=>.π a
 |.ls a=>.π a
abbrev pl:Sd->υ->Φ->NR->Prop
 |.tx x t,it,i,h=>ZP.CT x t it i h
 |.tp a,it,i,h=>h.Rn it a i
 |.ls a,it,i,h=>h.Yd it a i
abbrev it0:Sd->Rm
 |.tx x t=>ZP.ES x t
 |.tp a=>ZP.Gh a
 |.ls a=>{OM:=.MM "list_iterator",NH:=.N_ #[.π a,.MQ 0 0]}
abbrev hp:Sd->Nq θ->NR->Prop
 |.tx _ _,_,_=>Ol
 |.tp a,Zm,h=>h.Pa a Zm
 |.ls a,Zm,h=>h.U4 a Zm
abbrev Tn:Sd->Hp->γ V->Prop
 |.tx x _,_,xs=>xs=x.TY.ND.NL λc=>V.M_ ⟨#[c]⟩
 |.tp a,H,xs=>H a<*.No xs
 |.ls a,H,xs=>H a<*.M5 xs
end Sd
def rT{d:Sd}(e:h.ψ it<*d.it0):d.pl it 0 h:=by
 cases d with
 |tx x t=>show(_,e,5)
 |tp a=>show(_,e,5)
 |ls a=>show(_,e,5)
def jq(d:Sd):d.it0.isFreed=η:=by cases d<;>rfl
namespace ZP
abbrev rF(h:NR)(o1 o2:Rm):NR:=
 ((((h.Ni o1).Ni o2).Ni {OM:=.MM "tuple",NH:=.Sx #[.π h.Np.MV,.π (h.Np.MV+1)]}).Ni {OM:=.MM "tuple",NH:=.Sx #[.ε,.ε]}).Ni
  {OM:=.MM "zip",NH:=.N_ #[.ε,.Pe η,.Pe η,.π (h.Np.MV+2),.π (h.Np.MV+3)]}
section
variable{prog:Program}{w:World}{A:Around}{E:Value->Shared->Prop}{s:Shared}
def rS(c:s.ο.U4 a b)(h:Q (.π s⁻¹) {s with ο:=s.ο.Ni (Sd.ls a).it0}):BT (Cl Ξ w) A (VR (.π a)) Q E s:=RT c h
def uQ(h:Q (.π s⁻¹) {s with ο:=s.ο.Ni (Sd.tx x t).it0}):BT (Cl Ξ w) A (VR (.M_ x t)) Q E s:=pB h
def uO(c:s.ο.Pa a b)(h:Q (.π s⁻¹) {s with ο:=s.ο.Ni (Sd.tp a).it0}):BT (Cl Ξ w) A (VR (.π a)) Q E s:=rR c h
end
instance zE(d1 d2:Sd):Prop:=∀xs ys:Nq θ,Meets (Builtin.«zip.__new__» ([.MM "zip",d1.vu,d2.vu],[])) (λ_ R s=>d1.hp xs s.ο/\d2.hp ys s.ο/\R (.ok (.UT (.π (s⁻¹+4)))) {s with ο:=rF s.ο d1.it0 d2.it0})
def nc{d:Sd}(hp:d.hp b s.ο)(h:Q (.π s⁻¹) {s with ο:=s.ο.Ni d.it0}):BT (Cl Ξ w) A (VR d.vu) Q E s:=by
 cases d with
 |tx x t=>show uQ h
 |tp a=>show uO hp h
 |ls a=>show rS hp h
def uS{d:Sd}(h:d.hp b g):d.hp b (g.Ni o):=by
 cases d with
 |tx x t=>show h
 |tp a=>show Wo.Oq h λo e=>sy _ e
 |ls a=>show NR.U4.Ni h _
def J1(d1 d2:Sd):zE d1 d2:=λxs ys=>.of_wp λΞ w A R s h=>by
 let⟨hp,g,d,e,os⟩:=s;let⟨c,a,h⟩:=h;let b:=sub_zip;let a:=uS (o:=d1.it0) a;change BT _ _ (Builtin.«zip.__new__» ([.MM "zip",d1.vu,d2.vu],[])) _ _ _
 wp_walk using nc c,nc a
 refine(0,3);simp only[rF]at h;simpa[Pb,Builtin.O0.ownedTupleFields,Φ.add_assoc]using h
section
variable{prog:Program}{w:World}{A:Around}{E:Value->Shared->Prop}{s:Shared}
def DW{d1 d2:Sd}(j:d1.hp xs s.ο)(i:d2.hp ys s.ο)(h:∀h',VB h' (s⁻¹+4) (s⁻¹+2) (s⁻¹+3) .ε->Pk h' (s⁻¹+2) (.π s⁻¹) (.π (s⁻¹+1))->Pk h' (s⁻¹+3) .ε .ε->
   d1.pl s⁻¹ 0 h'->d2.pl (s⁻¹+1) 0 h'->(∀c o,s.ο.ψ c<*o->h'.ψ c<*o)->Q (.π (s⁻¹+4)) {s with ο:=h'}):BT (Cl Ξ w) A (Ql (.MM "zip") [d1.vu,d2.vu]) Q E s:=by
 refine callType_new F.called_zip (!0) (F.typeCall_zip_2 _ _) (F.newCall_zip_2 _ _) (λb=>F.args_object_init_3 b _ _) F.entry_zip_new (J1 d1 d2 xs ys) (j,i,3);let a:∀(g:NR)(o:Rm)(n:Φ),g.Np.MV=n->o.isFreed=η->(g.Ni o).ψ n<*o:=λg o n e f=>by rw[<-e];show MS g f
 let d:VB (rF s.ο d1.it0 d2.it0) (s⁻¹+4) (s⁻¹+2) (s⁻¹+3) .ε:=a _ _ _ (by simp[Pb]) ζ;show((_,d,1),h _ d (sy _ (sy _ (a _ _ _ (by simp[Pb]) ζ))) (sy _ (a _ _ _ (by simp[Pb]) ζ))
  (rT (sy _ (sy _ (sy _ (sy _ (a _ _ _ ζ (jq _))))))) (rT (sy _ (sy _ (sy _ (a _ _ _ (by simp[Pb]) (jq _))))))
  λc o e=>sy _ (sy _ (sy _ (sy _ (sy _ e)))))
end
end ZP
abbrev Gj(d1 d2:Sd):It:=⟨λi H=>∃xs ys a b,d1.Tn H xs/\d2.Tn H ys/\xs[i]?=δ a/\ys[i]?<*b,λi H v H'=>∃p xs ys a b,d1.Tn H xs/\d2.Tn H ys/\xs[i]?=δ a/\ys[i]?=δ b/\v=.π p/\H p=ε/\H'=MR H p (.No [a,b]),
 λi H=>∃xs ys,d1.Tn H xs/\d2.Tn H ys/\xs.β=ys.β/\i=xs.β⟩
def gy{d:Sd}(x:d.pl it i h):∃o,h.ψ it=δ o/\∀v,o.NH≠.N8 v:=by
 cases d with
 |tx y t=>let⟨o,e,_,dd⟩:=x;show(o,e,λv q=>by rw[dd]at q;cases q)
 |tp a=>let⟨o,e,_,dd⟩:=x;show(o,e,λv q=>by rw[dd]at q;cases q)
 |ls a=>let⟨o,e,_,dd⟩:=x;show(o,e,λv q=>by rw[dd]at q;cases q)
def bI{d:Sd}(x:d.pl it i h)(k:∀o,h.ψ it<*o->h'.ψ it<*o):d.pl it i h':=by
 cases d with
 |tx y t=>let⟨o,e,r⟩:=x;show(o,k o e,r)
 |tp a=>let⟨o,e,r⟩:=x;show(o,k o e,r)
 |ls a=>let⟨o,e,r⟩:=x;show(o,k o e,r)
def vJ{g:St}{d:Sd}(I:f' X f g H s)(h:d.Tn H xs):∃b,d.hp b s.ο:=by
 cases d with
 |tx y t=>show(#[],Ol.Ob)
 |tp a=>
  let⟨b,_,p,_⟩:=I.Px (u0.of (show H a=_ from h));show(_,p)
 |ls a=>
  let⟨b,_,⟨o,n,e,c,_,dd⟩,_⟩:=I.Qt (o5.of (show H a=_ from h));show(b.χ,o,e,c,n,dd)
def IY{X:Cx}{L:St}{d:Sd}(I:f' X J L H s)(F:A.PL=ε)(h:d.Tn H xs)(l:H it=ε)(hp:d.pl it i s.ο):∃f P S,TQ X.Ξ X.w A it f xs.β P S/\(∀c∈f,c=it\/∃u,H c<*u)/\S i s.ο/\(∀j g,S j g->d.pl it j g)/\∀j v x,P j v->xs[j]?<*x->ad x v:=by
 cases d with
 |tx y t=>
  let h:xs=y.TY.ND.NL λc=>V.M_ ⟨#[c]⟩:=h;refine([it],λi v=>∃c u,y.TY[i]?=δ c/\v=.M_ ⟨#[c]⟩ u,ZP.CT y t it,?_,λc B=>.NI (Ay B),hp,λj g z=>z,λj v x k q=>?_)
  .let e:xs.β=y.TY.MV:=by rw[h];simp
   rw[e];show ZP.draws F it y t
  .obtain ⟨c,u,N,ζ⟩:=k;rw[h,tS,Qa,N]at q;cases q;show(u,1)
 |tp a=>
  let⟨b,r,p,_⟩:=I.Px (u0.of (show H a=_ from h));let D:s.ο.Pa a b.χ:=p;let m:a≠it:=λz=>by rw[<-z,show H a=_ from h]at l;cases l
  let e:xs.β=b.χ.MV:=by rw[r.β];simp
  refine([it,a],λi v=>b.χ[i]?<*v,λi h=>h.Rn it a i/\h.Pa a b.χ,by rw[e];show dE F it a m b.χ,λc B=>?_,(hp,D),λj g z=>z.1,λj v x k q=>?_)
  .rcases MN.mp B with z|z
   .exact .NI z
   .rw [Ay z];show .NT (_,h)
  .obtain ⟨u,E,C⟩:=r.VE q;let k:b.χ[j]?<*v:=k;rw[QI,E]at k;cases k;show C
 |ls a=>
  let⟨b,r,⟨o,n,M,O,_,dd⟩,_⟩:=I.Qt (o5.of (show H a=_ from h));let D:s.ο.U4 a b.χ:=(o,M,O,n,dd);let m:a≠it:=λz=>by rw[<-z,show H a=_ from h]at l;cases l
  let e:xs.β=b.χ.MV:=by rw[r.β];simp
  refine([it,a],λi v=>b.χ[i]?<*v,λi h=>h.Yd it a i/\h.U4 a b.χ,by rw[e];show TQ.Qt F it a m b.χ,λc B=>?_,(hp,D),λj g z=>z.1,λj v x k q=>?_)
  .rcases MN.mp B with z|z
   .exact .NI z
   .rw [Ay z];show .NT (_,h)
  .obtain ⟨u,E,C⟩:=r.VE q;let k:b.χ[j]?<*v:=k;rw[QI,E]at k;cases k;show C
def n9{K:Nl}(d1 d2:Sd)(z TI TO i1 i2:υ)(M:T7 z TI TO i1 i2 TI TI):dI P w K (.RP es kt pt) (Gj d1 d2) [z,TI,TO,i1,i2] z (λi h=>VB h z TI TO .ε/\Pk h TI (.π i1) (.π i2)/\(∃a b,Pk h TO a b)/\d1.pl i1 i h/\d2.pl i2 i h)  where
 mem:=by simp
 Ua:=λi h J c j=>by
  let⟨hz,f,⟨a,b,d⟩,t,s2⟩:=J;simp only[MN,NW,N9]at j;rcases j with ζ|rfl|rfl|rfl|rfl
  .exact (_,hz,λv q=>by cases q)
  .exact (_,f,λv q=>by cases q)
  .exact (_,d,λv q=>by cases q)
  .exact gy t
  .exact gy s2
 P_:=λi h h'⟨hz,f,⟨a,b,d⟩,t,s2⟩k=>
  (k z (!1) _ hz,k TI (!1) _ f,(a,b,k TO (!1) _ d),bI t (k i1 (!1)),bI s2 (k i2 (!1)))
 Ut:=by
  rintro X hP hw hK j i N s σ H E I n⟨hz,f,⟨a,b,d⟩,t,s2⟩⟨xs,ys,U,R,r,p,C,B⟩;subst hP hw hK;let l1:i<xs.β:=(q5 C).1;let l2:i<ys.β:=(q5 B).1;let⟨f1,P1,S1,D1,Z,y,b1,r1⟩:=IY (A:=X.A.S0) I (I.ok.hd j) r (n i1 (!1)).1 t;let⟨f2,P2,S2,D2,m2,x,b2,r2⟩:=IY (A:=X.A.S0) I (I.ok.hd j) p (n i2 (!1)).1 s2;let m:∀{c:υ}{u:HO},H c<*u->c∉[z,TO,i1,i2]:=λ{c u}e O=>by
   have:c∈[z,TI,TO,i1,i2]:=by simp at O⊢;rcases O with q|q|q|q<;>simp[q]
   rw[(n c this).1]at e;cases e
  let Q:s.Sa (.π z) "zip":=(_,hz,1);unfold Up;refine d_ (S7 (OR (OD:=M'.Nd "__next__") Q F.S8 (Oe F.S8 Q F.YU (ZP.Ge D1 D2
   (λc j=>(Z c j).Wc id λag=>by let⟨u,e⟩:=ag;show m e) (λc j=>(m2 c j).Wc id λD=>by let⟨u,e⟩:=D;show m e)
   M hz f d y x l1 l2 λv1 v2 g W p1 p2 gz as ar g1 g2 Y gk=>j' (0,3)) (F.Xo _))))
  let ra:=r1 i v1 U p1 C;let rb:=r2 i v2 R p2 B;refine wpAny_letOwnedTupleGo_zip (s:={s with ο:=g,MT:=W}) gz λg' an gs=>?_;let L:∀b o,b≠z->g.ψ b<*o->g'.ψ b<*o:=λb o l e=>(gs.2 b l).ν e;let nz:s⁻¹≠z:=Qc (lt_size hz);let No:Az X.Ξ X.w (MR H s⁻¹ (.No [U,R])) g' s⁻¹ (.No [U,R]):=
   (sT (by change 2≤16777216;decide),[v1,v2],.NX ra (.NX rb .Op),(_,L _ _ nz Y,1,(0),1))
  refine(.π s⁻¹,_,I.Wu (S:=[z,TO,i1,i2]) (h':=g') (t':=W) (λb o l e=>L b o (λq=>l (by simp[q])) (gk b o l e)) (λb l=>n b (by simp at l⊢;rcases l with q|q|q|q<;>simp[q])) No,1,
   (_,xs,ys,U,R,r,p,C,B,1,I.Oc.OF (LT _),1),(an,L _ _ M.TIz as,(_,_,L _ _ M.TOz ar),bI (b1 _ _ g1) λo e=>L _ o M.i1z e,bI (b2 _ _ g2) λo e=>L _ o M.i2z e),λb l=>?_)
  let lt:b<s⁻¹:=by
   let⟨o1,e1,_⟩:=gy t;let⟨o2,e2,_⟩:=gy s2;simp only[MN,NW,N9]at l;rcases l with ζ|rfl|rfl|rfl|rfl
   .exact lt_size hz
   .exact lt_size f
   .exact lt_size d
   .exact lt_size e1
   .exact lt_size e2
  rw[a_ (M8 lt)];show(n b l).1
 done:=by
  rintro X hP hw hK j i N s σ H E I n⟨hz,f,⟨a,b,d⟩,t,s2⟩⟨xs,ys,r,p,hl,hi⟩;subst hP hw hK;let⟨f1,P1,S1,D1,Z,y,b1,r1⟩:=IY (A:=X.A.S0) I (I.ok.hd j) r (n i1 (!1)).1 t;let⟨f2,P2,S2,D2,m2,x,b2,r2⟩:=IY (A:=X.A.S0) I (I.ok.hd j) p (n i2 (!1)).1 s2;let m:∀{c:υ}{u:HO},H c<*u->c∉[z,TO,i1,i2]:=λ{c u}e O=>by
   have:c∈[z,TI,TO,i1,i2]:=by simp at O⊢;rcases O with q|q|q|q<;>simp[q]
   rw[(n c this).1]at e;cases e
  let Q:s.Sa (.π z) "zip":=(_,hz,1);unfold Up;refine d_ (S7 (OR (OD:=M'.Nd "__next__") Q F.S8 (Oe F.S8 Q F.YU (ZP.ER D1 D2
   (λc j=>(Z c j).Wc id λD=>by let⟨u,e⟩:=D;show m e) (λc j=>(m2 c j).Wc id λJ=>by let⟨u,e⟩:=J;show m e)
   M hz f d y x (.NI hi) λg e W gk he=>?_) (F.Xo _))))
  let⟨o,ho,ab⟩:=he;refine d_ (So (s:={s with ο:=g,MT:=W}) (T:="StopIteration") (b:=ξ) (o,ho,ab) YN (j' (1,3)));show I.ZJ (S:=[z,TO,i1,i2]) (λb o l e=>gk b o l e) λb l=>n b (by simp at l⊢;rcases l with q|q|q|q<;>simp[q])
 Yj:=λ_ _ _ _ _ st h=>Wr st.1 h
def ju{d:Sd}(h:d.Tn H xs)(s:∀b o,H b<*o->H' b<*o):d.Tn H' xs:=by
 cases d with
 |tx x k=>show h
 |tp a=>show s _ _ h
 |ls a=>show s _ _ h
abbrev Sd.Sg:Sd->Xp->Sd
 |.tx x _,k=>.tx x k
 |d,_=>d
def bW{d:Sd}(h:d.Tn H xs):(d.Sg k).Tn H xs:=by cases d<;>show h
def vD{d:Sd}(e:ad d.vl u):∃k,u=(d.Sg k).vu:=by
 cases d with
 |tx x k=>show(show ∃t,u=θ.M_ x t from e)
 |tp a=>cases e;show((0),1)
 |ls a=>cases e;show((0),1)
inductive rY(R:It->Hp->Prop)(vs:List V)(H1:Hp):Prop
 |mk (d1 d2:Sd) (xs ys:List V) (_:vs=[d1.vl,d2.vl]) (_:d1.has H1 xs) (_:d2.has H1 ys) (_:∀k1 k2,R (Gj (d1.tok k1) (d2.tok k2)) H1)
abbrev rZ(t:TA):TI:=λσ H R=>t σ H (rY R)
def gC{P:γ Ro}{y:Φ}{x:Sn}{p Ng:Sn}(F:Gl X "zip")(E:X.mg "zip"=ε)(J:PA X [a,b] ta)(D:(Θ [a,b] X.KK=(η,OJ a X.KK,)::Θ [b] X.KK)>>>4)(j:((OE Ng (Θ [b] X.KK)).Qk (·.1)=η)>>>4):PI X (.RP P y x) (.QE (.Nz "zip" p) [a,b] [] Ng) (rZ ta):=by
 intro e s v H R I h;refine Nh (An I F E boot_zip (Oj.Sf.QV (ri (J Ng e s v H _ I h) λus d l=>?_) D j));let⟨vs,U,i,w,d1,d2,xs,ys,O,C,B,q⟩:=l;subst O;let⟨Y,W,ζ,S,Q⟩:=b8 w;let⟨k1,ζ⟩:=vD S;let⟨k2,ζ⟩:=vD Q;let q:=q k1 k2;let⟨A,r⟩:=vJ i (bW (k:=k1) C);let⟨z,o⟩:=vJ i (bW (k:=k2) B);generalize d1.Sg k1=d1 at q r;generalize d2.Sg k2=d2 at q o;refine ZP.DW r o λg u n m N M L=>Wr (s:={d with ο:=g}) u ?_;let T:T7 (d⁻¹+4) (d⁻¹+2) (d⁻¹+3) d⁻¹ (d⁻¹+1) (d⁻¹+2) (d⁻¹+2):=by
  constructor<;>show G6 (!6)
 refine(_,[d⁻¹+4,d⁻¹+2,d⁻¹+3,d⁻¹,d⁻¹+1],_,Gj d1 d2,U,1,i.SW (t':=d.MT) L,n9 d1 d2 _ _ _ _ _ T,
  (u,n,(_,_,m),N,M),λc t=>?_,q)
 let f:d⁻¹≤c:=by
  simp only[MN,NW,N9]at t;rcases t with ζ|rfl|rfl|rfl|rfl<;>first|show Qd _ _|show LT _
 show i.ZZ f (i.Oc.OF f)
abbrev Dz(a:υ):It:=⟨λi H=>∃xs x,H a=δ (.M5 xs)/\xs[i]?<*x,λi H v H'=>∃p x xs,H a=δ (.M5 xs)/\xs[i]?=δ x/\v=.π p/\H p=ε/\H'=MR H p (.No [.MQ (i:ML),x]),λi H=>∃xs,H a=δ (.M5 xs)/\i=xs.β⟩
def kr{K:Nl}(a e it:υ)(r:e≠it):dI P w K (.RP es kt pt) (Dz a) [e,it] e (λi h=>(∃f,IsEnum h e it i f)/\h.Yd it a i)  where
 mem:=by simp
 Ua:=λi h ab c C=>by
  let⟨⟨f,j⟩,⟨M,m,_,d1⟩⟩:=ab;simp only[MN,NW,N9]at C;rcases C with ζ|rfl
  .exact (_,j,λv q=>by cases q)
  .exact (M,m,λv q=>by rw[d1]at q;cases q)
 P_:=λi h h' Z k=>by let⟨⟨f,j⟩,⟨M,m,r1⟩⟩:=Z;show((f,k e (!1) _ j),(M,k it (!1) _ m,r1))
 Ut:=by
  rintro X hP hw hK C i D s σ H E I O⟨⟨f,j⟩,y⟩hg;subst hP hw hK;let⟨xs,x,N,hx⟩:=hg;let⟨d,T,p,hz⟩:=I.Qt (o5.of N);let⟨u,hu,ru⟩:=T.VE hx;let B:s.ο.U4 a d.χ:=p.QS;let W:i<d.χ.MV:=by
   have:=(q5 hu).1;simpa using this
  let t:a≠it:=by
   let⟨o,m,c1,_⟩:=B;let⟨o2,J,L,_⟩:=y;rintro ζ;rw[m]at J;cases J;rw[c1]at L;show MJ L (!0)
  let Y:e≠a:=by
   let⟨o,m,c1,_⟩:=B;rintro ζ;let F:s.ο.ψ e<*_:=j;rw[m]at F;cases F;show MJ (show θ.MM "enumerate"=θ.MM "list" from c1) (!0)
  refine UW (TQ.Qt (Ξ:=X.Ξ) (w:=X.w) (A:=X.A.S0) (I.ok.hd C) it a t d.χ) j (y,B) W r (by simp[r,Y]) λv g R pv ho st U V6 gk=>(0,3);let ev:v=u:=by
   have:d.χ[i]?<*v:=pv;rw[QI,hu]at this;show(ω.δ.QG this).MO
  subst ev;refine Tr (s:={s with ο:=g,MT:=R+1}) ho λg' ge gs=>?_;let Q:∀b o,b≠e->g.ψ b<*o->g'.ψ b<*o:=λb o l q=>(gs.2 b l).ν q;let ne:s⁻¹≠e:=Qc (lt_size j);let No:Az X.Ξ X.w (MR H s⁻¹ (.No [.MQ (i:ML),x])) g' s⁻¹ (.No [.MQ (i:ML),x]):=
   (sT (by change 2≤16777216;decide),[.MQ i R,v],.NX (_,ζ) (.NX ru .Op),(_,Q _ _ ne U,1,(0),1))
  refine(.π s⁻¹,_,I.Wu (S:=[e,it]) (h':=g') (t':=R+1) (λb o l q=>Q b o (λz=>l (by simp[z])) (gk b o (λz=>l (by simp[z])) (λz=>l (by simp[z])) q)) O No,1,
   (_,x,xs,N,hx,1,I.Oc.OF (LT _),1),((_,by rw[ML.ZU];show ge),st.1.at λo q=>Q _ o (λz=>r z.MO) q),λb l=>?_)
  let lt:b<s⁻¹:=by
   let⟨M,m,_⟩:=y;simp only[MN,NW,N9]at l;rcases l with ζ|rfl
   .exact lt_size j
   .exact lt_size m
  rw[a_ (M8 lt)];show(O b l).1
 done:=by
  rintro X hP hw hK C i D s σ H E I O⟨⟨f,j⟩,y⟩n;subst hP hw hK;let⟨xs,N,ζ⟩:=n;let⟨d,T,p,hz⟩:=I.Qt (o5.of N);let B:s.ο.U4 a d.χ:=p.QS;let t:a≠it:=by
   let⟨o,m,c1,_⟩:=B;let⟨o2,J,L,_⟩:=y;rintro ζ;rw[m]at J;cases J;rw[c1]at L;show MJ L (!0)
  let V6:xs.β=d.χ.MV:=by rw[T.β];simp
  refine Ul (TQ.Qt (Ξ:=X.Ξ) (w:=X.w) (A:=X.A.S0) (I.ok.hd C) it a t d.χ) j (by rw[<-V6];show y,B) λg gs=>(1,3);show I.ZJ (S:=[e,it]) (λb o l q=>gs b o (λz=>l (by simp[z])) q) O
 Yj:=λ_ _ _ _ _ st h=>by
  let⟨⟨f,j⟩,_⟩:=st;show RU j h
inductive uR(R:It->Hp->Prop)(vs:List V)(H1:Hp):Prop
 |mk (a xs:_) (_:vs=[.ref a]) (_:((H1 a=some (.tup xs)/\R (vB a) H1)\/(H1 a=some (.lst xs)/\R (Dz a) H1)))
abbrev lT(t:TA):TI:=λσ H R=>t σ H (uR R)
def IZ{L:γ Ro}{C:Φ}{B:Sn}{p Ng:Sn}(F:Gl X "enumerate")(E:X.mg "enumerate"=ε)(J:PA X [a] ta)(D:(Θ [a] X.KK=(η,OJ a X.KK,)::Θ [] X.KK)>>>4)(n:((OE Ng (Θ [] X.KK)).Qk (·.1)=η)>>>4):PI X (.RP L C B) (.QE (.Nz "enumerate" p) [a] [] Ng) (lT ta):=by
 intro e s w H R I h;refine Nh (An I F E Oj.Sf.boot_enumerate (Oj.Sf.QV (ri (J Ng e s w H _ I h) λus d z=>?_) D n));let⟨vs,t,f,A,b,xs,ζ,z⟩:=z;let⟨M,ζ,y⟩:=Do A;cases y;let v:∀c∈[d⁻¹+1,d⁻¹],be X e t c:=λc u=>by
  let j:d⁻¹≤c:=by
   simp only[MN,NW,N9]at u;rcases u with ζ|rfl
   .exact Qd _ _
   .exact LT _
  show f.ZZ j (f.Oc.OF j)
 rcases z with⟨m,q⟩|⟨m,q⟩
 .obtain ⟨i,x,l,hz⟩:=f.Px (u0.of m);refine mo (show d.ο.Pa b i.χ from l) λg k r o=>RU (s:={d with ο:=g}) k ?_;show(_,[d⁻¹+1,d⁻¹],_,vB b,t,1,f.SW (t':=d.MT) o,ko b _ _ (G6 (!6)),((_,k),r),v,q)
 .obtain ⟨i,x,l,hz⟩:=f.Qt (o5.of m);refine call_enumerate_list l.QS λg k r N o=>RU (s:={d with ο:=g}) k ?_;show(_,[d⁻¹+1,d⁻¹],_,Dz b,t,1,f.SW (t':=d.MT) o,kr b _ _ (G6 (!6)),((_,k),r),v,q)
def jS{K:Nl}{k:St}(j:H c<*.M5 xs)(d:υ->Φ->γ V->Hp->Prop)(hz:xs.β≤Λ)(h0:∀D,H D=ε->d D 0 [] (MR H D (.M5 [])))(q:∀(D:υ)(i:Φ)(x:V)(ys:γ V)(H' e:Hp)(f:VK),H D=ε->xs[i]?<*x->a' H H'->H' D<*.M5 ys->d D i ys H'->a' H' e->
   (∀y g,g D<*.M5 ys->a' H (MR g D (.M5 (ys++[y])))->d D (i+1) (ys++[y]) (MR g D (.M5 (ys++[y])))->f y g)->o (δ (.MQ (i:ML))::δ x::k) e f)(r:∀D ys H',H D=ε->a' H H'->H' D<*.M5 ys->d D xs.β ys H'->Q (.π D) H'):mE K (Dz c) o k H Q:=by
 refine Ls (n:=xs.β) (λi a b=>a=.MQ (i:ML)/\xs[i]?<*b) d hz (λi m s h=>(xs,xs[i],s _ _ j,n_ h)) ?_ (λm s=>(xs,s _ _ j,1)) h0 ?_ r
 .rintro i m x e s h⟨p,y,zs,l,A,z,w,v⟩;rw[s _ _ j]at l;cases l;show(p,_,y,z,(1,A),w,v)
 .rintro D i a b ys H' e f u J⟨rfl,t⟩I F E C B;show q D i b ys H' e f u t I F E C B
end L2
namespace RA
open L2
def jR{e:St}(l:∀R:γ V->Hp->Prop,R [.π c] H->t e H R)(m:o=.M5 xs\/o=.No xs)(b:H c<*o)(a:υ->Φ->γ V->Hp->Prop)(hz:xs.β≤Λ)(h0:∀D,H D=ε->a D 0 [] (L2.MR H D (.M5 [])))(f:∀(D:υ)(i:Φ)(x:V)(ys:γ V)(H' j:Hp)(h:VK),H D=ε->xs[i]?<*x->a' H H'->H' D<*.M5 ys->a D i ys H'->a' H' j->
   (∀y d,d D<*.M5 ys->a' H (L2.MR d D (.M5 (ys++[y])))->a D (i+1) (ys++[y]) (L2.MR d D (.M5 (ys++[y])))->h y d)->k (δ (.MQ (i:ML))::δ x::e) j h)(g:∀D ys H',H D=ε->a' H H'->H' D<*.M5 ys->a D xs.β ys H'->Q (.π D) H'):kC K (lT t) k e H Q:=by
 refine l _ (c,xs,1,3);rcases m with ζ|rfl
 .exact .NT (b,jS (K:=K) b a hz h0 f g)
 .exact .NI (b,mi (K:=K) b a hz h0 f g)
end RA
namespace L2
open PySem.Spec PyProof.Rows
abbrev EZ(fv:MX)(x:ML)(v:θ):Prop:=(fv=ξ/\∃b:MX,v=.Pe b/\x=if b then 1 else 0)\/(fv=η/\∃t,v=.MQ x t)
abbrev Lx(P:NC)(w:Ny)(fv:MX)(x:ML):ML:=if fv=ξ then YH x else(N3 P w).Yp x
section
variable{P:Program}{w:World}{fv:Bool}
def EZ.QG(a:EZ fv x v)(b:EZ fv y v):x=y:=by
 rcases a with⟨rfl,c,ζ,ζ⟩|⟨rfl,t,ζ⟩
 .rcases b with⟨_,d,e,ζ⟩|⟨e,_⟩
  .cases e;rfl
  .cases e
 .rcases b with⟨e,_⟩|⟨_,t',e⟩
  .cases e
  .cases e;rfl
def EZ.UM(a:EZ fv x v)(q:Q (Lx P w fv x) {s with MT:=s.MT+1}):BT (Cl P w) A (UM v) Q E s:=by
 rcases a with⟨rfl,b,ζ,ζ⟩|⟨rfl,t,ζ⟩
 .exact (EV P w).UM (k:=b) (by cases b<;>rfl) q
 .exact (N3 P w).UM (k:=x) (YR _ _ _ _) q
def EZ.eq(a:EZ fv x u)(b:EZ fv y v):PN.R0 A s u v (decide (x=y)):=by
 rcases a with⟨rfl,c,ζ,ζ⟩|⟨rfl,t,ζ⟩
 .rcases b with⟨_,d,ζ,ζ⟩|⟨e,_⟩
  .let h:=PN.R0.Y3 (A:=A) (s:=s) c d;rw[show(c==d)=decide ((if c then(1:ML)else 0)=if d then 1 else 0) by cases c<;>cases d<;>rfl]at h;show h
  .cases e
 .rcases b with⟨e,_⟩|⟨_,t',ζ⟩
  .cases e
  .let h:=PN.R0.ZX (A:=A) (s:=s) x t y t';rw[show(x==y)=decide (x=y) by rw[MX.RD];simp]at h;show h
def EZ.Xz(a:EZ fv x v):carriedByValue v=ξ:=by
 rcases a with⟨rfl,c,ζ,ζ⟩|⟨rfl,t,ζ⟩<;>rfl
end
section
variable(P:Program)(w:World)(fv:Bool)
abbrev E1(h:NR)(k:γ ML)(a:υ):Prop:=∃(o:Rm)(n:Φ)(v:θ)(b:υ)(x:ML)(ks:γ ML),k=x::ks/\h.ψ a=δ o/\o.OM=.MM "tuple"/\o.NH=.Sx #[v,.π b] n/\EZ fv x v/\U3 (N3 P w) h ks b
abbrev gf:γ ML->ML
 |[]=>0
 |x::ks=>YH (Builtin.RP.tupleHashOf [Lx P w fv x,tupleKeyHash (N3 P w) ks])
end
section
variable{P:Program}{w:World}{fv:Bool}
def E1.QG(g:E1 P w fv h x a)(f:E1 P w fv h y a):x=y:=by
 let⟨o,n,v,b,A,xs,ζ,h1,_,k,j,i⟩:=g;let⟨B,C,e,u,z,ys,ζ,d,_,c,m,l⟩:=f;rw[h1]at d;cases d;rw[k]at c;injection c with t _;let s:[v,θ.π b]=[e,.π u]:=NZ Nq.ND t;injection s with r q;injection q with p _;cases p;subst r;rw[j.QG m,i.QG l]
def E1.Oq{p q}(x:E1 P w fv h k a)(c:h.ψ d<*o)(e:o.NH=.Pv p q)(f:Pd d h h'):E1 P w fv h' k a:=by
 let⟨j,n,v,b,i,xs,ζ,h1,h2,g,m,l⟩:=x;refine(j,n,v,b,i,xs,1,(f.2 a ?_).ν h1,h2,g,m,l.Oq c e f);rintro ζ;rw[h1]at c;cases c;rw[g]at e;cases e
def E7(d:A.PR+1<Qj)(x:E1 P w fv s.ο k a)(q:Q (gf P w fv k) {s with MT:=s.MT+(k.β+2)}):BT (Cl P w) A (UM (.π a)) Q E s:=by
 let⟨o,n,v,b,c,xs,ζ,h1,h2,h,g,f⟩:=x;refine Δ.W.Z5 (T:="tuple") (o,h1,h2) F.slot_tuple_hash F.entry_tuple_hash (F.args_tuple_hash_1 _) (XG _) (.NT (!6)) ?_;refine d_ (m:=Builtin.RP.ZK (.π a)) (wpAny_tupleItemsOf h1 h (d_ ?_));rw[<-Uw];change BT _ _ (YS [v,θ.π b] _ _) _ _ _;rw[Qg];refine d_ (d_ (g.UM (d_ (j' (j' ?_)))));dsimp only;rw[Qg];refine d_ (d_ (wpAny_pyHash_tuple (VW:=N3 P w) (by change A.S0.PR<Qj;rw[N0.Ub];show d) f (d_ (j' (j' ?_)))));dsimp only;rw[SQ];refine j' (d_ (UA (j' (4,3))));let e:s.MT+1+(xs.β+1)+1=s.MT+((c::xs).β+2):=by rw[NS];lia
 simpa[e,gf]using q
def v5(B:A.PR+1<Qj)(p:E1 P w fv s.ο x a)(m:E1 P w fv s.ο y b)(E:θ->MH->Prop)(Q:MX->MH->Prop)(q:Q (decide (x=y)) s):BT (Cl P w) A (Zd (.π a) (.π b)) Q E s:=by
 by_cases h:a=b
 .subst h;rw[NJ (p.QG m)]at q;show PN.R0.OP (.π a) P w E Q q
 .obtain ⟨o,n,v,c,g,xs,ζ,h1,h2,F,D,C⟩:=p;let⟨u,z,l,k,f,ys,ζ,M,L,J,I,H⟩:=m;let i:A.S0.PR<Qj:=by rw[N0.Ub];show B
  let d:PN.R0 A.S0 s (.π c) (.π k) (decide (xs=ys)):=λR r T S t=>wpAny_eqBool_tuple (VW:=N3 R r) i (gg C) (gg H) t;let P':=PN.R0.of_refs (A:=A) h (PN.RcAt.tuples (s:=s) (e:=λj=>if j=0 then decide (g=f)else decide (xs=ys)) (o,h1,h2,n,F) (u,M,L,z,J) (!6) (λj l1 l2=>by
   match j,l1,l2 with
   |0,_,_=>show D.eq I
   |1,_,_=>show d
   | n+2,l1,_=>show MJ l1 (by change ¬ (n+2<2);lia)))
  refine P' P w E Q ?_;let e:((γ.N2 (min (#[v,.π c]:Nq θ).MV (#[l,.π k]:Nq θ).MV)).P' (λj=>if j=0 then decide (g=f)else decide (xs=ys))&&(#[v,.π c]:Nq θ).MV==(#[l,.π k]:Nq θ).MV)=decide (g::xs=f::ys):=by
   change (decide (g=f)&&(decide (xs=ys)&&ξ)&&ξ)=_;by_cases O:g=f<;>by_cases N:xs=ys<;>simp[O,N]
  rw[e];show q
def n8(x:E1 P w fv s.ο k a)(q:Q ξ s):BT (Cl P w) A (XC 8 (.π a)) Q E s:=by
 let⟨o,n,v,b,m,xs,ζ,h1,h2,g,f,e⟩:=x;refine IR (n:=7) (o,h1,h2,n,g) (λu c R r=>?_) q;rcases MN.mp (show u∈[v,.π b]from c)with ζ|c
 .rw [UI _ f.Xz];show j' r
 .rw [Ay c];let⟨o,d,n,l,j,i,h⟩:=e;refine IR (n:=6) (o,l,j,n,i) (λv c R r=>?_) r;rw[UI _ (h.Xz v c)];show j' r
end
abbrev tR(P:NC)(w:Ny)(fv:MX):HeapKind P w (γ ML) where
 is:=E1 P w fv
 Yp:=gf P w fv
 draws:=λk=>k.β+2
 Yk:=λA=>A.PR+1<Qj
 QG:=λa b=>a.QG b
 Oq:=λx ho hd hs=>x.Oq ho hd hs
 UM:=λhu hk h=>E7 hu hk h
 Zd:=λhu hx hy h=>v5 hu hx hy _ _ h
 Yy:=λhk h=>n8 hk h
abbrev sd(fv:MX)(x:ML):V:=if fv=ξ then .bl (decide (x=1))else .MQ x
abbrev J2(fv:MX)(H:Hp)(k:γ ML)(a:υ):Prop:=∃(b:υ)(x:ML)(ks:γ ML),k=x::ks/\(fv=ξ->x=0\/x=1)/\H a=δ (.No [sd fv x,.π b])/\FL H ks b
abbrev xV(P:NC)(w:Ny)(fv:MX):EW P w (γ ML) where
 VW:=tR P w fv
 Vv:=J2 fv
 ok:=λ{H h k a}e ok=>by
  let⟨b,x,ks,ζ,e0,e1,e2⟩:=e
  let⟨_,Zm,r,o,h1,h2,n,h3⟩:=(show Az P w H h a (.No [sd fv x,.π b])from ok a _ e1)
  let⟨u1,u2,ζ,r1,r2⟩:=b8 r
  cases(show u2=θ.π b from r2)
  refine(o,n,u1,b,x,ks,1,h1,h2,h3,3,kx e2 ok)
  cases fv with
  |ξ=>
   cases(show u1=θ.Pe (decide (x=1))from r1)
   rcases e0 ζ with ζ|rfl
   .exact .NI (1,η,5)
   .exact .NI (1,ξ,5)
  |η=>
   let⟨t,ζ⟩:=(show ∃t,u1=θ.MQ x t from r1)
   show .NT (1,t,1)
 Yk:=λ{A}hu=>(by change A.S0.PR+1<Qj;rw[N0.Ub];lia,by change A.PR+1<Qj;lia)
 ST:=λs hZ0=>by let⟨b,x,ks,e,e0,e1,e2⟩:=hZ0;show(b,x,ks,e,e0,s _ _ e1,s _ _ e2)
inductive TK where
 |i|t|q|p
 deriving DecidableEq
abbrev dK(P:NC)(w:Ny):TK->EW P w (γ ML)
 |.q=>xV P w ξ
 |.p=>xV P w η
 |_=>Ft P w
def I_(k:ML)(t:Xp):θ.YO k (.MQ k t)=ξ:=by simp[θ.YO]
abbrev nU(P:NC)(w:Ny)(H:Hp)(d:υ)(y:V)(r:ω V):Prop:=
 (∃NP k,H d=δ (B3 (N3 P w) d NP)/\y=.MQ k/\r=aF NP k) \/
 ∃ti NP k b,H d=δ (Bx (dK P w ti) d NP)/\(∀x∈NP,(dK P w ti).Vv H x.1 x.2.1)/\y=.π b/\(dK P w ti).Vv H k b/\r=aE NP k
abbrev vW(P:NC)(w:Ny)(H:Hp)(d:υ)(y v:V)(H':Hp):Prop:=
 (∃NP k,H d=δ (B3 (N3 P w) d NP)/\y=.MQ k/\aF NP k=ε/\NP.β<Λ/\H'=MR H d (B3 (N3 P w) d (NP++[(k,v,)]))) \/
 ∃ti NP k b,H d=δ (Bx (dK P w ti) d NP)/\(∀x∈NP,(dK P w ti).Vv H x.1 x.2.1)/\y=.π b/\(dK P w ti).Vv H k b/\aE NP k=ε/\NP.β<Λ/\H'=MR H d (Bx (dK P w ti) d (NP++[(k,b,v,)]))
section
variable{X:Cx}
inductive uf(P:Program)(w:World)(x:V)(y:V)(H:Hp)(Q:VK):Prop
 |mk (d o:_) (_:y=.ref d) (_:nU P w H d x o) (_:Q (.bl (!o.isSome)) H)
def oO(m:X.A.PR+64<Qj):AQ X (O3 .NotIn) (uf X.Ξ X.w):=by
 intro f s r H x y v u Q I c j h;let⟨d,o,ζ,g,q⟩:=h;cases j;rcases g with⟨NP,k,e,ζ,ζ⟩|⟨i,NP,k,b,e,n,ζ,l,ζ⟩
 .obtain ⟨t,ζ⟩:=(show ∃t,v=θ.MQ k t from c);let⟨ns,_,vs,a,dd⟩:=Ex I.Oc e;refine wpAny_notIn_of (VW:=N3 X.Ξ X.w) (k:=k) (I_ k t) ns dd.Z_ ?_;rw[<-JP (a.Zu k)];show(.bl _,H,I.Sg _,1,q)
 .cases c;show gY (D:=dK X.Ξ X.w i) m I e n l λs' p=>(.bl _,H,p,1,q)
def sO{c:St}(I:f' X a c H s)(g:nU X.Ξ X.w H d y o):s.Sa (.π d) "dict":=by
 rcases g with⟨NP,k,e,_⟩|⟨f,NP,k,b,e,h,_⟩
 .obtain ⟨_,_,vs,_,dd⟩:=Ex I.Oc e;show dd.Qz
 .obtain ⟨_,_,vs,_,dd⟩:=dr (D:=dK X.Ξ X.w f) I.Oc e h;show dd.Qz
inductive J3(P:Program)(w:World)(x:V)(y:V)(H:Hp)(Q:VK):Prop
 |mk (d v:_) (_:x=.ref d) (_:nU P w H d y (some v)) (_:Q v H)
def rP(C:X.A.PR+64<Qj):CP X (J3 X.Ξ X.w):=by
 intro c f m s M H x y v u Q I r j h E;let⟨d,z,ζ,g,q⟩:=h;cases r;refine WU (ops:=[.π d,u]) (sO I g) Δ.F.UB.ρ ?_ E;rcases g with⟨NP,k,e,ζ,l⟩|⟨p,NP,k,b,e,J,ζ,B,l⟩
 .obtain ⟨t,ζ⟩:=(show ∃t,u=θ.MQ k t from j);let⟨ns,_,vs,i,dd⟩:=Ex I.Oc e;let⟨n,hw,a⟩:=au.Vj (v:=z) (o:=RW vs k) (by rw[l];show i.Zu k);show UX (VW:=N3 X.Ξ X.w) (k:=k) (I_ k t) dd.Z_ hw (z,H,I.Sg _,a,q)
 .cases j;show sg (D:=dK X.Ξ X.w p) C I e J B l λn s' L a=>(z,H,L,a,q)
inductive yN(P:Program)(w:World)(o:V)(i:V)(v:V)(H:Hp)(Q:Hp->Prop):Prop
 |mk (d H':_) (_:o=.ref d) (_:vW P w H d i v H') (_:Q H')
def ow(B:X.A.PR+64<Qj):xQ X (yN X.Ξ X.w):=by
 intro n s J H o i v L z u Q I r m l h;let⟨d,H',ζ,g,q⟩:=h;cases r;rcases g with⟨NP,k,e,ζ,f,j,ζ⟩|⟨p,NP,k,b,e,E,ζ,y,f,j,ζ⟩
 .obtain ⟨t,ζ⟩:=(show ∃t,z=θ.MQ k t from m);let⟨ns,hz,vs,a,dd⟩:=Ex I.Oc e;refine wpAny_setItem_pairs (VW:=N3 X.Ξ X.w) (k:=k) (V6:=by rw[<-a.β];show hz) (I_ k t) dd λh' c C=>(_,3,q);let x:=au.UD (show au ε (RW vs k) by rw[<-f];show a.Zu k);rw[IS x]at c;show HQ I (by rw[e];show Ol.Ob) C (let⟨o,_,_,q,_⟩:=c;(o,q)) (BS ns (by rw[w_];show j) (bR a l) c)
 .cases m;show sf (D:=dK X.Ξ X.w p) B I e E y f j l λs' F=>(_,F,q)
abbrev rn(P:NC)(w:Ny)(d:υ):TK->HO
 |.i=>B3 (N3 P w) d []
 |k=>Bx (dK P w k) d []
def uC(h:NR)(a:Oo<h.Np.MV)(k:TK):Az P w H (h.Ni {OM:=.MM "dict",NH:=.Pv #[]}) h.Np.MV (rn P w h.Np.MV k):=by
 let ns:(h.Np.MV==Oo)=η:=NB.Om (Ne.MO (M8 a));cases k with
 |i=>show BS (VW:=N3 P w) ns (Nb _) .Op (NR.Ye.Xw h)
 |t=>show fb (D:=dK P w .t) ns (Nb _) .Op (Vq.Xw h)
 |q=>show fb (D:=dK P w .q) ns (Nb _) .Op (Vq.Xw h)
 |p=>show fb (D:=dK P w .p) ns (Nb _) .Op (Vq.Xw h)
def uD(h:k≠.i):rn P w d k=Bx (dK P w k) d []:=by
 cases k with
 |i=>show MJ ζ h
 |_=>rfl
abbrev x8(P:NC)(w:Ny)(tk tv:TE):TE:=λσ H Q=>∃ti:TK,∀p,H p=ε->tk σ (MR H p (rn P w p ti)) λx H1=>tv σ H1 λy H2=>H2 p=δ (rn P w p ti)/\
 ((ti=.i/\∃k,x=.MQ k/\Q (.π p) (MR H2 p (B3 (N3 P w) p [(k,y,)])))\/(ti≠.i/\∃b k,x=.π b/\(dK P w ti).Vv H2 k b/\Q (.π p) (MR H2 p (Bx (dK P w ti) p [(k,b,y,)]))))
def um(N:X.A.PR+64<Qj)(R:PE X k B)(M:PE X v tv):PE X (.Dict [δ k] [v] Ng) (x8 X.Ξ X.w B tv):=by
 intro e s m H Q I h;let⟨f,h⟩:=h;let P:=I.Oc.OF (LT s⁻¹);let T:=I.Tw (a:=s⁻¹) (o:=rn X.Ξ X.w s⁻¹ f) (t':=s.MT) (λ_ _ q=>sy {OM:=.MM "dict",NH:=.Pv #[]} q) (LT _) (uC s.ο I.bigS f);let j:=zip_pairTrees [δ k] [v] X.KK Ng ζ ζ;rw[arm_eval_Dict,j,dictDisplay_pairs (W4 [δ k] [v] X.KK Ng) (!5) (by change 1<17;decide)];refine d_ (PP (d_ ?_));unfold subDict;refine d_ (VM (d_ (NQ ?_)));rw[Id (show(W4 [δ k] [v] X.KK Ng).β≤15 by change 1≤15;decide)];refine d_ (pairTrees_cons_walk (ri (R e _ m _ _ T (h _ P)) λu C⟨x,U,S,p,F⟩=>ri (M e C m U _ S F) λr s2⟨y,W,i,n,hp,g⟩=>pairTrees_nil_walk (NQ (d_ ?_))));rw[Qg];rcases g with⟨rfl,k,ζ,g⟩|⟨O,b,k,ζ,J,g⟩
 .obtain ⟨t,ζ⟩:=(show ∃t,u=θ.MQ k t from p);let⟨ns,hz,vs,c,dd⟩:=Ex (VW:=N3 X.Ξ X.w) (NP:=[]) i.Oc hp;refine d_ (d_ (wpAny_dictSet_pairs (VW:=N3 X.Ξ X.w) (k:=k) (V6:=by rw[<-c.β];show hz) (I_ k t) dd λh' d l=>j' ?_));dsimp only;rw[SQ];refine j' (j' (j' (j' (.π s⁻¹,_,3,1,g))));let E:=au.UD (show au ε (RW vs k)from c.Zu k);rw[IS E]at d;show HQ i (by rw[hp];show Ol.Ob) l (let⟨o,_,_,q,_⟩:=d;(o,q)) (BS ns (sT (by change 1≤16777216;decide)) (bR (NP:=[]) c n) d)
 .cases p;rw[uD O]at hp;let⟨ns,hz,xs,c,dd⟩:=dr (D:=dK X.Ξ X.w f) (NP:=[]) i.Oc hp (λx L=>by simp at L);refine d_ (d_ (wpAny_dictSet_heap (VW:=(dK X.Ξ X.w f).VW) (V6:=by rw[<-Rl.β c];show hz) ((dK X.Ξ X.w f).Yk N).2 ((dK X.Ξ X.w f).ok J i.Oc) dd λh' d l=>j' ?_));dsimp only;rw[SQ];refine j' (j' (j' (j' (.π s⁻¹,_,3,1,g))));show vO (D:=dK X.Ξ X.w f) (NP:=[]) i hp ns (sT (by change 1≤16777216;decide)) c ζ n d l
end
end L2
namespace RA
open L2
abbrev bq:TK->Hp->LN->υ->Prop
 |.q,H,k,b=>∃(c:υ)(x:Φ)(ks:LN),k=x::ks/\x≤1/\H b=δ (.No [.bl (decide (x=1)),.π c])/\H c<*.No (c_ ks)
 |.p,H,k,b=>∃(c:υ)(x:Φ)(ks:LN),k=x::ks/\H b=δ (.No [.MQ (x:ML),.π c])/\H c<*.No (c_ ks)
 |_,H,k,b=>H b<*.No (c_ k)
abbrev Av(ti:TK)(H:Hp)(k:LN)(v:V):Prop:=if ti=.i then ∃n:Φ,k=[n]/\v=.MQ (n:ML)else ∃b,v=.π b/\bq ti H k b
def bq.OP(h:bq f H k b)(s:∀b xs,H b<*.No xs->H' b<*.No xs):bq f H' k b:=by
 cases f with
 |q=>
  let⟨c,x,ks,e,g,d,a⟩:=h;show(c,x,ks,e,g,s _ _ d,s _ _ a)
 |p=>
  let⟨c,x,ks,e,d,a⟩:=h;show(c,x,ks,e,s _ _ d,s _ _ a)
 |_=>show s _ _ h
def ir(k:LN):(zs k).NL V.MQ=c_ k:=by rw[zs,c_,γ.map_map];rfl
def bq.Vv(h:bq g H k b):(dK P w g).Vv H (zs k) b:=by
 let a:∀{ks:LN}{c:υ},H c<*.No (c_ ks)->FL H (zs ks) c:=λe=>by unfold FL;rw[ir];show e
 cases g with
 |q=>
  let⟨c,x,ks,ζ,i,f,d⟩:=h;refine(c,(x:ML),zs ks,1,λ_=>?_,3,a d)
  .lia
  .rw [f,show sd ξ (x:ML)=.bl (decide ((x:ML)=1))from ζ,show decide ((x:ML)=1)=decide (x=1) by rw[MX.RD];simp;lia]
 |p=>
  let⟨c,x,ks,ζ,f,d⟩:=h;show(c,(x:ML),zs ks,1,λz=>(by cases z),f,a d)
 |_=>show a h
def Av.OP(h:Av a H k v)(s:∀b xs,H b<*.No xs->H' b<*.No xs):Av a H' k v:=by
 unfold Av at h⊢;split
 .rename_i c;rw[Id c]at h;show h
 .rename_i c;rw[Ω c]at h;let⟨b,e,d⟩:=h;show(b,e,d.OP s)
abbrev Ey:LL->Φ->γ (ML×V)
 |[],_=>[]
 |k::r,n=>(((k.headD 0:Φ):ML),.MQ (n:ML),)::Ey r (n+1)
def m9:∀(ts:LL)(n:Φ),(Ey ts n).β=ts.β
 |[],_=>rfl
 |k::r,n=>by rw[Ey,NS,NS,m9 r]
def jn(k:LN):∀(ts:LL)(n:Φ),Ey (ts++[k]) n=Ey ts n++[(((k.headD 0:Φ):ML),.MQ ((n+ts.β:Φ):ML),)]
 |[],n=>rfl
 |t::r,n=>by
  rw[Rh,Ey,jn k r (n+1),Ey,Rh,NS,show n+1+r.β=n+(r.β+1) by lia]
abbrev Ef(ts:LL)(k:LN):ω Φ:=if k∈ts then δ (ts.M0 k)else ε
def jo(h:t≠k):Ef (t::r) k=(Ef r k).NL (·+1):=by
 unfold Ef;by_cases a:k∈r
 .rw [Id (M1 _ a),Id a,Uu,show(t==k)=η from NB.Om h];rfl
 .rw [Ω (λz=>(MN.mp z).Nv (λy=>h y.MO) a),Ω a];rfl
def gU{m:Φ}:∀{ts:LL}{n:Φ},(∀t∈ts,∃a,t=[a])->aF (Ey ts n) (m:ML)=(Ef ts [m]).NL λ(i:Φ)=>V.MQ ((n+i:Φ):ML)
 |[],_,_=>rfl
 |t::r,n,h=>by
  let⟨a,ζ⟩:=h t (!1);by_cases e:a=m
  .subst e;rw[Ey,iz (k:=(a:ML)) (show((([a]:LN).headD 0:Φ):ML)=(a:ML)from ζ),Ef,Id (!1),γ.Xj];rfl
  .rw [Ey,Bj (λz=>e (ML.ofNat.QG z)),gU (n:=n+1) (λt b=>h t (by simp[b])),jo (λz=>e (by injection z))];cases Ef r [m]with
   |ε=>rfl
   |δ i=>
    change δ (V.MQ ((n+1+i:Φ):ML))<*V.MQ ((n+(i+1):Φ):ML);rw[show n+1+i=n+(i+1) by lia]
abbrev Aq(P:NC)(w:Ny)(H:Hp)(d:υ)(ti:TK)(ts:LL):Prop:=
 if ti=.i then H d=δ (B3 (N3 P w) d (Ey ts 0))/\∀t∈ts,∃a,t=[a]
 else ∃NP:γ (γ ML×υ×V),H d=δ (Bx (dK P w ti) d NP)/\(∀x∈NP,(dK P w ti).Vv H x.1 x.2.1)/\NP.β=ts.β/\∀(i:Φ)(k:LN)(x:γ ML×υ×V),ts[i]?<*k->NP[i]?<*x->x.1=zs k/\x.2.2=.MQ (i:ML)
def mG:∀{n:Φ},NP.β=ts.β->(∀(i:Φ)(k:LN)(x:γ ML×υ×V),ts[i]?<*k->NP[i]?<*x->x.1=zs k/\x.2.2=.MQ ((n+i:Φ):ML))->aE NP (zs k)=(Ef ts k).NL λ(i:Φ)=>V.MQ ((n+i:Φ):ML):=by
 induction NP generalizing ts with
 |Op=>
  intro n a h;cases ts with
  |Op=>rfl
  |NX t r=>cases a
 |NX x xs d=>
  intro n a h;cases ts with
  |Op=>cases a
  |NX t r=>
   let⟨b,j⟩:=h 0 t x ζ ζ;by_cases e:t=k
   .subst e;rw[Ef,Id (!1),γ.Xj];simp[aE,Qh,b,j]
   .let e':¬ x.1=zs k:=λz=>e (fY (b.MO.ν z));let l:aE (x::xs) (zs k)=aE xs (zs k):=by simp[aE,Qh,e']
    rw[l,d (n:=n+1) (by simpa using a) (λi k' c h1 h2=>by
     let⟨g,f⟩:=h (i+1) k' c h1 h2;show(g,by rw[f,show n+(i+1)=n+1+i by lia])),jo e]
    cases Ef r k with
    |ε=>rfl
    |δ i=>
     change δ (V.MQ ((n+1+i:Φ):ML))<*V.MQ ((n+(i+1):Φ):ML);rw[show n+1+i=n+(i+1) by lia]
section
variable{P:Program}{w:World}{H:Hp}{d:Addr}{ti:TK}{ts:LL}{k:LN}{v:V}
def Aq.VE(h:Aq P w H d ti ts)(e:Av ti H k v):nU P w H d v ((Ef ts k).NL λ(i:Φ)=>V.MQ (i:ML)):=by
 unfold Aq at h;unfold Av at e;by_cases c:ti=.i
 .subst c;rw[Id ζ]at h e;let⟨n,ζ,ζ⟩:=e;refine .NI (_,_,h.1,1,3);rw[gU h.2];simp
 .rw [Ω c]at h e;let⟨NP,h1,h2,j,g⟩:=h;let⟨b,ζ,f⟩:=e;refine .NT (ti,NP,zs k,b,h1,h2,1,f.Vv,3);rw[mG (n:=0) j (λi k x a b=>by rw[Φ.Pz];show g i k x a b)];simp
def Aq.put(h:Aq P w H d ti ts)(m:Av ti H k v)(y:k∉ts)(r:ts.β<Λ):∃f,vW P w H d v (.MQ (ts.β:ML)) (L2.MR H d f)/\Aq P w (L2.MR H d f) d ti (ts++[k]):=by
 let o:Ef ts k=ε:=Ω y;let A:∀b xs,H b<*.No xs->∀φ,H d<*.ext φ->∀f,L2.MR H d f b<*.No xs:=λb xs e φ C f=>by
  rw[a_ (qN e C (!5))];show e
 unfold Aq at h;unfold Av at m;by_cases c:ti=.i
 .subst c;rw[Id ζ]at h m;let⟨n,ζ,ζ⟩:=m;refine(B3 (N3 P w) d (Ey (ts++[[n]]) 0),.NI (_,_,h.1,1,3,by rw[m9];show r,3),3)
  .rw [gU h.2,o];rfl
  .rw [jn,Φ.Pz];rfl
  .unfold Aq;rw[Id ζ];refine(j_,λt u=>?_);rcases Na.mp u with z|z
   .exact h.2 t z
   .exact (n,Ay z)
 .rw [Ω c]at h m;let⟨NP,h1,h2,l,s⟩:=h;let⟨b,ζ,B⟩:=m;let p:(dK P w ti).Vv H (zs k) b:=B.Vv;let Rv:∀f b xs,H b<*.No xs->L2.MR H d f b<*.No xs:=λf b xs e=>A b xs e _ h1 f;refine(Bx (dK P w ti) d (NP++[(zs k,b,.MQ (ts.β:ML),)]),.NT (ti,NP,zs k,b,h1,h2,1,p,3,by rw[l];show r,1),3)
  .rw [mG (n:=0) l (λi k x a b=>by rw[Φ.Pz];show s i k x a b),o];rfl
  .unfold Aq;rw[Ω c];refine(_,j_,λx g=>?_,by rw[w_,w_,l];rfl,λi k' x j g=>?_)
   .rcases Na.mp g with z|z
    .exact (dK P w ti).ST (Rv _) (h2 x z)
    .rw [Ay z];show(dK P w ti).ST (Rv _) p
   .by_cases q:i<ts.β
    .rw [MY q]at j;rw[MY (by rw[l];show q)]at g;show s i k' x j g
    .rw [MW (OQ q)]at j;rw[MW (by rw[l];show OQ q),l]at g;let hz:i-ts.β=0:=by
      have:=(q5 j).1;simp at this;omega
     rw[hz]at j g;cases j;cases g;show(1,by rw[show i=ts.β by lia])
def Aq.OP(h:Aq P w H d ti ts)(s:∀b o,H b<*o->(b=d\/∃xs,o=.No xs)->H' b<*o):Aq P w H' d ti ts:=by
 unfold Aq at h⊢;by_cases c:ti=.i
 .subst c;rw[Id ζ]at h⊢;show(s _ _ h.1 (.NI ζ),h.2)
 .rw [Ω c]at h⊢;let⟨NP,h1,h2,g,f⟩:=h;show(NP,s _ _ h1 (.NI ζ),λx a=>(dK P w ti).ST (λb xs e=>s _ _ e (.NT (_,ζ))) (h2 x a),g,f)
end
end RA
namespace L2
open PySem.Spec PyProof.Rows
namespace ZP
abbrev iw(T:υ)(b:MX)(TI TO:υ):Rm:={OM:=.MM "zip",Pv:=ε,NH:=.N_ #[Nw T,.Pe b,.Pe η,.π TI,.π TO],Rw:=#[]}
section
variable{prog:Program}{w:World}{A:Around}{E:Value->Shared->Prop}{s:Shared}{z TI TO i1 i2 T:Addr}{f1 f2:List Addr}{n1 n2 k:Nat}{P1 P2:Nat->Value->Prop}{S1 S2:Nat->Heap->Prop}{b1:Bool}{oT:Obj}
def m3(hz:s.ο.ψ z<*iw T b1 TI TO)(a:s.ο.ψ T<*oT)(h:∀h',h'.ψ z<*iw T ξ TI TO->Pd z s.ο h'->Q η {s with ο:=h'}):BT (Cl Ξ w) A (Builtin.O0.UZ (.π z)) Q E s:=by
 unfold Builtin.O0.UZ;refine d_ (NO hz ζ (x:=Nw T) ζ ?_);change BT _ _ (loadIfAlive ((T:ML).On)>>=_) _ _ _;rw[ML.V0];refine d_ (Δ.W.kdx_alive a ?_);refine OG (!1) (d_ (NO hz ζ (x:=.Pe b1) ζ ?_));cases b1 with
 |ξ=>show OG (!0) (j' (h _ hz (1,λ_ _=>rfl)))
 |η=>show VL (!0) (d_ (Qx hz (!1) λh' e c=>j' (h h' e c)))
def xW{Q:θ->MH->Prop}(F:TQ Ξ w A i1 f1 n1 P1 S1)(D:TQ Ξ w A i2 f2 n2 P2 S2)(P:∀c∈f1,c=i1\/c∉[z,TO,i1,i2])(m2:∀c∈f2,c=i2\/c∉[z,TO,i1,i2])(b:T7 z TI TO i1 i2 TI TI)(hz:s.ο.ψ z<*iw T b1 TI TO)(R:s.ο.ψ T<*oT)(i:Pk s.ο TI (.π i1) (.π i2))(h1:S1 k s.ο)(h2:S2 k s.ο)(l1:k<n1)(l2:k<n2)(U:∀x y h' J,P1 k x->P2 k y->h'.ψ z<*iw T ξ TI TO->Pk h' TI (.π i1) (.π i2)->S1 (k+1) h'->S2 (k+1) h'->Pk h' s⁻¹ x y->
   (∀c o,c∉[z,TO,i1,i2]->s.ο.ψ c<*o->h'.ψ c<*o)->Q (.π s⁻¹) {s with ο:=h',MT:=J}):BT (Cl Ξ w) A (Builtin.«zip.__next__» ([.π z],[])) (λB s'=>∃v,B=.done (.UT v)/\Q v s') E s:=by
 unfold Builtin.«zip.__next__»;refine d_ (RZ (a:=(θ.π z,[],)) ζ (d_ (NO hz ζ (x:=.Pe η) ζ (d_ (NO hz ζ (x:=.π TI) ζ (d_ (O4 i ζ (OG (!1) (d_ (m3 hz R λW I c1=>OG (!0) ?_))))))))));dsimp only;let k1:bc [z,TO,i1,i2] s.ο W:=.Of c1 (!1);let l:∀{j:Φ}{g g':NR},(∀c o,c∉[z,TO,i1,i2]->g.ψ c<*o->g'.ψ c<*o)->S1 j g->(∀o,g.ψ i1<*o->g'.ψ i1<*o)->S1 j g':=λk st e=>F.RN _ _ _ st λc h=>by
  rcases P c h with ζ|u
  .exact e
  .exact λo q=>k c o u q
 let C:∀{j:Φ}{g g':NR},(∀c o,c∉[z,TO,i1,i2]->g.ψ c<*o->g'.ψ c<*o)->S2 j g->(∀o,g.ψ i2<*o->g'.ψ i2<*o)->S2 j g':=λk st e=>D.RN _ _ _ st λc h=>by
  rcases m2 c h with ζ|u
  .exact e
  .exact λo q=>k c o u q
 rw[<-Uw];change BT _ _ (YS [θ.π i1,.π i2] _ _>>=_) _ _ _;simp only[Qg,SQ];refine d_ (d_ (d_ (NQ (d_ (m:=Builtin.O0.UN (.π i1)) (F.Ut k _ _ _ l1 (l k1.2 h1 λo e=>(c1.2 i1 b.i1z).ν e) λx Y X O d1 p=>j' ?_)))));dsimp only;refine j' (d_ (d_ (NQ (d_ (m:=Builtin.O0.UN (.π i2)) (D.Ut k _ _ _ l2 (C (k1.ν (.Of p (!1))).2 h2 λo e=>(p.2 i2 b.i12.MO).ν ((c1.2 i2 b.i2z).ν e)) λy d L N d2 n=>j' ?_)))));dsimp only;refine j' (j' (d_ (wpAny_newTuple (V6:=sT (by change 2≤16777216;decide)) (j' (0,3)))));let k3:bc [z,TO,i1,i2] s.ο d:=(k1.ν (.Of p (!1))).ν (.Of n (!1));let H:d.ψ z<*iw T ξ TI TO:=(n.2 z b.i2z.MO).ν ((p.2 z b.i1z.MO).ν I);let r:Pk d TI (.π i1) (.π i2):=k3.2 TI _ (by simp[b.TIz,b.TITO,b.TIi1,b.TIi2]) i;let M:d.Np.MV=s⁻¹:=k3.1;let t:S1 (k+1) d:=l (bc.Of (S:=[z,TO,i1,i2]) n (!1)).2 d1 λo e=>(n.2 i1 b.i12).ν e;let f:Pk (d.Ni {OM:=.MM "tuple",NH:=.Sx #[x,y]}) d.Np.MV x y:=MS _ ζ;change Q (.π d.Np.MV) _;rw[M]at f⊢;show U x y _ L O N (sy _ H) (sy _ r) (F.RN _ _ _ t λc _ o e=>sy _ e) (D.RN _ _ _ d2 λc _ o e=>sy _ e) f λc o h e=>sy _ (k3.2 c o h e)
def xH(f:TQ Ξ w A i1 f1 n1 P1 S1)(j:∀c∈f1,c=i1\/c∉[z,TO,i1,i2])(y:T7 z TI TO i1 i2 TI TI)(hz:s.ο.ψ z<*iw T b1 TI TO)(p:s.ο.ψ T<*oT)(d:Pk s.ο TI (.π i1) (.π i2))(h1:S1 n1 s.ο)(t:∀h' e h,(∀c o,c∉[z,TO,i1,i2]->s.ο.ψ c<*o->h'.ψ c<*o)->(∃o,h'.ψ e=δ o/\o.OM=.MM "StopIteration")->E (.π e) {s with ο:=h',MT:=h}):BT (Cl Ξ w) A (Builtin.«zip.__next__» ([.π z],[])) Q E s:=by
 unfold Builtin.«zip.__next__»;refine d_ (RZ (a:=(θ.π z,[],)) ζ (d_ (NO hz ζ (x:=.Pe η) ζ (d_ (NO hz ζ (x:=.π TI) ζ (d_ (O4 d ζ (OG (!1) (d_ (m3 hz p λv B c1=>OG (!0) ?_))))))))));dsimp only;rw[<-Uw];change BT _ _ (YS [θ.π i1,.π i2] _ _>>=_) _ _ _;simp only[Qg,SQ];let i:S1 n1 v:=f.RN _ _ _ h1 λc b o e=>by
  rcases j c b with ζ|l
  .exact (c1.2 _ y.i1z).ν e
  .exact (c1.2 c λq=>l (by simp[q])).ν e
 refine d_ (d_ (d_ (NQ (d_ (m:=Builtin.O0.UN (.π i1)) (f.done _ _ _ i λu e g n=>?_)))));show t u e s.MT (λc o b q=>g c o (λr=>b (by simp[r])) ((c1.2 c λr=>b (by simp[r])).ν q)) n
end
section
variable{prog:Program}{w:World}{A:Around}{R:Result->Shared->Prop}{z TI TO i1 i2 S:Addr}{f1 f2:List Addr}{n:Nat}{P1 P2:Nat->Value->Prop}{S1 S2:Nat->Heap->Prop}
structure LZ(h0:Heap)(z TI TO i1 i2 S:Addr)(P1 P2:Nat->Value->Prop)(S1 S2:Nat->Heap->Prop)(k:Nat)(h:Heap)(acc:Array Value):Prop where
 zip:(k=0/\IsZip h z TI TO .none/\∃a b,IsPair h TO a b)\/(0<k/\∃b1 T oT,h.get? z=some (iw T b1 TI TO)/\h.get? T=some oT/\h0.objs.size≤T)
 ti:IsPair h TI (.ref i1) (.ref i2)
 s1:S1 k h
 s2:S2 k h
 sz:h0.objs.size≤h.objs.size
 len:acc.size=k
 items:∀(j:Nat)(v:Value),acc[j]?<*v->∃t x y,v=.ref t/\P1 j x/\P2 j y/\IsPair h t x y/\h0.objs.size≤t
 inj:∀(i j:Nat)(t:Addr),acc[i]?<*.ref t->acc[j]?<*.ref t->i=j
 keep:∀c o,c∉[z,TO,i1,i2,S]->h0.get? c<*o->h.get? c<*o
def Ja(d:s.Sa (.π z) "zip")(h:BT (Cl Ξ w) A.S0 (Builtin.«zip.__next__» ([.π z],[])) (λa s'=>∃v,a=.done (.UT v)/\Q (δ v) s') (λe s'=>∃o e',e=.π e'/\s'.ο.ψ e'=δ o/\o.OM=.MM "StopIteration"/\Q ε s') s):BT (Cl Ξ w) A (Up (.π z)) Q E s:=by
 unfold Up;refine d_ (S7 (OR (OD:=M'.Nd "__next__") d F.S8 (Oe F.S8 d F.YU (NG h (λa s' c=>?_) λe s' c=>?_) (F.Xo _))))
 .obtain ⟨v,ζ,q⟩:=c;show(v,1,j' q)
 .obtain ⟨o,e',ζ,f,g,q⟩:=c;show d_ (So (T:="StopIteration") (b:=ξ) (o,f,g) YN (j' q))
def pY(D1:TQ Ξ w A.S0.S0 i1 f1 n P1 S1)(D2:TQ Ξ w A.S0.S0 i2 f2 n P2 S2)(ap:T7 z TI TO i1 i2 TI TI)(hn:n≤1000000)(m1:∀c∈f1,c=i1\/c∉[z,TO,i1,i2,S])(m2:∀c∈f2,c=i2\/c∉[z,TO,i1,i2,S])(lt:∀c∈[z,TI,TO,i1,i2,S],c<h0.Np.MV)(hS:S∉[z,TI,TO,i1,i2])(M:θ)(ς:MH)(hR:∀h C g c,LZ h0 z TI TO i1 i2 S P1 P2 S1 S2 n h g->h.ψ S<*{OM:=.MM "list",Pv:=ε,NH:=.Sx g c,Rw:=#[]}->∀h',(∀c o,c∉[z,TO,i1,i2]->h.ψ c<*o->h'.ψ c<*o)->R (.ok (.UT M)) {ς with ο:=h',MT:=C}):∀(m k:Φ)(h:NR)(C:Φ)(g:Nq θ)(c:Φ),n-k=m->k≤n->LZ h0 z TI TO i1 i2 S P1 P2 S1 S2 k h g->h.ψ S<*{OM:=.MM "list",Pv:=ε,NH:=.Sx g c,Rw:=#[]}->
   Qe (Cl Ξ w) A (.Nf "list.extend.loop" ([.π S,.π z,M],[])) R {ς with ο:=h,MT:=C}:=by
 let N:∀c∈f1,c=i1\/c∉[z,TO,i1,i2]:=λc l=>(m1 c l).Wc id λq z=>q (by simp at z⊢;rcases z with y|y|y|y<;>simp[y]);let P:∀c∈f2,c=i2\/c∉[z,TO,i1,i2]:=λc l=>(m2 c l).Wc id λq z=>q (by simp at z⊢;rcases z with y|y|y|y<;>simp[y]);let as:S≠z:=λq=>hS (by simp[q]);let aA:S≠TI:=λq=>hS (by simp[q]);let az:S≠TO:=λq=>hS (by simp[q]);let aC:S≠i1:=λq=>hS (by simp[q]);let aB:S≠i2:=λq=>hS (by simp[q]);let aS:S∉[z,TO,i1,i2]:=by simp[as,az,aC,aB]
 let I:S<h0.Np.MV:=lt S (!1);intro m;induction m with
 |TB=>
  intro k h C g c J hk L W;let e:k=n:=by lia
  subst e;refine Pc F.entry_extend_loop ?_;rw[N0.R5 F.UC _];change BT _ A.S0 (Up (.π z)>>=_) _ _ _;let D:∀h' e d,(∀c o,c∉[z,TO,i1,i2]->h.ψ c<*o->h'.ψ c<*o)->(∃o,h'.ψ e=δ o/\o.OM=.MM "StopIteration")->
    ∃o e',(θ.π e)=.π e'/\({ς with ο:=h',MT:=d}:MH).ο.ψ e'=δ o/\o.OM=.MM "StopIteration"/\BT (Cl Ξ w) A.S0 (UT M) (λD s'=>match D with|.done f=>R (.ok f) s'|.again c'=>c'.Yy=ξ/\Qe (Cl Ξ w) A c' R s') (λe s'=>R (.R9 e) s') {ς with ο:=h',MT:=d}:=λh' e d u⟨o,ho,l⟩=>
   (o,e,1,ho,l,j' (hR h d g c L W h' u))
  rcases L.Td with⟨Q,hz,a,b,U⟩|⟨Q,b1,T,Y,hz,hT,_⟩
  .refine d_ (Ja (s:={ς with ο:=h,MT:=C}) (_,hz,1) (ER (s:={ς with ο:=h,MT:=C}) D1 D2 N P ap hz L.ti U L.s1 L.s2 (.NI ζ) λh' e d u he=>D h' e d u he))
  .refine d_ (Ja (s:={ς with ο:=h,MT:=C}) (_,hz,1) (xH (s:={ς with ο:=h,MT:=C}) D1 N ap hz hT L.ti L.s1 λh' e d u he=>D h' e d u he))
 |Sc m ih=>
  intro k h C g c J hk L W;let E:k<n:=by lia
  refine Pc F.entry_extend_loop ?_;rw[N0.R5 F.UC _];change BT _ A.S0 (Up (.π z)>>=_) _ _ _;let go:∀x y h' d(zs:∃b1 T Y,h'.ψ z=δ (iw T b1 TI TO)/\h'.ψ T=δ Y/\h0.Np.MV≤T),P1 k x->P2 k y->Pk h' TI (.π i1) (.π i2)->S1 (k+1) h'->S2 (k+1) h'->Pk h' h.Np.MV x y->(∀c o,c∉[z,TO,i1,i2]->h.ψ c<*o->h'.ψ c<*o)->
    BT (Cl Ξ w) A.S0 (Builtin.γ.listUpdate (.π S) (·.Ni (.π h.Np.MV))>>=λ_=>again (.Nf "list.extend.loop" ([.π S,.π z,M],[]))) (λD s'=>match D with|.done f=>R (.ok f) s'|.again c'=>c'.Yy=ξ/\Qe (Cl Ξ w) A c' R s') (λe s'=>R (.R9 e) s') {ς with ο:=h',MT:=d}:=by
   intro x y h' d zs p1 Z ti aN aM p u;let aH:=u S _ aS W;refine d_ ?_;change BT _ A.S0 (Yw S (·.Ni (.π h.Np.MV))) _ _ _;let B:g.MV=k:=L.PJ;refine U6 (s:={ς with ο:=h',MT:=d}) aH ζ (j' (R7 F.UC _,3)) (by rw[B,OO];omega) (by change (g.Ni _).MV≤Λ+1;rw[Nq.Pb,B,OO];lia);let O:∀c o,c≠S->h'.ψ c<*o->(h'.Oy S (Sz (·.Ni (.π h.Np.MV)))).ψ c<*o:=λc o l e=>(OW _ _ (Ne.MO l)).ν e;let ag:h.Np.MV≠S:=Qc (Ψ I L.sz);let an:h.Np.MV<h'.Np.MV:=lt_size p;let aU:∀c∈f1,c≠S:=λc l q=>by
    rcases m1 c l with r|r
    .exact aC (q.MO.ν r)
    .exact r (by simp[q])
   let aT:∀c∈f2,c≠S:=λc l q=>by
    rcases m2 c l with r|r
    .exact aB (q.MO.ν r)
    .exact r (by simp[q])
   refine ih (k+1) _ d (g.Ni (.π h.Np.MV)) _ (!6) E (3,O TI _ (Ne.MO aA) ti,D1.RN _ _ _ aN λc l o e=>O c o (aU c l) e,D2.RN _ _ _ aM λc l o e=>O c o (aT c l) e,3,by rw[Nq.Pb,B],λj v H=>?_,λi j t hi H=>?_,λc o l e=>?_) (N1 _ aH ζ)
   .obtain ⟨b1,T,Y,e1,e2,e3⟩:=zs;show .NT (Φ.Zw k,b1,T,Y,O z _ (Ne.MO as) e1,O T _ (Qc (Ψ I e3)) e2,e3)
   .rw [NR.XR];show IO L.sz (Pn an)
   .rw [Nq.Yq]at H;split at H
    .rename_i ej;cases H;rw[B]at ej;rw[ej];show(_,x,y,1,p1,Z,O _ _ ag p,L.sz)
    .obtain ⟨t,x',y',ζ,q1,q2,q3,q4⟩:=L.Y1 j v H;refine(t,x',y',1,q1,q2,O t _ (Qc (Ψ I q4)) (u t _ (λJ=>?_) q3),q4);show MJ (lt t (by simp at J⊢;rcases J with y|y|y|y<;>simp[y])) (TU.Om q4)
   .let ab:∀(a:Φ),g[a]?<*.π h.Np.MV->NU:=λa e=>by
     let⟨t,x',y',e1,_,_,q3,_⟩:=L.Y1 a _ e;cases e1;show MJ (lt_size q3) (Qq _)
    rw[Nq.Yq]at hi H;split at hi
    .rename_i ei;cases hi;split at H
     .rename_i ej;lia
     .exact (ab _ H).Nv
    .split at H
     .cases H;show(ab _ hi).Nv
     .exact L.QG i j t hi H
   .let hcS:c≠S:=λq=>l (by simp[q]);show O c o hcS (u c o (λJ=>l (by simp at J⊢;rcases J with y|y|y|y<;>simp[y])) (L.P_ c o l e))
  rcases L.Td with⟨Q,hz,a,b,U⟩|⟨Q,b1,T,Y,hz,hT,ar⟩
  .refine d_ (Ja (s:={ς with ο:=h,MT:=C}) (_,hz,1) (Ge (s:={ς with ο:=h,MT:=C}) D1 D2 N P ap hz L.ti U L.s1 L.s2 E E λx y h' d p1 Z gz X aV g1 g2 p u=>?_));show go x y h' d (η,h.Np.MV,_,gz,p,L.sz) p1 Z X g1 g2 p u
  .refine d_ (Ja (s:={ς with ο:=h,MT:=C}) (_,hz,1) (xW (s:={ς with ο:=h,MT:=C}) D1 D2 N P ap hz hT L.ti L.s1 L.s2 E E λx y h' d p1 Z gz X g1 g2 p u=>?_));refine go x y h' d (ξ,T,Y,gz,u T _ (λJ=>?_) hT,ar) p1 Z X g1 g2 p u;show MJ (lt T (by simp at J⊢;rcases J with y|y|y|y<;>simp[y])) (TU.Om ar)
end
section
variable{prog:Program}{w:World}{A:Around}{E:Value->Shared->Prop}{z TI TO i1 i2:Addr}{f1 f2:List Addr}{n:Nat}{P1 P2:Nat->Value->Prop}{S1 S2:Nat->Heap->Prop}
def j9:YB (.MM "zip") "__len__"=pure ε:=by rw[U8,Sl];kernel_rfl
def iu:YB (.MM "zip") "__length_hint__"=pure ε:=by rw[U8,Sl];kernel_rfl
def E8(D1:TQ Ξ w A.S0.S0.S0 i1 f1 n P1 S1)(D2:TQ Ξ w A.S0.S0.S0 i2 f2 n P2 S2)(ap:T7 z TI TO i1 i2 TI TI)(hn:n≤1000000)(m1:∀c∈f1,c=i1\/(c∉[z,TO,i1,i2]/\c<s⁻¹))(m2:∀c∈f2,c=i2\/(c∉[z,TO,i1,i2]/\c<s⁻¹))(hz:VB s.ο z TI TO .ε)(T:Pk s.ο TI (.π i1) (.π i2))(R:Pk s.ο TO a b)(h1:S1 0 s.ο)(h2:S2 0 s.ο)(l1:i1<s⁻¹)(l2:i2<s⁻¹)(hQ:∀h' Z(k:Nq θ)c,(∀b o,b∉[z,TO,i1,i2]->s.ο.ψ b<*o->h'.ψ b<*o)->h'.ψ s⁻¹<*{OM:=.MM "list",Pv:=ε,NH:=.Sx k c,Rw:=#[]}->k.MV=n->
   (∀(j:Φ)(v:θ),k[j]?<*v->∃t x y,v=.π t/\P1 j x/\P2 j y/\Pk h' t x y/\s⁻¹<t)->(∀(i j:Φ)(t:υ),k[i]?<*.π t->k[j]?<*.π t->i=j)->Q (.π s⁻¹) {s with ο:=h',MT:=Z}):BT (Cl Ξ w) A (Ql (.MM "list") [.π z]) Q E s:=by
 refine callType_codes (Q₁:=λO u=>O=.π s⁻¹/\u={s with ο:=s.ο.Ni {OM:=.MM "list",NH:=.Sx #[]} }) F.called_list (F.typeCall_list_1 _) F.entry_list_init
  (code_list_new _ (1,1)) λO u P=>?_
 let⟨rfl,ζ⟩:=P;let Y:(s.ο.Ni {OM:=.MM "list",NH:=.Sx #[]}).ψ s⁻¹<*{OM:=.MM "list",NH:=.Sx #[]}:=MS _ ζ;refine((_,Y,1),F.args_list_init_2 _ _,3);let m:z<s⁻¹:=lt_size hz;let H:TI<s⁻¹:=lt_size T;let p:TO<s⁻¹:=lt_size R;let d:∀c,c<s⁻¹->c≠s⁻¹:=λc g=>M8 g;generalize J:s⁻¹=S at *;change BT _ _ (do let ab <-Builtin.γ.listItems (.π S);Builtin.γ.listUpdate (.π S) (λ_=>#[]);letGo ab.ND.Nc;Builtin.γ.VV (.π S) (.π z) .ε) _ _ _;refine d_ ?_;unfold Builtin.γ.listItems;refine d_ (O4 Y ζ (j' ?_));change BT _ _ (Yw S (λ_=>#[])>>=λ_=>letGo (#[]:Nq θ).ND.Nc>>=λ_=>Builtin.γ.VV (.π S) (.π z) .ε) _ _ _;refine d_ (U6 Y ζ ?_);let M:=N1 (Sz (λ_=>(#[]:Nq θ))) Y ζ;let D:∀b o,b≠S->s.ο.ψ b<*o->((s.ο.Ni {OM:=.MM "list",NH:=.Sx #[]}).Oy S (Sz (λ_=>(#[]:Nq θ)))).ψ b<*o:=
  λb o l e=>(OW _ _ (Ne.MO l)).ν (sy _ e)
 let B:((s.ο.Ni {OM:=.MM "list",NH:=.Sx #[]}).Oy S (Sz (λ_=>(#[]:Nq θ)))).Np.MV=S+1:=by rw[NR.XR,Pb,J]
 refine d_ (VJ ?_);generalize (s.ο.Ni {OM:=.MM "list",NH:=.Sx #[]}).Oy S (Sz (λ_=>(#[]:Nq θ)))=h0 at M D B;let zz:VB h0 z TI TO .ε:=D z _ (d z m) hz;let hT:({s with ο:=h0}:MH).Sa (.π z) "zip":=(_,zz,1);let I:S≠z:=Ne.MO (d z m);unfold Builtin.γ.VV;refine d_ (WR hT ?_);let e1:Builtin.γ.listSameRef (.π S) (.π z)=η:=by simp[Builtin.γ.listSameRef,I]
 let e2:(θ.MM "zip"==θ.MM "list")=η:=by decide
 let e3:(θ.MM "zip"==θ.MM "tuple")=η:=by decide
 simp only[e1,e2,e3,MX.N9,MX.US,Uc];refine d_ (Wr (s:={s with ο:=h0}) zz ?_);refine d_ (NQ ?_);unfold Builtin.γ.YL;refine d_ (U7 hT j9 ?_);change BT _ _ (specialOf (θ.π z) (M'.Nd "__length_hint__")>>=_) _ _ _;refine d_ (U7 hT iu ?_);refine j' ?_;change BT _ _ (WX "list.extend.makes-room" >>= λ_=>Builtin.γ.listTouch (.π S)>>=λ_=>again (.Nf "list.extend.loop" ([.π S,.π z,.ε],[]))) _ _ _;refine d_ (WE ?_);refine d_ ?_;change BT _ _ (Yw S (·.Ni .ε)>>=λ_=>Yw S (·.pop)) _ _ _;refine d_ (U6 (s:={s with ο:=h0}) M ζ ?_);let W:=N1 (Sz (·.Ni θ.ε)) M ζ;refine U6 (hz:=by seq_fits) W ζ ?_;let U:=N1 (Sz (·.pop)) W ζ;let f:∀b o,b≠S->s.ο.ψ b<*o->((h0.Oy S (Sz (·.Ni θ.ε))).Oy S (Sz (·.pop))).ψ b<*o:=
  λb o l e=>(OW _ _ (Ne.MO l)).ν ((OW _ _ (Ne.MO l)).ν (D b o l e))
 let r:((h0.Oy S (Sz (·.Ni θ.ε))).Oy S (Sz (·.pop))).Np.MV=S+1:=by rw[NR.XR,NR.XR];show B
 generalize ((h0.Oy S (Sz (·.Ni θ.ε))).Oy S (Sz (·.pop)))=X at U f r;let az:∀c∈f1,c<S:=λc g=>(m1 c g).Nv (λq=>q▸l1) λq=>q.2;let as:∀c∈f2,c<S:=λc g=>(m2 c g).Nv (λq=>q▸l2) λq=>q.2;let N:∀c:υ,c∉[z,TO,i1,i2]->c<S->c∉[z,TO,i1,i2,S]:=λc h1 h2 C=>by
  simp at C h1;rcases C with y|y|y|y|y
  .exact h1.1 y
  .exact h1.2.1 y
  .exact h1.2.2.1 y
  .exact h1.2.2.2 y
  .exact MJ h2 (by rw[y];show Qq _)
 refine j' (R7 F.UC _,pY (S:=S) (h0:=X) (n:=n) (ς:=s) D1 D2 ap hn (λc g=>(m1 c g).Wc id λq=>N c q.1 q.2) (λc g=>(m2 c g).Wc id λq=>N c q.1 q.2) (λc g=>?_) ?_ .ε ?_ n 0 X _ #[] _ (!6) (Nb _)
  (.NI (1,f z _ (d z m) hz,a,b,f TO _ (d TO p) R),f TI _ (d TI H) T,D1.RN _ _ _ h1 λc g o e=>f c o (d c (az c g)) e,D2.RN _ _ _ h2 λc g o e=>f c o (d c (as c g)) e,LT _,1,λj v hj=>by simp at hj,λi j t hi=>by simp at hi,λc o _ e=>e) U)
 .rw [r];simp only[MN,NW,N9]at g;rcases g with y|y|y|y|y|y
  .rw [y];show QF m
  .rw [y];show QF H
  .rw [y];show QF p
  .rw [y];show QF l1
  .rw [y];show QF l2
  .rw [y];show OA _
 .simp [I,Ne.MO (d TI H),Ne.MO (d TO p),Ne.MO (d i1 l1),Ne.MO (d i2 l2)]
 .intro h Z k c L an h' kp;let ar:S∉[z,TO,i1,i2]:=by simp[I,Ne.MO (d TO p),Ne.MO (d i1 l1),Ne.MO (d i2 l2)]
  refine(1,hQ h' Z k c (λb o l e=>kp b o l (L.P_ b o (λC=>?_) (f b o (d b (by rw[<-J];show lt_size e)) e))) (kp S _ ar an) L.PJ (λj v hj=>?_) L.QG)
  .simp at C l;rcases C with y|y|y|y|y
   .exact l.1 y
   .exact l.2.1 y
   .exact l.2.2.1 y
   .exact l.2.2.2 y
   .exact MJ (lt_size e) (by rw[J,y];show Qq _)
  .obtain ⟨t,x,y,ζ,p1,p2,q,q2⟩:=L.Y1 j v hj;rw[r]at q2;refine(t,x,y,1,p1,p2,kp t _ (λC=>?_) q,q2);let ag:t<S:=by
    simp at C;rcases C with y|y|y|y
    .rw [y];show m
    .rw [y];show p
    .rw [y];show l1
    .rw [y];show l2
   show MJ (Ψ ag (SD S)) (TU.Om q2)
end
end ZP
section
variable{X:Cx}{pins:List (Addr×Obj)}{σ:St}{H H':Hp}{s:Shared}{h':Heap}
def f'.many(I:f' X MZ σ H s)(k:∀b o,s.ο.ψ b<*o->h'.ψ b<*o)(a:∀b,b<s⁻¹->H' b=H b)(f:∀b o,s⁻¹≤b->H' b<*o->Az X.Ξ X.w H' h' b o):f' X MZ σ H' {s with ο:=h',MT:=t'}:=by
 let d:∀{b:υ}{u:HO},H b<*u->H' b<*u:=λ{b u}e=>by rw[a b (I.Oc.lt e)];show e
 refine I.un (H':=H') (λb o e _ _ _=>k b o e,λb o e _ _ _=>(o.Rw,k b o e),λb o e n _=>by rw[a b (lt_size e)];show n,λb o e _=>(o,k b o e),λb xs e=>d e,λb o u e=>d e,λb ps e=>(#[],by rw[d e];simp)) λb o e=>?_;by_cases h:s⁻¹≤b
 .exact f b o h e
 .let g:b<s⁻¹:=Φ.lt_of_not_le h;rw[a b g]at e;show(I.Oc b o e).ST (λc u _ q=>k c u q) (λc q=>d q) λc xs q=>d q
end
abbrev o7(ts:γ υ)(xs ys:γ V)(b:υ):ω HO:=((ts.Td (xs.Td ys)).ρ b).NL λq=>HO.No [q.1,q.2]
def Ly{d:Type}{b:υ}{v:d}:∀{ts:γ υ}{vs:γ d}{i:Φ},ts.Nx->ts[i]?<*b->vs[i]?<*v->(ts.Td vs).ρ b<*v
 |[],_,_,_,h,_=>by simp at h
 |_::_,[],_,_,_,h=>by simp at h
 |t::ts,w::vs,0,a,h1,h2=>by
  simp at h1 h2;subst h1 h2;simp[OI]
 |t::ts,w::vs,i+1,a,h1,h2=>by
  let c:b≠t:=λz=>(Tt.mp a).1 (by rw[<-z];show AC (by simpa using h1));rw[γ.zip_cons_cons,OI,NB.Om c];show Ly (i:=i) (Tt.mp a).2 (by simpa using h1) (by simpa using h2)
def Lz{b:Type}:∀{l:γ b},(∀(i j:Φ)(t:b),l[i]?<*t->l[j]?<*t->i=j)->l.Nx
 |[],_=>γ.nodup_nil
 |a::r,h=>by
  rw[Tt];refine(λc=>?_,Lz λi j t h1 h2=>?_)
  .obtain ⟨j,d⟩:=NM.mp c;have:=h 0 (j+1) a ζ (by simpa using d);lia
  .have:=h (i+1) (j+1) t (by simpa using h1) (by simpa using h2);lia
def eR{a:Type}{b:υ}{v:a}:∀{l:γ (υ×a)},l.ρ b<*v->(b,v,)∈l
 |[],e=>by cases e
 |(c,x)::r,e=>by
  rw[OI]at e;by_cases d:b=c
  .subst d;simp at e;simp[e]
  .rw [NB.Om d]at e;show M1 _ (eR e)
def Jb{d:Sd}(a:d.Tn H xs)(b:d.Tn H ys):xs=ys:=by
 cases d with
 |tx x k=>show(show xs=_ from a).ν (show ys=_ from b).MO
 |tp c=>
  let a:H c=_:=a;let b:H c=_:=b;rw[a]at b;cases b;rfl
 |ls c=>
  let a:H c=_:=a;let b:H c=_:=b;rw[a]at b;cases b;rfl
def su{g:TG}{n:TS}{D:XL}(t:xs.β=ys.β)(c:Φ->St->Hp->Prop)(h0:c 0 b H)(u:∀i b H,c i b H->d1.Tn H xs/\d2.Tn H ys)(s:∀i x y p b H,xs[i]?<*x->ys[i]?<*y->H p=ε->c i b H->g (.π p) b (MR H p (.No [x,y])) λd l=>n {D with nx:=c (i+1),ct:=c (i+1),bk:=D.nx} d l)(w:∀b H,c xs.β b H->D.nx b H):∃W:Φ->Φ->St->Hp->Prop,(∃m,W 0 m b H)/\∀i m b H,W i m b H->
   ((Gj d1 d2).Sv i H/\D.nx b H)\/((Gj d1 d2).go i H/\∃N:St->Hp->Prop,(∀f H',N f H'->∃o,o<m/\W (i+1) o f H')/\∀v H',(Gj d1 d2).X6 i H v H'->g v b H' λd l=>n {D with nx:=N,ct:=N,bk:=D.nx} d l):=by
 refine(λi m b H=>m=xs.β-i/\i≤xs.β/\c i b H,(xs.β,!1,Nb _,h0),3);rintro i m b H⟨rfl,F,p⟩;let⟨h1,h2⟩:=u i b H p;by_cases k:i<xs.β
 .refine .NT ((xs,ys,xs[i],ys[i]'(!6),h1,h2,n_ _,n_ _),c (i+1),λf H' r=>(xs.β-(i+1),!6,1,k,r),λv H' q=>?_);let⟨a,j,h,x,y,E,C,B,A,ζ,z,ζ⟩:=q;have:=Jb E h1;have:=Jb C h2;subst j h;show s i x y a b H B A z p
 .let e:i=xs.β:=by lia
  subst e;show .NI ((xs,ys,h1,h2,t,1),w b H p)
def tN(h:H a<*.No xs\/H a<*.M5 xs)(b:∀d2:Sd,(∀H':Hp,H' a=H a->d2.Tn H' xs)->∀k,R (Gj (.tx x k) d2) H):rY R [.M_ x,.π a] H:=by
 rcases h with h|h
 .exact (.tx x 0,.tp a,_,xs,5,h,λk _=>b (.tp a) (λH' e=>e.ν h) k)
 .exact (.tx x 0,.ls a,_,xs,5,h,λk _=>b (.ls a) (λH' e=>e.ν h) k)
structure j7(K:Frag)(x qual:Str)(st:Stmt)(f:Addr)(fd:FuncData):Prop where
 ex:∃(oc:Value)(od:Option Addr)(dV kV doc pm:Value)(an:Option Addr)(cdv ct:Value)(osl:Array (Option Value)),
  fd=fnOf x qual (t5 st) (p_ st) (h_ st) dV kV doc pm an cdv ct/\K.lookup f=some (oc,od,.func fd,osl)/\codeIn K cdv qual=true
 kp:keepIn K (.ref f)=true
def j7.ok{P:NC}{w:Ny}{K:Nl}{st:Nr}(F:j7 K x M4 st f i)(S:vw N ps (h_ st))(PJ:∀vs H Q E,d vs H Q E->vs.β=ps.β)(a:∀(Qi:θ)(A:N0)(Fr:γ WC)(s:MH)(H:Hp)(vs:γ V)(Q:VK)(E:XK),ak k (A.RE (S4 M4 (h_ st) s⁻¹ f Qi))->d vs H Q E->
   ∃t,BA (aG pu P w K mg ς N M4 (h_ st) f Qi A Fr s H E).nox (p_ st) t/\t {nx:=λ_ H'=>Q .Rt H',rt:=Q} (SM N vs) H):aa P w K mg ς pu (k+1) f i ps d:=by
 let⟨l,j,m,kV,Pi,pm,an,Qi,ct,e,ζ,lk,c⟩:=F.ex;refine jC lk c S PJ λA Fr s H vs Q E g b=>?_;let⟨t,h,q⟩:=a Qi A Fr s H vs Q E g b;show(t,h.nox,q)
def ny{P:NC}{w:Ny}{K:Nl}{mg:M'->ω θ}{ς:NR}{st:Nr}{h e kV Pi pm ct:θ}(lk:K.ρ f<*(h,i,.QY (Ps x M4 (t5 st) (p_ st) (h_ st) e kV Pi pm an (.π c) ct),g))(b:O8 K (.π c) M4=ξ)(S:vw N ps (h_ st))(PJ:∀vs H Q E,d vs H Q E->vs.β=ps.β)(a:∀(A:N0)(Fr:γ WC)(s:MH)(H:Hp)(vs:γ V)(Q:VK)(E:XK),ak k (A.RE (S4 M4 (h_ st) s⁻¹ f (.π c)))->d vs H Q E->
   ∃t,BA (aG pu P w K mg ς N M4 (h_ st) f (.π c) A Fr s H E) (p_ st) t/\t {nx:=λ_ H'=>Q .Rt H',rt:=Q} (SM N vs) H):aa P w K mg ς pu (k+1) f (Ps x M4 (t5 st) (p_ st) (h_ st) e kV Pi pm an (.π c) ct) ps d:=jC lk b S PJ a
end L2
namespace RA
open L2
structure Gk(H:Hp)(cW wk:Addr)(L:LN)(t wd y m:Addr):Prop where
 ex:∃dx,H wk<*.ins cW dx [("letters",.str (tx L),),("things",.ref t,),("words",.ref wd,),("ways",.ref y,),("marks",.ref m,)]
abbrev DX(ws:LL):γ V:=ws.NL λw=>V.M_ (tx w)
abbrev br(ti:TK)(H:Hp)(ks:LL)(vs:γ V):Prop:=vs.β=ks.β/\∀(i:Φ)(k:LN)(v:V),ks[i]?<*k->vs[i]?<*v->Av ti H k v
def br.OP(h:br c H ks vs)(s:∀b xs,H b<*.No xs->H' b<*.No xs):br c H' ks vs:=(h.1,λi k v a b=>(h.2 i k v a b).OP s)
def br.snoc(h:br d H ks vs)(f:Av d H k v):br d H (ks++[k]) (vs++[v]):=by
 refine(by rw[w_,w_,h.1];rfl,λi k' e a b=>?_);by_cases c:i<ks.β
 .rw [MY c]at a;rw[MY (by rw[h.1];show c)]at b;show h.2 i k' e a b
 .rw [MW (OQ c)]at a;rw[MW (by rw[h.1];show OQ c),h.1]at b;let hz:i-ks.β=0:=by
   have:=(q5 a).1;simp at this;omega
  rw[hz]at a b;cases a;cases b;show f
abbrev DA(H:Hp)(Sy:γ υ)(R:LL):Prop:=Sy.β=R.β/\∀(i:Φ)(a:υ)(r:LN),Sy[i]?<*a->R[i]?<*r->H a<*.M5 (c_ r)
structure Dg(g:LN->Nat->LN)(nL:Nat)(ks:LL)(R:LL):Prop where
 row:∀(r:Nat)(row:LN)(k:LN),R[r]?<*row->ks[r]?<*k->row.length=nL/\∀(q x:Nat),row[q]?<*x->ks[x]?<*g k q
inductive He(ti:TK)(L:LN)(g:LN->Nat->LN)(U:LL)(Rest:Hp->Prop)(vs:List V)(H:Hp)(Q:VK)(_E:XK):Prop
 |mk (k v:_) (_:vs=[v]) (_:Av ti H k v) (_:k∈U) (_:Rest H) (_:∀gs xs H',a' H H'->(H' gs<*.tup xs\/(H gs=none/\H' gs<*.lst xs))->xs.length=L.length->(∀(q:Nat)(x:V),xs[q]?<*x->Av ti H' (g k q) x)->Q (.ref gs) H')
inductive Hf(ti:TK)(mk:LN->Bool)(U:LL)(Rest:Hp->Prop)(vs:List V)(H:Hp)(Q:VK)(_E:XK):Prop
 |mk (k v:_) (_:vs=[v]) (_:Av ti H k v) (_:k∈U) (_:Rest H) (_:∀H',a' H H'->Q (.bl (mk k)) H')
abbrev c6:ω Φ->V
 |ε=>.Rt
 |δ n=>.MQ (n:ML)
inductive qh(cW:Addr)(vs:List V)(H:Hp)(Q:VK)(_E:XK):Prop
 |mk (x dx L v:_) (_:vs=[.ref x,.str (tx L),v]) (_:H x<*.ins cW dx []) (_:∀t wd y m H',t≠wd->t≠y->t≠m->wd≠y->wd≠m->y≠m->H t=none->H wd=none->H y=none->H m=none->(∀b o,b≠x->H b<*o->H' b<*o)->Gk H' cW x L t wd y m->H' t<*.lst [v]->H' wd<*.lst [.str (tx [])]->H' y<*.lst []->H' m<*.lst []->Q .non H')
inductive Hg(cW:Addr)(ti:TK)(L:LN)(g:LN->Nat->LN)(mk:LN->Bool)(U:LL)(Rest:Hp->Prop)(fg fm:Addr)(vs:List V)(H:Hp)(Q:VK)(_E:XK):Prop
 | mk (s:LN) (sv:V) (most:Option Nat) (_:vs=[.str (tx L),sv,.ref fg,.ref fm,c6 most]) (_:CH L) (_:Av ti H s sv) (_:s∈U) (_:(∀k∈U,∀q,q<L.length->g k q∈U)) (_:U.length≤100000) (_:Rest H) (_:∀(wk t wd y m:Addr)(ks:LL)(vks:List V)(ws:LL)(rows:List Addr)(R:LL)(B:List Bool)(H':Hp),a' H H'->Gk H' cW wk L t wd y m->H' t<*.lst vks->br ti H' ks vks->H' wd<*.lst (DX ws)->H' y<*.lst (rows.map V.ref)->DA H' rows R->H' m<*.lst (B.map V.bl)->
  Bf g L s ks ws R.length 0->Dg g L.length ks R->B.length=R.length->(∀(r:Nat)(k:LN)(b:Bool),ks[r]?<*k->B[r]?<*b->b=mk k)->(∀k∈ks,k∈U)->ks.length≤U.length->(R.length=ks.length\/∃n,most=some n/\n<ks.length)->Q (.ref wk) H')
def Hh(h:n≤100000):n<Λ:=by rw[OO];omega
def zf{A B:Prop}(h:A):if (!decide (V.MQ n=V.Rt))=ξ then A else B:=by
 rw[M3 (λz=>by cases z)];show aw h
structure WI(P:Program)(w:World)(H0 H:Hp)(cW:Addr)(ti:TK)(L:LN)(wk t wd y m d:Addr)(ks:LL)(vks:List V)(ws:LL)(rows:List Addr)(R:LL)(B:List Bool):Prop where
 sm:a' H0 H
 obj:Gk H cW wk L t wd y m
 ht:H t<*.lst vks
 th:br ti H ks vks
 hw:H wd<*.lst (DX ws)
 hy:H y<*.lst (rows.map V.ref)
 wr:DA H rows R
 hm:H m<*.lst (B.map V.bl)
 rm:Aq P w H d ti ks
 n1:H0 t=none
 n2:H0 wd=none
 n3:H0 y=none
 n4:H0 m=none
 n5:H0 d=none
 d1:t≠wd
 d2:t≠y
 d3:t≠m
 d4:wd≠y
 d5:wd≠m
 d6:y≠m
 e1:d≠t
 e2:d≠wd
 e3:d≠y
 e4:d≠m
 e5:d≠wk
 nr:∀a∈rows,a≠t/\a≠wd/\a≠y/\a≠m/\a≠d
section
variable{P:Program}{w:World}{H0 H:Hp}{cW:Addr}{ti:TK}{L:LN}{wk t wd y m d:Addr}{ks:LL}{vks:List V}{ws:LL}{rows:List Addr}{R:LL}{B:List Bool}
def WI.Qk(h:WI P w H0 H cW ti L wk t wd y m d ks vks ws Sy R B)(s:a' H H'):WI P w H0 H' cW ti L wk t wd y m d ks vks ws Sy R B:=
 {h with
  sm:=h.sm.ν s
  Ua:=let⟨dx,e⟩:=h.Ua.ex;(dx,s _ _ e)
  ht:=s _ _ h.ht
  th:=h.th.OP λb xs e=>s _ _ e
  hw:=s _ _ h.hw
  hy:=s _ _ h.hy
  wr:=(h.wr.1,λi a r h1 h2=>s _ _ (h.wr.2 i a r h1 h2))
  hm:=s _ _ h.hm
  rm:=h.rm.OP λb o e _=>s _ _ e}
def WI.beside(h:WI P w H0 H cW ti L wk t wd y m d ks vks ws Sy R B)(j:H a<*.M5 xs)(h0:H0 a=ε)(s:a≠t)(q:a≠wd)(p:a≠y)(n:a≠m)(l:a≠d)(k:a∉Sy):WI P w H0 (MR H a o) cW ti L wk t wd y m d ks vks ws Sy R B:=by
 let f:∀{b:υ}{u:HO},H b<*u->b≠a->MR H a o b<*u:=λe g=>by rw[a_ g];show e
 let c:∀b zs,H b<*.No zs->MR H a o b<*.No zs:=λb zs e=>f e (qN e j (!5));show {h with
  sm:=a'.RY h.sm h0
  Ua:=let⟨dx,e⟩:=h.Ua.ex;(dx,f e (qN e j (!5)))
  ht:=f h.ht (Ne.MO s)
  th:=h.th.OP c
  hw:=f h.hw (Ne.MO q)
  hy:=f h.hy (Ne.MO p)
  wr:=(h.wr.1,λi b r h1 h2=>f (h.wr.2 i b r h1 h2) λz=>k (by rw[<-z];show AC h1))
  hm:=f h.hm (Ne.MO n)
  rm:=h.rm.OP λb u e g=>by
   rcases g with ζ|⟨zs,ζ⟩
   .exact f e (Ne.MO l)
   .exact c b zs e}
def WI.Xw(h:WI P w H0 H cW ti L wk t wd y m d ks vks ws Sy R B)(A:Av ti H k v)(s:Aq P w (MR H d n) d ti (ks++[k])):WI P w H0 (MR (MR (MR H d n) t (.M5 (vks++[v]))) wd (.M5 (DX ws++[.M_ (tx a)]))) cW ti L wk t wd y m d (ks++[k]) (vks++[v]) (ws++[a]) Sy R B:=by
 let o:∃φ,H d<*.ext φ:=by
  let j:=h.rm;unfold Aq at j;by_cases c:ti=.i
  .rw [Id c]at j;show(_,j.1)
  .rw [Ω c]at j;let⟨NP,e,_⟩:=j;show(_,e)
 let⟨φ,o⟩:=o;let l:∀{b:υ}{u:HO},H b<*u->b≠d->b≠t->b≠wd->MR (MR (MR H d n) t (.M5 (vks++[v]))) wd (.M5 (DX ws++[.M_ (tx a)])) b<*u:=λe h1 h2 D=>by rw[a_ D,a_ h2,a_ h1];show e
 let g:∀b zs,H b<*.No zs->MR (MR (MR H d n) t (.M5 (vks++[v]))) wd (.M5 (DX ws++[.M_ (tx a)])) b<*.No zs:=λb zs e=>l e (qN e o (!5)) (qN e h.ht (!5)) (qN e h.hw (!5));let E:=h.Ua.ex;let⟨dx,q⟩:=E;show {h with
  sm:=a'.RY (a'.RY (a'.RY h.sm h.n5) h.n1) h.n2
  Ua:=(dx,l q (Ne.MO h.e5) (qN q h.ht (!5)) (qN q h.hw (!5)))
  ht:=by rw[a_ h.d1,j_]
  th:=(h.th.OP g).snoc (A.OP g)
  hw:=by rw[j_,DX,DX,Nu];rfl
  hy:=l h.hy (Ne.MO h.e3) (Ne.MO h.d2) (Ne.MO h.d4)
  wr:=(h.wr.1,λi b r h1 h2=>l (h.wr.2 i b r h1 h2) (h.nr b (AC h1)).2.2.2.2 (h.nr b (AC h1)).1 (h.nr b (AC h1)).2.1)
  hm:=l h.hm (Ne.MO h.e4) (Ne.MO h.d3) (Ne.MO h.d5)
  rm:=s.OP λb u e C=>by
   rcases C with ζ|⟨zs,ζ⟩
   .rw [a_ h.e2,a_ h.e1];show e
   .let p:b≠d:=λz=>by
     rw[z,j_]at e;let f:=s;unfold Aq at f;by_cases c:ti=.i
     .rw [Id c,j_]at f;rw[e]at f;cases f.1
     .rw [Ω c]at f;let⟨NP,x,_⟩:=f;rw[j_,e]at x;cases x
    rw[a_ p]at e;show g b zs e}
def WI.Vt(h:WI P w H0 H cW ti L wk t wd y m d ks vks ws Sy R B)(o:H a<*.M5 (c_ r))(x:a≠t)(v:a≠wd)(l:a≠y)(s:a≠m)(q:a≠d):WI P w H0 (MR H y (.M5 (Sy.NL V.π++[.π a]))) cW ti L wk t wd y m d ks vks ws (Sy++[a]) (R++[r]) B:=by
 let f:∀{b:υ}{u:HO},H b<*u->b≠y->MR H y (.M5 (Sy.NL V.π++[.π a])) b<*u:=λe g=>by rw[a_ g];show e
 let c:∀b zs,H b<*.No zs->MR H y (.M5 (Sy.NL V.π++[.π a])) b<*.No zs:=λb zs e=>f e (qN e h.hy (!5));let p:=h.Ua.ex;let⟨dx,k⟩:=p;show {h with
  sm:=a'.RY h.sm h.n3
  Ua:=(dx,f k (qN k h.hy (!5)))
  ht:=f h.ht h.d2
  th:=h.th.OP c
  hw:=f h.hw h.d4
  hy:=by rw[j_,Nu];rfl
  wr:=by
   refine(by rw[w_,w_,h.wr.1];rfl,λi b n h1 h2=>?_);by_cases j:i<Sy.β
   .rw [MY j]at h1;rw[MY (by rw[<-h.wr.1];show j)]at h2;show f (h.wr.2 i b n h1 h2) (h.nr b (AC h1)).2.2.1
   .rw [MW (OQ j)]at h1;rw[MW (by rw[<-h.wr.1];show OQ j),<-h.wr.1]at h2;let hz:i-Sy.β=0:=by
     have:=(q5 h1).1;simp at this;omega
    rw[hz]at h1 h2;cases h1;cases h2;show f o l
  hm:=f h.hm (Ne.MO h.d6)
  rm:=h.rm.OP λb u e g=>by
   rcases g with ζ|⟨zs,ζ⟩
   .exact f e h.e3
   .exact c b zs e
  nr:=λb g=>by
   rcases Na.mp g with z|z
   .exact h.nr b z
   .rw [Ay z];show(x,v,l,s,q)}
def WI.ZV(h:WI P w H0 H cW ti L wk t wd y m d ks vks ws Sy R B):WI P w H0 (MR H m (.M5 (B.NL V.bl++[.bl b]))) cW ti L wk t wd y m d ks vks ws Sy R (B++[b]):=by
 let f:∀{c:υ}{u:HO},H c<*u->c≠m->MR H m (.M5 (B.NL V.bl++[.bl b])) c<*u:=λe g=>by rw[a_ g];show e
 let a:∀c zs,H c<*.No zs->MR H m (.M5 (B.NL V.bl++[.bl b])) c<*.No zs:=λc zs e=>f e (qN e h.hm (!5));let k:=h.Ua.ex;let⟨dx,j⟩:=k;show {h with
  sm:=a'.RY h.sm h.n4
  Ua:=(dx,f j (qN j h.hm (!5)))
  ht:=f h.ht h.d3
  th:=h.th.OP a
  hw:=f h.hw h.d5
  hy:=f h.hy h.d6
  wr:=(h.wr.1,λi c r h1 h2=>f (h.wr.2 i c r h1 h2) (h.nr c (AC h1)).2.2.2.1)
  hm:=by rw[j_,Nu];rfl
  rm:=h.rm.OP λc u e g=>by
   rcases g with ζ|⟨zs,ζ⟩
   .exact f e h.e4
   .exact a c zs e}
end
def Jc(l:LN)(x:Φ):c_ (l++[x])=c_ l++[V.MQ (x:ML)]:=by simp[c_]
def bX{a:Type}{l:γ a}{x y:a}{i:Φ}(h:l[i]?<*y):(l++[x])[i]?<*y:=by
 rw[MY (q5 h).1];show h
def J4{a:Type}{l:γ a}{x y:a}(b:i<l.β)(h:(l++[x])[i]?<*y):l[i]?<*y:=by
 rw[MY b]at h;show h
def Fv{a:Type}{l:γ a}{x y:a}(e:(l++[x])[i]?<*y):l[i]?<*y\/(i=l.β/\y=x):=by
 by_cases b:i<l.β
 .rw [MY b]at e;show .NI e
 .rw [MW (!6)]at e;have:i-l.β=0:=by
   have:=(q5 e).1;simp at this;omega
  rw[this]at e;show .NT (!6,(ω.δ.QG e).MO)
def lK(h:k∈ts):Ef ts k=δ (ts.M0 k)/\ts[ts.M0 k]?<*k:=(Id h,by rw[n_ (M6 h),O5])
structure CY(g:LN->Nat->LN)(L s0:LN)(mk:LN->Bool)(U ks ws R:LL)(B:List Bool)(q:Nat):Prop where
 bf:Bf g L s0 ks ws R.length q
 le:R.length≤ks.length
 ways:Dg g L.length ks R
 bl:B.length=R.length
 mks:∀(r:Nat)(k:LN)(b:Bool),ks[r]?<*k->B[r]?<*b->b=mk k
 sub:∀k∈ks,k∈U
 left:BU U ks+ks.length≤U.length
 wl:∀a∈ws,a.length≤ks.length
abbrev Ez(g:LN->Φ->LN)(ks:LL)(n:Φ)(r:LN)(q:Φ):Prop:=r.β=q/\∀(q' x:Φ)(k:LN),ks[n]?<*k->r[q']?<*x->ks[x]?<*g k q'
section
variable{g:LN->Nat->LN}{L s0:LN}{mk:LN->Bool}{U ks ws R:LL}{B:List Bool}{q n:Nat}{r a k0:LN}
def CY.SM(c:s0∈U):CY g L s0 mk U [s0] [[]] [] [] 0 where
 bf:=Bf.SM g L s0
 le:=Nb _
 ways:=⟨λr d k h=>by simp at h⟩
 bl:=ζ
 mks:=λr k b _ h=>by simp at h
 Rp:=λk e=>by rw[Ay e];show c
 left:=by
  let h1:=eW (U:=U) (ts:=[]) c (!1);let h2:BU U ([]:LL)≤U.β:=γ.countP_le_length;simp at h1⊢;lia
 wl:=λa f=>by rw[Ay f];show Nb _
def CY.old(h:CY g L s0 mk U ks ws R B q)(b:L.Nx)(e:ks[R.β]?<*k0)(f:ws[R.β]?<*a)(c:q<L.β)(d:g k0 q∈ks):CY g L s0 mk U ks ws R B (q+1):=
 {h with bf:=h.bf.old b e f c d}
def CY.Xw(h:CY g L s0 mk U ks ws R B q)(j:L.Nx)(d:ks[R.β]?<*k0)(f:ws[R.β]?<*a)(o:q<L.β)(e:g k0 q∉ks)(i:g k0 q∈U):CY g L s0 mk U (ks++[g k0 q]) (ws++[a++[L.MI q 0]]) R B (q+1) where
 bf:=h.bf.Xw j d f o e
 le:=by rw[w_];show IO h.le (Qd _ _)
 ways:=⟨λr c k h1 h2=>by
  let m:r<ks.β:=Ψ (q5 h1).1 h.le;let⟨t,s⟩:=h.ways.Vt r c k h1 (J4 m h2);show(t,λq x l=>bX (s q x l))⟩
 bl:=h.bl
 mks:=λr k b h1 h2=>h.mks r k b (J4 (Ψ (by rw[<-h.bl];show(q5 h2).1) h.le) h1) h2
 Rp:=λk d=>by
  rcases Na.mp d with z|z
  .exact h.Rp k z
  .rw [Ay z];show i
 left:=by
  let h1:=eW (U:=U) (ts:=ks) i e;let h2:=h.left;rw[w_];change BU U (ks++[g k0 q])+(ks.β+1)≤U.β;lia
 wl:=λb p=>by
  rw[w_];rcases Na.mp p with z|z
  .exact IO (h.wl b z) (Qd _ _)
  .rw [Ay z,w_];show Φ.add_le_add_right (h.wl a (AC f)) 1
def CY.next(h:CY g L s0 mk U ks ws R B L.β)(e:ks[R.β]?<*k0)(d:Ez g ks R.β r L.β):CY g L s0 mk U ks ws (R++[r]) (B++[mk k0]) 0 where
 bf:=by rw[w_];show h.bf.next
 le:=by rw[w_];show(q5 e).1
 ways:=⟨λi c k h1 h2=>by
  rcases Fv h1 with z|⟨rfl,ζ⟩
  .exact h.ways.Vt i c k z h2
  .exact (d.1,λq x f=>d.2 q x k h2 f)⟩
 bl:=by rw[w_,w_,h.bl];rfl
 mks:=λi k b h1 h2=>by
  rcases Fv h2 with z|⟨rfl,ζ⟩
  .exact h.mks i k b h1 z
  .rw [h.bl,e]at h1;cases h1;rfl
 Rp:=h.Rp
 left:=h.left
 wl:=h.wl
def Ez.Op:Ez g ks n [] 0:=(1,λq x k _ h=>by simp at h)
def Ez.grow(h:Ez g ks n r q)(c:n<ks.β):Ez g (ks++[x]) n r q:=(h.1,λb y k h1 h2=>bX (h.2 b y k (J4 c h1) h2))
def Ez.snoc(h:Ez g ks n r q)(d:ks[n]?<*k0)(c:g k0 q∈ks):Ez g ks n (r++[ks.M0 (g k0 q)]) (q+1):=by
 refine(by rw[w_,h.1];rfl,λb x k h1 h2=>?_);rcases Fv h2 with z|⟨rfl,ζ⟩
 .exact h.2 b x k h1 z
 .rw [d]at h1;cases h1;rw[h.1];show(lK c).2
end
abbrev gW(W:LL)(k:LN)(q:Φ):LN:=[(W.MI (k.headD 0) []).MI q 0]
abbrev uW(W:LL):LL:=(γ.N2 W.β).NL λn=>[n]
abbrev mkW(B:γ MX)(k:LN):MX:=B.MI (k.headD 0) η
def p6:[n]∈uW W↔n<W.β:=by
 unfold uW;rw[O_];constructor
 .rintro⟨m,a,e⟩;injection e with e;rw[<-e];show Nm.mp a
 .exact λh=>(n,Nm.Om h,1)
def p7(W:LL):(uW W).β=W.β:=by rw[uW,ol,OB]
def kg(h:k∈uW W):∃n,k=[n]/\n<W.β:=by
 unfold uW at h;let⟨n,a,e⟩:=O_.mp h;show(n,e.MO,Nm.mp a)
def xT(d:g_ L W B):∀k∈uW W,∀q,q<L.β->gW W k q∈uW W:=λk c q a=>by
 let⟨n,ζ,b⟩:=kg c;refine p6.Om ?_;change (W.MI n []).MI q 0<W.β;let e:W.MI n []=W[n]:=by rw[u6,n_ b];rfl
 rw[e];let⟨h1,h2⟩:=d.Vt W[n] (Nt b);let f:W[n].MI q 0=W[n][q]'(by rw[h1];show a):=by rw[u6,n_ (by rw[h1];show a)];rfl
 rw[f];show h2 _ (Nt _)
def cr(r:Φ):∀(m:Φ)(w:LN),w.β=m->aR (gW W) L [r] w=[PD L W r w]:=by
 intro m;induction m with
 |TB=>
  intro w hw;rw[PB.mp hw];rfl
 |Sc m a=>
  intro w hw;obtain⟨c,v,ζ⟩:∃c v,w=v++[c]:=(w.Wg (by intro z;rw[z]at hw;cases hw),w.RO,(γ.PH _).MO);rw[JS,a v (by simpa using hw),EQ];rfl
def zl.QN(h:zl H m L W B)(s:∀b xs,H b<*.No xs->H' b<*.No xs):zl H' m L W B:=by
 let⟨d,mk,c,h1,h2,j,g,f⟩:=h;show(d,mk,c,s _ _ h1,s _ _ h2,s _ _ j,g,λi r e=>let⟨ws,a,b⟩:=f i r e;(ws,a,s _ _ b))
def FP(s:Cu P0 H H')(a:A_ H P0 OL):∀b xs,H b<*.No xs->H' b<*.No xs:=λb xs e=>s b _ (λz=>by
 let⟨ps,c,_⟩:=a;rw[z,c]at e;cases e) e
def HY(a:Cu P0 H g)(b:Cu P0 g f):Cu P0 H f:=λc o d e=>b c o d (a c o d e)
def qy(s:a' H H'):Cu P0 H H':=λb o _ e=>s b o e
def sP{n:Φ}(h:n≠0):decide (V.MQ (n:ML)=V.MQ 0)=η:=M3 λz=>h (ML.ofNat_inj.mp (V.MQ.QG z))
def iC:S6 (#[]:Nq θ).ND:=trivial
def Gm(h:A_ H P0 OL)(s:a' H H'):A_ H' P0 OL:=by
 let⟨ps,c,h2,d⟩:=h;show(ps,s _ _ c,h2,λx b=>(d x b).Wc id λa=>by let⟨g,f,e⟩:=a;show(g,f,s _ _ e))
end RA
namespace L2
open PySem.Spec PyProof.Rows
section
variable{X:Cx}
def pS(y:X.T0=ξ):Dc X (.Nf "max") (λxs H Q=>∃(a:υ)(ns:γ ML),xs=[V.π a]/\H a=δ (.M5 (ns.NL V.MQ))/\0<ns.β/\∀M∈ns,(∀x∈ns,x≤M)->Q (.MQ M) H):=by
 intro f s B H xs us Q I r h;let⟨a,ns,ζ,z,i,q⟩:=h;let⟨C,ζ,o⟩:=Do r;cases o;let⟨c,n,p,hz⟩:=I.Qt (o5.of z);let m:=jr n;let k:s.ο.U4 a c.χ:=p.QS;let⟨xs,e⟩:=m.allInts.Y1;let b:ns=xs.ND.NL (·.1):=by rw[<-m.numsOf,<-nums_intItems,<-e]
 let V6:0<xs.MV:=by
  rw[b,ol,Pl]at i;show i
 rw[e]at k;refine max_intList (I.ok.hd y) k V6 λv h' D u w=>?_;let⟨t,ζ⟩:=intItems_at u;let⟨h1,h2⟩:=argBest_gt (numAt xs) (xs.MV-1);refine(.MQ _,H,I.SW w,(t,1),q _ ?_ λx g=>?_)
 .rw [b,numAt_eq];show Δ.getD_mem (by rw[ol,Pl];lia)
 .rw [b]at g;let⟨j,l⟩:=NM.mp g;let d:=(q5 l).1;rw[ol,Pl]at d;have:=h2 j (!6);let A:numAt xs j=x:=by
   rw[numAt_eq,u6,l];rfl
  rw[<-A];show this
inductive rIndexI(x:V)(vs:List V)(H:Hp)(Q:VK):Prop
 |mk (l:Addr) (ns:List Int) (n:Int) (_:x=.ref l) (_:vs=[.int n]) (_:H l<*.lst (ns.map V.int)) (_:n∈ns) (_:Q (.int (ns.idxOf n:Nat)) H)
def pb:IM X "list.index" rIndexI:=by
 intro E s Y H x vs v us Q I N O h;let⟨l,bs,d,ζ,ζ,L,T,q⟩:=h;cases N;let⟨u,ζ,P⟩:=O.Of;let⟨M,ζ⟩:=(show ∃t,u=θ.MQ d t from P);let⟨z,g,n,r,Z,e⟩:=I.lstM L;let f:g.β=bs.β:=by rw[<-r.β,ol]
 let p:bs.M0 d<bs.β:=M6 T;let o:∀(j:Φ)(B:j<g.χ.MV),∃(k:j<bs.β)(t:Xp),g.χ[j]=.MQ bs[j] t:=λj B=>by
  let k:j<bs.β:=by simpa[f]using B
  refine(k,3);let⟨a,W,R⟩:=r.VE (i:=j) (x:=.MQ bs[j]) (by rw[tS,n_ k];rfl);let⟨t,ζ⟩:=(show ∃t,a=θ.MQ bs[j] t from R);let⟨_,q⟩:=q5 W;show(t,by simpa using q)
 let C:((bs.M0 d:Φ):ML)<2^63-1:=by
  let U:(bs.NL V.MQ).β≤Λ:=(I.M5 L).Vd.Vd.2.2;rw[ol,OO]at U;lia
 refine YX F.TR (_,e,1) F.entry_list_index (F.args_list_index_2 _ _) (PN.list_indexAt l g.χ n ε #[] (.MQ d M) (λy=>match y with|.MQ b _=>b==d|_=>η) (bs.M0 d) (by simpa[f]using p) C ?_ ?_) (e,3,(.MQ _,H,I.Sg _,(_,ζ),q))
 .obtain ⟨k,t,A⟩:=o (bs.M0 d) (by simpa[f]using p);rw[A];change (bs[bs.M0 d]==d)=ξ;rw[O5 k];show Ug d
 .intro m D J;let⟨k,t,A⟩:=o m D;rw[A];change (bs[m]==d)=η;by_cases w:bs[m]=d
  .have:=RA.G8 (l:=bs) (c:=d) (i:=m) (by rw[n_ k,w]);lia
  .exact NB.Om w
 .intro y S;let⟨j,B,ζ⟩:=Nq.Xg.mp S;let⟨k,t,A⟩:=o j B;rw[A];show PN.R0.ZX _ _ _ _
def gF(K:Nl)(a:PE X e ta)(b:QH e f X.KK (OJ e X.KK)=OJ e X.KK)(c:(X.K=K)>>>4):PE X (.Ox e f Ng) (yi K ta f):=by
 subst c;show AD a b
def oN{c a:Sn}(K:Nl)(i:PE X o to)(j:PA X [e] t)(k:(X.K=K)>>>4)(f:(QH o "index" X.KK (OJ o X.KK)=OJ o X.KK)>>>4)(g:(((OE a (Θ [e] X.KK)).P' (λx=>!x.1)&&(Ve a (TH [] X.KK)).P' (λx=>x.1.Rx)
   && decide ([e].β+([]:γ Vo).β+(if ([]:γ Vo).SE then 0 else 1)<30))=ξ)>>>4)(d:((c.Zf==a.SV)=ξ)>>>4)(h:(Θ [e] X.KK=(η,OJ e X.KK,)::Θ [] X.KK)>>>4)(b:((OE a (Θ [] X.KK)).Qk (·.1)=η)>>>4):PE X (.QE (.Ox o "index" c) [e] [] a) (Cq K "list" rIndexI to t):=by
 subst k;show jb Py Δ.F.TR Δ.F.Xb pb i j f g d h b
end
end L2
namespace RA
open L2
abbrev vS(H:Hp)(Sy:γ υ)(W:LL):Prop:=∀(i:Φ)(r:υ),Sy[i]?<*r->∃ws,W[i]?=δ ws/\∃o,(o=.M5 (c_ ws)\/o=.No (c_ ws))/\H r<*o
def rD:∀{ns:LN},0<ns.β->∃M∈ns,∀x∈ns,x≤M
 |[],h=>by simp at h
 |[a],_=>(a,!1,λx c=>by rw[Ay c];show LT _)
 |a::b::r,_=>by
  let⟨M,h1,h2⟩:=rD (ns:=b::r) (!1);by_cases h:a≤M
  .exact (M,M1 _ h1,λx c=>by
    rcases MN.mp c with ζ|z
    .exact h
    .exact h2 x z)
  .exact (a,!1,λx c=>by
    rcases MN.mp c with ζ|z
    .exact LT _
    .have:=h2 x z;lia)
def pX(n:Φ):∀(l:LN),(zs l).M0 (n:ML)=l.M0 n
 |[]=>rfl
 |x::l=>by
  change ((x:ML)::zs l).M0 (n:ML)=_;rw[Uu,Uu,pX n l];by_cases h:x=n
  .rw [h];simp
  .rw [NB.Om h,NB.Om (λe=>h (ML.ofNat_inj.mp e))]
def ly(h1:zl H f L W B)(h2:zl H m2 L W B)(c:g_ L W B):ip H 3 (.π f) (.π m2):=by
 let d:∀{m:υ},zl H m L W B->tI H m L (W.NL zs) B:=λ{m}h=>by
  let⟨e,mk,b,r,q,p,o,n⟩:=h;refine(e,mk,b,r,q,p,by rw[ol];show o,λi a l=>?_);let⟨ws,k,j⟩:=n i a l;show(zs ws,by rw[tS,k];rfl,by rw[ir];show j)
 refine ph (d h1) (d h2) (by rw[ol];show IO c.n60 (!0)) (by rw[c.bl];show IO c.n60 (!0)) λR g=>?_;let⟨ws,hw,ζ⟩:=O_.mp g;rw[fW,(c.Vt ws hw).1];show IO c.lt.hi (!0)
end RA
namespace RA
section
variable{κ:Type}[DecidableEq κ]
def Jd:∀(ks b:γ κ),∃r,aO b ks=b++r
 |[],b=>([],(Oa b).MO)
 |a::ks,b=>by
  change ∃r,aO (if a∈b then b else b++[a]) ks=b++r;by_cases h:a∈b
  .rw [Id h];show Jd ks b
  .rw [Ω h];let⟨r,e⟩:=Jd ks (b++[a]);show([a]++r,by rw[e,NY])
def hZ:∀(ks b:γ κ),b.Nx->(aO b ks).Nx
 |[],_,h=>h
 |a::ks,b,h=>by
  change (aO (if a∈b then b else b++[a]) ks).Nx;by_cases c:a∈b
  .rw [Id c];show hZ ks b h
  .rw [Ω c];refine hZ ks _ ?_;rw[γ.Wa];refine(h,!1,λx d y f e=>?_);rw[Ay f]at e;rw[e]at d;show c d
def sN(ks:γ κ):(zg ks).Nx:=hZ ks [] γ.nodup_nil
def rj{ks:γ κ}(h:0<ks.β):(ay ks).MI 0 0=0:=by
 cases ks with
 |Op=>simp at h
 |NX k ks=>
  rw[HP (k:=k) ζ];let⟨r,e⟩:=Jd ks [k];have:zg (k::ks)=[k]++r:=by
   change aO (if k∈[]then[]else[]++[k]) ks=_;rw[Ω (!1)];show e
  rw[this];simp
def eM{ks:γ κ}{M j:Φ}(h:M∈ay ks)(e:j≤M):j∈ay ks:=by
 let⟨k,d,ζ⟩:=O_.mp h;let a:j<(zg ks).β:=Nk e (M6 (SU.Om d));let c:(zg ks)[j]∈ks:=SU.mp (Nt a);refine O_.Om ((zg ks)[j],c,3);let b:=sN ks;let h2:(zg ks).M0 (zg ks)[j]<(zg ks).β:=M6 (Nt a);show(UG b).mp (O5 h2)
end
section
variable{L:LN}{W:LL}{B:List Bool}{k:Nat}
def xP(h:g_ L W B):(Rd W B k).MI 0 0=0:=by
 cases k with
 |TB=>show rj (by rw[h.bl];show h.n1)
 |Sc k=>show rj (by rw[DP];show h.n1)
def nQ(h:M∈Rd W B k)(a:j≤M):j∈Rd W B k:=by
 cases k with
 |TB=>show eM h a
 |Sc k=>show eM h a
end
abbrev AM(R:LL)(W5:LN)(m:Φ):LL:=(γ.N2 m).NL λj=>(R.MI (W5.M0 j) []).NL λg=>W5.MI g 0
abbrev Dh(Bm:γ MX)(W5:LN)(m:Φ):γ MX:=(γ.N2 m).NL λj=>Bm.MI (W5.M0 j) η
def fu(h:j<m):(AM R a m).MI j []=(R.MI (a.M0 j) []).NL λg=>a.MI g 0:=by
 rw[AM,u6,tS,O6 h];rfl
def pI(h:j<m):(Dh Bm a m).MI j η=Bm.MI (a.M0 j) η:=by
 rw[Dh,u6,tS,O6 h];rfl
structure bb(lots:LN)(m:Nat):Prop where
 pos:0<m
 lt:∀x∈lots,x<m
 has:∀j<m,j∈lots
section
variable{L:LN}{R:LL}{Bm:List Bool}{k m:Nat}
def pG{l:LN}(h:i<l.β):l.MI i 0∈l:=by
 rw[u6,n_ h];show Nt h
def Cv(b:bb (Rd R Bm k) m)(a:g_ L R Bm)(c:j<m):(Rd R Bm k).M0 j<R.β/\r_ R Bm k ((Rd R Bm k).M0 j)=j:=by
 let h1:=M6 (b.Tn j c);refine(by rw[DQ a]at h1;show h1,3);rw[r_,u6,n_ h1];show O5 h1
def lu(c:bb (Rd R Bm k) m)(a:g_ L R Bm)(b:r<R.β):r_ R Bm k r<m:=c.lt _ (pG (by rw[DQ a];show b))
def GI(b:bb (Rd R Bm k) m)(a:g_ L R Bm):g_ L (AM R (Rd R Bm k) m) (Dh Bm (Rd R Bm k) m) where
 lt:=a.lt
 n1:=by rw[AM,ol,OB];show b.Ng
 n60:=by
  rw[AM,ol,OB];let h1:=dL a (b.Tn (m-1) (by have:=b.Ng;omega));have:=a.n60;lia
 bl:=by rw[Dh,AM,ol,ol]
 Vt:=λws h=>by
  rw[AM]at h;let⟨j,c,ζ⟩:=O_.mp h;let c:=Nm.mp c;let⟨h1,h2⟩:=Ea a (Cv b a c).1;refine(by rw[ol];show h1,λx d=>?_);let⟨g,e,ζ⟩:=O_.mp d;rw[AM,ol,OB];show lu b a (h2 g e)
def sB(b:bb (Rd R Bm k) m)(a:g_ L R Bm):(AM R (Rd R Bm k) m).β≤R.β:=by
 rw[AM,ol,OB];let h1:=dL a (b.Tn (m-1) (by have:=b.Ng;omega));lia
def sw(d:bb (Rd R Bm k) m)(a:g_ L R Bm)(st:Rd R Bm (k+1)=Rd R Bm k)(b:r<R.β)(i:c∈L):Bw L (AM R (Rd R Bm k) m) (r_ R Bm k r) c=r_ R Bm k (Bw L R r c):=by
 let g:L.M0 c<L.β:=M6 i;let f:=lu d a b;let⟨h,j⟩:=Cv d a f;let p:r_ R Bm (k+1) ((Rd R Bm k).M0 (r_ R Bm k r))=r_ R Bm (k+1) r:=by
  change (Rd R Bm (k+1)).MI _ 0=(Rd R Bm (k+1)).MI _ 0;rw[st];show j
 let o:=((Gg a h b).mp p).2 _ g;unfold Bw;rw[fu f];let e:L.M0 c<(R.MI ((Rd R Bm k).M0 (r_ R Bm k r)) []).β:=by rw[(Ea a h).1];show g
 rw[u6,tS,n_ e];change (Rd R Bm k).MI _ 0=_;let n:QT R ((Rd R Bm k).M0 (r_ R Bm k r)) (L.M0 c)=(R.MI ((Rd R Bm k).M0 (r_ R Bm k r)) [])[L.M0 c]:=by
  rw[QT,u6 (l:=R.MI _ []),n_ e];rfl
 rw[<-n];show o
def Gn(e:bb (Rd R Bm k) m)(a:g_ L R Bm)(st:Rd R Bm (k+1)=Rd R Bm k):∀{w:LN}{r:Φ},r<R.β->(∀c∈w,c∈L)->PD L (AM R (Rd R Bm k) m) (r_ R Bm k r) w=r_ R Bm k (PD L R r w)
 |[],_,_,_=>rfl
 |c::w,r,b,hw=>by
  let f:c∈L:=hw c (!1);change PD L (AM R (Rd R Bm k) m) (Bw L (AM R (Rd R Bm k) m) (r_ R Bm k r) c) w=r_ R Bm k (PD L R (Bw L R r c) w);rw[sw e a st b f];show Gn e a st (Ev a b (M6 f)) λd g=>hw d (by simp[g])
def HZ(c:bb (Rd R Bm k) m)(a:g_ L R Bm)(b:r<R.β):(Dh Bm (Rd R Bm k) m).MI (r_ R Bm k r) η=Bm.MI r η:=by
 let d:=lu c a b;let⟨e,f⟩:=Cv c a d;rw[pI d];show(jk a e b).mp (rG a e b (Nb k) f)
def Hi(b:bb (Rd R Bm k) m)(a:g_ L R Bm)(st:Rd R Bm (k+1)=Rd R Bm k)(hw:∀c∈w,c∈L):(Dh Bm (Rd R Bm k) m).MI (PD L (AM R (Rd R Bm k) m) 0 w) η=Bm.MI (PD L R 0 w) η:=by
 let e:r_ R Bm k 0=0:=xP a;have:=Gn b a st a.n1 hw;rw[e]at this;rw[this];show HZ b a (De a a.n1 hw)
end
section
variable{L:LN}{W:LL}{B:List Bool}{ks ws R:LL}{Bm:List Bool}
def n6(b:g_ L W B)(k:Bf (gW W) L [0] ks ws ks.β 0)(a:Dg (gW W) L.β ks R)(c:R.β=ks.β)(bl:Bm.β=R.β)(f:ks.β≤W.β):g_ L R Bm where
 lt:=b.lt
 n1:=by rw[c];show(q5 k.t0).1
 n60:=by rw[c];show IO f b.n60
 bl:=bl
 Vt:=λr h=>by
  let⟨i,e⟩:=NM.mp h;let d:i<ks.β:=by rw[<-c];show(q5 e).1
  let⟨h1,h2⟩:=a.Vt i r _ e (n_ d);refine(h1,λx g=>?_);let⟨q,j⟩:=NM.mp g;rw[c];show(q5 (h2 q x j)).1
def J5(j:g_ L W B)(p:Bf (gW W) L [0] ks ws ks.β 0)(a:Dg (gW W) L.β ks R)(i:R.β=ks.β):∀(n:Φ)(w:LN),w.β=n->(∀c∈w,c∈L)->ks[PD L R 0 w]?<*[PD L W 0 w]:=by
 intro n;induction n with
 |TB=>
  intro w hw _;rw[PB.mp hw];show p.t0
 |Sc n g=>
  intro w hw f;obtain⟨c,v,ζ⟩:∃c v,w=v++[c]:=(w.Wg (by intro z;rw[z]at hw;cases hw),w.RO,(γ.PH _).MO);let h1:=g v (by simpa using hw) λx h=>f x (by simp[h]);let b:L.M0 c<L.β:=M6 (f c (!1));let e:PD L R 0 v<R.β:=by rw[i];show(q5 h1).1
  let⟨d,o⟩:=a.Vt _ _ _ (n_ e) h1;let m:=o (L.M0 c) _ (n_ (by rw[d];show b));rw[EQ,EQ];let k:Bw L R (PD L R 0 v) c=R[PD L R 0 v][L.M0 c]'(by rw[d];show b):=by
   unfold Bw;rw[u6 (l:=R),n_ e];change (R[PD L R 0 v]).MI _ 0=_;rw[u6,n_ (by rw[d];show b)];rfl
  rw[k];show m
def ka(e:g_ L W B)(h:Bf (gW W) L [0] ks ws ks.β 0)(a:Dg (gW W) L.β ks R)(g:R.β=ks.β)(bl:Bm.β=R.β)(d:∀(r:Φ)(k:LN)(b:MX),ks[r]?<*k->Bm[r]?<*b->b=mkW B k)(hw:∀c∈w,c∈L):Bm.MI (PD L R 0 w) η=B.MI (PD L W 0 w) η:=by
 let h1:=J5 e h a g _ w ζ hw;let f:PD L R 0 w<Bm.β:=by rw[bl,g];show(q5 h1).1
 rw[u6,n_ f];show d _ _ _ h1 (n_ f)
end
inductive Eg(L:LN)(W:LL)(B:List Bool)(W':LL)(B':List Bool):Prop
 |mk (ks ws R:LL) (Bm:List Bool) (k m:Nat) (_:Bf (gW W) L [0] ks ws ks.length 0) (_:Dg (gW W) L.length ks R) (_:R.length=ks.length) (_:Bm.length=R.length) (_:(∀(r:Nat)(k:LN)(b:Bool),ks[r]?<*k->Bm[r]?<*b->b=mkW B k)) (_:(∀k∈ks,k∈uW W)) (_:ks.length≤W.length) (_:g_ L R Bm) (_:Rd R Bm (k+1)=Rd R Bm k) (_:bb (Rd R Bm k) m) (_:W'=AM R (Rd R Bm k) m) (_:B'=Dh Bm (Rd R Bm k) m)
def Eg.Se(h:Eg L W B c d):g_ L c d:=by
 let⟨ks,ws,R,Bm,k,m,_,_,_,_,_,_,_,a,_,b,ζ,ζ⟩:=h;show GI b a
def Eg.PJ(h:Eg L W B c f):c.β≤W.β:=by
 let⟨ks,ws,R,Bm,k,m,_,_,e,_,_,_,d,a,_,b,ζ,ζ⟩:=h;have:=sB b a;lia
def Eg.YD(h:Eg L W B j l)(b:g_ L W B)(hw:∀c∈w,c∈L):l.MI (PD L j 0 w) η=B.MI (PD L W 0 w) η:=by
 let⟨ks,ws,R,Bm,k,m,i,a,g,bl,d,_,n,e,st,f,ζ,ζ⟩:=h;rw[Hi f e st hw];show ka b i a g bl d hw
section
variable{L:LN}{W:LL}{B:List Bool}{ls:LN}{W2:LL}{B2:List Bool}
end
end RA
namespace L2
open PySem.Spec PyProof.Rows
def pU(D:X.T0=ξ):Dc X (.Nf "all") (λxs H Q=>∃(a:υ)(bs:γ MX),xs=[V.π a]/\H a=δ (.M5 (bs.NL V.bl))/\(∀b∈bs,b=ξ)/\Q (.bl ξ) H):=by
 intro l s M H xs us Q I r h;let⟨a,bs,ζ,F,E,q⟩:=h;let⟨N,ζ,B⟩:=Do r;cases B;let⟨c,k,p,hz⟩:=I.Qt (o5.of F);let g:s.ο.U4 a c.χ:=p.QS;let f:a<s⁻¹:=by
  let⟨o,e,_⟩:=g;show lt_size e
 refine call_all_walk (RT g ?_);refine(s⁻¹,7,_,_,λ_=>ξ,1,Walks.Qt (Ξ:=X.Ξ) (w:=X.w) (A:=X.A.S0) (I.ok.hd D) s⁻¹ a (M8 f) c.χ,((_,MS _ ζ,5),g.at λo e=>sy _ e),3,λh' u C=>?_)
 .intro i v s' O P m J;let n:i<bs.β:=by
   have:=(Nq.Os.mp m).1;let h2:=k.β;rw[ol]at h2;simp at this;lia
  let⟨y,L,z⟩:=k.VE (i:=i) (x:=.bl bs[i]) (by rw[tS,n_ n];rfl);have:v=y:=by
   let d:c.χ[i]?<*v:=m;rw[QI,L]at d;show(ω.δ.QG d).MO
  subst this;cases z;let j:=E _ (Nt n);rw[j];show PQ J
 .let e:(γ.N2 c.χ.MV).P' (λ_=>ξ)=ξ:=by simp
  rw[e];show(.bl ξ,H,I.SW (t':=u) λb o t=>C b o (by simp;show M8 (lt_size t)) (sy _ t),1,q)
section
variable{X:Cx}{pins:List (Addr×Obj)}{σ:St}{H:Hp}{s:Shared}
end
section
variable{prog:Program}{w:World}{A:Around}{E:Value->Shared->Prop}{s:Shared}
end
section
variable{X:Cx}{elt iter:Expr}{x:Str}{px pos:Pos}{ifs:List Expr}{sc:Scope}{wi:TI}{tt:TT}{te:TE}
end
end L2
namespace RA
section
variable{κ:Type}[DecidableEq κ]
def jK:∀(a b c:γ κ),aO c (a++b)=aO (aO c a) b
 |[],_,_=>rfl
 |x::a,b,c=>jK a b _
def LA{ks:γ κ}{i j:Φ}(o:i<ks.β)(e:j<(ay ks).MI i 0):∃i1,i1<i/\(ay ks).MI i1 0=j:=by
 let d:ks[i]?<*ks[i]:=n_ o;rw[HP d]at e;let⟨r,l⟩:=Jd (ks.Pu (i+1)) (zg (ks.OC (i+1)));let f:zg ks=zg (ks.OC (i+1))++r:=by
  have:=jK (ks.OC (i+1)) (ks.Pu (i+1)) [];rw[Rq]at this;show this.ν l
 let m:ks[i]∈ks.OC (i+1):=by
  rw[NM];show(i,by rw[γ.UR,Id (OA i)];show d)
 let b:ks[i]∈zg (ks.OC (i+1)):=SU.Om m;rw[f,BL b]at e;let n:=M6 b;let a:j<(zg (ks.OC (i+1))).β:=P9 e n;let⟨i1,c⟩:=NM.mp (SU.mp (Nt a));let h1:i1<i+1:=by
  have:=(q5 c).1;rw[Qu]at this;lia
 rw[γ.UR,Id h1]at c;let k:=sN (ks.OC (i+1));let g:(zg (ks.OC (i+1))).M0 (zg (ks.OC (i+1)))[j]=j:=by
  let h2:(zg (ks.OC (i+1))).M0 (zg (ks.OC (i+1)))[j]<(zg (ks.OC (i+1))).β:=M6 (Nt a);show(UG k).mp (O5 h2)
 let q:(zg ks).M0 (zg (ks.OC (i+1)))[j]=j:=by
  rw[f,BL (Nt a)];show g
 refine(i1,3,by rw[HP c];show q);by_cases h:i1=i
 .rw [h,d]at c;let p:=ω.δ.QG c;rw[<-p]at g;lia
 .lia
end
section
variable{L:LN}{R:LL}{Bm:List Bool}{k m:Nat}
def tF(a:g_ L R Bm)(c:i<R.β)(b:j<r_ R Bm k i):∃i1,i1<i/\r_ R Bm k i1=j:=by
 cases k with
 |TB=>show LA (by rw[a.bl];show c) b
 |Sc k=>show LA (by rw[DP];show c) b
def nu(f:bb (Rd R Bm k) m)(c:g_ L R Bm)(d:a<b)(g:b<m):(Rd R Bm k).M0 a<(Rd R Bm k).M0 b:=by
 let⟨j,h⟩:=Cv f c g;let⟨i1,h1,h2⟩:=tF c j (by rw[h];show d);refine Nk (G8 (i:=i1) ?_) h1;let e:i1<(Rd R Bm k).β:=by rw[DQ c];omega
 rw[n_ e];rw[r_,u6,n_ e]at h2;show NZ δ h2
def vP(a:g_ L R Bm)(c:i<R.β):(Rd R Bm k).M0 (r_ R Bm k i)≤i:=by
 let b:i<(Rd R Bm k).β:=by rw[DQ a];show c
 refine G8 ?_;rw[r_,u6,n_ b];rfl
def Je(a:g_ L R Bm):∀(k:Φ){r s:Φ},r<R.β->s<R.β->(∀u:LN,(∀c∈u,c∈L)->Bm.MI (PD L R r u) η=Bm.MI (PD L R s u) η)->r_ R Bm k r=r_ R Bm k s
 |0,r,s,d,b,h=>(jk a d b).Om (h [] λc g=>by simp at g)
 | k+1,r,s,d,b,h=>(Gg a d b).Om (Je a k d b h,λi f=>Je a k (Ev a d f) (Ev a b f) λu j=>by
   let e:=h (L[i]::u) λc g=>by
    rcases MN.mp g with ζ|z
    .exact Nt f
    .exact j c z
   rw[CV,CV,G_,G_,HM a.lt.nd f]at e;show e)
end
def Eg.unlike(h:Eg L W B f q)(o:r<f.β)(n:s<f.β)(e:∀u:LN,(∀c∈u,c∈L)->q.MI (PD L f r u) η=q.MI (PD L f s u) η):r=s:=by
 let⟨ks,ws,R,Bm,k,m,x,j,w,bl,t,_,v,a,st,b,ζ,ζ⟩:=h;rw[AM,ol,OB]at o n;let⟨i,l⟩:=Cv b a o;let⟨g,s2⟩:=Cv b a n;have:=Je a k i g λu d=>by
  let p:=e u d;rw[<-l,<-s2,Gn b a st i d,Gn b a st g d,HZ b a (De a i d),HZ b a (De a g d)]at p;show p
 rw[l,s2]at this;show this
section
variable{L:LN}{W:LL}{B:List Bool}{ks ws R:LL}
def gO{b:Type}{l:γ b}(c:l.Nx){i j:Φ}{a:b}(e:l[i]?<*a)(d:l[j]?<*a):i=j:=by
 let⟨h1,g⟩:=q5 e;let⟨h2,f⟩:=q5 d;show(UG c).mp (g.ν f.MO)
def nZ(d:g_ L W B)(b:Bf (gW W) L [0] ks ws ks.β 0)(a:Dg (gW W) L.β ks R)(f:R.β=ks.β)(hw:ws[i]?<*w):(∀c∈w,c∈L)/\PD L R 0 w=i:=by
 let e:i<ks.β:=by rw[b.PJ];show(q5 hw).1
 let⟨l1,l2⟩:=b.lead i ks[i] w (n_ e) hw;refine(l1,3);let h1:=J5 d b a f _ w ζ l1;rw[cr 0 _ w ζ]at l2;rw[l2]at h1;show gO b.nd h1 (n_ e)
def kf(d:g_ L W B)(e:Bf (gW W) L [0] ks ws ks.β 0)(a:Dg (gW W) L.β ks R)(l:R.β=ks.β)(hw:ws[i]?<*w)(f:∀c∈v,c∈L)(k:PD L R 0 v=i):AF L v w=η:=by
 let⟨j,b,h,g,m⟩:=e.told d.lt.nd v _ ζ f;rw[cr 0 _ v ζ]at h;let h1:=J5 d e a l _ v ζ f;rw[k]at h1;have:j=i:=gO e.nd h h1;rw[this,hw]at g;cases g;show m
end
structure tJ(L:LN)(W':LL)(v:Nat->LN):Prop where
 over:∀j,j<W'.length->(∀c∈v j,c∈L)/\run L W' 0 (v j)=j
 lt:∀i j,i<j->j<W'.length->AF L (v i) (v j)=true
 least:∀u:LN,(∀c∈u,c∈L)->AF L u (v (run L W' 0 u))=false
def Eg.firsts(h:Eg L W B H J)(p:g_ L W B):∃v,tJ L H v:=by
 let⟨ks,ws,R,Bm,k,m,q,d,x,bl,C,_,I,a,st,n,ζ,ζ⟩:=h;let f:(AM R (Rd R Bm k) m).β=m:=by rw[AM,ol,OB]
 let s:ws.β=R.β:=by rw[x,q.PJ]
 let b:∀{i:Φ},i<R.β->ws[i]?<*ws.MI i []:=λ{i}D=>by
  rw[u6,n_ (by rw[s];show D)];rfl
 let l0:r_ R Bm k 0=0:=xP a;let A:∀{u:LN},(∀c∈u,c∈L)->PD L (AM R (Rd R Bm k) m) 0 u=r_ R Bm k (PD L R 0 u):=λ{u}l=>by
  have:=Gn n a st a.n1 l;rw[l0]at this;show this
 refine(λj=>ws.MI ((Rd R Bm k).M0 j) [],(λj g=>?_,λi j w g=>?_,λu l=>?_))
 .rw [f]at g;let⟨F,E⟩:=Cv n a g;let⟨y,w2⟩:=nZ p q d x (b F);refine(y,3);rw[A y,w2];show E
 .rw [f]at g;let o:=nu n a w g;show q.srt _ _ _ _ o (b (P9 o (Cv n a g).1)) (b (Cv n a g).1)
 .rw [A l];let r:=De a a.n1 l;let t:=vP (k:=k) a r;let h1:=kf p q d x (b r) l ζ;rcases Φ.lt_or_eq_of_le t with z|z
  .let h2:=q.srt _ _ _ _ z (b (P9 z r)) (b r);cases e:AF L u (ws.MI ((Rd R Bm k).M0 (r_ R Bm k (PD L R 0 u))) [])with
   |η=>rfl
   |ξ=>rw[By e h2]at h1;cases h1
  .change AF L u (ws.MI ((Rd R Bm k).M0 (r_ R Bm k (PD L R 0 u))) [])=η;rw[z];show h1
def kS{rs:LN}(o:∀(i j a b:Φ),i<j->rs[i]?<*a->rs[j]?<*b->a<b)(d:∀r∈rs,r<m)(c:∀j<m,j∈rs):rs.β=m/\∀(i r:Φ),rs[i]?<*r->r=i:=by
 let l:∀(i r:Φ),rs[i]?<*r->i≤r:=by
  intro i;induction i with
  |TB=>show λr _=>Nb r
  |Sc i f=>
   intro r e;let g:i<rs.β:=P9 (OA i) (q5 e).1;let h1:=f _ (n_ g);let h2:=o i (i+1) _ _ (OA i) (n_ g) e;lia
 let k:∀(n i r:Φ),i<n->rs[i]?<*r->r=i:=by
  intro n;induction n with
  |TB=>show λi r h=>MJ h (Φ.not_lt_zero i)
  |Sc n f=>
   intro i r g e;let h1:=l i r e;let q:=d r (AC e);let⟨p,hp⟩:=NM.mp (c i (!2));let h2:=l p i hp;rcases Φ.S_ p i with z|z|z
   .have:=f p i (!6) hp;lia
   .rw [z,e]at hp;show ω.δ.QG hp
   .lia
 refine(3,λi r e=>k (i+1) i r (OA i) e);rcases Φ.S_ rs.β m with z|z|z
 .obtain ⟨p,hp⟩:=NM.mp (c rs.β z);let h1:=(q5 hp).1;have:=k (p+1) p _ (OA p) hp;lia
 .exact z
 .let e:=n_ z;have:=k (m+1) m _ (OA m) e;let h2:=d _ (Nt z);lia
structure BI(L:LN)(W:LL)(B:List Bool)(v:Nat->LN):Prop where
 mach:g_ L W B
 fs:tJ L W v
 un:∀{r s:Nat},r<W.length->s<W.length->(∀u:LN,(∀c∈u,c∈L)->B.getD (run L W r u) false=B.getD (run L W s u) false)->r=s
def Eg.canon(h:Eg L W B d g)(c:g_ L W B):∃v,BI L d g v:=by
 let⟨v,f⟩:=h.firsts c;show(v,h.Se,f,λb a e=>h.unlike b a e)
def BM(L:LN)(W:LL)(r:Φ)(a b:LN):PD L W r (a++b)=PD L W (PD L W r a) b:=by
 unfold PD;rw[γ.Ux]
section
variable{L:LN}{W1 W2:LL}{B1 B2:List Bool}{v1 v2:Nat->LN}
def BI.move(c1:BI L W1 B1 v1)(d:BI L W2 B2 v2)(h:∀u:LN,(∀c∈u,c∈L)->B1.MI (PD L W1 0 u) η=B2.MI (PD L W2 0 u) η)(g:∀c∈a,c∈L)(f:∀c∈b,c∈L)(e:PD L W1 0 a=PD L W1 0 b):PD L W2 0 a=PD L W2 0 b:=by
 refine d.un (De d.Se d.Se.n1 g) (De d.Se d.Se.n1 f) λu j=>?_;let o:∀{x:LN},(∀c∈x,c∈L)->∀c∈x++u,c∈L:=λi c k=>by
  rcases Na.mp k with z|z
  .exact i c z
  .exact j c z
 rw[<-BM,<-BM,<-h _ (o g),<-h _ (o f),BM,BM,e]
def BI.word(c1:BI L W1 B1 v1)(a:BI L W2 B2 v2)(h:∀u:LN,(∀c∈u,c∈L)->B1.MI (PD L W1 0 u) η=B2.MI (PD L W2 0 u) η)(f:j<W1.β):v2 (PD L W2 0 (v1 j))=v1 j:=by
 let⟨b,l⟩:=c1.fs.Ti j f;let g:=De a.Se a.Se.n1 b;let⟨d,k⟩:=a.fs.Ti _ g;let l2:=a.fs.least (v1 j) b;let i:PD L W1 0 (v2 (PD L W2 0 (v1 j)))=j:=by
  rw[a.move c1 (λu e=>(h u e).MO) d b k];show l
 let l1:=c1.fs.least _ d;rw[i]at l1;rcases fz b d with z|z|z
 .rw [z]at l2;cases l2
 .exact z.MO
 .rw [z]at l1;cases l1
def CZ(c1:BI L W1 B1 v1)(e:BI L W2 B2 v2)(h:∀u:LN,(∀c∈u,c∈L)->B1.MI (PD L W1 0 u) η=B2.MI (PD L W2 0 u) η):W1.β=W2.β/\∀j<W1.β,PD L W2 0 (v1 j)=j:=by
 let f:=kS (rs:=(γ.N2 W1.β).NL λj=>PD L W2 0 (v1 j)) (m:=W2.β) (λi j a b k s o=>?_) (λr w=>?_) (λj d=>?_)
 .refine (by have:=f.1;rwa [ol,OB]at this,λj d=>?_);refine f.2 j _ ?_;rw[tS,O6 d];rfl
 .let d:j<W1.β:=by have:=(q5 o).1;rwa [ol,OB]at this
  let l:i<W1.β:=P9 k d;rw[tS,O6 l]at s;rw[tS,O6 d]at o;cases s;cases o;let h1:=c1.fs.lt i j k d;let t:=De e.Se e.Se.n1 (c1.fs.Ti i l).1;rcases Φ.S_ (PD L W2 0 (v1 i)) (PD L W2 0 (v1 j))with z|z|z
  .exact z
  .let n:=c1.word e h l;let p:=c1.word e h d;rw[z]at n;rw[<-n,p]at h1;rw[IU h1]at h1;cases h1
  .let h2:=e.fs.lt _ _ z t;rw[c1.word e h l,c1.word e h d]at h2;rw[IU h2]at h1;cases h1
 .obtain ⟨j,d,ζ⟩:=O_.mp w;show De e.Se e.Se.n1 (c1.fs.Ti j (Nm.mp d)).1
 .obtain ⟨q,p⟩:=e.fs.Ti j d;let g:=De c1.Se c1.Se.n1 q;refine O_.Om (PD L W1 0 (v2 j),Nm.Om g,3);let⟨v,n⟩:=c1.fs.Ti _ g;change PD L W2 0 (v1 (PD L W1 0 (v2 j)))=j;rw[c1.move e h v q n];show p
def sU(c1:BI L W1 B1 v1)(f:BI L W2 B2 v2)(h:∀u:LN,(∀c∈u,c∈L)->B1.MI (PD L W1 0 u) η=B2.MI (PD L W2 0 u) η):W1=W2/\B1=B2:=by
 let⟨o,v⟩:=CZ c1 f h;let i:∀{u:LN},(∀c∈u,c∈L)->PD L W2 0 u=PD L W1 0 u:=λ{u}m=>by
  let d:=De c1.Se c1.Se.n1 m;let⟨a,b⟩:=c1.fs.Ti _ d;rw[<-v _ d];show(c1.move f h a m b).MO
 refine(γ.XU o λj h1 h2=>?_,γ.XU (by rw[c1.Se.bl,f.Se.bl,o]) λj h1 h2=>?_)
 .obtain ⟨a,b⟩:=c1.fs.Ti j h1;let⟨p,A⟩:=c1.Se.Vt _ (Nt h1);let⟨x,y⟩:=f.Se.Vt _ (Nt h2);refine γ.XU (by rw[p,x]) λq k s=>?_;let n:q<L.β:=by rw[<-p];show k
  let g:∀c∈v1 j++[L[q]],c∈L:=λc w=>by
   rcases Na.mp w with z|z
   .exact a c z
   .rw [Ay z];show Nt n
  let e:=i g;let t:=HM c1.Se.lt.nd n;rw[EQ,EQ,i a,b,G_,G_,t]at e;let r:QT W1 j q=W1[j][q]:=by
   rw[QT,u6 (l:=W1),n_ h1];change (W1[j]).MI q 0=_;rw[u6,n_ k];rfl
  let w2:QT W2 j q=W2[j][q]:=by
   rw[QT,u6 (l:=W2),n_ h2];change (W2[j]).MI q 0=_;rw[u6,n_ s];rfl
  rw[<-r,<-w2];show e.MO
 .let d:j<W1.β:=by rw[<-c1.Se.bl];show h1
  let⟨a,b⟩:=c1.fs.Ti j d;let e:=h _ a;rw[i a,b,u6,u6,n_ h1,n_ h2]at e;show e
end
section
variable{κ:Type}[DecidableEq κ]{g:κ->Nat->κ}{L:LN}{s:κ}{ts ts':List κ}{ws ws':LL}
end
abbrev gA(W:LL)(k:LN)(q:Φ):LN:=k.NL λr=>(W.MI r []).MI q 0
section
variable{L:LN}{W ks ws R:LL}{B:List Bool}
end
end RA
namespace L2
open PySem.Spec PyProof.Rows
def pN{xs:γ V}(h:t≤xs.β):AL xs (δ (t:ML)) ε=xs.Pu t:=by
 unfold AL;rw[HT.CO,HT.DN,Φ.Z9 h,N6 (by rw[UF];show LT _)]
section
variable{X:Cx}{elt iter:Expr}{x y:Str}{px py pt pos:Pos}{kt:Nat}{sc:Scope}{wi:TI}{te:TE}{tt:TT}{ifs:List Expr}
abbrev gj(K:Nl)(wi:TI)(tt:TT)(te:TE):TE:=λσ H Q=>wi σ H λJ H1=>∀D,H1 D=ε->∃W:Φ->Φ->γ V->Hp->Prop,
 (∃m,W 0 m [] (MR H1 D (.M5 [])))/\∀i m ys H2,W i m ys H2->H2 D=δ (.M5 ys)/\((J.Sv i H2/\Q (.π D) H2)\/(J.go i H2/\ys.β<Λ/\∀x H3,J.X6 i H2 x H3->
  ∃p a b,x=.π p/\u0 K H3 p [a,b]/\tt (δ a::δ b::σ) H3 λbo H4=>if bo=ξ then te (δ a::δ b::σ) H4 λy H5=>H5 D=δ (.M5 ys)/\∃m',m'<m/\W (i+1) m' (ys++[y]) (MR H5 D (.M5 (ys++[y])))else ∃m',m'<m/\W (i+1) m' ys H4))
def lv{st:MH}(Z:Φ->MH->Prop)(J:∀k t,Z k t->BT (Cl pg d) B (Up p) (λr o=>match r with
   |ε=>Rf (.ok .next) o
   | δ u=>BT (Cl pg d) B (Xh m p u) (λ_ A=>BT (Cl pg d) B (U1 m g u) (λ_ w=>
     BT (Cl pg d) B (YS Xi ξ λc r=>if r=ξ then do let ok <-isTrue c g (OJ c g);pure (Tq.Yv ok)else pure (Tq.Yv r)) (λi n=>
      if i=ξ then BT (Cl pg d) B (OJ Xl g) (λz v=>BT (Cl pg d) B (Ql (.Nf "list.append") [C,z]) (λ_ s=>∃j,j<k/\Z j s) (Tj (Cl pg d) B g λe s'=>Rf (.R9 e) s') v) (Tj (Cl pg d) B g λe s'=>Rf (.R9 e) s') n
      else ∃j,j<k/\Z j n) (Tj (Cl pg d) B g λe s'=>Rf (.R9 e) s') w) (Tj (Cl pg d) B g λe s'=>Rf (.R9 e) s') A) (Tj (Cl pg d) B g λe s'=>Rf (.R9 e) s') o) (Tj (Cl pg d) B g λe s'=>Rf (.R9 e) s') t)(k:Φ)(hz:Z k st):Qe (Cl pg d) B (.compLoop (.QB Xl [(m,Qr,Xi,(0))] sc Ng) 0 p C g) Rf st:=by
 let b:∀{q:Type}{x:Y_ q}{Q1 D:q->MH->Prop}{N:θ->MH->Prop}{t:MH},BT (Cl pg d) B x Q1 N t->(∀a t',Q1 a t'->D a t')->BT (Cl pg d) B x D N t:=λh f=>NG h f λ_ _ z=>z;refine codeAny_loop ζ Z (λk t E=>?_) k hz;change BT _ B ((compTurn (.QB Xl [(m,Qr,Xi,(0))] sc Ng) 0 p C g).onRaise λx=>do Tp x g;theTreesLotGoes x) _ _ t;refine wpAny_noted ?_;rw[compTurn_list];refine d_ (PP (d_ (b (J k t E) λr o h1=>?_)));match r,h1 with
 |ε,h1=>show j' h1
 |δ u,h1=>
  refine d_ (b h1 λ_ A h2=>d_ (b h2 λ_ w I=>d_ (b I λi n l=>?_)));match i,l with
  |η,l=>show j' (1,l)
  |ξ,l=>show d_ (d_ (b l λz v H=>d_ (b H λ_ s F=>j' (j' (1,F)))))
end
section
variable{X:Cx}{elt iter tg:Expr}{x y:Str}{px py pt pos:Pos}{kt:Nat}{sc:Scope}{wi:TI}{te:TE}{tt:TT}{ifs:List Expr}
instance tH(sc:RX)(WP:M'->MX):Prop:=∀{M:Model}{A:N0}{E:θ->MH->Prop}{s:MH}{g:υ}{cl:γ (M'×υ)}{M4:M'}{QY:ω υ}{code:θ}{Fr:WC}{bl:υ}{Q:WC->MH->Prop},
  (∀h' cl',h'.Ns s⁻¹ (λ_=>ε)->(∀b o,s.ο.ψ b<*o->h'.ψ b<*o)->(∀y c,γ.ρ y cl'<*c->WP y=η/\cl.ρ y<*c\/WP y=ξ/\s⁻¹<c/\∃v o,h'.ψ c=δ o/\o.NH=.N8 v)->(∀y c,WP y=η->cl.ρ y<*c->γ.ρ y cl'<*c)->(∀y,WP y=ξ->∃c,γ.ρ y cl'<*c)->
   Q (newEnv sc s⁻¹ g cl' M4 QY code (δ Fr) bl) {s with ο:=h'})->BT M A (VS sc g cl [] M4 QY code (δ Fr) bl) Q E s
def Am{xx:Cx->θ->MH->Prop}{WP:M'->MX}{ns:γ M'}{gx:V->Hp->γ V->Prop}(L:γ M')(hc:X.T0=ξ)(cf:(ns++L).Nx)(hi:PI X tg Qr wi)(a:∀(Z:γ (M'×υ))(C:υ)(F:γ υ)(s:MH)(H:Hp),FF {oI X x sc Z C F s H with N:=ns++L,fn:=WP} Xi tt/\PE (Cx.Vs {oI X x sc Z C F s H with N:=ns++L,fn:=WP} (xx {oI X x sc Z C F s H with N:=ns++L,fn:=WP})) Xl te)(b2:∀(Z:γ (M'×υ))(C:υ)(F:γ υ)(s0:MH)(H0:Hp)(g:γ (υ×Rm))(s:MH)(O:St)(os:γ (ω V))(H:Hp)(y:V)(u:θ)(vs:γ V),os.β=ns.β->gx y H vs->f' {oI X x sc Z C F s0 H0 with N:=ns++L,fn:=WP} g (os++O) H s->ad y u->BT (Cl X.Ξ X.w) X.A (U1 tg (Vc sc Z C X.KK) u) (λ_ s'=>f' {oI X x sc Z C F s0 H0 with N:=ns++L,fn:=WP} g (vs.NL δ++O) H s') (λ_ _=>NU) s)(as:sc.RR=.RM)(aA:∀y∈sc.MP,y.2=.local->sc.MP.ρ y.1<*.local)(a9:tH sc WP)(az:∀y∈sc.MP,y.2=.N8->WP y.1=ξ)(aU:∀y,WP y=ξ->y=x/\y∈ns/\sc.MP.ρ y<*.N8)(aV:(sc.MP.P' λy=>y.2 != .N4||X.KK.NE.MP.ρ y.1==δ .N8||X.KK.NE.MP.ρ y.1==δ .N4)=ξ)(b4:(L.P' λy=>sc.MP.ρ y != δ .local)=ξ)(b5:L.β=X.N.β)(b0:((L.Td X.N).P' λy=>y.1==y.2||sc.MP.ρ y.1==ε)=ξ)(hs:∀x,PV Qr X.KK x=pure x){O:St}{Q:VK}(I:f' X g O H s)(h:wi O H R)(hR:∀J H1,R J H1->∀D,H1 D=ε->∃W:Φ->Φ->γ V->Hp->Prop,(∃m,W 0 m [] (MR H1 D (.M5 [])))/\∀i m ys l,W i m ys l->l D=δ (.M5 ys)/\((J.Sv i l/\Q (.π D) l)\/(J.go i l/\ys.β<Λ/\∀x H3,J.X6 i l x H3->
   ∃vs,vs.β=ns.β/\gx x H3 vs/\tt (vs.NL δ++O) H3 λbo H4=>if bo=ξ then te (vs.NL δ++O) H4 λy H5=>H5 D=δ (.M5 ys)/\∃m',m'<m/\W (i+1) m' (ys++[y]) (MR H5 D (.M5 (ys++[y])))else ∃m',m'<m/\W (i+1) m' ys H4)))(cp:∀{s2 s4:MH}{l H3:Hp}{F:γ υ}{Z:γ (M'×υ)}{D C:υ}{os:γ (ω V)},f' X g O l s2->(∀b∈F,be X g l b)->(∀b o,s2.ο.ψ b<*o->b≠C)->s2⁻¹≤C->f' {oI X x sc Z C F s2 l with N:=ns++L,fn:=WP} [] (os++O) H3 s4->Q (.π D) H3->Vb (Cl X.Ξ X.w) X.A X.xe use QQ (.π D) C (.ok .next) s4)(cd:∀{s2:MH}{l:Hp}{F:γ υ}{Z:γ (M'×υ)}{D C:υ}{ev:θ}{s3:MH},f' X g O l s2->(∀b∈F,be X g l b)->s2⁻¹≤C->xx {oI X x sc Z C F s2 l with N:=ns++L,fn:=WP} ev s3->Tj (Cl X.Ξ X.w) X.A (Vc sc Z C X.KK) (λe s4=>Vb (Cl X.Ξ X.w) X.A X.xe use QQ (.π D) C (.R9 e) s4) ev s3:=by show λ_ _ _ f=>f.Nv):BT (Cl X.Ξ X.w) X.A (comprehension (.QB Xl [(tg,Qr,Xi,(0))] sc Ng) sc X.KK p (newList []) η (OJ Qr X.KK) use) QQ X.xe s:=by
 let bk:∀y∈sc.MP,y.2=.N4->(X.KK.Og y.1<*.N8\/X.KK.Og y.1<*.N4):=λy hy e=>by
  let q:=NN.mp aV y hy;rw[e]at q;simpa[WC.Og]using q
 let bd:∀y∈L,sc.MP.ρ y≠δ .local:=λy hy e=>by
  let q:=NN.mp b4 y hy;rw[e]at q;simp at q
 let⟨Z,a0,t,aM⟩:=JH (KK:=X.KK) (sc:=sc) λy hy e=>I.ok.Tn y.1 (bk y hy e);refine wpAny_comprehension_free ζ hs a0 as aA (ri (hi g s O H _ I h) λv s1 h1=>ri h1 λcA s2 h2=>?_);let⟨it,F,tn,J,l,e,j,T,aS,f2,hW⟩:=h2;subst e

 refine Oh ?_;refine a9 λS an M k lk a7 bV=>?_;dsimp only at M k lk⊢;generalize a1:s2.ο.Ni {OM:=.MM "list",Pv:=ε,NH:=.Sx ([]:γ θ).χ}=Ha at M k lk⊢;let hC:Ha.Np.MV=s2⁻¹+1:=by rw[<-a1,Pb]
 let E:s2⁻¹≤Ha.Np.MV:=by rw[hC];show SD _
 let bU:∀b o,s2.ο.ψ b<*o->b≠Ha.Np.MV:=λb o e=>M8 (Ψ (lt_size e) E);let ab:∀b o,s2.ο.ψ b<*o->S.ψ b<*o:=λb o e=>k b o (a1▸sy _ e);let bl:S.ψ s2⁻¹<*{OM:=.MM "list",Pv:=ε,NH:=.Sx ([]:γ θ).χ}:=k _ _ (a1▸MS _ ζ);let a4:∀{y:M'}{c:υ},Z.ρ y<*c->c<s2⁻¹:=λ{y c}e=>by
  let⟨v,o,ho,_⟩:=j.N8 y c (t y c e);show lt_size ho
 let a3:∀{y:M'},sc.MP.ρ y<*.N4\/y∈L->WP y=η:=λ{y}hy=>by
  cases q:WP y with
  |η=>rfl
  |ξ=>
   let⟨_,z,w⟩:=aU y q;rcases hy with e|e
   .rw [e]at w;cases w
   .exact MJ e ((γ.Wa.mp cf).2.2 y z y · ζ)
 generalize ag:s2⁻¹=D at *;generalize cC:Ha.Np.MV=C at *;let bm:l D=ε:=j.Oc.OF (Rb ag);let cg:l C=ε:=j.Oc.OF (!6);let⟨W,⟨m0,w0⟩,a5⟩:=hR _ _ hW D bm;let Y:∀b∈F,b<D:=λb a=>by
  let⟨o,e,_⟩:=T.Ua _ _ aS b a;rw[<-ag];show lt_size e
 let bM:∀{b},b∈F->∀{y c},γ.ρ y an<*c->c≠b:=λ{b}a{y c}e=>by
  rcases lk y c e with⟨_,w⟩|⟨_,w,_⟩
  .exact (f2 b a).2.2.2.2.1 y c (t y c w)
  .exact Qc (P9 (Y b a) (Nk E w))
 let aN:∀{y},sc.MP.ρ y<*.N4->∃c,γ.ρ y an<*c:=λ{y}e=>by
  let⟨c,aB⟩:=aM _ (Δ.OV e) ζ;show(c,a7 y c (a3 (.NI e)) aB)
 letI X':Cx:={oI X x sc an C F s2 l with N:=ns++L,fn:=WP}
 let aC:∀b∈F,b∉s_ X.NA:=λb a z=>by
  rcases MN.mp (j.ZO b z)with e|e
  .exact (f2 b a).2.1 e
  .exact (f2 b a).2.2.1 e
 let bS:X'.Ok:=by
  refine(j.ok.VT,as,j.ok.Wf,j.ok.blt,3,λy z c e1 e2=>?_,λy hy=>?_,λy c e e2=>?_,j.ok.hd,j.ok.QZ,.NI ζ,λb a=>(3,λy c e=>?_),j.bs,
   IO j.ok.bsz j.sz,λb o e a=>?_,aC,j.NA,j.Tf)
  .change s2⁻¹≤C;lia
  .rcases lk y c e1 with⟨_,w1⟩|⟨z1,w1,_⟩<;>rcases lk z c e2 with⟨_,w2⟩|⟨z2,w2,_⟩
   .exact j.ok.QG y z c (t y c w1) (t z c w2)
   .exact MJ (Nk E w2) (Φ.lt_asymm (a4 w1))
   .exact MJ (Nk E w1) (Φ.lt_asymm (a4 w2))
   .rw [(aU y z1).1,(aU z z2).1]
  .rcases hy with hy|hy
   .rcases vr (show(Uo sc X.KK).MP.ρ y<*.N8 from hy)with e|⟨_,e,_⟩
    .exact bV y (az _ (Δ.OV e) ζ)
    .exact aN e
   .rcases vr (show(Uo sc X.KK).MP.ρ y<*.N4 from hy)with e|⟨e,_⟩
    .exact aN e
    .cases e
  .rcases lk y c e2 with⟨w,_⟩|⟨_,w,_⟩
   .rw [show WP y=ξ from e]at w;cases w
   .exact ag▸Pn (Nk E w)
  .exact M8 (Ψ (Y b a) (by omega:D≤C))
  .exact bM a e
  .rcases (f2 b a).2.2.2.1 with z|z
   .exact j.ok.noex b o e z
   .exact MJ (Ψ (Ψ (lt_size e) j.ok.bsz) z) (Qq _)
 let I4:∀tk,f' X' [] (Wz ns.β ε++O) (MR l D (.M5 [])) {s2 with ο:=S,MT:=tk}:=λtk=>by
  refine(bS,1,j.Rz,Un.Tw ab (Rb ag) bm,(_,M,λi P v e1 e2 e3=>?_),λy c e=>?_,3,λy c e=>?_,λp hp=>?_,j.Oc.Tw ab (Rb ag) ?_,3)
  .let e1:(ns++L)[i]?<*P:=e1;by_cases bg:i<ns.β
   .rw [MY (by rw[PF];show bg),γ.Tx,Id bg]at e2;cases e2
   .rw [MW (by rw[PF];lia),PF]at e2;rw[MW (!6)]at e1;let e0:=e1;generalize i-ns.β=i at e0 e1 e2;let e3:GY (Uo sc X.KK) P:=e3;let aT:P∈L:=AC e0;let U:sc.MP.ρ P=δ .N4/\(Uo sc X.KK).MP.ρ P≠δ .local:=by
     rcases e3 with e|e|e
     .rcases vr e with q|⟨q,_⟩
      .exact MJ q (bd P aT)
      .cases q
     .rcases vr e with q|⟨_,q,_⟩
      .exact MJ ((a3 (.NT aT)).MO.ν (az _ (Δ.OV q) ζ)) MX.M9
      .exact (q,by rw[e];decide)
     .rcases vr e with q|⟨q,_⟩
      .exact (q,by rw[e];decide)
      .cases q
    let e1:X.N[i]?<*P:=by
     let hi:i<L.β:=(q5 e0).1;let bi:i<X.N.β:=by lia
     let hm:(P,X.N[i],)∈L.Td X.N:=by
      let hz:(L.Td X.N)[i]?<*(P,X.N[i],):=by
       rw[Pq];show(e0,n_ bi)
      show AC hz
     let q:=NN.mp b0 _ hm;rcases MX.or_eq_true_iff.mp q with q|q
     .have:P=X.N[i]:=SR q;rw[n_ bi,<-this]
     .let q2:sc.MP.ρ P=ε:=by simpa using q
      rw[U.1]at q2;cases q2
    let kc:X.KK.Og P<*.N8\/X.KK.Og P<*.N4:=bk _ (Δ.OV U.1) ζ;let⟨m,hn,hl⟩:=j.Xx;let⟨u,ru,lk⟩:=hl i P v e1 e2 (.NT kc);rcases lk with⟨q,_⟩|⟨_,c,ce,⟨o,ho,hd⟩⟩
    .rcases kc with z|z<;>(rw[z]at q;cases q)
    .obtain ⟨c',aB⟩:=aM _ (Δ.OV U.1) ζ;let e4:=t _ _ aB;rw[ce]at e4;cases e4;refine(u,ru,.NT (3,c,a7 _ _ (a3 (.NT aT)) aB,(o,ab c o ho,hd)));rcases e3 with e|e|e
     .exact MJ e U.2
     .exact .NI e
     .exact .NT e
  .rcases lk y c e with⟨_,w⟩|⟨_,_,v,o,w⟩
   .obtain ⟨v,o,ho,hd⟩:=j.N8 y c (t y c w);show(v,o,ab c o ho,hd)
   .exact (v,o,w)
  .change MR l D (.M5 []) C=ε;rw[a_ (G6 (!6))];show cg
  .change MR l D (.M5 []) c=ε;rcases lk y c e with⟨_,w⟩|⟨_,w,_⟩
   .rw [a_ (M8 (a4 w))];show j.UH y c (t y c w)
   .rw [a_ (Qc (Nk E w))];show j.Oc.OF (ag▸Pn (Nk E w))
  .exact MJ (show p∈([]:γ (υ×Rm))from hp) (!1)
  .exact (Nb _,[],(0),.Op,bl)
  .change (Wz ns.β ε++O).β=(ns++L).β;rw[w_,w_,PF,j.PJ,b5]
 let⟨ct,cv⟩:=a an C F s2 l;let a2:∀{ar:γ (υ×Rm)}{H':Hp},(∀b∈F,H' b=ε)->(∀p∈ar,p.1∉F)->∀b∈F,be X' ar H' b:=λhn hp b a=>by
  refine(hn b a,3,aC b a,.NI a,λy c e=>bM a e,λp q z=>?_)
  .exact M8 (Ψ (Y b a) (by omega:D≤C))
  .rcases Na.mp q with q|q
   .exact MJ (show p∈([]:γ (υ×Rm))from q) (!1)
   .exact hp p q (by rw[z];show a)
 let aH:∀tk,Qe (Cl X.Ξ X.w) X.A (.compLoop (.QB Xl [(tg,Qr,Xi,(0))] sc Ng) 0 (.π it) (.π D) (Vc sc an C X.KK)) (Vb (Cl X.Ξ X.w) X.A X.xe use QQ (.π D) C) {s2 with ο:=S,MT:=tk}:=λtk=>by
  refine lv (λn s'=>∃i ys os H',os.β=ns.β/\f' X' [] (os++O) H' s'/\tn i s'.ο/\(∀b∈F,H' b=ε)/\W i n ys H') ?_ m0 ((0),[],_,_,PF,I4 tk,T.P_ _ _ _ aS λb a o e=>ab b o e,λb a=>?_,w0)
  .rintro n s3⟨i,ys,os,H3,b3,I3,a6,bD,w3⟩;let⟨cB,cs⟩:=a5 i n ys H3 w3;rcases cs with⟨Sv,qn⟩|⟨go,bf,Xd⟩
   .refine NG (T.done X' ζ ζ ζ hc i [] s3 _ H3 (λ_ _=>NU) I3 (a2 bD (!1)) a6 Sv) (λr s4 B=>?_) λ_ _ f=>f.Nv;let⟨hr,cx⟩:=B;subst hr;show cp j f2 bU (!6) cx qn
   .refine NG (T.Ut X' ζ ζ ζ hc i [] s3 _ H3 (λ_ _=>NU) I3 (a2 bD (!1)) a6 go) (λr s4 B=>?_) λ_ _ f=>f.Nv;let⟨u,hr,h4⟩:=B;subst hr;refine NG h4 (λ_ s5 B=>?_) λ_ _ f=>f.Nv;let⟨z,H5,I5,r5,y5,ap,co⟩:=B;let cw:=I5.pinned (a2 co (!1)) (T.Ua _ _ ap);let⟨vs,a8,b6,b1⟩:=Xd z _ y5;refine NG (b2 an C F s2 l _ s5 O os H5 z u vs b3 b6 cw r5) (λ_ s6 I6=>?_) λ_ _ f=>f.Nv;refine NG (ct _ s6 _ _ _ I6 b1) (λbP s7 B=>?_) λ_ _ f=>f.Nv;let⟨H7,I7,q7⟩:=B;cases bP with
    |η=>
     let⟨m',hm,w8⟩:=q7;refine(m',hm,i+1,ys,_,_,by rw[ol];show a8,I7.WS,T.P_ _ _ _ ap λb a o e=>(I7.Yz (b,o,) (Nn _ (Nn _ (G4 a e)))).1,λb a=>?_,w8);let⟨o,e,d⟩:=T.Ua _ _ ap b a;show(I7.Yz (b,o,) (Nn _ (Nn _ (G4 a e)))).2.1
    |ξ=>
    refine NG (cv _ s7 _ _ _ (I7.Vs _) q7) (λz s8 B=>?_) λev s8 f=>cd j f2 (!6) f;let⟨yv,H8,I8,r8,ch,q8⟩:=B;let I8:=I8.Ss;refine NG (eQ (X:=X') _ s8 _ H8 (.π D) [yv] (.π D) [z] (λ_ H9=>H9=MR H8 D (.M5 (ys++[yv]))) I8 ζ (.NX r8 .Op) (D,ys,yv,5,ch,bf,1)) (λ_ s9 B=>?_) λ_ _ f=>f.Nv;let⟨_,H9,I9,_,e9⟩:=B;subst e9;let⟨m',hm,w8⟩:=q8;refine(m',hm,i+1,7,by rw[ol];show a8,I9.WS,T.P_ _ _ _ ap λb a o e=>(I9.Yz (b,o,) (Nn _ (Nn _ (G4 a e)))).1,λb a=>?_,w8);let⟨o,e,d⟩:=T.Ua _ _ ap b a;show(I9.Yz (b,o,) (Nn _ (Nn _ (G4 a e)))).2.1
  .change MR l D (.M5 []) b=ε;rw[a_ (M8 (Y b a))];show(f2 b a).1
 show codeAny_compStart_list (aH _) (T.Yj _ _ _ _ _ (T.P_ _ _ _ aS λb a o e=>ab b o e) (aH _))
def Jf{WP:M'->MX}{t l:St}(M:f' X f t s s2)(k:∀b∈F,be X f s b)(g:∀b o,s2.ο.ψ b<*o->b≠C)(a:f' {oI X x sc O C F s2 s with N:=N,fn:=WP} [] l h B)(I:Q (.π D) h):Vb (Cl X.Ξ X.w) X.A X.xe ε (EP X f t Q) (.π D) C (.ok .next) B:=by
 let⟨L,p,_⟩:=a.Xx;refine(L,p,λh' d=>?_);let E:∀b u,h b<*u->b≠C:=λb u e z=>by rw[z]at e;rw[show h C=ε from a.N4]at e;cases e
 let i:Au X.Ξ X.w h h':=λb u e=>(a.Oc b u e).ST (λc v r q=>d.S3 c v (by
  rcases r with z|z
  .rw [z];show E b u e
  .exact E c _ z) q) (λ_ q=>q) λ_ _ q=>q
 let un:Un (s_ X.NA) F s h s2.ο h':=
  (λb o e n1 n m=>d.S3 b o (g b o e) (a.ς.P_ b o e n1 n m),λb o e n1 n m=>by
    let⟨H,q⟩:=a.ς.UY b o e n1 n m;show(H,d.S3 b _ (g b o e) q),a.ς.N4,λb o e n1=>by
    let⟨J,q⟩:=a.ς.QO b o e n1;show(J,d.S3 b _ (g b o e) q),a.ς.QN,a.ς.VZ,a.ς.VN)
 show(.π D,h,M.call' (s':={B with ο:=h'}) a.os un i a.Rz λb j=>((k b j).2.2.2.1,(k b j).2.1,(k b j).2.2.2.2.1,(k b j).2.2.2.2.2),1,I)
def H_(d:sc.RR=.RM)(f:∀y∈sc.MP,y.2≠.N8):tH sc λ_=>η:=λ{_ _ _ s _ j _ _ _ _ _ _}i=>by
 refine VI f (λy h=>MJ h (!1)) (λg c a=>i g j c (λb o e=>a.S3 b o (M8 (lt_size e)) (sy _ e)) (λ_ _ e=>.NI (1,e)) (λ_ _ _ e=>e) λ_ e=>nomatch e) d
def jg{P:M'->Prop}:∀y,(λ_=>η:M'->MX) y=ξ->P y:=λ_ e=>nomatch e
def Ia(h:(x::k).Nx)(n:DG (Uo sc X.KK) x)(t:WP x=ξ\/(Uo sc X.KK).MP.ρ x<*.local)(b:γ (M'×υ))(C:υ)(j:γ υ)(e:MH)(l:Hp)(a:γ (υ×Rm))(s:MH)(d:St)(os:γ (ω V))(H:Hp)(y:V)(u:θ)(vs:γ V)(p:os.β=1)(q:vs=[y])(I:f' {oI X x sc b C j e l with N:=[x]++k,fn:=WP} a (os++d) H s)(r:ad y u):BT (Cl X.Ξ X.w) X.A (U1 (.Nz x px) (Vc sc b C X.KK) u) (λ_ s'=>f' {oI X x sc b C j e l with N:=[x]++k,fn:=WP} a (vs.NL δ++d) H s') (λ_ _=>NU) s:=by
 let⟨o,ζ⟩:=γ.length_eq_one_iff.mp p;refine NG (bK (X:={oI X x sc b C j e l with N:=[x]++k,fn:=WP}) (i:=0) (Ng:=px) h ζ n t _ s _ H y u (λc H'=>c=δ y::d/\H'=H) I r (1,1)) (λ_ D g=>?_) λ_ _ f=>f;let⟨m,E,B,z,v⟩:=g;subst z v q;show B
def Ib{g:St}{Q:VK}{J:It}{W:Φ->Φ->γ V->Hp->Prop}(h:∀i m ys a,W i m ys a->a D=δ (.M5 ys)/\((J.Sv i a/\Q (.π D) a)\/(J.go i a/\ys.β<Λ/\∀x d,J.X6 i a x d->tt (δ x::g) d λj f=>if j=ξ then te (δ x::g) f λy e=>e D=δ (.M5 ys)/\∃c,c<m/\W (i+1) c (ys++[y]) (MR e D (.M5 (ys++[y])))else ∃c,c<m/\W (i+1) c ys f))):∀i m ys a,W i m ys a->a D=δ (.M5 ys)/\((J.Sv i a/\Q (.π D) a)\/(J.go i a/\ys.β<Λ/\∀x d,J.X6 i a x d->∃vs:γ V,vs.β=1/\vs=[x]/\tt (vs.NL δ++g) d λj f=>if j=ξ then te (vs.NL δ++g) f λy e=>e D=δ (.M5 ys)/\∃c,c<m/\W (i+1) c (ys++[y]) (MR e D (.M5 (ys++[y])))else ∃c,c<m/\W (i+1) c ys f)):=
 λi m ys a w=>(h i m ys a w).Wc id λb=>b.Wc id λb=>(b.1,b.2.1,λx d k=>([x],5,b.2.2 x d k))
def EA(f:γ M')(A:X.T0=ξ)(i:(x::f).Nx)(z:PI X (.Nz x px) Qr wi)(B:∀(u:γ (M'×υ))(C:υ)(t:γ υ)(s:MH)(H:Hp),FF {oI X x sc u C t s H with N:=x::f} Xi tt/\PE {oI X x sc u C t s H with N:=x::f} Xl te)(p:(sc.MP.ρ x<*.local)>>>4)(a:(sc.RR=.RM)>>>4)(c:(∀y∈sc.MP,y.2=.local->sc.MP.ρ y.1<*.local)>>>3)(b:(∀y∈sc.MP,y.2≠.N8)>>>3)(d:((sc.MP.P' λy=>y.2 != .N4||X.KK.NE.MP.ρ y.1==δ .N8)=ξ)>>>4)(l:((f.P' λy=>sc.MP.ρ y != δ .local)=ξ)>>>4)(n:(f.β=X.N.β)>>>4)(k:(((f.Td X.N).P' λy=>y.1==y.2||sc.MP.ρ y.1==ε)=ξ)>>>4)(w:(∀x,PV Qr X.KK x=pure x)>>>7):PE X (.QB Xl [(.Nz x px,Qr,Xi,(0))] sc Ng) (FG wi tt te):=by
 intro o s O H Q I h;rw[V8];refine Am (xx:=λ_ _ _=>NU) (WP:=λ_=>η) (ns:=[x]) (gx:=λy _ vs=>vs=[y]) f A i z B (Ia i (.NI (OX p)) (.NT (OX p))) a c (H_ a b) (λy h e=>MJ e (b y h)) jg (NN.Om λy v=>by rw[NN.mp d y v];rfl) l n k w I h (λJ P r D E=>?_) λM F j _ L q=>Jf M F j L q;let⟨W,m,g⟩:=r D E;show(W,m,Ib g)
def eJ(f:γ M')(z:X.T0=ξ)(i:(x::f).Nx)(w:PI X (.Nz x px) Qr wi)(A:∀(u:γ (M'×υ))(C:υ)(t:γ υ)(s:MH)(H:Hp),FF {oI X x sc u C t s H with N:=x::f} Xi tt/\PE {oI X x sc u C t s H with N:=x::f} Xl te)(p:(sc.MP.ρ x<*.local)>>>4)(a:(sc.RR=.RM)>>>4)(c:(∀y∈sc.MP,y.2=.local->sc.MP.ρ y.1<*.local)>>>3)(b:(∀y∈sc.MP,y.2≠.N8)>>>3)(d:((sc.MP.P' λy=>y.2 != .N4||X.KK.NE.MP.ρ y.1==δ .N8||X.KK.NE.MP.ρ y.1==δ .N4)=ξ)>>>4)(l:((f.P' λy=>sc.MP.ρ y != δ .local)=ξ)>>>4)(n:(f.β=X.N.β)>>>4)(k:(((f.Td X.N).P' λy=>y.1==y.2||sc.MP.ρ y.1==ε)=ξ)>>>4)(v:(∀x,PV Qr X.KK x=pure x)>>>7):PE X (.QB Xl [(.Nz x px,Qr,Xi,(0))] sc Ng) (FG wi tt te):=by
 intro o s M H Q I h;rw[V8];refine Am (xx:=λ_ _ _=>NU) (WP:=λ_=>η) (ns:=[x]) (gx:=λy _ vs=>vs=[y]) f z i w A (Ia i (.NI (OX p)) (.NT (OX p))) a c (H_ a b) (λy h e=>MJ e (b y h)) jg d l n k v I h (λJ O r D B=>?_) λL E j _ F q=>Jf L E j F q;let⟨W,m,g⟩:=r D B;show(W,m,Ib g)
def mQ{N:γ M'}{j:Φ}{y:M'}{Q P:St}(hN:X.N.Nx)(hj:X.N[j]?<*y)(T:DG X.KK.NE y)(Y:X.fn y=ξ\/X.KK.NE.MP.ρ y<*.local)(L:f' X h Q H2 s2)(O:∀b∈fp,be X h H2 b)(l:∀b o,s2.ο.ψ b<*o->b≠C)(ag:s2⁻¹≤C)(d:f' {oI X x sc cl C fp s2 H2 with N:=N} [] P k M)(qn:Bv j (.π D) Q k DD.nx):Vb (Cl X.Ξ X.w) X.A X.xe (δ (U1 (.Nz y py) X.KK)) (λ_ s'=>SP X h DD .next s') (.π D) C (.ok .next) M:=by
 let⟨mC,I,_⟩:=d.Xx;let nC:∀b u,k b<*u->b≠C:=λb u e z=>by rw[z]at e;rw[show k C=ε from d.N4]at e;cases e
 let un:Un (s_ X.NA) fp H2 k s2.ο M.ο:=
  (λb o e n1 F n=>d.ς.P_ b o e n1 F n,λb o e n1 F n=>d.ς.UY b o e n1 F n,d.ς.N4,λb o e n1=>d.ς.QO b o e n1,d.ς.QN,d.ς.VZ,d.ς.VN)
 let I5:f' X h Q k M:=L.call' (s':=M) d.os un d.Oc d.Rz λb B=>((O b B).2.2.2.1,(O b B).2.1,(O b B).2.2.2.2.1,(O b B).2.2.2.2.2);let⟨oC,ap,an,W,_⟩:=id I;let s:∃o,s2.ο.ψ X.KK.OZ<*o:=by let⟨m,⟨o,es,ep,z,_⟩,_⟩:=L.Xx;show(o,z)
 let E:X.KK.OZ≠C:=by let⟨o,z⟩:=s;show l _ o z
 let g:∀y c,X.KK.Rj.ρ y<*c->c≠C:=λy c e=>by let⟨v,o,r,_⟩:=L.N8 y c e;show l c o r
 dsimp only[Vb];refine wpAny_assign_Name (ef I5 hN hj T (v:=.π D) ζ (λS I6 U=>?_) Y);let⟨a,sb,ha⟩:=U;let J:C≠a:=by
  rcases ha with z|z
  .rw [z];show Ne.MO E
  .exact Ne.MO (g _ _ z)
 let H:S.ο.ψ C<*oC:=(sb.2 C J).ν W;refine(mC,I.WW sb J,λi f=>?_);let ab:C<i.Np.MV:=by rw[f.1];show lt_size H
 let t:Au X.Ξ X.w k i:=λb u e=>(I6.Oc b u e).ST (λc v Z q=>f.S3 c v (by
  rcases Z with z|z
  .rw [z];show nC b u e
  .exact nC c _ z) q) (λ_ q=>q) λ_ _ q=>q
 let R:Un (s_ X.NA) [C] k k S.ο i:=
  (λb o e n1 F n=>f.S3 b o (λz=>n (by simp[z])) e,λb o e n1 F n=>(o.Rw,f.S3 b o (λz=>n (by simp[z])) e),λb o e n1 _=>n1,λb o e n1=>(o,f.S3 b o (λz=>n1 (by simp[z])) e),λ_ _ q=>q,λ_ _ _ q=>q,λb ps q=>(#[],by rw[Nq.Zh];show q))
 refine(_,k,I6.call' (s':={S with ο:=i}) ζ R t I6.Rz (λb B=>?_),qn);let eb:b=C:=by simpa using B
 subst eb;refine(.NT (IO L.sz (!2)),Ne.MO E,g,λp hp z=>?_);let⟨z1,_⟩:=L.Yz p hp;show l p.1 p.2 z1 z
def Jg(g:γ M'){py d:Sn}(Y:X.T0=ξ)(hN:X.N.Nx)(k:(x::g).Nx)(T:X.N[j]?<*y)(p:DG X.KK.NE y)(U:PI X (.Nz x px) Qr wi)(Z:∀(M:γ (M'×υ))(C:υ)(L:γ υ)(s:MH)(H:Hp),FF {oI X x sc M C L s H with N:=x::g} Xi tt/\PE {oI X x sc M C L s H with N:=x::g} Xl te)(F:(sc.MP.ρ x<*.local)>>>4)(a:(sc.RR=.RM)>>>4)(c:(∀y∈sc.MP,y.2=.local->sc.MP.ρ y.1<*.local)>>>3)(b:(∀y∈sc.MP,y.2≠.N8)>>>3)(f:((sc.MP.P' λy=>y.2 != .N4||X.KK.NE.MP.ρ y.1==δ .N8)=ξ)>>>4)(t:((g.P' λy=>sc.MP.ρ y != δ .local)=ξ)>>>4)(w:(g.β=X.N.β)>>>4)(o:(((g.Td X.N).P' λy=>y.1==y.2||sc.MP.ρ y.1==ε)=ξ)>>>4)(S:(∀x,PV Qr X.KK x=pure x)>>>7)(q:(Su (.QB Xl [(.Nz x px,Qr,Xi,(0))] sc Ng) (δ (.Nz y py)) d.SV X.KK=pure ξ)>>>4)(z:(X.fn y=ξ\/X.KK.NE.MP.ρ y<*.local)>>>8):PS X (.WM [.Nz y py] (.QB Xl [(.Nz x px,Qr,Xi,(0))] sc Ng) d) (aK (FG wi tt te) (Bv j)):=by
 intro E s B H O I h;refine Cf q λ_=>Am (xx:=λ_ _ _=>NU) (WP:=λ_=>η) (Q:=λv l=>Bv j v B l O.nx) (ns:=[x]) (gx:=λy _ vs=>vs=[y]) g Y k U Z (Ia k (.NI (OX F)) (.NT (OX F))) a c (H_ a b) (λy h e=>MJ e (b y h)) jg (NN.Om λy R=>by rw[NN.mp f y R];rfl) t w o S I h (λJ l r D hD=>?_) λI2 f2 n u A P=>mQ hN T p z I2 f2 n u A P;let⟨W,m,i⟩:=r D hD;show(W,m,Ib (Q:=λv l=>Bv j v B l O.nx) i)
def qb(L:X.T0=ξ)(g:(x::y::t).Nx)(F:sc.MP.ρ x<*.local)(E:sc.MP.ρ y<*.local)(j:γ (M'×υ))(C:υ)(q:γ υ)(m:MH)(z:Hp)(c:γ (υ×Rm))(s:MH)(l:St)(os:γ (ω V))(H:Hp)(v:V)(u:θ)(vs:γ V)(I:os.β=2)(J:∃p a b,v=.π p/\u0 X.K H p [a,b]/\vs=[a,b])(S:f' {oI X x sc j C q m z with N:=[x,y]++t} c (os++l) H s)(D:ad v u):BT (Cl X.Ξ X.w) X.A (U1 (.RP [.Nz x px,.Nz y py] kt pt) (Vc sc j C X.KK) u) (λ_ s'=>f' {oI X x sc j C q m z with N:=[x,y]++t} c (vs.NL δ++l) H s') (λ_ _=>NU) s:=by
 obtain⟨o,h,ζ⟩:∃o h,os=[o,h]:=match os,I with|[o,h],_=>(o,h,1)
 let⟨p,Q,P,ζ,hp,ζ⟩:=J;let e:(Uo sc X.KK).MP.ρ x<*.local:=OX F;let d:(Uo sc X.KK).MP.ρ y<*.local:=OX E;let r:PG {oI X x sc j C q m z with N:=[x,y]++t} (.RP [.Nz x px,.Nz y py] kt pt) (zr X.K 2 (ss (Bv 0) (ss (Bv 1) gNil))):=gE L (F' (bK (i:=0) g ζ (.NI e) (.NT e)) (F' (bK (i:=1) g ζ (.NI d) (.NT d)) bJ));refine NG (r _ s _ H (.π p) u (λk H'=>k=δ Q::δ P::l/\H'=H) S D (p,0,hp,1,4,4,5,1)) (λ_ T n=>?_) λ_ _ f=>f;let⟨B,U,R,O,M⟩:=n;subst O M;show R

def Jh(j:γ M')(A:X.T0=ξ)(l:(x::y::j).Nx)(T:PI X (.RP [.Nz x px,.Nz y py] kt pt) Qr wi)(U:∀(E:γ (M'×υ))(C:υ)(B:γ υ)(s:MH)(H:Hp),FF {oI X x sc E C B s H with N:=x::y::j} Xi tt/\PE {oI X x sc E C B s H with N:=x::y::j} Xl te)(P:(sc.MP.ρ x<*.local)>>>4)(O:(sc.MP.ρ y<*.local)>>>4)(c:(sc.RR=.RM)>>>4)(f:(∀y∈sc.MP,y.2=.local->sc.MP.ρ y.1<*.local)>>>3)(d:(∀y∈sc.MP,y.2≠.N8)>>>3)(g:((sc.MP.P' λy=>y.2 != .N4||X.KK.NE.MP.ρ y.1==δ .N8||X.KK.NE.MP.ρ y.1==δ .N4)=ξ)>>>4)(t:((j.P' λy=>sc.MP.ρ y != δ .local)=ξ)>>>4)(u:(j.β=X.N.β)>>>4)(o:(((j.Td X.N).P' λy=>y.1==y.2||sc.MP.ρ y.1==ε)=ξ)>>>4)(S:(∀x,PV Qr X.KK x=pure x)>>>7):PE X (.QB Xl [(.RP [.Nz x px,.Nz y py] kt pt,Qr,Xi,(0))] sc Ng) (gj X.K wi tt te):=by
 intro z s σ H Q I h;rw[V8];refine Am (xx:=λ_ _ _=>NU) (WP:=λ_=>η) (ns:=[x,y]) (gx:=λv H vs=>∃p a b,v=.π p/\u0 X.K H p [a,b]/\vs=[a,b]) j A l T U (qb A l P O) c f (H_ c d) (λy h e=>MJ e (d y h)) jg g t u o S I h (λJ H1 r D Y=>?_) λI2 Z n _ I4 q=>Jf I2 Z n I4 q
 .obtain ⟨W,m,k⟩:=r D Y;show(W,m,λi m ys H2 w=>(k i m ys H2 w).Wc id λb=>b.Wc id λb=>(b.1,b.2.1,λv H3 M=>by
   let⟨p,L,F,e,hp,R⟩:=b.2.2 v H3 M;show([L,F],1,(p,L,F,e,hp,1),R)))
def LB{KK:WC}:∀{a:γ (M'×QA)}{x:M'},a.ρ x<*.N8->
  (a.NL λ(n,k)=>if (k==QA.N4&&KK.NE.RR==.RM&&KK.Og n==δ .N8)then(n,QA.N8,)else(n,k,)).ρ x<*.N8
 |[],_,h=>by simp at h
 |(n,k)::r,x,h=>by
  rw[Qp];by_cases z:x=n
  .subst z;rw[γ.W6]at h;cases h;change γ.ρ x ((x,QA.N8,)::_)=_;show γ.W6
  .let zb:(x==n)=η:=NB.Om z;let h2:r.ρ x<*.N8:=by simpa only[γ.ρ,zb]using h
   let b:=LB (KK:=KK) h2;dsimp only;split
   .simp only[γ.ρ,zb];show b
   .simp only[γ.ρ,zb];show b
def rk(f:∀n a,Vm n sc.MP a=(x,n,)::a)(d:∀h:NR,pushCells h sc.MP=h.Ni {OM:=.MM "cell",NH:=.N8 ε}):tH sc λy=>y==x:=λ{_ _ _ s _ a _ _ _ Fr _ _}g=>by
 unfold VS;rw[show(δ Fr).Rx=ξ from ζ,Id ζ];refine d_ (VM (d_ (wpAny_layCells _ (λ_ k _=>by cases q:k==QA.N8<;>simp only[q]<;>rfl) _ _ _ _ ?_)));rw[f,d];let e:({s with ο:=s.ο.Ni {OM:=.MM "dict",NH:=.Pv #[]} }:MH).ο.Np.MV=s⁻¹+1:=Pb ..;rw[e];refine d_ ?_;rw[SQ];refine j' (j' (g _ ((x,s⁻¹+1,)::a) ?_ (λb o z=>sy _ (sy _ z)) (λy c e=>?_) (λy c z e=>?_) λy z=>(s⁻¹+1,by cases SR z;show γ.W6)))
 .exact (NR.Ns.Xw s.ο (.MM "dict")).Oq λb o z=>sy _ z
 .cases z:y==x<;>simp only[γ.ρ,z]at e
  .exact .NI (z,e)
  .cases e;have:=MS (s.ο.Ni {OM:=.MM "dict",NH:=.Pv #[]}) (o:={OM:=.MM "cell",NH:=.N8 ε}) ζ;rw[Pb]at this;show .NT (z,OA _,ε,_,this,1)
 .simp only[γ.ρ,z];show e
def qO(f:γ M')(F:X.T0=ξ)(i:(x::f).Nx)(E:PI X (.Nz x px) Qr wi)(L:∀(j:γ (M'×υ))(C:υ)(z:γ υ)(s:MH)(H:Hp),FF {oI X x sc j C z s H with N:=x::f,fn:=λy=>y==x} Xi tt/\PE {oI X x sc j C z s H with N:=x::f,fn:=λy=>y==x} Xl te)(w:(sc.MP.ρ x<*.N8)>>>4)(u:(∀n j,Vm n sc.MP j=(x,n,)::j)>>>7)(o:(∀h:NR,pushCells h sc.MP=h.Ni {OM:=.MM "cell",NH:=.N8 ε})>>>7)(b:(sc.RR=.RM)>>>4)(a:(∀y∈sc.MP,y.2=.local->sc.MP.ρ y.1<*.local)>>>3)(d:(∀y∈sc.MP,y.2=.N8->y.1=x)>>>3)(c:((sc.MP.P' λy=>y.2 != .N4||X.KK.NE.MP.ρ y.1==δ .N8)=ξ)>>>4)(p:((f.P' λy=>sc.MP.ρ y != δ .local)=ξ)>>>4)(t:(f.β=X.N.β)>>>4)(l:(((f.Td X.N).P' λy=>y.1==y.2||sc.MP.ρ y.1==ε)=ξ)>>>4)(B:(∀x,PV Qr X.KK x=pure x)>>>7):PE X (.QB Xl [(.Nz x px,Qr,Xi,(0))] sc Ng) (FG wi tt te):=by
 intro v s S H Q I h;rw[V8];refine Am (xx:=λ_ _ _=>NU) (WP:=λy=>y==x) (ns:=[x]) (gx:=λy _ vs=>vs=[y]) f F i E L (Ia i (.NT (LB w)) (.NI (Ug x))) b a (rk u o) (λy h e=>Ot.Om (d y h e)) (λy e=>by cases SR e;show(1,N5,w)) (NN.Om λy A=>by rw[NN.mp c y A];rfl) p t l B I h (λJ T r D M=>?_) λR O k _ P q=>Jf R O k P q;let⟨W,m,g⟩:=r D M;show(W,m,Ib g)
end
section
variable{X:Cx}{elt iter:Expr}{x y:Str}{px py pt pos:Pos}{kt:Nat}{sc:Scope}{wi:TI}{te:TE}
def ja(e:γ M')(p:X.T0=ξ)(i:(x::y::e).Nx)(o:PI X (.RP [.Nz x px,.Nz y py] kt pt) Qr wi)(q:∀(k:γ (M'×υ))(C:υ)(j:γ υ)(s:MH)(H:Hp),PE {oI X x sc k C j s H with N:=x::y::e} Xl te)(m:(sc.MP.ρ x<*.local)>>>4)(l:(sc.MP.ρ y<*.local)>>>4)(b:(sc.RR=.RM)>>>4)(a:(∀y∈sc.MP,y.2=.local->sc.MP.ρ y.1<*.local)>>>3)(d:(∀y∈sc.MP,y.2≠.N8)>>>3)(c:((sc.MP.P' λy=>y.2 != .N4||X.KK.NE.MP.ρ y.1==δ .N8||X.KK.NE.MP.ρ y.1==δ .N4)=ξ)>>>4)(g:((e.P' λy=>sc.MP.ρ y != δ .local)=ξ)>>>4)(h:(e.β=X.N.β)>>>4)(f:(((e.Td X.N).P' λy=>y.1==y.2||sc.MP.ρ y.1==ε)=ξ)>>>4)(n:(∀x,PV Qr X.KK x=pure x)>>>7):PE X (.QB Xl [(.RP [.Nz x px,.Nz y py] kt pt,Qr,[],(0))] sc Ng) (kC X.K wi te):=Jh e p i o (λk C j s H=>(BZ,q k C j s H)) m l b a d c g h f n
end
def J6{K:Nl}{J:It}{C:TT}{E:TE}{r:St}{Q:VK}(I:Φ->V->V->Prop)(o:υ->Φ->γ V->Hp->Prop)(hz:n≤Λ)(N:∀i d,a' H d->i<n->J.go i d)(M:∀i d x j,a' H d->i<n->J.X6 i d x j->∃p a b,x=.π p/\I i a b/\d p=ε/\j=MR d p (.No [a,b]))(L:∀d,a' H d->J.Sv n d)(h0:∀D,H D=ε->o D 0 [] (MR H D (.M5 [])))(O:∀(D:υ)(i:Φ)(a b:V)(ys:γ V)(H' j:Hp)(F:VK)(R2:Hp->Prop),H D=ε->i<n->I i a b->a' H H'->H' D<*.M5 ys->o D i ys H'->a' H' j->
   (∀y k,k D<*.M5 ys->a' H (MR k D (.M5 (ys++[y])))->o D (i+1) (ys++[y]) (MR k D (.M5 (ys++[y])))->F y k)->(∀h,a' H h->h D<*.M5 ys->o D (i+1) ys h->R2 h)->
   C (δ a::δ b::r) j λc h=>if c=ξ then E (δ a::δ b::r) h F else R2 h)(P:∀D ys H',H D=ε->a' H H'->H' D<*.M5 ys->o D n ys H'->Q (.π D) H'):∀D,H D=ε->∃W:Φ->Φ->γ V->Hp->Prop,
   (∃m,W 0 m [] (MR H D (.M5 [])))/\∀i m ys d,W i m ys d->d D=δ (.M5 ys)/\((J.Sv i d/\Q (.π D) d)\/(J.go i d/\ys.β<Λ/\∀x j,J.X6 i d x j->
    ∃p a b,x=.π p/\u0 K j p [a,b]/\C (δ a::δ b::r) j λS h=>if S=ξ then E (δ a::δ b::r) h λy k=>k D=δ (.M5 ys)/\∃q,q<m/\W (i+1) q (ys++[y]) (MR k D (.M5 (ys++[y])))else ∃q,q<m/\W (i+1) q ys h)):=by
 intro D s;refine(λi m ys d=>m=n-i/\i≤n/\ys.β≤i/\a' H d/\d D=δ (.M5 ys)/\o D i ys d,(n,!1,Nb _,!1,a'.MR s,j_,h0 D s),3);rintro i m ys d⟨rfl,R,u,g,l,hp⟩;refine(l,3);by_cases f:i<n
 .refine .NT (N i d g f,Nk u (Ψ f hz),λx j t=>?_);let⟨p,a,b,ζ,w,v,ζ⟩:=M i d x j g f t;show(p,a,b,1,u0.of j_,O D i a b ys d _ _ _ s f w g l hp (a'.MR v) (λy k B A z=>(B,n-(i+1),Pf _ _ f,1,f,by rw[w_];show QC u,A,j_,z)) (λh B A z=>(n-(i+1),Pf _ _ f,1,f,Φ.V4 u,B,A,z)))
 .let e:i=n:=Rc R (OQ f);subst e;show .NI (L d g,P D ys d s g l hp)
abbrev AI(f:υ)(M4:M')(Oz:QK)(Yt:Ro)(NE:RX)(OT:γ (M'×υ))(c:υ):HO:=.ext λh=>∃pm XX,h.ψ f<*Ru "<lambda>" M4 Oz Yt NE OT pm c XX
def jl{P:NC}{w:Ny}(x:h.ψ f<*Ru "<lambda>" M4 a g b d pm c j):Az P w H h f (AI f M4 a g b d c):=
 ((pm,j,x),(_,x),λ_ _ i k=>by let⟨p,v,e⟩:=i;show(p,v,k _ e))
abbrev zQ(X:Cx)(P0:υ)(OL:γ (Sn×M'))(M4:M')(Oz:QK)(Yt:Ro)(sc:RX):TE:=λ_ H Q=>A_ H P0 OL/\
 ∀(OT:γ (M'×υ))(f c:υ)(H1:Hp),(∀y a,OT.ρ y<*a->X.KK.Rj.ρ y<*a)->(∀y∈sc.MP,y.2=.N4->∃a,OT.ρ y.1<*a)->H f=ε->f≠c->Cu P0 H H1->A_ H1 P0 OL->
  H1 c<*pd c M4->H1 f<*AI f M4 Oz Yt sc OT c->Q (.π f) H1
def Hj{X:Cx}{d:QK}{g:Ro}{sc:RX}(C:X.KK.code=.π c)(hC:QD X.ς c P0)(hB:Dy X.ς X.mg)(Z:(Ng,M4,)∈OL)(M:∀q∈OL,q.1.SV=Ng.SV->q.1.VF=Ng.VF->q.2=M4)(hq:(X.KK.M4++"<lambda>"=M4)>>>4)(aU:(defaultsOf d X.KK=([],[],))>>>4)(ap:((sc.MP.P' λy=>y.2 != .N4||X.KK.NE.MP.ρ y.1==δ .N8)=ξ)>>>4):PE X (.QW d g sc Ng) (zQ X P0 OL M4 d g sc):=by
 intro v s σ H Q I h;let⟨⟨ps,U,ht,E⟩,h⟩:=h;let bd:∀y∈sc.MP,y.2=.N4->X.KK.Og y.1<*.N8:=λy hy e=>by
  let q:=NN.mp ap y hy;rw[e]at q;simpa[WC.Og]using q
 let⟨l,D,R,S⟩:=JH (KK:=X.KK) (sc:=sc) λy hy e=>I.ok.Tn y.1 (.NI (bd y hy e));let aA:s.ο.ψ P0<*ZL ps:=I.Oc P0 _ U;let T:P0<s⁻¹:=I.Oc.lt U;let P:s.ο.BuiltinsAt X.mg P0:=by
  let⟨bm,o,e1,e2,e3,e4,e5,e6,e7⟩:=hB.ex;refine(bm,o,e1,e2,e3,λz=>?_,(I.bs bm o e4).1,e5,e6,e7);let n:=(I.bs bm o e4).2;rw[z,U]at n;cases n
 let ag:s.ο.Ns LE X.mg:=I.VT.Wf.Oq I.bk;let a9:LE≠P0:=λz=>by
  let⟨o,es,ep,e,hd,_⟩:=ag;rw[z,aA]at e;cases e;cases hd
 let a3:=hC.Oq I.bk;refine Δ.W.kla_eval aU ?_;rw[hq];let a4:∀{f:υ}{s1:MH}{L:Hp},f' X v σ L s1->Q (.π f) L->EP X v σ Q (.π f) s1:=λ{f s1 L}I1 q=>(.π f,L,I1,1,q);let a5:∀{b:υ}{u:HO},H b<*u->b<s⁻¹:=λe=>I.Oc.lt e;rcases E _ Z with a8|⟨c0,aT,aV⟩
 .refine Δ.W.kla_makeFunction (mg:=X.mg) D I.ok.Wf ag C a3 aA ht a8 a9 P λi p h' tk a6 an aS aC a7=>?_;let bg:P0≠i:=M8 (Ψ T an);let x:s⁻¹<h'.Np.MV:=Nk an aS;let a2:P0≠h'.Np.MV:=M8 (P9 T x);let as:i≠h'.Np.MV:=M8 aS;generalize bf:h'.Np.MV=f at a2 as x⊢;let kp:∀b o,b≠P0->s.ο.ψ b<*o->(h'.Ni (Ru "<lambda>" M4 d g sc l ((X.mg "__name__").MI .ε) i p)).ψ b<*o:=λb o j e=>sy _ (a6 b o j e);let aM:(h'.Ni (Ru "<lambda>" M4 d g sc l ((X.mg "__name__").MI .ε) i p)).ψ f<*Ru "<lambda>" M4 d g sc l ((X.mg "__name__").MI .ε) i p:=by rw[<-bf];show MS _ ζ
  let aN:(h'.Ni (Ru "<lambda>" M4 d g sc l ((X.mg "__name__").MI .ε) i p)).N7 (.π i) M4:=by
   let⟨c2,oc,vs,t,e,e1,e2,e3⟩:=aC;show(c2,oc,vs,t,e,sy _ e1,e2,e3)
  let O:(h'.Ni (Ru "<lambda>" M4 d g sc l ((X.mg "__name__").MI .ε) i p)).ψ P0<*ZL (ps++#[Nw Ng.SV,Nw Ng.VF,.π i]):=sy _ a7;generalize h'.Ni (Ru "<lambda>" M4 d g sc l ((X.mg "__name__").MI .ε) i p)=hh at kp aM aN O⊢;generalize ab:ps++#[Nw Ng.SV,Nw Ng.VF,.π i]=WO at O;let aB:∀{b:υ},b<s⁻¹->b≠i/\b≠f:=λj=>(M8 (Ψ j an),M8 (P9 j x));let J:∀{b:υ},b<s⁻¹->b≠P0->MR (MR (MR H P0 (.Wv WO)) i (pd i M4)) f (AI f M4 d g sc l i) b=H b:=λj P=>by
   rw[a_ (aB j).2,a_ (aB j).1,a_ P]
  let Y:∀{b:υ},b≠P0->b≠i->b≠f->MR (MR (MR H P0 (.Wv WO)) i (pd i M4)) f (AI f M4 d g sc l i) b=H b:=λh1 h2 h3=>by
   rw[a_ h3,a_ h2,a_ h1]
  let B:MR (MR (MR H P0 (.Wv WO)) i (pd i M4)) f (AI f M4 d g sc l i) P0<*.Wv WO:=by rw[a_ a2,a_ bg,j_]
  let A:MR (MR (MR H P0 (.Wv WO)) i (pd i M4)) f (AI f M4 d g sc l i) i<*pd i M4:=by rw[a_ as,j_]
  let F:MR (MR (MR H P0 (.Wv WO)) i (pd i M4)) f (AI f M4 d g sc l i) f<*AI f M4 d g sc l i:=j_;generalize MR (MR (MR H P0 (.Wv WO)) i (pd i M4)) f (AI f M4 d g sc l i)=L at J Y B A F;let nP:∀{b:υ},H b=ε->b≠P0:=λn z=>by rw[z,U]at n;cases n
  let r:∀{b:υ}{u:HO},H b<*u->b≠P0->L b<*u:=λe j=>by rw[J (a5 e) j];show e
  let m:∀{b:υ}{u:HO},H b<*u->(∀ps,u≠.Wv ps)->L b<*u:=λe hu=>r e λz=>by
   rw[z,U]at e;cases e;show hu _ ζ
  let un:Un X.fs [] H L s.ο hh:=by
   refine(λb o e n _ _=>kp b o (nP n) e,λb o e n _ _=>(o.Rw,kp b o (nP n) e),λb o e n _=>by rw[J (lt_size e) (nP n)];show n,λb o e _=>?_,λb xs e=>m e (λ_ z=>nomatch z),λb o u e=>m e (λ_ z=>nomatch z),λb qs e=>?_)
   .by_cases j:b=P0
    .rw [j];show(_,O)
    .exact (o,kp b o j e)
   .by_cases j:b=P0
    .rw [j,U]at e;cases e;rw[j];show(_,by rw[B,ab])
    .exact (#[],by rw[r e j];simp)
  let aH:Au X.Ξ X.w L hh:=λa o e=>by
   by_cases a0:a=f
   .rw [a0]at e⊢;rw[F]at e;cases e;show jl aM
   by_cases a1:a=i
   .rw [a1]at e⊢;rw[A]at e;cases e;show fJ aN
   by_cases az:a=P0
   .rw [az]at e⊢;rw[B]at e;cases e;show O
   rw[Y az a1 a0]at e;refine(I.Oc a o e).ST (λb u j q=>kp b u (λz=>?_) q) (λb q=>m q (λ_ z=>nomatch z)) λb xs q=>m q (λ_ z=>nomatch z);rcases j with j|j
   .exact az (j▸z)
   .rw [z,U]at j;cases j
  let I1:f' X v σ L {s with ο:=hh,MT:=tk}:=I.un un aH;refine a4 I1 (h l f i L R S (I.Oc.OF (Pn x)) (Ne.MO as) (λb o j e=>r e j) (WO,B,3,λq N=>?_) A F)
  .rw [<-ab,Nq.V3];show Lv _ _ _ _ _ _ ht
  .rw [<-ab,Nq.V3,fQ _ _ _ ht];rcases E q N with hn|⟨c1,h1,h2⟩
   .rw [hn,ω.none_or];by_cases k:q.1.SV=Ng.SV/\q.1.VF=Ng.VF
    .refine .NT (i,3,3)
     .change Qs q.1 [Nw Ng.SV,Nw Ng.VF,.π i]=_;simp[Qs,Nw,k.1,k.2]
     .rw [M q N k.1 k.2];show A
    .refine .NI ?_;change Qs q.1 [Nw Ng.SV,Nw Ng.VF,.π i]=_;simp only[Qs,Nw];rw[Ω];intro z;simp at z;show k (!6,!6)
   .rw [h1,ω.some_or];show .NT (c1,1,m h2 (λ_ z=>nomatch z))
 .refine Δ.W.kla_makeFunctionHit (mg:=X.mg) D I.ok.Wf ag C a3 aA ht aT P λp h' tk hk V6=>?_;let I1:f' X v σ (MR H h'.Np.MV (AI h'.Np.MV M4 d g sc l c0)) {s with ο:=h'.Ni (Ru "<lambda>" M4 d g sc l ((X.mg "__name__").MI .ε) c0 p),MT:=tk}:=
   I.Tw (λb u e=>sy _ (hk b u e)) V6 (jl (MS _ ζ))
  let ar:H h'.Np.MV=ε:=I.Oc.OF V6;let kH:∀{b:υ}{u:HO},H b<*u->MR H h'.Np.MV (AI h'.Np.MV M4 d g sc l c0) b<*u:=λe=>by rw[a_ (e_ e ar)];show e
  refine a4 I1 (h l _ c0 _ R S ar (Ne.MO (e_ aV ar)) (λb o _ e=>kH e) (ps,kH U,ht,λq N=>?_) (kH aV) j_);rcases E q N with hn|⟨c1,h1,h2⟩
  .exact .NI hn
  .exact .NT (c1,h1,kH h2)
def Hk{P:NC}{w:Ny}{K:Nl}{mg:M'->ω θ}{ς:NR}{N ps Z:γ M'}{M4:M'}{a:RX}{f:υ}{d:γ (M'×υ)}{UU:γ V}{k:Φ}{g:QK}{h:Ro}{pm B:θ}{l:υ}{F:Sp}{o:Rm}(ho:ς.ψ f<*o)(hd:o.NH=.QY (W8 "<lambda>" M4 g h a d pm (.π l) B))(U:ς.N7 (.π l) M4)(S:CW N ps Z a)(C:A2 ς d a Z UU)(PJ:∀vs H Q E,F vs H Q E->vs.β=ps.β)(j:∀(A:N0)(Fr:γ WC)(s:MH)(H:Hp)(vs:γ V)(Q:VK)(E:XK),ak k (A.RE (envX M4 a s⁻¹ f (.π l) d))->F vs H Q E->
   ∃t,PE (bA pu P w K mg ς N M4 a f (.π l) d A Fr s H E).nox h t/\t (Dx N vs UU) H Q):aa P w K mg ς pu (k+1) f (W8 "<lambda>" M4 g h a d pm (.π l) B) ps F:=by
 refine(PJ,λA Fr s H ab us vs Q E O z hb r m=>?_);let hl:=PJ _ _ _ _ m;let L:s.ο.X3:=z.VT.WZ.Oq λb o e=>(z.bs b o e).1;let i:∀y∈ps.Td us,a.MP.ρ y.1<*.local:=λX hy=>by let⟨n,v⟩:=X;show S.YJ n (Ur hy).1
 let x:s.ο.N7 (.π l) M4:=by
  let⟨c,Y,ws,t,e1,e2,e3,e4⟩:=U;show(c,Y,ws,t,e1,(z.bs c Y e2).1,e3,e4)
 refine Δ.W.kla_callFunE O.Wj (z.bs f o ho).1 hd S.co S.gen ζ x (hb _ _ _ _ ?_);refine VI (closure:=d) (around:=ε) S.nocell i (λh' R p=>?_) S.RR;let T:∀b o,s.ο.ψ b<*o->h'.ψ b<*o:=λb o e=>p.S3 b o (M8 (lt_size e)) (sy _ e);refine(L.Oq T,Δ.W.kla_codeExpr ?_);let⟨t,ht,hq⟩:=j A Fr s H vs Q E (O.RE _) m;let I:f' (bA pu P w K mg ς N M4 a f (.π l) d A Fr s H E) [] (Dx N vs UU) H {s with ο:=h',MT:=s.MT+(ps.Td us).β}:=Lu S C O.hd z hl r R p;refine NG (ht [] _ (Dx N vs UU) H _ (I.Vs _) hq) (λu s' M=>?_) λe s' M=>M.Nv;let⟨v,H',J,rv,q⟩:=M;let D:=J.Ss;show(v,H',D.os,D.Rz,D.ς,D.Oc,rv,q)
end L2
namespace RA
open L2
section
variable{X:Cx}{pins:List (Addr×Obj)}{σ:St}{H:Hp}{s:Shared}
end
def LC{K:Nl}{l:St}(E:∀R:γ V->Hp->Prop,R [.π c] H->t l H R)(I:o=.M5 xs\/o=.No xs)(j:H c<*o)(e:υ->Φ->γ V->Hp->Prop)(hz:xs.β≤Λ)(h0:∀D,H D=ε->e D 0 [] (L2.MR H D (.M5 [])))(F:∀(D:υ)(i:Φ)(x:V)(ys:γ V)(H' g:Hp)(k:VK)(R2:Hp->Prop),H D=ε->xs[i]?<*x->a' H H'->H' D<*.M5 ys->e D i ys H'->a' H' g->
   (∀y f,f D<*.M5 ys->a' H (L2.MR f D (.M5 (ys++[y])))->e D (i+1) (ys++[y]) (L2.MR f D (.M5 (ys++[y])))->k y f)->(∀d,a' H d->d D<*.M5 ys->e D (i+1) ys d->R2 d)->
   A (δ (.MQ (i:ML))::δ x::l) g λc d=>if c=ξ then B (δ (.MQ (i:ML))::δ x::l) d k else R2 d)(C:∀D ys H',H D=ε->a' H H'->H' D<*.M5 ys->e D xs.β ys H'->Q (.π D) H'):gj K (lT t) A B l H Q:=by
 let m:∀(D:υ)(i:Φ)(a b:V)(ys:γ V)(H' g:Hp)(k:VK)(R2:Hp->Prop),H D=ε->i<xs.β->(a=.MQ (i:ML)/\xs[i]?<*b)->a' H H'->H' D<*.M5 ys->e D i ys H'->a' H' g->
   (∀y f,f D<*.M5 ys->a' H (L2.MR f D (.M5 (ys++[y])))->e D (i+1) (ys++[y]) (L2.MR f D (.M5 (ys++[y])))->k y f)->(∀d,a' H d->d D<*.M5 ys->e D (i+1) ys d->R2 d)->
   A (δ a::δ b::l) g λc d=>if c=ξ then B (δ a::δ b::l) d k else R2 d:=by
  rintro D i a b ys H' g k R2 L _⟨rfl,J⟩T S P O N M;show F D i b ys H' g k R2 L J T S P O N M
 refine E _ (c,xs,1,3);rcases I with ζ|rfl
 .refine .NT (j,J6 (K:=K) (n:=xs.β) (λi a b=>a=.MQ (i:ML)/\xs[i]?<*b) e hz (λi r s h=>(xs,xs[i],s _ _ j,n_ h)) ?_ (λr s=>(xs,s _ _ j,1)) h0 m C);rintro i r x g s h⟨p,y,zs,q,z,w,v,u⟩;rw[s _ _ j]at q;cases q;show(p,_,y,w,(1,z),v,u)
 .refine .NI (j,J6 (K:=K) (n:=xs.β) (λi a b=>a=.MQ (i:ML)/\xs[i]?<*b) e hz (λi r s h=>(xs,xs[i],s _ _ j,n_ h)) ?_ (λr s=>(xs,s _ _ j,1)) h0 m C);rintro i r x g s h⟨p,y,zs,q,z,w,v,u⟩;rw[s _ _ j]at q;cases q;show(p,_,y,w,(1,z),v,u)
def LD{d1 d2:Sd}{xs zs:γ V}{j:St}(o:∀R:γ V->Hp->Prop,R [d1.vl,d2.vl] H->t j H R)(h1:d1.Tn H xs)(h2:d2.Tn H zs)(u:xs.β=zs.β)(d:υ->Φ->γ V->Hp->Prop)(hz:xs.β≤Λ)(h0:∀D,H D=ε->d D 0 [] (L2.MR H D (.M5 [])))(q:∀(D:υ)(i:Φ)(x z:V)(ys:γ V)(H' e:Hp)(f:VK),H D=ε->xs[i]?<*x->zs[i]?<*z->a' H H'->H' D<*.M5 ys->d D i ys H'->a' H' e->
   (∀y g,g D<*.M5 ys->a' H (L2.MR g D (.M5 (ys++[y])))->d D (i+1) (ys++[y]) (L2.MR g D (.M5 (ys++[y])))->f y g)->m (δ x::δ z::j) e f)(r:∀D ys H',H D=ε->a' H H'->H' D<*.M5 ys->d D xs.β ys H'->Q (.π D) H'):gj K (rZ t) Xt m j H Q:=by
 refine o _ (d1,d2,xs,zs,1,h1,h2,λk1 k2=>?_);let l:∀{c:Hp},a' H c->(d1.Sg k1).Tn c xs:=λs=>ju (bW h1) s;let k:∀{c:Hp},a' H c->(d2.Sg k2).Tn c zs:=λs=>ju (bW h2) s;refine J6 (K:=K) (J:=Gj (d1.Sg k1) (d2.Sg k2)) (n:=xs.β) (λi a b=>xs[i]?=δ a/\zs[i]?<*b) d hz (λi c s h=>(xs,zs,xs[i],zs[i]'(!6),l s,k s,n_ h,n_ _)) ?_ (λc s=>(xs,zs,l s,k s,u,1)) h0 ?_ r
 .rintro i c x e s h⟨p,W,bs,a,b,M,L,I,F,E,C,B⟩;obtain ζ:=Jb M (l s);obtain ζ:=Jb L (k s);show(p,a,b,E,(I,F),C,B)
 .rintro D i a b ys H' e f R2 A U⟨w,v⟩T S P O N X;show l_ (q D i a b ys H' e f A w v T S P O N)
def jQ{xs zs:γ V}{e:St}(j:∀R:γ V->Hp->Prop,R [.π c,.π d] H->t e H R)(o:H c<*.M5 xs)(n:H d<*.M5 zs)(m:xs.β=zs.β)(a:υ->Φ->γ V->Hp->Prop)(hz:xs.β≤Λ)(h0:∀D,H D=ε->a D 0 [] (L2.MR H D (.M5 [])))(k:∀(D:υ)(i:Φ)(x z:V)(ys:γ V)(H' g:Hp)(f:VK),H D=ε->xs[i]?<*x->zs[i]?<*z->a' H H'->H' D<*.M5 ys->a D i ys H'->a' H' g->
   (∀y b,b D<*.M5 ys->a' H (L2.MR b D (.M5 (ys++[y])))->a D (i+1) (ys++[y]) (L2.MR b D (.M5 (ys++[y])))->f y b)->h (δ x::δ z::e) g f)(l:∀D ys H',H D=ε->a' H H'->H' D<*.M5 ys->a D xs.β ys H'->Q (.π D) H'):kC K (rZ t) h e H Q:=LD (d1:=.ls c) (d2:=.ls d) j o n m a hz h0 k l
def LF(l:LN):(c_ l).P' bp=ξ:=by
 rw[c_,γ.all_map,NN];show λ_ _=>rfl
inductive sp_lotsafter(vs:List V)(H:Hp)(Q:VK)(_E:XK):Prop
 |mk (m:Addr) (v:Addr) (o:HO) (L:LN) (W:LL) (B:List Bool) (k:LN) (_:vs=[.ref m,.ref v]) (_:zl H m L W B) (_:g_ L W B) (_:(o=.lst (c_ k)\/o=.tup (c_ k))) (_:H v<*o) (_:k.length≤60) (_:(∀x∈k,x<W.length)) (_:∀(l:Addr)(ls:List Addr)(H':Hp),a' H H'->H' l<*.lst (ls.map V.ref)->ls.length=L.length->(∀(q:Nat)(a:Addr),ls[q]?<*a->H' a<*.lst (c_ (gA W k q)))->Q (.ref l) H')
end RA
namespace L2
open PySem.Spec PyProof.Rows
structure Ji(N:List Str)(x:Str)(fr:List Str)(sc:Scope):Prop where
 kind:sc.kind=.function
 co:sc.isCoroutine=false
 gen:sc.isGenerator=false
 nd:N.Nodup
 pre:N.take 1=[x]
 suf:N.drop (N.length-fr.length)=fr
 fit:1+fr.length≤N.length
 par:sc.names.lookup x<*.cell
 only:∀y∈sc.names,y.2=.cell->y.1=x
 lay:∀n acc,cellsFrom n sc.names acc=(x,n,)::acc
 push:∀h,pushCells h sc.names=h.push {cls:=.type "cell",data:=.cell none}
def FQ{M:Model}{A:N0}{E:θ->MH->Prop}{s:MH}{a:RX}{globals:υ}{code:θ}(S:Ji N x q a)(n:∀h' j,h'.Ns s⁻¹ (λ_=>ε)->h'.Tb (s⁻¹+1) (δ u)->(∀b o,s.ο.ψ b<*o->h'.ψ b<*o)->Q (newEnv a s⁻¹ globals ((x,s⁻¹+1,)::d) M4 QY code ε builtins) {s with ο:=h',MT:=j}):BT M A (VS a globals d [(x,u,)] M4 QY code ε builtins) Q E s:=by
 simp only[ω.isSome_none,VS,Uc,MX.US];refine d_ (VM (d_ (wpAny_layCells _ (λnm l r=>by cases z:l==QA.N8<;>simp[z]) _ _ _ _ ?_)));rw[S.lay,S.Ni];let i:(s.ο.Ni {OM:=.MM "frame",NH:=.Pv #[]}).Np.MV=s⁻¹+1:=Pb ..;let k1:∀b o,s.ο.ψ b<*o->((s.ο.Ni {OM:=.MM "frame",NH:=.Pv #[]}).Ni {OM:=.MM "cell",NH:=.N8 ε}).ψ b<*o:=λb o e=>sy _ (sy _ e);let g:((s.ο.Ni {OM:=.MM "frame",NH:=.Pv #[]}).Ni {OM:=.MM "cell",NH:=.N8 ε}).Tb (s⁻¹+1) ε:=(_,by rw[<-i];show MS _ ζ,1);let f:((s.ο.Ni {OM:=.MM "frame",NH:=.Pv #[]}).Ni {OM:=.MM "cell",NH:=.N8 ε}).Ns s⁻¹ (λ_=>ε):=(NR.Ns.Xw s.ο (.MM "frame")).Oq λb o e=>sy _ e;dsimp only;rw[i];generalize (s.ο.Ni {OM:=.MM "frame",NH:=.Pv #[]}).Ni {OM:=.MM "cell",NH:=.N8 ε}=p at k1 g f⊢;refine d_ ?_;rw[Qg];let lk:((x,s⁻¹+1,)::d).ρ x<*(s⁻¹+1):=by rw[OI];simp
 refine d_ (d_ (Zs (c:=s⁻¹+1) (v₀:=ε) S.RR S.YJ lk g λh' m h=>j' ?_));dsimp only;rw[SQ];refine j' (j' ?_);let k:∀{b:υ}{o:Rm},s.ο.ψ b<*o->b≠s⁻¹+1:=λe=>M8 (QF (lt_size e));show n h' _ (f.WW h (M8 (OA _))) m λb o e=>h.S3 b o (k e) (k1 b o e)
abbrev jN(CX:CXT)(P:NC)(w:Ny)(K:Nl)(mg:M'->ω θ)(ς:NR)(N:γ M')(x:M')(M4:M')(NE:RX)(f:υ)(cd:θ)(OT:γ (M'×υ))(A:N0)(Fr:γ WC)(s:MH)(H:Hp)(E:XK):Cx:=bA CX P w K mg ς N M4 NE f cd ((x,s⁻¹+1,)::OT) A Fr s H E
section
variable{CX:CXT}{P:Program}{w:World}{K:Frag}{mg:Str->Option Value}{base:Heap}{N fr:List Str}{x:Str}{qual:Str}{scope:Scope}{f:Addr}{cd:Value}{clos:List (Str×Addr)}{A:Around}{outer:List Env}{s:Shared}{H:Hp}{E:XK}{u:Value}{v:V}{fvs:List V}
def lO(S:Ji N x fr NE)(C:A2 ς OT NE fr UU)(M:A.PL=ε)(g:bx P w K mg ς A Fr s H)(r:ad v u)(J:h'.Ns s⁻¹ (λ_=>ε))(j:h'.Tb (s⁻¹+1) (δ u))(L:∀b o,s.ο.ψ b<*o->h'.ψ b<*o):f' (jN CX P w K mg ς N x M4 NE f cd OT A Fr s H E) [] (Dx N [v] UU) H {s with ο:=h',MT:=tk}:=by
 let l:∀b:υ,b∉(jN CX P w K mg ς N x M4 NE f cd OT A Fr s H E).ex:=λb z=>MJ (show b∈([]:γ υ)from z) (!1);let k:∀c v,ς.Tb c v->h'.Tb c v:=λc v O=>by let⟨o,B,M⟩:=O;show(o,L c o (g.bs c o B).1,M)
 let d:∀y c,OT.ρ y<*c->c<s⁻¹:=λy c h=>by
  let⟨v,o,B,_⟩:=C.N8 y c h;show lt_size (g.bs c o B).1
 let Q:=S.fit;let Y:=C.PJ;let t:((x,s⁻¹+1,)::OT).ρ x<*(s⁻¹+1):=by rw[OI];simp
 let lk:∀{y c},((x,s⁻¹+1,)::OT).ρ y<*c->(y=x/\c=s⁻¹+1)\/OT.ρ y<*c:=λ{y c}h=>by
  rw[OI]at h;by_cases z:y=x
  .subst z;simp at h;show .NI (1,h.MO)
  .rw [show(y==x)=η by simpa using z]at h;show .NT h
 let D:∀{y c},OT.ρ y<*c->∃c',((x,s⁻¹+1,)::OT).ρ y<*c':=λ{y c}h=>by
  rw[OI];cases(y==x)with
  |ξ=>show(_,ζ)
  |η=>show(c,h)
 refine((g.VT,S.RR,5,LT _,λy z c h1 h2=>?_,λy m=>?_,λy c h=>MJ (show η=ξ from h) MX.M9,λ_=>M,N0.Yr g.QZ,.NT (1,1),λb z=>MJ z (l b),g.bs,g.bsz,λb _ _=>l b,λb z=>MJ z (l b),g.VY,g.frf),
  rfl,g.Rz,Un.SW L,(_,J,λi y R h1 h2 h3=>?_),λy c h=>?_,g.Oc.OF (LT _),λy c h=>?_,λp hp=>MJ (show p∈([]:γ (υ×Rm))from hp) (!1),g.Oc.SW L,3)
 .rcases lk h1 with⟨a1,a2⟩|a<;>rcases lk h2 with⟨b1,b2⟩|b
  .rw [a1,b1]
  .let q:=d _ _ b;rw[a2]at q;show MJ q (Φ.not_lt_of_le (SD _))
  .let q:=d _ _ a;rw[b2]at q;show MJ q (Φ.not_lt_of_le (SD _))
  .exact C.QG y z c a b
 .let m:NE.MP.ρ y<*.N8\/NE.MP.ρ y<*.N4:=m;rcases m with m|m
  .obtain ζ:y=x:=S.only _ (Δ.OV m) ζ;show(_,t)
  .obtain ⟨c,hc⟩:=C.Tn _ (Δ.OV m) ζ;show D hc
 .let h1:N[i]?<*y:=h1;let hi:i<N.β:=(q5 h1).1;unfold Dx at h2;by_cases X:i<1
  .obtain ζ:i=0:=by lia
   let e:v=R:=by simpa using h2
   subst e;let W:N[0]?<*x:=by
    let q:(N.OC 1)[0]?<*x:=by rw[S.pre];rfl
    rw[γ.Vx (!0)]at q;show q
   rw[W]at h1;cases h1;show(u,r,.NT (.NI S.YJ,_,t,j))
  .rw [MW (by simp;lia)]at h2;rw[ol,γ.W7]at h2;by_cases n:i-1<N.β-1-UU.β
   .rw [MY (by simpa using n),γ.Tx,Id n]at h2;cases h2
   .rw [MW (by simpa using n),PF,tS]at h2;let ej:i-1-(N.β-1-UU.β)=i-(N.β-fr.β):=by lia
    rw[ej]at h2;cases e:UU[i-(N.β-fr.β)]? with
    |ε=>rw[e]at h2;cases h2
    |δ a=>
     rw[e]at h2;cases h2;let Z:fr[i-(N.β-fr.β)]?<*y:=by
      let q:(N.Pu (N.β-fr.β))[i-(N.β-fr.β)]?<*y:=by
       rw[γ.V7,show N.β-fr.β+(i-(N.β-fr.β))=i by omega];show h1
      rw[S.suf]at q;show q
     let⟨k1,c,T,k2,k3,U⟩:=C.Zu _ _ _ Z e;let I:y≠x:=λz=>by rw[z,S.YJ]at k1;cases k1
     let F:((x,s⁻¹+1,)::OT).ρ y<*c:=by rw[OI,show(y==x)=η by simpa using I];show k2
     show(T,U,.NT (.NT k1,c,F,k c _ k3))
 .rcases lk h with⟨_,z⟩|z
  .rw [z];show(_,j)
  .obtain ⟨v,q⟩:=C.N8 y c z;show(v,k c v q)
 .rcases lk h with⟨_,z⟩|z
  .rw [z];show g.Oc.OF (SD _)
  .obtain ⟨v,o,B,_⟩:=C.N8 y c z;show(g.bs c o B).2
 .unfold Dx;change _=N.β;simp only[w_,ol,PF,γ.W7];omega
def GJ(ho:ς.ψ f<*o)(hd:o.NH=.QY (Δ.W.fnX OD M4 d g NE OT .ε .ε Pi pm ε (.π j) O))(M:ς.N7 (.π j) M4)(S:Ji N x fr NE)(C:A2 ς OT NE fr UU)(PJ:∀vs H Q E,R vs H Q E->vs.β=[x].β)(i:∀(A:N0)(Fr:γ WC)(s:MH)(H:Hp)(v:V)(Q:VK)(E:XK),ak k (A.RE (envX M4 NE s⁻¹ f (.π j) ((x,s⁻¹+1,)::OT)))->R [v] H Q E->
   ∃t,BA (jN pu P w K mg ς N x M4 NE f (.π j) OT A Fr s H E).nox g t/\t {nx:=λ_ H'=>Q .Rt H',rt:=Q} (Dx N [v] UU) H):aa P w K mg ς pu (k+1) f (Δ.W.fnX OD M4 d g NE OT .ε .ε Pi pm ε (.π j) O) [x] R:=by
 refine(PJ,λA Fr s H U us vs Q E F z hb r m=>?_);let hl:=PJ _ _ _ _ m;obtain⟨v,ζ⟩:∃v,vs=[v]:=by
  match vs,hl with
  |[v],_=>show(v,1)
 let⟨u,ζ,Y⟩:=Do r;let D:s.ο.X3:=z.VT.WZ.Oq λb o e=>(z.bs b o e).1;let p:s.ο.N7 (.π j) M4:=by
  let⟨c,T,ws,t,e1,e2,e3,e4⟩:=M;show(c,T,ws,t,e1,(z.bs c T e2).1,e3,e4)
 refine Sk F.Wj (z.bs f o ho).1 hd S.co S.gen ζ p (hb _ _ _ _ ?_);refine FQ S λh' X L h n=>?_;refine(D.Oq n,Wk ?_);let⟨t,Z,hq⟩:=i A Fr s H v Q E (F.RE _) m;let I:f' (jN pu P w K mg ς N x M4 NE f (.π j) OT A Fr s H E) [] (Dx N [v] UU) H {s with ο:=h',MT:=X}:=lO S C F.hd z Y L h n;refine NG (Z.nox [] _ (Dx N [v] UU) H _ I hq) (λfl s' l=>?_) λe s' l=>l;let y:∀{a:St}{H':Hp}{v:V}{u:θ},f' (jN pu P w K mg ς N x M4 NE f (.π j) OT A Fr s H E) [] a H' s'->ad v u->Q v H'->CE Fr P w H s Q u s':=
  λ{a H' v u}J B q=>(v,H',J.os,J.Rz,J.ς,J.Oc,B,q)
 cases fl with
 |UT u=>
  let⟨v,a,H',J,B,q⟩:=l;show y J B q
 |next=>
  let⟨a,H',J,q⟩:=l;show y (v:=V.Rt) (u:=θ.ε) J ζ q
 |Yg=>
  let⟨_,_,_,q⟩:=l;show NU.Nv q
 |T_=>
  let⟨_,_,_,q⟩:=l;show NU.Nv q
end
instance vBM:γ θ:=[.MM "ValueError",.MM "Exception",.MM "BaseException",.MM "object"]
instance Ab(C:υ)(dd:ω υ)(a0:θ):Rm:={OM:=.π C,Pv:=dd,NH:=.N_ #[a0,.ε,.ε,.ε,.Pe η,.ε]}
section
variable{P:Program}{w:World}{A:Around}{E:Value->Shared->Prop}{h:Heap}{g:Array GenState}{d:Drawn}{t:Nat}{os:OsState}
variable{nm q:Str}{C N:Addr}{bs bm:List Value}{hdct:Bool}{sn:List Str}{sub:List Value}{ab:Bool}{col:Option Bool}{dd:Option Addr}{k0 k1 k2 k3 k5:Option Value}
def sC(i:Zj h vBM bm)(f:h.ψ C<*Re nm q C N bs bm UQ sn Rp ab VF dd k0 k1 k2 k3 k5 "ValueError.__new__")(p:h.Ns N mN)(s:mN "__init__"<*.π fI)(D:h.ψ fI<*n)(B:n.OM=.MM "function")(u:us.β≤Λ)(y:∀h' e,h.Np.MV≤e->NR.Y' h h' e (.π C) us->BT (Cl P w) A (Ql (.π fI) (.π e::us)) (λr s'=>r=.ε/\Q (.done (.UT (.π e))) s') E (h',g,d,t,os)):BT (Cl P w) A (Builtin.«type.__call__» (.π C::us,[])) Q E (h,g,d,t,os):=by
 let a:=RC;let l:vBM.M7 (.MM "ValueError")=ξ:=ζ;repeat (first|with_reducible refine Qb f ?_|with_reducible refine wpAny_madeBy_exc f ?_|wp_step)
 refine codeAny_call_builtin_code (Xr.Yl _ a.Yy) (wpAny_check_new_subU a l i f ?_);refine codeAny_exc_new_subU a l a i f ?_ u;change BT _ _ _ _ _ _;let c:∀b o,h.ψ b<*o->((h.Ni {OM:=.MM "tuple",NH:=.Sx us.χ}).Ni (Ab C ε (.π h.Np.MV))).ψ b<*o:=λb o z=>sy _ (sy _ z);let c1:=c _ _ f;let F:=c _ _ D;let n1:((h.Ni {OM:=.MM "tuple",NH:=.Sx us.χ}).Ni (Ab C ε (.π h.Np.MV))).Ns N mN:=let⟨o,H,I,z,r⟩:=p;(o,H,I,c _ _ z,r);let k:((h.Ni {OM:=.MM "tuple",NH:=.Sx us.χ}).Ni (Ab C ε (.π h.Np.MV))).ψ (h.Np.MV+1)<*Ab C ε (.π h.Np.MV):=by heap_get
 let j:(θ.π C::bm).M7 (.π C)=ξ:=by simp
 let m:=i.Oq (h':=(h.Ni {OM:=.MM "tuple",NH:=.Sx us.χ}).Ni (Ab C ε (.π h.Np.MV))) c;unfold YQ;repeat (first|with_reducible refine Qb k ?_|(with_reducible refine Vr c1 ?_;rw[j])|wp_step)
 change BT _ _ (YB (.π C) _) _ _ _;refine wpAny_typeLookup_tail c1 n1 m a.mroIs a.init.ρ ?_;rw[s];refine NQ (d_ ?_);unfold bindSpecial;refine d_ (WR (T:="function") (_,F,B) ?_);rw[Id (!0)];refine j' (d_ (NG (y _ (h.Np.MV+1) (SD _) (c,NR.U' (SD _),h.Np.MV,k,NR.U' (LT _),3)) (λr s' v=>?_) λ_ _ z=>z))
 .exact sy _ (NR.get?_push_at ζ ζ)
 .obtain ⟨rfl,x⟩:=v
  wp_walk
  show x
def jE(c:Zj h vBM bm)(a:h.ψ C<*Re nm q C N bs bm UQ sn Rp ab VF dd k0 k1 k2 k3 k5 "ValueError.__new__")(i:h.Ns N mN)(k:mN "__init__"<*.π fI)(o:h.ψ fI<*f)(n:f.OM=.MM "function")(l:us.β≤Λ)(m:∀h' e,h.Np.MV≤e->NR.Y' h h' e (.π C) us->BT (Cl P w) (A.XO (.Nf "type.__call__" (.π C::us,[]))) (Ql (.π fI) (.π e::us)) (λr s'=>r=.ε/\Q (.π e) s') E (h',g,d,t,os)):BT (Cl P w) A (Ql (.π C) us) Q E (h,g,d,t,os):=by
 let s:=tc_lookup;let p:=tc_bind (.π C);let b:((h,g,d,t,os):MH).Sa (.π C) "type":=(_,a,1);refine QM (Xn ?_);change BT _ _ (callAny (.π C) _) _ _ _;repeat (any_goals (first|assumption|with_reducible refine Qb a ?_|wp_step))
 refine(1,3);refine codeAny_call_builtin_at (Xr.Yl _ (!3)) entry_typeCall (wpAny_check_type_call_sub a (sC c a i k o n l λh' e j mk=>?_));show m h' e j mk
def pJ(f:Zj h vBM bm)(l:h.ψ C<*Re nm q C N bs bm UQ sn Rp ab VF dd k0 k1 k2 k3 k5 "ValueError.__new__")(a:h.ψ e<*Ab C ε (.π m))(k:∀h',(∀b o,b≠e->h.ψ b<*o->h'.ψ b<*o)->h'.ψ e<*Ab C ε (.π h.Np.MV)->Q .ε (h',g,d,t,os)):BT (Cl P w) A (Ql (.Nf "ValueError.__init__") [.π e,u]) Q E (h,g,d,t,os):=by
 let c:=RC;let i:e≠h.Np.MV:=M8 (lt_size a);refine QM (Ri c.init.plain c.initEntry (wpAny_check_init_subU c f l a ζ ?_))
 wp_walk
 refine k _ (λb o j z=>?_) ?_
 .rw [OW _ _ (Ne.MO j)];show sy _ z
 .rw [N1 _ (sy _ a) ζ];rfl
def kU(a:bm.M7 (.MM "BaseException")=ξ)(i:A.PL=ε)(k:BT M A x (λv b=>∃e d2 a0,v=.π e/\b.ο.ψ C=δ (Re nm q C N bs bm UQ sn Rp ab VF dd k0 k1 k2 k3 k5 "ValueError.__new__")/\b.ο.ψ e=δ (Ab C d2 a0)/\E (.π e) b) E s):BT M A (Yx KK (δ x) ε) Q E s:=by
 let c:(θ.π C::bm).M7 (.MM "BaseException")=ξ:=by rw[γ.V9,a,MX.or_true]
 unfold Yx;refine d_ (NG k (λv b h1=>?_) λ_ _ z=>z);let⟨e,d2,a0,ζ,f,l,j⟩:=h1;let⟨hp,g,d,m,os⟩:=b;repeat (first|with_reducible refine Qb l ?_|with_reducible refine Qb f ?_|(with_reducible refine Vr f ?_;rw[c])|wp_step)
 show wpAny_raiseNew_none i j
end
abbrev BV(K:Nl)(C f:υ):Prop:=(match K.ρ C with
 | δ ⟨.MM "type",_,.OM c,z⟩=>(match c.mro,z.ND with
  |.π D::r,[_,_,_,_,δ (.Nf m),_]=>D==C&&m=="ValueError.__new__"&&!c.hasDel&&Δ.W.tailIn K vBM r&&Δ.W.nsOkIn K c.ns&&Pm K c.ns "__init__"==δ (δ (.π f))
  | _,_=>η)
 | _=>η)=ξ
def uz{K:Nl}(X:K.In h)(G:h.Ns N m)(e:Pm K N n<*δ v):m n<*v:=by
 let⟨o,f,g,a,d,_,b⟩:=G;unfold Pm at e;split at e
 .rename_i q;let z:=X _ _ q;rw[a]at z;cases z;cases d;split at e
  .rename_i c;rw[<-b];unfold nsFind findBy;rw[<-Nq.find?_toList,c];injection e
  .split at e<;>cases e
 .cases e
def BV.Ua{K:Nl}(q:BV K C f)(X:K.In h):∃bm N nm k bs UQ sn Rp ab VF dd k0 k1 k2 k3 k5 mN,h.ψ C=δ (Re nm k C N bs bm UQ sn Rp ab VF dd k0 k1 k2 k3 k5 "ValueError.__new__")/\h.Ns N mN/\mN "__init__"=δ (.π f)/\Zj h vBM bm:=by
 unfold BV at q;split at q;case h_2=>cases q
 case h_1 p dd o j a=>
  split at q;case h_2=>cases q
  case h_1 D bm k0 k1 k2 k3 mk k5 n m=>
   let⟨q,e⟩:=Od.mp q;let⟨q,c⟩:=Od.mp q;let⟨q,i⟩:=Od.mp q;let⟨q,b⟩:=Od.mp q;let⟨g,d⟩:=Od.mp q;cases Ot.mp g;cases Ot.mp d;let⟨l⟩:=j;cases m;cases o;cases n;cases Q_ _▸b;let G:h.Ns _ _:=.of_isNs (Δ.W.isNs_of_in X c);show(bm,7,7,7,dd,k0,k1,k2,k3,k5,_,X _ _ a,G,uz X G (Ot.mp e),Δ.W.tail_of_in X i)
abbrev Hl:γ θ->MX
 |.π _::r=>Hl r
 |[.MM a,.MM b,.MM c,.MM d]=>a=="ValueError"&&b=="Exception"&&c=="BaseException"&&d=="object"
 |_=>η
def eK:∀{l:γ θ},Hl l=ξ->(∀f,refuseLoop f "__setattr__" l=pure ())/\l.M7 (.MM "object")=ξ/\l.SE=η
 |.π c::r,e=>by
  let⟨h1,h2,_⟩:=eK (l:=r) (by rw[Hl]at e;show e);show(λf=>(refuseLoop_ref f _ c r).ν (h1 f),by rw[γ.V9,h2,MX.or_true],1)
 |[.MM a,.MM b,.MM c,.MM d],e=>by
  simp only[Hl,Ou,Ot]at e;let⟨⟨⟨rfl,ζ⟩,ζ⟩,ζ⟩:=e;show(λf=>Δ.F.store_ValueError.passes f,!0,1)
def mX{Ξ:NC}{w:Ny}{A:N0}{K:Nl}(X:K.In s.ο)(I:Δ.W.InstAt s.ο x t C u)(hp:(Δ.W.clsIn K C).Qk (λi=>Hl i.mro)=ξ)(m:Xs K C OD<*ε)(h:∀b,BT (Cl Ξ w) A.S0 (Builtin.ObjectAttr.storeInOwnDict (.π x) (.π C) (.M_ OD d) OD v b) (λg s'=>match g with|.done f=>R (.ok f) s'|.again k=>k.Yy=ξ/\Qe (Cl Ξ w) A k R s') (λe s'=>R (.R9 e) s') s):Qe (Cl Ξ w) A (.Ql (.Nf "object.__setattr__") ([.π x,.M_ OD d,v],[])) R s:=by
 let⟨i,j,o⟩:=any_some hp;let⟨c,Tn,l⟩:=eK o;let Rp:Wn (Cl Ξ w) s.ο (YQ (.π x) (.MM "object")) ξ:=I.MM.X0 (Δ.W.Z' X (by unfold Δ.W.mroIn;rw[j,ω.bind_some,Ω (by rw[l];decide),Tn]));let⟨attr,q,n⟩:=ω.Uf.mp m;let r:Wn (Cl Ξ w) s.ο (Builtin.ObjectAttr.storeTaker? attr) ε:=by
  cases attr with
  |ε=>show .now
  |δ a=>
   let⟨b,p,e⟩:=BG n;cases b
   .exact (Δ.W.looks_takesIn X p).X0 .now
   .cases e
 refine Ri Um.UY.plain Um.entry (@Δ.W.check_slot (Cl Ξ w) _ _ s "object.__setattr__" "object" "__setattr__" (.π x) [.M_ OD d,v] [] _ Um.RR Um.split Rp (Um.args (.π x) (.M_ OD d) v) ?_);rw[Δ.W.osa_eq,refuse_eq];refine d_ (d_ (I.MM.here (d_ (((XS X j).X0 .now:Wn (Cl Ξ w) s.ο (mroOf (.π C)) i.mro).here ?_))));rw[c];show j' (d_ (I.MM.here (d_ ((Δ.W.Us X q).here (d_ (r.here (h _)))))))
structure j0(K:Frag)(C:Addr):Prop where
 sa:PySem.W.findIn K (.ref C) "__setattr__"<*some (.builtin "object.__setattr__")
 po:(PySem.W.clsIn K C).any (λcd=>Hl cd.mro)=true
 hd:PySem.W.hasDictIn K C=true
structure tL(K:Frag)(R:Addr):Prop where
 ga:PySem.W.specialIn K (.ref R) "__getattribute__"<*some (.builtin "type.__getattribute__")
 rd:PySem.W.readsIn K R (.type "type")=true
 fc:PySem.W.findCls K (.ref R) (.type "type") "__init__"<*.val (.builtin "ValueError.__init__")
section
variable{prog:Program}{w:World}{A:Around}{E:Value->Shared->Prop}{s:Shared}{K:Frag}{x C dx:Addr}{a0:Value}{name:Str}{v:Value}{mA:Str->Option Value}
def qr(X:K.In s.ο)(h:s.ο.ψ x<*Ab C ε a0)(c:j0 K C)(u:Xs K C OD<*ε)(H:∀h' d,s⁻¹≤d->h'.ψ x<*Ab C (δ d) a0->h'.Ns1 d (λy=>if y=OD then δ v else ε)->(∀b o,b≠x->s.ο.ψ b<*o->h'.ψ b<*o)->Q () {s with ο:=h',MT:=s.MT+2}):BT (Cl Ξ w) A (Xv (.π x) OD v) Q E s:=by
 let J:Δ.W.InstAt s.ο x (Ab C ε a0) C ε:=(h,5,trivial);refine set_plain X J c.sa (mX (s:={s with MT:=s.MT+1}) X J c.po u λb=>?_);let⟨I,D,k⟩:=any_some c.hd;refine d_ (j' (d_ (d_ (X_ h (d_ (Wn.here (s:={s with MT:=s.MT+1}) (XS X D) ?_))))));rw[k];let n:(s.ο.Ni {OM:=.MM "dict",NH:=.Pv #[]}).ψ x<*Ab C ε a0:=sy _ h;let f:x≠s⁻¹:=M8 (lt_size h);refine d_ (wpAny_alloc' (d_ (wpAny_update' n (j' (d_ ?_)))));let j:((s.ο.Ni {OM:=.MM "dict",NH:=.Pv #[]}).Oy x λo=>{o with Pv:=δ s⁻¹}).ψ s⁻¹<*{OM:=.MM "dict",NH:=.Pv #[]}:=
  (NR.get?_update_ne _ _ _ _ f.MO).ν (NR.get?_push_at ζ ζ)
 let i:((s.ο.Ni {OM:=.MM "dict",NH:=.Pv #[]}).Oy x λo=>{o with Pv:=δ s⁻¹}).Ns s⁻¹ (λ_=>ε):=(_,#[],_,j,1,λe B=>MJ B (!1),λ_=>rfl);refine j' (d_ (ZE (NR.Ns1.of_empty i) λh' g m=>?_));let l:=g.XY (WL.NX OD v WL.Op);let⟨t,_,_,r,q,p⟩:=l;let a:t.NH.pastItsLine=ε:=q▸W3 (IO p (by rw[OO];change 1≤_;lia));refine d_ (Ws r a ?_);refine j' (H _ _ (LT _) ?_ g λb o F z=>?_)
 .exact (m.2 x f).ν (N1 _ n ζ)
 .exact (m.2 b (M8 (lt_size z))).ν ((NR.get?_update_ne _ _ _ _ F).ν (sy _ z))
def qq(X:K.In s.ο)(i:s.ο.ψ x<*Ab C (δ dx) a0)(h:s.ο.Ns1 dx mA)(c:j0 K C)(n:Xs K C OD<*ε)(hw:Δ.WL mA ns)(V6:ns.β≤Λ)(q:∀h',h'.Ns1 dx (λy=>if y=OD then δ v else mA y)->Pd dx s.ο h'->Q () {s with ο:=h',MT:=s.MT+2}):BT (Cl Ξ w) A (Xv (.π x) OD v) Q E s:=by
 let⟨m,o,t⟩:=JE h;let J:Δ.W.InstAt s.ο x (Ab C (δ dx) a0) C (δ m):=(i,5,o);refine set_plain X J c.sa (mX (s:={s with MT:=s.MT+1}) X J c.po n λb=>?_);let⟨u,p,f⟩:=any_some c.hd;refine d_ (j' (d_ (d_ (X_ i (d_ (Wn.here (s:={s with MT:=s.MT+1}) (XS X p) ?_))))));rw[f];refine j' (a:=δ dx) (d_ (j' (d_ ?_)));refine ZE (s:={s with MT:=s.MT+1}) h λh' d e=>?_;let g:=d.XY (Δ.WL.NX OD v hw);let⟨r,_,_,l,k,j⟩:=g;refine d_ (Ws l (k▸W3 (IO j (by rw[NS];lia))) ?_);show j' (q _ d e)
end
abbrev t_(e C:υ)(dd:ω υ):HO:=.ext λh=>∃t0:υ,h.ψ e<*Ab C dd (.π t0)
abbrev Bb(dx:υ)(fs:γ (M'×V)):HO:=.ext λh=>∃mA,h.Ns1 dx mA/\(∀f,au (fs.ρ f) (mA f))/\Δ.WL mA (fs.NL (·.1))
abbrev BW(H:Hp)(e:υ):Hp:=λb=>if b=e then ε else H b
def Eh(h:b≠e):BW H e b=H b:=Ω h
def Jj:BW H e e=ε:=Id ζ
section
variable{X:Cx}{pins:List (Addr×Obj)}{σ:St}{H:Hp}{s:Shared}{a C dx:Addr}{fs:List (Str×V)}{f:Str}{y:V}{u:Value}{A:Around}{E:Value->Shared->Prop}
def yA(N:X.ex=[])(I:f' X MZ σ H s)(e:H a<*t_ a C ε)(c:j0 X.K C)(n:Af X.K C f)(L:ad y u)(P:∀d s',H d=ε->d≠a->f' X MZ σ (MR (MR H a (t_ a C (δ d))) d (Bb d [(f,y,)])) s'->Q () s'):BT (Cl X.Ξ X.w) A (Xv (.π a) f u) Q E s:=by
 let⟨⟨a0,R⟩,_,_⟩:=I.Oc a _ e;refine qr I.TX R c n.taker λh' d D i ns j=>?_;let F:s.ο.ψ d=ε:=NR.U' D;let l:H d=ε:=I.Oc.OF D;let J:d≠a:=(e_ e l).MO;let S:=I.WQ (x:=a) (e:=a) (o:=t_ a C (δ d)) (h':=h') (t':=s.MT+2) (by rw[e];show Ol.Ob) (.NI ζ) j (_,i) ((a0,i),(_,i),λh1 h2 B k=>by let⟨z,q⟩:=B;show(z,k _ q));let h:∀b o,s.ο.ψ b<*o->b≠d:=λb o q z=>by rw[z,F]at q;cases q
 refine P d _ l J (S.track (e:=d) (by rw[a_ J];show l) (AH I N F) ?_ (λx c q=>?_) (λp hp=>?_) (_,ns,λg=>?_,λg O=>?_) ?_ ?_)
 .obtain ⟨m,⟨o,T,U,z,_⟩,_⟩:=I.Xx;show h _ o z
 .obtain ⟨v,o,r,_⟩:=I.N8 x c q;show h c o r
 .exact h p.1 p.2 (I.Yz p hp).1
 .change au (γ.ρ g [(f,y,)]) (if g=f then δ u else ε);by_cases q:g=f
  .let t:(g==f)=ξ:=Ot.Om q;rw[Id q];simp only[γ.ρ,t];show L
  .let t:(g==f)=η:=NB.Om q;rw[Ω q];simp only[γ.ρ,t];show Ol.Ob
 .by_cases q:g=f
  .rw [q];show R8.Om ζ
  .exact MJ (show(if g=f then δ u else ε)=ε by rw[Ω q]) O
 .obtain ⟨o,_,_,z,_⟩:=ns;show(o,z)
 .exact λh1 h2⟨M,z,r⟩k=>(M,z.at k,r)
def yz(I:f' X MZ σ H s)(e:H a<*t_ a C (δ dx))(l:H dx<*Bb dx fs)(c:j0 X.K C)(n:Af X.K C f)(J:fs.β<1000)(p:ad y u)(D:∀s',f' X MZ σ (MR H dx (Bb dx (af f y fs))) s'->Q () s'):BT (Cl X.Ξ X.w) A (Xv (.π a) f u) Q E s:=by
 let⟨⟨a0,F⟩,_,_⟩:=I.Oc a _ e;let⟨⟨d,t,r,i⟩,_,_⟩:=I.Oc dx _ l;let hz:(fs.NL (·.1)).β≤Λ:=by rw[ol,OO];omega
 refine qq I.TX F t c n.taker i hz λh' ns m=>D _ ?_;let j:∃o,h'.ψ dx<*o:=let⟨o,_,_,z,_⟩:=ns;(o,z);refine I.WQ (x:=dx) (e:=dx) (by rw[l];show Ol.Ob) (.NI ζ) (λb q B z=>(m.2 b B).ν z) j ((_,ns,λg=>?_,λg v=>?_),j,λh1 h2 h k=>by let⟨d,z,r⟩:=h;show(d,z.at k,r))
 .change au ((af f y fs).ρ g) (if g=f then δ u else d g);rw[Cn];by_cases q:g=f
  .rw [Id q,Id q];show p
  .rw [Ω q,Ω q];show r g
 .by_cases q:g=f
  .rw [q];show(HI f y fs).1
  .refine (HI f y fs).2 g (i g λz=>v ?_);change (if g=f then δ u else d g)=ε;rw[Ω q];show z
end
inductive wM(K:Frag)(f:Str)(D:Ends)(σ:St)(y:V)(x:V)(H2:Hp):Prop
 | mk (a C:_) (_:x=.ref a) (_:j0 K C) (_:Af K C f) (_:((H2 a=some (t_ a C none)/\∀d,H2 d=none->d≠a->D.nx σ (upd (upd H2 a (t_ a C (some d))) d (Bb d [(f,y,)]))) \/
  ∃dx fs,H2 a=some (t_ a C (some dx))/\H2 dx=some (Bb dx fs)/\fs.length<1000/\D.nx σ (upd H2 dx (Bb dx (af f y fs)))))
abbrev yI(K:Nl)(ta tv:TE)(f:M'):TS:=λD σ H=>tv σ H λy H1=>ta σ H1 (wM K f D σ y)
def gw(E:X.ex=[])(M:PE X o ta)(F:PE X b tv)(J:Su b (δ (.Ox o f i)) Ng.SV X.KK=pure η):PS X (.WM [.Ox o f i] b Ng) (yI X.K ta tv f):=by
 intro g s j H D I h;refine Wq (ri (F g s j H _ I h) λu z⟨y,R,Q,t,q⟩=>ri (M g z j R _ Q q) λB s2 k=>?_) J;let⟨x,S,v,A,a,C,N,c,n,r⟩:=k;subst N;obtain ζ:B=θ.π a:=A;rcases r with⟨e,m⟩|⟨dx,fs,e,O,l,m⟩
 .exact yA E v e c n t λd w L P p=>(j,_,p,m d L P)
 .exact yz v e O c n l t λw p=>(j,_,p,m)
inductive tU(K:Frag)(Q:VK)(vs:List V)(H1:Hp):Prop
 |mk (e C f u:_) (_:vs=[.ref e,u]) (_:H1 e<*t_ e C none) (_:BV K C f) (_:Q .non H1)
abbrev wD(K:Nl)(t:TA):TE:=λσ H Q=>t σ H (tU K Q)
def qP{p a Ng:Sn}{pl:Y_ MX}(B:tL X.K R)(Z:X.mg x<*.π R)(ha:PA X (e::c) t)(hg:Gl X x>>>4)(hd:((x==("__debug__":M'))=η)>>>0)(he:(Θ (e::c) X.KK=(η,OJ e X.KK,)::Θ c X.KK)>>>4)(v:((OE Ng (Θ c X.KK)).Qk (·.1)=η)>>>4)(Y:(OJ (.QE (.Ox (.Nz x p) "__init__" a) (e::c) [] Ng) X.KK=(do
   let F <-OJ (.Nz x p) X.KK
   standAt a.atName
   let(f,first,) <-holding [F] (W9 F "__init__" pl)
   YY Ng f first (OE Ng (Θ (e::c) X.KK)) (Ve Ng (TH [] X.KK))))>>>4):PE X (.QE (.Ox (.Nz x p) "__init__" a) (e::c) [] Ng) (wD X.K t):=by
 intro l s M H Q I h;refine Δ.W.Yn (pl:=pl) (v_ I hg Z ?_ hd) Y;refine Δ.W.method_cls I.TX B.ga (Δ.W.cls_value I.TX B.rd B.fc ζ ?_);let J:=ha Ng l {s with MT:=s.MT+1} M H _ (I.Sg _) h;rw[he]at J⊢;let n:(OE Ng ((η,OJ e X.KK,)::Θ c X.KK)).Qk (·.1)=η:=by
  change (η||(OE Ng (Θ c X.KK)).Qk (·.1))=η;rw[v];rfl
 refine R_.Ue n (R_.SY (ri J λus s2 w=>?_));let⟨vs,E,D,r,j,C,f,u,ev,A,U,q⟩:=w;subst ev;let⟨O,u2,ζ,T,ru⟩:=b8 r;obtain ζ:O=θ.π j:=T;let⟨⟨a0,eO⟩,_,_⟩:=D.Oc j _ A;let⟨bm,N,nm,qn,bs,UQ,sn,Rp,ab,VF,dd,k0,k1,k2,k3,k5,mN,cO,nO,iO,P⟩:=U.Ua D.TX;let⟨hh,g,d,S,os⟩:=s2;refine pJ P cO eO λh' m i=>(.Rt,E,3,1,q);let L:=D.WQ (x:=j) (e:=j) (o:=t_ j C ε) (h':=h') (t':=S) (by rw[A];show Ol.Ob) (.NI ζ) m (_,i) ((_,i),(_,i),λh1 h2 y k=>by let⟨z,q⟩:=y;show(z,k _ q));let eu:MR E j (t_ j C ε)=E:=by
  funext b;unfold MR;split
  .rename_i z;rw[z,A]
  .rfl
 rw[eu]at L;show L
section
variable{X:Cx}{CX:CXT}{k:Nat}{f C:Addr}{fd:FuncData}{ps:List Str}{sp:Sp}{E E':XK}{x:Str}{np cpos pos:Pos}{e0:Expr}{es:List Expr}{t:TA}
def ud{j:St}{Q:VK}(T:X.ex=[])(M:BV X.K C f)(fn:isFn X.K (.π f)=ξ)(F:aa X.Ξ X.w X.K X.mg X.ς CX k f fd ps sp)(W:ak (k+1) X.A)(Z:Ao X.K fd ps [])(hp:Et CX X E')(I:f' X b j H s)(r:ae vs us)(U:us.β≤Λ)(h:∀e,H e=ε->sp (.π e::vs) (MR H e (t_ e C ε)) (λv H2=>v=.Rt/\Q (.π e) H2) E'):BT (Cl X.Ξ X.w) X.A (Ql (.π C) us) (λu s'=>∃e H',u=.π e/\X.RJ.ο.ψ e=ε/\f' X b j H' s'/\Q (.π e) H') X.xe s:=by
 let⟨bm,N,nm,qn,bs,UQ,sn,Rp,ab,VF,dd,k0,k1,k2,k3,k5,mN,cO,R,S,L⟩:=M.Ua I.TX;obtain⟨n,fO,fc⟩:∃n,s.ο.ψ f=δ n/\n.OM=.MM "function":=by
  let⟨o,q,e⟩:=BG (show ω.NL (λx:Rm=>x.OM) (γ.ρ f X.K)<*.MM "function"from Ot.mp fn);show(o,I.TX _ _ q,e)
 let⟨hh,g,d,m,os⟩:=s;refine jE L cO R S fO fc U λh' e es mk=>?_;let⟨t0,J,tn,tO⟩:=mk.QO;let l:f' X b j (MR H e (t_ e C ε)) (h',g,d,m,os):=I.Tw (a:=e) (o:=t_ e C ε) (h':=h') (t':=m) mk.Oq es ((_,J),(_,J),λh1 h2 p k=>by let⟨z,q⟩:=p;show(z,k _ q));let D:=h e (I.Oc.OF es);let B:ae (V.π e::vs) (θ.π e::us):=.NX ζ r;let Y:(θ.π e::us).β=ps.β:=by
  let z:=B.β;rw[F.PJ _ _ _ _ D]at z;show z.MO
 let i:=Z (h',g,d,m,os) (θ.π e::us) l.TX;rw[Oa]at i;refine QM (PY (F.PD _ X.NA _ _ (θ.π e::us,[]) (θ.π e::us) _ _ E' (W.make C us []) (l.Ze.make C us []) (i Y) B D) λr s' c=>?_);cases r with
 |R9 y=>show hp b j _ _ y s' l c
 |ok fl=>
  cases fl with
  |UT u=>
   let⟨v,H',I3,O,y,P⟩:=l.XZ c;subst y;show(O,e,H',1,AH I T mk.Xw,I3,P)
  |next=>show NU.Nv c
  |Yg=>show NU.Nv c
  |T_=>show NU.Nv c
abbrev QX(C:υ)(E:XK):VK:=λv H=>match v with
 |.π e=>∃d,H e=δ (t_ e C d)/\E (.π C) d (BW H e)
 |_=>NU
abbrev nN(X:Cx)(E:XK):Prop:=∀(MZ:γ (υ×Rm))(σ:St)(H:Hp)(s:MH)(e C:υ)(d:ω υ),f' X MZ σ H s->H e<*t_ e C d->X.RJ.ο.ψ e=ε->E (.π C) d (BW H e)->X.xe (.π e) s
def uM(Z:X.ex=[])(Rv:X.NA=X.KK::X.Fr)(M:X.KK.RN<*X.KK.OZ){R:St}(I:f' X m R H s)(j:H e<*t_ e C d)(d0:X.RJ.ο.ψ e=ε)(q:E (.π C) d (BW H e)):BT (Cl X.Ξ X.w) X.A (SB X.KK (.π e)) (λ_ l=>Al X.Ξ X.w X.Fr X.XJ X.RJ E (.π e) l) (λe' l=>Al X.Ξ X.w X.Fr X.XJ X.RJ E e' l) s:=by
 let L:s.ο.Ow X.ς (X.KK::X.Fr):=Rv▸I.NA;let⟨⟨a0,eO⟩,_,_⟩:=I.Oc e _ j;let Rp:∀b∈s_ (X.KK::X.Fr),b∈e::s_ X.NA:=λb a=>M1 _ (Rv▸a);let r:∀b u,H b<*u->b≠e->BW H e b<*u:=λb u z n=>(Eh n).ν z;refine AR (Bi _ _) (wpAny_leaving_firstW (ς:=Qo s.ο (e::s_ X.NA)) (a0:=.π a0) (by rw[<-Rv];show I.ok.QZ) (FJ L Rp) M eO (λb o z=>SH _ z) (O' _ N5) ζ ζ ζ λh' hL dk=>?_);let⟨k1,⟨_,_,k2⟩,k3,U⟩:=hL;let fr:∀b∈s_ X.NA,∃o,s.ο.ψ b=δ o/\∀vs,o.NH≠.N_ vs:=Gf I.NA;let g:∀b o,s.ο.ψ b<*o->b≠e->b∉s_ X.NA->h'.ψ b<*o:=λb o z n a=>k1 b o (Pp _ z λp=>(MN.mp p).Nv n a);let⟨T,Y,D⟩:=gZ k3;let P:∀b,H b=ε->b≠e:=λb z y=>by rw[y,j]at z;cases z
 let J:Un (s_ X.NA) [] H (BW H e) s.ο h':=by
  refine(λb o z n a _=>g b o z (P b n) a,λb o z n a _=>?_,λb o z n _=>by rw[Eh (P b n)];show n,λb o z _=>?_,λb xs z=>r b _ z (qN z j (by intro y;cases y)),λb o u z=>r b _ z (qN z j (by intro y;cases y)),λb ps z=>(#[],3))
  .obtain ⟨o',h,N⟩:=fr b a;rw[z]at h;cases h;show U b _ z N
  .by_cases a:b∈s_ X.NA
   .obtain ⟨o',h,N⟩:=fr b a;rw[z]at h;cases h;let⟨sl,F⟩:=U b _ z N;show(_,F)
   .by_cases he:b=e
    .subst he;let⟨oe,_,_,_,F,_⟩:=D;show(oe,F)
    .exact (o,g b o z he a)
  .rw [Nq.Zh];show r b _ z (qN z j (by intro y;cases y))
 let i:Au X.Ξ X.w (BW H e) h':=λb u z=>by
  let a:b≠e:=λy=>by rw[y,Jj]at z;cases z
  rw[Eh a]at z;refine(I.Oc b u z).ST (λc v B y=>?_) (λc y=>r c _ y (qN y j (!5))) λc xs y=>r c _ y (qN y j (!5));let hH:∃S,H c=δ S/\c≠e:=by
   rcases B with ζ|B
   .exact (u,z,a)
   .exact (_,B,qN B j (!5))
  let⟨S,hw,O⟩:=hH;show g c v y O λp=>by rw[I.Tf c p]at hw;cases hw
 let Q:f' X m R (BW H e) {s with ο:=h',Ty:=s.Ty,Tz:=s.Tz,MT:=s.MT}:=I.Ql (g':=s.Ty) (d':=s.Tz) (t':=s.MT) (ch:=[]) J i I.Rz (λ_ z=>nomatch z);let dT:s.ο.ψ T=ε:=by
  cases z:s.ο.ψ T with
  |ε=>rfl
  |δ o=>
   let h1:=IN D Q.NA;let h2:T≠e:=by let⟨_,_,_,_,_,_,_,_,y,_⟩:=D;show y
   rw[Pp _ z λp=>(MN.mp p).Nv h2 h1]at Y;cases Y
 let W:=Q.ς;rw[Z]at W;let TN:=G7 I.Oc dT;show(e,T,.π C,.π a0,d,BW H e,1,Q.os,I.Rz,W,i,d0,AH I Z dT,Jj,by rw[Eh (P T TN)];show TN,D.up dk eO (λx z=>by rw[z];rfl),q)
abbrev mJ(s0:NR)(C:υ)(sp:Sp)(E E':XK)(t:TA):TS:=λ_ σ H=>t σ H λvs H1=>vs.β≤Λ/\∀e,H1 e=ε->sp (.π e::vs) (MR H1 e (t_ e C ε)) (λv H2=>v=.Rt/\∃d,H2 e=δ (t_ e C d)/\E (.π C) d (BW H2 e)) E'
def oJ(Z:X.ex=[])(hc:X.T0=ξ)(hT:nN X E)(M:BV X.K C f)(fn:isFn X.K (.π f)=ξ)(F:aa X.Ξ X.w X.K X.mg X.ς CX k f fd ps sp)(hr:ak (k+1) X.A)(hb:Ao X.K fd ps [])(hp:Et CX X E')(hm:X.mg x<*.π C)(ha:PA X (e0::es) t)(hg:Gl X x>>>4)(hd:((x==("__debug__":M'))=η)>>>0)(P:(Θ (e0::es) X.KK=(η,OJ e0 X.KK,)::Θ es X.KK)>>>4)(p:((OE Xm (Θ es X.KK)).Qk (·.1)=η)>>>4):PS X (.Raise (δ (.QE (.Nz x np) (e0::es) [] Xm)) ε Ng) (mJ X.ς C sp E E' t):=by
 intro b s n H D I h;let⟨bm,N,nm,O,bs,UQ,sn,Rp,ab,VF,dd,k0,k1,k2,k3,k5,mN,cO,nO,iO,T⟩:=M.Ua I.ok.VT.Vv;rw[arm_exec_Raise];refine d_ (PP (kU (C:=C) (nm:=nm) (q:=O) (N:=N) (bs:=bs) (bm:=bm) (UQ:=UQ) (sn:=sn) (Rp:=Rp) (ab:=ab) (VF:=VF) (dd:=dd) (k0:=k0) (k1:=k1) (k2:=k2) (k3:=k3) (k5:=k5) (T.hasType RC.hasBase) (I.ok.hd hc)
  (d_ (NG (wpAny_Call_ofName (v_ I hg hm ?_ hd)) (λv L h3=>d_ (PP (j' h3))) λ_ _ z=>z))))
 let R:=ha Xm b s n H _ I h;let o:(OE Xm (Θ (e0::es) X.KK)).Qk (·.1)=η:=by rw[P];change (η||(OE Xm (Θ es X.KK)).Qk (·.1))=η;rw[p];rfl
 let S:∀{m:St}{H':Hp}{s':MH},f' X b m H' s'->s'.ο.ψ C<*Re nm O C N bs bm UQ sn Rp ab VF dd k0 k1 k2 k3 k5 "ValueError.__new__":=λI'=>I'.bk _ _ cO;unfold YY;refine d_ (NQ (NG (Q:=λ(a:Args)s2=>a.kw=[]/\∃vs g,f' X b n g s2/\ae vs a.Ng/\vs.β≤Λ/\∀e,g e=ε->sp (.π e::vs) (MR g e (t_ e C ε)) (λv l=>v=.Rt/\∃d,l e=δ (t_ e C d)/\E (.π C) d (BW l e)) E') ?_ (λa s2 h2=>d_ (PP ?_)) λ_ _ z=>z))
 .rw [P]at R⊢;show R_.SY (ri R λus s2 y=>by let⟨vs,g,j,i,r,q⟩:=y;show(1,vs,g,j,i,r,q))
 let⟨c,B⟩:=a;let⟨u,vs,g,j,i,r,q⟩:=h2;obtain ζ:B=[]:=u;let⟨ag,g2,d2,U,Y⟩:=s2;simp only[o];refine d_ (wpAny_keeperOf_exc (S j) ?_);refine d_ (NG (ud (Q:=QX C E) Z M fn F hr hb hp j i (by change c.β≤Λ;let z:vs.β=c.β:=i.β;rw[<-z];show r) λe hn=>q e hn) (λv L hv=>d_ (NQ (wpAny_point (j' ?_)))) λ_ _ z=>z);let⟨e,l,ζ,d0,J,d,h1,h2⟩:=hv;let⟨⟨W,eO⟩,_,_⟩:=J.Oc e _ h1;show(e,d,.π W,1,S J,eO,hT b n l L e C d J h1 d0 h2)
def iE{P:NC}{w:Ny}{K:Nl}{mg:M'->ω θ}{ς:NR}{N:γ M'}:nN (aG (Al P w) P w K mg ς N M4 a f g A Fr s H E) E:=
 λb h j i e C d I h1 h2 c=>uM (X:=aG (Al P w) P w K mg ς N M4 a f g A Fr s H E) ζ ζ ζ I h1 h2 c
end
abbrev jh(D:XL):XL:={nx:=D.nx,rt:=λ_ _=>NU}
abbrev nX(K:Nl)(R:υ)(ts:TS)(D:XL)(σ:St):XK:=λC _ H'=>Zc K C (.π R)=δ ξ/\ts (jh D) σ H'
def pQ{X:Cx}{a:γ (υ×Rm)}{t:St}{H:Hp}(hex:X.ex=[])(Rv:X.NA=X.KK::X.Fr)(N:X.KK.RN<*X.KK.OZ)(hg:Gl X x)(hm:X.mg x<*.π R)(hs:∀v,BA (X.UP v) (b0::suite) ts)(I:f' X a t H s)(cx:Al X.Ξ X.w X.NA H s (nX X.K R ts D t) Y s')(hd:(x==("__debug__":M'))=η):BT (Cl X.Ξ X.w) X.A (Tp Y X.KK) (λ_ s2=>BT (Cl X.Ξ X.w) X.A (Sw Y ε) (λ_ s3=>BT (Cl X.Ξ X.w) X.A (handleBy Y X.KK [.WB (δ (.Nz x np)) ε (b0::suite) Z]) (SP X a D) X.xe s3) X.xe s2) X.xe s':=by
 let⟨e,T,C,a0,dd,H',ζ,os,j,un,p,de,dT,he,hT,fT,h,q⟩:=cx;let⟨i,g,d,k,L⟩:=s';obtain ζ:L=s.os:=os;let I1:f' X a t H' {s with ο:=i,Ty:=g,Tz:=d,MT:=k}:=I.Ql (g':=g) (d':=d) (t':=k) (ch:=[]) un p j (λ_ z=>nomatch z);let J:i.Ow X.ς (X.KK::X.Fr):=Rv▸I1.NA;let fl:Zk (Qo i (e::T::s_ X.NA)) (X.KK::X.Fr) e C a0 i:=
  (λb o z=>SH _ z,O' _ (!1),FJ J (by rw[<-Rv];show λb z=>M1 _ (M1 _ z)),fT.traced (O' _ (!1)))
 let seen:∀(h':NR),(Qo i (e::T::s_ X.NA)).X1 h'->i.Uh h'->f' X a t H' {s with ο:=h',Ty:=g,Tz:=d,MT:=k}:=λh' fk up=>
  (I.flown (H':=H') (h1:=i) (h2:=h') (g':=g) (d':=d) (t':=k) (S:=[e,T]) un p (λb r=>by rcases MN.mp r with z|z;rw[z];show de;rw[Ay z];show dT)
   (λb r=>by rcases MN.mp r with z|z;rw[z];show he;rw[Ay z];show hT) (λb o z hS r=>fk b o (Pp _ z λc=>by
    rcases MN.mp c with y|c
    .exact hS (by rw[y];simp)
    .rcases MN.mp c with y|c
     .exact hS (by rw[y];simp)
     .exact r c)) up j).1
 refine Xa (s:=(i,g,d,k,s.os)) (by rw[<-Rv];show I.ok.QZ) N fl λh2 U n=>ZG (s:=(h2,g,d,k,s.os)) U λP l m=>?_;let I3:=seen P l.1 (n.ν m);let⟨oe,M,O⟩:=l.QO;let ty:Wn (Cl X.Ξ X.w) P (typeOf (.π e)) C:=O▸(Wn.ld M).X0 .now;refine wpAny_handleBy_cons (Zo (v_ (X:=X.UP (.π e)) (I3.UP _) hg hm ?_ hd)) (!5);refine(Δ.W.exm_one I3.TX ty h).here ?_;refine codeAny_handlers_suite (lands_againW (s:=(P,g,d,k,s.os)) l λh4 Q F=>?_);let I4:=seen h4 Q.1 ((n.ν m).ν F);refine NG (hs (.π e) a _ _ _ (jh D) (I4.UP _) q) (λf s6 B=>?_) λ_ _ z=>z.Nv;cases f with
 |next=>
  let⟨E,H7,I7,q7⟩:=B;show(E,H7,I7.unheld I.ok,q7)
 |UT u=>
  let⟨_,_,_,_,_,z⟩:=B;show z.Nv
 |Yg=>
  let⟨_,_,_,z⟩:=B;show z.Nv
 |T_=>
  let⟨_,_,_,z⟩:=B;show z.Nv
section
variable{X:Cx}{pins:List (Addr×Obj)}{σ:St}{H:Hp}{s:Shared}{x y fx:Str}{R:Addr}{j k:Nat}{np hpos pos p cp yp ap:Pos}{b0:Stmt}{suite:List Stmt}{ts:TS}{D:Ends}{ps:List Str}{sp:Sp}{e:Expr}{es:List Expr}{t:TA}
structure J7(X:Cx)(x:Str)(R:Addr)(b0:Stmt)(suite:List Stmt)(ts:TS):Prop where
 hex:X.ex=[]
 hst:X.stack=X.env::X.outer
 hfr:X.env.frame<*X.env.locals
 hg:Gl X x
 hm:X.mg x<*.ref R
 hs:∀v,BA (X.held v) (b0::suite) ts
 hd:(x==("__debug__":Str))=false
end
def pH{g:TG}{l:TS}{D:XL}(d:Φ->St->Hp->Prop)(h0:d 0 c H)(u:∀i c H,d i c H->H a<*.M5 xs)(t:∀i x p c H,xs[i]?<*x->H p=ε->d i c H->g (.π p) c (MR H p (.No [.MQ (i:ML),x])) λf k=>l {D with nx:=d (i+1),ct:=d (i+1),bk:=D.nx} f k)(w:∀c H,d xs.β c H->D.nx c H):∃W:Φ->Φ->St->Hp->Prop,(∃m,W 0 m c H)/\∀i m c H,W i m c H->
   ((Dz a).Sv i H/\D.nx c H)\/((Dz a).go i H/\∃N:St->Hp->Prop,(∀h H',N h H'->∃n,n<m/\W (i+1) n h H')/\∀v H',(Dz a).X6 i H v H'->g v c H' λf k=>l {D with nx:=N,ct:=N,bk:=D.nx} f k):=by
 refine(λi m c H=>m=xs.β-i/\i≤xs.β/\d i c H,(xs.β,!1,Nb _,h0),3);rintro i m c H⟨rfl,A,p⟩;let h1:=u i c H p;by_cases j:i<xs.β
 .refine .NT ((xs,xs[i],h1,n_ _),d (i+1),λh H' s=>(xs.β-(i+1),!2,1,j,s),λv H' q=>?_);let⟨b,x,r,o,z,ζ,y,ζ⟩:=q;rw[h1]at o;cases o;show t i x b c H z y p
 .let e:i=xs.β:=by lia
  subst e;show .NI ((xs,h1,1),w c H p)
end L2
namespace RA
open L2
inductive vT(H:Hp)(wy mk p:Addr)(W:LL)(B:List Bool)(most:Nat)(m:Nat)(σ:St)(H':Hp):Prop
 |mk (k:Nat) (lots:List Addr) (s4 s5:Option V) (_:m=iB W.length (Rd W B k)) (_:σ=[some (.ref wy),some (.ref mk),some (.int (most:Int)),some (.ref p),s4,s5]) (_:a' H H') (_:H' p<*.lst (lots.map V.ref)) (_:lots.length=k+1) (_:GC H' lots W B) (_:∀i<k,Rd W B (i+1)≠Rd W B i)
def DA.sameL(h:DA H b R)(s:a' H H'):DA H' b R:=(h.1,λi a r d c=>s _ _ (h.2 i a r d c))
def DA.Vt(h:DA H b R)(c:r<R.β):∃a,b[r]?=δ a/\H a<*.M5 (c_ (R.MI r [])):=by
 let d:r<b.β:=by rw[h.1];show c
 refine(b[r],n_ d,3);rw[u6,n_ c];show h.2 r _ _ (n_ d) (n_ c)
def DA.toQ(h:DA H a R):vS H a R:=λi r e=>by
 let b:i<R.β:=by rw[<-h.1];show(q5 e).1
 show(R[i],n_ b,_,.NI ζ,h.2 i r _ e (n_ b))
abbrev dN:Φ->LL
 |0=>[[]]
 |n+1=>dN n++(dN n).NL (·++[n])
def iG:∀n,(dN n).β=2^n
 |0=>rfl
 |n+1=>by
  rw[dN,w_,ol,iG n,Φ.pow_succ];lia
def iH(h:n≤8):(dN n).β≤256:=by
 rw[iG];show Φ.pow_le_pow_right (!0) h
def Jk(p:Φ->MX):∀n,(γ.N2 n).SJ p∈dN n
 |0=>by simp[dN]
 |n+1=>by
  rw[γ.YI,γ.filter_append,dN];cases h:p n with
  |η=>
   rw[γ.filter_cons_of_neg (by simp[h]),γ.YT,Oa];show RL _ (Jk p n)
  |ξ=>
   rw[γ.filter_cons_of_pos h,γ.YT];show Nn _ (O_.Om (_,Jk p n,1))
abbrev bn(W:LL)(S:LN)(j:Φ):LN:=(γ.N2 W.β).SJ λr=>S.M7 (QT W r j)
abbrev BD(W:LL)(B:γ MX):LN:=(γ.N2 W.β).SJ λr=>B.MI r η
abbrev se(S:LN):MX:=S.M7 0
section
variable{L:LN}{W:LL}{B:List Bool}{g:LN->Nat->LN}{s:LN}{mk:LN->Bool}{ks ws R:LL}{Bm:List Bool}
def Ic(k:CH L)(l:Bf g L s ks ws ks.β 0)(a:Dg g L.β ks R)(b:R.β=ks.β)(bl:Bm.β=R.β)(e:ks.β≤2100):g_ L R Bm where
 lt:=k
 n1:=by rw[b];show(q5 l.t0).1
 n60:=by rw[b];show e
 bl:=bl
 Vt:=λr h=>by
  let⟨i,d⟩:=NM.mp h;let c:i<ks.β:=by rw[<-b];show(q5 d).1
  let⟨h1,h2⟩:=a.Vt i r _ d (n_ c);refine(h1,λx f=>?_);let⟨q,j⟩:=NM.mp f;rw[b];show(q5 (h2 q x j)).1
def Jl(v:LN)(c:Φ):aR g L s (v++[c])=g (aR g L s v) (L.M0 c):=by
 unfold aR;rw[γ.Ux];rfl
def J8(p:Bf g L s ks ws ks.β 0)(a:Dg g L.β ks R)(j:R.β=ks.β):∀(n:Φ)(w:LN),w.β=n->(∀c∈w,c∈L)->ks[PD L R 0 w]?<*aR g L s w:=by
 intro n;induction n with
 |TB=>
  intro w hw _;rw[PB.mp hw];show p.t0
 |Sc n h=>
  intro w hw f;obtain⟨c,v,ζ⟩:∃c v,w=v++[c]:=(w.Wg (by intro z;rw[z]at hw;cases hw),w.RO,(γ.PH _).MO);let h1:=h v (by simpa using hw) λx i=>f x (by simp[i]);let b:L.M0 c<L.β:=M6 (f c (!1));let e:PD L R 0 v<R.β:=by rw[j];show(q5 h1).1
  let⟨d,o⟩:=a.Vt _ _ _ (n_ e) h1;let m:=o (L.M0 c) _ (n_ (by rw[d];show b));rw[EQ,Jl];let k:Bw L R (PD L R 0 v) c=R[PD L R 0 v][L.M0 c]'(by rw[d];show b):=by
   unfold Bw;rw[u6 (l:=R),n_ e];change (R[PD L R 0 v]).MI _ 0=_;rw[u6,n_ (by rw[d];show b)];rfl
  rw[k];show m
def Ie(h:Bf g L s ks ws ks.β 0)(a:Dg g L.β ks R)(f:R.β=ks.β)(bl:Bm.β=R.β)(d:∀(r:Φ)(k:LN)(b:MX),ks[r]?<*k->Bm[r]?<*b->b=mk k)(hw:∀c∈w,c∈L):Bm.MI (PD L R 0 w) η=mk (aR g L s w):=by
 let h1:=J8 h a f _ w ζ hw;let e:PD L R 0 w<Bm.β:=by rw[bl,f];show(q5 h1).1
 rw[u6,n_ e];show d _ _ _ h1 (n_ e)
def qc(e:g_ L W B):∀(u:LN),(∀c∈u,c∈L)->∀r,r<W.β->((aR (bn W) L (BD W B) u).M7 r=B.MI (PD L W r u.Nc) η):=by
 intro u f;obtain⟨n,b⟩:∃n,u.β=n:=(_,ζ);induction n generalizing u with
 |TB=>
  intro r a;rw[PB.mp b];change (BD W B).M7 r=_;unfold BD;rw[MX.RD,QJ,Q',Nm];show(λz=>z.2,λz=>(a,z))
 |Sc n h=>
  intro r a;obtain⟨c,v,ζ⟩:∃c v,u=v++[c]:=(u.Wg (by intro z;rw[z]at b;cases b),u.RO,(γ.PH _).MO);let j:c∈L:=f c (!1);let d:QT W r (L.M0 c)<W.β:=Ev e a (M6 j);rw[Jl,γ.VQ];change _=B.MI (PD L W (Bw L W r c) v.Nc) η;rw[<-h v (λx i=>f x (by simp[i])) (by simpa using b) _ (by rw[G_];show d),G_];unfold bn;rw[MX.RD,QJ,Q',Nm];show(λz=>z.2,λz=>(a,z))
def km(a:g_ L W B)(b:∀c∈u,c∈L):se (aR (bn W) L (BD W B) u)=B.MI (PD L W 0 u.Nc) η:=qc a u b 0 a.n1
end
def di(a:Φ):∀S:LN,EO (.MQ (a:ML)) (c_ S)=S.M7 a
 |[]=>rfl
 |x::S=>by
  let e:EO (.MQ (a:ML)) (c_ (x::S))=(((x:ML)==(a:ML))||EO (.MQ (a:ML)) (c_ S)):=ζ;rw[e,di a S,γ.V9];congr 1;rw[MX.RD,Ot,Ot];constructor
  .intro z;show(ML.ofNat_inj.mp z).MO
  .intro z;rw[z]
def As:(γ.N2 (i+1)).SJ p=(γ.N2 i).SJ p++(if p i then[i]else[]):=by
 rw[γ.YI,γ.filter_append];cases h:p i with
 |η=>rw[γ.filter_cons_of_neg (by simp[h]),γ.YT];rfl
 |ξ=>rw[γ.filter_cons_of_pos h,γ.YT];rfl
end RA
namespace L2
open PySem.Spec PyProof.Rows
section
variable{X:Cx}{elt iter:Expr}{x:Str}{px pos:Pos}{ifs:List Expr}{sc:Scope}{wi:TI}{tt:TT}{te:TE}
end
def lf(K:Nl)(a:(X.K=K)>>>4):AQ X (O3 .In) (Le K η):=by
 subst a;show IL
inductive kz(Q:VK)(vs:List V)(H1:Hp):Prop
 |mk (a b xs ys:_) (_:vs=[.ref a,.ref b]) (_:H1 a<*.tup xs) (_:H1 b<*.tup ys) (_:xs.length=ys.length) (_:xs.length≤1000000) (_:∀(l:Addr)(ts:List Addr)(H2:Hp),ts.length=xs.length->ts.Nodup->H1 l=none->a' H1 H2->H2 l<*.lst (ts.map V.ref)->(∀(i:Nat)(t:Addr)(x y:V),ts[i]?<*t->xs[i]?<*x->ys[i]?<*y->H2 t<*.tup [x,y])->Q (.ref l) H2)
abbrev on(ta:TA):TE:=λσ H Q=>ta σ H (kz Q)
def i8{p N Ng f:Sn}(hc:X.T0=ξ)(a4:Gl X "list")(a1:X.mg "list"=ε)(a3:Gl X "zip")(a0:X.mg "zip"=ε)(ha:PA X [a,b] ta)(hs:(Θ [.QE (.Nz "zip" N) [a,b] [] f] X.KK=[(η,OJ (.QE (.Nz "zip" N) [a,b] [] f) X.KK,)])>>>4)(aT:(Θ [a,b] X.KK=(η,OJ a X.KK,)::Θ [b] X.KK)>>>4)(as:((OE f (Θ [b] X.KK)).Qk (·.1)=η)>>>4):PE X (.QE (.Nz "list" p) [.QE (.Nz "zip" N) [a,b] [] f] [] Ng) (on ta):=by
 intro ag s σ H Q I h;refine Nh (An I a4 a1 Vn ?_);refine Oj.Sf.QV (e:=.QE (.Nz "zip" N) [a,b] [] f) (Rr:=[]) ?_ hs ζ;rw[hs];change BT _ _ (spliced ((η,OJ (.QE (.Nz "zip" N) [a,b] [] f) X.KK,)::OE Ng [])) _ _ s;refine R_.spliced_cons (Nh (An I a3 a0 boot_zip (Oj.Sf.QV (ri (ha f ag s σ H _ I h) λus d a5=>?_) aT as)));let⟨vs,H1,U,r1,la,lb,xs,ys,ev,ar,an,hl,az,q⟩:=a5;subst ev;let⟨u1,u2,ζ,e1,e2⟩:=b8 r1;cases e1;cases e2;let⟨D,rx,px,_⟩:=U.Px (u0.of ar);let⟨C,ry,py,_⟩:=U.Px (u0.of an);let px:d.ο.Pa la D.χ:=px;let py:d.ο.Pa lb C.χ:=py;let hh:X.A.PL=ε:=U.ok.hd hc;let Z:la<d⁻¹:=U.Oc.lt ar;let Y:lb<d⁻¹:=U.Oc.lt an;refine ZP.DW (d1:=.tp la) (d2:=.tp lb) (xs:=D.χ) (ys:=C.χ) px py λg gz a7 a6 g1 g2 gk=>?_;let aA:d⁻¹+5≤g.Np.MV:=lt_size gz;refine R_.spliced_nil ?_;let ap:T7 (d⁻¹+4) (d⁻¹+2) (d⁻¹+3) d⁻¹ (d⁻¹+1) (d⁻¹+2) (d⁻¹+2):=by
  constructor<;>show G6 (!6)
 let ex:D.χ.MV=xs.β:=by rw[rx.β];simp
 let ey:C.χ.MV=xs.β:=by rw[hl,ry.β];simp
 let aM:g.Pa la D.χ:=Wo.Oq px λo e=>gk la o e;let aH:g.Pa lb C.χ:=Wo.Oq py λo e=>gk lb o e;let D1:=dE (Ξ:=X.Ξ) (w:=X.w) (A:=X.A.S0.S0.S0) hh d⁻¹ la (M8 Z) D.χ;let D2:=dE (Ξ:=X.Ξ) (w:=X.w) (A:=X.A.S0.S0.S0) hh (d⁻¹+1) lb (M8 (QF Y)) C.χ;rw[ex]at D1;rw[ey]at D2;let E:∀c:υ,c<d⁻¹->c∉[d⁻¹+4,d⁻¹+3,d⁻¹,d⁻¹+1]:=λc k hm=>by
  let k:(c:Φ)<d⁻¹:=k;simp only[MN,NW,N9]at hm;rcases hm with y|y|y|y
  .exact MJ k (by rw[y];show TU.Om (Qd _ _))
  .exact MJ k (by rw[y];show TU.Om (Qd _ _))
  .exact MJ k (by rw[y];show Qq _)
  .exact MJ k (by rw[y];show TU.Om (Qd _ _))
 refine ZP.E8 (s:={d with ο:=g}) (n:=xs.β) D1 D2 ap az (λc k=>?_) (λc k=>?_) gz a7 a6 (g1,aM) (g2,aH) (Ψ (!6) aA) (Ψ (!6) aA) λh' tk T c kp hS V6 L aN=>?_
 .rcases MN.mp k with z|z
  .exact .NI z
  .rw [Ay z];show .NT (E la Z,Ψ Z (by change d⁻¹≤g.Np.MV;lia))
 .rcases MN.mp k with z|z
  .exact .NI z
  .rw [Ay z];show .NT (E lb Y,Ψ Y (by change d⁻¹≤g.Np.MV;lia))
 let hS:h'.ψ g.Np.MV<*{OM:=.MM "list",Pv:=ε,NH:=.Sx T c,Rw:=#[]}:=hS;obtain⟨ts,R⟩:∃ts:γ υ,T.ND=ts.NL θ.π:=by
  have:∀(l:γ θ),(∀v∈l,∃t:υ,v=.π t)->∃ts:γ υ,l=ts.NL θ.π:=by
   intro l;induction l with
   |Op=>show λ_=>([],1)
   |NX v r ih=>
    intro hv;let⟨t,ζ⟩:=hv v (!1);let⟨ts,ζ⟩:=ih λv aS=>hv v (by simp[aS]);show(t::ts,1)
  refine this T.ND λv hv=>?_;let⟨j,hj⟩:=NM.mp hv;rw[Qa]at hj;let⟨t,_,_,e,_⟩:=L j v hj;show(t,e)
 let O:ts.β=xs.β:=by rw[<-V6,<-Pl,R,ol]
 let P:∀{i:Φ}{t:υ},ts[i]?<*t->T[i]?<*.π t:=λ{i t}e=>by rw[<-Qa,R,tS,e];rfl
 let W:ts.Nx:=Lz λi j t h1 h2=>aN i j t (P h1) (P h2);let B:∀{i:Φ}{t:υ}{x y:V},ts[i]?<*t->xs[i]?<*x->ys[i]?<*y->g.Np.MV<t/\∃u v,ad x u/\ad y v/\Pk h' t u v:=λ{i t x y}ht hx hy=>by
  let⟨t',u,v,e,p1,N,pr,S⟩:=L i _ (P ht);cases e;let p1:D.χ[i]?<*u:=p1;let N:C.χ[i]?<*v:=N;let⟨u',hu,ru⟩:=rx.VE hx;let⟨v',hv,rv⟩:=ry.VE hy;rw[QI,hu]at p1;rw[QI,hv]at N;cases p1;cases N;show(S,_,_,ru,rv,pr)
 let M:∀{i:Φ},i<xs.β->∃t x y,ts[i]?=δ t/\xs[i]?=δ x/\ys[i]?<*y:=λ{i}hi=>(ts[i],xs[i],ys[i],n_ _,n_ _,n_ _);let aC:∀t∈ts,g.Np.MV<t:=λt ht=>by
  let⟨i,hi⟩:=NM.mp ht;let a2:i<xs.β:=by rw[<-O];show(q5 hi).1
  let⟨t',x,y,h1,h2,h3⟩:=M a2;rw[hi]at h1;cases h1;show(B hi h2 h3).1
 letI H2:Hp:=λb=>if b<d⁻¹ then H1 b else if b=g.Np.MV then δ (.M5 (ts.NL V.π))else o7 ts xs ys b
 let gS:¬ g.Np.MV<d⁻¹:=by lia
 let m:∀b,b<d⁻¹->H2 b=H1 b:=λb hb=>Id hb;let ab:H2 g.Np.MV<*.M5 (ts.NL V.π):=(Ω gS).ν (Id ζ);let aB:∀(i:Φ)(t:υ)(x y:V),ts[i]?<*t->xs[i]?<*x->ys[i]?<*y->H2 t<*.No [x,y]:=λi t x y h1 h2 h3=>by
  let S:=(B h1 h2 h3).1;let aV:¬ t<d⁻¹:=λz=>MJ (P9 S z) gS;let aU:t≠g.Np.MV:=Qc S;change (if t<d⁻¹ then H1 t else if t=g.Np.MV then δ (.M5 (ts.NL V.π))else o7 ts xs ys t)=_;rw[Ω aV,Ω aU,o7,Ly W h1 (v:=(x,y,)) (by rw[Pq];show(h2,h3))];rfl
 let F:∀b o,d.ο.ψ b<*o->h'.ψ b<*o:=λb o e=>kp b o (E b (lt_size e)) (gk b o e);refine(.π g.Np.MV,H2,3,1,q g.Np.MV ts H2 O W (U.Oc.OF (!6)) (λb o e=>by rw[m b (U.Oc.lt e)];show e) ab aB);let J:=U.many (H':=H2) (h':=h') (t':=tk) F m λb o hb e=>?_
 .exact J
 .by_cases hbg:b=g.Np.MV
  .subst hbg;rw[ab]at e;cases e;refine(by rw[ol,O,OO];lia,ts.NL θ.π,c,3,3)
   .clear R O P W B M aC H2 m ab aB;induction ts with
    |Op=>show .Op
    |NX t r ih=>show .NX ζ ih
   .rw [<-R];simpa using hS
  .let e':o7 ts xs ys b<*o:=by
    let e:(if b<d⁻¹ then H1 b else if b=g.Np.MV then δ (.M5 (ts.NL V.π))else o7 ts xs ys b)<*o:=e;rw[Ω (TU.Om hb),Ω hbg]at e;show e
   unfold o7 at e';cases hlk:(ts.Td (xs.Td ys)).ρ b with
   |ε=>rw[hlk]at e';cases e'
   |δ q2=>
    rw[hlk]at e';cases e';let⟨i,hi⟩:=NM.mp (eR hlk);rw[Pq]at hi;let⟨h1,h2⟩:=hi;rw[Pq]at h2;let⟨_,u,v,ru,rv,pr⟩:=B h1 h2.1 h2.2;show(sT (by change 2≤16777216;decide),[u,v],.NX ru (.NX rv .Op),(_,pr,1,(0),1))
def Go(Wd:GH X U l H d)(Rp:∀y a,b.ρ y<*a->X.KK.Rj.ρ y<*a)(Tn:∀y∈sc.MP,y.2=.N4->∃a,b.ρ y.1<*a)(m:UU.β=f.β)(n:∀(i:Φ)(y:M')(v:V),f[i]?<*y->UU[i]?<*v->(∃j:Φ,X.N[j]?=δ y/\l[j]?<*δ v)/\X.KK.NE.MP.ρ y=δ .N8/\sc.MP.ρ y<*.N4):A2 d b sc f UU:=by
 refine(λy z c h1 h2=>Wd.QG y z c (Rp y c h1) (Rp z c h2),Tn,λy c h=>Wd.N8 y c (Rp y c h),m,λi y v h1 h2=>?_);let⟨⟨j,t,s⟩,r,k⟩:=n i y v h1 h2;let⟨a,e⟩:=Tn (y,.N4,) (Δ.OV k) ζ;let⟨c,u,q,p,o⟩:=Wd.Zu j y v t s r;let g:=Rp _ _ e;rw[q]at g;cases g;show(k,_,u,e,p,o)
def ic(b:∀y,a.ρ y=ε)(f:∀y∈sc.MP,y.2≠.N4):A2 h a sc [] []:=by
 refine(λy z c h1 _=>?_,λy d e=>MJ e (f y d),λy c e=>?_,1,λi y v h1 _=>by simp at h1)
 .rw [b]at h1;cases h1
 .rw [b]at e;cases e
def Hm{P:NC}{w:Ny}{K:Nl}{mg:M'->ω θ}{ς:NR}{st:Nr}{h e kV Pi pm ct:θ}(lk:K.ρ f<*(h,i,.QY (Ps x M4 (t5 st) (p_ st) (h_ st) e kV Pi pm an (.π c) ct),g))(b:O8 K (.π c) M4=ξ)(S:vw N ps (h_ st))(PJ:∀vs H Q E,d vs H Q E->vs.β=ps.β)(a:∀(A:N0)(Fr:γ WC)(s:MH)(H:Hp)(vs:γ V)(Q:VK)(E:XK),ak k (A.RE (S4 M4 (h_ st) s⁻¹ f (.π c)))->d vs H Q E->
   ∃t,BA (aG (Al P w) P w K mg ς N M4 (h_ st) f (.π c) A Fr s H E) (p_ st) t/\t {nx:=λ_ H'=>Q .Rt H',rt:=Q} (SM N vs) H):aa P w K mg ς (Al P w) (k+1) f (Ps x M4 (t5 st) (p_ st) (h_ st) e kV Pi pm an (.π c) ct) ps d:=jC lk b S PJ a
abbrev Ch(H H':Hp):Prop:=∀b o,(∀ps,o≠.Wv ps)->H b<*o->H' b<*o
def Ch.of(s:a' H H'):Ch H H':=λb o _ e=>s b o e
def Ch.ν(a:Ch H d)(b:Ch d H'):Ch H H':=λx o c e=>b x o c (a x o c e)
def Ch.Z8(s:Cu P0 H H')(c:A_ H P0 OL):Ch H H':=λb o a e=>s b o (λz=>by
 let⟨ps,d,_⟩:=c;rw[z,d]at e;cases e;show a _ ζ) e
def Ch.No(s:Ch H H'):∀b xs,H b<*.No xs->H' b<*.No xs:=λb xs e=>s b _ (λ_ z=>nomatch z) e
def Ch.M5(s:Ch H H')(e:H b<*.M5 xs):H' b<*.M5 xs:=s b _ (λ_ z=>nomatch z) e
abbrev Ig(H:Hp)(a:υ)(xs:γ V):Prop:=H a<*.No xs\/H a<*.M5 xs
def Ig.OP(h:Ig H a xs)(t:∀b xs,H b<*.No xs->H' b<*.No xs)(l:∀b xs,H b<*.M5 xs->H' b<*.M5 xs):Ig H' a xs:=h.Wc (t _ _) (l _ _)
inductive rIxV(x:V)(y:V)(H:Hp)(Q:VK):Prop
 |mk (p:Addr) (xs:List V) (i:Int) (z:V) (_:x=.ref p) (_:y=.int i) (_:Ig H p xs) (_:AN xs i<*z) (_:Q z H)
def xA:CP X rIxV:=by
 intro a b c s e H x y v u Q I g f h j;obtain⟨p,xs,i,z,m,l,d|d,k,q⟩:=h
 .exact dg a b c s e H x y v u Q I g f (p,xs,i,z,m,l,u0.of d,k,q) j
 .exact bT a b c s e H x y v u Q I g f (p,xs,i,z,m,l,o5.of d,k,q) j
end L2
namespace RA
open L2
inductive DB(H:Hp)(m:Addr)(L:LN)(W:LL)(B:List Bool):Prop
 |mk (wy mk:Addr) (rows:List Addr) (_:H m<*.tup [.str (tx L),.ref wy,.ref mk]) (_:H wy<*.tup (rows.map V.ref)) (_:Ig H mk (B.map V.bl)) (_:rows.length=W.length) (_:∀(i:Nat)(a:Addr),rows[i]?<*a->∃ws,W[i]?=some ws/\H a<*.tup (c_ ws))
def DB.P_(h:DB H m L W B)(t:∀b xs,H b<*.No xs->H' b<*.No xs)(l:∀b xs,H b<*.M5 xs->H' b<*.M5 xs):DB H' m L W B:=by
 let⟨d,mk,c,h1,h2,j,g,f⟩:=h;refine(d,mk,c,t _ _ h1,t _ _ h2,j.OP t l,g,λi a e=>?_);let⟨ws,n,k⟩:=f i a e;show(ws,n,t _ _ k)
def zl.l:zl H m L W B->DB H m L W B:=λ⟨b,c,a,h1,h2,f,e,d⟩=>(b,c,a,h1,h2,.NI f,e,d)
def DB.OP(h:DB H m L W B)(s:a' H H'):DB H' m L W B:=h.P_ (λb xs e=>s b _ e) λb xs e=>s b _ e
def DB.ofT(h:DB H m L W B)(s:Ch H H'):DB H' m L W B:=h.P_ s.No λb xs e=>s.M5 e
def vI(s:Ch H H')(h:o5 K H a xs):o5 K H' a xs:=by
 rcases h with(h|⟨o,h⟩)|h
 .exact .NI (.NI (s.M5 h))
 .exact .NI (.NT (o,s _ _ (λ_ z=>nomatch z) h))
 .exact .NT h
inductive Jm(cW P0:Addr)(sites:List (Pos×Str))(vs:List V)(H:Hp)(Q:VK)(_E:XK):Prop
 | mk (m:Addr) (L:LN) (W:LL) (B:List Bool) (_:vs=[.ref m]) (_:DB H m L W B) (_:g_ L W B) (_:A_ H P0 sites) (_:∀(wk t wd y md:Addr)(ks:LL)(vks:List V)(ws:LL)(rows:List Addr)(R:LL)(Bm:List Bool)(H':Hp),Cu P0 H H'->A_ H' P0 sites->Gk H' cW wk L t wd y md->H' t<*.lst vks->br .i H' ks vks->H' wd<*.lst (DX ws)->H' y<*.lst (rows.map V.ref)->DA H' rows R->H' md<*.lst (Bm.map V.bl)->
  Bf (gW W) L [0] ks ws ks.length 0->Dg (gW W) L.length ks R->R.length=ks.length->Bm.length=R.length->(∀(r:Nat)(k:LN)(b:Bool),ks[r]?<*k->Bm[r]?<*b->b=mkW B k)->(∀k∈ks,k∈uW W)->ks.length≤W.length->Q (.ref wk) H')
abbrev gP(W1 W2:LL)(k:LN)(j:Φ):LN:=[QT W1 (k.MI 0 0) j,QT W2 (k.MI 1 0) j]
abbrev uP(n1 n2:Φ):LL:=(γ.N2 n1).flatMap λa=>(γ.N2 n2).NL λb=>[a,b]
abbrev LG(WX:MX->MX->MX)(B1 B2:γ MX)(k:LN):MX:=WX (B1.MI (k.MI 0 0) η) (B2.MI (k.MI 1 0) η)
def p8(e:a<n1)(d:b<c):[a,b]∈uP n1 c:=by
 unfold uP;rw[UE];show(a,Nm.Om e,O_.Om (b,Nm.Om d,1))
def kj(h:k∈uP n1 c):∃a b,k=[a,b]/\a<n1/\b<c:=by
 unfold uP at h;let⟨a,e,h⟩:=UE.mp h;let⟨b,d,ζ⟩:=O_.mp h;show(a,b,1,Nm.mp e,Nm.mp d)
def vZ(n1 a:Φ):(uP n1 a).β=n1*a:=by
 unfold uP;rw[γ.YM];simp[γ.map_const',γ.sum_replicate_nat]
def vE(h1:n1≤8)(h2:a≤8):(uP n1 a).β≤64:=by
 rw[vZ];show Φ.mul_le_mul h1 h2
def xU(h1:g_ L d j)(h2:g_ L c i):∀k∈uP d.β c.β,∀q,q<L.β->gP d c k q∈uP d.β c.β:=λk f q e=>by
 let⟨a,b,ζ,h,g⟩:=kj f;show p8 (Ev h1 h e) (Ev h2 g e)
def yK{L:LN}{e d:LL}:∀(u:LN)(a b:Φ),aR (gP e d) L [a,b] u=[PD L e a u,PD L d b u]
 |[],_,_=>rfl
 |c::u,a,b=>yK u (QT e a (L.M0 c)) (QT d b (L.M0 c))
inductive b9(rule:Bool->Bool->Bool)(vs:List V)(H:Hp)(Q:VK)(_E:XK):Prop
 |mk (a b:Bool) (_:vs=[.bl a,.bl b]) (_:Q (.bl (rule a b)) H)
structure xO(P:Program)(w:World)(K:Frag)(mg:Str->Option Value)(H:Hp)(g cg:Addr)(rule:Bool->Bool->Bool):Prop where
 ex:∃(qual:Str)(params:Arguments)(body:Expr)(sc:Scope)(clos:List (Str×Addr)),H g=some (AI g qual params body sc clos cg)/\H cg=some (pd cg qual)/\
  (∀(base':Heap)(pm ctv:Value),base'.get? g<*kla_obj "<lambda>" qual params body sc clos pm cg ctv->base'.CodeRec (.ref cg) qual->aa P w K mg base' pu 1 g (kla_fn "<lambda>" qual params body sc clos pm (.ref cg) ctv) ["one","two"] (b9 rule))/\
  ∀pm ctv:Value,Ao K (kla_fn "<lambda>" qual params body sc clos pm (.ref cg) ctv) ["one","two"] []
end RA
namespace L2
open PySem.Spec PyProof.Rows
section
variable{X:Cx}{elt iter:Expr}{x y:Str}{px py pt pos:Pos}{kt:Nat}{sc:Scope}{wi:TI}{te:TE}
end
def pW(bs:γ MX):(γ.N2 bs.β).Qk (λi=>bs.MI i η)=bs.Qk id:=by
 rw[MX.RD,Vf,Vf];constructor
 .rintro⟨i,a,h⟩;let a:=Nm.mp a;rw[u6,n_ a]at h;show(bs[i],Nt a,h)
 .rintro⟨b,c,h⟩;let⟨i,a,ζ⟩:=γ.Xg.mp c;refine(i,Nm.Om a,3);rw[u6,n_ a];show h
def pT(F:X.T0=ξ):Dc X (.Nf "any") (λxs H Q=>∃(a:υ)(bs:γ MX),xs=[V.π a]/\H a=δ (.M5 (bs.NL V.bl))/\Q (.bl (bs.Qk id)) H):=by
 intro k s M H xs us Q I r h;let⟨a,bs,ζ,u,q⟩:=h;let⟨N,ζ,D⟩:=Do r;cases D;let⟨c,j,p,hz⟩:=I.Qt (o5.of u);let n:s.ο.U4 a c.χ:=p.QS;let g:a<s⁻¹:=I.Oc.lt u;let m:c.χ.MV=bs.β:=by
  let h2:=j.β;rw[ol]at h2;simp;lia
 refine call_any_walk (RT n ?_);refine(s⁻¹,7,_,_,λi=>bs.MI i η,1,Walks.Qt (Ξ:=X.Ξ) (w:=X.w) (A:=X.A.S0) (I.ok.hd F) s⁻¹ a (M8 g) c.χ,((_,MS _ ζ,5),n.at λo e=>sy _ e),3,λh' B E=>?_)
 .intro i v s' L O l f;let t:i<bs.β:=by rw[<-m];show(Nq.Os.mp l).1
  let⟨y,J,C⟩:=j.VE (i:=i) (x:=.bl bs[i]) (by rw[tS,n_ t];rfl);have:v=y:=by
   let d:c.χ[i]?<*v:=l;rw[QI,J]at d;show(ω.δ.QG d).MO
  subst this;cases C;let e:bs.MI i η=bs[i]:=by rw[u6,n_ t];rfl
  let f:L (bs.MI i η) s':=f;rw[e]at f;show PQ f
 .rw [m,pW];show(.bl (bs.Qk id),H,I.SW (t':=B) λb o z=>E b o (by simp;show M8 (lt_size z)) (sy _ z),1,q)
abbrev b_(m:Φ):LN:=(γ.N2 8).SJ λk=>m.testBit k
abbrev ao(led:MX)(ks:LN):RQ:=(if ks.β<5 then 7 else 31,ks.χ,#[],(0),led,if ks.β<5 then 0 else 1,ξ)
abbrev AZ(ks:LN)(k:Φ):Φ:=(ks.SJ (· < k)).β
abbrev yl(ks:LN)(k:Φ):LN:=ks.OC (AZ ks k)++k::ks.Pu (AZ ks k)
abbrev Ei(t:RQ)(ks:LN):RQ:={t with Ra:=ks.χ}
abbrev im(led:MX)(m k:Φ):MX:=
 letI ks:=b_ m
 letI t:=ao led ks
 letI ks':=yl ks k
 ks.M7 k||(decide (t.freeSlot (k:ML)<*(k,η,))&&decide (t.put k=(Ei t ks',AZ ks k,))&&(Ei t ks').Za ks'.β &&
  (if (Ei t ks').tooFull then decide ((Ei t ks').relaid (ks'.NL λ(n:Φ)=>(n:ML)).χ (RQ.grown ks'.β)<*(ao led ks',(γ.N2 ks'.β).χ,))&&coversAll (γ.N2 ks'.β).χ ks'.β&&(ao led ks').Za ks'.β
   else decide (Ei t ks'=ao led ks'))&&decide (ks'=b_ (m ||| 2^k)))
def tj(h:∀j,j<8->(γ.N2 32).P' (λm=>p (32*j+m))=ξ):(γ.N2 256).P' p=ξ:=by
 rw[NN];intro m a;let a:=Nm.mp a;have:=NN.mp (h (m/32) (!6)) (m%32) (Nm.Om (Φ.mod_lt _ (!0)))
 rwa [Φ.div_add_mod]at this
def xM:(γ.N2 256).P' (λm=>(γ.N2 8).P' λk=>im ξ m k&&im η m k)=ξ:=tj fun
 |0,_=>by decide +kernel
 |1,_=>by decide +kernel
 |2,_=>by decide +kernel
 |3,_=>by decide +kernel
 |4,_=>by decide +kernel
 |5,_=>by decide +kernel
 |6,_=>by decide +kernel
 |7,_=>by decide +kernel
 |n+8,h=>MJ h (!6)
abbrev vH(m k:Φ):MX:=(!(b_ m).M7 k||decide (m ||| 2^k=m))&&decide (m ||| 2^k<256)&&decide ((b_ m).β≤8)&&(b_ m).P' (· < 8)
set_option maxRecDepth 100000 in
def yw:(γ.N2 256).P' (λm=>(γ.N2 8).P' λk=>vH m k)=ξ:=by decide +kernel
def gq(b:m<256)(c:k<8):(k∈b_ m->m ||| 2^k=m)/\m ||| 2^k<256/\(b_ m).β≤8/\∀x∈b_ m,x<8:=by
 let h:=NN.mp (NN.mp yw m (Nm.Om b)) k (Nm.Om c);simp only[vH,Ou,Uq,Q_,SZ]at h;let⟨⟨⟨h1,h2⟩,e⟩,d⟩:=h;refine(λz=>h1.Nv (λy=>?_) id,h2,e,λx a=>OU (NN.mp d x a));rw[QJ.Om z]at y;cases y
def zD(a:MX)(e:m<256)(f:k<8)(d:k∉b_ m):(ao a (b_ m)).freeSlot (k:ML)=δ (k,η,)/\(ao a (b_ m)).put k=(Ei (ao a (b_ m)) (yl (b_ m) k),AZ (b_ m) k,)/\(Ei (ao a (b_ m)) (yl (b_ m) k)).Za (yl (b_ m) k).β=ξ/\yl (b_ m) k=b_ (m ||| 2^k)/\
  (if (Ei (ao a (b_ m)) (yl (b_ m) k)).tooFull=ξ then(Ei (ao a (b_ m)) (yl (b_ m) k)).relaid ((yl (b_ m) k).NL λ(n:Φ)=>(n:ML)).χ (RQ.grown (yl (b_ m) k).β)=δ (ao a (yl (b_ m) k),(γ.N2 (yl (b_ m) k).β).χ,)/\coversAll (γ.N2 (yl (b_ m) k).β).χ (yl (b_ m) k).β=ξ/\(ao a (yl (b_ m) k)).Za (yl (b_ m) k).β=ξ
   else Ei (ao a (b_ m)) (yl (b_ m) k)=ao a (yl (b_ m) k)):=by
 let h:=NN.mp (NN.mp xM m (Nm.Om e)) k (Nm.Om f);let h:im a m k=ξ:=by
  rw[Ou]at h;cases a
  .exact h.2
  .exact h.1
 unfold im at h;rw[Uq]at h;rcases h with h|h
 .exact MJ (QJ.mp h) d
 .simp only[Ou,SZ]at h;let⟨⟨⟨⟨h1,h2⟩,i⟩,b⟩,g⟩:=h;refine(h1,h2,i,g,3);split at b
  .rename_i c;rw[Id c];simpa[and_assoc]using b
  .rename_i c;rw[Ω c];simpa using b
abbrev Pr(ks:LN)(ts:γ Xp):γ (ML×θ):=γ.zipWith (λ(k:Φ)t=>((k:ML),θ.MQ (k:ML) t,)) ks ts
def DC(h:ts.β=ks.β):(Pr ks ts).β=ks.β:=by simp[Pr,h]
def jF:∀{ks:LN}{ts:γ Xp},ts.β=ks.β->(Pr ks ts).NL Uj.fst=ks.NL λ(n:Φ)=>(n:ML)
 |[],[],_=>rfl
 |k::ks,t::ts,h=>by
  have:=jF (ks:=ks) (ts:=ts) (by simpa using h);change (k:ML)::(Pr ks ts).NL Uj.fst=_;rw[this];rfl
def sF{ks:LN}(h:ts.β=ks.β):Pr (ks.OC p++k::ks.Pu p) (ts.OC p++t::ts.Pu p)=(Pr ks ts).OC p++((k:ML),θ.MQ (k:ML) t,)::(Pr ks ts).Pu p:=by
 unfold Pr;rw[γ.zipWith_append (by simp[h]),γ.zipWith_cons_cons,γ.take_zipWith,γ.drop_zipWith]
def J9(l:γ a)(p:Φ)(x:a):RQ.insertAt l.χ p x=(l.OC p++x::l.Pu p).χ:=by
 unfold RQ.insertAt;simp only[γ.extract_toArray,γ.push_toArray,γ.append_toArray];congr 1;simp[N6]
def eG{a:Type}(l:γ a):∀n,(γ.N2 n).W_ (λi=>l[i]?)=l.OC n
 |0=>rfl
 |n+1=>by
  rw[γ.YI,γ.filterMap_append,eG l n,Te];cases q:l[n]?<;>simp[q]
def qI{a:Type}(l:γ a):(γ.N2 l.β).χ.W_ (λi=>l.χ[i]?)=l.χ:=by
 rw[γ.filterMap_toArray];congr 1;let h:=eG l l.β;rw[SL]at h;simpa using h
abbrev av(w:Ny):MX:=!w.Oz.SI "set-order"
abbrev ba(w:Ny)(h:NR)(a:υ)(m:Φ):Prop:=∃(o:Rm)(ts:γ Xp)(ep:Φ),h.ψ a=δ o/\o.ExactSet/\ts.β=(b_ m).β/\o.NH=.RY (Pr (b_ m) ts).χ ep (ao (av w) (b_ m))
abbrev bO(led:MX)(m i:Φ):MX:=
 letI ks:=b_ m
 !(decide (i≤ks.β))||decide (RQ.below ks.χ (if i=0 then 0 else ks.MI (i-1) 0+1)=i)&&(ao led ks).Za ks.β
def uA:(γ.N2 256).P' (λm=>(γ.N2 9).P' λi=>bO ξ m i&&bO η m i)=ξ:=tj fun
 |0,_=>by decide +kernel
 |1,_=>by decide +kernel
 |2,_=>by decide +kernel
 |3,_=>by decide +kernel
 |4,_=>by decide +kernel
 |5,_=>by decide +kernel
 |6,_=>by decide +kernel
 |7,_=>by decide +kernel
 |n+8,h=>MJ h (!6)
def Hn(a:MX)(b:m<256)(c:i≤(b_ m).β):RQ.below (b_ m).χ (if i=0 then 0 else(b_ m).MI (i-1) 0+1)=i/\(ao a (b_ m)).Za (b_ m).β=ξ:=by
 let d:=(gq (k:=0) b (!0)).2.2.1;let h:=NN.mp (NN.mp uA m (Nm.Om b)) i (Nm.Om (!6));let h:bO a m i=ξ:=by
  rw[Ou]at h;cases a
  .exact h.2
  .exact h.1
 unfold bO at h;rw[NJ c]at h;simpa using h
section
variable{P:Program}{w:World}{A:Around}{E:Value->Shared->Prop}{s:Shared}{a:Addr}{m k:Nat}
def LH(h:k<8):(N3 P w).Yp (k:ML)=(k:ML):=by
 rcases k with _|_|_|_|_|_|_|_|k;any_goals rfl
 lia
def E9:∀{ks:LN}{ts:γ Xp}{e:ML×θ},e∈Pr ks ts->∃k∈ks,∃t,e=((k:ML),θ.MQ (k:ML) t,)
 |[],_,e,h=>by simp[Pr]at h
 |_::_,[],e,h=>by simp[Pr]at h
 |k::ks,t::ts,e,h=>by
  rcases MN.mp (show e∈((k:ML),θ.MQ (k:ML) t,)::Pr ks ts from h)with ζ|h
  .exact (k,!1,t,1)
  .obtain ⟨k',b,t',e'⟩:=E9 h;show(k',by simp[b],t',e')
def sD(h:∀x∈ks,x<8):ElemsOf (N3 P w) (Pr ks ts):=λe c=>by
 let⟨k,b,t,ζ⟩:=E9 c;show(((k:ML),YR _ _ _ _,(LH (h k b)).MO),1)
def nF:∀{ks:LN}{ts:γ Xp},ts.β=ks.β->((Pr ks ts).Wi (λe=>(N3 P w).is (k:ML) e.2)).Rx=decide (k∈ks)
 |[],_,_=>by simp[Pr]
 |k'::ks,t::ts,h=>by
  let b:=nF (ks:=ks) (ts:=ts) (by simpa using h);let e:(N3 P w).is (k:ML) (θ.MQ (k':ML) t)=decide (k'=k):=by
   change θ.YO (k:ML) (θ.MQ (k':ML) t)=_;by_cases c:k'=k
   .subst c;simp[θ.YO]
   .rw [M3 c];simp[θ.YO,show ¬ (k':ML)=(k:ML)from λz=>c (ML.ofNat.QG z)]
  rw[show Pr (k'::ks) (t::ts)=((k':ML),θ.MQ (k':ML) t,)::Pr ks ts from ζ,γ.findIdx?_cons];dsimp only;rw[e];by_cases c:k'=k
  .subst c;simp
  .rw [Ω (by simpa using c),ω.isSome_map,b];simp[show ¬ k=k' from λz=>c z.MO]
def J_(S:m<256)(M:k<8)(hS:ba w s.ο a m)(h:∀b h',Pd a s.ο h'->ba w h' a (m ||| 2^k)->Q b {s with ο:=h'}):BT (Cl P w) A (setAddHashed a (.MQ (k:ML) t) ((N3 P w).Yp (k:ML))) Q E s:=by
 let⟨o,ts,ep,C,R,D,H⟩:=hS;let⟨s1,s2,s3,s4⟩:=gq S M;let hz:(Pr (b_ m) ts).χ.MV=(b_ m).β:=by rw[NF,DC D]
 let hf:(ao (av w) (b_ m)).Za (Pr (b_ m) ts).χ.MV=ξ:=by rw[hz];show(Hn _ S (Nb _)).2
 let F:ElemsOf (N3 P w) (Pr (b_ m) ts).χ.ND:=sD s4;let hs:(Pr (b_ m) ts).χ.MV<scanBound:=by rw[hz];show Nk s3 (!0)
 unfold setAddHashed setAddHashedIn;refine NQ (d_ (Pw C H hf ?_));dsimp only;rw[byScan_of (VW:=N3 P w) (x:=.MQ (k:ML) t) ζ hs F,Id ζ];unfold setAddByScan;refine d_ (d_ (WE (d_ (wpAny_setScan_of (VW:=N3 P w) (YR _ _ _ _) C H hf F ?_))));let g:=nF (P:=P) (w:=w) (k:=k) D;by_cases i:k∈b_ m
 .rw [NJ i]at g;let⟨j,U⟩:=ω.isSome_iff_exists.mp g;rw[show γ.Wi _ (Pr (b_ m) ts).χ.ND<*j from U];dsimp only;refine j' (j' ?_);have:=h η s.ο (Pd.Th a s.ο) (by rw[s1 i];show(o,ts,ep,C,R,D,H));show this
 .rw [M3 i]at g;let U:γ.Wi (λe=>(N3 P w).is (k:ML) e.2) (Pr (b_ m) ts)=ε:=by
   cases q:γ.Wi (λe=>(N3 P w).is (k:ML) e.2) (Pr (b_ m) ts)with
   |ε=>rfl
   |δ j=>rw[q]at g;cases g
  rw[show γ.Wi _ (Pr (b_ m) ts).χ.ND=ε from U];dsimp only;let⟨c1,c2,X,c4,J⟩:=zD (av w) S M i;let f:(ts.OC (AZ (b_ m) k)++t::ts.Pu (AZ (b_ m) k)).β=(yl (b_ m) k).β:=by simp[yl,D]
  let hL:layNew (ao (av w) (b_ m)) (Pr (b_ m) ts).χ ((N3 P w).Yp (k:ML)) (.MQ (k:ML) t)=((Pr (yl (b_ m) k) (ts.OC (AZ (b_ m) k)++t::ts.Pu (AZ (b_ m) k))).χ,Ei (ao (av w) (b_ m)) (yl (b_ m) k),η,η,):=by
   unfold layNew;rw[LH M,c1];dsimp only;rw[c2];dsimp only;rw[J9,<-sF D];let N:(Pr ((b_ m).OC (AZ (b_ m) k)++k::(b_ m).Pu (AZ (b_ m) k)) (ts.OC (AZ (b_ m) k)++t::ts.Pu (AZ (b_ m) k))).χ.MV=(yl (b_ m) k).β:=by rw[NF];show DC f
   rw[N,RQ.orStandIn,Id X,X];rfl
  rw[hL];dsimp only;let B:(Ei (ao (av w) (b_ m)) (yl (b_ m) k)).plain=ξ:=ζ;let l:=jF f;let d:=DC f;generalize hT:Ei (ao (av w) (b_ m)) (yl (b_ m) k)=T at B c2 X J⊢;let p:∀(h':NR)(v:Rm)(r:Φ)(T':RQ),Pd a s.ο h'->h'.ψ a<*v->v.ExactSet->v.NH=.RY (Pr (yl (b_ m) k) (ts.OC (AZ (b_ m) k)++t::ts.Pu (AZ (b_ m) k))).χ r T'->T'=ao (av w) (yl (b_ m) k)->Q ξ {s with ο:=h'}:=by
   rintro h' v r T' I W g3 g4 ζ;rw[c4]at g4 f;show h ξ h' I (v,_,r,W,g3,f,g4)
  generalize Pr (yl (b_ m) k) (ts.OC (AZ (b_ m) k)++t::ts.Pu (AZ (b_ m) k))=c at l d p⊢;let y:c.χ.MV≤Λ:=by
   rw[NF,d,c4,OO];have:=(gq s2 M).2.2.1;lia
  let u:∀(h1:NR)(L:Rm)(N:Nq (ML×θ))(n1:Φ)(Z O:RQ),h1.ψ a<*L->L.NH=.RY N n1 Z->(h1.Oy a (Rm.putSet c.χ O)).ψ a<*{L with NH:=.RY c.χ (n1+1) O}:=by
   intro h1 L N n1 Z O z1 Y;let z:=N1 (Rm.putSet c.χ O) z1 (by rw[putSet_of _ _ Y];rfl);rw[putSet_of _ _ Y]at z;show z
  refine d_ (j' ?_);rw[Id B,hashByValue_scannable 8 (x:=.MQ (k:ML) t) ζ];refine d_ (j' ?_);rw[show plainKind (.MQ (k:ML) t)=ξ from ζ];simp only[We,MX.not_false,MX.true_and];refine d_ (wpAny_storeSet_of C H ?_ y);let I:=u _ _ _ _ _ T C H;let sb:=Pd.Oy s.ο a (Rm.putSet c.χ T);by_cases ct:T.tooFull=ξ
  .rw [Id ct]at J⊢;let⟨d1,d2,d3⟩:=J;let hR:relayAll T c.χ (RQ.grown c.χ.MV)=(c.χ,ao (av w) (yl (b_ m) k),η,):=by
    unfold relayAll;rw[show c.χ.NL (·.1)=((yl (b_ m) k).NL λ(n:Φ)=>(n:ML)).χ by rw[γ.map_toArray,<-l],NF,d,d1];dsimp only;rw[<-d,qI,NF,d,d2,d3];rfl
   rw[hR];refine d_ (j' (d_ (wpAny_storeSet_of I ζ ?_ y)));let W:=u _ _ _ _ _ (ao (av w) (yl (b_ m) k)) I ζ;show j' (j' (p _ _ _ _ (sb.ν (Pd.Oy _ a _)) W R ζ ζ))
  .rw [Ω ct]at J⊢;show j' (j' (p _ _ _ _ sb I R ζ J))
def bY{ns:LN}(h:i<ns.β):ns.MI i 0=ns[i]:=by rw[u6,n_ h];rfl
abbrev DY(ns:LN):Φ:=ns.foldl (λm k=>m ||| 2^k) 0
def pe(ns:LN)(k:Φ):DY (ns++[k])=DY ns ||| 2^k:=by simp[DY,γ.Ux]
def bQ(h:∀x∈ns,x<8):DY ns<256:=by
 have:∀(ns:LN)(m:Φ),(∀x∈ns,x<8)->m<256->ns.foldl (λm k=>m ||| 2^k) m<256:=by
  intro ns;induction ns with
  |Op=>show λm _ b=>b
  |NX k r d=>show λm c b=>d _ (λx e=>c x (by simp[e])) (gq b (c k (!1))).2.1
 show this ns 0 h (!0)
def ba.P_(x:ba w h a m)(e:∀o,h.ψ a<*o->h'.ψ a<*o):ba w h' a m:=by
 let⟨o,ts,c,b,r⟩:=x;show(o,ts,c,e o b,r)
def y0{St:Φ->NR->Prop}(W:Walks P w A.S0 I Y wr n Z St)(l:S∉Y)(O:ns.β=n)(D:∀x∈ns,x<8)(N:∀i v,Z i v->∃t,v=.MQ ((ns.MI i 0:Φ):ML) t):∀(j i:Φ)(s:MH),n-i=j->i≤n->St i s.ο->ba w s.ο S (DY (ns.OC i))->
   (∀(h':NR)(f:Φ),(∀b o,b∉S::wr->s.ο.ψ b<*o->h'.ψ b<*o)->ba w h' S (DY ns)->R (.ok (.UT .ε)) {s with ο:=h',MT:=f})->Qe (Cl P w) A (.Nf "set.update.loop" ([.π S,.π I],[])) R s:=by
 let hw:S∉wr:=λz=>l (W.Rp _ z);intro j;induction j with
 |TB=>
  intro i s T U st x q;cases(show i=n by lia);refine Pc Oj.Sf.F.Zn ?_;rw[N0.R5 Oj.Sf.F.VD _];change BT _ A.S0 (Up (.π I)>>=_) _ _ s;refine d_ (W.done s _ _ st λh' f g=>?_);rw[<-O,SL]at x;show j' (q h' f (λb o d e=>g b o (λz=>d (by simp[z])) e) (x.P_ λo e=>g S o hw e))
 |Sc j L=>
  intro i s T U st x q;let h:i<n:=by lia
  refine Pc Oj.Sf.F.Zn ?_;rw[N0.R5 Oj.Sf.F.VD _];change BT _ A.S0 (Up (.π I)>>=_) _ _ s;refine d_ (W.Ut i s _ _ h st λv h' f pv r g=>?_);let⟨t,ζ⟩:=N i v pv;let c:i<ns.β:=by lia
  let Q:ns.MI i 0<8:=by rw[bY c];show D _ (Nt c)
  let J:=x.P_ (h':=h') λo e=>g S o hw e;change BT _ A.S0 (holding [θ.MQ ((ns.MI i 0:Φ):ML) t] (setAdd S (.MQ ((ns.MI i 0:Φ):ML) t))>>=_) _ _ _;refine d_ (NQ ?_);unfold setAdd;refine NQ (d_ ((N3 P w).UM (k:=((ns.MI i 0:Φ):ML)) (YR _ _ _ _) ?_));refine J_ (bQ λy M=>D y (γ.mem_of_mem_take M)) Q (s:={s with ο:=h',MT:=f+1}) J λb h2 C B=>?_;rw[<-pe,bY c,γ.take_append_getElem c]at B;refine j' (R7 Oj.Sf.F.VD _,L (i+1) _ (!6) h (W.RN _ _ _ r λb d o e=>?_) B λX p u H=>?_)
  .exact (C.2 b (λz=>l (z▸d))).ν e
  .refine q X p (λb o d e=>u b o d ?_) H;show(C.2 b (λz=>d (by simp[z]))).ν (g b o (λz=>d (by simp[z])) e)
def J'(u:θ)(q:Q1 (.π s⁻¹) {s with ο:=s.ο.Ni {OM:=.MM "set",Pv:=ε,NH:=.RY #[] 0 (.OF 0 0 (av w))} }):Qe (Cl P w) A (.Ql (.Nf "set.__new__") ([.MM "set",u],[])) (wants Q1 E) s:=by
 refine Xn (show BT _ A.S0 (do checkBuiltinCall "set.__new__" ([.MM "set",u],[]);again (.Nf "set.__new__" ([.MM "set",u],[]))) _ _ s from ?_);refine d_ (RZ (Δ.F.newCall_set_1 u) (j' (R7 Δ.F.plain_set_new _,Pc Δ.F.entry_set_new ?_)));rw[N0.R5 Δ.F.plain_set_new _];unfold Builtin.«set.__new__» Builtin.Frozenset.newClass;let z:=sub_set_self;let⟨hp,g,d,b,os⟩:=s;dsimp only
 wp_walk
 refine Sr (j' ?_);dsimp only;simp only[newObj];show d_ (VM (j' (j' q)))
def uY(b:h.ψ a<*{OM:=.MM "set",Pv:=ε,NH:=.RY #[] 0 (.OF 0 0 (av w))}):ba w h a 0:=(_,[],(0),b,(5,1),5)
def zw{d:γ θ}(hh:A.PL=ε)(B:s.ο.U4 l d.χ)(hn:ns.β=d.β)(h8:∀x∈ns,x<8)(Z:∀(i:Φ)(v:θ),d[i]?<*v->∃t,v=.MQ ((ns.MI i 0:Φ):ML) t)(q:∀(h':NR)(g:Φ),ba w h' s⁻¹ (DY ns)->(∀b o,s.ο.ψ b<*o->h'.ψ b<*o)->Q (.π s⁻¹) {s with ο:=h',MT:=g}):BT (Cl P w) A (Ql (.MM "set") [.π l]) Q E s:=by
 let⟨c,tl,X⟩:=S5.mro;let I:=S5.made;let Rp:=S5.Rp;refine QM (Xn (show BT _ _ (callAny (.MM "set") _) _ _ _ from ?_));refine j' (Xr.Yl _ (!3),Pc Δ.F.entry_type_call ?_);rw[N0.under_plain (weight_type_call_type "set" [.π l] []) ζ];let k1:=S5.notType;let k2:=S5.canCreate;let k3:=Δ.F.typeCall_set_1 (.π l);repeat (any_goals (first|assumption|wp_step))
 refine PY (J' (.π l) (E:=E) (Q1:=λH D=>H=.π s⁻¹/\D={s with ο:=s.ο.Ni {OM:=.MM "set",Pv:=ε,NH:=.RY #[] 0 (.OF 0 0 (av w))} }) (1,1)) λr D u=>?_;cases r with
 |R9 e=>show u
 |ok fl=>
  cases fl with
  |UT H=>
   let⟨rfl,ζ⟩:=u;let M:(s.ο.Ni {OM:=.MM "set",Pv:=ε,NH:=.RY #[] 0 (.OF 0 0 (av w))}).ψ s⁻¹<*{OM:=.MM "set",Pv:=ε,NH:=.RY #[] 0 (.OF 0 0 (av w))}:=MS _ ζ;let N:MH.Sa {s with ο:=s.ο.Ni {OM:=.MM "set",Pv:=ε,NH:=.RY #[] 0 (.OF 0 0 (av w))} } (.π s⁻¹) "set":=(_,M,1);let k4:=S5.init.ρ;let k5:=S5.init.Wm (.π s⁻¹);repeat (any_goals (first|assumption|wp_step))
   refine PY (Ri (R:=wants (λr s2=>r=.ε/\∃h' g,s2={s with ο:=h',MT:=g}/\ba w h' s⁻¹ (DY ns)/\∀b o,s.ο.ψ b<*o->h'.ψ b<*o) E) S5.init.plain Δ.F.entry_set_init (check_set_init_1 N ?_)) λO s2 f=>?_
   .let hlS:l<s⁻¹:=let⟨_,z,_⟩:=B;lt_size z;let h:=B.Ni {OM:=.MM "set",Pv:=ε,NH:=.RY #[] 0 (.OF 0 0 (av w))};let⟨S,y,n,U,j⟩:=B;let⟨oc,T,oD,os⟩:=S;simp only at n j;subst n;subst j;let J:(s.ο.Ni {OM:=.MM "set",Pv:=ε,NH:=.RY #[] 0 (.OF 0 0 (av w))}).ψ l<*{OM:=.MM "list",Pv:=T,NH:=.Sx d.χ U,Rw:=os}:=sy _ y;let k6:=Δ.F.sub_list_set;let k7:=Δ.F.sub_list_frozenset;let k8:(θ.MM "list"==θ.MM "dict")=η:=by decide
    unfold Builtin.«set.__init__» noKeywords Builtin.Frozenset.updateFrom;generalize C:VR=PI
    wp_walk
    subst C;refine RT h (d_ (X8 ?_));let Y:A.S0.S0.S0.PL=ε:=by simp[hh]
    let n1:l≠(s.ο.Ni {OM:=.MM "set",Pv:=ε,NH:=.RY #[] 0 (.OF 0 0 (av w))}).Np.MV:=by rw[Pb];show M8 (QF hlS)
    let W:s⁻¹∉[(s.ο.Ni {OM:=.MM "set",Pv:=ε,NH:=.RY #[] 0 (.OF 0 0 (av w))}).Np.MV,l]:=by
     rw[Pb];simp only[MN,NW,N9,not_or];show(M8 (OA _),Qc hlS)
    refine y0 (Walks.Qt Y _ l n1 d.χ) W (by rw[hn,NF]) h8 (λi v z=>Z i v (by simpa using z)) _ 0 _ ζ (Nb _) ((_,MS _ ζ,5),h.Ni _) (uY (sy _ M)) λh' g p x=>?_;refine j' (j' (1,h',g,1,x,λb o e=>p b o ?_ (sy _ (sy _ e))));let L:=lt_size e;simp only[MN,NW,N9,not_or];refine(M8 L,3);rw[Pb];show M8 (QF L)
   .cases O with
    |R9 e=>show f
    |ok f2=>
     cases f2 with
     |UT r=>
      let⟨rfl,h',g,ζ,x,p⟩:=f;repeat (any_goals (first|assumption|wp_step))
      show q _ _ x p
     |_=>show f.Nv
  |_=>show u.Nv
end
def b_u:Slot "set_iterator" "__next__" "set_iterator.__next__":=.of (owner:="set_iterator") (n:="__next__") (by rw[U8,Sl];kernel_rfl) (!3) (!3) (!3) (by first|show .NI (!3)|show .NT (!3)) (by rw[VX];kernel_rfl)
def LI:Slot "set_iterator" "__iter__" "set_iterator.__iter__":=.of (owner:="set_iterator") (n:="__iter__") (by rw[U8,Sl];kernel_rfl) (!3) (!3) (!3) (by first|show .NI (!3)|show .NT (!3)) (by rw[VX];kernel_rfl)
def LJ:entryFor table "set_iterator.__next__"<*Builtin.«set_iterator.__next__»:=entryFor_of_fast (by kernel_rfl)
def dU:entryFor table "set_iterator.__iter__"<*Builtin.«dict_keyiterator.__iter__»:=entryFor_alias (id':="dict_keyiterator.__iter__") (by kernel_rfl) ζ (!3) (by kernel_rfl)
def g6:entryFor table "set.__iter__"<*Builtin.«frozenset.__iter__»:=entryFor_alias (id':="frozenset.__iter__") (by kernel_rfl) ζ (!3) (by kernel_rfl)
def LK(a:θ):argsOk "set_iterator.__next__" ([a],[]):=by unfold argsOk;kernel_rfl
def ij(a:θ):argsOk "set_iterator.__iter__" ([a],[]):=by unfold argsOk;kernel_rfl
def sG{a:Type}:∀{l:γ a}{i:Φ}(h:i<l.β),(l[i]::l.eraseIdx i).Xq l
 |x::l,0,_=>.Th _
 |x::l,i+1,h=>by
  let h':i<l.β:=by simpa using h
  change (l[i]::x::l.eraseIdx i).Xq (x::l);show(Xq.swap _ _ _).ν ((sG h').NX x)
def qJ{b:Type}(next:Φ->Φ):∀(n k:Φ)(l:γ b)(TF:Nq b),l.β=n->(SN.go next n k l TF).ND.Xq (TF.ND++l)
 |0,k,l,TF,h=>by
  cases PB.mp h;simp[SN.go]
 |n+1,k,l,TF,h=>by
  let a:next k%l.β<l.β:=Φ.mod_lt _ (!6);unfold SN.go;rw[n_ a];dsimp only;refine(qJ next n (k+1) _ _ (by rw[γ.length_eraseIdx_of_lt a];lia)).ν ?_;rw[Nq.toList_push,NY];refine Xq.append_left _ ?_;show sG a
def oM(next:Φ->Φ)(l:γ a):(SN next l.χ).ND.Xq l:=by
 unfold SN;have:=qJ next l.χ.MV 0 l.χ.ND #[] ζ;simpa using this
abbrev cq(w:Ny)(a:υ)(m:Φ)(ts:γ Xp)(ep:Φ):γ θ:=
 if w.Oz.SI "set-order"=ξ then(SN (w.Oz.YG a ep) (Pr (b_ m) ts).χ).ND.NL (·.2)else(Pr (b_ m) ts).NL (·.2)
def e_Q:(cq w a m ts b).Xq ((Pr (b_ m) ts).NL (·.2)):=by
 unfold cq;split
 .exact (oM _ _).NL _
 .exact .Th _
abbrev Si(w:Ny)(m i:Φ):Φ:=if w.Oz.SI "set-order"=ξ then 0 else if i=0 then 0 else(b_ m).MI (i-1) 0+1
section
variable{P:Program}{w:World}{A:Around}{E:Value->Shared->Prop}{s:Shared}{a I:Addr}{m i ep:Nat}{oS:Obj}{ts:List Tok}
def iN(o:m<256)(h:ts.β=(b_ m).β)(n:s.ο.ψ a<*oS)(q:oS.NH=.RY (Pr (b_ m) ts).χ ep (ao (av w) (b_ m)))(r:i≤(b_ m).β)(h1:∀v,(cq w a m ts ep)[i]?<*v->Q (δ (v,Si w m (i+1),)) s)(h2:i=(b_ m).β->Q ε s):BT (Cl P w) A (setNext a (Si w m i) i ep) Q E s:=by
 let hz:(Pr (b_ m) ts).χ.MV=(b_ m).β:=by rw[NF,DC h]
 let p:(ao (av w) (b_ m)).Za (Pr (b_ m) ts).χ.MV=ξ:=by rw[hz];show(Hn _ o (Nb _)).2
 let j:(cq w a m ts ep).β=(b_ m).β:=by rw[e_Q.length_eq,ol,DC h]
 unfold setNext;refine d_ (Pw n q p ?_);dsimp only;unfold setsByText;refine d_ (d_ (Sr (j' ?_)));dsimp only;by_cases c:w.Oz.SI "set-order"=ξ
 .rw [show(Cl P w).w.Oz.SI "set-order"=ξ from c,Id ζ];rw[Ω (!1)];let l:Si w m i=0:=by unfold Si;rw[Id c]
  let k:Si w m (i+1)=0:=by unfold Si;rw[Id c]
  rw[l];unfold setWalk;refine d_ (d_ (Pw n q p ?_));dsimp only;unfold setsByText;refine d_ (d_ (Sr (j' ?_)));dsimp only;rw[show(Cl P w).w.Oz.SI "set-order"=ξ from c,Id ζ];refine d_ (Sr (j' (j' ?_)));let f:cq w a m ts ep=(SN (w.Oz.YG a ep) (Pr (b_ m) ts).χ).ND.NL (·.2):=Id c;rw[k,f]at h1;rw[f,ol]at j;by_cases d:i<(b_ m).β
  .let b:i<(SN (w.Oz.YG a ep) (Pr (b_ m) ts).χ).ND.β:=by lia
   let g:=h1 _ (by rw[tS,n_ b];rfl);change Q (((SN (w.Oz.YG a ep) (Pr (b_ m) ts).χ)[i]?).NL _) s;rw[<-Qa,n_ b];show g
  .change Q (((SN (w.Oz.YG a ep) (Pr (b_ m) ts).χ)[i]?).NL _) s;rw[<-Qa,Ph (!6)];show h2 (!6)
 .let cf:w.Oz.SI "set-order"=η:=by simpa using c
  rw[show(Cl P w).w.Oz.SI "set-order"=η from cf];rw[Ω MX.M9];refine RG (λz=>MJ z λy=>MX.M9 y) λ_=>?_;let e:av w=ξ:=by unfold av;rw[cf];rfl
  refine d_ (show BT _ _ (if (!(av w)&&!(Pr (b_ m) ts).χ.SE)=ξ then _ else _) _ _ _ from ?_);rw[e];refine RG (λz=>MJ z λy=>MX.M9 y) λ_=>j' ?_;let l:Si w m i=if i=0 then 0 else(b_ m).MI (i-1) 0+1:=by unfold Si;rw[Ω c]
  let k:Si w m (i+1)=(b_ m).MI i 0+1:=by unfold Si;rw[Ω c,Ω (!6)];rfl
  let t:RQ.below (ao ξ (b_ m)).Ra (Si w m i)=i:=by rw[l];show(Hn ξ o r).1
  let f:cq w a m ts ep=(Pr (b_ m) ts).NL (·.2):=Ω c;rw[k,f]at h1;refine j' ?_;rw[t];by_cases d:i<(b_ m).β
  .let b:i<(Pr (b_ m) ts).β:=by rw[DC h];show d
   let g:=h1 _ (by rw[tS,n_ b];rfl);rw[show(Pr (b_ m) ts).χ[i]?<*(Pr (b_ m) ts)[i] by simp[b],show(ao ξ (b_ m)).Ra[i]?<*(b_ m)[i] by simp[ao,d]];rw[bY d]at g;show g
  .rw [show(Pr (b_ m) ts).χ[i]?=ε by simp[DC h];lia];show h2 (!6)
abbrev Ka(w:Ny)(h:NR)(I a:υ)(m i ep:Φ):Prop:=∃o,h.ψ I=δ o/\o.OM=.MM "set_iterator"/\o.NH=.N_ #[Nw (Si w m i),Nw i,.π a,Nw (b_ m).β,Nw ep]
def Ka.MM(x:Ka w s.ο I a m i ep):s.Sa (.π I) "set_iterator":=let⟨o,b,c,_⟩:=x;(o,b,c)
def xS(J:A.PL=ε)(p:m<256)(j:ts.β=(b_ m).β)(t:oS.NH=.RY (Pr (b_ m) ts).χ ep (ao (av w) (b_ m)))(u:a≠I):Walks P w A I [I,a] [I] (b_ m).β (λi v=>(cq w a m ts ep)[i]?<*v) (λi h=>Ka w h I a m i ep/\h.ψ a<*oS) where
 Rp:=λb l=>by simp at l;simp[l]
 RN:=λi h h' st k=>by
  let⟨⟨o,f,r⟩,g⟩:=st;show((o,k I (!1) o f,r),k a (!1) _ g)
 Ut:=λi s Q E D st q=>by
  let⟨x,g⟩:=st;let d:=x.MM;let⟨o,f,F,c⟩:=x;let y:(ao (av w) (b_ m)).Za (Pr (b_ m) ts).χ.MV=ξ:=by rw[NF,DC j];show(Hn _ p (Nb _)).2
  unfold Up;refine d_ (S7 (OR (OD:=M'.Nd "__next__") d b_u (Oe b_u d LJ ?_ (LK _))));refine d_ (j' (d_ (wpAny_fieldsOf f c ?_)));change BT _ _ (WF a>>=_) _ _ s;unfold WF;refine d_ (d_ (Pw g t y (j' ?_)));rw[NF,DC j];refine RG (λz=>MJ z (!1)) λ_=>?_;refine d_ (iN (i:=i) p j g t (Pn D) (λv n=>?_) λz=>MJ z (M8 D));change BT _ _ (VP (.π I) 0 (Nw (Si w m (i+1)))>>=_) _ _ s;let H:=N1 (O2 (·.NV 0 (Nw (Si w m (i+1))))) f (PU (OS c _));let d1:=OS c (·.NV 0 (Nw (Si w m (i+1))));refine d_ (QL f c (!1) (d_ (QL H d1 (!1) ?_)));let L:=N1 (O2 (·.NV 1 (Nw ((i:ML)+1)))) H (PU (OS d1 _));let d2:=OS d1 (·.NV 1 (Nw ((i:ML)+1)));let B:=(Pd.Oy s.ο I (O2 (·.NV 0 (Nw (Si w m (i+1)))))).ν (Pd.Oy _ I (O2 (·.NV 1 (Nw ((i:ML)+1)))));refine j' (0,j' (q v _ s.MT n ((_,L,3,3),(B.2 a u).ν g) λb C l e=>(B.2 b (λz=>l (by simp[z]))).ν e))
  .rw [Rm.Ys,Rm.Ys];show F
  .rw [d2];simp[Nw]
 done:=λs Q E st q=>by
  let⟨x,g⟩:=st;let d:=x.MM;let⟨o,f,F,c⟩:=x;let y:(ao (av w) (b_ m)).Za (Pr (b_ m) ts).χ.MV=ξ:=by rw[NF,DC j];show(Hn _ p (Nb _)).2
  unfold Up;refine d_ (S7 (OR (OD:=M'.Nd "__next__") d b_u (Oe b_u d LJ ?_ (LK _))));refine d_ (j' (d_ (wpAny_fieldsOf f c ?_)));change BT _ _ (WF a>>=_) _ _ s;unfold WF;refine d_ (d_ (Pw g t y (j' ?_)));rw[NF,DC j];refine RG (λz=>MJ z (!1)) λ_=>?_;refine d_ (iN (i:=(b_ m).β) p j g t (LT _) (λv n=>?_) λ_=>?_)
  .rw [Ph (by rw[e_Q.length_eq,ol,DC j];show LT _)]at n;cases n
  .change BT _ _ (VP (.π I) 2 .ε>>=_) _ _ s;refine d_ (QL f c (!1) (d_ ?_));simp only[newExc,newTuple];refine d_ (Oh ?_ (by size_fits));refine d_ (m:=Va _ _) (RZ (a:=θ.ε) (by first|rfl|(simp only[Va];rfl)) (Oh ?_ (by size_fits)));simp only[Z3];refine d_ (Yh ?_);rw[show A.S0.PL=ε from J];refine d_ (j' (VH ?_));refine d_ (So (T:="StopIteration") (b:=ξ) (_,MS _ ζ,1) YN (j' (q _ s.MT λb C l e=>?_)));show((Pd.Oy s.ο I (O2 (·.NV 2 .ε))).S3.Ni _).Ni _ b C (λz=>l (by simp[z])) e
 Yj:=λi s Q E st q=>by
  let d:=st.1.MM;refine wpAny_pyIter_slot d LI (Oe LI d dU (show BT _ _ (UT (.π I)) _ _ s from ?_) (ij _));show j' (0,"set_iterator",_,d,b_u.ρ,q)
def ze(j:m<256)(f:ts.β=(b_ m).β)(b:s.ο.ψ a<*oS)(h:oS.ExactSet)(d:oS.NH=.RY (Pr (b_ m) ts).χ ep (ao (av w) (b_ m)))(q:Q (.π s⁻¹) {s with ο:=s.ο.Ni {OM:=.MM "set_iterator",NH:=.N_ #[Nw (Si w m 0),Nw (0:Φ),.π a,Nw (b_ m).β,Nw ep]} }):BT (Cl P w) A (VR (.π a)) Q E s:=by
 let g:s.Sa (.π a) "set":=(oS,b,h.1);let c:(ao (av w) (b_ m)).Za (Pr (b_ m) ts).χ.MV=ξ:=by rw[NF,DC f];show(Hn _ j (Nb _)).2
 refine wpAny_pyIter_slot g Δ.F.slot_set_iter (Oe Δ.F.slot_set_iter g g6 ?_ (Δ.F.args_set_iter_1 _));unfold Builtin.«frozenset.__iter__»;refine d_ (show BT _ _ (pure a) _ _ s from j' ?_);unfold Builtin.Frozenset.sizeOf WF;refine d_ (d_ (d_ (Pw b d c (j' (j' ?_)))));unfold setDrawn;refine d_ (d_ (Pw b d c ?_));unfold setsByText;refine d_ (d_ (Sr (j' (j' ?_))));let e:(!(Cl P w).w.Oz.SI "set-order"&&η)=η:=by simp
 refine RG (λz=>MJ (e.MO.ν z) MX.M9) λ_=>d_ (j' ?_);unfold setEpoch;refine d_ (d_ (Pw b d c (j' ?_)));refine d_ (Oh (j' (0,"set_iterator",_,(_,MS _ ζ,1),b_u.ρ,3)));let k:(Si w m 0:ML)=0:=by unfold Si;split<;>rfl
 rw[k]at q;simpa[Nw,DC f]using q
def zq(d:s.Sa (.π a) "set")(h:Q η s):BT (Cl P w) A (Builtin.γ.YL (.π a)) Q E s:=by
 unfold Builtin.γ.YL;refine d_ (U7 d Δ.F.slot_set_len.ρ ?_);generalize c:("set.__len__":Yc)=e
 wp_delta
 rw[show splitId e<*("set","__len__",)from by subst c;decide +kernel];subst c;refine d_ (So (T:="set") (b:=ξ) d (by rw[VX];kernel_rfl) (RG (λz=>MJ z (!0)) λ_=>?_));show RG (λ_=>d_ (WR d (j' h))) λz=>MJ (!3) z
def zW(d:m<256)(e:ts.β=(b_ m).β)(c:oS.ExactSet)(f:oS.NH=.RY (Pr (b_ m) ts).χ ep (ao (av w) (b_ m))):Δ.W.KdlSrc P w "set" a a (b_ m).β (λi v=>(cq w a m ts ep)[i]?<*v) (λh=>h.ψ a<*oS) where
 MM:=λ_ b=>(oS,b,c.1)
 QO:=λ_ b=>(lt_size b,lt_size b)
 P_:=λ_ _ b k=>k a (.NI ζ) _ b
 notList:=by decide
 notTuple:=by decide
 hint:=λ_ _ _ _ b q=>zq (oS,b,c.1) q
 Qr:=λ_ _ g b=>(_,_,(λ_ _ q=>ze d e b c f q),xS g d e f (M8 (lt_size b)),((_,MS _ ζ,5),sy _ b))
def nE:∀{ks:LN}{ts:γ Xp},ts.β=ks.β->S' ((Pr ks ts).NL (·.2)) (ks.NL λ(n:Φ)=>(n:ML))
 |[],_,_=>.Op
 |k::ks,t::ts,h=>.NX (k:ML) t (nE (by simpa using h))
def pD(p:g.Xq l):∀{ns:γ ML},S' l ns->∃b,S' g b/\b.Xq ns:=by
 induction p with
 |Op=>show λh=>(_,h,.Th _)
 |NX x p j=>
  intro ns h;cases h with
  |NX n t h=>
   let⟨b,d,c⟩:=j h;show(n::b,.NX n t d,c.NX n)
 |swap x y l=>
  intro ns h;cases h with
  |NX n t h=>cases h with
   |NX f t' h=>show(_,.NX f t' (.NX n t h),.swap _ _ _)
 |ν r q i1 i2=>
  intro ns h;let⟨n1,d,c⟩:=i2 h;let⟨e,o,k⟩:=i1 d;show(e,o,k.ν c)
def vm(m:Φ):((b_ m).NL λ(n:Φ)=>(n:ML)).Pairwise (·≤·):=by
 rw[γ.pairwise_map];show((γ.pairwise_lt_range (n:=8)).SJ _).Wc λh=>by lia
def zv(K:Δ.W.KdlSrc P w T a a n u OK)(B:A.PL=ε)(j:OK s.ο)(v:n≤Λ)(q:∀(h':NR)(h:Φ)(d:Nq θ),s⁻¹≤h'.Np.MV->(∀b o,s.ο.ψ b<*o->h'.ψ b<*o)->ItemsOf u d n->R d.ND {s with ο:=h',MT:=h}):BT (Cl P w) A (collect (.π a)) R E s:=by
 let t:=(K.QO _ j).1;unfold collect;refine d_ (X8 (Pc entry_proto_collect' ?_));rw[N0.R5 Δ.F.plain_proto_collect _];refine(show BT _ A.S0 (newList []>>=λl=>again (.Nf "list.__iadd__" ([l,.π a],[]))) _ _ s from d_ (Oh (j' (R7 Δ.F.plain_list_iadd _,Pc entry_list_iadd' ?_))));rw[N0.R5 Δ.F.plain_list_iadd _];let C:(s.ο.Ni {OM:=.MM "list",NH:=.Sx ([]:γ θ).χ}).ψ s⁻¹<*{OM:=.MM "list",NH:=.Sx #[]}:=MS _ ζ;let p:=Δ.W.kdl_extend (A:=A) (s:={s with ο:=s.ο.Ni {OM:=.MM "list",NH:=.Sx ([]:γ θ).χ} })
  (R:=λ(r:Result)(s':MH)=>∃(h':NR)(h:Φ)(d:Nq θ)(c:Φ),r=.ok (.UT (.π s⁻¹))/\s'={s with ο:=h',MT:=h}/\(∀b o,s.ο.ψ b<*o->h'.ψ b<*o)/\
   h'.ψ s⁻¹=δ {OM:=.MM "list",Pv:=ε,NH:=.Sx d c,Rw:=#[]}/\ItemsOf u d n)
  K B (K.P_ _ _ j λb _ o e=>sy _ e) s⁻¹ (Qc t) (Qc t) (.π s⁻¹) 0 C
  (λh' h d c k g z=>(h',h,d,c,5,λb o e=>k b o (M8 (lt_size e)) (sy _ e),g,z)) v
 refine(show BT _ A.S0 (Builtin.γ.VV (.π s⁻¹) (.π a) (.π s⁻¹)) _ _ _ from NG p (λf s' x=>?_) λe s' x=>?_)
 .cases f with
  |done f=>
   let⟨h',h,d,c,e,ζ,k,g,z⟩:=x;cases e;show(show BT _ A (load s⁻¹>>=_) _ _ _ from d_ (YA g (j' (q h' h d (Pn (lt_size g)) k z))))
  |again c1=>
   refine(x.1,PY x.2 λr s2 y=>?_);let⟨h',h,d,c,ζ,ζ,k,g,z⟩:=y;show(show BT _ A (load s⁻¹>>=_) _ _ _ from d_ (YA g (j' (q h' h d (Pn (lt_size g)) k z))))
 .obtain ⟨_,_,_,_,e',_⟩:=x;cases e'
def yu(N:A.PL=ε)(t:m<256)(S:ba w s.ο a m)(q:∀(p:υ)(h':NR)(h n:Φ)(vs:γ θ),s⁻¹≤p->(∀b o,s.ο.ψ b<*o->h'.ψ b<*o)->S' vs ((b_ m).NL λ(n:Φ)=>(n:ML))->h'.ψ p<*{OM:=.MM "list",NH:=.Sx vs.χ n}->Q (.π p) {s with ο:=h',MT:=h}):BT (Cl P w) A (Ql (.Nf "sorted") [.π a]) Q E s:=by
 let⟨oS,ts,ep,M,L,u,R⟩:=S;refine Δ.R_.call_function_entry kind_sorted plain_sorted entry_sorted (args_sorted1 _) ?_;unfold Builtin.«sorted»;refine d_ (m:=checkCount "sorted" 1 1 _) (j' (d_ (zv (A:=A.S0) (zW (P:=P) t u L R) N M (by rw[OO];have:=(gq (k:=0) t (!0)).2.2.1;lia) λh' h c V6 C f=>?_)));let d:c.ND.β=(b_ m).β:=by rw[Pl];show f.1
 let U:=(gq (k:=0) t (!0)).2.2.1;let r:(cq w a m ts ep).β=(b_ m).β:=by rw[e_Q.length_eq,ol,DC u]
 let g:c.ND=cq w a m ts ep:=by
  refine γ.XU (by rw[d,r]) λj H F=>?_;have:(cq w a m ts ep)[j]?<*c.ND[j]:=f.2 j c.ND[j] (by rw[<-Qa];show n_ H);rw[n_ F]at this;show(ω.δ.QG this).MO
 refine d_ (wpAny_newList ?_ (by rw[d,OO];omega));let v:(h'.Ni {OM:=.MM "list",NH:=.Sx c.ND.χ}).ψ h'.Np.MV<*seqObj "list" c.ND.χ 0:=MS _ ζ;let B:∃ns,S' c.ND ns/\ns.Xq ((b_ m).NL λ(n:Φ)=>(n:ML)):=by
  rw[g];show pD e_Q (nE u)
 let⟨ns,B,hp⟩:=B;refine d_ (NQ ?_);refine Oe slot_list_sort (_,v,1) entry_list_sort (list_sort_tree v B (by rw[d];omega) λTF l i1 i2 J=>?_) (args_list_sort _);let T:l=(b_ m).NL λ(n:Φ)=>(n:ML):=Xq.eq_of_pairwise (λx y _ _ h1 h2=>ML.Rc h1 h2) J (vm m) (i2.ν hp);subst T;refine(0,j' (0,3));let⟨e,O⟩:=sortedHeap_at (TF:=TF) v;refine q h'.Np.MV _ h e TF.ND ?_ (λb o z=>?_) i1 (by simpa using O)
 .exact V6
 .let D:=lt_size (C b o z);show(sortedHeap_old (M8 D) (by rw[size_push'];show QF D)).ν (sy _ (C b o z))
end
end L2
namespace RA
open PyProof.Rows L2
abbrev wI(w:Ny)(a:υ)(m:Φ):HO:=.ext λh=>ba w h a m
def t8(x:ba w h a m):Az P w H h a (wI w a m):=(x,let⟨o,_,_,e,_⟩:=x;(o,e),λh1 h2 z k=>ba.P_ z λo e=>k o e)
def ng:∀{ns:LN}{us:γ θ},ae (c_ ns) us->∀(i:Φ)(v:θ),us[i]?<*v->∃t,v=.MQ ((ns.MI i 0:Φ):ML) t
 |[],_,r,i,v,e=>by cases r;simp at e
 |n::ns,_,r,i,v,e=>by
  cases r with
  |NX q a=>
   let⟨t,ζ⟩:=q;cases i with
   |TB=>cases e;show(t,1)
   |Sc i=>show ng a i v e
def d_D:∀{ns:LN}{vs:γ θ},S' vs (ns.NL λ(n:Φ)=>(n:ML))->ae (c_ ns) vs
 |[],_,h=>by cases h;show .Op
 |n::ns,_,h=>by cases h with|NX _ t h=>show .NX (t,1) (d_D h)
section
variable{X:Cx}
def pR(j:X.T0=ξ):Dc X (.MM "set") (λxs H Q=>∃(p:υ)(ns:LN),xs=[.π p]/\o5 X.K H p (c_ ns)/\(∀n∈ns,n<8)/\∀a,H a=ε->Q (.π a) (MR H a (wI X.w a (DY ns)))):=by
 intro c s l H xs us Q I r h;let⟨p,ns,ζ,i,k,q⟩:=h;let⟨u,ζ,e⟩:=Do r;cases e;let⟨g,b,pl,hz⟩:=I.Qt i;refine zw (ns:=ns) (I.ok.hd j) pl.QS (by rw[<-b.β];simp[c_]) k (ng b) λh' d x f=>?_;show(.π s⁻¹,_,I.Tw (t':=d) f (LT _) (t8 x),1,q _ (I.Oc.OF (LT _)))
def mn(i:X.T0=ξ):Dc X (.Nf "sorted") (λxs H Q=>∃(a:υ)(m:Φ),xs=[.π a]/\m<256/\H a=δ (wI X.w a m)/\∀p,H p=ε->Q (.π p) (MR H p (.M5 (c_ (b_ m))))):=by
 intro b s t H xs us Q I r h;let⟨a,m,ζ,c,j,q⟩:=h;let⟨u,ζ,e⟩:=Do r;cases e;refine yu (I.ok.hd i) c (show ba X.w s.ο a m from(I.Oc a _ j).1) λp h' d n vs hp f l g=>?_;refine(.π p,_,I.Tw (t':=d) (o:=.M5 (c_ (b_ m))) f hp (3,vs,n,d_D l,g),1,q _ (I.Oc.OF hp));have:=(gq (k:=0) c (!0)).2.2.1;rw[c_,ol,OO];lia
end
end RA
namespace RA
section
variable{g:LN->Nat->LN}{s:LN}{L:LN}{ks ws R:LL}{Bm:List Bool}{k m:Nat}
def ke(b:Bf g L s ks ws ks.β 0)(a:Dg g L.β ks R)(e:R.β=ks.β)(hw:ws[i]?<*w):(∀c∈w,c∈L)/\PD L R 0 w=i:=by
 let d:i<ks.β:=by rw[b.PJ];show(q5 hw).1
 let⟨l1,l2⟩:=b.lead i ks[i] w (n_ d) hw;refine(l1,3);let h1:=J8 b a e _ w ζ l1;rw[l2]at h1;show gO b.nd h1 (n_ d)
def iy(n:CH L)(d:Bf g L s ks ws ks.β 0)(a:Dg g L.β ks R)(l:R.β=ks.β)(hw:ws[i]?<*w)(e:∀c∈v,c∈L)(h:PD L R 0 v=i):AF L v w=η:=by
 let⟨j,b,p,f,o⟩:=d.told n.nd v _ ζ e;let h1:=J8 d a l _ v ζ e;rw[h]at h1;have:j=i:=gO d.nd p h1;rw[this,hw]at f;cases f;show o
def jB(a:g_ L R Bm)(st:Rd R Bm (k+1)=Rd R Bm k)(b:bb (Rd R Bm k) m)(l:r<(AM R (Rd R Bm k) m).β)(j:t<(AM R (Rd R Bm k) m).β)(e:∀u:LN,(∀c∈u,c∈L)->(Dh Bm (Rd R Bm k) m).MI (PD L (AM R (Rd R Bm k) m) r u) η=(Dh Bm (Rd R Bm k) m).MI (PD L (AM R (Rd R Bm k) m) t u) η):r=t:=by
 rw[AM,ol,OB]at l j;let⟨h,i⟩:=Cv b a l;let⟨f,s2⟩:=Cv b a j;have:=Je a k h f λu d=>by
  let n:=e u d;rw[<-i,<-s2,Gn b a st h d,Gn b a st f d,HZ b a (De a h d),HZ b a (De a f d)]at n;show n
 rw[i,s2]at this;show this
def Ih(q:Bf g L s ks ws ks.β 0)(d:Dg g L.β ks R)(x:R.β=ks.β)(a:g_ L R Bm)(st:Rd R Bm (k+1)=Rd R Bm k)(h:bb (Rd R Bm k) m):∃v,BI L (AM R (Rd R Bm k) m) (Dh Bm (Rd R Bm k) m) v:=by
 let f:(AM R (Rd R Bm k) m).β=m:=by rw[AM,ol,OB]
 let r:ws.β=R.β:=by rw[x,q.PJ]
 let b:∀{i:Φ},i<R.β->ws[i]?<*ws.MI i []:=λ{i}C=>by
  rw[u6,n_ (by rw[r];show C)];rfl
 let l0:r_ R Bm k 0=0:=xP a;let A:∀{u:LN},(∀c∈u,c∈L)->PD L (AM R (Rd R Bm k) m) 0 u=r_ R Bm k (PD L R 0 u):=λ{u}o=>by
  have:=Gn h a st a.n1 o;rw[l0]at this;show this
 refine(λj=>ws.MI ((Rd R Bm k).M0 j) [],GI h a,(λj l=>?_,λi j w l=>?_,λu o=>?_),λn B e=>jB a st h n B e)
 .rw [f]at l;let⟨E,D⟩:=Cv h a l;let⟨y,w2⟩:=ke q d x (b E);refine(y,3);rw[A y,w2];show D
 .rw [f]at l;let p:=nu h a w l;show q.srt _ _ _ _ p (b (P9 p (Cv h a l).1)) (b (Cv h a l).1)
 .rw [A o];let n:=De a a.n1 o;let t:=vP (k:=k) a n;let h1:=iy a.lt q d x (b n) o ζ;rcases Φ.lt_or_eq_of_le t with z|z
  .let h2:=q.srt _ _ _ _ z (b (P9 z n)) (b n);cases e:AF L u (ws.MI ((Rd R Bm k).M0 (r_ R Bm k (PD L R 0 u))) [])with
   |η=>rfl
   |ξ=>rw[By e h2]at h1;cases h1
  .change AF L u (ws.MI ((Rd R Bm k).M0 (r_ R Bm k (PD L R 0 u))) [])=η;rw[z];show h1
end
end RA
namespace L2
open RA
abbrev bF(ts:γ (υ×γ (Sn×M')))(H:Hp):Prop:=∀p∈ts,A_ H p.1 p.2
structure KT(ts:List (Addr×List (Pos×Str)))(H H':Hp):Prop where
 sm:Ch H H'
 tb:bF ts H->bF ts H'
section
variable{ts:List (Addr×List (Pos×Str))}{H H1 H':Hp}
def KT.of(s:a' H H'):KT ts H H':=(Ch.of s,λh p hp=>Gm (h p hp) s)
def KT.ν(a:KT ts H H1)(b:KT ts H1 H'):KT ts H H':=(a.sm.ν b.sm,λh=>b.tb (a.tb h))
def zL(s:Cu P0 H H')(j:A_ H P0 OL)(i:P1≠P0)(h:A_ H P1 a):A_ H' P1 a:=by
 let⟨e,c,_⟩:=j;let⟨ps,k,g,b⟩:=h;refine(ps,s _ _ i k,g,λx f=>(b x f).Wc id λ⟨m,l,d⟩=>(m,l,s _ _ (λz=>?_) d));rw[z,c]at d;cases d
def KT.Z8(c:(ts.NL Uj.fst).Nx)(d:(P,OL,)∈ts)(s:Cu P H H')(h:A_ H P OL)(h':A_ H' P OL):KT ts H H':=by
 refine(Ch.Z8 s h,λa p hp=>?_);by_cases e:p.1=P
 .have:p=(P,OL,):=by
   let⟨i,g,ζ⟩:=γ.getElem_of_mem hp;let⟨j,f,b⟩:=γ.getElem_of_mem d;let k:(ts.NL Uj.fst)[i]'(by rw[ol];show g)=(ts.NL Uj.fst)[j]'(by rw[ol];show f):=by
    rw[γ.getElem_map,γ.getElem_map,b];show e
   have:=(UG c).mp k;subst this;show b
  rw[this];show h'
 .exact zL s h e (a p hp)
def KT.Se(k:KT ts H H')(h:zl H m L W B):zl H' m L W B:=h.QN k.sm.No
end
abbrev AX(L:LN)(W:LL)(B:γ MX)(u:LN):MX:=B.MI (PD L W 0 u) η
abbrev P8(H:Hp)(d:υ):Prop:=∃(l l2:υ)(part:V)(xs ys:γ V),H d=δ (Bb d [("words",.π l,),("tails",.π l2,),("part",part,)])/\H l=δ (.M5 xs)/\H l2<*.M5 ys
inductive gp(cTM:Addr)(ts:List (Addr×List (Pos×Str)))(op:(LN->Bool)->LN->Prop)(vs:List V)(H:Hp)(Q:VK)(E:XK):Prop
 |mk (m:Addr) (L:LN) (W:LL) (B:List Bool) (_:vs=[.ref m]) (_:zl H m L W B) (_:g_ L W B) (_:W.length≤8) (_:bF ts H) (_:(∀d H',KT ts H H'->P8 H' d->E (.ref cTM) (some d) H')) (_:∀(f:Addr)(W':LL)(B':List Bool)(H':Hp),KT ts H H'->zl H' f L W' B'->g_ L W' B'->W'.length≤8->(∃v,BI L W' B' v)->(∀u:LN,(∀c∈u,c∈L)->(AX L W' B' u=true↔op (AX L W B) u))->Q (.ref f) H')
inductive bC(cTM:Addr)(ts:List (Addr×List (Pos×Str)))(op:(LN->Bool)->(LN->Bool)->LN->Prop)(vs:List V)(H:Hp)(Q:VK)(E:XK):Prop
 |mk (m m2:Addr) (L:LN) (W1 W2:LL) (B1 B2:List Bool) (_:vs=[.ref m,.ref m2]) (_:zl H m L W1 B1) (_:g_ L W1 B1) (_:zl H m2 L W2 B2) (_:g_ L W2 B2) (_:W1.length≤8) (_:W2.length≤8) (_:bF ts H) (_:(∀d H',KT ts H H'->P8 H' d->E (.ref cTM) (some d) H')) (_:∀(f:Addr)(W':LL)(B':List Bool)(H':Hp),KT ts H H'->zl H' f L W' B'->g_ L W' B'->W'.length≤8->(∃v,BI L W' B' v)->(∀u:LN,(∀c∈u,c∈L)->(AX L W' B' u=true↔op (AX L W1 B1) (AX L W2 B2) u))->Q (.ref f) H')
abbrev cR(P Q:LN->MX)(u:LN):Prop:=∃x v,u=x++v/\P x=ξ/\Q v=ξ
abbrev cQ(P:LN->MX)(u:LN):Prop:=P u.Nc=ξ
abbrev je(P:LN->MX)(u:LN):Prop:=P u=η
abbrev DZ(r:MX->MX->MX)(P Q:LN->MX)(u:LN):Prop:=r (P u) (Q u)=ξ
def Ii(h:m≤8):(AM R l m).β≤8:=by rw[AM,ol,OB];show h
end L2
namespace L2
open PySem.Spec PyProof.Rows
def fG{f:St}(p:f[j]?<*δ (.M_ x))(d:υ->Φ->γ V->Hp->Prop)(hz:x.β≤Λ)(h0:∀D,H D=ε->d D 0 [] (MR H D (.M5 [])))(q:∀(D:υ)(i:Φ)(v:V)(ys:γ V)(H':Hp)(l:VK)(R2:Hp->Prop),H D=ε->(x.TY.ND.NL λc=>V.M_ ⟨#[c]⟩)[i]?<*v->a' H H'->H' D<*.M5 ys->d D i ys H'->
   (∀y h,h D<*.M5 ys->a' H (MR h D (.M5 (ys++[y])))->d D (i+1) (ys++[y]) (MR h D (.M5 (ys++[y])))->l y h)->(∀a,a' H a->a D<*.M5 ys->d D (i+1) ys a->R2 a)->
   n (δ v::f) H' λb a=>if b=ξ then o (δ v::f) a l else R2 a)(r:∀D ys H',H D=ε->a' H H'->H' D<*.M5 ys->d D x.β ys H'->Q (.π D) H'):FG (zj (bB j)) n o f H Q:=by
 let g:(x.TY.ND.NL λc=>V.M_ ⟨#[c]⟩).β=x.β:=by rw[ol,Pl];rfl
 refine(_,p,x,1,pP (J:=Gz x) (xs:=x.TY.ND.NL λc=>V.M_ ⟨#[c]⟩) d (by rw[g];show hz) ?_ ?_ ?_ h0 q (by rw[g];show r))
 .intro i m _ k;rw[g]at k;show k
 .rintro i m v t _⟨e,c,s,ζ⟩;show(e,by rw[tS,Qa,s];rfl)
 .intro m _;rw[g];first|show LT _|rfl|show Qq _
end L2
namespace RA
open L2
abbrev B4(l:LN):LN:=b_ (DY l)
def jj{x:Φ}:∀{l:LN}{m:Φ},(l.foldl (λm k=>m ||| 2^k) m).testBit x=(m.testBit x||decide (x∈l))
 |[],m=>by simp
 |k::r,m=>by
  rw[γ.foldl_cons,jj (l:=r),Φ.testBit_or,Φ.testBit_two_pow];by_cases e:k=x
  .subst e;simp
  .simp [e,show ¬ x=k from λz=>e z.MO]
def ym(a:∀x∈l,x<8):x∈B4 l↔x∈l:=by
 unfold B4 b_;rw[Q',Nm,DY,jj];simp;show λh=>a x h
abbrev E_(n:Φ):LL:=((γ.N2 256).flatMap λm=>[0::b_ m,1::b_ m]).SJ λk=>k.tail.P' (· < n)
def mH(n:Φ):(E_ n).β≤512:=by
 unfold E_;refine IO (γ.length_filter_le _ _) ?_;rw[γ.YM];simp only[NS,WH];decide +kernel
def Cw(a:∀x∈l,x<8)(e:b≤1)(d:∀x∈l,x<n):b::B4 l∈E_ n:=by
 unfold E_;rw[Q',UE];refine((DY l,Nm.Om (bQ a),3),3)
 .have:b=0\/b=1:=by lia
  rcases this with ζ|rfl
  .exact N5
  .exact M1 _ N5
 .rw [NN];show λx c=>NJ (d x ((ym a).mp c))
def p9(h:k∈E_ n):∃b S,k=b::S/\b≤1/\(∀x∈S,x<n)/\S.β≤8:=by
 unfold E_ at h;rw[Q',UE]at h;let⟨⟨m,f,d⟩,c⟩:=h;let e:=(gq (k:=0) (Nm.mp f) (!0)).2.2.1;simp only[MN,NW,N9]at d;rcases d with ζ|rfl
 .exact ((0),0,!0,λx a=>OU (NN.mp c x a),e)
 .exact ((1),0,!0,λx a=>OU (NN.mp c x a),e)
abbrev mf(B:γ MX)(l:LN):LN:=if l.Qk (λr=>B.MI r η)=ξ then 1::B4 (l++[0])else 0::B4 l
abbrev Ho(W:LL)(B:γ MX)(k:LN)(q:Φ):LN:=mf B (gA W k.tail q)
abbrev xi(k:LN):MX:=decide (k.headD 0=1)
section
variable{L:LN}{W:LL}{B:List Bool}
def fq(f:g_ L W B)(e:∀x∈S,x<W.β)(d:q<L.β):∀x∈gA W S q,x<W.β:=by
 intro x b;let⟨r,c,ζ⟩:=O_.mp b;let hw:=Ea f (e r c);let a:q<(W.MI r []).β:=by rw[hw.1];show d
 rw[u6,n_ a];show hw.2 _ (Nt a)
def sH(d:W.β≤8)(h1:1≤W.β)(b:∀x∈l,x<W.β):mf B l∈E_ W.β:=by
 let c:∀x∈l,x<8:=λx a=>Ψ (b x a) d;unfold mf;split
 .refine Cw (λx a=>?_) (!0) (λx a=>?_)
  .rcases Na.mp a with z|z
   .exact c x z
   .rw [Ay z];decide
  .rcases Na.mp a with z|z
   .exact b x z
   .rw [Ay z];show h1
 .exact Cw c (!0) b
def FR(a:g_ L W B)(f:W.β≤8):∀k∈E_ W.β,∀q,q<L.β->Ho W B k q∈E_ W.β:=by
 intro k d q c;let⟨b,S,ζ,_,e,_⟩:=p9 d;show sH f a.n1 (fq a e c)
inductive Ag(T:LN->Bool):LN->Prop
 |nil:Ag T []
 |more {x v:LN}:Ag T x->v≠[]->T v=true->Ag T (x++v)
def Ag.ZW(h:Ag T u)(a:u≠[]):∃x v,u=x++v/\v≠[]/\Ag T x/\T v=ξ:=by
 cases h with
 |Op=>show MJ ζ a
 |@TW x v h1 h2 b=>show(x,v,1,h2,h1,b)
def Kb{u x v:LN}(h:u++[c]=x++v)(b:v≠[]):∃a,v=a++[c]/\u=x++a:=by
 rcases γ.XB v with ζ|⟨a,d,ζ⟩
 .exact MJ ζ b
 .rw [γ.XD,<-NY]at h;let⟨h1,h2⟩:=γ.append_inj' h ζ;cases h2;show(a,!1,h1)
def xL(l:g_ L W B)(E:W.β≤8):∀(n:Φ)(u:LN),u.β=n->(∀c∈u,c∈L)->
  ∃b S,aR (Ho W B) L [1,0] u=b::S/\(b=1↔Ag (λv=>B.MI (PD L W 0 v) η) u)/\(∀x∈S,x<W.β)/\∀r,r∈S↔∃x v,u=x++v/\Ag (λv=>B.MI (PD L W 0 v) η) x/\r=PD L W 0 v:=by
 intro n;induction n with
 |TB=>
  intro u i _;cases PB.mp i;refine((1),[0],1,(λ_=>.Op,λ_=>rfl),λx d=>by rw[Ay d];show l.n1,λr=>?_);rw[R8];constructor
  .rintro ζ;show([],[],1,.Op,1)
  .rintro⟨x,v,e,_,ζ⟩;let⟨_,ζ⟩:=γ.append_eq_nil_iff.mp e.MO;rfl
 |Sc n w=>
  intro u i m;rcases γ.XB u with ζ|⟨u,c,ζ⟩
  .cases i
  rw[γ.XD]at i m⊢;let⟨b,S,J,O,I,q⟩:=w u (by simpa using i) λx d=>m x (by simp[d]);let C:c∈L:=m c (!1);let A:L.M0 c<L.β:=γ.Vw.Om C;let f:=fq l I A;let o:∀x∈gA W S (L.M0 c),x<8:=λx d=>Ψ (f x d) E;let j:∀r,r∈gA W S (L.M0 c)↔∃x v,u=x++v/\Ag (λv=>B.MI (PD L W 0 v) η) x/\r=PD L W 0 (v++[c]):=by
   intro r;unfold gA;rw[O_];constructor
   .rintro⟨t,hr',ζ⟩;let⟨x,v,h1,h2,ζ⟩:=(q t).mp hr';show(x,v,h1,h2,by rw[EQ];rfl)
   .rintro⟨x,v,h1,h2,ζ⟩;show(PD L W 0 v,(q _).Om (x,v,h1,h2,1),by rw[EQ];rfl)
  let a:(gA W S (L.M0 c)).Qk (λr=>B.MI r η)=ξ↔Ag (λv=>B.MI (PD L W 0 v) η) (u++[c]):=by
   rw[Vf];constructor
   .rintro⟨r,y,D⟩;let⟨x,v,ζ,h2,ζ⟩:=(j r).mp y;rw[NY];show .TW h2 (!1) D
   .intro h;let⟨x,v,h1,h2,H,F⟩:=h.ZW (!1);let⟨k,ζ,ζ⟩:=Kb h1 h2;show(_,(j _).Om (x,k,1,H,1),F)
  let Rv:∀r,(∃x v,u++[c]=x++v/\Ag (λv=>B.MI (PD L W 0 v) η) x/\r=PD L W 0 v)↔r∈gA W S (L.M0 c)\/(Ag (λv=>B.MI (PD L W 0 v) η) (u++[c])/\r=0):=by
   intro r;constructor
   .rintro⟨x,v,h1,h2,ζ⟩;by_cases p:v=[]
    .subst p;rw[Oa]at h1;subst h1;show .NT (h2,1)
    .obtain ⟨k,ζ,ζ⟩:=Kb h1 p;show .NI ((j _).Om (x,k,1,h2,1))
   .rintro (h|⟨h,ζ⟩)
    .obtain ⟨x,v,ζ,h2,ζ⟩:=(j r).mp h;show(x,v++[c],by rw[NY],h2,1)
    .exact (u++[c],[],!1,h,1)
  rw[Jl,J];change ∃M N,mf B (gA W S (L.M0 c))=M::N/\_;unfold mf;by_cases g:(gA W S (L.M0 c)).Qk (λr=>B.MI r η)=ξ
  .rw [Id g];let s:∀x∈gA W S (L.M0 c)++[0],x<8:=λx d=>by
    rcases Na.mp d with z|z
    .exact o x z
    .rw [Ay z];decide
   refine((1),0,(λ_=>a.mp g,λ_=>rfl),λx d=>?_,λr=>?_)
   .rcases Na.mp ((ym s).mp d)with z|z
    .exact f x z
    .rw [Ay z];show l.n1
   .rw [ym s,Rv,Na,R8];constructor
    .rintro (z|z)
     .exact .NI z
     .exact .NT (a.mp g,z)
    .rintro (z|⟨_,z⟩)
     .exact .NI z
     .exact .NT z
  .rw [Ω g];refine((0),0,(λz=>(by cases z),λz=>MJ (a.Om z) g),λx d=>f x ((ym o).mp d),λr=>?_);rw[ym o,Rv];constructor
   .exact .NI
   .rintro (z|⟨z,_⟩)
    .exact z
    .exact MJ (a.Om z) g
def tq(d:g_ L W B)(e:W.β≤8)(a:∀c∈u,c∈L):xi (aR (Ho W B) L [1,0] u)=ξ↔Ag (λv=>B.MI (PD L W 0 v) η) u:=by
 let⟨b,S,g,f,_⟩:=xL d e _ u ζ a;rw[g];change decide (b=1)=ξ↔_;rw[decide_eq_true_iff];show f
def Ag.congr(h:Ag T u):(∀v,(∀c∈v,c∈u)->T v=T' v)->Ag T' u:=by
 induction h with
 |Op=>show λ_=>.Op
 |@TW x v h1 h2 d b=>
  intro k;refine .TW (b λw hw=>k w λc a=>by simp[hw c a]) h2 ?_;rw[<-k v λc a=>by simp[a]];show d
end
section
variable{T:LN->Bool}{w:LN}{i k:Nat}{gl:List Bool}
end
abbrev EB(n1 n2:Φ):LL:=((γ.N2 n1).flatMap λr=>(γ.N2 256).NL λm=>r::b_ m).SJ λk=>k.tail.P' (· < n2)
def tQ(a:Φ)(h:n1≤8):(EB n1 a).β≤2048:=by
 unfold EB;refine IO (γ.length_filter_le _ _) ?_;rw[γ.YM];simp only[ol,OB,γ.map_const',γ.sum_replicate_nat];lia
def FS(a:∀x∈l,x<8)(d:r<n1)(e:∀x∈l,x<b):r::B4 l∈EB n1 b:=by
 unfold EB;rw[Q',UE];refine((r,Nm.Om d,O_.Om (DY l,Nm.Om (bQ a),1)),3);rw[NN];show λx c=>NJ (e x ((ym a).mp c))
def kh(h:k∈EB n1 a):∃r S,k=r::S/\r<n1/\(∀x∈S,x<a)/\S.β≤8:=by
 unfold EB at h;rw[Q',UE]at h;let⟨⟨r,d,f⟩,c⟩:=h;let⟨m,e,ζ⟩:=O_.mp f;show(r,0,Nm.mp d,λx b=>OU (NN.mp c x b),(gq (k:=0) (Nm.mp e) (!0)).2.2.1)
abbrev inT(B1:γ MX)(r:Φ)(l:LN):LN:=if B1.MI r η=ξ then l++[0]else l
abbrev dW(B1:γ MX)(r:Φ)(l:LN):LN:=r::B4 (inT B1 r l)
abbrev Hq(W1:LL)(B1:γ MX)(W2:LL)(k:LN)(q:Φ):LN:=dW B1 (QT W1 (k.headD 0) q) (gA W2 k.tail q)
abbrev xh(B2:γ MX)(k:LN):MX:=k.tail.Qk λr=>B2.MI r η
section
variable{L:LN}{W1 W2:LL}{B1 B2:List Bool}
def gQ:x∈inT B1 r l↔x∈l\/(B1.MI r η=ξ/\x=0):=by
 unfold inT;split
 .rename_i c;rw[Na,R8];show(λz=>z.Wc id λy=>(c,y),λz=>z.Wc id λy=>y.2)
 .rename_i c;show(.NI,λz=>z.Nv id λy=>MJ y.1 c)
def dj(b:∀x∈l,x<n)(h1:1≤n):∀x∈inT B1 r l,x<n:=λx a=>by
 rcases gQ.mp a with z|⟨_,ζ⟩
 .exact b x z
 .exact h1
def jG(d:W2.β≤8)(h1:1≤W2.β)(c:r<W1.β)(a:∀x∈l,x<W2.β):dW B1 r l∈EB W1.β W2.β:=
 FS (λx b=>Ψ (dj a h1 x b) d) c (dj a h1)
def uX(b:g_ L W1 B1)(a:g_ L W2 B2)(g:W2.β≤8):∀k∈EB W1.β W2.β,∀q,q<L.β->Hq W1 B1 W2 k q∈EB W1.β W2.β:=by
 intro k e q c;let⟨r,S,ζ,d,f,_⟩:=kh e;show jG g a.n1 (Ev b d c) (fq a f c)
def wc(w:g_ L W1 B1)(b:g_ L W2 B2)(i:W2.β≤8):∀(n:Φ)(u:LN),u.β=n->(∀c∈u,c∈L)->
  ∃S,aR (Hq W1 B1 W2) L (dW B1 0 []) u=PD L W1 0 u::S/\(∀x∈S,x<W2.β)/\∀r,r∈S↔∃x v,u=x++v/\B1.MI (PD L W1 0 x) η=ξ/\r=PD L W2 0 v:=by
 intro n;induction n with
 |TB=>
  intro u d _;cases PB.mp d;let a0:∀x∈inT B1 0 [],x<W2.β:=dj (!1) b.n1;refine(B4 (inT B1 0 []),1,λx a=>a0 x ((ym λx a=>Ψ (a0 x a) i).mp a),λr=>?_);rw[ym λx a=>Ψ (a0 x a) i,gQ];constructor
  .rintro (z|⟨z,ζ⟩)
   .simp at z
   .exact ([],[],1,z,1)
  .rintro⟨x,v,e,h,ζ⟩;let⟨rfl,ζ⟩:=γ.append_eq_nil_iff.mp e.MO;show .NT (h,1)
 |Sc n p=>
  intro u d g;rcases γ.XB u with ζ|⟨u,c,ζ⟩
  .cases d
  rw[γ.XD]at d g⊢;let⟨S,B,A,l⟩:=p u (by simpa using d) λx a=>g x (by simp[a]);let t:c∈L:=g c (!1);let q:L.M0 c<L.β:=γ.Vw.Om t;let f:=fq b A q;let s:∀r,r∈gA W2 S (L.M0 c)↔∃x v,u=x++v/\B1.MI (PD L W1 0 x) η=ξ/\r=PD L W2 0 (v++[c]):=by
   intro r;unfold gA;rw[O_];constructor
   .rintro⟨o,hr',ζ⟩;let⟨x,v,h1,h2,ζ⟩:=(l o).mp hr';show(x,v,h1,h2,by rw[EQ];rfl)
   .rintro⟨x,v,h1,h2,ζ⟩;show(PD L W2 0 v,(l _).Om (x,v,h1,h2,1),by rw[EQ];rfl)
  rw[Jl,B];let y:QT W1 (PD L W1 0 u) (L.M0 c)=PD L W1 0 (u++[c]):=by rw[EQ];rfl
  let a0:∀x∈inT B1 (PD L W1 0 (u++[c])) (gA W2 S (L.M0 c)),x<W2.β:=dj f b.n1;let j:=λ{x:Φ}=>ym (x:=x) λx a=>Ψ (a0 x a) i;refine(B4 (inT B1 (PD L W1 0 (u++[c])) (gA W2 S (L.M0 c))),3,λx a=>a0 x (j.mp a),λr=>?_)
  .change dW B1 (QT W1 (PD L W1 0 u) (L.M0 c)) (gA W2 S (L.M0 c))=_;rw[y];rfl
  .rw [j,gQ,s];constructor
   .rintro (⟨x,v,ζ,h2,ζ⟩|⟨h,ζ⟩)
    .exact (x,v++[c],by rw[NY],h2,1)
    .exact (u++[c],[],!1,h,1)
   .rintro⟨x,v,h1,h2,ζ⟩;by_cases k:v=[]
    .subst k;rw[Oa]at h1;subst h1;show .NT (h2,1)
    .obtain ⟨m,ζ,ζ⟩:=Kb h1 k;show .NI (x,m,1,h2,1)
def qe(b:g_ L W1 B1)(a:g_ L W2 B2)(h:W2.β≤8)(e:∀c∈u,c∈L):xh B2 (aR (Hq W1 B1 W2) L (dW B1 0 []) u)=ξ↔∃x v,u=x++v/\B1.MI (PD L W1 0 x) η=ξ/\B2.MI (PD L W2 0 v) η=ξ:=by
 let⟨S,j,_,d⟩:=wc b a h _ u ζ e;rw[j];change (S.Qk λr=>B2.MI r η)=ξ↔_;rw[Vf];constructor
 .rintro⟨r,f,g⟩;let⟨x,v,h1,h2,ζ⟩:=(d r).mp f;show(x,v,h1,h2,g)
 .rintro⟨x,v,h1,h2,i⟩;show(_,(d _).Om (x,v,h1,h2,1),i)
end
section
variable{T1 T2:LN->Bool}{w:LN}{i k:Nat}{gl:List Bool}
end
end RA
namespace L2
open PySem.Spec PyProof.Rows
abbrev wj(X:Cx)(i:Φ)(ps:γ M')(t:TA):TE:=λσ H Q=>∃f,σ[i]?=δ (δ (.π f))/\(∃nm M4 ar bd sc cl c,H f<*Aj f nm M4 ar bd sc cl c)/\t σ H λvs H1=>(∃nm M4 ar bd sc cl c,H1 f<*Aj f nm M4 ar bd sc cl c)/\∃U:γ υ,(∀u∈U,∃φ,H1 u<*.ext φ)/\∀base':NR,GH X U σ H1 base'->
 ∃(k:Φ)(sp:Sp)(fd:Sb),ak k X.A/\Ao X.K fd ps []/\aa X.Ξ X.w X.K X.mg base' pu k f fd ps sp/\sp vs (Ak U H1) (λv H2=>(∀u∈U,H2 u=ε)->Q v (T9 U H1 H2)) E0
def nB{j:St}(I:f' X a j H s)(h:∃nm M4 i d sc b c,H f<*Aj f nm M4 i d sc b c):∃m l n k,s.ο.ψ f<*(m,l,.QY n,k):=by
 let⟨nm,M4,i,d,sc,b,c,e⟩:=h;let⟨⟨Pi,pm,o,g⟩,_⟩:=I.Oc f _ e;show(7,_,g)
def qL(ps:γ M'){p Ng:Sn}(hv:PE X (.Nz x p) (bB i))(ha:PA X (e::C) t)(O:∀y,X.fn y=ξ)(he:(Θ (e::C) X.KK=(η,OJ e X.KK,)::Θ C X.KK)>>>4)(L:((OE Ng (Θ C X.KK)).Qk (·.1)=η)>>>4):PE X (.QE (.Nz x p) (e::C) [] Ng) (wj X i ps t):=by
 intro j s E H Q I h;let⟨f,h0,hf,h⟩:=h;refine Nh (ri (hv j s E H (λv D=>v=.π f/\D=H) I (_,h0,5)) λfv s0 n=>?_);let⟨v,H0,I0,rv,ζ,ζ⟩:=n;obtain ζ:fv=.π f:=rv;refine Δ.W.callWith_F (nB I0 hf) (ri (ha Ng j s0 E H0 _ I0 h) λus J⟨vs,D,b,r,P,q⟩=>(nB b P,3)) he L;let⟨U,Z,q⟩:=q;let⟨a,e0,w,l⟩:=ix b.Ze Z;let d:∀y c v,X.KK.Rj.ρ y<*c->J.ο.Tb c v->a.Tb c v:=λy c v g S=>by
  let⟨o,T,R⟩:=S;let Y:=b.UH y c g;refine(o,l c o T (λz=>?_) ?_,R)
  .rcases MN.mp (b.ZO c z)with z|z
   .exact b.cne y c g z
   .obtain ⟨_,o',M,_⟩:=b.ok.VY.mem z;show MJ (lt_size M) (TU.Om (b.ok.cab y c (O y) g))
  .unfold Ak;split
   .rfl
   .exact Y
 let W:GH X U E D a:=by
  refine(w,e0.VT,λu φ hu e=>?_,b.ok.QG,λy c g=>?_,λi y v e1 e2 e3=>?_)
  .obtain ⟨p1,⟨o,T⟩,p3⟩:=b.Oc u _ e;refine p3 _ _ p1 λo2 z=>l u o2 z (λy=>?_) (HW hu);rw[b.Tf u y]at e;cases e
  .obtain ⟨v,z⟩:=b.N8 y c g;show(v,d y c v g z)
  .obtain ⟨m,Y,N⟩:=b.Xx;let⟨u,ru,lk⟩:=N i y v e1 e2 (.NT (.NI e3));rcases lk with⟨k1,_⟩|⟨_,c,g,z⟩
   .have:X.KK.NE.MP.ρ y<*.local:=k1;rw[e3]at this;cases this
   .exact (c,u,g,d y c _ g z,ru)
 let⟨k,sp,fd,hr,hb,F,B⟩:=q a W;let N:us.β=ps.β:=by rw[<-r.β];show F.PJ _ _ _ _ B
 refine QM (PY (F.PD X.A X.NA J (Ak U D) (us,[]) us vs _ E0 hr e0 (by have:=hb J us b.TX (by rw[Oa];show N);rwa [Oa]at this) r B) λr s' n=>?_);cases r with
 |R9 e=>show NU.Nv n
 |ok fl=>
  cases fl with
  |UT u=>show b.XZ (dZ b.Ze Z n)
  |next=>show NU.Nv n
  |Yg=>show NU.Nv n
  |T_=>show NU.Nv n
end L2
namespace L2
section
variable{X:Cx}{a b e e1 e2 e3 e4:Expr}{ta tb te t1 t2 t3 t4:TE}{pos p:Pos}{o:Expr}{x:Str}
def o_(h:PE X e te)(c:(Θ [e] X.KK=(η,OJ e X.KK,)::Θ [] X.KK)>>>4):PA X [e] (Aw te Ww):=Bp h Dd c
def q_(h1:PE X e1 t1)(h2:PE X e2 t2)(c:(Θ [e1,e2] X.KK=(η,OJ e1 X.KK,)::Θ [e2] X.KK)>>>4)(s2:(Θ [e2] X.KK=(η,OJ e2 X.KK,)::Θ [] X.KK)>>>4):PA X [e1,e2] (Aw t1 (Aw t2 Ww)):=Bp h1 (o_ h2 s2) c
def wm(h1:PE X e1 t1)(h2:PE X e2 t2)(f:PE X e3 t3)(d:(Θ [e1,e2,e3] X.KK=(η,OJ e1 X.KK,)::Θ [e2,e3] X.KK)>>>4)(s2:(Θ [e2,e3] X.KK=(η,OJ e2 X.KK,)::Θ [e3] X.KK)>>>4)(c:(Θ [e3] X.KK=(η,OJ e3 X.KK,)::Θ [] X.KK)>>>4):PA X [e1,e2,e3] (Aw t1 (Aw t2 (Aw t3 Ww))):=Bp h1 (q_ h2 f s2 c) d
def GK(f:PE X a ta)(d:PE X b tb)(c:io b>>>7):PE X (.Ui a b Ng) (Fl (kY X.K) ta tb):=rz dg f d c
def AB(f:PE X a ta)(d:PE X b tb)(c:io b>>>7):PE X (.Ui a b Ng) (Fl (qB X.K) ta tb):=rz bT f d c
def Ad(i:Φ){k:ML}{j}{c:Sn}(h:(X.N[i]?<*x)>>>4)(f:GY X.KK.NE x>>>8)(g:((x==("__debug__":M'))=η)>>>0)(d:((x==("__classdict__":M'))=η)>>>0):PE X (.Ui (.Nz x p) (.Vi (.MQ k) j c) Ng) (Fl (kY X.K) (bB i) (tC (.MQ k))):=rz dg (pv i h f g d) b' (λ_ _=>rfl)
def Ci(f:X.mg "len"=ε)(h:PE X e te)(g:(Gl X "len")>>>4)(d:(Θ [e] X.KK=(η,OJ e X.KK,)::Θ [] X.KK)>>>4)(c:((OE Ng (Θ [] X.KK)).Qk (·.1)=η)>>>4):PE X (.QE (.Nz "len" p) [e] [] Ng) (BQ (λxs H Q=>∃p ys,xs=[.π p]/\(o5 X.K H p ys\/u0 X.K H p ys)/\Q (.MQ ys.β) H) (Aw te Ww)):=Dp G5 g f T6 (o_ h d) (!0) (!0) d c
def Hr(f:X.mg "len"=ε)(h:PE X e te)(g:(Gl X "len")>>>4)(d:(Θ [e] X.KK=(η,OJ e X.KK,)::Θ [] X.KK)>>>4)(c:((OE Ng (Θ [] X.KK)).Qk (·.1)=η)>>>4):PE X (.QE (.Nz "len" p) [e] [] Ng) (BQ (λxs H Q=>∃z,xs=[.M_ z]/\z.β≤Λ/\Q (.MQ z.β) H) (Aw te Ww)):=Dp Lf g f T6 (o_ h d) (!0) (!0) d c
def GL(d:PE X a ta)(c:PE X b tb):PT X (.Zl a [.NotEq] [b] Ng) (mI (Fl rNe ta tb)):=A1 yT d c (A' _)
def Ap(d:PE X a ta)(c:PE X b tb):PT X (.Zl a [.Eq] [b] Ng) (mI (Fl rEq ta tb)):=A1 bz d c (A' _)
def va(i:Φ){c:Sn}(k:X.N.Nx)(j:PE X e te)(g:(X.N[i]?<*x)>>>4)(d:DG X.KK.NE x>>>8)(f:(Su e (δ (.Nz x c)) Ng.SV X.KK=pure η)>>>4)(h:(X.fn x=ξ\/X.KK.NE.MP.ρ x<*.local)>>>8):PS X (.WM [.Nz x c] e Ng) (aK te (Bv i)):=wO k g d j f h
def Cy(i:Φ)(g:X.N.Nx)(d:(X.N[i]?<*x)>>>4)(c:DG X.KK.NE x>>>8)(f:(X.fn x=ξ\/X.KK.NE.MP.ρ x<*.local)>>>8):PG X (.Nz x Ng) (Bv i):=bK g d c f
def Di{d c:Sn}(g:PE X o t1)(h:PE X e te)(k:(QH o "append" X.KK (OJ o X.KK)=OJ o X.KK)>>>4)(j:(((OE c (Θ [e] X.KK)).P' (λx=>!x.1)&&(Ve c (TH [] X.KK)).P' (λx=>x.1.Rx)&&decide ([e].β+([]:γ Vo).β+(if ([]:γ Vo).SE then 0 else 1)<30))=ξ)>>>4)(i:((d.Zf==c.SV)=ξ)>>>4)(f:(Θ [e] X.KK=(η,OJ e X.KK,)::Θ [] X.KK)>>>4)(hp:((OE c (Θ [] X.KK)).Qk (·.1)=η)>>>4):PE X (.QE (.Ox o "append" d) [e] [] c) (Cq X.K "list" rAppend t1 (Aw te Ww)):=jb Py Δ.F.slot_list_append Δ.F.type_list_append eQ g (o_ h f) k j i f hp
def Cj{c:Sn}(i:X.mg "isinstance"=ε)(j:X.mg n=ε)(g:To n<*.MM T)(h:PE X e te)(l:(Gl X "isinstance")>>>4)(k:Gl X n>>>4)(n1:(n≠"__name__")>>>0)(f:((n==("__debug__":M'))=η)>>>0)(d:(Θ [e,.Nz n c] X.KK=(η,OJ e X.KK,)::Θ [.Nz n c] X.KK)>>>4)(s2:(Θ [.Nz n c] X.KK=(η,OJ (.Nz n c) X.KK,)::Θ [] X.KK)>>>4)(hp:((OE Ng (Θ [.Nz n c] X.KK)).Qk (·.1)=η)>>>4):PE X (.QE (.Nz "isinstance" p) [e,.Nz n c] [] Ng) (BQ (λxs H Q=>∃x t b,xs=[x,.ty T]/\ai X.K H x t/\Po X.K t (.MM T)=δ b/\Q (.bl b) H) (Aw te (Aw (tC (.ty T)) Ww))):=Dp (jV (T:=T)) l i Oj.Sf.boot_isinstance (q_ h (mW (v:=.ty T) k j g ζ n1 f) d s2) (!0) (!0) d hp
section
variable{K:Frag}{H:Hp}{Q:VK}{c:Addr}{xs:List V}{v x0 x1 x2 x3:V}{i:Int}{l:List V}
def Fa(d:H c<*.No xs)(f:AN xs i<*v)(q:Q v H):kY K (.π c) (.MQ i) H Q:=(c,_,8,u0.of d,f,q)
def AJ(d:H c<*.M5 xs)(f:AN xs i<*v)(q:Q v H):qB K (.π c) (.MQ i) H Q:=(c,_,8,o5.of d,f,q)
def z8(g:H c<*.No xs)(h:AN xs i<*v)(q:Q v H)(f:(d[n]?<*δ (.π c))>>>4):Fl (kY K) (bB n) (tC (.MQ i)) d H Q:=(_,f,c,_,8,u0.of g,h,q)
def aL:AN (x0::l) 0<*x0:=AG (j:=0) ζ
def aJ:AN (x0::x1::l) 1<*x1:=AG (j:=1) ζ
def dH:AN (x0::x1::x2::l) 2<*x2:=AG (j:=2) ζ
end
end
abbrev LM(N P:γ M')(sc:RX):MX:=(match sc.RR with|.RM=>ξ|_=>η)&&!sc.isCoroutine&&!sc.isGenerator&&decide N.Nx&&decide (N.OC P.β=P)&&P.P' (λx=>match sc.MP.ρ x with|δ .local=>ξ|δ .N8=>ξ|_=>η)&&sc.MP.P' λy=>match y.2 with|.N4=>η|_=>ξ
def Aa(h:LM N P sc=ξ:=by kernel_rfl):vw N P sc:=by
 unfold LM at h;simp only[Ou,SZ,Q_,NN]at h;let⟨⟨⟨⟨⟨⟨a,b⟩,c⟩,d⟩,e⟩,f⟩,g⟩:=h;refine(3,b,c,d,e,λx j=>?_,λy i z=>?_)
 .revert a;cases sc.RR<;>intro a<;>first|rfl|cases a
 .have:=f x j;revert this;cases sc.MP.ρ x with
  |ε=>intro a;cases a
  |δ k=>cases k<;>intro a<;>first|show .NI ζ|show .NT ζ|cases a
 .have:=g y i;rw[z]at this;cases this
abbrev zG(K:Nl)(x:M')(st:Nr)(f:υ):Prop:=∃fd,vh K x x st f fd
def BE(e:K.ρ f<*(c,b,.QY d,a)):UO K (.π f)=ξ:=by
 unfold UO;dsimp only;rw[show γ.ρ f K=_ from e]
def Ij{kV Pi pm ct:θ}(l:K.ρ f<*(e,d,.QY (Ps x x (t5 st) (p_ st) (h_ st) .ε kV Pi pm an (.π b) ct),a))(c:O8 K (.π b) x=ξ):zG K x st f:=(_,D7 l c (BE l))
def Ik{P:NC}{w:Ny}{K:Nl}{mg:M'->ω θ}{ς h:NR}(X:K.In h)(G:h.Ns LE mg){x:M'}{k:Φ}{ps:γ M'}{d:Sp}{f:υ}{c:Sb}{st:Nr}(a:Pm K LE x<*δ (.π f))(F:vh K x x st f c)(b:Ao K c ps [])(o:aa P w K mg ς pu k f c ps d):Df P w K mg ς x k ps d:=(f,c,O1 X G a,F.kp,b,o)
def D0{b:Type}{l:γ b}(h:l.β=1):∃a,l=[a]:=γ.length_eq_one_iff.mp h
def Gp{c:Type}{l:γ c}(h:l.β=2):∃a b,l=[a,b]:=by
 cases l with
 |Op=>cases h
 |NX a t=>let⟨b,ζ⟩:=D0 (Φ.Sc.QG h);show(a,b,1)
def Jn{d:Type}{l:γ d}(h:l.β=3):∃a b c,l=[a,b,c]:=by
 cases l with
 |Op=>cases h
 |NX a t=>let⟨b,c,ζ⟩:=Gp (Φ.Sc.QG h);show(a,b,c,1)
def Kc{e:Type}{l:γ e}(h:l.β=4):∃a b c d,l=[a,b,c,d]:=by
 cases l with
 |Op=>cases h
 |NX a t=>let⟨b,c,d,ζ⟩:=Jn (Φ.Sc.QG h);show(a,b,c,d,1)
def Ma{f:Type}{l:γ f}(h:l.β=5):∃a b c d e,l=[a,b,c,d,e]:=by
 cases l with
 |Op=>cases h
 |NX a t=>let⟨b,c,d,e,ζ⟩:=Kc (Φ.Sc.QG h);show(a,b,c,d,e,1)
def B5(F:vh K x x st f c)(h:∀(kV Pi pm:θ)(an:ω υ)(Qi ct a:θ),TL (Ps x x (t5 st) (p_ st) (h_ st) .ε kV Pi pm an Qi ct) ([a],[])=pure ([q0].Td [a])):Ao K c [q0] []:=F.V_ λ_ _ _ _ _ _ us b=>by let⟨_,ζ⟩:=D0 b;show h _ _ _ _ _ _ _
def BN(F:vh K x x st f e)(h:∀(kV Pi pm:θ)(an:ω υ)(Qi ct b a:θ),TL (Ps x x (t5 st) (p_ st) (h_ st) .ε kV Pi pm an Qi ct) ([b,a],[])=pure ([q0,c].Td [b,a])):Ao K e [q0,c] []:=F.V_ λ_ _ _ _ _ _ us d=>by let⟨_,_,ζ⟩:=Gp d;show h _ _ _ _ _ _ _ _
def Gq(F:vh K x x st f i)(h:∀(kV Pi pm:θ)(an:ω υ)(Qi ct c b a:θ),TL (Ps x x (t5 st) (p_ st) (h_ st) .ε kV Pi pm an Qi ct) ([c,b,a],[])=pure ([q0,e,d].Td [c,b,a])):Ao K i [q0,e,d] []:=F.V_ λ_ _ _ _ _ _ us g=>by let⟨_,_,_,ζ⟩:=Jn g;show h _ _ _ _ _ _ _ _ _
def Ke(F:vh K x x st f k)(h:∀(kV Pi pm:θ)(an:ω υ)(Qi ct d c b a:θ),TL (Ps x x (t5 st) (p_ st) (h_ st) .ε kV Pi pm an Qi ct) ([d,c,b,a],[])=pure ([q0,i,g,e].Td [d,c,b,a])):Ao K k [q0,i,g,e] []:=F.V_ λ_ _ _ _ _ _ us j=>by let⟨_,_,_,_,ζ⟩:=Kc j;show h _ _ _ _ _ _ _ _ _ _
def Mb(F:vh K x x st f m)(h:∀(kV Pi pm:θ)(an:ω υ)(Qi ct e d c b a:θ),TL (Ps x x (t5 st) (p_ st) (h_ st) .ε kV Pi pm an Qi ct) ([e,d,c,b,a],[])=pure ([q0,k,j,i,g].Td [e,d,c,b,a])):Ao K m [q0,k,j,i,g] []:=F.V_ λ_ _ _ _ _ _ us l=>by let⟨_,_,_,_,_,ζ⟩:=Ma l;show h _ _ _ _ _ _ _ _ _ _ _
end L2
namespace L2
open PySem.Spec PyProof.Rows
def vh.Vk{P:NC}{w:Ny}{K:Nl}{st:Nr}(F:vh K x M4 st f c)(S:vw N ps (h_ st))(a:∀(Qi:θ)(A:N0)(Fr:γ WC)(s:MH)(H:Hp)(vs:γ V)(Q:VK)(E:XK),ak k (A.RE (S4 M4 (h_ st) s⁻¹ f Qi))->b vs H Q E->
   ∃t,BA (aG pu P w K mg ς N M4 (h_ st) f Qi A Fr s H E).nox (p_ st) t/\t {nx:=λ_ H'=>Q .Rt H',rt:=Q} (SM N vs) H)(PJ:∀vs H Q E,b vs H Q E->vs.β=ps.β:=by intro _ _ _ _ h;first|(cases h;subst_vars;rfl)|((repeat let⟨_,h⟩:=h);subst_vars;rfl)):aa P w K mg ς pu (k+1) f c ps b:=F.ok S PJ a
abbrev Ax(K:Nl)(x:M')(st:Nr):Prop:=∃f,Pm K LE x=δ (δ (.π f))/\zG K x st f
abbrev dF(X:Cx)(MZ:γ (υ×Rm))(F:St->XK):θ->MH->Prop:=λev s'=>∃WD H' s1,f' X MZ WD H' s1/\Al X.Ξ X.w X.NA H' s1 (F WD) ev s'
abbrev PX(X:Cx)(st:Nr)(t:(St->XK)->TS):Prop:=
 ∀(MZ:γ (υ×Rm))(s:MH)(σ:St)(H:Hp)(D:XL)(F:St->XK),f' X MZ σ H s->t F D σ H->BT (Cl X.Ξ X.w) X.A (exec st X.KK) (SP X MZ D) (dF X MZ F) s
section
variable{X:Cx}{pins:List (Addr×Obj)}{σ:St}{H:Hp}{s:Shared}{x n y fx:Str}{R:Addr}{i j k:Nat}{np hpos pos p cp yp ap:Pos}{st a b b0:Stmt}{suite:List Stmt}{ts:TS}{D:Ends}{ps:List Str}{sp:Sp}{e c:Expr}{es:List Expr}{t:TA}{tc:TT}{τ τ':(St->XK)->TS}
def FT(F:AT X.Ξ X.w X.K X.mg X.ς fx k ps sp)(C:ak k X.A)(M:PA X.nox (e::es) t)(E:Gl X fx)(o:(fx==("__debug__":M'))=η)(L:Θ (e::es) X.KK=(η,OJ e X.KK,)::Θ es X.KK)(m:(OE cp (Θ es X.KK)).Qk (·.1)=η)(I:f' X MZ σ H s)(h:t σ H λvs g=>sp vs g Qv (G σ)):BT (Cl X.Ξ X.w) X.A (OJ (.QE (.Nz fx p) (e::es) [] cp) X.KK) (EP X MZ σ Qv) (dF X MZ G) s:=by
 let⟨f,Q,h1,h2,N,F⟩:=F;refine Nh (v_ I E h1 (WJ (h₀:=X.ς) I.ok.VT.Vv h2 (NG (M cp MZ s σ H _ (I.Vs _) h) (λus l v=>?_) λ_ _ z=>z.Nv) L m) o);let⟨vs,g,P,r,q⟩:=v;let J:f' X MZ σ g l:=P.Ss;refine(J.TX,QM (PY (F.PD X.A X.NA l g (us,[]) us vs Qv _ C J.Ze ?_ r q) λr s' d=>?_))
 .let B:=N l us J.TX;rw[Oa]at B;show B (by rw[<-r.β];show F.PJ _ _ _ _ q)
 .cases r with
  |R9 S=>show(σ,g,l,J,d)
  |ok O=>
   cases O with
   |UT u=>show J.XZ d
   |next=>show NU.Nv d
   |Yg=>show NU.Nv d
   |T_=>show NU.Nv d
def Fb(h:PX X st τ)(I:f' X MZ σ H s)(q:τ G D σ H):BT (Cl X.Ξ X.w) X.A (execs [st] X.KK) (SP X MZ D) (dF X MZ G) s:=by
 refine Sq (ri (h MZ s σ H D G I q) λf d q=>?_);cases f with
 |next=>show RH q
 |UT v=>show q
 |Yg=>show q
 |T_=>show q
end
end L2
namespace L2
open PySem.Spec PySem.W PyProof.Rows Builtin Builtin.ObjectAttr
def pK{Ξ:NC}{w:Ny}{A:N0}{K:Nl}(F:GB K C)(X:K.In s.ο)(J:InstAt s.ο e o C (δ p))(x:hasDictIn K C=ξ)(q:Af K C f)(u:lookIn f p<*δ v)(j:handedIn v=ξ)(h:Q v {s with MT:=s.MT+1}):BT (Cl Ξ w) A (ZY (.π e) f m) Q E s:=by
 let⟨hp,g,d,t,os⟩:=s;let b:=J.MM (M:=Cl Ξ w);let y:=Us (M:=Cl Ξ w) X F.ga;let c:=Us (M:=Cl Ξ w) X F.noHook;let isB:=Z' (M:=Cl Ξ w) X F.exc;let k:=looks_find (M:=Cl Ξ w) X J (findObj_own x q ζ u);let l:=Δ.F.attrBase_ValueError.ga.Wm (.π e);unfold ZY getAttrBy;refine d_ (wpAny_mkText (NQ (d_ (b.at (d_ (y.at ?_))))));let a:(onTheHeap (.π C)&&θ.Nf "BaseException.__getattribute__"==θ.Nf "object.__getattribute__")=η:=by
  rw[show(θ.Nf "BaseException.__getattribute__"==θ.Nf "object.__getattribute__")=η by decide +kernel,MX.and_false]
 refine OG (by rw[a];decide) ?_;unfold getAttrByItsOwn hookBefore callGetattribute boundAndCalled;let i:(m&&onTheHeap (θ.Nf "BaseException.__getattribute__"))=η:=by cases m<;>rfl
 refine d_ (VL (!4) (c.at (d_ (S7 (NQ (OG (by rw[i];decide) (d_ (RZ l (QM ?_)))))))));refine Ri Δ.F.attrBase_ValueError.ga.plain Δ.F.entry_bexc_ga ?_;let r:builtinKind "BaseException.__getattribute__"<*.UY:=by decide +kernel
 let n:splitId "BaseException.__getattribute__"<*("BaseException","__getattribute__",):=by decide +kernel
 let z:=Δ.F.args_bexc_ga (.π e) (.M_ f t);simp only[checkBuiltinCall,r,n];refine d_ ?_;unfold YQ;refine d_ (b.at (isB.at ?_));refine OG (!0) (RZ z ?_);refine d_ (j' (d_ (j' (d_ (b.at (d_ (k.at ?_)))))));refine j' ?_;change BT _ _ (handedOut v) _ _ _;rw[handedOut_of j];show j' h
inductive wA(K:Frag)(f:Str)(Q:VK)(x:V)(H1:Hp):Prop
 |mk (e C d fs v:_) (_:x=.ref e) (_:H1 e<*dB e (.ref C) (some d)) (_:H1 d<*Bb d fs) (_:GB K C) (_:j0 K C) (_:Af K C f) (_:fs.lookup f<*v) (_:Q v H1)
abbrev mK(K:Nl)(ta:TE)(f:M'):TE:=λσ H Q=>ta σ H (wA K f Q)
def uo(y:PE X e ta)(z:(QH e f X.KK (OJ e X.KK)=OJ e X.KK)>>>4):PE X (.Ox e f Ng) (mK X.K ta f):=by
 intro c s j H Q I h;refine DM z (ri (y c s j H _ I h) λu P i=>?_);let⟨x,N,g,k,a,C,d,fs,v,J,L,M,F,xc,n,l,q⟩:=i;subst J;obtain ζ:u=θ.π a:=k;let⟨⟨o,E,D,⟨vs,B⟩,A⟩,_⟩:=g.Oc a _ L;let⟨⟨p,m,r,_⟩,_⟩:=g.Oc d _ M;let⟨R,t,w⟩:=JE m;let⟨O,hw,b⟩:=au.Vj (v:=v) (o:=p f) (by rw[<-l];show r f);show pK F g.TX (E,D,by unfold notCls;rw[B],by rw[show o.Pv<*d from NZ Uj.fst (A d ζ)];show t) xc.hd n (by rw[w,hw]) (fh b) (v,N,g.Sg _,b,q)
end L2
namespace L2
open PySem.Spec PyProof.Rows
section
variable{X:Cx}{x:Str}{R:Addr}{np hpos pos:Pos}{st b0:Stmt}{suite:List Stmt}{ts:TS}{τ:(St->XK)->TS}
abbrev wn(K:Nl)(R:υ)(τ:(St->XK)->TS)(ts:TS):TS:=λD σ H=>τ (λWD=>nX K R ts D WD) D σ H
def qD(G:J7 X x R b0 suite ts)(h:PX X st τ):PS X (.Try [st] [.WB (δ (.Nz x np)) ε (b0::suite) hpos] [] [] Ng) (wn X.K R τ ts):=by
 intro b s g H D I q;refine wpAny_Try_except (NG (Fb h I q) (λf d q=>?_) λi s' a=>by let⟨c,H',d,J,e⟩:=a;show pQ G.hex G.Rv G.hfr G.hg G.hm G.hs J e G.hd);cases f with
 |next=>show RH q
 |UT v=>show q
 |Yg=>show q
 |T_=>show q
end
abbrev iq(h:NR)(a:υ)(x:θ):Prop:=∃o vs,h.ψ a=δ o/\o.NH=.N_ vs/\vs[2]?<*x
abbrev GM(L:γ υ)(j:Φ):θ:=match L[j+1]? with
 |δ b=>.π b
 |ε=>.ε
abbrev Il(h:NR)(L:γ υ):Prop:=∀j a,L[j]?<*a->iq h a (GM L j)
def LO:entryFor table "proto.unchain"<*Builtin.«proto.unchain»:=entryFor_of_tree (by kernel_rfl)
def LP:Δ.plainId "proto.unchain"=ξ:=by decide +kernel
section
variable{prog:Program}{w:World}{A:Around}{s:Shared}{R:Except Value PySem.Flow->Shared->Prop}{L:List Addr}{e:Addr}
def LQ(k:Il s.ο L)(v:L.Nx)(x:e∉L)(B:R (.ok (.UT .ε)) s):∀(n j i:Φ)(t:MX)(a b:υ),L.β=j+1+n->i≤j->L[j]?<*a->L[i]?<*b->
  Qe (Cl Ξ w) A (.Nf "proto.unchain" ([.π e,.π a,.π b,.Pe t],[])) R s
 |0,j,i,t,a,b,E,r,u,l=>by
  let⟨o,vs,h1,h2,g⟩:=k j a u;rw[show GM L j=.ε by unfold GM;rw[Ph (!6)]]at g;refine Pc LO ?_;unfold Builtin.«proto.unchain»;dsimp only;refine d_ (NO h1 h2 g ?_);rw[Id (show(θ.ε==θ.ε)=ξ by decide)];show j' B
 |n+1,j,i,t,a,b,E,r,u,l=>by
  let⟨o,vs,h1,h2,g⟩:=k j a u;obtain⟨c,f⟩:∃c,L[j+1]?<*c:=(L[j+1]'(!6),n_ _);rw[show GM L j=.π c by unfold GM;rw[f]]at g;let q:c≠e:=λz=>x (z▸AC f);let p:c≠b:=λz=>by
   rw[z]at f;have:=(γ.getElem?_inj (i:=i) (!6) v).mp (l.ν f.MO);lia
  refine Pc LO ?_;unfold Builtin.«proto.unchain»;dsimp only;refine d_ (NO h1 h2 g ?_);rw[Ω (show ¬ (θ.π c==θ.ε)=ξ from MX.M9),Ω (by simpa using q),Ω (by simpa using p)];let next:∀m h,h≤j+1->L[h]?<*m->Qe (Cl Ξ w) A (.Nf "proto.unchain" ([.π e,.π c,.π m,.Pe !t],[])) R s:=λm h h1 h2=>LQ k v x B n (j+1) h (!t) c m (!6) h1 f h2;cases t with
  |η=>
   rw[Ω (!0)];show d_ (j' (j' (R7 LP _,next b i (!6) l)))
  |ξ=>
   obtain⟨d,y⟩:∃d,L[i+1]?<*d:=(L[i+1]'(!6),n_ _);let⟨I,D,H,F,C⟩:=k i b l;rw[show GM L i=.π d by unfold GM;rw[y]]at C;rw[Id ζ];show d_ (NO H F C (j' (R7 LP _,next d (i+1) (!6) y)))
def iW{Q:c->MH->Prop}(g:A.PL<*.π h)(j:Il s.ο (h::L))(f:(h::L).Nx)(b:e∉h::L)(a:s.ο.ψ e<*o)(i:o.NH=.N_ vs)(hz:2<vs.MV)(k:E (.π e) {s with ο:=s.ο.Oy e (O2 (·.NV 2 (.π h)))}):BT (Cl Ξ w) A (Z3 (.π e):Y_ c) Q E s:=by
 unfold Z3;refine d_ (Yh ?_);rw[g];dsimp only;let d:h≠e:=λz=>b (z▸N5);rw[Id (by simpa using d)];refine d_ (NQ (X8 (LQ j f b ?_ L.β 0 0 η h h (by rw[NS];lia) (LT _) ζ ζ)));unfold updateField;refine d_ (d_ (YA a ?_));rw[i];dsimp only;rw[Id hz];show wpAny_update a (VH k)
def Il.Of{hp:NR}{a:υ}(c:iq hp a .ε):Il hp [a]
 |0,b,e=>by cases e;show c
 |j+1,b,e=>by cases e
end
section
variable{X:Cx}{pins:List (Addr×Obj)}{σ:St}{H:Hp}{s:Shared}
def f'.sink(I:f' X MZ σ H s)(i:H e<*t_ e C d)(a:∀b o,s.ο.ψ b<*o->b≠e->b∉s_ X.NA->h'.ψ b<*o)(t:s.ο.Uh h')(h:∃E,h'.ψ e<*E):f' X MZ σ (BW H e) {s with ο:=h'}:=by
 let k:∀b u,H b<*u->b≠e->BW H e b<*u:=λb u z n=>(Eh n).ν z;let A:∀b∈s_ X.NA,∃o,s.ο.ψ b=δ o/\∀vs,o.NH≠.N_ vs:=Gf I.NA;let B:∀b,H b=ε->b≠e:=λb z y=>by rw[y,i]at z;cases z
 let m:Un (s_ X.NA) [] H (BW H e) s.ο h':=by
  refine(λb o z n g _=>a b o z (B b n) g,λb o z n g _=>?_,λb o z n _=>by rw[Eh (B b n)];show n,λb o z _=>?_,λb xs z=>k b _ z (qN z i (by intro y;cases y)),λb o u z=>k b _ z (qN z i (by intro y;cases y)),λb ps z=>(#[],3))
  .obtain ⟨F,f,p⟩:=A b g;rw[z]at f;cases f;show t b _ z p
  .by_cases g:b∈s_ X.NA
   .obtain ⟨F,f,p⟩:=A b g;rw[z]at f;cases f;let⟨M,D⟩:=t b _ z p;show(_,D)
   .by_cases x:b=e
    .subst x;show h
    .exact (o,a b o z x g)
  .rw [Nq.Zh];show k b _ z (qN z i (by intro y;cases y))
 let j:Au X.Ξ X.w (BW H e) h':=λb u z=>by
  let g:b≠e:=λy=>by rw[y,Jj]at z;cases z
  rw[Eh g]at z;refine(I.Oc b u z).ST (λc v l y=>?_) (λc y=>k c _ y (qN y i (!5))) λc xs y=>k c _ y (qN y i (!5));let L:∃r,H c=δ r/\c≠e:=by
   rcases l with ζ|l
   .exact (u,z,g)
   .exact (_,l,qN l i (!5))
  let⟨r,hw,q⟩:=L;show a c v y q λJ=>by rw[I.Tf c J]at hw;cases hw
 show I.Ql (g':=s.Ty) (d':=s.Tz) (t':=s.MT) (ch:=[]) m j I.Rz (λ_ z=>nomatch z)
def vY(un:Un fs f g H h0 h)(dT:h0.ψ T=ε)(c:∀b,b≠T->h'.ψ b=h.ψ b):Un fs f g H h0 h':=by
 let d:∀b o,h0.ψ b<*o->b≠T:=λb o z y=>by rw[y,dT]at z;cases z
 show(λb o z n e a=>(c b (d b o z)).ν (un.P_ b o z n e a),λb o z n e a=>by rw[c b (d b o z)];show un.UY b o z n e a,un.N4,λb o z a=>by rw[c b (d b o z)];show un.QO b o z a,un.QN,un.VZ,un.VN)
def uT(d:Au P w H h)(f:H T=ε)(g:∀b,b≠T->h'.ψ b=h.ψ b):Au P w H h':=λb u z=>by
 refine(d b u z).ST (λc v a y=>?_) (λ_ r=>r) λ_ _ r=>r;rw[g c (λe=>?_)]
 .exact y
 .rcases a with ζ|a
  .rw [e,f]at z;cases z
  .rw [e,f]at a;cases a
def oH{E:XK}{i:Φ}(hx:X.ex=[])(Rv:X.NA=X.KK::X.Fr)(g:X.KK.RN<*X.KK.OZ)(nd:X.N.Nx)(hi:X.N[i]?<*n)(hk:X.KK.Og n<*.local)(p:X.xe=λev s'=>BT (Cl X.Ξ X.w) X.A (SB X.KK ev) (λ_ l=>Al X.Ξ X.w X.Fr X.XJ X.RJ E ev l) (λe' l=>Al X.Ξ X.w X.Fr X.XJ X.RJ E e' l) s')(I:f' X MZ σ H s)(eH:H e<*t_ e C d)(d0:X.RJ.ο.ψ e=ε)(q:E (.π C) ε (BW H e))(e1:h1.ψ e<*o1)(c1:o1.OM=.π C)(P:o1.NH=.N_ vs)(f0:vs[0]?<*a0)(f1:vs[1]?<*.ε)(a:∀b,b≠e->h1.ψ b=s.ο.ψ b):Yu (Cl X.Ξ X.w) (X.A.ZV (δ v)) X.KK n Ng (Tj (Cl X.Ξ X.w) (X.A.ZV (δ v)) X.KK (cameBackBy (Cl X.Ξ X.w) X.A X.KK X.xe)) (.π e) {s with ο:=h1}:=by
 let⟨⟨t0,eO⟩,_,_⟩:=I.Oc e _ eH;let fr:∀b∈s_ X.NA,∃o,s.ο.ψ b=δ o/\∀vs,o.NH≠.N_ vs:=Gf I.NA;let L:∀b o,s.ο.ψ b<*o->(∀vs,o.NH≠.N_ vs)->b≠e:=λb o z u y=>by
  rw[y,eO]at z;cases z;show u _ ζ
 let Z:h1.Ow X.ς (X.KK::X.Fr):=Rv▸I.NA.of_keeps λb o z u=>(o,(a b (L b o z u)).ν z,1);let Rp:∀b∈s_ (X.KK::X.Fr),b∈e::s_ X.NA:=λb k=>M1 _ (Rv▸k);unfold Yu Tp;simp only[g];refine d_ (NO e1 P f1 ?_);rw[Ω (!0)];refine wpAny_entryW (s:={s with ο:=h1}) (ς:=Qo h1 (e::s_ X.NA)) (Fr:=X.Fr) (by change X.A.QZ=_;rw[<-Rv];show I.ok.QZ) (FJ Z Rp) g e1 (λb o z=>SH _ z) (O' _ N5) P (Nq.Os.mp f1).1 f0 λh2 hN=>?_;let⟨n1,_,⟨F,ws,T,oT,ts,g1,⟨g2,S⟩,B,R,nT,t,gT,dT,h3⟩,n4⟩:=hN;let up:s.ο.Uh h2:=λb o z u=>n4 b o ((a b (L b o z u)).ν z) u;let J:f' X MZ σ (BW H e) {s with ο:=h2}:=I.sink eH (λb o z n k=>n1 b o (Pp _ ((a b n).ν z) λO=>(MN.mp O).Nv n k)) up (F,g1);let ag:T∉s_ X.NA:=λO=>by
  let⟨o,z,hd⟩:=fr T O;let⟨sl,z2⟩:=up T o z hd;rw[gT]at z2;cases z2;show hd ts dT
 let r:s.ο.ψ T=ε:=by
  cases z:s.ο.ψ T with
  |ε=>rfl
  |δ o=>
   rw[Pp _ ((a T t).ν z) λO=>(MN.mp O).Nv t ag]at nT;cases nT
 let nl:∀b o,h2.ψ b<*o->(∃vs,o.NH=.N_ vs)->b≠X.KK.OZ:=λb o z ab y=>by
  let⟨vs,hv⟩:=ab;let⟨m,⟨o',es,ep,W,Q,_⟩,_⟩:=J.Xx;rw[y]at z;let W:h2.ψ X.KK.OZ<*o':=W;rw[z]at W;cases W;rw[hv]at Q;cases Q
 refine J.goes2 nd hi hk λj sb _ K=>?_;let e3:j.ο.ψ e<*F:=(sb.2 e (nl e F g1 (_,B))).ν g1;let T3:j.ο.ψ T<*oT:=(sb.2 T (nl T oT gT (_,dT))).ν gT;let f:3<ts.MV:=(Nq.Os.mp h3).1;let c:∀(h:NR)(x:θ)b,b≠T->(h.Oy T (O2 (·.NV 3 x))).ψ b=h.ψ b:=λh x b k=>OW _ _ (Ne.MO k);let T4:=N1 (O2 (·.NV 3 (Nw X.KK.OZ))) T3 (PU (OS dT _));let Y:=OS dT (·.NV 3 (Nw X.KK.OZ));let T5:=N1 (O2 (·.NV 3 θ.ε)) T4 (PU (OS Y _));let d5:=OS Y (·.NV 3 θ.ε);let e4:=(c j.ο (Nw X.KK.OZ) e (Ne.MO t)).ν e3;let e5:=(c _ θ.ε e (Ne.MO t)).ν e4;let U:X.xe (.π e) {j with ο:=j.ο.Oy T (O2 (·.NV 3 (Nw X.KK.OZ)))}:=by
  rw[p];unfold SB;refine d_ (ZF (ς:=Qo h1 (e::s_ X.NA)) g (F,ws,T,_,_,e4,(g2,S),B,R,nT,t,T4,Y,by simp[f]) ?_);unfold Sw;refine d_ (NO e4 B R ?_);rw[Id (show(θ.π T != θ.ε)=ξ from by simp)];refine QL T4 Y (by simp[f]) ?_;let D:∀b,b≠T->((j.ο.Oy T (O2 (·.NV 3 (Nw X.KK.OZ)))).Oy T (O2 (·.NV 3 θ.ε))).ψ b=j.ο.ψ b:=λb k=>(c _ _ b k).ν (c _ _ b k);let M:BW H e T=ε:=by rw[Eh t];show G7 I.Oc r
  let ub:=K.ς;rw[hx]at ub;show(e,T,.π C,a0,ε,BW H e,1,K.os,K.Rz,vY ub (AH I hx r) D,uT K.Oc M D,d0,AH I hx r,Jj,M,(F,ws,_,_,e5,(g2.ν c1,S),B,R,t,T5,d5,by simp[f],λ_ z=>nomatch z),q)
 unfold Δ.passOn;refine d_ (NO e3 B R ?_);rw[Ω (show ¬ ((θ.π T==θ.ε)=ξ)from by simp)];let Xd:BT (Cl X.Ξ X.w) (X.A.ZV (δ v)) (do Sw (.π e) X.KK.RN;throw (θ.π e):Y_ Flow) (λ_ _=>NU) (Tj (Cl X.Ξ X.w) (X.A.ZV (δ v)) X.KK (cameBackBy (Cl X.Ξ X.w) X.A X.KK X.xe)) j:=by
  unfold Sw;rw[g];refine d_ (d_ (NO e3 B R ?_));rw[Id (show(θ.π T != θ.ε)=ξ from by simp)];refine QL T3 dT f (VH ?_);rw[p];rw[p]at U;show PassesOwnAt.SB _ _ U
 first
  |show d_ (j' Xd)
  |show Xd
end
section
variable{P:Program}{w:World}{A:Around}{E:Value->Shared->Prop}
variable{nm q:Str}{C N:Addr}{bs bm:List Value}{hdct:Bool}{sn:List Str}{sub:List Value}{ab:Bool}{col:Option Bool}{dd:Option Addr}{k0 k1 k2 k3 k5:Option Value}
def kX(f:bm.M7 (.MM "BaseException")=ξ)(u:A.PL<*.π h)(y:∀(R:θ->MH->Prop)a,R .ε a->BT (Cl P w) A c R E a)(D:BT (Cl P w) A x (λv a=>∃e d2 a0,v=.π e/\a.ο.ψ C=δ (Re nm q C N bs bm UQ sn Rp ab VF dd k0 k1 k2 k3 k5 "ValueError.__new__")/\a.ο.ψ e=δ (Ab C d2 a0)/\iq a.ο h .ε/\e≠h/\e≠C/\
   ∀h1:NR,h1.ψ e<*{Ab C d2 a0 with NH:=.N_ #[a0,.ε,.π h,.ε,.Pe ξ,.ε]}->(∀b,b≠e->h1.ψ b=a.ο.ψ b)->E (.π e) {a with ο:=h1}) E s):BT (Cl P w) A (Yx KK (δ x) (δ c)) Q E s:=by
 let j:(θ.π C::bm).M7 (.MM "BaseException")=ξ:=by rw[γ.V9,f,MX.or_true]
 unfold Yx;refine d_ (NG D (λv a h1=>?_) λ_ _ z=>z);let⟨e,d2,a0,ζ,o,m,F,l,t,B⟩:=h1;let⟨hp,g,d,S,os⟩:=a;refine d_ (NQ (y _ _ (d_ (j' ?_))));repeat (first|with_reducible refine Qb m ?_|with_reducible refine Qb o ?_|(with_reducible refine Vr o ?_;rw[j])|wp_step)
 let I:=N1 (O2 (·.NV 3 θ.ε)) m (PU (OS ζ _));let n:=N1 (O2 (·.NV 4 (θ.Pe ξ))) I (PU (OS ζ _));let k:∀b,b≠e->((hp.Oy e (O2 (·.NV 3 θ.ε))).Oy e (O2 (·.NV 4 (θ.Pe ξ)))).ψ b=hp.ψ b:=λb i=>(OW _ _ (Ne.MO i)).ν (OW _ _ (Ne.MO i));let⟨r,p,O,M,J⟩:=F;let H:=N1 (O2 (·.NV 2 (.π h))) n (PU (OS ζ _));refine iW (L:=[]) u (Il.Of (r,p,(k h (Ne.MO l)).ν O,M,J)) (!1) (by simpa using l) n ζ (!1) ?_;show B _ H λb i=>(OW _ _ (Ne.MO i)).ν (k b i)
end
abbrev Jo(P:NC)(w:Ny)(K:Nl)(mg:M'->ω θ)(ς:NR)(f:υ)(fd:Sb)(ps:γ M')(sp:Sp):Prop:=
 ∀(A:N0)(v:θ)(Fr:γ WC)(s:MH)(H:Hp)(args:Args)(us:γ θ)(vs:γ V)(Q:VK)(E:XK),A.PL<*v->A.Wj<recursionLimit->bx P w K mg ς A Fr s H->X5 s fd args (ps.Td us)->ae vs us->sp vs H Q E->
  Qe (Cl P w) A (.Ql (.π f) args) (CR pu Fr P w H s Q E) s
section
variable{P:Program}{w:World}{K:Frag}{mg:Str->Option Value}{base:Heap}
def vh.okH{st:Nr}(F:vh K x M4 st f fd)(S:vw N ps (h_ st))(PJ:∀vs H Q E,M vs H Q E->vs.β=ps.β)(i:∀(Qi:θ)(A:N0)(Fr:γ WC)(s:MH)(H:Hp)(vs:γ V)(Q:VK)(E:XK)(v:θ),M vs H Q E->
   ∃t,BA ((aG pu P w K mg ς N M4 (h_ st) f Qi A Fr s H E).UP v) (p_ st) t/\t {nx:=λ_ H'=>Q .Rt H',rt:=Q} (SM N vs) H):Jo P w K mg ς f fd ps M:=by
 let⟨oc,od,kV,Pi,pm,an,Qi,ct,X,ζ,lk,C⟩:=F.ex;intro A v Fr s H T us vs Q E L B a hb r k;let hl:=PJ _ _ _ _ k;let U:K.In s.ο:=a.VT.Vv.Oq λb o e=>(a.bs b o e).1;let p:s.ο.X3:=a.VT.WZ.Oq λb o e=>(a.bs b o e).1;let g:∀y∈ps.Td us,(h_ st).MP.ρ y.1<*.local\/((h_ st).MP.ρ y.1=δ .N8/\((Vm (s⁻¹+1) (h_ st).MP []).ρ y.1).Rx=ξ):=λD Y=>by
  let⟨n,v⟩:=D;rcases S.YJ n (Ur Y).1 with q|q
  .exact .NI q
  .exact .NT (q,Δ.W.YW _ _ _ (.NI q))
 refine Sk B (U _ _ lk) ζ S.co S.gen ζ (Δ.W.codeRec_of U C) (hb _ _ _ _ ?_);refine X9 S.RR g λKK he O x=>?_;subst he;refine(p.Oq x.toInCall.P_,Wk ?_);let⟨t,Z,hq⟩:=i Qi ({A with PL:=ε}:N0) Fr s H vs Q E v k;let I0:f' (aG pu P w K mg ς N M4 (h_ st) f Qi ({A with PL:=ε}:N0) Fr s H E) [] (SM N vs) H O:=eZ S ζ (a.QZ,a.VT,a.bs,a.bsz,a.VY,a.frf,a.Oc,a.Rz) hl r x;let I:=I0.UP v;let eA:((aG pu P w K mg ς N M4 (h_ st) f Qi ({A with PL:=ε}:N0) Fr s H E).UP v).A=A.RE (S4 M4 (h_ st) s⁻¹ f Qi):=by
  let⟨h,d,fr,gd,un⟩:=A;let L:h<*v:=L;subst L;rfl
 let R:=Z [] O (SM N vs) H _ I hq;rw[eA]at R;refine NG R (λfl s' j=>?_) λe s' j=>j.Nv;let l:∀{c:St}{H':Hp}{z:V}{u:θ},f' ((aG pu P w K mg ς N M4 (h_ st) f Qi ({A with PL:=ε}:N0) Fr s H E).UP v) [] c H' s'->ad z u->Q z H'->CE Fr P w H s Q u s':=
  λ{c H' z u}J m q=>(z,H',J.os,J.Rz,J.ς,J.Oc,m,q)
 cases fl with
 |UT u=>
  let⟨v,c,H',J,m,q⟩:=j;show l J m q
 |next=>
  let⟨c,H',J,q⟩:=j;show l (z:=V.Rt) (u:=θ.ε) J ζ q
 |Yg=>
  let⟨_,_,_,q⟩:=j;show NU.Nv q
 |T_=>
  let⟨_,_,_,q⟩:=j;show NU.Nv q
end
section
variable{X:Cx}{pins:List (Addr×Obj)}{σ:St}{H:Hp}{s:Shared}{f C:Addr}{fd:FuncData}{ps:List Str}{sp:Sp}{k:Nat}{t ta:TA}{E:XK}
def qA{Q:VK}(S:X.ex=[])(M:BV X.K C f)(Z:isFn X.K (.π f)=ξ)(F:Jo X.Ξ X.w X.K X.mg X.ς f fd ps sp)(PJ:∀vs H Q E,sp vs H Q E->vs.β=ps.β)(U:ak k X.A)(Y:Ao X.K fd ps [])(I:f' (X.UP v) MZ σ H s)(r:ae vs us)(T:us.β≤Λ)(h:∀e,H e=ε->sp (.π e::vs) (MR H e (t_ e C ε)) (λv H2=>v=.Rt/\Q (.π e) H2) E0):BT (Cl X.Ξ X.w) (X.A.ZV (δ v)) (Ql (.π C) us) (λu s'=>∃e H',u=.π e/\X.RJ.ο.ψ e=ε/\f' (X.UP v) MZ σ H' s'/\Q (.π e) H') (λ_ _=>NU) s:=by
 let⟨bm,N,nm,qn,bs,UQ,sn,Rp,ab,VF,dd,k0,k1,k2,k3,k5,mN,cO,P,R,J⟩:=M.Ua (show X.K.In s.ο from I.TX);obtain⟨j,fO,fc⟩:∃j,s.ο.ψ f=δ j/\j.OM=.MM "function":=by
  let⟨o,q,e⟩:=BG (show ω.NL (λx:Rm=>x.OM) (γ.ρ f X.K)<*.MM "function"from Ot.mp Z);show(o,(show X.K.In s.ο from I.TX) _ _ q,e)
 let⟨hh,g,d,i,os⟩:=s;refine jE J cO P R fO fc T λh' e B mk=>?_;let⟨t0,D,tn,tO⟩:=mk.QO;let m:f' (X.UP v) MZ σ (MR H e (t_ e C ε)) (h',g,d,i,os):=I.Tw (a:=e) (o:=t_ e C ε) (h':=h') (t':=i) mk.Oq B ((_,D),(_,D),λh1 h2 l k=>by let⟨z,q⟩:=l;show(z,k _ q));let p:=h e (I.Oc.OF B);let n:ae (V.π e::vs) (θ.π e::us):=.NX ζ r;let W:(θ.π e::us).β=ps.β:=by
  let z:=n.β;rw[PJ _ _ _ _ p]at z;show z.MO
 let c:=Y (h',g,d,i,os) (θ.π e::us) (show X.K.In h' from m.TX);rw[Oa]at c;refine QM (PY (F _ v X.NA _ _ (θ.π e::us,[]) (θ.π e::us) _ _ E0 ζ ?_ (m.Ze.make C us []) (c W) n p) λr s' b=>?_)
 .rw [Lb];have:=U.dp;change X.A.Wj+1<_;lia
 cases r with
 |R9 y=>show b.Nv
 |ok fl=>
  cases fl with
  |UT u=>
   let⟨z,H',I3,L,y,O⟩:=m.XZ b;subst y;show(L,e,H',1,AH (X:=X.UP v) I S mk.Xw,I3,O)
  |next=>show NU.Nv b
  |Yg=>show NU.Nv b
  |T_=>show NU.Nv b
abbrev xZ(sp:Sp)(t:TA):(St->XK)->TS:=λG D σ H=>t σ H λvs H1=>sp vs H1 (λv H2=>D.rt v H2) (G σ)
def wN{p i Ng:Sn}(F:AT X.Ξ X.w X.K X.mg X.ς g k ps sp)(m:ak k X.A)(q:PA X.nox (e::a) t)(n:Gl X g>>>4)(c:((g==("__debug__":M'))=η)>>>0)(o:(Θ (e::a) X.KK=(η,OJ e X.KK,)::Θ a X.KK)>>>4)(b:((OE i (Θ a X.KK)).Qk (·.1)=η)>>>4):PX X (.XH (δ (.QE (.Nz g p) (e::a) [] i)) Ng) (xZ sp t):=by
 intro MZ s σ H D G I h;refine wpAny_Return_some (NG (FT F m q n c o b I h) (λv x d=>?_) λ_ _ z=>z);let⟨w,u,r,j,l⟩:=d;show(w,σ,u,r,j,l)
abbrev QR(C e:υ)(C':θ)(x0:υ)(E:XK):VK:=λv H=>match v with
 |.π e1=>∃d',e1≠e/\H e1=δ (t_ e1 C d')/\H e=δ (dB e C' (δ x0))/\E (.π C) ε (BW H e1)
 |_=>NU
abbrev nV(K:Nl)(C:υ)(i:Φ)(spx:Sp)(ta:TA)(E:XK)(σ:St):XK:=λC' d H2=>Zc K C' (.π C)=δ ξ/\∃x,d=δ x/\∀e,H2 e=ε->ta (σ.RY i (δ (.π e))) (MR H2 e (dB e C' d)) λws H3=>ws.β≤Λ/\∀e1,H3 e1=ε->
 spx (.π e1::ws) (MR H3 e1 (t_ e1 C ε)) (λv H4=>v=.Rt/\∃d',e1≠e/\H4 e1=δ (t_ e1 C d')/\H4 e=δ (dB e C' d)/\E (.π C) ε (BW H4 e1)) E0
abbrev x9(K:Nl)(C:υ)(i:Φ)(spx:Sp)(ta:TA)(E:XK)(τ:(St->XK)->TS):TS:=λD σ H=>τ (nV K C i spx ta E) D σ H
def uk{st:Nr}{np Y b r u Ng cp:Sn}{j:Φ}(hx:X.ex=[])(Rv:X.NA=X.KK::X.Fr)(y:X.KK.RN<*X.KK.OZ)(Z:X.xe=λev s'=>BT (Cl X.Ξ X.w) X.A (SB X.KK ev) (λ_ m=>Al X.Ξ X.w X.Fr X.XJ X.RJ E ev m) (λe' m=>Al X.Ξ X.w X.Fr X.XJ X.RJ E e' m) s')(nd:X.N.Nx)(hi:X.N[i]?<*n)(hk:X.KK.Og n<*.local)(hl:DG X.KK.NE n)(hf:X.fn n=ξ\/X.KK.NE.MP.ρ n<*.local)(hg:Gl X x)(hm:X.mg x<*.π C)(hd:(x==("__debug__":M'))=η)(M:BV X.K C f)(fn:isFn X.K (.π f)=ξ)(F:Jo X.Ξ X.w X.K X.mg X.ς f fd ps sp)(PJ:∀vs H Q E,sp vs H Q E->vs.β=ps.β)(hr:ak k X.A)(hb:Ao X.K fd ps [])(ha:∀v,PA (X.UP v) (L::p) ta)(h:PX X st τ)(he:(Θ (L::p) X.KK=(η,OJ L X.KK,)::Θ p X.KK)>>>4)(ag:((OE b (Θ p X.KK)).Qk (·.1)=η)>>>4):PS X (.Try [st] [.WB (δ (.Nz x np)) (δ n) [.Raise (δ (.QE (.Nz x Y) (L::p) [] b)) (δ (.Vi .ε j cp)) r] u] [] [] Ng) (x9 X.K C i sp ta E τ):=by
 intro MZ s σ H D I q;refine wpAny_Try_except (NG (Fb h I q) (λf s1 q=>?_) λev s'⟨l,H',s1,J,cx⟩=>ml hx Rv y nd hi hk hl hf hg hm (λe C' d H2 s5 U hn d0 I5=>?_) J cx hd)
 .cases f with
  |next=>show RH q
  |UT v=>show q
  |Yg=>show q
  |T_=>show q
 let⟨S,ζ,U⟩:=U;let h0:=U e hn;let IH:=I5.UP (.π e);let⟨bm,N,nm,qn,bs,UQ,sn,Rp,ab,VF,dd,k0,k1,k2,k3,k5,mN,cO,nO,iO,tl⟩:=M.Ua I5.ok.VT.Vv;let cK:∀{l:St}{H':Hp}{s':MH},f' (X.UP (.π e)) MZ l H' s'->s'.ο.ψ C<*Re nm qn C N bs bm UQ sn Rp ab VF dd k0 k1 k2 k3 k5 "ValueError.__new__":=λI'=>I'.bk _ _ cO;refine Sq ?_;rw[arm_exec_Raise];refine d_ (PP (kX (C:=C) (nm:=nm) (q:=qn) (N:=N) (bs:=bs) (bm:=bm) (UQ:=UQ) (sn:=sn) (Rp:=Rp) (ab:=ab) (VF:=VF) (dd:=dd) (k0:=k0) (k1:=k1) (k2:=k2) (k3:=k3) (k5:=k5) (h:=e) (tl.hasType RC.hasBase) ζ ?_
  (d_ (NG (E:=λ_ _=>NU) (wpAny_Call_ofName (v_ (X:=X.UP (.π e)) IH hg hm ?_ hd)) (λv s3 h3=>d_ (PP (j' h3))) λ_ _ z=>z.Nv))))
 .intro R s1 hR;show d_ (Constant_none (d_ (PP (j' hR))))
 let hA:=ha (.π e) b MZ s5 _ _ _ IH h0;let W:(OE b (Θ (L::p) X.KK)).Qk (·.1)=η:=by rw[he];change (η||(OE b (Θ p X.KK)).Qk (·.1))=η;rw[ag];rfl
 unfold YY;refine d_ (NQ (NG (Q:=λ(a:Args)s2=>a.kw=[]/\∃vs P,f' (X.UP (.π e)) MZ (l.RY i (δ (V.π e))) P s2/\ae vs a.Ng/\vs.β≤Λ/\∀c,P c=ε->sp (.π c::vs) (MR P c (t_ c C ε)) (λv O=>v=.Rt/\∃d',c≠e/\O c=δ (t_ c C d')/\O e=δ (dB e C' (δ S))/\E (.π C) ε (BW O c)) E0) ?_ (λa s2 h2=>d_ (PP ?_)) λ_ _ z=>z))
 .rw [he]at hA⊢;show R_.SY (ri hA λus s2 as=>by let⟨vs,H2,I2,r2,hl,q⟩:=as;show(1,vs,H2,I2,r2,hl,q))
 let⟨g,aA⟩:=a;let⟨ar,vs,P,I3,r3,ap,q3⟩:=h2;obtain ζ:aA=[]:=ar;let⟨aH,g2,d2,aB,aC⟩:=s2;simp only[W];refine d_ (wpAny_keeperOf_exc (cK I3) ?_);refine d_ (NG (qA (Q:=QR C e C' S E) hx M fn F PJ hr hb I3 r3 (by change g.β≤Λ;let z:vs.β=g.β:=r3.β;rw[<-z];show ap) λc an=>q3 c an) (λv s3 hv=>d_ (NQ (wpAny_point (j' ?_)))) λ_ _ z=>z);let⟨c,O,ζ,az,B,d',ne,h1,h2,qE⟩:=hv;let⟨⟨t0,eO⟩,_,_⟩:=B.Oc c _ h1;let⟨⟨oe,g1,g2,⟨T,g3⟩,g4⟩,_⟩:=B.Oc e _ h2;let o:=NZ Uj.snd (g4 S ζ);refine(c,d',.π t0,1,cK B,eO,(oe,T,g1,g3,3),ne,λz=>?_,λaM ho hs=>?_)
 .unfold mu at o;rw[g3]at o;show o
 .rw [z]at eO;have:=(cK B).MO.ν eO;cases this
 show oH hx Rv y nd hi hk Z (B.unheld I.ok) h1 az qE ho ζ ζ ζ ζ hs
end
section
variable{M:Model}{A:Around}{E:Value->Shared->Prop}{s:Shared}{base:Heap}{env:Env}{outer l:List Env}{L e:Addr}{cls a0 fl:Value}
def lz(m:A.QZ<*(KK::Fr))(n:KK.RN<*L)(i:ς.X1 s.ο)(f:ς.ψ e=ε)(r:s.ο.Ow ς (KK::Fr))(k:s.ο.Y9 ς e OM a0 fl)(v:∀h',Zk ς Fr e OM a0 h'->s.ο.Uh h'->Q () {s with ο:=h'}):BT M A (SB KK (.π e)) Q E s:=by
 by_cases d:fl=Nw L
 .subst d;unfold SB;refine d_ (ZF n k ?_);refine ZG (l:=KK::Fr) (i,f,r,k) λh' d x=>?_;let⟨k1,k2,⟨_,_,k3⟩,j⟩:=d;show v h' (k1,k2,k3,j) x
 .obtain ⟨C,vs,T,D,ts,t,⟨a,h0⟩,u,h1,y,p,q,dT,w⟩:=k;subst a;unfold SB Tp;simp only[n];refine d_ (d_ (NO t u h1 ?_));rw[Id (!1)];refine d_ (NO q dT w ?_);rw[Ω (by simpa using d)];refine d_ (QL q dT (Nq.Os.mp w).1 ?_);let b:∀c,c≠T->(s.ο.Oy T (O2 (·.NV 3 θ.ε))).ψ c=s.ο.ψ c:=λc a=>OW _ _ (Ne.MO a);let h:∀c o,s.ο.ψ c<*o->(∀ws,o.NH≠.N_ ws)->c≠T:=λc o a g z=>by
   rw[z,q]at a;cases a;show g ts dT
  refine wpAny_newEntryW (ς:=ς) m (r.of_keeps λc o a g=>(o,(b c (h c o a g)).ν a,1)) n ((b e (Ne.MO p)).ν t) (λc o a=>(b c λz=>by rw[z,y]at a;cases a).ν (i c o a)) f u
   (Nq.Os.mp h1).1 h0 λh' B=>?_
  let⟨k1,⟨_,_,k2⟩,k3,j⟩:=B;show v h' (k1,f,k2,k3) λc o a g=>j c o ((b c (h c o a g)).ν a) g
def qQ{Q:r->MH->Prop}(i:ς.X1 s.ο)(B:s.ο.Ow ς l)(y:s.ο.Y9 ς e OM a0 fl)(C:∀h' p,ς.X1 h'->h'.Ow ς l->h'.Y9 ς e OM a0 p->s.ο.Uh h'->E (.π e) {s with ο:=h'}):BT M A (Δ.passOn what (.π e) w:Y_ r) Q E s:=by
 let⟨x,vs,T,F,ts,j,a,k,h1,t,h,m,dT,D⟩:=y;let b:∀v c,c≠T->(s.ο.Oy T (O2 (·.NV 3 v))).ψ c=s.ο.ψ c:=λv c a=>OW _ _ (Ne.MO a);let d:∀c o,s.ο.ψ c<*o->(∀ws,o.NH≠.N_ ws)->c≠T:=λc o a g z=>by
  rw[z,m]at a;cases a;show g ts dT
 let l3:=(Nq.Os.mp D).1;unfold Δ.passOn;refine d_ (NO j k h1 ?_);rw[Ω (!1)];let n:∀v,BT M A (VP (.π T) 3 v) (λ_ s'=>E (.π e) s') E s:=λv=>by
  refine QL m dT l3 (C _ v (λc o a=>(b v c λz=>by rw[z,t]at a;cases a).ν (i c o a)) (B.of_keeps λc o a g=>(o,(b v c (d c o a g)).ν a,1)) ?_ λc o a g=>(o.Rw,(b v c (d c o a g)).ν a));show(x,vs,T,_,_,(b v e (Ne.MO h)).ν j,a,k,h1,t,h,N1 _ m (PU (OS dT _)),OS dT _,by simp[l3])
 let u:∀f,BT M A (Sw (.π e) f) (λ_ s'=>BT M A (throw (.π e):Y_ r) Q E s') E s:=λf=>by
  unfold Sw;refine d_ (NO j k h1 ?_);rw[Id (!1)];show NG (n _) (λ_ _ q=>VH q) λ_ _ q=>q
 first
  |show d_ (j' (d_ (u _)))
  |show d_ (u _)
end
def LR{h h' ς:NR}:∀{l:γ WC},h.Ow ς l->(∀b∈s_ l,h'.ψ b=h.ψ b)->h'.Ow ς l
 |[],_,_=>trivial
 |KK::r,i,a=>by
  let⟨j,⟨L,o,c,g,f,k⟩,d⟩:=i;let e:s_ (KK::r)=L::s_ r:=by unfold s_;rw[SX,c]
  show(j,(L,o,c,g,(a L (by rw[e];show N5)).ν f,k),LR d λb m=>a b (by rw[e];show M1 _ m))
section
variable{X:Cx}{E:XK}
abbrev ig(X X':Cx)(E:XK):θ->MH->Prop:=λev s'=>∃MZ σ H s,f' X' MZ σ H s/\Al X.Ξ X.w X.NA H s (λC _ H'=>E C ε H') ev s'
def gH{Y b:Cx}(d:Y=b.Vs (ig X b E))(h1:(b.Ξ=X.Ξ)>>>4)(h2:(b.w=X.w)>>>4)(e:(b.NA=X.NA)>>>4):Et (Al Y.Ξ Y.w) Y (λC _ H=>E C ε H):=λa c H s _ _ I f=>by
 subst d;refine(a,c,H,s,I.Ss,3);rw[<-h1,<-h2,<-e];show f
abbrev tG(X:Cx)(E:XK):Prop:=X.ex=[]/\X.NA=X.KK::X.Fr/\X.KK.RN=δ X.KK.OZ/\
 ∀ev s',BT (Cl X.Ξ X.w) X.A (SB X.KK ev) (λ_ s''=>Al X.Ξ X.w X.Fr X.XJ X.RJ E ev s'') (λe' s''=>Al X.Ξ X.w X.Fr X.XJ X.RJ E e' s'') s'->X.xe ev s'
def jW{k:γ (υ×Rm)}{σ:St}{H2:Hp}{s2:MH}{fp:γ υ}{C:υ}(O:tG X E)(Z:f' X k σ H2 s2)(f2:∀b∈fp,(b∈X.ex\/X.RJ⁻¹≤b)/\b≠X.KK.OZ/\(∀x c,X.KK.Rj.ρ x<*c->c≠b)/\∀p∈X.pn++k,p.1≠b)(hC:s2⁻¹≤C)(h:ig X {oI X x sc cl C fp s2 H2 with N:=N'} E ev s'):Tj (Cl X.Ξ X.w) X.A (Vc sc cl C X.KK) (λe aV=>Vb (Cl X.Ξ X.w) X.A X.xe us Q b3 C (.R9 e) aV) ev s':=by
 let⟨hx,Rv,aA,a8⟩:=O;let⟨a5,bS,H1,s1,I1,e,T,Cc,a0,dd,H',ζ,os,L,un,F,de,dT,he,hT,fT,q⟩:=h;let ab:Un (s_ X.NA) fp H2 H1 s2.ο s1.ο:=I1.ς;let a:Un (s_ X.NA) fp H2 H' s2.ο s'.ο:=ab.ν (un.Pg (λ_ z=>z) (λ_ z=>nomatch z));let a6:s1.os=s2.os:=I1.os;let P:s'.os=s2.os:=os.ν a6;let I3:f' X k σ H' s':=Z.call' P a F L f2;let nC:C∉s_ X.NA:=λhm=>by
  let⟨o,ho,_⟩:=Gf Z.NA C hm;show MJ (lt_size ho) (TU.Om hC)
 let bD:∀b∈s_ X.NA,H' b=ε:=I3.Tf;let⟨m,⟨oC,es,ep,H,bg,rC⟩,_⟩:=I1.Xx;let H:s1.ο.ψ C<*oC:=H;let fC:H1 C=ε:=I1.N4;let an:s'.ο.ψ C<*oC:=un.P_ C oC H fC nC (!1);let HC:H' C=ε:=un.N4 C oC H fC (!1);let eC:e≠C:=λz=>by rw[z,H]at de;cases de
 let⟨j,g,d,tk,ag⟩:=s';let P:ag=s2.os:=P;let a:Un (s_ X.NA) fp H2 H' s2.ο j:=a;let F:Au X.Ξ X.w H' j:=F;let un:Un (s_ X.NA) [] H1 H' s1.ο j:=un;let fT:FI j e T Cc a0 dd:=fT;let an:j.ψ C<*oC:=an;let aT:j.Ow X.ς (X.KK::X.Fr):=Rv▸I3.NA;let aB:X.A.QZ<*(X.KK::X.Fr):=by rw[<-Rv];show Z.ok.QZ
 let fl:Zk (Qo j (e::T::C::s_ X.NA)) (X.KK::X.Fr) e Cc a0 j:=
  (λb o z=>SH _ z,O' _ (!1),FJ aT (by rw[<-Rv];show λb z=>M1 _ (M1 _ (M1 _ z))),fT.traced (O' _ (!1)))
 let W:(Qo j (e::T::C::s_ X.NA)).ψ C=ε:=O' _ (!1);let I:∀b o,j.ψ b<*o->b≠e->b≠T->b≠C->b∉s_ X.NA->(Qo j (e::T::C::s_ X.NA)).ψ b<*o:=λb o z h1 h2 h3 M=>Pp _ z (by simp[h1,h2,h3,M]);generalize hB:Qo j (e::T::C::s_ X.NA)=B at fl W I;let bl:∀b,B.ψ b=ε->b≠e->b≠T->b≠C->b∉s_ X.NA->j.ψ b=ε:=λb z h1 h2 h3 M=>by
  cases y:j.ψ b with
  |ε=>rfl
  |δ o=>rw[I b o y h1 h2 h3 M]at z;cases z
 change BT (Cl X.Ξ X.w) X.A (Tp (.π e) X.KK) _ _ _;refine Xa (ς:=B) aB aA fl λh1 bd up1=>?_;let az:h1.Ns C m:=up1.ns (oC,es,ep,an,bg,rC);refine(m,az,λh2 sb bP _=>?_);let⟨k1,k2,k3,k4⟩:=bd;let g1:B.X1 h2:=λb o z=>(sb.2 b λy=>by rw[y,W]at z;cases z).ν (k1 b o z);let g3:h2.Ow B (X.KK::X.Fr):=LR k3 λb s=>sb.2 b λy=>nC (by rw[<-y,Rv];show s);let g4:h2.Y9 B e Cc a0 (Nw X.KK.OZ):=by
  let⟨oe,vs,T1,oT,ts,y1,y2,y3,y4,y5,y6,y7,y8,y9⟩:=k4;let bM:T1≠C:=λz=>by
   let⟨o',b1,b2,a9,bi,_⟩:=az;rw[z,a9]at y7;cases y7;rw[bi]at y8;cases y8
  show(oe,vs,T1,oT,ts,(sb.2 e eC).ν y1,y2,y3,y4,y5,y6,(sb.2 T1 bM).ν y7,y8,y9)
 refine qQ (ς:=B) (l:=X.KK::X.Fr) g1 g3 g4 λh3 b0 j1 j2 j3 aN=>a8 _ _ (lz (ς:=B) aB aA j1 k2 j2 j3 λM bf aM=>?_);let⟨i1,i2,i3,i4⟩:=bf;let D:∀b o,j.ψ b<*o->b≠e->b≠T->b≠C->b∉s_ X.NA->M.ψ b<*o:=λb o z a1 a2 Y a4=>i1 b o (I b o z a1 a2 Y a4);let ar:∀b o,b≠C->j.ψ b<*o->(∀vs,o.NH≠.N_ vs)->∃sl,M.ψ b<*{o with Rw:=sl}:=λb o bm z hd=>by
  let⟨bV,e1⟩:=up1 b o z hd;let⟨bU,e3⟩:=aN b _ ((sb.2 b bm).ν e1) hd;let⟨aU,e4⟩:=aM b _ e3 hd;show(aU,e4)
 let t:∀b o,s2.ο.ψ b<*o->b∉fp->b≠e/\b≠T/\b≠C:=λb o z J=>by
  let⟨o1,R⟩:=ab.QO b o z J;refine(λy=>?_,λy=>?_,λy=>?_)
  .rw [y,de]at R;cases R
  .rw [y,dT]at R;cases R
  .exact MJ (lt_size z) (TU.Om (by rw[y];show hC))
 let aC:∀b∈s_ X.NA,∀o,s2.ο.ψ b<*o->∀vs,o.NH≠.N_ vs:=λb s o z=>by
  let⟨o',z',hd⟩:=Gf Z.NA b s;rw[z]at z';cases z';show hd
 let aS:Un (s_ X.NA) fp H2 H' s2.ο M:=by
  refine(λb o z n s J=>?_,λb o z n s J=>?_,a.N4,λb o z J=>?_,a.QN,a.VZ,a.VN)
  .obtain ⟨a1,a2,Y⟩:=t b o z J;show D b o (a.P_ b o z n s J) a1 a2 Y s
  .obtain ⟨a1,a2,Y⟩:=t b o z J;let⟨sl,R⟩:=a.UY b o z n s J;let⟨as,z2⟩:=ar b _ Y R (aC b s o z);show(as,z2)
  .obtain ⟨a1,a2,Y⟩:=t b o z J;let⟨o1,R⟩:=a.QO b o z J;by_cases s:b∈s_ X.NA
   .obtain ⟨sl,z3⟩:=a.UY b o z (Z.Tf b s) s J;let⟨as,z2⟩:=ar b _ Y z3 (aC b s o z);show(_,z2)
   .exact (o1,D b o1 R a1 a2 Y s)
 let U:Au X.Ξ X.w H' M:=λb u z=>(F b u z).ST (λc v hc y=>by
  let bk:∃u',H' c<*u':=by
   rcases hc with f|f
   .exact (u,by rw[f];show z)
   .exact (_,f)
  let⟨u',S⟩:=bk;refine D c v y (λf=>?_) (λf=>?_) (λf=>?_) (λf=>?_)
  .rw [f,he]at S;cases S
  .rw [f,hT]at S;cases S
  .rw [f,HC]at S;cases S
  .rw [bD c f]at S;cases S) (λ_ y=>y) λ_ _ y=>y
 let IF:f' X k σ H' (M,g,d,tk,ag):=Z.call' (s':=(M,g,d,tk,ag)) P aS U L f2;let i:∀b,s1.ο.ψ b=ε->X.RJ.ο.ψ b=ε:=λb z=>by
  cases y:X.RJ.ο.ψ b with
  |ε=>rfl
  |δ o=>
   let⟨o2,r2⟩:=Z.ς.QO b o y (by rw[hx];simp);let⟨o1,r1⟩:=ab.QO b o2 r2 λhm=>by
    rcases(f2 b hm).1 with f|f
    .rw [hx]at f;cases f
    .exact MJ (lt_size y) (TU.Om f)
   rw[z]at r1;cases r1
 let⟨T2,a7,ap⟩:=gZ i4;let aH:X.RJ.ο.ψ T2=ε/\H' T2=ε:=by
  let bs:T2≠e:=by let⟨_,_,_,_,_,_,_,_,z,_⟩:=ap;show z
  by_cases f:T2=T
  .rw [f];show(i T dT,hT)
  by_cases w2:T2=C
  .rw [w2];refine(3,HC);cases y:X.RJ.ο.ψ C with
   |ε=>rfl
   |δ o=>show MJ (lt_size y) (TU.Om (IO Z.sz hC))
  let bo:=IN ap IF.NA;let z:=bl T2 a7 bs f w2 bo;refine(i T2 ?_,G7 F z);cases y:s1.ο.ψ T2 with
  |ε=>rfl
  |δ o=>
   let⟨o',r⟩:=un.QO T2 o y (!1);rw[z]at r;cases r
 let ub:=IF.ς;rw[hx]at ub;show(e,T2,Cc,a0,ε,H',1,IF.os,L,ub,U,i e de,aH.1,he,aH.2,ap,q)
end
section
variable{X:Cx}{elt iter:Expr}{x:Str}{px pos:Pos}{ifs:List Expr}{sc:Scope}{wi:TI}{tt:TT}{te:TE}
end
def wU{P:NC}{w:Ny}{K:Nl}{mg:M'->ω θ}{ς:NR}{N:γ M'}:tG (aG (Al P w) P w K mg ς N M4 a f b A Fr s H E) E:=(5,1,λ_ _ h=>h)
section
variable{X:Cx}{elt iter:Expr}{x:Str}{px pos:Pos}{ifs:List Expr}{sc:Scope}{wi:TI}{tt:TT}{te:TE}
def iY(i:γ M'){U g:Sn}(O:tG X E)(hc:X.T0=ξ)(hN:X.N.Nx)(q:(x::i).Nx)(hj:X.N[j]?<*y)(z:DG X.KK.NE y)(hi:PI X (.Nz x px) Qr wi)(n:∀(P:γ (M'×υ))(C:υ)(M:γ υ)(s:MH)(H:Hp),FF {oI X x sc P C M s H with N:=x::i} Xi tt/\PE (({oI X x sc P C M s H with N:=x::i}:Cx).Vs (ig X {oI X x sc P C M s H with N:=x::i} E)) Xl te)(hx:(sc.MP.ρ x<*.local)>>>4)(a:(sc.RR=.RM)>>>4)(d:(∀y∈sc.MP,y.2=.local->sc.MP.ρ y.1<*.local)>>>3)(c:(∀y∈sc.MP,y.2≠.N8)>>>3)(l:((sc.MP.P' λy=>y.2 != .N4||X.KK.NE.MP.ρ y.1==δ .N8)=ξ)>>>4)(B:((i.P' λy=>sc.MP.ρ y != δ .local)=ξ)>>>4)(F:(i.β=X.N.β)>>>4)(w:(((i.Td X.N).P' λy=>y.1==y.2||sc.MP.ρ y.1==ε)=ξ)>>>4)(hs:(∀x,PV Qr X.KK x=pure x)>>>7)(A:(Su (.QB Xl [(.Nz x px,Qr,Xi,(0))] sc Ng) (δ (.Nz y U)) g.SV X.KK=pure ξ)>>>4)(L:(X.fn y=ξ\/X.KK.NE.MP.ρ y<*.local)>>>8):PS X (.WM [.Nz y U] (.QB Xl [(.Nz x px,Qr,Xi,(0))] sc Ng) g) (aK (FG wi tt te) (Bv j)):=by
 intro Z s T H DD I h;refine Cf A λ_=>Am (xx:=λY=>ig X Y E) (WP:=λ_=>η) (Q:=λv t=>Bv j v T t DD.nx) (ns:=[x]) (gx:=λy _ vs=>vs=[y]) i hc q hi n (Ia q (.NI (OX hx)) (.NT (OX hx))) a d (H_ a c) (λy h e=>MJ e (c y h)) jg (NN.Om λy hy=>by rw[NN.mp l y hy];rfl) B F w hs I h (λJ t r D hD=>?_) (λS o u k R qn=>mQ hN hj z L S o u k R qn) λS o k f=>jW O S (λb n=>((o b n).2.2.2.1,(o b n).2.1,(o b n).2.2.2.2.1,(o b n).2.2.2.2.2)) k f;let⟨W,m,p⟩:=r D hD;show(W,m,Ib (Q:=λv t=>Bv j v T t DD.nx) p)
end
inductive tT(C:ι->Addr)(m:Str)(sp:ι->Sp)(E:XK)(Q:VK)(x:V)(H1:Hp):Prop
 |mk (i a dx fs:_) (_:x=.ref a) (_:H1 a<*.ins (C i) dx fs) (_:fs.lookup m=none) (_:sp i [x] H1 Q E)
abbrev qg{ι:Type}(C:ι->υ)(m:M')(sp:ι->Sp)(E:XK)(ta:TE):TE:=λσ H Q=>ta σ H (tT C m sp E Q)
section
variable{X:Cx}{CX:CXT}{k:Nat}{ps:List Str}{E:XK}{m x:Str}{p pos apos:Pos}{o e:Expr}{ta te:TE}{ι:Type}{C f:ι->Addr}{fd:ι->FuncData}{sp:ι->Sp}
def Jp(D:PE X o ta)(c:∀i,Co X.K (C i))(j:∀i,dX X.K (C i) m (f i))(F:∀i,aa X.Ξ X.w X.K X.mg X.ς CX k (f i) (fd i) ps (sp i))(B:ak k X.A)(J:∀i,Ao X.K (fd i) ps [])(t:Et CX X E)(v:(OJ (.QE (.Ox o m Zi) [] [] Ng) X.KK=(do
   let g <-OJ o X.KK
   standAt Zi.atName
   let(f,first,) <-holding [g] (W9 g m pl)
   YY Ng f first (OE Ng (Θ [] X.KK)) (Ve Ng (TH [] X.KK))))>>>4):PE X (.QE (.Ox o m Zi) [] [] Ng) (qg C m sp E ta):=by
 intro b s n H Q I h;refine Δ.W.Yn (pl:=pl) (ri (D b s n H _ I h) λu M z=>?_) v;let⟨y,N,d,r,i,a,dx,fs,ζ,L,l,q⟩:=z;cases r;refine K' d L (c i) (j i) l (Δ.W.callWith_K0 (first:=[.π a]) d.TX (j i).kp ?_);show kQ (us:=[.π a]) (vs:=[.π a]) (F i) B (J i) .Op t d (.NX ζ .Op) q
structure Im(K:Frag)(C:Addr):Prop where
 makes:makesIn K C=true
 init:PySem.W.findIn K (.ref C) "__init__"<*some (.builtin "object.__init__")
 kp:keepIn K (.ref C)=true
 mro:PySem.W.mroIn K C (.type "object")<*true
abbrev wz(C:υ):TE:=λ_ H Q=>∀x dx,H x=ε->H dx=ε->dx≠x->Q (.π x) (MR (MR H dx (.Xf x)) x (.Uk C dx []))
def Kf{C:υ}(M:Im X.K C)(j:Gl X x)(i:X.mg x<*.π C)(c:((x==("__debug__":M'))=η)>>>0):PE X (.QE (.Nz x p) [] [] Ng) (wz C):=by
 intro g s l H Q I h;let d:=f'.made (C:=C) I;let⟨q,O,_⟩:=HJ (a:=s⁻¹+1) (C:=C) (dx:=s⁻¹) (fs:=[]) d.Oc j_;let⟨n,J,_⟩:=O.look;refine Nh (v_ I j i (Δ.W.callWith_K0 I.TX M.kp (QM ?_)) c);refine pf I.TX M.makes M.init (λb=>.of_pure (Δ.W.oi_bind b)) ?_;refine Ri Δ.W.oi_plain Δ.W.entry_oi ?_;refine Δ.W.check_slot (Rr:=[]) (kw:=[]) Δ.W.oi_kind Δ.W.oi_split (J.MM.X0 (Δ.W.Z' d.TX M.mro)) (Δ.W.oi_args _) ?_;rw[Δ.W.oi_run];show j' (1,V.π _,_,d,1,h _ _ (I.Oc.OF (SD _)) (I.Oc.OF (LT _)) (M8 (OA _)))
end
end L2
namespace RA
open L2
inductive K0 where
 |never|empty|any
inductive K1 where
 |outside|turned|again
inductive K2 where
 |either|less|both|then_
inductive Pt where
 |leaf (k:K0)
 |sign (c:Nat)
 |one (k:K1) (x:Pt)
 |two (k:K2) (x y:Pt)
inductive Kd where
 |leaf (k:K0)
 |sign
 |one (k:K1)
 |two (k:K2)
abbrev Pt.kd:Pt->Kd
 |.Oi k=>.Oi k
 |.Q9 _=>.Q9
 |.Of k _=>.Of k
 |.O9 k _ _=>.O9 k
abbrev Pt.Vy:Pt->Φ
 |.Oi _=>1
 |.Q9 _=>1
 |.Of _ x=>x.Vy+1
 |.O9 _ x y=>max x.Vy y.Vy+1
def Pt.Uz(t:Pt):1≤t.Vy:=by
 cases t<;>simp only[Pt.Vy]<;>lia
abbrev Hs:K0->M'
 |.PM=>"never"
 |.Rg=>"empty"
 |.Qk=>"any"
abbrev GN:K1->M'
 |.OY=>"outside"
 |.OH=>"turned"
 |.again=>"again"
abbrev Dj:K2->M'
 |.O7=>"either"
 |.Tv=>"less"
 |.Ta=>"both"
 |.ON=>"then"
abbrev Md:Kd->M'
 |.Oi .PM=>"Never"
 |.Oi .Rg=>"Empty"
 |.Oi .Qk=>"AnySign"
 |.Q9=>"Sign"
 |.Of .OY=>"Outside"
 |.Of .OH=>"Turned"
 |.Of .again=>"Again"
 |.O9 .O7=>"Either"
 |.O9 .Tv=>"Less"
 |.O9 .Ta=>"Both"
 |.O9 .ON=>"Then"
abbrev EC{α:Type}(a1 a2 a3 a4 a5 a6 a7 a8 a9 a10 a11:α):Kd->α
 |.Oi .PM=>a1
 |.Oi .Rg=>a2
 |.Oi .Qk=>a3
 |.Q9=>a4
 |.Of .OY=>a5
 |.Of .OH=>a6
 |.Of .again=>a7
 |.O9 .O7=>a8
 |.O9 .Tv=>a9
 |.O9 .Ta=>a10
 |.O9 .ON=>a11
def Ht{p:Kd->Prop}(h1:p (.Oi .PM))(h2:p (.Oi .Rg))(i:p (.Oi .Qk))(h:p .Q9)(g:p (.Of .OY))(f:p (.Of .OH))(e:p (.Of .again))(d:p (.O9 .O7))(c:p (.O9 .Tv))(b:p (.O9 .Ta))(a:p (.O9 .ON)):∀k,p k
 |.Oi .PM=>h1
 |.Oi .Rg=>h2
 |.Oi .Qk=>i
 |.Q9=>h
 |.Of .OY=>g
 |.Of .OH=>f
 |.Of .again=>e
 |.O9 .O7=>d
 |.O9 .Tv=>c
 |.O9 .Ta=>b
 |.O9 .ON=>a
abbrev BF(c:Kd->υ)(H:Hp):Pt->V->Prop
 |.Oi k,v=>∃a dx,v=.π a/\H a<*.Uk (c (.Oi k)) dx []
 |.Q9 z,v=>∃a dx,v=.π a/\H a<*.Uk (c .Q9) dx (af "sign" (.M_ (tx [z])) [])
 |.Of k x,v=>∃a dx u,v=.π a/\H a=δ (.Uk (c (.Of k)) dx (af "inner" u []))/\BF c H x u
 |.O9 k x y,v=>∃a dx u w,v=.π a/\H a=δ (.Uk (c (.O9 k)) dx (af "right" w (af "left" u [])))/\BF c H x u/\BF c H y w
abbrev ah(H:Hp):Pt->V->Prop
 |.Oi k,v=>∃a,v=.π a/\H a<*.No [.M_ (Hs k)]
 |.Q9 z,v=>∃a,v=.π a/\H a<*.No [.M_ "sign",.M_ (tx [z])]
 |.Of k x,v=>∃a u,v=.π a/\H a=δ (.No [.M_ (GN k),u])/\ah H x u
 |.O9 k x y,v=>∃a u w,v=.π a/\H a=δ (.No [.M_ (Dj k),u,w])/\ah H x u/\ah H y w
abbrev Kp(H H':Hp):Prop:=∀b o,H b<*o->(∀xs,o≠.M5 xs)->H' b<*o
def a'.kp(h:a' H H'):Kp H H':=λb o e _=>h b o e
def Kp.ν(a:Kp H f)(b:Kp f d):Kp H d:=λc o e n=>b c o (a c o e n) n
def Kp.M5(h:H p<*.M5 xs):Kp H (MR H p o):=λb a e n=>by
 rw[a_ (qN e h (λz=>n xs z))];show e
def BF.kp{c:Kd->υ}{H H':Hp}(h:Kp H H'):∀{t:Pt}{v:V},BF c H t v->BF c H' t v
 |.Oi _,_,⟨a,dx,e,b⟩=>(a,dx,e,h _ _ b (λ_ z=>nomatch z))
 |.Q9 _,_,⟨a,dx,e,b⟩=>(a,dx,e,h _ _ b (λ_ z=>nomatch z))
 |.Of _ x,_,⟨a,dx,u,e,b,d⟩=>(a,dx,u,e,h _ _ b (λ_ z=>nomatch z),BF.kp h (t:=x) d)
 |.O9 _ x y,_,⟨a,dx,u,w,e,b,d,f⟩=>(a,dx,u,w,e,h _ _ b (λ_ z=>nomatch z),BF.kp h (t:=x) d,BF.kp h (t:=y) f)
def ah.kp{H H':Hp}(h:Kp H H'):∀{t:Pt}{v:V},ah H t v->ah H' t v
 |.Oi _,_,⟨a,e,b⟩=>(a,e,h _ _ b (λ_ z=>nomatch z))
 |.Q9 _,_,⟨a,e,b⟩=>(a,e,h _ _ b (λ_ z=>nomatch z))
 |.Of _ x,_,⟨a,u,e,b,c⟩=>(a,u,e,h _ _ b (λ_ z=>nomatch z),ah.kp h (t:=x) c)
 |.O9 _ x y,_,⟨a,u,w,e,b,c,d⟩=>(a,u,w,e,h _ _ b (λ_ z=>nomatch z),ah.kp h (t:=x) c,ah.kp h (t:=y) d)
def BF.Uk{c:Kd->υ}{H:Hp}:∀{t:Pt}{v:V},BF c H t v->∃a dx fs,v=.π a/\H a=δ (.Uk (c t.kd) dx fs)/\fs.ρ ("shape":M')=ε
 |.Oi _,_,⟨a,dx,e,b⟩=>(a,dx,_,e,b,1)
 |.Q9 _,_,⟨a,dx,e,b⟩=>(a,dx,_,e,b,by rw[Cn,Ω (!3)];rfl)
 |.Of _ x,_,⟨a,dx,u,e,b,d⟩=>(a,dx,_,e,b,by rw[Cn,Ω (!3)];rfl)
 |.O9 _ x y,_,⟨a,dx,u,w,e,b,d,f⟩=>(a,dx,_,e,b,by rw[Cn,Ω (!3),Cn,Ω (!3)];rfl)
def uG(u:V):(af "sign" u []).ρ ("sign":M')<*u:=by rw[Cn,Id ζ]
def rJ(u:V):(af "inner" u []).ρ ("inner":M')<*u:=by rw[Cn,Id ζ]
def uH(u w:V):(af "right" w (af "left" u [])).ρ ("left":M')<*u:=by rw[Cn,Ω (!3),Cn,Id ζ]
def rH(u w:V):(af "right" w (af "left" u [])).ρ ("right":M')<*w:=by rw[Cn,Id ζ]
structure vA(K:Frag)(C cP:Addr):Prop where
 cl:Co K C
 ha:PySem.W.findIn K (.ref C) "__class__"<*some (.builtin "object.__class__")
 hn:PySem.W.specialIn K (.builtin "object.__class__") "__get__"<*some (.builtin "getset_descriptor.__get__")
 htk:PySem.W.takesIn K (.builtin "object.__class__")<*true
 hm:PySem.W.mroIn K C (.type "object")<*true
 ki:kitOne K (.ref C) (.ref cP)<*true
 nS:Af K C "sign"
 nL:Af K C "left"
 nR:Af K C "right"
 nI:Af K C "inner"
inductive tW(K:Frag)(x:Str)(vs:List V)(H:Hp)(Q:VK)(_E:XK):Prop
 |mk (p v C dx:_) (_:vs=[.ref p,v]) (_:H p<*.ins C dx []) (_:Co K C) (_:Af K C x) (_:∀H',(∀b o,H b<*o->b≠p->H' b<*o)->H' p<*.ins C dx (af x v [])->Q .non H')
inductive yt(K:Frag)(x y:Str)(vs:List V)(H:Hp)(Q:VK)(_E:XK):Prop
 |mk (p v u C dx:_) (_:vs=[.ref p,v,u]) (_:H p<*.ins C dx []) (_:Co K C) (_:Af K C x) (_:Af K C y) (_:∀H',(∀b o,H b<*o->b≠p->H' b<*o)->H' p<*.ins C dx (af y u (af x v []))->Q .non H')
def Cz(c:H x=ε)(a:H dx=ε)(h:∀b o,(MR (MR H dx (.Xf x)) x o0) b<*o->b≠x->H' b<*o):a' H H':=λb o e=>
 h b o (by rw[a_ (e_ e c),a_ (e_ e a)];show e) (e_ e c)
inductive gm(c:Kd->Addr)(n:Nat)(k:Kd)(vs:List V)(H:Hp)(Q:VK)(_E:XK):Prop
 |mk (a:Addr) (t:Pt) (_:vs=[.ref a]) (_:BF c H t (.ref a)) (_:t.kd=k) (_:t.dep≤n) (_:∀v H',a' H H'->ah H' t v->Q v H')
structure FU(P:Program)(w:World)(K:Frag)(mg:Str->Option Value)(base:Heap)(c:Kd->Addr)(cP:Addr):Prop where
 kP:mg "Pattern"<*.ref cP
 kc:∀k,mg (Md k)<*.ref (c k)
 pc:∀k,vA K (c k) cP
 mk0:∀k,Im K (c (.leaf k))
 iS:∃f fd,Mk K (c .sign) f/\aa P w K mg base pu 1 f fd ["self","sign"] (tW K "sign")/\Ao K fd ["self","sign"] []
 iU:∃f fd,(∀k,Mk K (c (.one k)) f)/\aa P w K mg base pu 1 f fd ["self","inner"] (tW K "inner")/\Ao K fd ["self","inner"] []
 iP:∃f fd,(∀k,Mk K (c (.two k)) f)/\aa P w K mg base pu 1 f fd ["self","left","right"] (yt K "left" "right")/\Ao K fd ["self","left","right"] []
 sh:∃(f:Kd->Addr)(fd:Kd->FuncData),(∀k,dX K (c k) "shape" (f k))/\(∀k,Ao K (fd k) ["self"] [])/\∀n k,aa P w K mg base pu n (f k) (fd k) ["self"] (gm c n k)
abbrev aZ(ts:γ Pt):Φ:=(ts.NL Pt.Vy).sum
def Io(ts:γ Pt)(t:Pt):aZ (ts++[t])=aZ ts+t.Vy:=by
 unfold aZ;rw[Nu,γ.YE];simp
def Hu{ys:γ V}:(ys++[v])[(ys++[v]).β-1]?<*v:=by simp
inductive U2 where
 |outside|turned
abbrev U2.k1:U2->K1
 |.OY=>.OY
 |.OH=>.OH
inductive Wt where
 |lp
 |un (k:U2)
 |bin (k:K2)
abbrev lvl:K2->Φ
 |.O7=>0
 |.Tv=>0
 |.Ta=>1
 |.ON=>2
abbrev Wt.M_:Wt->Φ
 |.lp=>0
 |.un _=>4
 |.T8 k=>lvl k+1
inductive Tk where
 |lp
 |rp
 |star
 |un (k:U2)
 |bin (k:K2)
 |piece (t:Pt)
abbrev BO(s:Φ):γ Pt->γ Wt->ω (γ Pt×γ Wt)
 |_,[]=>ε
 |ps,w::ws=>if s≤w.M_ then
   match w,ps with
   |.un k,x::qs=>BO s (.Of k.k1 x::qs) ws
   |.T8 k,y::x::qs=>BO s (.O9 k x y::qs) ws
   |_,_=>ε
  else δ (ps,w::ws,)
abbrev yQ:γ Pt×γ Wt->ω (γ Pt×γ Wt)
 |(ps,_::ws)=>δ (ps,ws,)
 |(_,[])=>ε
abbrev yq:γ Pt->ω (γ Pt)
 |x::qs=>δ (.Of .again x::qs)
 |[]=>ε
abbrev cz(ps:γ Pt)(ws:γ Wt):Tk->ω (γ Pt×γ Wt)
 |.lp=>δ (ps,.lp::ws,)
 |.un k=>δ (ps,.un k::ws,)
 |.T8 k=>(BO (lvl k+1) ps ws).NL λr=>(r.1,.T8 k::r.2,)
 |.rp=>(BO 1 ps ws).Wm yQ
 |.ZQ=>(yq ps).NL λqs=>(qs,ws,)
 |.TD t=>δ (t::ps,ws,)
abbrev Bz:γ Tk->γ Pt×γ Wt->ω (γ Pt×γ Wt)
 |[],r=>δ r
 |t::ts,r=>(cz r.1 r.2 t).Wm (Bz ts)
def Hv:∀(a b:γ Tk)(r:γ Pt×γ Wt),Bz (a++b) r=(Bz a r).Wm (Bz b)
 |[],_,_=>rfl
 |t::a,b,r=>by
  change (cz r.1 r.2 t).Wm (Bz (a++b))=((cz r.1 r.2 t).Wm (Bz a)).Wm (Bz b);cases cz r.1 r.2 t with
  |ε=>rfl
  |δ c=>show Hv a b c
abbrev B6(c:Φ):MX:=[33,60,40,38,124,45].M7 c
abbrev isB(c:Φ):MX:=[42,38,124,45,41].M7 c
abbrev Sg(c:Φ):Tk:=
 if c=40 then .lp else if c=41 then .rp else if c=42 then .ZQ else if c=33 then .un .OY else if c=60 then .un .OH
 else if c=124 then .T8 .O7 else if c=45 then .T8 .Tv else if c=38 then .T8 .Ta
 else if c=48 then .TD (.Oi .PM)else if c=49 then .TD (.Oi .Rg)else if c=46 then .TD (.Oi .Qk)else .TD (.Q9 c)
abbrev MT:MX->LN->γ Tk
 |_,[]=>[]
 |w,c::cs=>(if (!w&&!isB c)=ξ then[.T8 .ON]else[])++Sg c::MT (B6 c) cs
abbrev C0(b:MX):LN->MX
 |[]=>b
 |c::cs=>C0 (B6 c) cs
def Jq:∀(u v:LN)(b:MX),MT b (u++v)=MT b u++MT (C0 b u) v
 |[],_,_=>rfl
 |c::u,v,b=>by
  change _++Sg c::MT (B6 c) (u++v)=(_++Sg c::MT (B6 c) u)++_;rw[Jq u v];simp[C0]
def Bk:∀(u v:LN)(b:MX),C0 b (u++v)=C0 (C0 b u) v
 |[],_,_=>rfl
 |c::u,v,b=>Bk u v _
abbrev c0:K0->Φ
 |.PM=>48
 |.Rg=>49
 |.Qk=>46
abbrev c1:U2->Φ
 |.OY=>33
 |.OH=>60
abbrev m2:K2->LN
 |.O7=>[124]
 |.Tv=>[45]
 |.Ta=>[38]
 |.ON=>[]
inductive G(L:LN):Nat->Pt->LN->Prop where
 |leaf (k:K0):G L 4 (.leaf k) [c0 k]
 |sign {c:Nat} (h:c∈L):G L 4 (.sign c) [c]
 |par {l:Nat} {t:Pt} {w:LN} (h:G L l t w):G L 4 t (40::(w++[41]))
 |again {t:Pt} {w:LN} (h:G L 4 t w):G L 4 (.one .again t) (w++[42])
 |pre {l:Nat} {t:Pt} {w:LN} (k:U2) (h:G L l t w) (hl:3≤l):G L 3 (.one k.k1 t) (c1 k::w)
 |bin {a b:Nat} {x y:Pt} {u v:LN} (k:K2) (hx:G L a x u) (hy:G L b y v) (ha:lvl k≤a) (hb:lvl k+1≤b):G L (lvl k) (.two k x y) (u++m2 k++v)
abbrev j5(L:LN):Prop:=∀c∈L,97≤c/\c≤122
def z_(h:97≤c/\c≤122):B6 c=η/\isB c=η/\Sg c=.TD (.Q9 c):=by
 let⟨h1,h2⟩:=h;refine(3,3,3)
 .unfold B6;simp;lia
 .unfold isB;simp;lia
 .unfold Sg;repeat rw[Ω (!6)]
def G.first(b:j5 L)(h:G L l t w):∃c r,w=c::r/\isB c=η:=by
 induction h with
 |Oi k=>show(_,0,by cases k<;>rfl)
 |Q9 h=>show(4,(z_ (b _ h)).2.1)
 |YJ h a=>show(4,1)
 |again h a=>let⟨c,r,ζ,e⟩:=a;show(c,0,e)
 |pre k h g a=>show(_,0,by cases k<;>rfl)
 |T8 k f d j i ih1 ih2=>let⟨c,r,ζ,e⟩:=ih1;show(c,0,e)
def G.ZW(c:j5 L)(h:G L l t w):∀b,C0 b w=η:=by
 induction h with
 |Oi k=>intro b;cases k<;>rfl
 |Q9 h=>show λb=>(z_ (c _ h)).1
 |YJ h a=>intro b;change C0 _ (_++[41])=η;rw[Bk];rfl
 |again h a=>intro b;rw[Bk];rfl
 |pre k h f a=>show λb=>a _
 |T8 k e d i g ih1 ih2=>intro b;rw[Bk];show ih2 _
def Ej(h:isB c=η):MT η (c::r)=.T8 .ON::MT ξ (c::r):=by
 unfold MT;rw[h];rfl
abbrev vV(os:γ Wt)(qs:γ Pt)(t:Pt):Prop:=∀s ps ws,(∀o∈os,s≤o.M_)->BO s (qs++ps) (os++ws)=BO s (t::ps) ws
def Ip(h:w.M_<s):BO s ps (w::ws)<*(ps,w::ws,):=by
 unfold BO;rw[Ω (!6)]
def kG(h:s≤4):BO s (x::ps) (.un k::ws)=BO s (.Of k.k1 x::ps) ws:=by
 rw[BO,Id (show s≤(Wt.un k).M_ from h)]
def iM(h:s≤lvl k+1):BO s (y::x::ps) (.T8 k::ws)=BO s (.O9 k x y::ps) ws:=by
 rw[BO,Id (show s≤(Wt.T8 k).M_ from h)]
def gR(k:K2):lvl k≤2:=by cases k<;>decide
def wF(o:Wt):o.M_≤4:=by
 cases o with
 |lp=>show Nb _
 |un k=>show LT _
 |T8 k=>have:=gR k;change lvl k+1≤4;lia
def wb(k:K0):Sg (c0 k)=.TD (.Oi k):=by cases k<;>rfl
def ku(k:U2):Sg (c1 k)=.un k/\B6 (c1 k)=ξ:=by
 cases k<;>show(1,1)
def UD{os:γ Wt}(h:∀o∈os,5≤o.M_):os=[]:=by
 cases os with
 |Op=>rfl
 |NX o r=>have:=h o (!1);have:=wF o;lia
def qT(f:vV [] a t):a=[t]:=by
 let e:=f 1 [] [.lp] (!1);rw[Oa]at e;rw[show([]:γ Wt)++[Wt.lp]=[.lp]from ζ,Ip (!0),Ip (!0)]at e;simpa using e
def G.PD(C:j5 L)(h:G L l t w):∀ps ws,(l≤2->∃a r,ws=a::r/\a.M_<l+1)->
  ∃j os,Bz (MT ξ w) (ps,ws,)=δ (j++ps,os++ws,)/\vV os j t/\∀o∈os,l+1≤o.M_:=by
 induction h with
 |Oi k=>
  intro ps ws _;refine([.Oi k],[],3,λs ps ws _=>rfl,!1);change Bz (Sg (c0 k)::[]) (ps,ws,)=_;rw[wb];rfl
 |Q9 h=>
  rename_i c;intro ps ws _;refine([.Q9 c],[],3,λs ps ws _=>rfl,!1);change Bz (Sg c::[]) (ps,ws,)=_;rw[(z_ (C _ h)).2.2];rfl
 |YJ h p=>
  rename_i l t w;intro ps ws _;let⟨j,os,e,f,A⟩:=p ps (.lp::ws) (λ_=>(.lp,ws,1,Φ.Zw _));refine([t],[],3,λs ps ws _=>rfl,!1);change Bz (.lp::MT ξ (w++[41])) (ps,ws,)=_;rw[Jq,h.ZW C];change Bz (MT ξ w++[.rp]) (ps,.lp::ws,)=_;rw[Hv,e];change ((BO 1 (j++ps) (os++.lp::ws)).Wm yQ).Wm (Bz [])=_;rw[f 1 ps _ (λo g=>by have:=A o g;lia),Ip (!0)];rfl
 |again h p=>
  rename_i t w;intro ps ws _;let⟨j,os,e,f,A⟩:=p ps ws (λz=>MJ z (!0));obtain ζ:=UD A;obtain ζ:=qT f;refine([.Of .again t],[],3,λs ps ws _=>rfl,!1);rw[Jq,h.ZW C,Hv,e];rfl
 |pre k h R p=>
  rename_i l t w;intro ps ws _;let⟨j,os,e,f,A⟩:=p ps (.un k::ws) (λz=>MJ z (!6));refine(j,os++[.un k],3,λs ps ws i=>?_,λo g=>?_)
  .change Bz (Sg (c1 k)::MT (B6 (c1 k)) w) (ps,ws,)=_;rw[(ku k).1,(ku k).2,NY];show e
  .rw [NY];rw[f s ps _ (λo g=>i o (by simp[g]))];show kG (i (.un k) (!1))
  .rcases Na.mp g with g|g
   .have:=A o g;lia
   .obtain ζ:o=.un k:=by simpa using g
    show LT _
 |T8 k J I T S ih1 ih2=>
  rename_i a b x y u v;intro ps ws E;let⟨Qm,r,ζ,q⟩:=E (gR k);let⟨m,n,Q,O,h1⟩:=ih1 ps (Qm::r) (λ_=>(Qm,r,1,!6));let⟨D,H,P,N,h2⟩:=ih2 (x::ps) (.T8 k::Qm::r) (λ_=>(.T8 k,0,by change lvl k+1<_;lia));let B:cz (m++ps) (n++Qm::r) (.T8 k)<*(x::ps,.T8 k::Qm::r,):=by
   change (BO (lvl k+1) (m++ps) (n++Qm::r)).NL _=_;rw[O _ _ _ (λo g=>by have:=h1 o g;lia),Ip q];rfl
  refine(D++[x],H++[.T8 k],3,λs ps ws i=>?_,λo g=>?_)
  .let hmid:Bz (MT η (m2 k++v)) (m++ps,n++Qm::r,)=Bz (MT ξ v) (x::ps,.T8 k::Qm::r,):=by
    let d:Bz (.T8 k::MT ξ v) (m++ps,n++Qm::r,)=Bz (MT ξ v) (x::ps,.T8 k::Qm::r,):=by
     change (cz (m++ps) (n++Qm::r) (.T8 k)).Wm _=_;rw[B];rfl
    cases k with
    |ON=>
     let⟨c,F,ζ,M⟩:=I.first C;change Bz (MT η (c::F)) _=_;rw[Ej M];show d
    |O7=>show d
    |Tv=>show d
    |Ta=>show d
   rw[NY,Jq,J.ZW C,Hv,Q];change Bz (MT η (m2 k++v)) (m++ps,n++Qm::r,)=_;rw[hmid,P,NY,NY];rfl
  .rw [NY,NY];rw[show D++([x]++ps)=D++(x::ps)from ζ,N s (x::ps) _ (λo g=>i o (by simp[g]))];show iM (i (.T8 k) (!1))
  .rcases Na.mp g with g|g
   .have:=h2 o g;lia
   .obtain ζ:o=.T8 k:=by simpa using g
    show LT _
def G.read(b:j5 L)(h:G L l t w):Bz (MT ξ (40::(w++[41]))) ([],[],)<*([t],[],):=by
 let⟨c,os,e,f,a⟩:=(G.YJ h).PD b [] [] (λz=>MJ z (!0));obtain ζ:=UD a;obtain ζ:=qT f;show e
abbrev Ac(L:LN)(c:Φ)(w:MX)(d:Φ):MX:=
 if L.M7 c||[48,49,46,33,60,40].M7 c then ξ
 else if c=41 then decide (0<d)&&!w
 else[42,38,124,45].M7 c&&!w
abbrev FV(c d:Φ):Φ:=if c=41 then(if c=40 then d+1 else d)-1 else if c=40 then d+1 else d
abbrev VC(L:LN):Φ->MX->LN->ω (Φ×MX)
 |d,w,[]=>δ (d,w,)
 |d,w,c::cs=>if Ac L c w d=ξ then VC L (FV c d) (B6 c) cs else ε
def Bl(L:LN):∀(u v:LN)(d:Φ)(w:MX),VC L d w (u++v)=(VC L d w u).Wm λr=>VC L r.1 r.2 v
 |[],_,_,_=>rfl
 |c::u,v,d,w=>by
  change (if Ac L c w d=ξ then VC L (FV c d) (B6 c) (u++v)else ε)=(if Ac L c w d=ξ then VC L (FV c d) (B6 c) u else ε).Wm _;by_cases h:Ac L c w d=ξ
  .rw [Id h,Id h];show Bl L u v _ _
  .rw [Ω h,Ω h];rfl
def vk(h:c∈L):Ac L c w d=ξ:=by
 unfold Ac;rw[Id (by simp[h])]
def dG(h:[48,49,46,33,60,40].M7 c=ξ):Ac L c w d=ξ:=by
 unfold Ac;rw[Id (by rw[h];simp)]
def b7(h:[42,38,124,45].M7 c=ξ)(h2:c≠41):Ac L c η d=ξ:=by
 unfold Ac;rw[Ω h2,h];split<;>rfl
def vj:Ac L 41 η (d+1)=ξ:=by
 unfold Ac;rw[Id ζ,NJ (Φ.Zw d)];split<;>rfl
def Kg(h1:c≠40)(h2:c≠41):FV c d=d:=by
 unfold FV;rw[Ω h2,Ω h1]
def G.VC(f:j5 L)(h:G L l t w):∀d b,VC L d b w<*(d,η,):=by
 induction h with
 |Oi k=>
  intro d b;change (if Ac L (c0 k) b d=ξ then δ (FV (c0 k) d,B6 (c0 k),)else ε)=_;rw[Id (dG (by cases k<;>rfl))];cases k<;>rfl
 |Q9 h=>
  rename_i c;intro d b;have:=f _ h;change (if Ac L c b d=ξ then δ (FV c d,B6 c,)else ε)=_;rw[Id (vk h),Kg (!6) (!6),(z_ (f _ h)).1]
 |YJ h e=>
  rename_i l t w;intro d b;change (if Ac L 40 b d=ξ then RA.VC L (d+1) ξ (w++[41])else ε)=_;rw[Id (dG ζ),Bl,e];change (if Ac L 41 η (d+1)=ξ then δ (d+1-1,η,)else ε)=_;rw[Id vj];rfl
 |again h e=>
  intro d b;rw[Bl,e];change (if Ac L 42 η d=ξ then δ (d,η,)else ε)=_;rw[Id (b7 ζ (!0))]
 |pre k h j e=>
  rename_i l t w;intro d b;change (if Ac L (c1 k) b d=ξ then RA.VC L (FV (c1 k) d) (B6 (c1 k)) w else ε)=_;rw[Id (dG (by cases k<;>rfl)),(ku k).2,e,Kg (by cases k<;>decide) (by cases k<;>decide)]
 |T8 k i g n m ih1 ih2=>
  rename_i a b x y u v;intro d b;rw[NY,Bl,ih1];change RA.VC L d η (m2 k++v)=_;cases k with
  |ON=>show ih2 d η
  |O7=>
   change (if Ac L 124 η d=ξ then RA.VC L d ξ v else ε)=_;rw[Id (b7 ζ (!0))];show ih2 _ _
  |Tv=>
   change (if Ac L 45 η d=ξ then RA.VC L d ξ v else ε)=_;rw[Id (b7 ζ (!0))];show ih2 _ _
  |Ta=>
   change (if Ac L 38 η d=ξ then RA.VC L d ξ v else ε)=_;rw[Id (b7 ζ (!0))];show ih2 _ _
abbrev Pt.sz:Pt->Φ
 |.Oi _=>1
 |.Q9 _=>1
 |.Of _ x=>x.sz+1
 |.O9 _ x y=>x.sz+y.sz+1
abbrev Pt.Ti(L:LN):Pt->Prop
 |.Oi _=>Ol
 |.Q9 c=>c∈L
 |.Of _ x=>x.Ti L
 |.O9 _ x y=>x.Ti L/\y.Ti L
def Iq{s:Φ}:∀{ws:γ Wt}{ps WO:γ Pt}{XN:γ Wt},BO s ps ws<*(WO,XN,)->WO.β≤ps.β/\XN.β≤ws.β
 |[],ps,WO,XN,h=>by simp[BO]at h
 |w::ws,ps,WO,XN,h=>by
  unfold BO at h;by_cases a:s≤w.M_
  .rw [Id a]at h;match w,ps,h with
   |.un k,x::b,h=>
    have:=Iq h;simp only[NS]at this⊢;lia
   |.T8 k,y::x::b,h=>
    have:=Iq h;simp only[NS]at this⊢;lia
  .rw [Ω a]at h;cases h;show(LT _,LT _)
def qC(h:cz ps ws t<*(WO,XN,)):WO.β≤ps.β+1/\XN.β≤ws.β+1:=by
 cases t with
 |lp=>cases h;show(SD _,LT _)
 |un k=>cases h;show(SD _,LT _)
 |TD t=>cases h;show(LT _,SD _)
 |ZQ=>
  cases ps with
  |Op=>cases h
  |NX x d=>cases h;show(SD _,SD _)
 |T8 k=>
  let⟨r,c,e⟩:=BG h;cases e;have:=Iq (WO:=r.1) (XN:=r.2) c;simp only[NS];lia
 |rp=>
  let⟨r,c,e⟩:=ω.Uf.mp h;let h1:=Iq (WO:=r.1) (XN:=r.2) c;let⟨a,b⟩:=r;cases b with
  |Op=>cases e
  |NX x b=>cases e;simp only[NS]at h1;lia
def iD:∀(w:LN)(b:MX),(MT b w).β≤2*w.β
 |[],_=>LT _
 |c::a,b=>by
  have:=iD a (B6 c);unfold MT;rw[w_,NS,NS];split
  .rw [NS,WH];lia
  .rw [WH];lia
def kZ(h:Bz ts r<*b)(i:Φ):∃a,Bz (ts.OC i) r=δ a/\Bz (ts.Pu i) a<*b:=by
 rw[<-Rq i ts,Hv]at h;show ω.Uf.mp h
end RA
namespace L2
open PySem.Spec PyProof.Rows
abbrev Hw(x:M'):It:=(λi _=>i<x.β,λi H v H'=>∃p c,x.TY[i]?=δ c/\v=.π p/\H p=ε/\H'=MR H p (.No [.MQ (i:ML),.M_ ⟨#[c]⟩]),λi _=>x.β≤i)
def oj{K:Nl}(x:M')(t:Xp)(e it:υ)(l:e≠it):dI P w K (.RP es kt pt) (Hw x) [e,it] e (λi h=>i≤x.β/\(∃a,IsEnum h e it i a)/\ZP.CT x t it i h)  where
 mem:=by simp
 Ua:=λi h N c m=>by
  let⟨_,⟨a,d⟩,⟨B,n,_,d1⟩⟩:=N;simp only[MN,NW,N9]at m;rcases m with ζ|rfl
  .exact (_,d,λv q=>by cases q)
  .exact (B,n,λv q=>by rw[d1]at q;cases q)
 P_:=λi h h' M k=>by let⟨T,⟨a,d⟩,⟨B,n,W⟩⟩:=M;show(T,(a,k e (!1) _ d),(B,k it (!1) _ n,W))
 Ut:=by
  intro X O hw Q m i p s U H E I C ⟨T,⟨a,d⟩,y⟩ l1;subst O hw Q;refine UW (ZP.draws (A:=X.A.S0) (I.ok.hd m) it x t) d y l1 l (by simp[l]) λv g F pv ho st J V6 gk=>(0,3);let⟨c,u,L,ζ⟩:=pv;refine Tr (s:={s with ο:=g,MT:=F+1}) ho λg' ge R=>?_;let D:∀b o,b≠e->g.ψ b<*o->g'.ψ b<*o:=λb o f q=>(R.2 b f).ν q;let Y:s⁻¹≠e:=Qc (lt_size d);let No:Az X.Ξ X.w (MR H s⁻¹ (.No [.MQ (i:ML),.M_ ⟨#[c]⟩])) g' s⁻¹ (.No [.MQ (i:ML),.M_ ⟨#[c]⟩]):=
   (sT (by change 2≤16777216;decide),[.MQ i F,.M_ ⟨#[c]⟩ u],.NX (_,ζ) (.NX (_,ζ) .Op),(_,D _ _ Y J,1,(0),1))
  refine(.π s⁻¹,_,I.Wu (S:=[e,it]) (h':=g') (t':=F+1) (λb o f q=>D b o (λz=>f (by simp[z])) (gk b o (λz=>f (by simp[z])) (λz=>f (by simp[z])) q)) C No,1,
   (_,c,L,1,I.Oc.OF (LT _),1),(l1,(_,by rw[ML.ZU];show ge),3),λb f=>?_)
  .obtain ⟨o,q,r⟩:=st;show(o,D _ _ (λz=>l z.MO) q,r)
  .let Z:b<s⁻¹:=by
    let⟨B,n,_⟩:=y;simp only[MN,NW,N9]at f;rcases f with ζ|rfl
    .exact lt_size d
    .exact lt_size n
   rw[a_ (M8 Z)];show(C b f).1
 done:=by
  intro X O hw Q m i p s U H E I C ⟨T,⟨a,d⟩,y⟩ j;subst O hw Q;let hi:i=x.TY.MV:=by
   let n:x.β=x.TY.MV:=ζ;let q:x.β≤i:=j;lia
  subst hi;refine Ul (ZP.draws (A:=X.A.S0) (I.ok.hd m) it x t) d y λg R=>(1,3);show I.ZJ (S:=[e,it]) (λb o f q=>R b o (λz=>f (by simp[z])) q) C
 Yj:=λ_ _ _ _ _ st h=>by
  let⟨_,⟨a,d⟩,_⟩:=st;show RU d h
inductive xG(R:It->Hp->Prop)(vs:List V)(H1:Hp):Prop
 |mk (x:_) (_:vs=[.str x]) (_:R (Hw x) H1)
abbrev zp(t:TA):TI:=λσ H R=>t σ H (xG R)
def ul{B:γ Ro}{o:Φ}{n:Sn}{p Ng:Sn}(v:Gl X "enumerate")(u:X.mg "enumerate"=ε)(w:PA X [a] ta)(r:(Θ [a] X.KK=(η,OJ a X.KK,)::Θ [] X.KK)>>>4)(f:((OE Ng (Θ [] X.KK)).Qk (·.1)=η)>>>4):PI X (.RP B o n) (.QE (.Nz "enumerate" p) [a] [] Ng) (zp ta):=by
 intro d s l H R I h;refine Nh (An I v u Oj.Sf.boot_enumerate (Oj.Sf.QV (ri (w Ng d s l H _ I h) λus b z=>?_) r f));let⟨vs,C,i,m,x,ζ,q⟩:=z;let⟨D,ζ,t,ζ⟩:=Do m;refine call_enumerate_str λg k A E y=>RU (s:={b with ο:=g}) k ?_;refine(_,[b⁻¹+1,b⁻¹],_,Hw x,C,1,i.SW (t':=b.MT) y,oj x t _ _ (G6 (!6)),(Nb _,(_,k),A),λc j=>?_,q);let e:b⁻¹≤c:=by
  simp only[MN,NW,N9]at j;rcases j with ζ|rfl
  .exact Qd _ _
  .exact LT _
 show i.ZZ e (i.Oc.OF e)
def Fc{g:TG}{l:TS}{D:XL}(h:Φ->St->Hp->Prop)(h0:h 0 b H)(r:∀i c p b H,x.TY[i]?<*c->H p=ε->h i b H->g (.π p) b (MR H p (.No [.MQ (i:ML),.M_ ⟨#[c]⟩])) λd k=>l {D with nx:=h (i+1),ct:=h (i+1),bk:=D.nx} d k)(s:∀b H,h x.β b H->D.nx b H):∃W:Φ->Φ->St->Hp->Prop,(∃m,W 0 m b H)/\∀i m b H,W i m b H->
   ((Hw x).Sv i H/\D.nx b H)\/((Hw x).go i H/\∃N:St->Hp->Prop,(∀f H',N f H'->∃n,n<m/\W (i+1) n f H')/\∀v H',(Hw x).X6 i H v H'->g v b H' λd k=>l {D with nx:=N,ct:=N,bk:=D.nx} d k):=by
 refine(λi m b H=>m=x.β-i/\i≤x.β/\h i b H,(x.β,!1,Nb _,h0),3);rintro i m b H⟨rfl,w,p⟩;by_cases j:i<x.β
 .refine .NT (j,h (i+1),λf H' o=>(x.β-(i+1),!2,1,j,o),λv H' q=>?_);let⟨a,c,u,ζ,t,ζ⟩:=q;show r i c a b H u t p
 .let e:i=x.β:=by lia
  subst e;show .NI (LT _,s b H p)
end L2
namespace RA
open L2
abbrev mF:Wt->M'
 |.lp=>tx [40]
 |.un .OY=>"outside"
 |.un .OH=>"turned"
 |.T8 k=>Dj k
abbrev wv(w:Wt):V:=.M_ (mF w)
abbrev xX:Tk->M'
 |.lp=>tx [40]
 |.rp=>tx [41]
 |.ZQ=>"again"
 |.un k=>mF (.un k)
 |.T8 k=>Dj k
 |.TD (.Oi k)=>Hs k
 |.TD (.Q9 c)=>tx [c]
 |.TD _=>tx []
abbrev tv(t:Tk):V:=.M_ (xX t)
abbrev Tk.ok:Tk->Prop
 |.TD (.Oi _)=>Ol
 |.TD (.Q9 c)=>97≤c/\c≤122
 |.TD _=>NU
 |_=>Ol
abbrev dKINDS:γ (Bu×V):=[(.NT (tx [48]),.M_ "never",),(.NT (tx [49]),.M_ "empty",),(.NT (tx [46]),.M_ "any",),(.NT (tx [124]),.M_ "either",),(.NT (tx [45]),.M_ "less",),(.NT (tx [38]),.M_ "both",),(.NT (tx [33]),.M_ "outside",),(.NT (tx [60]),.M_ "turned",),(.NT (tx [42]),.M_ "again",)]
abbrev sR:γ (Bu×V):=[(.NT "either",.MQ 1,),(.NT "less",.MQ 1,),(.NT "both",.MQ 2,),(.NT "then",.MQ 3,),(.NT "outside",.MQ 4,),(.NT "turned",.MQ 4,),(.NT "again",.MQ 5,),(.NT "never",.MQ 5,),(.NT "empty",.MQ 5,),(.NT "sign",.MQ 5,),(.NT "any",.MQ 5,)]
def yo(w:Wt):(aF sR (.NT (mF w))).MI (.MQ 0)=.MQ (w.M_:Φ):=by
 cases w with
 |lp=>decide +kernel
 |un k=>cases k<;>decide +kernel
 |T8 k=>cases k<;>decide +kernel
def tV(k:K2):aF sR (.NT (Dj k))<*.MQ ((lvl k:Φ)+1):=by cases k<;>decide +kernel
abbrev mz(c:Φ):Prop:=(97≤c/\c≤122)\/c∈[40,41,42,33,60,124,45,38,48,49,46]
def GO(h:mz c):(Sg c).ok:=by
 rcases h with h|h
 .rw [(z_ h).2.2];show h
 .simp only[MN,NW,N9]at h;rcases h with ζ|rfl|rfl|rfl|rfl|rfl|rfl|rfl|rfl|rfl|rfl<;>show Ol.Ob
def Ir(h:a≠b):¬ ((Yb.NT (tx [a]):Bu)=Yb.NT (tx [b])):=λe=>h (by have:=gb (Yb.NT.QG e);simpa using this)
def pk(h:mz c):(aF dKINDS (.NT (tx [c]))).MI (.M_ (tx [c]))=tv (Sg c):=by
 rcases h with h|h
 .rw [(z_ h).2.2];unfold dKINDS;repeat rw[Bj (Ir (!6))]
  rfl
 .simp only[MN,NW,N9]at h;rcases h with ζ|rfl|rfl|rfl|rfl|rfl|rfl|rfl|rfl|rfl|rfl<;>decide +kernel
abbrev CA(c:Kd->υ)(H:Hp):γ V->γ Pt->Prop
 |[],[]=>Ol
 |v::vs,t::ts=>BF c H t v/\CA c H vs ts
 |_,_=>NU
def CA.kp{c:Kd->υ}{H H':Hp}(k:Kp H H'):∀{xs:γ V}{ts:γ Pt},CA c H xs ts->CA c H' xs ts
 |[],[],_=>trivial
 |_::_,_::_,h=>(h.1.kp k,CA.kp k h.2)
def CA.PJ{c:Kd->υ}{H:Hp}:∀{xs:γ V}{ts:γ Pt},CA c H xs ts->xs.β=ts.β
 |[],[],_=>rfl
 |_::_,_::_,h=>by rw[NS,NS,CA.PJ h.2]
abbrev jM(pa wa:υ):γ (M'×V):=af "waiting" (.π wa) (af "patterns" (.π pa) [])
def Fx(pa wa:υ):(jM pa wa).ρ ("patterns":M')<*.π pa:=by
 unfold jM;rw[Cn,Ω (!3),Cn,Id ζ]
def Is(pa wa:υ):(jM pa wa).ρ ("waiting":M')<*.π wa:=by
 unfold jM;rw[Cn,Id ζ]
structure Bn(c:Kd->Addr)(cD:Addr)(H:Hp)(d dx pa wa:Addr)(us:List V)(ps:List Pt)(ws:List Wt):Prop where
 ob:H d<*.ins cD dx (jM pa wa)
 pl:H pa<*.lst us.reverse
 pt:CA c H us ps
 wl:H wa<*.lst (ws.reverse.map wv)
 ne:pa≠wa
abbrev Bq(pa wa:υ)(H H':Hp):Prop:=∀b o,H b<*o->b≠pa->b≠wa->H' b<*o
def Bq.Th(pa wa:υ)(H:Hp):Bq pa wa H H:=λ_ _ e _ _=>e
def Bq.ν(a:Bq pa wa H f)(b:Bq pa wa f d):Bq pa wa H d:=λc o e h1 h2=>b c o (a c o e h1 h2) h1 h2
def Bq.p:Bq pa wa H (MR H pa o):=λb a e h1 _=>by rw[a_ h1];show e
def Bq.w:Bq pa wa H (MR H wa o):=λb a e _ h2=>by rw[a_ h2];show e
def a'.off(s:a' H H'):Bq pa wa H H':=λb o e _ _=>s b o e
section
variable{c:Kd->Addr}{cD:Addr}{H H':Hp}{d dx pa wa:Addr}{us:List V}{ps:List Pt}{ws:List Wt}
def Bn.OP(D:Bn c cD H d dx pa wa us ps ws)(s:a' H H'):Bn c cD H' d dx pa wa us ps ws:=(s _ _ D.ob,s _ _ D.pl,D.pt.kp (a'.kp s),s _ _ D.wl,D.ne)
def Bn.pushP(D:Bn c cD H d dx pa wa us ps ws)(a:BF c H t v):Bn c cD (MR H pa (.M5 (us.Nc++[v]))) d dx pa wa (v::us) (t::ps) ws:=by
 let k:=Kp.M5 (o:=.M5 (us.Nc++[v])) D.pl;show(k _ _ D.ob (λ_ z=>nomatch z),by rw[j_,γ.WY],(a.kp k,D.pt.kp k),by rw[a_ (Ne.MO D.ne)];show D.wl,D.ne)
def Bn.popP(D:Bn c cD H d dx pa wa (u::us) (t::ps) ws):Bn c cD (MR H pa (.M5 us.Nc)) d dx pa wa us ps ws/\BF c (MR H pa (.M5 us.Nc)) t u:=by
 let k:=Kp.M5 (o:=.M5 us.Nc) D.pl;show((k _ _ D.ob (λ_ z=>nomatch z),j_,D.pt.2.kp k,by rw[a_ (Ne.MO D.ne)];show D.wl,D.ne),D.pt.1.kp k)
def Bn.pushW(D:Bn c cD H d dx pa wa us ps ws)(w:Wt):Bn c cD (MR H wa (.M5 (ws.Nc.NL wv++[wv w]))) d dx pa wa us ps (w::ws):=by
 let k:=Kp.M5 (o:=.M5 (ws.Nc.NL wv++[wv w])) D.wl;show(k _ _ D.ob (λ_ z=>nomatch z),by rw[a_ D.ne];show D.pl,D.pt.kp k,by rw[j_,γ.WY,Nu];rfl,D.ne)
def Bn.popW(D:Bn c cD H d dx pa wa us ps (w::ws)):Bn c cD (MR H wa (.M5 (ws.Nc.NL wv))) d dx pa wa us ps ws:=by
 let k:=Kp.M5 (o:=.M5 (ws.Nc.NL wv)) D.wl;show(k _ _ D.ob (λ_ z=>nomatch z),by rw[a_ D.ne];show D.pl,D.pt.kp k,j_,D.ne)
def Bn.wtop(D:Bn c cD H d dx pa wa us ps (w::ws)):H wa<*.M5 (ws.Nc.NL wv++[wv w]):=by
 have:=D.wl;rw[γ.WY,Nu]at this;show this
def Bn.ptop(D:Bn c cD H d dx pa wa (u::us) ps ws):H pa<*.M5 (us.Nc++[u]):=by
 have:=D.pl;rw[γ.WY]at this;show this
def Bn.Of(D:Bn c cD H d dx pa wa us ps ws)(e:ps=t::a):∃u vs,us=u::vs:=by
 subst e;cases us with
 |Op=>show D.pt.Nv
 |NX u vs=>show(u,vs,1)
end
def vg(c:Φ)(l:LN):decide (c∈l)=l.M7 c:=by
 by_cases h:c∈l
 .rw [NJ h];simp[h]
 .rw [M3 h];simp[h]
def Hx(l:LN)(c:Φ):(!(Builtin.M'.SO (tx l) ⟨#[c]⟩ 0 (tx l).β 1).SE)=l.M7 c:=by
 let e:=ia l c;unfold SG.M7 at e;rw[<-vg];show e
def GP(a:s=tx [x]):(V.M_ (tx [ch])=V.M_ s)↔ch=x:=by
 subst a;constructor
 .intro h;have:=gb (V.M_.QG h);simpa using this
 .intro h;rw[h]
def AK(b:s=tx l)(a:l≠[c]):tx [c]≠s:=λe=>a (gb (e.ν b)).MO
abbrev rV:Tk->MX
 |.lp=>ξ
 |.un _=>ξ
 |_=>η
abbrev rX:Tk->MX
 |.T8 _=>ξ
 |_=>η
abbrev xB:Tk->MX
 |.rp=>ξ
 |_=>η
abbrev lL:Tk->MX
 |.ZQ=>ξ
 |_=>η
def vc(a b:M'):FD (.M_ a) (.M_ b)=decide (a=b):=by
 change (a==b)=_;by_cases h:a=b
 .rw [NJ h];show Ot.Om h
 .rw [M3 h];show NB.Om h
def js(h:∀x∈xs,∃s,x=.M_ s/\tx [c]≠s):EO (.M_ (tx [c])) xs=η:=by
 unfold EO;rw[γ.any_eq_false];intro x b;let⟨s,ζ,a⟩:=h x b;simp only[vc,SZ];first|show a|show λe=>a e.MO|(intro e;show a e)|(intro e;show a e.MO)
def GQ(h:t.ok):EO (tv t) [.M_ (M'.Nd "("),.M_ (M'.Nd "outside"),.M_ (M'.Nd "turned")]=rV t:=by
 cases t with
 |lp=>decide +kernel
 |rp=>decide +kernel
 |ZQ=>decide +kernel
 |un k=>cases k<;>decide +kernel
 |T8 k=>cases k<;>decide +kernel
 |TD p=>
  cases p with
  |Oi k=>cases k<;>decide +kernel
  |Q9 c=>
   refine js λx a=>?_;let h:97≤c/\c≤122:=h;simp only[MN,NW,N9]at a;rcases a with ζ|rfl|rfl
   .exact (0,AK (l:=[40]) (!3) (by intro e;simp at e;lia))
   .exact (0,AK (l:=[111,117,116,115,105,100,101]) (!3) (by intro e;simp at e))
   .exact (0,AK (l:=[116,117,114,110,101,100]) (!3) (by intro e;simp at e))
  |Of _ _=>show(show NU from h).Nv
  |O9 _ _ _=>show(show NU from h).Nv
def xC(h:t.ok):EO (tv t) [.M_ (M'.Nd "either"),.M_ (M'.Nd "less"),.M_ (M'.Nd "both"),.M_ (M'.Nd "then")]=rX t:=by
 cases t with
 |lp=>decide +kernel
 |rp=>decide +kernel
 |ZQ=>decide +kernel
 |un k=>cases k<;>decide +kernel
 |T8 k=>cases k<;>decide +kernel
 |TD p=>
  cases p with
  |Oi k=>cases k<;>decide +kernel
  |Q9 c=>
   refine js λx a=>?_;simp only[MN,NW,N9]at a;rcases a with ζ|rfl|rfl|rfl
   .exact (0,AK (l:=[101,105,116,104,101,114]) (!3) (by intro e;simp at e))
   .exact (0,AK (l:=[108,101,115,115]) (!3) (by intro e;simp at e))
   .exact (0,AK (l:=[98,111,116,104]) (!3) (by intro e;simp at e))
   .exact (0,AK (l:=[116,104,101,110]) (!3) (by intro e;simp at e))
  |Of _ _=>show(show NU from h).Nv
  |O9 _ _ _=>show(show NU from h).Nv
def zu(h:t.ok):decide (tv t=V.M_ (M'.Nd ")"))=xB t:=by
 cases t with
 |lp=>decide +kernel
 |rp=>decide +kernel
 |ZQ=>decide +kernel
 |un k=>cases k<;>decide +kernel
 |T8 k=>cases k<;>decide +kernel
 |TD p=>
  cases p with
  |Oi k=>cases k<;>decide +kernel
  |Q9 c=>
   let h:97≤c/\c≤122:=h;show M3 (λe=>AK (l:=[41]) (!3) (by intro e;simp at e;lia) (V.M_.QG e))
  |Of _ _=>show(show NU from h).Nv
  |O9 _ _ _=>show(show NU from h).Nv
def uZ(h:t.ok):decide (tv t=V.M_ (M'.Nd "again"))=lL t:=by
 cases t with
 |lp=>decide +kernel
 |rp=>decide +kernel
 |ZQ=>decide +kernel
 |un k=>cases k<;>decide +kernel
 |T8 k=>cases k<;>decide +kernel
 |TD p=>
  cases p with
  |Oi k=>cases k<;>decide +kernel
  |Q9 c=>show M3 (λe=>AK (l:=[97,103,97,105,110]) (!3) (by intro e;simp at e) (V.M_.QG e))
  |Of _ _=>show(show NU from h).Nv
  |O9 _ _ _=>show(show NU from h).Nv
def D6:∀{w:LN}(b:MX),(∀c∈w,mz c)->∀t∈MT b w,t.ok
 |[],_,_,t,a=>by simp[MT]at a
 |c::f,b,h,t,a=>by
  unfold MT at a;rcases Na.mp a with a|a
  .split at a
   .obtain ζ:t=.T8 .ON:=by simpa using a
    show Ol.Ob
   .simp at a
  .rcases MN.mp a with ζ|a
   .exact GO (h c (!1))
   .exact D6 _ (λd e=>h d (by simp[e])) t a
def G.sgs(d:j5 L)(h:G L l t w):∀ch∈w,mz ch:=by
 induction h with
 |Oi k=>
  intro ch a;obtain ζ:ch=c0 k:=by simpa using a
  show .NT (by cases k<;>decide)
 |Q9 h=>
  intro ch a;rename_i c;obtain ζ:ch=c:=by simpa using a
  show .NI (d _ h)
 |YJ h b=>
  intro ch a;rcases MN.mp a with ζ|a
  .exact .NT (!0)
  .rcases Na.mp a with a|a
   .exact b ch a
   .obtain ζ:ch=41:=by simpa using a
    show .NT (!0)
 |again h b=>
  intro ch a;rcases Na.mp a with a|a
  .exact b ch a
  .obtain ζ:ch=42:=by simpa using a
   show .NT (!0)
 |pre k h g b=>
  intro ch a;rcases MN.mp a with ζ|a
  .exact .NT (by cases k<;>decide)
  .exact b ch a
 |T8 k f e j i ih1 ih2=>
  intro ch a;rcases Na.mp a with a|a
  .rcases Na.mp a with a|a
   .exact ih1 ch a
   .exact .NT (by cases k<;>(simp[m2]at a)<;>(subst a;decide))
  .exact ih2 ch a
inductive Fd(K:Frag)(c:Kd->Addr)(vs:List V)(H:Hp)(Q:VK)(_E:XK):Prop
 |mk (d dx C:_) (_:vs=[.ref d]) (_:H d<*.ins C dx []) (_:Co K C) (_:Af K C "patterns") (_:Af K C "waiting") (_:∀pa wa H',(∀b o,H b<*o->b≠d->H' b<*o)->Bn c C H' d dx pa wa [] [] []->H pa=none->H wa=none->Q .non H')
structure fR(P:Program)(w:World)(K:Frag)(mg:Str->Option Value)(base:Heap)(c:Kd->Addr)(cD d1 d2 d3:Addr):Prop where
 kK:mg "KINDS"<*.ref d2
 kT:mg "STRENGTHS"<*.ref d3
 dK:j8 P w K d2 dKINDS
 dT:j8 P w K d3 sR
 kD:mg "Desk"<*.ref cD
 cl:Co K cD
 nP:Af K cD "patterns"
 nW:Af K cD "waiting"
 ini:∃f fd,Mk K cD f/\aa P w K mg base pu 1 f fd ["self"] (Fd K c)/\Ao K fd ["self"] []
abbrev dY(w:Ny):γ ZC->γ (Bu×V)->Prop
 |[],[]=>Ol
 |e::es,kv::NP=>(∃x t,e.key=.M_ x t/\kv.1=.NT x/\e.Yp=PyData.keyHash w.Oz x)/\ad kv.2 e.Zu/\dY w es NP
 |_,_=>NU
def dY.P'{P:NC}{w:Ny}:∀{b:γ ZC}{NP:γ (Bu×V)},dY w b NP->(∀e∈b,∃k,(EH P w).is k e.key=ξ/\e.Yp=(EH P w).Yp k)/\∃vs,KV NP vs/\Pairs (EH P w) b vs
 |[],[],_=>(λe a=>by simp at a,[],.Op,.Op)
 |e::b,(k,v)::NP,⟨⟨x,t,j,c,i⟩,g,h⟩=>by
  let⟨i1,vs,i2,f⟩:=dY.P' (P:=P) h;let c:k=.NT x:=c;subst c;let d:(EH P w).is (Yb.NT x) e.key=ξ:=by rw[j];show K8 P w x t
  refine(λe' a=>?_,(Yb.NT x,e.Zu,)::vs,.NX (1,g) i2,.NX d ζ f);rcases MN.mp a with ζ|a
  .exact (Yb.NT x,d,i)
  .exact i1 e' a
def jL(l:K.ρ d<*{OM:=.MM "dict",NH:=.Pv c n})(h:dY w c.ND NP)(b:(NP.NL (·.1)).Nx)(g:(d==Oo)=η):j8 P w K d NP:=by
 let⟨i1,vs,i2,a⟩:=h.P' (P:=P);refine(λh0 X=>(vs,i2,_,c,n,X _ _ l,(5,1),1,λe i=>i1 e (Nq.mem_toList_iff.Om i),a,3),g);have:NP.NL (·.1)=vs.NL (·.1):=by
  clear b h l i1 a;induction i2 with
  |Op=>rfl
  |NX h t f=>rw[Qp,Qp,f,h.1]
 rw[<-this];show b
def rA:(dKINDS.NL (·.1)).Nx:=by decide +kernel
def xg:(sR.NL (·.1)).Nx:=by decide +kernel
abbrev BJ(R:Pt->V->Prop):γ V->γ Pt->Prop
 |[],[]=>Ol
 |v::vs,t::ts=>R t v/\BJ R vs ts
 |_,_=>NU
section
variable{R R':Pt->V->Prop}
def BJ.PJ:∀{xs:γ V}{ts:γ Pt},BJ R xs ts->xs.β=ts.β
 |[],[],_=>rfl
 |_::_,_::_,h=>by rw[NS,NS,BJ.PJ h.2]
def BJ.Wc(k:∀t v,R t v->R' t v):∀{xs:γ V}{ts:γ Pt},BJ R xs ts->BJ R' xs ts
 |[],[],_=>trivial
 |_::_,_::_,h=>(k _ _ h.1,BJ.Wc k h.2)
def BJ.snoc{v:V}{t:Pt}(a:R t v):∀{xs:γ V}{ts:γ Pt},BJ R xs ts->BJ R (xs++[v]) (ts++[t])
 |[],[],_=>(a,trivial)
 |_::_,_::_,h=>(h.1,BJ.snoc a h.2)
def BJ.ZW:∀{xs:γ V}{ts:γ Pt},BJ R xs ts->0<xs.β->∃ys v us t,xs=ys++[v]/\ts=us++[t]/\BJ R ys us/\R t v
 |[],[],_,h=>MJ h (Qq 0)
 |[v],[t],h,_=>([],v,[],t,5,trivial,h.1)
 |[_],_::_::_,h,_=>h.2.Nv
 |_::_::_,[_],h,_=>h.2.Nv
 |x::y::xs,t::u::ts,h,_=>by
  let⟨ys,v,us,t',b,a,h1,h2⟩:=BJ.ZW (xs:=y::xs) (ts:=u::ts) h.2 (!1);show(x::ys,v,t::us,t',by rw[b];rfl,by rw[a];rfl,(h.1,h1),h2)
end
abbrev aY(ts:γ Pt):Φ:=(ts.NL Pt.sz).sum
def Iu(ts:γ Pt)(t:Pt):aY (ts++[t])=aY ts+t.sz:=by
 unfold aY;rw[Nu,γ.YE];simp
def BF.ins'{c:Kd->υ}{H:Hp}(m:M')(d:m≠"sign"/\m≠"inner"/\m≠"left"/\m≠"right"):∀{t:Pt}{v:V},BF c H t v->∃a dx fs,v=.π a/\H a=δ (.Uk (c t.kd) dx fs)/\fs.ρ m=ε
 |.Oi _,_,⟨a,dx,e,b⟩=>(a,dx,_,e,b,1)
 |.Q9 _,_,⟨a,dx,e,b⟩=>(a,dx,_,e,b,by rw[Cn,Ω d.1];rfl)
 |.Of _ x,_,⟨a,dx,u,e,b,f⟩=>(a,dx,_,e,b,by rw[Cn,Ω d.2.1];rfl)
 |.O9 _ x y,_,⟨a,dx,u,w,e,b,f,g⟩=>(a,dx,_,e,b,by rw[Cn,Ω d.2.2.2,Cn,Ω d.2.2.1];rfl)
def Fe:dY w [] []:=trivial
def Ek(h1:e.key=.M_ x t)(h2:kv.1=.NT x)(b:e.Yp=PyData.keyHash w.Oz x)(a:ad kv.2 e.Zu)(r:dY w c NP):dY w (e::c) (kv::NP):=((x,t,h1,h2,b),a,r)
def Me(h:y=x):ad (.M_ x) (.M_ y t):=(t,by rw[h])
section
variable{α:Type}{R R':α->V->Prop}
end
end RA
namespace L2
open PySem.Spec PyProof.Rows
section
variable{X:Cx}
instance sK(P:NC)(w:Ny):Δ.X4 P w M':=Δ.strKind P w
inductive z9(P:Program)(w:World)(x:V)(y:V)(H:Hp)(Q:VK):Prop
 |mk (d k kvs v:_) (_:x=.ref d) (_:y=.str k) (_:H d<*B3 (sK P w) d kvs) (_:aF kvs k<*v) (_:Q v H)
def dh:CP X (z9 X.Ξ X.w):=by
 intro a b g s n H x y v u Q I j i h m;let⟨d,k,NP,z,ζ,ζ,e,l,q⟩:=h;cases j;let⟨t,ζ⟩:=(show ∃t,u=θ.M_ k t from i);let⟨ns,_,vs,f,dd⟩:=Ex I.Oc e;refine WU (ops:=[.π d,_]) dd.Qz Δ.F.UB.ρ ?_ m;let⟨p,hw,c⟩:=au.Vj (v:=z) (o:=RW vs k) (by rw[<-l];show f.Zu k);show UX (VW:=sK X.Ξ X.w) (k:=k) (strKind_is _ _ k t) dd.Z_ hw (z,H,I.Sg _,c,q)
def uB(h:NR)(a:Oo<h.Np.MV):Az P w H (h.Ni {OM:=.MM "dict",NH:=.Pv #[]}) h.Np.MV (B3 (sK P w) h.Np.MV []):=
 BS (VW:=sK P w) (NB.Om (Ne.MO (M8 a))) (Nb _) .Op (NR.Ye.Xw h)
inductive C4(X:Cx):List (Option Expr)->List Expr->List (Str×V)->Prop where
 |nil:C4 X [] [] []
 |cons {k v:Expr} {ks:List (Option Expr)} {vs:List Expr} {a:Str} {y:V} {kvs:List (Str×V)}:PE X k (tC (.str a))->PE X v (tC y)->C4 X ks vs kvs->C4 X (some k::ks) (v::vs) ((a,y,)::kvs)
abbrev Kh(p:M'×V)(q:θ×θ):Prop:=(∃t,q.1=.M_ p.1 t)/\ad p.2 q.2
abbrev Iv(NP:γ (M'×V))(r:γ (θ×θ)):Prop:=r.β=NP.β/\∀(i:Φ)(p:M'×V)(q:θ×θ),NP[i]?<*p->r[i]?<*q->Kh p q
def Iv.NX(h:Kh p q)(c:Iv NP r):Iv (p::NP) (q::r):=(by rw[NS,NS,c.1],λi a b e d=>by
 cases i with
 |TB=>cases e;cases d;show h
 | Sc i=>show c.2 i a b e d)
def Ff{c:St}(h:C4 X ks vs NP):∀{s:MH}{Q:γ (θ×θ)->MH->Prop},f' X b c H s->(∀r s',f' X b c H s'->Iv NP r->Q r s')->BT (Cl X.Ξ X.w) X.A (evalPairs (W4 ks vs X.KK Ng)) Q X.xe s:=by
 induction h with
 |Op=>show λI q=>pairTrees_nil_walk (q [] _ I (rfl,λi p q e _=>by cases e))
 |@NX k v ks vs a y NP z o _ n=>
  intro s Q I q;refine pairTrees_cons_walk (ri (z b s c H (λx H'=>x=.M_ a/\H'=H) I (1,1)) λu l g=>?_);let⟨x,j,L,m,E,D⟩:=g;subst E D;refine ri (o b l c j (λx H'=>x=y/\H'=j) L (1,1)) λN s2 f=>?_;let⟨M,P,J,d,C,B⟩:=f;subst C B;show n J λr O F t=>q _ _ F (Iv.NX (m,d) t)
def tP{NP:γ (M'×V)}(h:k∉NP.NL Uj.fst):aF NP k=ε:=by
 induction NP with
 |Op=>rfl
 |NX p r a=>
  rw[Qp,MN,not_or]at h;rw[Bj λz=>h.1 z.MO];show a h.2
abbrev wf(P:NC)(w:Ny)(NP:γ (M'×V)):TE:=λ_ H Q=>∀p H',H p=ε->a' H H'->H' p<*B3 (sK P w) p NP->Q (.π p) H'
def cG(M:C4 X ks vs NP)(Z:(NP.NL Uj.fst).Nx)(h1:0<NP.β)(O:NP.β≤15)(x:((W4 ks vs X.KK Ng).β=NP.β)>>>4)(hz:(ks.β=vs.β)>>>4)(ha:(ks.P' (·.Rx)=ξ)>>>4):PE X (.Dict ks vs Ng) (wf X.Ξ X.w NP):=by
 intro m s T H Q I h;let f:=I.Oc.OF (LT s⁻¹);let I1:=I.Tw (a:=s⁻¹) (o:=B3 (sK X.Ξ X.w) s⁻¹ []) (t':=s.MT) (λ_ _ q=>sy {OM:=.MM "dict",NH:=.Pv #[]} q) (LT _) (uB s.ο I.bigS);let E:=zip_pairTrees ks vs X.KK Ng ha hz;rw[arm_eval_Dict,E,dictDisplay_pairs (W4 ks vs X.KK Ng) (by intro z;rw[z]at x;rw[<-x]at h1;show MJ h1 (Qq _)) (by rw[x];omega)];refine d_ (PP (d_ ?_));unfold subDict;refine d_ (VM (d_ (NQ ?_)));rw[Id (by rw[x];show O)];refine d_ (Ff M I1 λr s1 I2 R=>NQ (d_ ?_));let F:=R.1.MO;refine wpAny_forIn_list _ (λRr _ s'=>∃(i:Φ)(H':Hp),i+Rr.β=NP.β/\Rr=r.Pu i/\f' X m T H' s'/\H' s⁻¹=δ (B3 (sK X.Ξ X.w) s⁻¹ (NP.OC i))/\a' H H') _ ?_ ?_ r _ ((0),_,by rw[Φ.Pz];show F.MO,1,I2,j_,a'.MR f)
 .rintro⟨u,v⟩Rr _ s2⟨i,H',A,S,B,hp,C⟩;let J:r[i]?<*(u,v,):=by
   have:=NZ (λl=>l[0]?) S;simpa using this.MO
  let n:i<NP.β:=by rw[NS]at A;lia
  obtain⟨⟨a,y⟩,d⟩:∃p,NP[i]?<*p:=(_,n_ n);let hR:Kh (a,y,) (u,v,):=R.2 i _ _ d J;let⟨⟨t,P⟩,U⟩:=hR;let P:u=.M_ a t:=P;subst P;let⟨ns,D,ws,c,dd⟩:=Ex (VW:=sK X.Ξ X.w) B.Oc hp;refine d_ (wpAny_dictSet_pairs (VW:=sK X.Ξ X.w) (k:=a) (V6:=by rw[<-c.β];show D) (strKind_is _ _ a t) dd λh' g Y=>j' ?_);let L:aF (NP.OC i) a=ε:=tP λz=>by
   rw[γ.map_take]at z;let⟨j,hj,e⟩:=γ.mem_take_iff_getElem.mp z;let N:j<i:=Ψ hj (Φ.min_le_left _ _);let e2:(NP.NL Uj.fst)[i]'(by rw[ol];show n)=a:=by
    rw[γ.getElem_map];have:=(q5 d).2;rw[this]
   show MJ ((UG Z).mp (e.ν e2.MO)) (M8 N)
  let W:=au.UD (show au ε (RW ws a) by rw[<-L];show c.Zu a);rw[IS W]at g;let et:NP.OC (i+1)=NP.OC i++[(a,y,)]:=by rw[Te,d];rfl
  refine(i+1,MR H' s⁻¹ (B3 (sK X.Ξ X.w) s⁻¹ (NP.OC (i+1))),by rw[NS]at A;lia,3,3,j_,λb o e=>?_)
  .have:=NZ γ.tail S;rw[γ.tail_cons,γ.tail_drop]at this;show this
  .rw [et];show HQ B (by rw[hp];show Ol.Ob) Y (let⟨o,_,_,q,_⟩:=g;(o,q)) (BS ns (sT (by rw[w_,Qu];change _≤16777216;simp;lia)) (bR c U) g)
  .rw [a_ λz=>by rw[z,f]at e;cases e];show C _ _ e
 .rintro _ s2⟨i,H',A,_,B,hp,C⟩;have:i=NP.β:=by rw[WH]at A;omega
  rw[this,SL]at hp;show j' (j' (j' (.π s⁻¹,H',B,1,h _ _ f C hp)))
end
end L2
namespace RA
open L2
abbrev Wd(L:LN)(u:LN):Prop:=∀c∈u,c∈L
abbrev Lg(L:LN)(W:LL)(B:γ MX):LN->Prop:=λu=>Wd L u/\AX L W B u=ξ
abbrev aI(A C:LN->Prop):LN->Prop:=λu=>∃x v,u=x++v/\A x/\C v
abbrev bw(A:LN->Prop):LN->Prop:=λu=>A u.Nc
abbrev Fy(A C:LN->Prop):LN->Prop:=λu=>A u\/C u
abbrev mv(A C:LN->Prop):LN->Prop:=λu=>A u/\C u
abbrev d9(A C:LN->Prop):LN->Prop:=λu=>A u/\¬ C u
abbrev gI(L:LN)(A:LN->Prop):LN->Prop:=λu=>Wd L u/\¬ A u
inductive al(A:LN->Prop):LN->Prop
 |nil:al A []
 |more {x v:LN}:al A x->A v->al A (x++v)
section
variable{A C D:LN->Prop}{L:LN}{W W1 W2:LL}{B B1 B2:List Bool}
def aD(h:∀u,A u↔C u):A=C:=funext λu=>propext (h u)
def f_L:Wd L (x++v)↔Wd L x/\Wd L v:=(λh=>(λc a=>h c (RL _ a),λc a=>h c (Nn _ a)),λh c a=>(Na.mp a).Nv (h.1 c) (h.2 c))
def h_z:Wd L u.Nc↔Wd L u:=(λh c a=>h c (VU.Om a),λh c a=>h c (VU.mp a))
def al.Of(h:A v):al A v:=by
 have:=al.Op.TW h
 rwa [WG]at this
def al.app(c:al A x)(b:al A y):al A (x++y):=by
 induction b with
 |Op=>rw[Oa];show c
 |TW _ h a=>rw[<-NY];show a.TW h
def al.Pg(h:∀u,A u->al C u)(s:al A u):al C u:=by
 induction s with
 |Op=>show .Op
 |TW _ h1 a=>show a.app (h _ h1)
def uJ(h:∀u:LN,(∀c∈u,c∈L)->(AX L W B u=ξ↔cR (AX L W1 B1) (AX L W2 B2) u)):Lg L W B=aI (Lg L W1 B1) (Lg L W2 B2):=aD λu=>by
 constructor
 .rintro⟨a,e⟩;let⟨x,v,ζ,d,b⟩:=(h u a).mp e;show(x,v,1,((f_L.mp a).1,d),(f_L.mp a).2,b)
 .rintro⟨x,v,ζ,⟨h1,d⟩,h2,b⟩;let a:=f_L.Om (h1,h2);show(a,(h _ a).Om (x,v,1,d,b))
def rK(h:∀u:LN,(∀c∈u,c∈L)->(AX L W B u=ξ↔Ag (AX L W1 B1) u)):Lg L W B=al (Lg L W1 B1):=aD λu=>by
 constructor
 .rintro⟨d,f⟩;let e:=(h u d).mp f;clear h f;induction e with
  |Op=>show .Op
  |TW _ _ i b=>show(b (f_L.mp d).1).TW ((f_L.mp d).2,i)
 .intro s;let a:Wd L u/\Ag (AX L W1 B1) u:=by
   induction s with
   |Op=>show(λc g=>(nomatch g),.Op)
   |@TW x v _ h1 b=>
    refine(f_L.Om (b.1,h1.1),3);by_cases e:v=[]
    .rw [e,Oa];show b.2
    .exact b.2.TW e h1.2
  show(a.1,(h u a.1).Om a.2)
def uI(h:∀u:LN,(∀c∈u,c∈L)->(AX L W B u=ξ↔cQ (AX L W1 B1) u)):Lg L W B=bw (Lg L W1 B1):=aD λu=>(λ⟨a,e⟩=>(h_z.Om a,(h u a).mp e),λ⟨a,e⟩=>(h_z.mp a,(h u (h_z.mp a)).Om e))
def xj(h:∀u:LN,(∀c∈u,c∈L)->(AX L W B u=ξ↔je (AX L W1 B1) u)):Lg L W B=gI L (Lg L W1 B1):=aD λu=>by
 constructor
 .rintro⟨a,e⟩;show(a,λz=>by let b:=z.2;rw[show AX L W1 B1 u=η from(h u a).mp e]at b;cases b)
 .rintro⟨a,e⟩;show(a,(h u a).Om (MX.Uy.Om λz=>e (a,z)))
def za(h:∀u:LN,(∀c∈u,c∈L)->(AX L W B u=ξ↔DZ (λa b=>a||b) (AX L W1 B1) (AX L W2 B2) u)):Lg L W B=Fy (Lg L W1 B1) (Lg L W2 B2):=aD λu=>by
 constructor
 .rintro⟨d,e⟩;show((Uq _ _).mp ((h u d).mp e)).Wc (⟨d,·⟩) (⟨d,·⟩)
 .rintro (⟨d,e⟩|⟨d,e⟩)
  .exact (d,(h u d).Om ((Uq _ _).Om (.NI e)))
  .exact (d,(h u d).Om ((Uq _ _).Om (.NT e)))
def xk(h:∀u:LN,(∀c∈u,c∈L)->(AX L W B u=ξ↔DZ (λa b=>a&&b) (AX L W1 B1) (AX L W2 B2) u)):Lg L W B=mv (Lg L W1 B1) (Lg L W2 B2):=aD λu=>by
 constructor
 .rintro⟨d,e⟩;have:=(Ou _ _).mp ((h u d).mp e);show((d,this.1),d,this.2)
 .rintro⟨⟨d,g⟩,_,f⟩;show(d,(h u d).Om ((Ou _ _).Om (g,f)))
def uL(h:∀u:LN,(∀c∈u,c∈L)->(AX L W B u=ξ↔DZ (λa b=>a&&!b) (AX L W1 B1) (AX L W2 B2) u)):Lg L W B=d9 (Lg L W1 B1) (Lg L W2 B2):=aD λu=>by
 constructor
 .rintro⟨d,e⟩;have:=(Ou _ _).mp ((h u d).mp e);show((d,this.1),λz=>by rw[z.2]at this;cases this.2)
 .rintro⟨⟨d,g⟩,f⟩;show(d,(h u d).Om ((Ou _ _).Om (g,by rw[Q_];show MX.Uy.Om λz=>f (d,z))))
def uK(c1:BI L W1 B1 d)(b:BI L W2 B2 c)(h:Lg L W1 B1=Lg L W2 B2):W1=W2/\B1=B2:=sU c1 b λu a=>by
 have:=congrFun h u;rw[MX.RD];show(λe=>(this▸((a,e):Lg L W1 B1 u):Lg L W2 B2 u).2,λe=>(this.MO▸((a,e):Lg L W2 B2 u):Lg L W1 B1 u).2)
def w0:gI L (Fy A C)=mv (gI L A) (gI L C):=aD λu=>(λ⟨h,n⟩=>((h,λz=>n (.NI z)),h,λz=>n (.NT z)),λ⟨⟨h,n⟩,_,m⟩=>(h,λz=>z.Nv n m))
def w2:al (al A)=al A:=aD λ_=>(al.Pg λ_ h=>h,al.Of)
def w3:bw (aI A C)=aI (bw C) (bw A):=aD λu=>by
 constructor
 .rintro⟨x,v,e,h1,h2⟩;refine(v.Nc,x.Nc,3,3,3)
  .rw [<-γ.VQ,<-e,SA]
  .change C v.Nc.Nc;rw[SA];show h2
  .change A x.Nc.Nc;rw[SA];show h1
 .rintro⟨x,v,ζ,h1,h2⟩;show(v.Nc,x.Nc,γ.VQ,h2,h1)
def w5:aI (aI A C) D=aI A (aI C D):=aD λu=>by
 constructor
 .rintro⟨_,v,ζ,⟨x,y,ζ,h1,h2⟩,a⟩;show(x,y++v,NY _ _ _,h1,y,v,1,h2,a)
 .rintro⟨x,_,ζ,h1,y,v,ζ,h2,a⟩;show(x++y,v,(NY _ _ _).MO,(x,y,1,h1,h2),a)
def w6:al (Fy A C)=al (aI (al A) (al C)):=aD λu=>by
 constructor
 .refine al.Pg λv h=>.Of ?_;rcases h with h|h
  .exact (v,[],(Oa _).MO,.Of h,.Op)
  .exact ([],v,1,.Op,.Of h)
 .refine al.Pg λv h=>?_;let⟨x,y,ζ,h1,h2⟩:=h;show(al.Pg (λ_ h=>.Of (.NI h)) h1).app (al.Pg (λ_ h=>.Of (.NT h)) h2)
def w7:aI A (al (aI C A))=aI (al (aI A C)) A:=aD λu=>by
 constructor
 .rintro⟨x,v,ζ,h1,h2⟩;induction h2 with
  |Op=>show([],x,by rw[Oa,WG],.Op,h1)
  |TW _ j d=>
   let⟨a,b,e,i,h⟩:=d;let⟨y,z,ζ,f,hz⟩:=j;refine(a++(b++y),z,3,i.TW (b,y,1,h,f),hz);rw[<-NY,e];simp only[NY]
 .rintro⟨x,v,ζ,h1,h2⟩;let c:∀{x:LN},al (aI A C) x->∀v,A v->aI A (al (aI C A)) (x++v):=λ{x}s=>by
   induction s with
   |Op=>show λv g=>(v,[],by rw[Oa,WG],g,.Op)
   |TW _ j d=>
    intro v g;let⟨y,z,ζ,f,hz⟩:=j;let⟨a,b,e,i,h⟩:=d y f;refine(a,b++(z++v),3,i,h.TW (z,v,1,hz,g));rw[<-NY a,<-e];simp only[NY]
  show c h1 v h2
def w8:mv A (Fy C D)=Fy (mv A C) (mv A D):=aD λu=>⟨λ⟨h,z⟩=>z.Wc (⟨h,·⟩) (⟨h,·⟩),λh=>h.Nv (λz=>(z.1,.NI z.2)) λz=>(z.1,.NT z.2)⟩
def w9:bw (bw A)=A:=aD λu=>by change A u.Nc.Nc↔_;rw[SA]
def Mf:bw (al A)=al (bw A):=by
 let a:∀{A:LN->Prop}{u:LN},al A u->al (bw A) u.Nc:=λ{A u}s=>by
  induction s with
  |Op=>show .Op
  |@TW x v _ h b=>
   rw[γ.VQ];show(al.Of (A:=bw A) (show A v.Nc.Nc by rw[SA];show h)).app b
 refine aD λu=>(λh=>?_,λh=>?_)
 .have:=a h
  rwa [SA]at this
 .have:=a h
  rwa [w9]at this
def Mg:aI A (Fy C D)=Fy (aI A C) (aI A D):=aD λu=>⟨λ⟨x,v,e,h1,h2⟩=>h2.Wc (⟨x,v,e,h1,·⟩) (⟨x,v,e,h1,·⟩),λh=>h.Nv (λ⟨x,v,e,h1,h2⟩=>(x,v,e,h1,.NI h2)) λ⟨x,v,e,h1,h2⟩=>(x,v,e,h1,.NT h2)⟩
end
abbrev LS(L:LN):K1->(LN->Prop)->LN->Prop
 |.OY=>gI L
 |.OH=>bw
 |.again=>al
abbrev LU:K2->(LN->Prop)->(LN->Prop)->LN->Prop
 |.O7=>Fy
 |.Tv=>d9
 |.Ta=>mv
 |.ON=>aI
abbrev C6(L:LN)(we:MX)(S:LN):LN->Prop:=λu=>(u=[]/\we=ξ)\/∃c∈L,c∈S/\u=[c]
abbrev bE(L:LN):Pt->LN->Prop
 |.Oi .PM=>C6 L η []
 |.Oi .Rg=>C6 L ξ []
 |.Oi .Qk=>C6 L η L
 |.Q9 c=>C6 L η [c]
 |.Of k x=>LS L k (bE L x)
 |.O9 k x y=>LU k (bE L x) (bE L y)
abbrev Dk(L S:LN):LL:=[L.NL λc=>if S.M7 c then 1 else 2,L.NL λ_=>2,L.NL λ_=>2]
section
variable{L S:LN}{we:Bool}
def bG(d:CH L):g_ L (Dk L S) [we,ξ,η]:=by
 refine(d,by change 1≤3;decide,by change 3≤2100;decide,1,λws h=>?_);let a:ws.β=L.β/\∀x∈ws,x<3:=by
  rcases MN.mp h with ζ|h
  .refine (ol ..,λx b=>?_);let⟨c,_,ζ⟩:=O_.mp b;split<;>decide
  .have:ws=L.NL λ_=>2:=by
    rcases MN.mp h with ζ|h
    .rfl
    .exact Ay h
   subst this;refine(ol ..,λx b=>?_);let⟨c,_,ζ⟩:=O_.mp b;decide
 show a
def cb(b:c∈L):Bw L (Dk L S) 0 c=(if S.M7 c then 1 else 2)/\Bw L (Dk L S) 1 c=2/\Bw L (Dk L S) 2 c=2:=by
 let a:=M6 b;let e:∀f:Φ->Φ,(L.NL f).MI (L.M0 c) 0=f c:=λf=>by
  rw[u6,tS,n_ a,O5];rfl
 show(e _,e _,e _)
def qp:∀{u:LN},Wd L u->PD L (Dk L S) 2 u=2
 |[],_=>rfl
 |c::u,h=>by
  change PD L (Dk L S) (Bw L (Dk L S) 2 c) u=2;rw[(cb (h c N5)).2.2];show qp λx a=>h x (M1 _ a)
def yy:Lg L (Dk L S) [we,ξ,η]=C6 L we S:=aD λu=>by
 match u with
 |[]=>show(λh=>.NI (1,h.2),λh=>(λc a=>(nomatch a),h.Nv And.right λ⟨_,_,_,z⟩=>(nomatch z)))
 |[c]=>
  constructor
  .rintro⟨b,e⟩;let a:=b c N5;let e:[we,ξ,η].MI (Bw L (Dk L S) 0 c) η=ξ:=e;rw[(cb a).1]at e;by_cases d:S.M7 c=ξ
   .exact .NT (c,a,QJ.mp d,1)
   .rw [Ω d]at e;cases e
  .rintro (⟨z,_⟩|⟨i,a,d,z⟩)
   .cases z
   .cases z;refine(λx f=>by rw[Ay f];show a,3);show[we,ξ,η].MI (Bw L (Dk L S) 0 c) η=ξ;rw[(cb a).1,Id (QJ.Om d)];rfl
 |c::g::u=>
  constructor
  .rintro⟨b,e⟩;let h1:=cb (S:=S) (b c N5);let h2:=cb (S:=S) (b g (M1 _ N5));let e:[we,ξ,η].MI (PD L (Dk L S) (Bw L (Dk L S) (Bw L (Dk L S) 0 c) g) u) η=ξ:=e;let z:Bw L (Dk L S) (Bw L (Dk L S) 0 c) g=2:=by
    rw[h1.1];split
    .exact h2.2.1
    .exact h2.2.2
   rw[z,qp λx f=>b x (M1 _ (M1 _ f))]at e;cases e
  .rintro (⟨z,_⟩|⟨_,_,_,z⟩)<;>cases z
end
structure Mc(H:Hp)(m:Addr)(L:LN)(W:LL)(B:List Bool):Prop where
 mt:zl H m L W B
 ma:g_ L W B
 le:W.length≤8
def Mc.kt(h:Mc H m L W B)(k:KT ts H H'):Mc H' m L W B:=(k.Se h.mt,h.ma,h.le)
def ah.kt{ts:γ (υ×γ (Sn×M'))}{H H':Hp}(k:KT ts H H'):∀{t:Pt}{v:V},ah H t v->ah H' t v
 |.Oi _,_,⟨a,e,b⟩=>(a,e,k.sm.No _ _ b)
 |.Q9 _,_,⟨a,e,b⟩=>(a,e,k.sm.No _ _ b)
 |.Of _ x,_,⟨a,u,e,b,c⟩=>(a,u,e,k.sm.No _ _ b,ah.kt k (t:=x) c)
 |.O9 _ x y,_,⟨a,u,w,e,b,c,d⟩=>(a,u,w,e,k.sm.No _ _ b,ah.kt k (t:=x) c,ah.kt k (t:=y) d)
def qo(h:ah H t v)(a:t.Vy≤n+1):(∃k,t=.Oi k)\/(∃c,t=.Q9 c)\/∃(p:υ)(nm:M')(us:γ V)(ps:γ Pt),v=.π p/\H p=δ (.No (.M_ nm::us))/\us.β=ps.β/\1≤us.β/\us.β≤2/\nm≠"sign"/\
  (∀(j:Φ)(u:V),us[j]?<*u->∃x,ps[j]?=δ x/\ah H x u/\x.Vy≤n)/\((∃k x,t=.Of k x/\nm=GN k/\ps=[x])\/∃k x y,t=.O9 k x y/\nm=Dj k/\ps=[x,y]):=by
 cases t with
 |Oi k=>show .NI (k,1)
 |Q9 c=>show .NT (.NI (c,1))
 |Of k x=>
  let⟨p,u,e,hp,b⟩:=h;let a:x.Vy+1≤n+1:=a;refine .NT (.NT (p,_,[u],[x],e,hp,1,LT _,by change 1≤2;decide,by cases k<;>decide +kernel,λj d e=>?_,.NI (k,x,5,1)));match j with
  |0=>cases e;show(x,1,b,Φ.le_of_succ_le_succ a)
  |j+1=>simp at e
 |O9 k x y=>
  let⟨p,u,w,e,hp,b,f⟩:=h;let a:max x.Vy y.Vy+1≤n+1:=a;refine .NT (.NT (p,_,[u,w],[x,y],e,hp,1,by change 1≤2;decide,LT _,by cases k<;>decide +kernel,λj d e=>?_,.NT (k,x,y,5,1)));match j with
  |0=>cases e;show(x,1,b,!6)
  |1=>cases e;show(y,1,f,!6)
  |j+2=>simp at e
def _root_.L2.KT.RY{ys zs:γ V}(k:KT ts H H')(l:H D=ε)(c:H' D<*.M5 ys):KT ts H (MR H' D (.M5 zs)):=by
 refine(λb o j e=>by rw[a_ (e_ e l)];show k.sm b o j e,λh p hp=>?_);let⟨ps,d,i,a⟩:=k.tb h p hp;refine(ps,by rw[a_ (qN d c (!5))];show d,i,λx g=>(a x g).Wc id λ⟨n,m,f⟩=>(n,m,3));rw[a_ (qN f c (!5))];show f
def Mc.RY{ys zs:γ V}(h:Mc H m L W B)(a:H D<*.M5 ys):Mc (MR H D (.M5 zs)) m L W B:=by
 refine(h.mt.QN λb xs e=>?_,h.ma,h.le);rw[a_ (qN e a (!5))];show e
end RA
namespace L2
open PySem.Spec PyProof.Rows RA
def DE{p:TE}{k:St}{Q:VK}(v:Du J a (.No xs) xs)(g:υ->Φ->γ V->Hp->Prop)(hz:xs.β≤Λ)(w:∀D i ys H',g D i ys H'->H' a=δ (.No xs)/\H' D=δ (.M5 ys)/\ys.β=i)(h0:∀D,H D=ε->g D 0 [] (MR H D (.M5 [])))(B:∀(D:υ)(i:Φ)(x:V)(ys:γ V)(H':Hp)(q:VK),H D=ε->xs[i]?<*x->g D i ys H'->(∀y f,f D<*.M5 ys->g D (i+1) (ys++[y]) (MR f D (.M5 (ys++[y])))->q y f)->p (δ x::k) H' q)(C:∀D ys H',H D=ε->g D xs.β ys H'->Q (.π D) H'):∀D,H D=ε->∃W:Φ->Φ->γ V->Hp->Prop,
 (∃m,W 0 m [] (MR H D (.M5 [])))/\∀i m ys d,W i m ys d->d D=δ (.M5 ys)/\((J.Sv i d/\Q (.π D) d)\/(J.go i d/\ys.β<Λ/\∀x j,J.X6 i d x j->
  Xt (δ x::k) j λb r=>if b=ξ then p (δ x::k) r λy f=>f D=δ (.M5 ys)/\∃h,h<m/\W (i+1) h (ys++[y]) (MR f D (.M5 (ys++[y])))
   else ∃h,h<m/\W (i+1) h ys r)):=by
 intro D o;refine(λi m ys d=>m=xs.β-i/\i≤xs.β/\g D i ys d,(xs.β,!1,Nb _,h0 D o),3);rintro i m ys d⟨rfl,E,hp⟩;let⟨F,n,z⟩:=w D i ys d hp;refine(n,3);let⟨u,t,s⟩:=v d F;by_cases c:i<xs.β
 .refine .NT (u i c,Nk (Rb z) (Ψ c hz),λx j l=>?_);let⟨e,A⟩:=t i x j c l;subst e;show l_ (B D i x ys j _ o A hp λy f a b=>(a,xs.β-(i+1),Pf _ _ c,1,c,b))
 .let e:i=xs.β:=Rc E (OQ c);subst e;show .NI (s,C D ys d o hp)
def pO{P1:υ->Hp->Prop}(e:∀R:VK,(∀a b,P1 a b->b a<*.No xs->R (.π a) b)->k g H R)(c:Hp->υ->Φ->γ V->Hp->Prop)(hz:xs.β≤Λ)(n:∀b a D i ys H',b a<*.No xs->c b D i ys H'->H' a=δ (.No xs)/\H' D=δ (.M5 ys)/\ys.β=i)(h0:∀b D,b D=ε->c b D 0 [] (MR b D (.M5 [])))(o:∀(a:υ)(b:Hp)(D:υ)(i:Φ)(x:V)(ys:γ V)(H':Hp)(d:VK),P1 a b->b D=ε->xs[i]?<*x->c b D i ys H'->(∀y f,f D<*.M5 ys->c b D (i+1) (ys++[y]) (MR f D (.M5 (ys++[y])))->d y f)->l (δ x::g) H' d)(p:∀a b D ys H',P1 a b->b D=ε->c b D xs.β ys H'->Q (.π D) H'):FG (JU k) Xt l g H Q:=
 e _ λa b h j=>(a,_,xs,1,.NT ζ,j,λ_ m=>DE m (c b) hz (λD i ys H'=>n b a D i ys H' j) (h0 b) (λD i x ys H' d=>o a b D i x ys H' d h) λD ys H'=>p a b D ys H' h)
def i9{f:M'}{Ng:Sn}(K:Nl)(a:PE X e ta)(c:(X.K=K)>>>4)(b:(QH e f X.KK (OJ e X.KK)=OJ e X.KK)>>>4):PE X (.Ox e f Ng) (mK K ta f):=by
 subst c;show uo a b
section
variable{X:Cx}{k j:Nat}{ps:List Str}{sp:Sp}{m y:Str}{p pos apos cp yp ap:Pos}{o e c e1 e2:Expr}{es:List Expr}{ta:TE}{t:TA}{ι:Type}{C:ι->Addr}{f:Addr}{fd:FuncData}
abbrev wg(C:ι->υ)(m:M')(j:Φ)(sp:Sp)(ta:TE)(t:TA):(St->XK)->TS:=λG D σ H=>ta σ H λx H0=>∃i a dx fs,x=.π a/\H0 a=δ (.Uk (C i) dx fs)/\fs.ρ m=ε/\t σ H0 λvs H1=>sp (x::vs) H1 (λv H2=>D.nx (σ.RY j (δ v)) H2) (G σ)
def uh{pl:Y_ MX}(nd:X.N.Nx)(he:PE X.nox o ta)(cl:∀i,Co X.K (C i))(Z:∀i,dX X.K (C i) m f)(F:aa X.Ξ X.w X.K X.mg X.ς (Al X.Ξ X.w) k f fd ps sp)(hr:ak k X.A)(B:Ao X.K fd ps [])(ha:PA X.nox (e::es) t)(hj:X.N[j]?<*y)(hy:DG X.KK.NE y)(Rv:(Θ (e::es) X.KK=(η,OJ e X.KK,)::Θ es X.KK)>>>4)(M:((OE cp (Θ es X.KK)).Qk (·.1)=η)>>>4)(ht:(OJ (.QE (.Ox o m Zi) (e::es) [] cp) X.KK=(do
   let Y <-OJ o X.KK
   standAt Zi.atName
   let(f,first,) <-holding [Y] (W9 Y m pl)
   YY cp f first (OE cp (Θ (e::es) X.KK)) (Ve cp (TH [] X.KK))))>>>4)(hs:(Su (.QE (.Ox o m Zi) (e::es) [] cp) (δ (.Nz y yp)) ap.SV X.KK=pure η)>>>4)(hf:(X.fn y=ξ\/X.KK.NE.MP.ρ y<*.local)>>>8):PX X (.WM [.Nz y yp] (.QE (.Ox o m Zi) (e::es) [] cp) ap) (wg C m j sp ta t):=by
 intro b s d H D G I h;refine wpAny_Assign_Name (NG (Q:=EP X b d λv n=>D.nx (d.RY j (δ v)) n) ?_ (λv S O=>by let⟨w,R,L,r1,q1⟩:=O;show AO L nd hj hy r1 (λs2 E=>(_,R,E,q1)) hf) λ_ _ z=>z) hs;refine Δ.W.Yn (pl:=pl) (NG (he b s d H _ (I.Vs _) h) (λu S P=>?_) λ_ _ z=>z.Nv) ht;let⟨x,R,L,rx,i,a,dx,fs,ex,ea,l,q⟩:=P;subst ex;obtain ζ:u=θ.π a:=rx;refine K' L.Ss ea (cl i) (Z i) l ?_;refine WJ (first:=[.π a]) (h₀:=X.ς) I.ok.VT.Vv (Z i).kp (NG (ha cp b S d R _ L q) (λus s2⟨vs,n,E,r,U⟩=>(E.TX,3)) λ_ _ z=>z.Nv) Rv M;let J:f' X b d n s2:=E.Ss;let T:ae (V.π a::vs) (θ.π a::us):=.NX ζ r;refine QM (PY (F.PD X.A X.NA s2 n (θ.π a::us,[]) (θ.π a::us) (V.π a::vs) _ _ hr J.Ze ?_ T U) λr s' g=>?_)
 .let B:=B s2 (θ.π a::us) J.TX;rw[Oa]at B;show B (by rw[<-T.β];show F.PJ _ _ _ _ U)
 .cases r with
  |R9 ev=>show(d,n,s2,J,g)
  |ok fl=>
   cases fl with
   |UT u=>show J.XZ g
   |next=>show NU.Nv g
   |Yg=>show NU.Nv g
   |T_=>show NU.Nv g
inductive FW(V:LN)(T:(Nat->Pt)->Pt)(σ:St)(H:Hp)(Q:VK):Prop
 |mk (f:Nat->Pt) (_:(∀i∈V,∃v,σ[i]?=some (some v)/\ah H (f i) v)) (_:∀v H',a' H H'->ah H' (T f) v->Q v H')
variable{V:LN}{T T1 T2:(Nat->Pt)->Pt}{x1:ExprCtx}
def yx(h:PE X e (bB i))(g:(i∈V)>>>0):PE X e (FW V λf=>f i):=λa s b H Q I⟨f,d,q⟩=>by
 let⟨v,e1,e2⟩:=d i g;show h a s b H Q I (v,e1,q v H (a'.Th _) e2)
def cE(k:K0)(h:PA X es (Aw (tC (.M_ (Hs k))) Ww)){x1}:PE X (.RP es x1 Ng) (FW V λ_=>.Oi k):=λa s b H Q I⟨f,d,q⟩=>
 Bg h a s b H Q I (sT (by change 1≤16777216;decide),λp hp=>q (.π p) _ (a'.MR hp) (p,1,j_))
def Br(k:K1)(h:PA X es (Aw (tC (.M_ (GN k))) (Aw (FW V T) Ww))){x1}:PE X (.RP es x1 Ng) (FW V λf=>.Of k (T f)):=λa s b H Q I⟨f,g,q⟩=>
 Bg h a s b H Q I (f,g,λv l d i=>(sT (by change 2≤16777216;decide),λp hp=>q (.π p) _ (d.ν (a'.MR hp)) (p,v,1,j_,i.kp (a'.kp (a'.MR hp)))))
def A0(k:K2)(h:PA X es (Aw (tC (.M_ (Dj k))) (Aw (FW V T1) (Aw (FW V T2) Ww)))){x1}:PE X (.RP es x1 Ng) (FW V λf=>.O9 k (T1 f) (T2 f)):=λd s n H Q I⟨f,l,q⟩=>
 Bg h d s n H Q I (f,l,λv A g r=>(f,λi x=>let⟨u,a,b⟩:=l i x;(u,a,b.kp (a'.kp g)),λw z s2 hw=>(sT (by change 3≤16777216;decide),λp hp=>q (.π p) _ (g.ν (s2.ν (a'.MR hp))) (p,v,w,1,j_,r.kp (a'.kp (s2.ν (a'.MR hp))),hw.kp (a'.kp (a'.MR hp))))))
def Dl{f:Φ->Pt}(g:∀i∈V,∃v,h[i]?=δ (δ v)/\ah H (f i) v)(q:∀p u w H',a' H H'->H' p<*.M5 [u,w]->ah H' (T1 f) u->ah H' (T2 f) w->D.rt (.π p) H'):gh (yf (Aw (FW V T1) (Aw (FW V T2) Ww))) D h H:=
 (f,g,λu s d l=>(f,λi n=>let⟨u,a,b⟩:=g i n;(u,a,b.kp (a'.kp d)),λw r s2 hw=>(sT (by change 2≤16777216;decide),λp hp=>q p u w _ (d.ν (s2.ν (a'.MR hp))) j_ (l.kp (a'.kp (s2.ν (a'.MR hp)))) (hw.kp (a'.kp (a'.MR hp))))))
end
def jO(h:ys.β=n+1):AL (xs++ys) ε (δ (-((n+1:Φ):ML)))=xs:=by
 unfold AL HT.Sj;dsimp only;rw[Id (!2),w_,h,show(-((n+1:Φ):ML)+((xs.β+(n+1):Φ):ML)).On=xs.β by lia];simp
def pV(xs:γ V)(a b:V):AN (xs++[a]++[b]) (-2)<*a:=by
 let e:Fo (xs++[a]++[b]).β (-2)<*xs.β:=by
  unfold Fo;rw[Ω (!0)];simp;lia
 unfold AN;rw[e];simp
def qm(K:Nl)(a:(X.K=K)>>>4):HK X (yL K):=by
 subst a;show HL
def vi(d:0≤a)(c:0≤b){n:Φ}(h:b≤a+(n:ML)):(sS ns (δ a) (δ b)).β≤n:=by
 unfold sS HT.Sj;dsimp only;rw[Ω (!6),Ω (!6),Qu,UF];omega
abbrev C7(K:Nl)(x q:M')(st:Nr)(f:υ):Prop:=∃fd,vh K x q st f fd
section
variable{K:Frag}{x q:Str}{st:Stmt}{f:Addr}{fd:FuncData}{q0 q1 q2:Str}
def GR{kV Pi pm ct:θ}(l:K.ρ f<*(e,d,.QY (Ps x q (t5 st) (p_ st) (h_ st) .ε kV Pi pm an (.π b) ct),a))(c:O8 K (.π b) q=ξ):C7 K x q st f:=(_,D7 l c (BE l))
def ED(F:vh K x q st f fd)(h:∀(kV Pi pm:θ)(an:ω υ)(Qi ct a:θ),TL (Ps x q (t5 st) (p_ st) (h_ st) .ε kV Pi pm an Qi ct) ([a],[])=pure ([q0].Td [a])):Ao K fd [q0] []:=F.V_ λ_ _ _ _ _ _ us b=>by let⟨_,ζ⟩:=D0 b;show h _ _ _ _ _ _ _
def Ki(F:vh K x q st f fd)(h:∀(kV Pi pm:θ)(an:ω υ)(Qi ct b a:θ),TL (Ps x q (t5 st) (p_ st) (h_ st) .ε kV Pi pm an Qi ct) ([b,a],[])=pure ([q0,q1].Td [b,a])):Ao K fd [q0,q1] []:=F.V_ λ_ _ _ _ _ _ us c=>by let⟨_,_,ζ⟩:=Gp c;show h _ _ _ _ _ _ _ _
def Mh(F:vh K x q st f fd)(h:∀(kV Pi pm:θ)(an:ω υ)(Qi ct c b a:θ),TL (Ps x q (t5 st) (p_ st) (h_ st) .ε kV Pi pm an Qi ct) ([c,b,a],[])=pure ([q0,q1,q2].Td [c,b,a])):Ao K fd [q0,q1,q2] []:=F.V_ λ_ _ _ _ _ _ us d=>by let⟨_,_,_,ζ⟩:=Jn d;show h _ _ _ _ _ _ _ _ _
end
structure dM(K:Frag)(C cP f fM:Addr):Prop where
 pc:vA K C cP
 me:dX K C "shape" f
 mm:dX K C "machine" fM
end L2
namespace RA
open L2
abbrev CJ(x y z:Pt):Φ->Pt×Pt
 |0=>(.O9 .ON x (.O9 .O7 y z),.O9 .O7 (.O9 .ON x y) (.O9 .ON x z),)
 |1=>(.Of .OY (.O9 .O7 x y),.O9 .Ta (.Of .OY x) (.Of .OY y),)
 |2=>(.Of .again (.O9 .O7 x y),.Of .again (.O9 .ON (.Of .again x) (.Of .again y)),)
 |3=>(.Of .OH (.O9 .ON x y),.O9 .ON (.Of .OH y) (.Of .OH x),)
 |4=>(.O9 .Tv x y,.O9 .Ta x (.Of .OY y),)
 |5=>(.Of .again (.Of .again x),.Of .again x,)
 |6=>(.O9 .O7 (.Oi .Rg) (.O9 .ON x (.Of .again x)),.Of .again x,)
 |7=>(.O9 .ON (.Of .again (.O9 .ON x y)) x,.O9 .ON x (.Of .again (.O9 .ON y x)),)
 |8=>(.O9 .ON x (.Oi .PM),.Oi .PM,)
 |9=>(.O9 .ON (.Oi .Rg) x,.O9 .ON x (.Oi .Rg),)
 |10=>(.O9 .ON (.O9 .ON x y) z,.O9 .ON x (.O9 .ON y z),)
 |11=>(.O9 .Ta x (.O9 .O7 y z),.O9 .O7 (.O9 .Ta x y) (.O9 .Ta x z),)
 |12=>(.Of .OH (.Of .again x),.Of .again (.Of .OH x),)
 |13=>(.O9 .Tv x (.O9 .O7 y z),.O9 .Tv (.O9 .Tv x y) z,)
 |14=>(.Of .OY (.Oi .PM),.Of .again (.Oi .Qk),)
 |_=>(.Of .OH (.Of .OY x),.Of .OY (.Of .OH x),)
section
variable{A C D:LN->Prop}{L:LN}{x y z:Pt}
def Iw{b:MX}{S:LN}{u:LN}:C6 L b S u->Wd L u
 |.NI ⟨e,_⟩=>by rw[e];show λc a=>(nomatch a)
 |.NT ⟨c,a,_,e⟩=>by rw[e];show λd f=>by rw[Ay f];show a
def mL(h:∀u,A u->Wd L u)(s:al A u):Wd L u:=by
 induction s with
 |Op=>show λc b=>(nomatch b)
 |TW _ h1 a=>show f_L.Om (a,h _ h1)
def FX:∀(t:Pt)(u:LN),bE L t u->Wd L u
 |.Oi .PM,_,h=>Iw h
 |.Oi .Rg,_,h=>Iw h
 |.Oi .Qk,_,h=>Iw h
 |.Q9 _,_,h=>Iw h
 |.Of .OY _,_,h=>h.1
 |.Of .OH x,u,h=>h_z.mp (FX x _ h)
 |.Of .again x,u,h=>mL (FX x) h
 |.O9 .O7 x y,u,h=>h.Nv (FX x u) (FX y u)
 |.O9 .Tv x y,u,h=>FX x u h.1
 |.O9 .Ta x y,u,h=>FX x u h.1
 |.O9 .ON x y,_,⟨_,_,e,h1,h2⟩=>by rw[e];show f_L.Om (FX x _ h1,FX y _ h2)
def d_v:C6 L ξ [] u↔u=[]:=(λh=>h.Nv And.left λ⟨_,_,z,_⟩=>(nomatch z),λe=>.NI (e,1))
def cT:¬ C6 L η [] u:=λh=>h.Nv (λz=>nomatch z.2) λ⟨_,_,z,_⟩=>(nomatch z)
def v4(h:∀u,A u->Wd L u):d9 A C=mv A (gI L C):=aD λu=>(λ⟨a,n⟩=>(a,h u a,n),λ⟨a,_,n⟩=>(a,n))
def v6:Fy (C6 L ξ []) (aI A (al A))=al A:=aD λu=>by
 constructor
 .rintro (h|⟨a,v,ζ,h1,h2⟩)
  .rw [d_v.mp h];show .Op
  .exact (al.Of h1).app h2
 .intro s;induction s with
  |Op=>show .NI (d_v.Om ζ)
  |@TW a v _ h c=>
   rcases c with e|⟨b,w,ζ,h1,h2⟩
   .rw [d_v.mp e];show .NT (v,[],(Oa _).MO,h,.Op)
   .exact .NT (b,w++v,NY _ _ _,h1,h2.TW h)
def v8:aI A (C6 L η [])=C6 L η []:=aD λu=>(λ⟨_,_,_,_,h⟩=>(cT h).Nv,λh=>(cT h).Nv)
def v9:aI (C6 L ξ []) A=aI A (C6 L ξ []):=aD λu=>by
 constructor
 .rintro⟨a,v,ζ,h1,h2⟩;show(v,[],by rw[d_v.mp h1,Oa];rfl,h2,d_v.Om ζ)
 .rintro⟨a,v,ζ,h1,h2⟩;show([],a,by rw[d_v.mp h2,Oa];rfl,d_v.Om ζ,h1)
def Mi:d9 A (Fy C D)=d9 (d9 A C) D:=aD λu=>(λ⟨a,n⟩=>((a,λz=>n (.NI z)),λz=>n (.NT z)),λ⟨⟨a,n⟩,m⟩=>(a,λz=>z.Nv n m))
def iI:∀(v:LN),Wd L v->al (C6 L η L) v
 |[],_=>.Op
 |c::v,h=>al.app (x:=[c]) (.Of (.NT (c,h c N5,h c N5,1))) (iI v λd a=>h d (M1 _ a))
def Mj:gI L (C6 L η [])=al (C6 L η L):=aD λu=>(λh=>iI u h.1,λs=>(mL (λ_=>Iw) s,cT))
def Ml:bw (gI L A)=gI L (bw A):=aD λu=>(λ⟨h,n⟩=>(h_z.mp h,n),λ⟨h,n⟩=>(h_z.Om h,n))
def p5:∀k,bE L (CJ x y z k).1=bE L (CJ x y z k).2
 |0=>Mg
 |1=>w0
 |2=>w6
 |3=>w3
 |4=>v4 (FX x)
 |5=>w2
 |6=>v6
 |7=>w7.MO
 |8=>v8
 |9=>v9
 |10=>w5
 |11=>w8
 |12=>Mf
 |13=>Mi
 |14=>Mj
 |_+15=>Ml
abbrev Bd(L:LN)(n d:Φ)(t:Pt)(c i e:Φ):Prop:=t.Ti L/\t.sz≤c*n+i/\t.Vy≤d+e
section
variable{t s:Pt}{n d c i e c' i':Nat}
def Bd.up(h:Bd L n d t c i e):Bd L n d t c i (e+1):=(h.1,h.2.1,Φ.V4 h.2.2)
def Bd.Of(h:Bd L n d t c i e):Bd L n d (.Of k t) c (i+1) (e+1):=(h.1,QC h.2.1,QC h.2.2)
def Bd.O9(h:Bd L n d t c i e)(g:Bd L n d s c' i' e):Bd L n d (.O9 k t s) (c+c') (i+i'+1) (e+1):=((h.1,g.1),(by change _+_+1≤(c+c')*n+(i+i'+1);have:=h.2.1;have:=g.2.1;rw[Φ.add_mul];lia),QC (Φ.max_le.Om (h.2.2,g.2.2)))
def Bd.VA(h:Bd L n d t c i e)(h1:(Φ.ble c 4=ξ)>>>4)(h2:(Φ.ble i 4=ξ)>>>4)(a:(Φ.ble e 3=ξ)>>>4):t.Ti L/\t.sz≤4*n+4/\t.Vy≤d+3:=
 (h.1,IO h.2.1 (Φ.add_le_add (Φ.mul_le_mul_right n (Φ.Wb h1)) (Φ.Wb h2)),IO h.2.2 (Φ.add_le_add_left (Φ.Wb a) d))
end
def vX(f:x.Ti L)(e:y.Ti L)(hz:z.Ti L)(c:x.sz≤n)(b:y.sz≤n)(a:z.sz≤n)(dx:x.Vy≤d)(h:y.Vy≤d)(g:z.Vy≤d)(d1:1≤d)(k:Φ):((CJ x y z k).1.Ti L/\(CJ x y z k).1.sz≤4*n+4/\(CJ x y z k).1.Vy≤d+3)/\(CJ x y z k).2.Ti L/\(CJ x y z k).2.sz≤4*n+4/\(CJ x y z k).2.Vy≤d+3:=by
 let X:Bd L n d x 1 0 0:=(f,by rw[Φ.one_mul];show c,dx);let Y:Bd L n d y 1 0 0:=(e,by rw[Φ.one_mul];show b,h);let Z:Bd L n d z 1 0 0:=(hz,by rw[Φ.one_mul];show a,g);let E:∀k,Bd L n d (.Oi k) 0 1 0:=λk=>(trivial,by rw[Φ.zero_mul];show LT _,d1);match k with
 |0=>show((X.up.O9 (Y.O9 Z)).VA,((X.O9 Y).O9 (X.O9 Z)).VA)
 |1=>show((X.O9 Y).Of.VA,(X.Of.O9 Y.Of).VA)
 |2=>show((X.O9 Y).Of.VA,(X.Of.O9 Y.Of).Of.VA)
 |3=>show((X.O9 Y).Of.VA,(Y.Of.O9 X.Of).VA)
 |4=>show((X.O9 Y).VA,(X.up.O9 Y.Of).VA)
 |5=>show(X.Of.Of.VA,X.Of.VA)
 |6=>show(((E _).up.up.O9 (X.up.O9 X.Of)).VA,X.Of.VA)
 |7=>show(((X.O9 Y).Of.O9 X.up.up).VA,(X.up.up.O9 (Y.O9 X).Of).VA)
 |8=>show((X.O9 (E _)).VA,(E _).VA)
 |9=>show(((E _).O9 X).VA,(X.O9 (E _)).VA)
 |10=>show(((X.O9 Y).O9 Z.up).VA,(X.up.O9 (Y.O9 Z)).VA)
 |11=>show((X.up.O9 (Y.O9 Z)).VA,((X.O9 Y).O9 (X.O9 Z)).VA)
 |12=>show(X.Of.Of.VA,X.Of.Of.VA)
 |13=>show((X.up.O9 (Y.O9 Z)).VA,((X.O9 Y).O9 Z.up).VA)
 |14=>show((E _).Of.VA,(E _).Of.VA)
 |_+15=>show(X.Of.Of.VA,X.Of.Of.VA)
end
section
def Kj(h:5<r)(h':r<10):∃k:K2,AN [V.M_ "either",.M_ "less",.M_ "both",.M_ "then"] (r-6)<*.M_ (Dj k):=by
 rcases(by lia:r=6\/r=7\/r=8\/r=9)with ζ|rfl|rfl|rfl
 .exact (.O7,1)
 .exact (.Tv,1)
 .exact (.Ta,1)
 .exact (.ON,1)
def Kk(h:0≤r)(h':r<4):∃k:K1,AN [V.M_ "again",.M_ "outside",.M_ "turned",.M_ "again"] r<*.M_ (GN k):=by
 rcases(by lia:r=0\/r=1\/r=2\/r=3)with ζ|rfl|rfl|rfl
 .exact (.again,1)
 .exact (.OY,1)
 .exact (.OH,1)
 .exact (.again,1)
def Kl(h:0≤r)(h':r<2):∃k:K0,AN [V.M_ "never",.M_ "empty"] r<*.M_ (Hs k):=by
 rcases(by lia:r=0\/r=1)with ζ|rfl
 .exact (.PM,1)
 .exact (.Rg,1)
def Km(h:0≤r)(h':r<3):∃k:K2,AN [V.M_ "then",.M_ "either",.M_ "then"] r<*.M_ (Dj k):=by
 rcases(by lia:r=0\/r=1\/r=2)with ζ|rfl|rfl
 .exact (.ON,1)
 .exact (.O7,1)
 .exact (.ON,1)
def BJ.kp(k:Kp H H')(h:BJ (ah H) xs ts):BJ (ah H') xs ts:=h.Wc λ_ _ z=>z.kp k
end
def mU{R:Pt->V->Prop}:∀{xs:γ V}{ts:γ Pt}{j:Φ},BJ R xs ts->j<xs.β->∃v t,xs[j]?=δ v/\ts[j]?=δ t/\R t v
 |x::_,t::_,0,h,_=>(x,t,5,h.1)
 |_::xs,_::ts,j+1,h,a=>mU (xs:=xs) (ts:=ts) h.2 (Φ.lt_of_succ_lt_succ a)
def iF{b:Type}{xs:γ b}{x:b}(h:xs[0]?<*x):xs.OC (0+1)=[x]:=by
 cases xs with
 |Op=>cases h
 |NX a l=>cases h;rfl
def pL(ts:γ Pt)(n:Φ):aZ (ts.OC n)≤aZ ts:=by
 let h:aZ ts=aZ (ts.OC n)+aZ (ts.Pu n):=by
  unfold aZ;rw[<-γ.YE,<-Nu,Rq]
 lia
def nY(ts:γ Pt)(n:Φ):aY (ts.OC n)≤aY ts:=by
 let h:aY ts=aY (ts.OC n)+aY (ts.Pu n):=by
  unfold aY;rw[<-γ.YE,<-Nu,Rq]
 lia
abbrev Tl(L:LN)(H:Hp)(t:Pt)(v:V):Prop:=v=.Rt\/∃(f:υ)(W:LL)(B:γ MX),v=.π f/\Mc H f L W B/\(∃c,BI L W B c)/\Lg L W B=bE L t
def Tl.kt(h:Tl L H t v)(k:KT ts H H'):Tl L H' t v:=h.Wc id λ⟨f,W,B,e,a,r⟩=>(f,W,B,e,a.kt k,r)
end RA
section
seal L2.PE L2.PS L2.BA L2.PA L2.PI L2.PG L2.PT L2.FF L2.IJ L2.PW L2.PX
namespace K73
open L2 RA
abbrev Qm(i:Φ):Nr:=Δ.Challenge.pw_roomalgebra_k73_whole_laws_of_patterns.main.Yt.MI i (.Vz ((0),(0),(0),(0)))
instance Q0:M':="machine"
instance Q3:M':="letters"
instance Q4:M':="rooms"
instance Q5:M':="things"
instance Q6:M':="words"
instance Q7:M':="is_marked"
instance Q8:M':="walk"
instance Z0:M':="goals_of"
instance Z1:M':="ways"
instance Z2:M':="marks"
instance Z4:M':="room"
instance Bt:Nr:=Qm 19
instance El:Nr:=Qm 20
instance tM:Nr:=Qm 0
instance wK:Nr:=Qm 18
instance Hy:Nr:=Cr wK 0
structure Gr(K:Frag)(mg:Str->Option Value)(cW fI:Addr)(fdI:FuncData):Prop where
 kW:mg "Walk"<*.ref cW
 cls:Co K cW
 mkW:Mk K cW fI
 na1:Af K cW Q3
 na2:Af K cW Q5
 na3:Af K cW Q6
 na4:Af K cW Z1
 na5:Af K cW Z2
 ini:vh K "__init__" "Walk.__init__" Hy fI fdI
def qw:vw ["self",Q3,"start"] ["self",Q3,"start"] (h_ Hy):=Aa
def qY(p:Gr K mg l fI fdI):aa P w K mg ς pu 1 fI fdI ["self",Q3,"start"] (qh l):=by
 refine p.ini.ok qw (λvs H Q E h=>?_) (λQi A Fr s H vs Q E Z h=>?_)
 .obtain ⟨x,dx,L,v,ζ,_⟩:=h;rfl
 .obtain ⟨x,dx,L,v,ζ,T,q⟩:=h;refine(_,(m_ (EM (f:=Q3) (pv 0) (pv 1) ζ) (m_ (EM (f:=Q5) (pv 0) (AA (o_ (pv 2))) ζ) (m_ (EM (f:=Q6) (pv 0) (AA (o_ n')) ζ) (m_ (EM (f:=Z1) (pv 0) (AA Dd) ζ) (k_ (EM (f:=Z2) (pv 0) (AA Dd) ζ)))))),3);refine(6,x,l,dx,0,T,p.OM,p.na1,!0,3);refine(0,sT (by change 1≤16777216;decide),λt D=>(0,x,l,dx,0,Ah j_ D,p.OM,p.na2,Nk (Rb (show _=1 from ζ)) (!0),3));let c:t≠x:=λz=>by rw[z,j_]at D;cases D
  refine(sT (by change 1≤16777216;decide),λi d=>(0,x,l,dx,0,Ah j_ d,p.OM,p.na3,Nk (Rb (show _=2 from ζ)) (!0),3));let u:i≠x:=λz=>by rw[z,j_]at d;cases d
  refine(Nb _,λy r=>(0,x,l,dx,0,Ah j_ r,p.OM,p.na4,Nk (Rb (show _=3 from ζ)) (!0),3));let B:y≠x:=λz=>by rw[z,j_]at r;cases r
  refine(Nb _,λm k=>(0,x,l,dx,0,Ah j_ k,p.OM,p.na5,Nk (Rb (show _=4 from ζ)) (!0),3));let C:m≠x:=λz=>by rw[z,j_]at k;cases k
  let j:t≠i:=λz=>by rw[<-z,a_ c,j_]at d;cases d
  let ty:t≠y:=λz=>by rw[<-z,a_ c,a_ j,a_ c,j_]at r;cases r
  let M:t≠m:=λz=>by rw[<-z,a_ c,a_ ty,a_ c,a_ j,a_ c,j_]at k;cases k
  let F:i≠y:=λz=>by rw[<-z,a_ u,j_]at r;cases r
  let J:i≠m:=λz=>by rw[<-z,a_ u,a_ F,a_ u,j_]at k;cases k
  let I:y≠m:=λz=>by rw[<-z,a_ B,j_]at k;cases k
  let N:∀b,b≠x->b≠m->b≠y->b≠i->b≠t->H b=MR (MR (MR (MR (MR (MR (MR (MR (MR H x (.Uk l dx (af Q3 (.M_ (tx L)) []))) t (.M5 [v])) x (.Uk l dx (af Q5 (.π t) (af Q3 (.M_ (tx L)) [])))) i (.M5 [.M_ (tx [])])) x (.Uk l dx (af Q6 (.π i) (af Q5 (.π t) (af Q3 (.M_ (tx L)) []))))) y (.M5 [])) x (.Uk l dx (af Z1 (.π y) (af Q6 (.π i) (af Q5 (.π t) (af Q3 (.M_ (tx L)) [])))))) m (.M5 [])) x (.Uk l dx (af Z2 (.π m) (af Z1 (.π y) (af Q6 (.π i) (af Q5 (.π t) (af Q3 (.M_ (tx L)) []))))))  b:=λb h1 h2 Y X W=>by
   rw[a_ h1,a_ h2,a_ h1,a_ Y,a_ h1,a_ X,a_ h1,a_ W,a_ h1]
  let g:∀{b:υ}{o:HO},H b<*o->∀{a:υ},H a=ε->b≠a:=λ{b o}e{a}n=>e_ e n;let S:H t=ε:=by rw[a_ c]at D;show D
  let R:H i=ε:=by rw[a_ u,a_ (Ne.MO j),a_ u]at d;show d
  let O:H y=ε:=by rw[a_ B,a_ (Ne.MO F),a_ B,a_ (Ne.MO ty),a_ B]at r;show r
  let fm:H m=ε:=by rw[a_ C,a_ (Ne.MO I),a_ C,a_ (Ne.MO J),a_ C,a_ (Ne.MO M),a_ C]at k;show k
  refine q t i y m _ j ty M F J I S R O fm (λb o U e=>?_) ⟨(dx,j_)⟩ ?_ ?_ ?_ ?_
  .rw [<-e];show(N b U (g e fm) (g e O) (g e R) (g e S)).MO
  .rw [a_ c,a_ M,a_ c,a_ ty,a_ c,a_ j,a_ c,j_]
  .rw [a_ u,a_ J,a_ u,a_ F,a_ u,j_,<-dC]
  .rw [a_ B,a_ I,a_ B,j_]
  .rw [a_ C,j_]
def b_R:vw [Q3,"start",Z0,Q7,"most",Q8,Q4,Z4,"goals","row","letter","goal"] [Q3,"start",Z0,Q7,"most"] (h_ Bt):=Aa
def Ix{P:NC}{w:Ny}{K:Nl}{mg:M'->ω θ}{ς:NR}{X fI f fg fm:υ}(F:j7 K "walked" "walked" Bt f fd)(N:Gr K mg X fI fdI)(ap:mg "len"=ε)(cB:mg "zip"=ε)(Fg:aa P w K mg ς pu 4 fg fdg [gx] (He Y L g U aH))(Fm:aa P w K mg ς pu 4 fm ek [mx] (Hf Y mk U aH))(dp:ς.ψ fg<*og)(dn:∃b3,og.NH=.QY b3)(dm:ς.ψ fm<*om)(dk:∃b3,om.NH=.QY b3)(bg:Ao K fdg [gx] [])(bm:Ao K ek [mx] [])(bk:∀H H':Hp,a' H H'->aH H->aH H'):aa P w K mg ς pu 5 f fd [Q3,"start",Z0,Q7,"most"] (Hg X Y L g mk U aH fg fm):=by
 let⟨oc,od,ez,sl⟩:=og;let⟨b3,ζ⟩:=dn;let⟨eu,et,ep,es⟩:=om;let⟨eo,ζ⟩:=dk;refine F.ok b_R (λvs H Q E h=>?_) (λQi A Fr s H vs Q E hr h=>?_)
 .obtain ⟨s,sv,I,ζ,_⟩:=h;rfl
 .obtain ⟨s0,sv,I,ζ,hL,hsv,hsU,d6,hU,hR0,q⟩:=h;let dz:=hr.Pg (j:=2) (!0);refine(_,(m_ (va 5 b_R.nd (FB N.mkW (qY N) dz ζ N.kW (N.ini.V_ (ps:=["self",Q3,"start"]) (λ_ _ _ _ _ _ us hl=>by let⟨_,_,_,ζ⟩:=Jn hl;rfl)) .Op CS (q_ (pv 0) (pv 1)))) (FH (va 6 b_R.nd (um hr.PR (pv 1) b')) (m_ (cF Ov.PM (A1 jc (Dp G5 (!4) ap T6 (o_ (AD (f:=Z1) (pv 5) ζ))) (Dp G5 (!4) ap T6 (o_ (AD (f:=Q5) (pv 5) ζ))) (A' _)) (FH (u_ ((G0 (A1 gK (pv 4) Gu (A' _)) (HE (A1 Be (Dp G5 (!4) ap T6 (o_ (AD (f:=Q5) (pv 5) ζ))) (pv 4) (A' _)))).pt) (k_ (iZ)) (wh)) (m_ (va 7 b_R.nd (Dp G5 (!4) ap T6 (o_ (AD (f:=Z1) (pv 5) ζ)))) (m_ (va 8 b_R.nd (HV Fg hr dp bg (pv 2) (o_ (AB (AD (f:=Q5) (pv 5) ζ) (pv 7))))) (m_ (va 9 b_R.nd (AA Dd)) (m_ (Db Ov.PM ζ (gC ζ cB (q_ (pv 0) (pv 8))) (gE ζ (F' (Cy 10 b_R.nd) (F' (Cy 11 b_R.nd) bJ))) (FH (u_ (A1 (oO hr.PR) (pv 11) (pv 6) (by with_unfolding_all rfl)) (m_ (EK (Dp G5 (!4) ap T6 (o_ (AD (f:=Q5) (pv 5) ζ))) (EJ (pv 6) (pv 11) (ow hr.PR))) (m_ (BB (Di (AD (f:=Q5) (pv 5) ζ) (pv 11))) (k_ (BB (Di (AD (f:=Q6) (pv 5) ζ) (Ae DJ (AB (AD (f:=Q6) (pv 5) ζ) (pv 7)) (pv 10))))))) (wh)) (k_ (BB (Di (pv 9) (rz (rP hr.PR) (pv 6) (pv 11) (λ_ _=>rfl))))))) (m_ (BB (Di (AD (f:=Z1) (pv 5) ζ) (pv 9))) (k_ (BB (Di (AD (f:=Z2) (pv 5) ζ) (HV Fm hr dm bm (pv 3) (o_ (AB (AD (f:=Q5) (pv 5) ζ) (pv 7)))))))))))))) (k_ (o9 (pv 5)))))),3);let tn:∀{b:υ}{o:HO},H b<*o->∀{c:υ},H c=ε->b≠c:=λ{b o}e{c}n=>e_ e n;refine(6,λD dx cl c5 ey=>(D,dx,L,sv,1,j_,λt wd y md H1 a1 a2 a3 a4 a5 a6 ft fw fy ej kp hW ht cK hy cV=>(1,3)));let fr:∀{b:υ},MR (MR H dx (.Xf D)) D (.Uk X dx []) b=ε->H b=ε:=λ{b}e=>by
   by_cases h1:b=D
   .rw [h1];show cl
   .rw [a_ h1]at e;by_cases h2:b=dx
    .rw [h2];show c5
    .rw [a_ h2]at e;show e
  let s1:a' H H1:=λb o e=>kp b o (tn e cl) (by rw[a_ (tn e cl),a_ (tn e c5)];show e);let ab:Av Y H1 s0 sv:=hsv.OP λb xs e=>s1 _ _ e;let aA:∀(d:υ)(H2:Hp),H1 d=ε->Aq P w H2 d Y [s0]->(∀b o,H1 b<*o->H2 b<*o)->WI P w H H2 X Y L D t wd y md d [s0] [sv] [[]] [] [] []:=λd H2 hd dy s2=>by
   let ne:∀{b:υ}{o:HO},H1 b<*o->d≠b:=λ{b o}e z=>by rw[<-z,hd]at e;cases e
   let⟨J,ew⟩:=hW.ex;show(s1.ν s2,(J,s2 _ _ ew),s2 _ _ ht,(rfl,λi k v h1 h2=>by
    match i,h1,h2 with
    |0,h1,h2=>cases h1;cases h2;show ab.OP λb xs e=>s2 _ _ e
    | i+1,h1,_=>simp at h1),s2 _ _ cK,s2 _ _ hy,(1,λi a r h1=>by simp at h1),s2 _ _ cV,dy,fr ft,fr fw,fr fy,fr ej,GE s1 hd,a1,a2,a3,a4,a5,a6,ne ht,ne cK,ne hy,ne cV,ne ew,λa ha=>by simp at ha)
  refine⟨λbP H'=>∃d,bP=[δ (.M_ (tx L)),δ sv,δ (.π fg),δ (.π fm),δ (c6 I),δ (.π D),δ (.π d),ε,ε,ε,ε,ε]/\WI P w H H' X Y L D t wd y md d [s0] [sv] [[]] [] [] [],?_,?_⟩
  .refine (Y,λd hd=>(0,j_,3));let up:∀{ob cC:HO}(b:υ)(o:HO),H1 b<*o->MR (MR H1 d ob) d cC b<*o:=λ{ob cC}b o e=>by
    rw[HB];show Ah e hd
   by_cases b0:Y=.i
   .rw [b0]at ab aA⊢;unfold Av at ab;rw[Id ζ]at ab;let⟨n,ζ,ζ⟩:=ab;refine .NI (1,0,d,1,aA d _ hd ?_ up);unfold Aq;rw[Id ζ];show(j_,λt ht=>(n,Ay ht))
   .let hsv2:=ab;unfold Av at hsv2;rw[Ω b0]at hsv2;let⟨b,ζ,hb⟩:=hsv2;let hT:∀{ob:HO},(dK P w Y).Vv (MR H1 d ob) (zs s0) b:=λ{ob}=>(hb.OP λb xs e=>Ah e hd).Vv;refine .NT (b0,b,zs s0,1,hT,d,1,aA d _ hd ?_ up);unfold Aq;rw[Ω b0];refine(_,j_,λx hx=>?_,1,λi k x h1 h2=>?_)
    .rw [Ay hx,HB];show hT
    .match i,h1,h2 with
     |0,h1,h2=>cases h1;cases h2;show(1,1)
     |i+1,h1,_=>simp at h1
  rintro er H2⟨d,ζ,ee⟩;let da:∀{H':Hp}{ks:LL}{T:γ V}{ws:LL}{C:γ υ}{R:LL}{B:γ MX},WI P w H H' X Y L D t wd y md d ks T ws C R B->CY g L s0 mk U ks ws R B 0->(R.β=ks.β\/∃n,I=δ n/\n<ks.β)->Q (.π D) H':=λO hP he=>
   q D t wd y md _ _ _ _ _ _ _ O.sm O.Ua O.ht O.th O.hw O.hy O.wr O.hm hP.bf hP.ways hP.bl hP.mks hP.Rp (IO (Φ.XT _ _) hP.left) he
  refine⟨λn bP H'=>∃ks T ws C R B s7 s8 s9 aN aM,n=U.β-γ.β R/\bP=[δ (.M_ (tx L)),δ sv,δ (.π fg),δ (.π fm),δ (c6 I),δ (.π D),δ (.π d),s7,s8,s9,aN,aM]/\WI P w H H' X Y L D t wd y md d ks T ws C R B/\CY g L s0 mk U ks ws R B 0,(_,[s0],[sv],[[]],[],[],[],ε,ε,ε,ε,ε,5,ee,CY.SM hsU),?_⟩;rintro n bP H3⟨ks,T,ws,C,R,B,s7,s8,s9,aN,aM,ζ,ζ,O,hP⟩;let⟨J,ew⟩:=O.Ua.ex;let cs:(C.NL V.π).β=R.β:=by rw[ol,O.wr.1]
  let bV:T.β=ks.β:=O.th.1;let en:ks.β≤U.β:=IO (Φ.XT _ _) hP.left;refine(0,D,X,J,4,ew,N.OM,N.na4,1,y,0,.NI (o5.of O.hy),0,D,X,J,4,ew,N.OM,N.na2,1,t,0,.NI (o5.of O.ht),_,2,aQ (λag=>?_) (λag=>?_));case _=>
   rw[cs,bV]at ag;let ag:R.β<ks.β:=ML.YK.mp ag;refine⟨λaT H4=>∃ks T ws C R' B s7 s8 s9 aN aM,R'.β=R.β+1/\aT=[δ (.M_ (tx L)),δ sv,δ (.π fg),δ (.π fm),δ (c6 I),δ (.π D),δ (.π d),s7,s8,s9,aN,aM]/\WI P w H H4 X Y L D t wd y md d ks T ws C R' B/\CY g L s0 mk U ks ws R' B 0,?_,?_⟩
   .rintro aT H4⟨m,l,XN,ch,R',B',u7,u8,u9,u10,u11,hR',ds,hI',hP'⟩;show(U.β-R'.β,by rw[hR'];lia,m,l,XN,ch,R',B',u7,u8,u9,u10,u11,1,ds,hI',hP')
   obtain⟨k0,cv⟩:∃k0,ks[R.β]?<*k0:=(ks[R.β],n_ ag);obtain⟨v0,cN⟩:∃v0,T[R.β]?<*v0:=(T[R.β]'(by rw[bV];show ag),n_ _);obtain⟨a0,ed⟩:∃a0,ws[R.β]?<*a0:=(ws[R.β]'(by rw[<-hP.bf.PJ];show ag),n_ _);let a9:k0∈U:=hP.Rp k0 (AC cv);refine(λaT H4=>aT=[δ (.M_ (tx L)),δ sv,δ (.π fg),δ (.π fm),δ (c6 I),δ (.π D),δ (.π d),s7,s8,s9,aN,aM]/\H4=H3,3,3)
   .cases I with
    |ε=>show(2,D8 ζ (aj (1,1)))
    |δ M=>
     refine(2,zf (0,D,X,J,4,ew,N.OM,N.na2,1,t,0,.NI (o5.of O.ht),0,_,2,3));rw[bV];show aQ (λd0=>(0,da O hP (.NT (M,1,ML.YK.mp d0)))) (λ_=>(1,1))
   rintro aT H4⟨rfl,ζ⟩;refine(0,D,X,J,4,ew,N.OM,N.na4,1,y,0,.NI (o5.of O.hy),3);rw[cs];let eb:AN T ((R.β:Φ):ML)<*v0:=AG cN;refine(1,0,D,X,J,4,ew,N.OM,N.na2,1,0,AJ O.ht eb (k0,v0,1,O.th.2 _ _ _ cv cN,a9,bk _ _ O.sm hR0,λgs xs H5 s5 c4 cI dt=>?_));let az:=O.Qk s5;let bi:H5 gs<*.No xs\/H5 gs<*.M5 xs:=c4.Wc id λz=>z.2;let bs:∀{b:υ}{o:HO},H4 b<*o->(∀zs,o≠.No zs)->gs≠b:=λ{b o}e ho z=>by
    rcases c4 with h1|⟨h1,_⟩
    .rw [z,s5 _ _ e]at h1;cases h1;show ho _ ζ
    .rw [z,e]at h1;cases h1
   obtain⟨eq,cH⟩:∃φ,H4 d<*.ext φ:=by
    let W:=O.rm;unfold Aq at W;by_cases c:Y=.i
    .rw [Id c]at W;show(_,W.1)
    .rw [Ω c]at W;let⟨NP,e,_⟩:=W;show(_,e)
   let g1:gs≠t:=bs O.ht (by intro zs z;cases z);let g2:gs≠wd:=bs O.hw (by intro zs z;cases z);let g3:gs≠y:=bs O.hy (by intro zs z;cases z);let g4:gs≠md:=bs O.hm (by intro zs z;cases z);let g5:gs≠d:=bs cH (by intro zs z;cases z);refine(Nb _,λrw S=>?_);let r1:rw≠t:=Ne.MO (e_ az.ht S);let r2:rw≠wd:=Ne.MO (e_ az.hw S);let r3:rw≠y:=Ne.MO (e_ az.hy S);let r4:rw≠md:=Ne.MO (e_ az.hm S);let r5:rw≠d:=Ne.MO (e_ (s5 _ _ cH) S);let r6:rw∉C:=λhm=>by
    let⟨i,hi⟩:=NM.mp hm;let dV:i<R.β:=by rw[<-az.wr.1];show(q5 hi).1
    rw[az.wr.2 i rw _ hi (n_ dV)]at S;cases S
   let rg:gs≠rw:=λz=>by
    rw[<-z]at S;rcases bi with h1|h1<;>rw[S]at h1<;>cases h1
   let r0:H rw=ε:=GE az.sm S;let ei:=az.Qk (a'.MR (o:=.M5 []) S);let c3:MR H5 rw (.M5 []) gs<*.No xs\/MR H5 rw (.M5 []) gs<*.M5 xs:=by rw[a_ rg];show bi
   refine(6,tN c3 λd2 d5 tk=>?_);let a7:((tx L).TY.ND.NL λc=>V.M_ ⟨#[c]⟩).β=xs.β:=by rw[ol,Fp,cI]
   refine su (xs:=(tx L).TY.ND.NL λc=>V.M_ ⟨#[c]⟩) (ys:=xs) a7 (λq bM H6=>E6 λm l XN r bU bS=>A9 (bM=[δ (.M_ (tx L)),δ sv,δ (.π fg),δ (.π fm),δ (c6 I),δ (.π D),δ (.π d),δ (.MQ ((R.β:Φ):ML)),δ (.π gs),δ (.π rw),bU,bS]) (WI P w H H6 X Y L D t wd y md d m l XN C R B) (CY g L s0 mk U m XN R B q) (Ez g m R.β r q) (H6 rw<*.M5 (c_ r)) (H6 gs=H5 gs) (∀(j:Φ)(x:V),xs[j]?<*x->Av Y H6 (g k0 j) x) (m[R.β]?<*k0) (XN[R.β]?<*a0)) ?_ ?_ ?_ ?_
   .exact (ks,T,ws,[],aN,aM,1,ei,hP,Ez.Op,j_,a_ rg,λj x hx=>(dt j x hx).OP λb zs e=>Ah e S,cv,ed)
   .rintro q bM H6⟨m,l,XN,r,bU,bS,ζ,hI',hP',aS,hrw',hgk,b1,hk',as⟩;show(1,d5 H6 (by rw[hgk,a_ rg]))
   .rintro q cx gx' p bM H6 hc hg hp⟨m,l,XN,r,bU,bS,ζ,hI',hP',aS,hrw',hgk,b1,hk',as⟩;rw[Fp,tS]at hc;cases hcq:L[q]? with
    |ε=>rw[hcq]at hc;cases hc
    |δ c=>
    rw[hcq]at hc;cases hc;let b2:q<L.β:=(q5 hcq).1;let ea:L.MI q 0=c:=by rw[u6,hcq];rfl
    let d3:g k0 q∈U:=d6 k0 a9 q b2;let u:=hI'.Qk (a'.MR (o:=.No [.M_ ⟨#[c]⟩,gx']) hp);let cO:Av Y H6 (g k0 q) gx':=b1 q gx' hg;let aB:Av Y (MR H6 p (.No [.M_ ⟨#[c]⟩,gx'])) (g k0 q) gx':=cO.OP λb zs e=>Ah e hp;let cp:MR H6 p (.No [.M_ ⟨#[c]⟩,gx']) rw<*.M5 (c_ r):=Ah hrw' hp;let bd:MR H6 p (.No [.M_ ⟨#[c]⟩,gx']) gs=H5 gs:=by
     have:gs≠p:=λz=>by
      rw[<-z,hgk]at hp;rcases bi with h1|h1<;>rw[hp]at h1<;>cases h1
     rw[a_ this];show hgk
    let a8:∀(j:Φ)(x:V),xs[j]?<*x->Av Y (MR H6 p (.No [.M_ ⟨#[c]⟩,gx'])) (g k0 j) x:=λj x hx=>(b1 j x hx).OP λb zs e=>Ah e hp;let cU:MR H6 p (.No [.M_ ⟨#[c]⟩,gx']) p<*.No [.M_ ⟨#[c]⟩,gx']:=j_;generalize MR H6 p (.No [.M_ ⟨#[c]⟩,gx'])=H7 at u aB cp bd a8 cU;let ct:m.β≤U.β:=IO (Φ.XT _ _) hP'.left;let an:m.β≤100000:=IO ct hU;let b4:l.β=m.β:=u.th.1;refine(p,0,u0.of cU,1,4,8,3);refine⟨λcA H8=>∃ar aV aU,cA=[δ (.M_ (tx L)),δ sv,δ (.π fg),δ (.π fm),δ (c6 I),δ (.π D),δ (.π d),δ (.MQ ((R.β:Φ):ML)),δ (.π gs),δ (.π rw),δ (.M_ ⟨#[c]⟩),δ gx']/\WI P w H H8 X Y L D t wd y md d ar aV aU C R B/\CY g L s0 mk U ar aU R B (q+1)/\Ez g ar R.β r q/\
     H8 rw=δ (.M5 (c_ r))/\H8 gs=H5 gs/\(∀(j:Φ)(x:V),xs[j]?<*x->Av Y H8 (g k0 j) x)/\ar[R.β]?=δ k0/\aU[R.β]?=δ a0/\g k0 q∈ar,?_,?_⟩
    .refine (6,d,0,u.rm.VE aB,0,3);by_cases hm:g k0 q∈m
     .rw [(lK hm).1];show aj (m,l,XN,1,u,hP'.old hL.nd hk' as b2 hm,aS,cp,bd,a8,hk',as,hm)
     .rw [show Ef m (g k0 q)=ε from Ω hm];let⟨ob,cd,cS⟩:=u.rm.put aB hm (Hh an);let⟨J,cw⟩:=u.Ua.ex;let bD:MR H7 d ob D=_:=(a_ (Ne.MO u.e5)).ν cw;let cP:MR H7 d ob t=_:=(a_ (Ne.MO u.e1)).ν u.ht;let dv:MR H7 d ob wd=_:=(a_ (Ne.MO u.e2)).ν u.hw;let de:D≠t:=qN cw u.ht (!5);let dc:MR (MR H7 d ob) t (.M5 (l++[gx'])) D=_:=(a_ de).ν bD;let co:MR (MR H7 d ob) t (.M5 (l++[gx'])) wd=_:=(a_ (Ne.MO u.d1)).ν dv;let c8:AN (DX XN) ((R.β:Φ):ML)<*.M_ (tx a0):=AG (by rw[DX,tS,as];rfl);let ev:a0.β≤100000:=IO (hP'.wl a0 (AC as)) an;rw[<-b4]at cd;refine aw (0,D,X,J,4,cw,N.OM,N.na2,1,t,0,.NI (o5.of u.ht),6,d,0,cd,3);refine(0,D,X,J,4,bD,N.OM,N.na2,1,.NI (1,_,o5.of cP),0,t,8,cP,Hh (by rw[b4];show an),3);refine(0,D,X,J,4,dc,N.OM,N.na3,1,.NI (1,_,o5.of co),0,D,X,J,4,dc,N.OM,N.na3,1,0,AJ co c8 (0,8,3,wd,8,co,Hh (by rw[DX,ol,<-hP'.bf.PJ];show an),3))
      .change (tx a0).β+1≤Λ;rw[oh];show sT (!6)
      let c7:tx a0++(⟨#[c]⟩:M')=tx (a0++[c]):=by rw[<-Cs];rfl
      let cg:=u.Xw (a:=a0++[c]) aB cS;let cf:=hP'.Xw hL.nd hk' as b2 hm d3;rw[ea]at cf;let kt:∀b zs,H7 b<*.No zs->MR (MR (MR H7 d ob) t (.M5 (l++[gx']))) wd (.M5 (DX XN++[.M_ (tx (a0++[c]))])) b<*.No zs:=λb zs e=>by
       obtain⟨φ,cD⟩:∃φ,H7 d<*.ext φ:=by
        let W:=u.rm;unfold Aq at W;by_cases c:Y=.i
        .rw [Id c]at W;show(_,W.1)
        .rw [Ω c]at W;let⟨NP,e,_⟩:=W;show(_,e)
       rw[a_ (qN e u.hw (!5)),a_ (qN e u.ht (!5)),a_ (qN e cD (!5))];show e
      refine(m++[g k0 q],l++[gx'],XN++[a0++[c]],1,3,cf,aS.grow (q5 hk').1,3,3,λj x hx=>?_,bX hk',bX as,!1)
      .rw [<-c7]at cg;show cg
      .rw [a_ r2,a_ r1,a_ r5];show cp
      .rw [a_ g2,a_ g1,a_ g5];show bd
      .refine (a8 j x hx).OP λb zs e=>?_;have:=kt b zs e;rw[<-c7]at this;show this
    rintro cA H8⟨ar,aV,aU,ζ,Z,eg,b6,aC,d4,b5,c2,ec,cX⟩;let ce:=Z.rm.VE (b5 q gx' hg);rw[(lK cX).1]at ce;let dT:r.β≤100:=by rw[b6.1];show IO (Pn b2) (IO hL.hi (!0))
    refine(0,.NI (1,_,o5.of aC),6,d,0,ce,rw,8,aC,Hh (by rw[f_];show IO dT (!0)),3);refine(ar,aV,aU,r++[ar.M0 (g k0 q)],4,Z.beside aC r0 r1 r2 r3 r4 r5 r6,eg,b6.snoc c2 cX,3,3,λj x hx=>?_,c2,ec)
    .rw [j_,Jc]
    .rw [a_ rg];show d4
    .exact (b5 j x hx).OP λb zs e=>by rw[a_ (qN e aC (!5))];show e
   .rintro bM H6⟨m,l,XN,r,bU,bS,ζ,hI',hP',aS,hrw',hgk,b1,hk',as⟩;rw[a7,cI]at hP' aS;let⟨J,el⟩:=hI'.Ua.ex;let ct:m.β≤100000:=IO (IO (Φ.XT _ _) hP'.left) hU;let bo:R.β≤100000:=IO hP'.le ct;let Z:=hI'.Vt hrw' r1 r2 r3 r4 r5;let⟨dd,bD⟩:=Z.Ua.ex;obtain⟨v1,cM⟩:∃v1,l[R.β]?<*v1:=(l[R.β]'(by rw[hI'.th.1];show(q5 hk').1),n_ _);refine(0,D,X,J,4,el,N.OM,N.na4,1,.NI (1,_,o5.of hI'.hy),0,y,8,hI'.hy,Hh (by rw[ol,hI'.wr.1];show bo),3);refine(0,D,X,dd,4,bD,N.OM,N.na5,1,.NI (1,_,o5.of Z.hm),1,0,D,X,dd,4,bD,N.OM,N.na2,1,0,AJ Z.ht (AG cM) (k0,v1,1,Z.th.2 _ _ _ hk' cM,a9,bk _ _ Z.sm hR0,λH9 s9=>(md,8,(Z.Qk s9).hm,Hh (by rw[ol,hP'.bl];show bo),3)));show(m,l,XN,C++[rw],R++[r],B++[mk k0],7,_,_,by rw[w_];rfl,1,(Z.Qk s9).ZV,hP'.next hk' aS)
  case _=>
   rw[cs,bV]at ag;show(0,da O hP (.NI (Rc hP.le (OQ λz=>ag (ML.YK.Om z)))))
inductive Iy(cTM:Addr)(vs:List V)(H:Hp)(Q:VK)(_E:XK):Prop
 |mk (e wl tl:Addr) (part:V) (xs ys:List V) (_:vs=[.ref e,.ref wl,.ref tl,part]) (_:H e<*t_ e cTM none) (_:H wl<*.lst xs) (_:H tl<*.lst ys) (_:∀(H':Hp)(d l l2:Addr),(∀b o,b≠e->H b<*o->H' b<*o)->H' e<*t_ e cTM (some d)->d≠e->l≠e->l2≠e->H' d<*Bb d [(Q6,.ref l,),("tails",.ref l2,),("part",part,)]->H' l<*.lst xs->H' l2<*.lst ys->Q .non H')
instance oG:Nr:=Qm 4
instance Gs:Nr:=Cr oG 0
structure GS(K:Frag)(mg:Str->Option Value)(cTM cRE fX:Addr)(fdX:FuncData):Prop where
 kT:mg "TooMany"<*.ref cTM
 kR:mg "RoomError"<*.ref cRE
 own:BV K cTM fX
 xc:j0 K cTM
 na1:Af K cTM Q6
 na2:Af K cTM "tails"
 na3:Af K cTM "part"
 bi:tL K cRE
 fn:isFn K (.ref fX)=true
 exm:exmOne K (.ref cTM) (.ref cTM)<*true
 ec:GB K cTM
 exr:exmOne K (.ref cTM) (.ref cRE)<*true
 ini:vh K "__init__" "TooMany.__init__" Gs fX fdX
def eF:vw ["self",Q6,"tails","part"] ["self",Q6,"tails","part"] (h_ Gs):=Aa
def df:∀vs H Q E,Iy XE vs H Q E->vs.β=(["self",Q6,"tails","part"]:γ M').β:=λvs H Q E h=>by
 let⟨e,a,b,part,xs,ys,ζ,_⟩:=h;rfl
def jX{P:NC}{w:Ny}(j:GS K mg XE cRE J fdX)(g:mg "list"=ε)(Qi:θ)(A:N0)(Fr:γ WC)(s:MH)(O:Hp)(E:XK)(R:N0)(c:MX)(h:Iy XE vs H Q S):∃t,BA {aG pu P w K mg ς ["self",Q6,"tails","part"] "TooMany.__init__" (h_ Gs) J Qi A Fr s O E with A:=R,T0:=c,xe:=λ_ _=>NU} (p_ Gs) t/\t {nx:=λ_ H'=>Q .Rt H',rt:=Q} (SM ["self",Q6,"tails","part"] vs) H:=by
  let⟨e,M,F,part,xs,ys,ζ,v,hw,B,q⟩:=h;refine(_,(m_ (BB (qP j.bi j.kR (q_ (pv 0) n'))) (m_ (gw (f:=Q6) ζ (pv 0) (Eu Lh (!4) g Vn (o_ (pv 1))) ζ) (m_ (gw (f:="tails") ζ (pv 0) (Eu Lh (!4) g Vn (o_ (pv 2))) ζ) (k_ (gw (f:="part") ζ (pv 0) (pv 3) ζ))))),3);refine(0,e,XE,J,0,v,j.Xf,3);refine(0,M,xs,1,.NI (o5.of hw),λl p=>(0,e,XE,1,j.xc,j.na1,.NI (Ah v p,λd k i=>?_)));let I:l≠e:=λz=>by rw[z,v]at p;cases p
  let r:H d=ε:=by
   by_cases z:d=l
   .rw [z];show p
   .rw [a_ z]at k;show k
  let k1:∀b o,b≠e->H b<*o->L2.MR (L2.MR (L2.MR H l (.M5 xs)) e (t_ e XE (δ d))) d (Bb d [(Q6,.π l,)]) b<*o:=λb o x z=>by
   rw[a_ (e_ z r),a_ x,a_ (e_ z p)];show z
  let u:L2.MR (L2.MR (L2.MR H l (.M5 xs)) e (t_ e XE (δ d))) d (Bb d [(Q6,.π l,)]) e<*t_ e XE (δ d):=by rw[a_ (Ne.MO i),j_]
  let d1:L2.MR (L2.MR (L2.MR H l (.M5 xs)) e (t_ e XE (δ d))) d (Bb d [(Q6,.π l,)]) d<*Bb d [(Q6,.π l,)]:=j_;let L:L2.MR (L2.MR (L2.MR H l (.M5 xs)) e (t_ e XE (δ d))) d (Bb d [(Q6,.π l,)]) l<*.M5 xs:=by rw[a_ (λz=>by rw[<-z,j_]at k;cases k),a_ I,j_]
  let D:F≠e:=λz=>by rw[z,v]at B;cases B
  generalize L2.MR (L2.MR (L2.MR H l (.M5 xs)) e (t_ e XE (δ d))) d (Bb d [(Q6,.π l,)])=N at k1 u d1 L;refine(0,F,ys,1,.NI (o5.of (k1 _ _ D B)),λl2 a=>(0,e,XE,1,j.xc,j.na2,.NT (d,_,Ah u a,Ah d1 a,by change 1<1000;decide,3)));refine(6,e,XE,1,j.xc,j.na3,.NT (d,_,by rw[a_ (Ne.MO i)];show Ah u a,j_,by change 2<1000;decide,3));let n:l≠d:=λz=>by rw[<-z]at k;rw[j_]at k;cases k
  let C:N l<*.M5 xs:=L;let m:l2≠d:=λz=>by rw[z,d1]at a;cases a
  let y:l2≠e:=λz=>by rw[z,u]at a;cases a
  refine q _ d l l2 (λb o x z=>?_) ?_ i I y j_ ?_ ?_
  .let h1:b≠d:=e_ z r;let h2:b≠l2:=e_ (k1 b o x z) a;rw[a_ h1,a_ h1,a_ h2];show k1 b o x z
  .rw [a_ (Ne.MO i),a_ (Ne.MO i)];show Ah u a
  .rw [a_ n,a_ n];show Ah C a
  .rw [a_ m,a_ m,j_]
def oR(b:GS K mg XE cRE c fdX)(a:mg "list"=ε):aa P w K mg ς pu 1 c fdX ["self",Q6,"tails","part"] (Iy XE):=b.ini.ok eF df λQi A Fr s H vs Q E d h=>jX b a Qi A Fr s H E _ _ h
def lj(b:GS K mg XE cRE c fdX)(a:mg "list"=ε):Jo P w K mg ς c fdX ["self",Q6,"tails","part"] (Iy XE):=b.ini.okH eF df λQi A Fr s H vs Q E v h=>jX b a Qi A Fr s H E _ _ h
instance Em:Nr:=(p_ El).MI 0 (.Vz ((0),(0),(0),(0)))
instance En:Nr:=(p_ El).MI 1 (.Vz ((0),(0),(0),(0)))
instance q_g:M':="walked_machine.<locals>.goals_of"
instance q_m:M':="walked_machine.<locals>.is_marked"
abbrev bj(s:Nr):Sn:=match s with
 |.Vh _ _ _ _ _ _ _ _ _ p=>p
 |_=>((0),(0),(0),(0))
abbrev OL:γ (Sn×M'):=[(bj Em,q_g,),(bj En,q_m,)]
def zY:CW [Z4,Q0] [Z4] [Q0] (h_ Em):=(5,1,!3,5,!0,!3,!3)
def zX:CW [Z4,Q0] [Z4] [Q0] (h_ En):=(5,1,!3,5,!0,!3,!3)
section
variable{P:Program}{w:World}{K:Frag}{mg:Str->Option Value}{base:Heap}{f c m:Addr}{clos:List (Str×Addr)}{doc pm ctv:Value}{L:LN}{W:LL}{B:List Bool}
def Kn(y:ς.ψ f<*Ry Z0 q_g (t5 Em) (p_ Em) (h_ Em) OT Pi pm c XX)(r:ς.N7 (.π c) q_g)(C:A2 ς OT (h_ Em) [Q0] [.π m])(t:g_ L W B):aa P w K mg ς pu 1 f (Δ.W.fnX Z0 q_g (t5 Em) (p_ Em) (h_ Em) OT .ε .ε Pi pm ε (.π c) XX) [Z4] (He .i L (gW W) (uW W) λH=>DB H m L W B):=by
 refine Gi (UU:=[.π m]) y ζ r zY C (λvs H Q E h=>?_) (λA Fr s H vs Q E T h=>?_)
 .obtain ⟨k,v,ζ,_⟩:=h;rfl
 .obtain ⟨k,v,ζ,o,F,I,q⟩:=h;refine(_,(k_ (o9 (GK (Ad 1) (pv 0)))),3);let⟨n,ζ,D⟩:=kg F;unfold Av at o;rw[Id ζ]at o;let⟨S,e,ζ⟩:=o;injection e with e;subst e;let⟨R,mk,a,h1,h2,U,M,J⟩:=I;obtain⟨g,d⟩:∃g,a[n]?<*g:=(a[n]'(by rw[M];show D),n_ _);let⟨ws,u,O⟩:=J _ _ d;let l:=t.Vt ws (AC u);refine(z8 h1 aJ (0,Fa h2 (D_ V.π d) ?_));refine q g (c_ ws) H (a'.Th H) (.NI O) (by rw[f_];show l.1) λj x b=>?_;unfold Av;rw[Id ζ];rw[c_,tS]at b;cases p:ws[j]? with
  |ε=>rw[p]at b;cases b
  |δ z=>
   rw[p]at b;cases b;refine(z,3,1);show[(W.MI n []).MI j 0]=[z];let N:W.MI n []=ws:=by
    rw[u6,u];rfl
   rw[N,u6,p];rfl
def Ko(j:ς.ψ f<*Ry Q7 q_m (t5 En) (p_ En) (h_ En) OT Pi pm c XX)(b:ς.N7 (.π c) q_m)(C:A2 ς OT (h_ En) [Q0] [.π m])(d:g_ L W B):aa P w K mg ς pu 1 f (Δ.W.fnX Q7 q_m (t5 En) (p_ En) (h_ En) OT .ε .ε Pi pm ε (.π c) XX) [Z4] (Hf .i (mkW B) (uW W) λH=>DB H m L W B):=by
 refine Gi (UU:=[.π m]) j ζ b zX C (λvs H Q E h=>?_) (λA Fr s H vs Q E y h=>?_)
 .obtain ⟨k,v,ζ,_⟩:=h;rfl
 .obtain ⟨k,v,ζ,a,o,p,q⟩:=h;refine(_,(k_ (o9 (rz xA (Ad 1) (pv 0) (λ_ _=>rfl)))),3);let⟨n,ζ,l⟩:=kg o;unfold Av at a;rw[Id ζ]at a;let⟨x,e,ζ⟩:=a;injection e with e;subst e;let⟨u,mk,g,h1,h2,t,D,z⟩:=p;let r:B[n]?<*B.MI n η:=by
   rw[u6,n_ (by rw[d.bl];show l)];rfl
  show(z8 h1 dH (0,mk,_,8,t,D_ V.bl r,q H (a'.Th H)))
end
def b_E:vw [Q0,Z0,Q7] [Q0] (h_ El):=Aa
def Iz{kV Pi pm Qi ct e:θ}(lD:K.ρ g<*(e,i,.Sx #[.ε] l,h)):Ao K (Ps "walked" "walked" (t5 Bt) (p_ Bt) (h_ Bt) (.π g) kV Pi pm an Qi ct) [Q3,"start",Z0,Q7,"most"] [.ε]:=λs us k j=>by
 let f:us.β=4:=by simpa using j
 let⟨a,b,c,d,ζ⟩:=Kc f;show X5.of_defaults ζ (k _ _ lD) ζ ζ ζ
def ie(Wd:GH X U j H d)(Rp:∀y a,b.ρ y<*a->X.KK.Rj.ρ y<*a)(Tn:∀y∈sc.MP,y.2=.N4->∃a,b.ρ y.1<*a)(o:X.N[0]?<*Q0)(e:j[0]?<*δ (.π m))(n:X.KK.NE.MP.ρ Q0<*.N8)(l:sc.MP.ρ Q0<*.N4)(k:((Q0:M'),QA.N4,)∈sc.MP):A2 d b sc [Q0] [.π m]:=by
 refine(λy z c h1 h2=>Wd.QG y z c (Rp y c h1) (Rp z c h2),Tn,λy c h=>Wd.N8 y c (Rp y c h),1,λi y v h1 h2=>?_);match i,h1,h2 with
 |0,h1,h2=>
  cases h1;cases h2;let⟨a,f⟩:=Tn _ k ζ;let⟨c,u,r,q,p⟩:=Wd.Zu 0 Q0 (.π m) o e n;let g:=Rp _ _ f;rw[r]at g;cases g;show(l,_,u,f,q,p)
 |i+1,h1,_=>simp at h1
set_option maxHeartbeats 8000000 in
def qX{P:NC}{w:Ny}{oc kV Pi pm ct aA S l O d X a6:θ}(lk:K.ρ f<*(oc,od,.QY (Ps "walked_machine" "walked_machine" (t5 El) (p_ El) (h_ El) .ε kV Pi pm an (.π c) ct),ce))(bk:O8 K (.π c) "walked_machine"=ξ)(lw:K.ρ fw<*(aA,a5,.QY (Ps "walked" "walked" (t5 Bt) (p_ Bt) (h_ Bt) (.π tD) S l O an2 d X),Z7))(cw:O8 K d "walked"=ξ)(kw:UO K (.π fw)=ξ)(mw:mg "walked"<*.π fw)(lD:K.ρ tD<*(a6,cf,.Sx #[.ε] nD,b4))(WT:Gr K mg cW fI fdI)(ap:mg "len"=ε)(ag:mg "zip"=ε)(hC:QD ς c P0)(hB:Dy ς mg):aa P w K mg ς pu 6 f (Ps "walked_machine" "walked_machine" (t5 El) (p_ El) (h_ El) .ε kV Pi pm an (.π c) ct) [Q0] (Jm cW P0 OL):=by
 refine ny lk bk b_E (λvs H Q E h=>?_) (λA Fr s H vs Q E hr h=>?_)
 .obtain ⟨m,L,W,B,ζ,_⟩:=h;rfl
 .obtain ⟨m,L,W,B,ζ,hM,g,hT,q⟩:=h;refine(_,(m_ (FM (i:=1) (M4:=q_g) (c:=c) (P0:=P0) (OL:=OL) b_E.nd ζ (Or.NI ζ) ζ hC hB (!3) (!3)) (m_ (FM (i:=2) (M4:=q_m) (c:=c) (P0:=P0) (OL:=OL) b_E.nd ζ (Or.NI ζ) ζ hC hB (!3) (!3)) (k_ (o9 (HX (XW:=[.Rt]) ζ mw kw (Iz (kV:=S) (Pi:=l) (pm:=O) (an:=an2) (Qi:=d) (ct:=X) lD) (.NX ζ .Op) (Bp (Ad 0) (wm b' (pv 1) (pv 2))) (λ_=>rfl)))))),3);refine(hT,λZ k c1 H1 as aS cp ch s1 aU aM aC=>(aU,λY v D C ar aN co cg s2 bs aH bi=>?_));let az:Cu P0 H C:=HY s1 s2;let aV:DB C m L W B:=hM.ofT (Ch.Z8 az hT);let⟨b5,bM,_⟩:=id aU;let⟨a4,bD,bd,T⟩:=id bs;let nP:∀{b:υ}{φ:NR->Prop},H1 b<*.ext φ->b≠P0:=λ{b φ}e z=>by rw[z,bM]at e;cases e
  let I:C k<*Aj k Z0 q_g (t5 Em) (p_ Em) (h_ Em) Z c1:=s2 k _ (nP aC) aC;let J:C c1<*pd c1 q_g:=s2 c1 _ (nP aM) aM;let F:C v<*Aj v Q7 q_m (t5 En) (p_ En) (h_ En) Y D:=bi;let bP:=aV;let⟨wy,mk,bV,h1,h2,h3,h4,h5⟩:=aV;let aT:∀u∈[k,v,c1,D],∃φ,C u<*.ext φ:=λu hu=>by
   simp only[MN,NW,N9]at hu;rcases hu with ζ|rfl|rfl|rfl
   .exact (_,I)
   .exact (_,F)
   .exact (_,J)
   .exact (_,aH)
  refine(z8 h1 aL (6,[k,v,c1,D],aT,λp Wd=>?_));let⟨b1,cd,b3,a1⟩:=Wd.XA k _ (!1) I;let⟨b0,b6,b2,a0⟩:=Wd.XA v _ (!1) F;let bU:p.N7 (.π c1) q_g:=Wd.XA c1 _ (!1) J;let bS:p.N7 (.π D) q_m:=Wd.XA D _ (!1) aH;let C1:=ie (sc:=h_ Em) (m:=m) Wd as aS ζ ζ ζ ζ (!3);let C2:=ie (sc:=h_ En) (m:=m) Wd ar aN ζ ζ ζ ζ (!3);let Fw:j7 K "walked" "walked" Bt fw _:=((aA,a5,.π tD,S,l,O,an2,d,X,Z7,1,lw,cw),kw);refine((5),Hg cW .i L (gW W) (mkW B) (uW W) (λH=>DB H m L W B) k v,hr,Ix Fw WT ap ag ((Kn a1 bU C1 g).Pg (!0)) ((Ko a0 bS C2 g).Pg (!0)) a1 (_,ζ) a0 (_,ζ) (.P' λus hl=>by let⟨_,ζ⟩:=D0 hl;rfl) (.P' λus hl=>by let⟨_,ζ⟩:=D0 hl;rfl) (λ_ _ s h=>h.OP s),3);let j:∀{b:υ}{o:HO},C b<*o->(∀φ,o≠.ext φ)->b∉[k,v,c1,D]:=λ{b o}e ho M=>by
   let⟨φ,e2⟩:=aT b M;rw[e]at e2;show ho φ (ω.δ.QG e2)
  let cl:=g.n60;refine([0],.MQ 0,ε,1,g.lt,3,p6.Om g.n1,xT g,by rw[p7];omega,bP.P_ (λb xs e=>by rw[BH (j e (λ_ z=>nomatch z))];show e) (λb xs e=>by rw[BH (j e (λ_ z=>nomatch z))];show e),λwk t wd y md ks a2 ws N R Bm H3 a3 hW ht a9 a8 hy aB bg bf ab bl a7 Rp le he bo=>?_)
  .unfold Av;rw[Id ζ];show((0),5)
  let hR:R.β=ks.β:=by
   rcases he with z|⟨n,z,_⟩
   .exact z
   .cases z
  let TF:∀{b:υ}{o:HO},H3 b<*o->T9 [k,v,c1,D] C H3 b<*o:=λ{b o}e=>by
   rw[Ee λM=>?_]
   .exact e
   .rw [bo b M]at e;cases e
  let U:∀{b:υ}{o:HO},C b<*o->T9 [k,v,c1,D] C H3 b<*o:=λ{b o}e=>by
   by_cases M:b∈[k,v,c1,D]
   .rw [GG M];show e
   .exact TF (a3 b o (by rw[BH M];show e))
  rw[hR]at bf;let⟨dx,ew⟩:=hW.ex;show q wk t wd y md ks a2 ws N R Bm _ (λb o M e=>U (az b o M e)) (a4,U bD,bd,λx hx=>(T x hx).Wc id λbm=>by let⟨c',e1,e2⟩:=bm;show(c',e1,U e2)) (dx,TF ew) (TF ht) (a9.OP λb xs e=>TF e) (TF a8) (TF hy) (aB.1,λi a r e1 e2=>TF (aB.2 i a r e1 e2)) (TF bg) bf ab hR bl a7 Rp (by rw[p7]at le;show le)
instance Kq:Nr:=Qm 12
instance Kr:Nr:=Qm 13
instance Ks:Nr:=Qm 11
instance Kt:Nr:=Qm 14
instance Ku:Nr:=Qm 15
instance cn:Nr:=Qm 16
instance Kv:Nr:=Qm 40
instance kN:Nr:=Qm 39
instance Kw:Nr:=Qm 9
instance gv:Nr:=Qm 22
instance Kx:Nr:=Qm 24
instance ck:Nr:=Qm 37
instance Ky:Nr:=Qm 38
instance Kz:Nr:=Qm 25
instance KA:Nr:=Qm 32
instance ci:Nr:=Qm 35
instance KB:Nr:=Qm 44
instance KC:Nr:=Qm 43
instance cm:Nr:=Qm 45
instance KD:Nr:=Qm 42
instance KE:Nr:=Qm 7
instance KF:Nr:=Qm 8
instance KG:Nr:=Qm 71
instance KH:Nr:=Qm 70
instance KI:Nr:=Qm 69
instance KJ:Nr:=Qm 77
instance KL:Nr:=Qm 78
instance cj:Nr:=Qm 76
instance qz:Nr:=Qm 75
instance KM:Nr:=Qm 74
instance KN:Nr:=Qm 73
instance kO:Nr:=Qm 68
instance KO:Nr:=Qm 80
instance KP:Nr:=Qm 81
instance KQ:Nr:=Qm 88
instance KR:Nr:=Qm 89
instance KU:Nr:=Qm 82
instance KW:Nr:=Qm 83
instance KY:Nr:=Qm 84
instance KZ:Nr:=Qm 85
instance K3:Nr:=Qm 86
instance K4:Nr:=Qm 87
instance Bo:Nr:=Qm 90
instance lP:Nr:=Cr (Qm 56) 0
instance lQ:Nr:=Cr (Qm 58) 0
instance dl:Nr:=Cr (Qm 63) 0
instance ni:Nr:=Cr (Qm 54) 0
instance nj:Nr:=Cr (Qm 55) 0
instance fj:Nr:=Cr (Qm 57) 0
instance sj:Nr:=Cr (Qm 56) 1
instance fi:Nr:=Cr (Qm 64) 0
instance jv:Nr:=Cr (Qm 65) 0
instance nn:Nr:=Cr (Qm 66) 0
instance jw:Nr:=Cr (Qm 59) 0
instance sk:Nr:=Cr (Qm 60) 0
instance sq:Nr:=Cr (Qm 61) 0
instance si:Nr:=Cr (Qm 62) 0
instance lR:Nr:=Cr (Qm 72) 0
instance MG:Nr:=Cr (Qm 53) 1
structure Txt(K:Frag)(mg:Str->Option Value)(cA_ cG_ cH_:Addr):Prop where
 kA_:mg "RoomError"<*.ref cA_
 kG_:mg "OtherLetters"<*.ref cG_
 kH_:mg "TooMany"<*.ref cH_
 oG_:Dt K cG_
 eG_:GB K cG_
 mG_:exmOne K (.ref cG_) (.ref cA_)<*true
 iGG_:kitOne K (.ref cG_) (.ref cG_)<*true
 iGH_:kitOne K (.ref cG_) (.ref cH_)<*false
 vG_:kitOne K (.ref cG_) (.type "ValueError")<*true
 eH_:GB K cH_
 mH_:exmOne K (.ref cH_) (.ref cA_)<*true
 iHG_:kitOne K (.ref cH_) (.ref cG_)<*false
 iHH_:kitOne K (.ref cH_) (.ref cH_)<*true
 vH_:kitOne K (.ref cH_) (.type "ValueError")<*true
 len:mg "len"=none
 range:mg "range"=none
 isinst:mg "isinstance"=none
 int:mg "int"=none
 bool:mg "bool"=none
 tuple:mg "tuple"=none
 list:mg "list"=none
 str:mg "str"=none
 zip:mg "zip"=none
 enumerate:mg "enumerate"=none
 reversed:mg "reversed"=none
 max:mg "max"=none
 all:mg "all"=none
 any:mg "any"=none
 set:mg "set"=none
 sorted:mg "sorted"=none
 enum:mg "enumerate"=none
 most:∃t,mg "MOST_ROOMS"<*.int 8 t
inductive sp_numbered(vs:List V)(H:Hp)(Q:VK)(_E:XK):Prop
 |mk (a:Addr) (o:HO) (xs:List V) (ks:List KS) (nest:Bool) (_:vs=[.ref a]) (_:(o=.lst xs\/o=.tup xs)) (_:H a<*o) (_:xs.length=ks.length) (_:ks.length≤2100) (_:(∀(i:Nat)(k:KS)(x:V),ks[i]?<*k->xs[i]?<*x->j6 H k x/\IV k=nest)) (_:∀p H',a' H H'->H' p<*.lst (c_ (ay ks))->Q (.ref p) H')
inductive sp_manyM(vs:List V)(H:Hp)(Q:VK)(_E:XK):Prop
 |mk (a:Addr) (ns:LN) (_:vs=[.ref a]) (_:H a<*.lst (c_ ns)) (_:0<ns.length) (_:∀M∈ns,(∀x∈ns,x≤M)->Q (.int ((M:Int)+1)) H)
inductive sp_roundsG(vs:List V)(H:Hp)(Q:VK)(_E:XK):Prop
 |mk (wy mk:Addr) (rows:List Addr) (o om:HO) (L:LN) (W:LL) (B:List Bool) (most:Nat) (_:vs=[.ref wy,.ref mk,.int (most:Int)]) (_:(o=.lst (rows.map V.ref)\/o=.tup (rows.map V.ref))) (_:H wy<*o) (_:(om=.lst (B.map V.bl)\/om=.tup (B.map V.bl))) (_:H mk<*om) (_:rows.length=W.length) (_:vS H rows W) (_:g_ L W B) (_:∀(p:Addr)(lots:List Addr)(k:Nat)(H':Hp),a' H H'->H' p<*.lst (lots.map V.ref)->lots.length=k+1->GC H' lots W B->(Rd W B (k+1)=Rd W B k\/∃M∈Rd W B k,most<M+1)->k≤4410000->Q (.ref p) H')
inductive sp_firstrooms(vs:List V)(H:Hp)(Q:VK)(_E:XK):Prop
 |mk (a:Addr) (ns:LN) (_:vs=[.ref a]) (_:H a<*.lst (c_ ns)) (_:0<ns.length) (_:ns.length≤2100) (_:(∀x∈ns,x<2100)) (_:(∀(M j:Nat),M∈ns->j≤M->j∈ns)) (_:∀(m:Nat)(p:Addr)(H':Hp),bb ns m->a' H H'->H p=none->H' p<*.lst (c_ ((List.range m).map λj=>ns.idxOf j))->Q (.ref p) H')
inductive sp_pwordL(vs:List V)(H:Hp)(Q:VK)(_E:XK):Prop
 |mk (wy p:Addr) (rows lots:List Addr) (L:LN) (W:LL) (B:List Bool) (k r s:Nat) (_:vs=[.str (tx L),.ref wy,.ref p,.int (r:Int),.int (s:Int)]) (_:H wy<*.lst (rows.map V.ref)) (_:DA H rows W) (_:g_ L W B) (_:H p<*.lst (lots.map V.ref)) (_:lots.length=k+1) (_:GC H lots W B) (_:r_ W B k r≠r_ W B k s) (_:k≤4410000) (_:r<W.length) (_:s<W.length) (_:∀w H',a' H H'->Q (.str (tx w)) H')
structure IA(K:Frag)(cW:Addr):Prop where
 cls:Co K cW
 na1:Af K cW Q3
 na4:Af K cW Z1
 na5:Af K cW Z2
inductive K5(cW:Addr)(vs:List V)(H:Hp)(Q:VK)(_E:XK):Prop
 |mk (wk t wd y md lo:Addr) (rows:List Addr) (L:LN) (R:LL) (Bm:List Bool) (k:Nat) (_:vs=[.ref wk,.ref lo]) (_:Gk H cW wk L t wd y md) (_:H y<*.lst (rows.map V.ref)) (_:DA H rows R) (_:H md<*.lst (Bm.map V.bl)) (_:g_ L R Bm) (_:H lo<*.lst (c_ (Rd R Bm k))) (_:∀(m:Nat)(f:Addr)(H':Hp),bb (Rd R Bm k) m->a' H H'->H f=none->zl H' f L (AM R (Rd R Bm k) m) (Dh Bm (Rd R Bm k) m)->Q (.ref f) H')
inductive iJ(cW:Addr)(vs:List V)(H:Hp)(Q:VK)(_E:XK):Prop
 |mk (wk t wd y md p rm:Addr) (rows lots:List Addr) (L:LN) (R:LL) (Bm:List Bool) (k:Nat) (rs:LN) (_:vs=[.ref wk,.ref p,.ref rm]) (_:Gk H cW wk L t wd y md) (_:H y<*.lst (rows.map V.ref)) (_:DA H rows R) (_:g_ L R Bm) (_:H p<*.lst (lots.map V.ref)) (_:lots.length=k+1) (_:GC H lots R Bm) (_:k≤4410000) (_:H rm<*.lst (c_ rs)) (_:rs.length≤9) (_:(∀r∈rs,r<R.length)) (_:(∀(i j a b:Nat),i<j->rs[i]?<*a->rs[j]?<*b->r_ R Bm k a≠r_ R Bm k b)) (_:∀tl xs H',a' H H'->H' tl<*.lst xs->Q (.ref tl) H')
inductive GT(cW cH_:Addr)(vs:List V)(H:Hp)(Q:VK)(E:XK):Prop
 |mk (wk t wd y md:Addr) (rows:List Addr) (L:LN) (R:LL) (Bm:List Bool) (ws:LL) (_:vs=[.ref wk]) (_:Gk H cW wk L t wd y md) (_:H y<*.lst (rows.map V.ref)) (_:DA H rows R) (_:H md<*.lst (Bm.map V.bl)) (_:H wd<*.lst (DX ws)) (_:ws.length=R.length) (_:g_ L R Bm) (_:(∀d H',a' H H'->P8 H' d->E (.ref cH_) (some d) H')) (_:∀(m k:Nat)(f:Addr)(H':Hp),bb (Rd R Bm k) m->Rd R Bm (k+1)=Rd R Bm k->m≤8->a' H H'->H f=none->zl H' f L (AM R (Rd R Bm k) m) (Dh Bm (Rd R Bm k) m)->Q (.ref f) H')
inductive Jr(cOL:Addr)(vs:List V)(H:Hp)(Q:VK)(E:XK):Prop
 |mk (m m2:Addr) (L L':LN) (W:LL) (B:List Bool) (W2:LL) (B2:List Bool) (_:vs=[.ref m,.ref m2]) (_:zl H m L W B) (_:g_ L W B) (_:zl H m2 L' W2 B2) (_:g_ L' W2 B2) (_:(L≠L'->E (.ref cOL) none H)) (_:(L=L'->Q .non H))
inductive IB(P0:Addr)(sites:List (Pos×Str))(vs:List V)(H:Hp)(Q:VK)(_E:XK):Prop
 |mk (m:Addr) (L:LN) (W:LL) (B:List Bool) (_:vs=[.ref m]) (_:zl H m L W B) (_:g_ L W B) (_:A_ H P0 sites) (_:∀(f:Addr)(W':LL)(B':List Bool)(H':Hp),Cu P0 H H'->A_ H' P0 sites->zl H' f L W' B'->Eg L W B W' B'->Q (.ref f) H')
inductive eh(ts:List (Addr×List (Pos×Str)))(vs:List V)(H:Hp)(Q:VK)(_E:XK):Prop
 |mk (L S:LN) (we:Bool) (_:vs=[.str (tx L),.bl we,.str (tx S)]) (_:CH L) (_:bF ts H) (_:∀(f:Addr)(W:LL)(B:List Bool)(H':Hp),KT ts H H'->Mc H' f L W B->(∃v,BI L W B v)->Lg L W B=C6 L we S->Q (.ref f) H')
inductive eD(ts:List (Addr×List (Pos×Str)))(vs:List V)(H:Hp)(Q:VK)(_E:XK):Prop
 |mk (L:LN) (t:Pt) (v:V) (_:vs=[.str (tx L),v]) (_:ah H t v) (_:((∃k,t=.leaf k)\/∃c,t=.sign c)) (_:CH L) (_:bF ts H) (_:∀(f:Addr)(W:LL)(B:List Bool)(H':Hp),KT ts H H'->Mc H' f L W B->(∃v,BI L W B v)->Lg L W B=bE L t->Q (.ref f) H')
inductive K6(cH_:Addr)(ts:List (Addr×List (Pos×Str)))(vs:List V)(H:Hp)(Q:VK)(E:XK):Prop
 | mk (p:Addr) (L:LN) (_:bF ts H) (_:(∀d H',KT ts H H'->P8 H' d->E (.ref cH_) (some d) H')) (_:((∃(k:K1)(m:Addr)(W:LL)(B:List Bool),vs=[.str (GN k),.ref p]/\H p=some (.lst [.ref m])/\Mc H m L W B/\(∀(f:Addr)(W':LL)(B':List Bool)(H':Hp),KT ts H H'->Mc H' f L W' B'->(∃v,BI L W' B' v)->Lg L W' B'=LS L k (Lg L W B)->Q (.ref f) H')) \/
  ∃(k:K2)(m m2:Addr)(W W2:LL)(B B2:List Bool),vs=[.str (Dj k),.ref p]/\H p=some (.lst [.ref m,.ref m2])/\Mc H m L W B/\Mc H m2 L W2 B2/\∀(f:Addr)(W':LL)(B':List Bool)(H':Hp),KT ts H H'->Mc H' f L W' B'->(∃v,BI L W' B' v)->Lg L W' B'=LU k (Lg L W B) (Lg L W2 B2)->Q (.ref f) H'))
inductive Hz(cH_:Addr)(ts:List (Addr×List (Pos×Str)))(n:Nat)(vs:List V)(H:Hp)(Q:VK)(E:XK):Prop
 |mk (L:LN) (t:Pt) (v:V) (_:vs=[.str (tx L),v]) (_:ah H t v) (_:t.dep≤n) (_:CH L) (_:bF ts H) (_:(∀H',KT ts H H'->E (.ref cH_) none H')) (_:∀(f:Addr)(W:LL)(B:List Bool)(H':Hp),KT ts H H'->Mc H' f L W B->(∃v,BI L W B v)->Lg L W B=bE L t->Q (.ref f) H')
inductive sp_isletters(vs:List V)(H:Hp)(Q:VK)(_E:XK):Prop
 |mk (L:LN) (_:vs=[.str (tx L)]) (_:CH L) (_:Q (.bl true) H)
inductive sp_needletters(vs:List V)(H:Hp)(Q:VK)(_E:XK):Prop
 |mk (L:LN) (_:vs=[.str (tx L)]) (_:CH L) (_:Q .non H)
inductive sp_iswanting(vs:List V)(H:Hp)(Q:VK)(_E:XK):Prop
 |mk (ch:Nat) (_:vs=[.str (tx [ch])]) (_:Q (.bl (B6 ch)) H)
inductive sp_canstand(vs:List V)(H:Hp)(Q:VK)(_E:XK):Prop
 |mk (L:LN) (ch:Nat) (w:Bool) (dd:Nat) (_:vs=[.str (tx L),.str (tx [ch]),.bl w,.int (dd:Int)]) (_:Q (.bl (Ac L ch w dd)) H)
inductive sp_needpattern(vs:List V)(H:Hp)(Q:VK)(_E:XK):Prop
 |mk (L w:LN) (_:vs=[.str (tx L),.str (tx w)]) (_:j5 L) (_:scan L 0 true w<*(0,false,)) (_:∀H',a' H H'->Q .non H')
inductive iK(c:Kd->Addr)(vs:List V)(H:Hp)(Q:VK)(_E:XK):Prop
 |mk (t:Pt) (_:vs=[tv (.piece t)]) (_:(Tk.piece t).ok) (_:∀v H',a' H H'->BF c H' t v->Q v H')
inductive eE(c:Kd->Addr)(vs:List V)(H:Hp)(Q:VK)(_E:XK):Prop
 |mk (k:K2) (u w':V) (x y:Pt) (_:vs=[.str (Dj k),u,w']) (_:BF c H x u) (_:BF c H y w') (_:∀v H',a' H H'->BF c H' (.two k x y) v->Q v H')
inductive em(c:Kd->Addr)(cD:Addr)(vs:List V)(H:Hp)(Q:VK)(_E:XK):Prop
 |mk (d dx pa wa:Addr) (us:List V) (ps:List Pt) (ws:List Wt) (n:Nat) (ps':List Pt) (ws':List Wt) (_:vs=[.ref d,.int (n:Int)]) (_:Bn c cD H d dx pa wa us ps ws) (_:1≤n) (_:BO n ps ws<*(ps',ws',)) (_:ps.length≤900) (_:∀us' H',Bq pa wa H H'->Bn c cD H' d dx pa wa us' ps' ws'->Q .non H')
inductive qi(c:Kd->Addr)(cD:Addr)(vs:List V)(H:Hp)(Q:VK)(_E:XK):Prop
 |mk (d dx pa wa:Addr) (us:List V) (ps:List Pt) (ws:List Wt) (tk:Tk) (ps':List Pt) (ws':List Wt) (_:vs=[.ref d,tv tk]) (_:Bn c cD H d dx pa wa us ps ws) (_:tk.ok) (_:cz ps ws tk<*(ps',ws',)) (_:ps.length≤900) (_:ws.length≤900) (_:∀us' H',Bq pa wa H H'->Bn c cD H' d dx pa wa us' ps' ws'->Q .non H')
inductive sp_tokens(vs:List V)(H:Hp)(Q:VK)(_E:XK):Prop
 |mk (w:LN) (_:vs=[.str (tx w)]) (_:(∀ch∈w,mz ch)) (_:w.length≤400) (_:∀p H',H p=none->a' H H'->H' p<*.lst ((toks true w).map tv)->Q (.ref p) H')
inductive LV(c:Kd->Addr)(vs:List V)(H:Hp)(Q:VK)(_E:XK):Prop
 |mk (tw:LN) (t:Pt) (_:vs=[.str (tx tw)]) (_:(∀ch∈tw,mz ch)) (_:tw.length≤300) (_:Bz (toks true (40::(tw++[41]))) ([],[],)<*([t],[],)) (_:∀v H',a' H H'->BF c H' t v->Q v H')
inductive mO(c:Kd->Addr)(vs:List V)(H:Hp)(Q:VK)(_E:XK):Prop
 |mk (L tw:LN) (t:Pt) (l:Nat) (_:vs=[.str (tx L),.str (tx tw)]) (_:CH L) (_:j5 L) (_:G L l t tw) (_:tw.length≤300) (_:∀v H',a' H H'->BF c H' t v->Q v H')
inductive mP(K:Frag)(vs:List V)(H:Hp)(Q:VK)(_E:XK):Prop
 |mk (a:Addr) (ns:List Int) (k:Int) (_:vs=[.ref a,.int k]) (_:o5 K H a (ns.map V.int)) (_:0≤k) (_:∀z,Q (.int z) H)
inductive sp_letters(vs:List V)(H:Hp)(Q:VK)(_E:XK):Prop
 |mk (c:Int) (_:vs=[.int c]) (_:∀L,CH L->Q (.str (tx L)) H)
inductive Js(lo hi:Nat)(vs:List V)(H:Hp)(Q:VK)(_E:XK):Prop
 |mk (k:Nat) (vx vy vz:V) (x y z:Pt) (_:vs=[.int (k:Int),vx,vy,vz]) (_:lo≤k) (_:k<hi) (_:ah H x vx) (_:ah H y vy) (_:ah H z vz) (_:∀p u w H',a' H H'->H' p<*.lst [u,w]->ah H' (CJ x y z k).1 u->ah H' (CJ x y z k).2 w->Q (.ref p) H')
inductive sp_pushed(vs:List V)(H:Hp)(Q:VK)(_E:XK):Prop
 |mk (p:Addr) (xs:List V) (pts:List Pt) (z:Int) (L:LN) (_:vs=[.ref p,.int z,.str (tx L)]) (_:CH L) (_:H p<*.lst xs) (_:BJ (ah H) xs pts) (_:xs.length≤100) (_:(∀t∈pts,t.over L)) (_:∀(p':Addr)(xs':List V)(pts':List Pt)(H':Hp),a' H H'->H' p'<*.lst xs'->BJ (ah H') xs' pts'->(∀t∈pts',t.over L)->aZ pts'≤aZ pts+1->aY pts'≤aY pts+1->xs'.length≤xs.length+1->Q (.ref p') H')
inductive LW(K:Frag)(vs:List V)(H:Hp)(Q:VK)(_E:XK):Prop
 |mk (a:Addr) (ns:List Int) (L:LN) (_:vs=[.ref a,.str (tx L)]) (_:CH L) (_:o5 K H a (ns.map V.int)) (_:ns.length≤4) (_:∀(v:V)(t:Pt)(H':Hp),a' H H'->ah H' t v->t.over L->t.dep≤5->t.sz≤9->Q v H')
inductive IC(n:Nat)(vs:List V)(H:Hp)(Q:VK)(_E:XK):Prop
 |mk (L:LN) (t:Pt) (v:V) (_:vs=[v]) (_:ah H t v) (_:t.dep≤n) (_:t.over L) (_:t.sz≤60) (_:∀(tw:LN)(H':Hp),a' H H'->G L 4 t tw->tw.length≤4*t.sz->Q (.str (tx tw)) H')
inductive sp_ismach(vs:List V)(H:Hp)(Q:VK)(_E:XK):Prop
 |mk (m:Addr) (L:LN) (W:LL) (B:List Bool) (_:vs=[.ref m,.str (tx L)]) (_:zl H m L W B) (_:g_ L W B) (_:∀H',a' H H'->Q (.bl true) H')
inductive ID(d:Nat)(vs:List V)(H:Hp)(Q:VK)(_E:XK):Prop
 |mk (x y:_) (_:vs=[x,y]) (_:ip H d x y) (_:Q (.bl true) H)
inductive iL(ts:List (Addr×List (Pos×Str)))(vs:List V)(H:Hp)(Q:VK)(_E:XK):Prop
 |mk (L tw:LN) (t:Pt) (l:Nat) (_:vs=[.str (tx L),.str (tx tw)]) (_:CH L) (_:G L l t tw) (_:tw.length≤300) (_:t.dep≤12) (_:bF ts H) (_:(∀H',KT ts H H'->Q .non H')) (_:∀(f:Addr)(W:LL)(B:List Bool)(H':Hp),KT ts H H'->Mc H' f L W B->(∃v,BI L W B v)->Lg L W B=bE L t->Q (.ref f) H')
section
variable{P:Program}{w:World}{K:Frag}{mg:Str->Option Value}{base:Heap}{P0 PT cW:Addr}{ts:List (Addr×List (Pos×Str))}{tabs:List (Addr×Addr)}{cA_ cG_ cH_:Addr}{c:Kd->Addr}{cP:Addr}{cD d1 d2 d3:Addr}
def qt:vw ["self","sign"] ["self","sign"] (h_ lP):=(5,1,!3,1,!3,!3)
def qU(F:vh K "__init__" "Sign.__init__" lP f d):aa P w K mg ς pu 1 f d ["self","sign"] (tW K "sign"):=by
 refine F.ok qt (λvs H Q E h=>?_) (λQi A Fr s H vs Q E i h=>?_)
 .obtain ⟨p,v,C,dx,ζ,_⟩:=h;rfl
 .obtain ⟨p,v,C,dx,ζ,hp,g,n1,q⟩:=h;refine(_,k_ (EM (pv 0) (pv 1) ζ),3);refine(6,p,C,dx,[],1,hp,g,n1,(by change 0<1000;decide),3);show q _ (λb o e a=>by rw[a_ a];show e) j_
def kJ:vw ["self","inner"] ["self","inner"] (h_ dl):=(5,1,!3,1,!3,!3)
def lh(F:vh K "__init__" "Around.__init__" dl f d):aa P w K mg ς pu 1 f d ["self","inner"] (tW K "inner"):=by
 refine F.ok kJ (λvs H Q E h=>?_) (λQi A Fr s H vs Q E i h=>?_)
 .obtain ⟨p,v,C,dx,ζ,_⟩:=h;rfl
 .obtain ⟨p,v,C,dx,ζ,hp,g,n1,q⟩:=h;refine(_,k_ (EM (pv 0) (pv 1) ζ),3);refine(6,p,C,dx,[],1,hp,g,n1,(by change 0<1000;decide),3);show q _ (λb o e a=>by rw[a_ a];show e) j_
def qu:vw ["self","left","right"] ["self","left","right"] (h_ lQ):=(5,1,!3,1,!3,!3)
def qV(F:vh K "__init__" "Pair.__init__" lQ f i):aa P w K mg ς pu 1 f i ["self","left","right"] (yt K "left" "right"):=by
 refine F.ok qu (λvs H Q E h=>?_) (λQi A Fr s H vs Q E j h=>?_)
 .obtain ⟨p,v,u,C,dx,ζ,_⟩:=h;rfl
 .obtain ⟨p,v,u,C,dx,ζ,hp,d,n1,g,q⟩:=h;refine(_,m_ (EM (pv 0) (pv 1) ζ) (k_ (EM (pv 0) (pv 2) ζ)),3);refine(6,p,C,dx,[],1,hp,d,n1,(by change 0<1000;decide),6,p,C,dx,0,j_,d,g,(by change 1<1000;decide),3);show q _ (λb o e a=>by rw[a_ a,a_ a];show e) j_
abbrev Rv:Kd->Nr:=EC ni nj fj sj fi jv nn jw sk sq si
abbrev Mm:Kd->M':=EC "Never.shape" "Empty.shape" "AnySign.shape" "Sign.shape" "Outside.shape" "Turned.shape" "Again.shape" "Either.shape" "Less.shape" "Both.shape" "Then.shape"
def mZ(b:∀k,vA K (c k) cP){fs:Kd->υ}{j:Kd->Sb}(I:∀k,dX K (c k) "shape" (fs k))(J:∀k,Ao K (j k) ["self"] [])(F:∀k,vh K "shape" (Mm k) (Rv k) (fs k) (j k)):∀n k,aa P w K mg ς pu n (fs k) (j k) ["self"] (gm c n k)
 |0,k=>(λvs H Q E h=>by let⟨a,t,_,_,_,o,_⟩:=h;have:=t.Uz;lia,λ_ _ _ _ _ _ vs Q E _ _ _ _ h=>by let⟨a,t,_,_,_,o,_⟩:=h;have:=t.Uz;lia)
 |n+1,k=>by
  let M:=mZ b I J F n;let S:vw ["self"] ["self"] (h_ (Rv k)):=by
   rcases k with(_|_|_)|_|(_|_|_)|(_|_|_|_)<;>show(5,1,!3,1,!3,!3)
  refine(F k).ok S (λvs H Q E h=>?_) (λQi A Fr s H vs Q E O h=>?_)
  .obtain ⟨a,t,ζ,_⟩:=h;rfl
  let⟨a,t,ζ,hp,ζ,o,q⟩:=h;cases t with
  |Oi k=>cases k<;>show(_,k_ (o9 (Bg (Bp n' Dd))),sT (by change 1≤16777216;decide),λp hp=>q (.π p) _ (a'.MR hp) (p,1,j_))
  |Q9 z=>
   let⟨Y,dx,e,r⟩:=hp;cases e;show(_,k_ (o9 (Bg (Bp n' (Bp (AD (pv 0) ζ) Dd)))),0,a,_,dx,4,r,(b _).cl,(b _).nS,uG _,sT (by change 2≤16777216;decide),λp hp=>q (.π p) _ (a'.MR hp) (p,1,j_))
  |Of k x=>
   let o:x.Vy+1≤n+1:=o;let⟨Y,dx,u,e,r,C⟩:=hp;cases e;let⟨D,l,i,ζ,h1,l1⟩:=C.Uk;cases k<;>show(_,k_ (o9 (Bg (Bp n' (Bp (Jp (AD (pv 0) ζ) (λk=>(b k).cl) I M O J CS) Dd)))),0,a,_,dx,4,r,(b _).cl,(b _).nI,rJ _,x.kd,D,l,i,1,h1,l1,D,x,1,C,1,!6,λf m g d=>(sT (by change 2≤16777216;decide),λp hp=>q (.π p) _ (g.ν (a'.MR hp)) (p,f,1,j_,d.kp (a'.kp (a'.MR hp)))))
  |O9 k x y=>
   let o:max x.Vy y.Vy+1≤n+1:=o;let⟨Y,dx,u,Z,e,r,C,hy⟩:=hp;cases e;let⟨D,l,i,ζ,h1,l1⟩:=C.Uk;let rd:∀(k:K2)(f:V)(m:Hp),a' H m->ah m x f->(∀v H',a' H H'->ah H' (.O9 k x y) v->Q v H')->qg c "shape" (gm c n) E0 (λ_ H R=>R Z H) [] m λL W=>3≤Λ/\∀p,W p=ε->Q (.π p) (L2.MR W p (.No [.M_ (Dj k),f,L])):=λk f m g d q=>by
    let B:=hy.kp (a'.kp g);let⟨X,U,T,ζ,h2,l2⟩:=B.Uk;show(y.kd,X,U,T,1,h2,l2,X,y,1,B,1,!6,λL W s2 N=>(sT (by change 3≤16777216;decide),λp hp=>q (.π p) _ (g.ν (s2.ν (a'.MR hp))) (p,f,L,1,j_,d.kp (a'.kp (s2.ν (a'.MR hp))),N.kp (a'.kp (a'.MR hp)))))
   cases k<;>show(_,k_ (o9 (Bg (Bp n' (Bp (Jp (AD (pv 0) ζ) (λk=>(b k).cl) I M O J CS) (Bp (Jp (AD (pv 0) ζ) (λk=>(b k).cl) I M O J CS) Dd))))),0,a,_,dx,4,r,(b _).cl,(b _).nL,uH _ _,x.kd,D,l,i,1,h1,l1,D,x,1,C,1,!6,λf m g d=>(0,a,_,dx,4,g _ _ r,(b _).cl,(b _).nR,rH _ _,rd _ f m g d q))
def qv:vw ["self"] ["self"] (h_ lR):=(5,1,!3,1,!3,!3)
def qW(F:vh K "__init__" "Desk.__init__" lR f v):aa P w K mg ς pu 1 f v ["self"] (Fd K c):=by
 refine F.ok qv (λvs H Q E h=>?_) (λQi A Fr s H vs Q E x h=>?_)
 .obtain ⟨d,dx,C,ζ,_⟩:=h;rfl
 .obtain ⟨d,dx,C,ζ,p,t,u,nW,q⟩:=h;refine(_,m_ (EM (pv 0) (AA Dd) ζ) (k_ (EM (pv 0) (AA Dd) ζ)),3);refine(Nb _,λpa g=>(0,d,C,dx,[],1,Ah p g,t,u,(by change 0<1000;decide),Nb _,λwa a=>?_));let m:d≠pa:=e_ p g;let n:(MR (MR H pa (.M5 [])) d (.Uk C dx (af "patterns" (.π pa) []))) d<*.Uk C dx (af "patterns" (.π pa) []):=j_;let l:d≠wa:=e_ n a;let j:(MR (MR H pa (.M5 [])) d (.Uk C dx (af "patterns" (.π pa) []))) pa<*.M5 []:=by rw[a_ (Ne.MO m),j_]
  let k:pa≠wa:=e_ j a;refine(0,d,C,dx,0,Ah j_ a,t,nW,(by change 1<1000;decide),3);let i:H wa=ε:=by
   rw[a_ (Ne.MO l),a_ (Ne.MO k)]at a;show a
  refine q pa wa _ (λb o e r=>?_) (j_,3,trivial,3,k) g i
  .rw [a_ r,a_ (e_ e i),a_ r,a_ (e_ e g)];show e
  .rw [a_ (Ne.MO m),a_ k];show j
  .rw [a_ (Ne.MO l)];show j_
instance K7:Nr:=Cr (Qm 53) 2
def iQ:vw ["self",Q3] ["self",Q3] (h_ K7):=(5,1,!3,1,!3,!3)
inductive qj(c:Kd->Addr)(cH_:Addr)(ts:List (Addr×List (Pos×Str)))(vs:List V)(H:Hp)(Q:VK)(E:XK):Prop
 |mk (a:Addr) (t:Pt) (L:LN) (_:vs=[.ref a,.str (tx L)]) (_:BF c H t (.ref a)) (_:t.dep≤12) (_:CH L) (_:bF ts H) (_:(∀H',KT ts H H'->E (.ref cH_) none H')) (_:∀(f:Addr)(W:LL)(B:List Bool)(H':Hp),KT ts H H'->Mc H' f L W B->(∃v,BI L W B v)->Lg L W B=bE L t->Q (.ref f) H')
abbrev vU(P:NC)(w:Ny)(K:Nl)(mg:M'->ω θ)(ς:NR)(c:Kd->υ)(RS:υ)(ts:γ (υ×γ (Sn×M'))):Prop:=∃f fd,(∀k,dX K (c k) Q0 f)/\Ao K fd ["self",Q3] []/\aa P w K mg ς (Al P w) 23 f fd ["self",Q3] (qj c RS ts)
def jf(F:vh K Q0 "Pattern.machine" K7 f I)(u:FU P w K mg ς c cP)(n:Df P w K mg ς "need_letters" 2 [Q3] YF)(o:AT P w K mg ς "machine_of" 22 [Q3,"shape"] (Hz RS ts 12)):aa P w K mg ς (Al P w) 23 f I ["self",Q3] (qj c RS ts):=by
 refine F.okX iQ (λvs H Q E h=>?_) (λQi A Fr s H vs Q E i h=>?_)
 .obtain ⟨a,t,L,ζ,_⟩:=h;rfl
 .obtain ⟨a,t,L,ζ,hp,p,r,C,x,q⟩:=h;let⟨fs,D,y,M,N⟩:=u.sh;let g:=i.Pg (j:=2) (!0);let b:=i.Pg (j:=12) (!0);let⟨O,m,l,J,h1,l1⟩:=hp.Uk;cases J;refine(_,(m_ (BB (wx n g (Bp (pv 1) Dd))) (k_ (o9 (Ct o i (CI λ_ _ _ z=>z) (Bp (pv 1) (Bp (Jp (pv 0) (λk=>(u.pc k).cl) y (N 12) b M CS) Dd)))))),3);show(0,L,1,r,6,t.kd,a,m,l,1,h1,l1,a,t,1,hp,1,p,λv R d e=>(L,t,v,1,e,p,r,(KT.of d).tb C,λH' k=>x H' ((KT.of d).ν k),λf W B H' k=>q f W B H' ((KT.of d).ν k)))
end
inductive HA(K:Frag)(vs:List V)(H:Hp)(Q:VK)(_E:XK):Prop
 |mk (p:Addr) (ns:LN) (_:vs=[.ref p]) (_:o5 K H p (c_ ns)) (_:(∀x∈ns,x<8)) (_:∀t H',a' H H'->H' t<*.tup (c_ (B4 ns))->Q (.ref t) H')
inductive sp_hasm(vs:List V)(H:Hp)(Q:VK)(_E:XK):Prop
 |mk (m v:Addr) (o:HO) (L:LN) (W:LL) (B:List Bool) (k:LN) (_:vs=[.ref m,.ref v]) (_:zl H m L W B) (_:g_ L W B) (_:(o=.lst (c_ k)\/o=.tup (c_ k))) (_:H v<*o) (_:k.length≤60) (_:(∀x∈k,x<W.length)) (_:∀H',a' H H'->Q (.bl (k.any λr=>B.getD r false)) H')
namespace Tu
inductive sp_rinto(vs:List V)(H:Hp)(Q:VK)(_E:XK):Prop
 |mk (m st:Addr) (L:LN) (W:LL) (B:List Bool) (j:Nat) (S:LN) (_:vs=[.ref m,.int (j:Int),.ref st]) (_:zl H m L W B) (_:g_ L W B) (_:j<L.length) (_:H st<*.tup (c_ S)) (_:∀p H',a' H H'->H' p<*.tup (c_ (bn W S j))->Q (.ref p) H')
inductive BX(cW P1:Addr)(sites:List (Pos×Str))(vs:List V)(H:Hp)(Q:VK)(_E:XK):Prop
 | mk (m:Addr) (L:LN) (W:LL) (B:List Bool) (_:vs=[.ref m]) (_:zl H m L W B) (_:g_ L W B) (_:W.length≤8) (_:A_ H P1 sites) (_:∀(wk t wd y md:Addr)(ks:LL)(ws:LL)(rows:List Addr)(R:LL)(Bm:List Bool)(H':Hp),Cu P1 H H'->A_ H' P1 sites->Gk H' cW wk L t wd y md->H' wd<*.lst (DX ws)->H' y<*.lst (rows.map V.ref)->DA H' rows R->H' md<*.lst (Bm.map V.bl)->
  Bf (bn W) L (BD W B) ks ws ks.length 0->Dg (bn W) L.length ks R->R.length=ks.length->Bm.length=R.length->(∀(r:Nat)(k:LN)(b:Bool),ks[r]?<*k->Bm[r]?<*b->b=se k)->ks.length≤256->Q (.ref wk) H')
instance i_:Nr:=Qm 26
instance ax:Nr:=(p_ i_).MI 0 (.Vz ((0),(0),(0),(0)))
instance Vu:M':="walked_turned.<locals>.goals_of"
instance Xe:M':="walked_turned.<locals>.<lambda>"
instance hJ:Ro:=match (p_ i_).MI 2 (.Vz ((0),(0),(0),(0)))with
 |.XH (δ (.QE _ [_,_,_,l] _ _)) _=>l
 |_=>.Nz "" ((0),(0),(0),(0))
instance f_Q:QK:=match hJ with|.QW a _ _ _=>a|_=>([],[],ε,[],[],ε,[])
instance f_P:Ro:=match hJ with|.QW _ b _ _=>b|_=>.Nz "" ((0),(0),(0),(0))
instance Qn:RX:=match hJ with|.QW _ _ s _=>s|_=>h_ ax
instance jm:Sn:=match hJ with|.QW _ _ _ p=>p|_=>((0),(0),(0),(0))
abbrev AW:γ (Sn×M'):=[(bj ax,Vu,),(jm,Xe,)]
def mR:Ji ["state",Q0] "state" [Q0] (h_ ax):=(5,1,!3,5,!0,1,!3,λ_ _=>rfl,λ_=>rfl)
def qx:CW ["state"] ["state"] [] Qn:=(5,1,!3,5,!0,!3,!3)
section
variable{P:Program}{w:World}{K:Frag}{mg:Str->Option Value}{base:Heap}{f c m:Addr}{clos:List (Str×Addr)}{doc pm ctv:Value}{L:LN}{W:LL}{B:List Bool}
def q9(ho:ς.ψ f<*Ry Z0 Vu (t5 ax) (p_ ax) (h_ ax) OT Pi pm c XX)(O:ς.N7 (.π c) Vu)(C:A2 ς OT (h_ ax) [Q0] [.π m])(F:g_ L W B)(y:mg "len"=ε)(g:mg "range"=ε)(S:Df P w K mg ς "rooms_into" 1 [Q0,"place",Q4] Zx):aa P w K mg ς pu 2 f (Δ.W.fnX Z0 Vu (t5 ax) (p_ ax) (h_ ax) OT .ε .ε Pi pm ε (.π c) XX) ["state"] (He .t L (bn W) (dN W.β) λH=>zl H m L W B):=by
 refine GJ (UU:=[.π m]) ho ζ O mR C (λvs H Q E h=>?_) (λA Fr s H Y Q E hr h=>?_)
 .obtain ⟨k,v,ζ,_⟩:=h;rfl
 .obtain ⟨k,v,ev,N,hU,X,q⟩:=h;obtain ζ:Y=v:=by simpa using ev
  refine(_,(k_ (o9 (eJ ["state",Q0] ζ (!0) (G3 ζ g (o_ (Dp Lf (!4) y T6 (o_ (Ad 1))))) (λcl C fp s' H'=>(BZ,(wx S hr (wm (pv 2) (pv 0) (pv 1)))))))),3);unfold Av at N;rw[Ω (!0)]at N;let⟨b,ζ,hb⟩:=N;let I:=F.lt.hi;let hz:(tx L).β≤Λ:=sT (by rw[oh];show IO I (!0));let⟨wy,mk,T,h1,h2,h3,h4,h5⟩:=id X;dsimp only[gh];refine IX (n:=L.β) (λR h=>(z8 h1 aL (0,hz,by rw[oh];show h))) (IO I (!0)) (λD j ys H'=>∃ts:γ υ,A3 (ys=ts.NL V.π) (ts.β=j) (∀(i:Φ)(a:υ),ts[i]?<*a->H' a<*.No (c_ (bn W k i)))) (λD J=>([],5,λi a e=>by simp at e)) ?_ ?_
  .intro D j ys H' R1 R2 J hj d p hp k1 k2;let⟨ts,ζ,l,o⟩:=hp;refine l_ (6,0,m,b,L,W,B,j,k,3,X.OP d,F,hj,d _ _ hb,λt H4 M Z=>?_)
   .rw [ML.Pz];rfl
   let r:=M _ _ p;refine k1 (.π t) _ r (a'.RY (d.ν M) J) (ts++[t],by rw[Nu];rfl,by rw[w_,l];rfl,λi u e=>?_);rcases Fv e with z|⟨rfl,ζ⟩
   .exact tf (M _ _ (o i u z)) r (!5)
   .rw [l];show tf Z r (!5)
  .intro D ys H' J d p hp;let⟨ts,ζ,l,o⟩:=hp;refine q D (ts.NL V.π) H' d (.NT (J,p)) (by rw[ol,l]) λj x U=>?_;rw[tS]at U;let⟨a,ha,ζ⟩:=BG U;unfold Av;rw[Ω (!0)];show(a,1,o j a ha)
def qZ(i:ς.ψ f<*Ru "<lambda>" Xe f_Q f_P Qn OT pm c XX)(g:ς.N7 (.π c) Xe)(C:A2 ς OT Qn [] [])(a:Hp->Prop)(U:LL):aa P w K mg ς pu 1 f (W8 "<lambda>" Xe f_Q f_P Qn OT pm (.π c) XX) ["state"] (Hf .t se U a):=by
 refine Hk (UU:=[]) i ζ g qx C (λvs H Q E h=>?_) (λA Fr s H vs Q E l h=>?_)
 .obtain ⟨k,v,ζ,_⟩:=h;rfl
 .obtain ⟨k,v,ζ,d,n,o,q⟩:=h;refine(_,EL IL b' (pv 0) (by with_unfolding_all rfl),3);unfold Av at d;rw[Ω (!0)]at d;let⟨b,ζ,j⟩:=d;refine(0,b,0,.NT (u0.of j),1,LF _,3);let e:EO (.MQ 0) (c_ k)=se k:=di 0 k;change Q (.bl (EO (.MQ 0) (c_ k))) H;rw[e];show q H (a'.Th H)
end
def b_V:vw [Q0,Z0,"start"] [Q0] (h_ i_):=Aa
def C8(Wd:GH X U e H d)(Rp:∀y a,b.ρ y<*a->X.KK.Rj.ρ y<*a)(Tn:∀y∈sc.MP,y.2=.N4->∃a,b.ρ y.1<*a):A2 d b sc [] []:=
 (λy z c h1 h2=>Wd.QG y z c (Rp y c h1) (Rp z c h2),Tn,λy c h=>Wd.N8 y c (Rp y c h),1,λi y v h1 h2=>by simp at h1)
set_option maxHeartbeats 8000000 in
def Fh{P:NC}{w:Ny}{oc kV Pi pm ct aT ar F ap j aA bo:θ}(lk:K.ρ f<*(oc,od,.QY (Ps "walked_turned" "walked_turned" (t5 i_) (p_ i_) (h_ i_) .ε kV Pi pm an (.π c) ct),cA))(bS:O8 K (.π c) "walked_turned"=ξ)(lw:K.ρ fw<*(aT,bm,.QY (Ps "walked" "walked" (t5 Bt) (p_ Bt) (h_ Bt) (.π tD) ar F ap an2 j aA),Z7))(cw:O8 K j "walked"=ξ)(kw:UO K (.π fw)=ξ)(mw:mg "walked"<*.π fw)(lD:K.ρ tD<*(bo,cB,.Sx #[.ε] nD,co))(WT:Gr K mg cW fI fdI)(T:mg "len"=ε)(aH:mg "zip"=ε)(aM:mg "tuple"=ε)(J:mg "range"=ε)(ab:mg "enumerate"=ε)(hC:QD ς c P1)(hB:Dy ς mg)(DR:∀ς:NR,Df P w K mg ς "rooms_into" 1 [Q0,"place",Q4] Zx):aa P w K mg ς pu 6 f (Ps "walked_turned" "walked_turned" (t5 i_) (p_ i_) (h_ i_) .ε kV Pi pm an (.π c) ct) [Q0] (BX cW P1 AW):=by
 refine ny lk bS b_V (λvs H Q E h=>?_) (λA Fr s H vs Q E hr h=>?_)
 .obtain ⟨m,L,W,B,ζ,_⟩:=h;rfl
 .obtain ⟨m,L,W,B,ζ,hM,O,hW8,hT,q⟩:=h;refine(_,(m_ (FM (i:=1) (M4:=Vu) (c:=c) (P0:=P1) (OL:=AW) b_V.nd ζ (Or.NI ζ) ζ hC hB (!3) (!3)) (m_ (va 2 b_V.nd (Eu Gb (!4) aM PZ (o_ (Jh [Q0,Z0,"start"] ζ (!0) (IZ ζ ab (o_ (Ad 0))) (λcl C fp s' H'=>(mT (BY (pv 1)),pv 0)))))) (k_ (o9 (HX (XW:=[.Rt]) ζ mw kw (Iz (kV:=ar) (Pi:=F) (pm:=ap) (an:=an2) (Qi:=j) (ct:=aA) lD) (.NX ζ .Op) (Bp (Ad 0) (wm (pv 2) (pv 1) (Hj (M4:=Xe) (c:=c) (P0:=P1) (OL:=AW) ζ hC hB (!3) (!3)))) (λ_=>rfl)))))),3);refine(hT,λaB v c1 H1 aS a6 cM cD s1 a8 a3 a1=>?_);let a9:zl H1 m L W B:=hM.QN (FP s1 hT);let⟨wy,mk,cd,h1,h2,h3,h4,h5⟩:=id a9;let a4:=O.bl;let aV:=O.n60;dsimp only[Bv];dsimp only[Sh,aP,aK,Cp,Aw,Cq,BQ];refine LC (c:=mk) (λR h=>(z8 h1 dH h)) (.NT ζ) h3 (λD i ys H'=>ys=c_ ((γ.N2 i).SJ λr=>B.MI r η)) (by rw[ol,a4];show sT (IO aV (!0))) (λD hD=>rfl) ?_ ?_
  .intro D i x ys H' H3 R1 R2 hD hx M S hp g k1 k2;rw[tS]at hx;let⟨b,p,ζ⟩:=BG hx;let eb:B.MI i η=b:=by rw[u6,p];rfl
   refine(6,3);cases b with
   |ξ=>
    refine aw (0,k1 _ H3 (g _ _ S) (a'.RY (M.ν g) hD) ?_);rw[hp,As,eb];show(Jc _ _).MO
   |η=>
    refine aj (k2 H3 (M.ν g) (g _ _ S) ?_);rw[hp,As,eb];simp
  intro D ys H2 hD M S hp;rw[ol,a4]at hp;subst hp;refine(D,0,.NI (o5.of S,λst Rv=>?_));let s2:a' H1 (L2.MR H2 st (.No (c_ ((γ.N2 W.β).SJ λr=>B.MI r η)))):=M.ν (a'.MR Rv);let X:L2.MR H2 st (.No (c_ ((γ.N2 W.β).SJ λr=>B.MI r η))) st<*.No (c_ (BD W B)):=j_;generalize L2.MR H2 st (.No (c_ ((γ.N2 W.β).SJ λr=>B.MI r η)))=H3 at s2 X;let N:=Gm a8 s2;refine(z8 (s2 _ _ h1) aL (6,N,λb4 f2 c2 I aN a5 cK cC s4 b0 a2 a0=>?_));let⟨cs,b2,_⟩:=id a8;let⟨cp,cI,_⟩:=id N;let⟨bk,b1,bM,as⟩:=id b0;let nP:∀{b:υ}{φ:NR->Prop},H1 b<*.ext φ->b≠P1:=λ{b φ}e z=>by rw[z,b2]at e;cases e
  let Y:I v<*Aj v Z0 Vu (t5 ax) (p_ ax) (h_ ax) aB c1:=s4 v _ (nP a1) (s2 _ _ a1);let Z:I c1<*pd c1 Vu:=s4 c1 _ (nP a3) (s2 _ _ a3);let b3:zl I m L W B:=(a9.OP s2).QN (FP s4 N);let U:I st<*.No (c_ (BD W B)):=FP s4 N _ _ X;let a7:∀u∈[v,f2,c1,c2],∃φ,I u<*.ext φ:=λu hu=>by
   simp only[MN,NW,N9]at hu;rcases hu with ζ|rfl|rfl|rfl
   .exact (_,Y)
   .exact (_,a0)
   .exact (_,Z)
   .exact (_,a2)
  refine([v,f2,c1,c2],a7,λd Wd=>?_);let⟨ce,cx,cg,bg⟩:=Wd.XA v _ (!1) Y;let⟨cv,cf,bd⟩:=Wd.XA f2 _ (!1) a0;let b6:d.N7 (.π c1) Vu:=Wd.XA c1 _ (!1) Z;let b5:d.N7 (.π c2) Xe:=Wd.XA c2 _ (!1) a2;let C1:=ie (sc:=h_ ax) (m:=m) Wd aS a6 ζ ζ ζ ζ (!3);let C2:=C8 (sc:=Qn) Wd aN a5;let Fw:j7 K "walked" "walked" Bt fw _:=((aT,bm,.π tD,ar,F,ap,an2,j,aA,Z7,1,lw,cw),kw);refine((5),Hg cW .t L (bn W) se (dN W.β) (λH=>zl H m L W B) v f2,hr,Ix Fw WT T aH ((q9 bg b6 C1 O T J (DR d)).Pg (!0)) ((qZ bd b5 C2 _ _).Pg (!0)) bg (_,ζ) bd (_,ζ) (.P' λus hl=>by let⟨_,ζ⟩:=D0 hl;rfl) (.P' λus hl=>by let⟨_,ζ⟩:=D0 hl;rfl) (λ_ _ s h=>h.OP s),3);let l:∀{b:υ}{o:HO},I b<*o->(∀φ,o≠.ext φ)->b∉[v,f2,c1,c2]:=λ{b o}e ho p=>by
   let⟨φ,e2⟩:=a7 b p;rw[e]at e2;show ho φ (ω.δ.QG e2)
  refine(BD W B,.π st,ε,1,O.lt,3,Jk _ _,λk hk q hq=>Jk _ _,IO (iH hW8) (!0),b3.QN λb xs e=>by rw[BH (l e (λ_ z=>nomatch z))];show e,λwk t wd y md ks ch ws ag R Bm H5 bi hW ht cH bD hy aU bP bf aC bl bs Rp le he bV=>?_)
  .unfold Av;rw[Ω (!0)];show(st,1,by change Ak _ I st=_;rw[BH (l U (λ_ z=>nomatch z))];show U)
  let hR:R.β=ks.β:=by
   rcases he with z|⟨n,z,_⟩
   .exact z
   .cases z
  let TF:∀{b:υ}{o:HO},H5 b<*o->T9 [v,f2,c1,c2] I H5 b<*o:=λ{b o}e=>by
   rw[Ee λp=>?_]
   .exact e
   .rw [bV b p]at e;cases e
  let az:∀{b:υ}{o:HO},I b<*o->T9 [v,f2,c1,c2] I H5 b<*o:=λ{b o}e=>by
   by_cases p:b∈[v,f2,c1,c2]
   .rw [GG p];show e
   .exact TF (bi b o (by rw[BH p];show e))
  rw[hR]at bf;let⟨dx,ew⟩:=hW.ex;show q wk t wd y md ks ws ag R Bm _ (λb o p e=>az (s4 b o p (s2 _ _ (s1 b o p e)))) (bk,az b1,bM,λx hx=>(as x hx).Wc id λbU=>by let⟨c',e1,e2⟩:=bU;show(c',e1,az e2)) (dx,TF ew) (TF bD) (TF hy) (aU.1,λi a r e1 e2=>TF (aU.2 i a r e1 e2)) (TF bP) bf aC hR bl bs (IO le (iH hW8))
end Tu
namespace A
inductive vG(B:List Bool)(n:Nat)(Rest:Hp->Prop)(vs:List V)(H:Hp)(Q:VK)(_E:XK):Prop
 |mk (p:Addr) (l:LN) (_:vs=[.ref p]) (_:H p<*.lst (c_ l)) (_:(∀x∈l,x<n)) (_:l.length≤50) (_:Rest H) (_:∀t H',a' H H'->bq .q H' (mf B l) t->Q (.ref t) H')
def xY{OL a:γ (Sn×M')}(s:Cu P0 H H')(j:A_ H P0 OL)(i:P1≠P0)(h:A_ H P1 a):A_ H' P1 a:=by
 let⟨e,c,_⟩:=j;let⟨ps,k,g,b⟩:=h;refine(ps,s _ _ i k,g,λx f=>(b x f).Wc id λ⟨m,l,d⟩=>(m,l,s _ _ (λz=>?_) d));rw[z,c]at d;cases d
inductive yr(cTM P0 P1:Addr)(sites sitesA:List (Pos×Str))(vs:List V)(H:Hp)(Q:VK)(E:XK):Prop
 |mk (m:Addr) (L:LN) (W:LL) (B:List Bool) (_:vs=[.ref m]) (_:zl H m L W B) (_:g_ L W B) (_:W.length≤8) (_:A_ H P0 sites) (_:A_ H P1 sitesA) (_:P1≠P0) (_:(∀H',E (.ref cTM) none H')) (_:∀(f:Addr)(W':LL)(B':List Bool)(H':Hp),Ch H H'->zl H' f L W' B'->g_ L W' B'->(∀u:LN,(∀c∈u,c∈L)->(B'.getD (run L W' 0 u) false=true↔Ag (λv=>B.getD (run L W 0 v) false) u))->Q (.ref f) H')
instance vb:Nr:=Qm 34
instance bv:Nr:=(p_ vb).MI 1 (.Vz ((0),(0),(0),(0)))
instance bh:Nr:=(p_ vb).MI 2 (.Vz ((0),(0),(0),(0)))
instance q_ae:M':="again.<locals>.entered"
instance q_ag:M':="again.<locals>.goals_of"
instance q_al:M':="again.<locals>.<lambda>"
instance ve:Ro:=match (p_ vb).MI 3 (.Vz ((0),(0),(0),(0)))with
 |.XH (δ (.QE _ [.QE _ [_,_,_,l] _ _] _ _)) _=>l
 |_=>.Nz "" ((0),(0),(0),(0))
instance f_Q:QK:=match ve with|.QW a _ _ _=>a|_=>([],[],ε,[],[],ε,[])
instance f_P:Ro:=match ve with|.QW _ b _ _=>b|_=>.Nz "" ((0),(0),(0),(0))
instance Qn:RX:=match ve with|.QW _ _ s _=>s|_=>h_ bh
instance jm:Sn:=match ve with|.QW _ _ _ p=>p|_=>((0),(0),(0),(0))
abbrev Wy:γ (Sn×M'):=[(bj bv,q_ae,),(bj bh,q_ag,),(jm,q_al,)]
def yH:CW [Q4,"piece"] [Q4] ["piece"] (h_ bv):=(5,1,!3,5,!0,!3,!3)
def yG:CW ["state","entered","piece"] ["state"] ["entered","piece"] (h_ bh):=(5,1,!3,5,!0,!3,!3)
def yF:CW ["state"] ["state"] [] Qn:=(5,1,!3,5,!0,!3,!3)
section
variable{P:Program}{w:World}{K:Frag}{mg:Str->Option Value}{base:Heap}{f c m g:Addr}{clos:List (Str×Addr)}{doc pm ctv:Value}{L:LN}{W:LL}{B:List Bool}
def yZ(X:ς.ψ f<*Ry "entered" q_ae (t5 bv) (p_ bv) (h_ bv) OT Pi pm c XX)(D:ς.N7 (.π c) q_ae)(C:A2 ς OT (h_ bv) ["piece"] [.π m])(F:g_ L W B)(Z:W.β≤8)(I:Df P w K mg ς "has_marked" 1 [Q0,Q4] Xu)(b:Df P w K mg ς "lot_of" 1 [Q4] (HA K)):aa P w K mg ς pu 2 f (Δ.W.fnX "entered" q_ae (t5 bv) (p_ bv) (h_ bv) OT .ε .ε Pi pm ε (.π c) XX) [Q4] (vG B W.β λH=>zl H m L W B):=by
 refine Gi (UU:=[.π m]) X ζ D yH C (λvs H Q E h=>?_) (λA Fr s H vs Q E v h=>?_)
 .obtain ⟨p,l,ζ,_⟩:=h;rfl
 .obtain ⟨p,l,ζ,hp,hlW,hl50,Y,q⟩:=h;refine(_,(m_ (u_ (BY (wx I v (q_ (pv 1) (pv 0)))) (k_ (o9 (Bg (q_ BK (wx b v (o_ (Ae Gy (pv 0) (AA (o_ b'))))))))) (wh)) (k_ (o9 (Bg (q_ BK (wx b v (o_ (pv 0)))))))),3);refine(6,m,p,_,L,W,B,l,1,Y,F,.NI ζ,hp,IO hl50 (!0),hlW,λU e=>(0,3));let S:∀x∈l,x<8:=λx k=>Ψ (hlW x k) Z;let O9:2≤Λ:=sT (!0);unfold mf at q;cases M:l.Qk (λr=>B.MI r η)with
  |ξ=>
   rw[Id M]at q;refine aw ?_;refine(0,sT (by change 1≤16777216;decide),λd a=>?_);let s2:=e.ν (a'.MR (o:=.M5 [.MQ 0]) a);let R:=Ah (u:=.M5 [.MQ 0]) (e _ _ hp) a;let O:L2.MR U d (.M5 [.MQ 0]) d<*.M5 [.MQ 0]:=j_;generalize L2.MR U d (.M5 [.MQ 0])=T at s2 R O;refine(p,d,8,R,O,sT (by rw[f_];change l.β+1≤16777216;lia),λi y=>?_);let J:=s2.ν (a'.MR (o:=.M5 (c_ l++[.MQ 0])) y);let N:L2.MR T i (.M5 (c_ l++[.MQ 0])) i<*.M5 (c_ (l++[0])):=by rw[j_,c_,c_,Nu];rfl
   generalize L2.MR T i (.M5 (c_ l++[.MQ 0]))=H3 at J N;refine(i,l++[0],1,o5.of N,λx k=>?_,λt H4 j n=>(O9,λst Rv=>q st _ (J.ν (j.ν (a'.MR Rv))) (t,(1),0,LT _,j_,Ah n Rv)));rcases Na.mp k with z|z
   .exact S x z
   .rw [Ay z];decide
  |η=>
   rw[Ω (by rw[M];show MX.M9)]at q;refine aj (0,p,l,1,o5.of (e _ _ hp),S,λt H4 j n=>(O9,λst Rv=>q st _ (e.ν (j.ν (a'.MR Rv))) (t,(0),0,Nb _,j_,Ah n Rv)))
def yY(ho:ς.ψ f<*Ry Z0 q_ag (t5 bh) (p_ bh) (h_ bh) OT Pi pm c XX)(ag:ς.N7 (.π c) q_ag)(C:A2 ς OT (h_ bh) ["entered","piece"] [.π g,.π m])(y:g_ L W B)(h8:W.β≤8)(as:Df P w K mg ς "lots_after" 1 [Q0,Q4] Tg)(hg:ς.ψ g<*(oc,od,.QY fd,sl))(ap:Ao K fd [Q4] [])(R:aa P w K mg ς pu 2 g fd [Q4] (vG B W.β λH=>zl H m L W B)):aa P w K mg ς pu 3 f (Δ.W.fnX Z0 q_ag (t5 bh) (p_ bh) (h_ bh) OT .ε .ε Pi pm ε (.π c) XX) ["state"] (He .q L (Ho W B) (E_ W.β) λH=>zl H m L W B):=by
 refine Gi (UU:=[.π g,.π m]) ho ζ ag yG C (λvs H Q E h=>?_) (λA Fr s H vs Q E hr h=>?_)
 .obtain ⟨k,v,ζ,_⟩:=h;rfl
 .obtain ⟨k,v,ζ,Y,hU,hM,q⟩:=h;let Z:=hr.Pg (j:=1) (!0);refine(_,(k_ (o9 (eJ ["state","entered","piece"] ζ (!0) (Dv (wx as Z (q_ (pv 2) (Ad 0)))) (λcl C fp s' H'=>(BZ,HV (i:=2) R hr hg ap (pv 2) (o_ (pv 0))))))),3);let⟨b0,S,ζ,aA,hS,M⟩:=p9 hU;unfold Av at Y;rw[Ω (!0)]at Y;let⟨b,ζ,c0,x,ks,e0,az,hb,an⟩:=Y;cases e0;let ar:=y.lt.hi;dsimp only[gh];refine(0,z8 hb aJ (m,c0,_,L,W,B,S,1,hM,y,.NT ζ,an,IO M (!0),hS,λl ls H1 X hl r ab=>?_));refine(l,4,.NI ζ,hl,λJ ov=>JV ov hl (λD j ys H'=>∃ts:γ υ,A3 (ys=ts.NL V.π) (ts.β=j) (∀(i:Φ)(a:υ),ts[i]?<*a->bq .q H' (Ho W B (b0::S) i) a)) (by rw[ol,r];show sT (IO ar (!0))) (λD T=>([],5,λi a e=>by simp at e)) ?_ ?_)
  .intro D j x ys H' R1 R2 T I n F hp k1 k2;let⟨ts,ζ,d,p⟩:=hp;rw[tS]at I;let⟨a,O,ζ⟩:=BG I;let hj:j<L.β:=by rw[<-r];show(q5 O).1
   refine l_ (1,0,a,gA W S j,1,n _ _ (ab j a O),fq y hS hj,by rw[gA,ol];show IO M (!0),(hM.OP X).OP n,λt H4 U ht=>?_);let N:=U _ _ F;let up:∀{o:HO}b xs,H4 b<*.No xs->L2.MR H4 D o b<*.No xs:=λb xs e=>tf e N (!5);refine k1 (.π t) _ N (a'.RY (n.ν U) T) (ts++[t],by rw[Nu];rfl,by rw[w_,d];rfl,λi u e=>?_);rcases Fv e with z|⟨rfl,ζ⟩
   .exact ((p i u z).OP λb xs e=>U _ _ e).OP up
   .rw [d];show ht.OP up
  .intro D ys H' T n F hp;let⟨ts,ζ,d,p⟩:=hp;rw[ol,r]at d;refine q D (ts.NL V.π) H' (X.ν n) (.NT (GE X T,F)) (by rw[ol,d]) λj x I=>?_;rw[tS]at I;let⟨a,O,ζ⟩:=BG I;unfold Av;rw[Ω (!0)];show(a,1,p j a O)
def yX(j:ς.ψ f<*Ru "<lambda>" q_al f_Q f_P Qn OT pm c XX)(e:ς.N7 (.π c) q_al)(C:A2 ς OT Qn [] [])(a:Hp->Prop)(U:LL):aa P w K mg ς pu 1 f (W8 "<lambda>" q_al f_Q f_P Qn OT pm (.π c) XX) ["state"] (Hf .q xi U a):=by
 refine Hk (UU:=[]) j ζ e yF C (λvs H Q E h=>?_) (λA Fr s H vs Q E o h=>?_)
 .obtain ⟨k,v,ζ,_⟩:=h;rfl
 .obtain ⟨k,v,ζ,d,p,r,q⟩:=h;refine(_,Ad 0,3);unfold Av at d;rw[Ω (!0)]at d;let⟨b,ζ,c0,x,ks,ζ,i,n,l⟩:=d;show(z8 n aL (q H (a'.Th H)))
end
end A
namespace H
inductive kE(B1:List Bool)(n1 n2:Nat)(Rest:Hp->Prop)(vs:List V)(H:Hp)(Q:VK)(_E:XK):Prop
 |mk (r:Nat) (p:Addr) (l:LN) (_:vs=[.int (r:Int),.ref p]) (_:H p<*.lst (c_ l)) (_:r<n1) (_:(∀x∈l,x<n2)) (_:l.length≤50) (_:Rest H) (_:∀t H',a' H H'->bq .p H' (dW B1 r l) t->Q (.ref t) H')
def xY{OL a:γ (Sn×M')}(s:Cu P0 H H')(j:A_ H P0 OL)(i:P1≠P0)(h:A_ H P1 a):A_ H' P1 a:=by
 let⟨e,c,_⟩:=j;let⟨ps,k,g,b⟩:=h;refine(ps,s _ _ i k,g,λx f=>(b x f).Wc id λ⟨m,l,d⟩=>(m,l,s _ _ (λz=>?_) d));rw[z,c]at d;cases d
inductive zJ(cTM cOL P0 P1:Addr)(sites sitesH:List (Pos×Str))(vs:List V)(H:Hp)(Q:VK)(E:XK):Prop
 |mk (m m2:Addr) (L L':LN) (W1 W2:LL) (B1 B2:List Bool) (_:vs=[.ref m,.ref m2]) (_:zl H m L W1 B1) (_:g_ L W1 B1) (_:zl H m2 L' W2 B2) (_:g_ L' W2 B2) (_:W1.length≤8) (_:W2.length≤8) (_:A_ H P0 sites) (_:A_ H P1 sitesH) (_:P1≠P0) (_:(∀H',L≠L'->E (.ref cOL) none H')) (_:(∀H',E (.ref cTM) none H')) (_:∀(f:Addr)(W':LL)(B':List Bool)(H':Hp),L=L'->Ch H H'->zl H' f L W' B'->g_ L W' B'->(∀u:LN,(∀c∈u,c∈L)->(B'.getD (run L W' 0 u) false=true↔∃x v,u=x++v/\B1.getD (run L W1 0 x) false=true/\B2.getD (run L W2 0 v) false=true))->Q (.ref f) H')
instance y_:Nr:=Qm 33
instance aW:Nr:=(p_ y_).MI 3 (.Vz ((0),(0),(0),(0)))
instance ax:Nr:=(p_ y_).MI 4 (.Vz ((0),(0),(0),(0)))
instance Ym:M':="then.<locals>.entered"
instance Vu:M':="then.<locals>.goals_of"
instance Xe:M':="then.<locals>.<lambda>"
instance hJ:Ro:=match (p_ y_).MI 5 (.Vz ((0),(0),(0),(0)))with
 |.XH (δ (.QE _ [.QE _ [_,_,_,l] _ _] _ _)) _=>l
 |_=>.Nz "" ((0),(0),(0),(0))
instance f_Q:QK:=match hJ with|.QW a _ _ _=>a|_=>([],[],ε,[],[],ε,[])
instance f_P:Ro:=match hJ with|.QW _ b _ _=>b|_=>.Nz "" ((0),(0),(0),(0))
instance Qn:RX:=match hJ with|.QW _ _ s _=>s|_=>h_ ax
instance jm:Sn:=match hJ with|.QW _ _ _ p=>p|_=>((0),(0),(0),(0))
abbrev Wx:γ (Sn×M'):=[(bj aW,Ym,),(bj ax,Vu,),(jm,Xe,)]
def yC:CW [Z4,Q4,"ahead"] [Z4,Q4] ["ahead"] (h_ aW):=(5,1,!3,5,!0,!3,!3)
def mR:CW ["state","goals","ahead","behind","entered"] ["state"] ["ahead","behind","entered"] (h_ ax):=(5,1,!3,5,!0,!3,!3)
def qx:CW ["state","behind"] ["state"] ["behind"] Qn:=(5,1,!3,5,!0,!3,!3)
abbrev Two(H:Hp)(m m2:υ)(L:LN)(W1 W2:LL)(B1 B2:γ MX):Prop:=zl H m L W1 B1/\zl H m2 L W2 B2
section
variable{P:Program}{w:World}{K:Frag}{mg:Str->Option Value}{base:Heap}{f c m m2 g:Addr}{clos:List (Str×Addr)}{doc pm ctv:Value}{L:LN}{W1 W2:LL}{B1 B2:List Bool}
def vL(T:ς.ψ f<*Ry "entered" Ym (t5 aW) (p_ aW) (h_ aW) OT Pi pm c XX)(v:ς.N7 (.π c) Ym)(C:A2 ς OT (h_ aW) ["ahead"] [.π m])(z:g_ L W1 B1)(y:g_ L W2 B2)(X:W2.β≤8)(B:Df P w K mg ς "lot_of" 1 [Q4] (HA K)):aa P w K mg ς pu 2 f (Δ.W.fnX "entered" Ym (t5 aW) (p_ aW) (h_ aW) OT .ε .ε Pi pm ε (.π c) XX) [Z4,Q4] (kE B1 W1.β W2.β λH=>Two H m m2 L W1 W2 B1 B2):=by
 refine Gi (UU:=[.π m]) T ζ v yC C (λvs H Q E h=>?_) (λA Fr s H vs Q E S h=>?_)
 .obtain ⟨r,p,l,ζ,_⟩:=h;rfl
 .obtain ⟨r,p,l,ζ,hp,k,hlW,hl50,U,q⟩:=h;refine(_,(k_ (o9 (Bg (q_ (pv 0) (wx B S (o_ (cJ (BY (GK (Ad 2) (pv 0))) (Ae Gy (pv 1) (AA (o_ b'))) (pv 1)))))))),3);let⟨wy,mk,F,h1,h2,Y,h4,h5⟩:=id U.1;let b:∀x∈inT B1 r l,x<8:=λx R=>Ψ (dj hlW y.n1 x R) X;let O9:2≤Λ:=sT (!0);unfold dW at q;refine(0,z8 h1 dH (0,Fa Y (HU (ik z.bl k)) (0,3)));unfold inT at q b;cases I:B1.MI r η with
  |ξ=>
   rw[Id I]at q b;refine aw ?_;refine(0,sT (by change 1≤16777216;decide),λd a=>?_);let s2:=a'.MR (o:=.M5 [.MQ 0]) a;let N:=Ah (u:=.M5 [.MQ 0]) hp a;let M:L2.MR H d (.M5 [.MQ 0]) d<*.M5 [.MQ 0]:=j_;generalize L2.MR H d (.M5 [.MQ 0])=O at s2 N M;refine(p,d,8,N,M,sT (by rw[f_];change l.β+1≤16777216;lia),λe n=>?_);let D:=s2.ν (a'.MR (o:=.M5 (c_ l++[.MQ 0])) n);let J:L2.MR O e (.M5 (c_ l++[.MQ 0])) e<*.M5 (c_ (l++[0])):=by rw[j_,c_,c_,Nu];rfl
   generalize L2.MR O e (.M5 (c_ l++[.MQ 0]))=H3 at D J;show(e,l++[0],1,o5.of J,b,λt Z i j=>(O9,λst Rv=>q st _ (D.ν (i.ν (a'.MR Rv))) (t,r,0,j_,Ah j Rv)))
  |η=>
   rw[Ω (by rw[I];show MX.M9)]at q b;show aj (0,p,l,1,o5.of hp,b,λt Z i j=>(O9,λst Rv=>q st _ (i.ν (a'.MR Rv)) (t,r,0,j_,Ah j Rv)))
def q9(ho:ς.ψ f<*Ry Z0 Vu (t5 ax) (p_ ax) (h_ ax) OT Pi pm c XX)(aB:ς.N7 (.π c) Vu)(C:A2 ς OT (h_ ax) ["ahead","behind","entered"] [.π m,.π m2,.π g])(J:g_ L W1 B1)(ar:g_ L W2 B2)(N:mg "zip"=ε)(aN:Df P w K mg ς "lots_after" 1 [Q0,Q4] Tg)(hg:ς.ψ g<*(oc,od,.QY fd,sl))(aH:Ao K fd [Z4,Q4] [])(R:aa P w K mg ς pu 2 g fd [Z4,Q4] (kE B1 W1.β W2.β λH=>Two H m m2 L W1 W2 B1 B2)):aa P w K mg ς pu 3 f (Δ.W.fnX Z0 Vu (t5 ax) (p_ ax) (h_ ax) OT .ε .ε Pi pm ε (.π c) XX) ["state"] (He .p L (Hq W1 B1 W2) (EB W1.β W2.β) λH=>Two H m m2 L W1 W2 B1 B2):=by
 refine Gi (UU:=[.π m,.π m2,.π g]) ho ζ aB mR C (λvs H Q E h=>?_) (λA Fr s H vs Q E hr h=>?_)
 .obtain ⟨k,v,ζ,_⟩:=h;rfl
 .obtain ⟨k,v,ζ,hv,hU,hM,q⟩:=h;let as:=hr.Pg (j:=1) (!0);refine(_,(m_ (va 1 mR.nd (wx aN as (q_ (pv 3) (Ad 0)))) (k_ (o9 (Jh ["state","goals","ahead","behind","entered"] ζ (!0) (gC ζ N (q_ (GK (Ad 2) (Ad 0)) (pv 1))) (λcl C fp s' H'=>(BZ,HV (i:=6) R hr hg aH (pv 6) (q_ (pv 0) (pv 1)))))))),3);let⟨U,S,ζ,Y,hS,ab⟩:=kh hU;unfold Av at hv;rw[Ω (!0)]at hv;let⟨b,ζ,c0,x,ks,e0,hb,aC⟩:=hv;cases e0;let aM:=J.lt.hi;let⟨an,ag⟩:=hM;refine(0,z8 hb aJ (m2,c0,_,L,W2,B2,S,1,ag,ar,.NT ζ,aC,IO ab (!0),hS,λl ls H1 T hl aA az=>?_));let⟨wy,mk,B,h1,h2,h3,h4,h5⟩:=id (an.OP T);obtain⟨rr,X⟩:∃rr,B[U]?<*rr:=(B[U]'(by rw[h4];show Y),n_ _);let⟨ws,e5,e6⟩:=h5 _ _ X;let y:=J.Vt ws (AC e5);let ew:W1.MI U []=ws:=by rw[u6,e5];rfl
  dsimp only[gh];refine LD (d1:=.tp rr) (d2:=.ls l) (λR h=>(z8 h1 aJ (z8 (T _ _ hb) aL (Fa h2 (D_ V.π X) (0,h))))) e6 hl (by rw[f_,ol,aA];show y.1)
   (λD j ys H'=>∃ts:γ υ,A3 (ys=ts.NL V.π) (ts.β=j) (∀(i:Φ)(a:υ),ts[i]?<*a->bq .p H' (Hq W1 B1 W2 (U::S) i) a)) (by rw[f_,y.1];show sT (IO aM (!0))) (λD hD=>([],5,λi a e=>by simp at e)) ?_ ?_
  .intro D j x z ys H' H3 R1 hD M hz r I hp d k1;let⟨ts,ζ,n,F⟩:=hp;let hj:j<ws.β:=by have:=(q5 M).1;rwa [f_]at this
   let Z:j<L.β:=by rw[<-y.1];show hj
   rw[CU hj]at M;cases M;rw[tS]at hz;let⟨a,ha,ζ⟩:=BG hz;let O:=T.ν (r.ν d);let eg:ws.MI j 0=QT W1 U j:=by unfold QT;rw[ew]
   refine(1,6,ws.MI j 0,a,gA W2 S j,1,(r.ν d) _ _ (az j a ha),by rw[eg];show Ev J Y Z,fq ar hS Z,by rw[gA,ol];show IO ab (!0),(an.OP O,ag.OP O),λt H4 s4 ht=>?_);rw[eg]at ht;let ap:=s4 _ _ (d _ _ I);let up:∀{o:HO}b xs,H4 b<*.No xs->L2.MR H4 D o b<*.No xs:=λb xs e=>tf e ap (!5);refine k1 (.π t) _ ap (a'.RY (r.ν (d.ν s4)) hD) (ts++[t],by rw[Nu];rfl,by rw[w_,n];rfl,λi u e=>?_);rcases Fv e with z|⟨rfl,ζ⟩
   .exact ((F i u z).OP λb xs e=>s4 _ _ (d _ _ e)).OP up
   .rw [n];show ht.OP up
  .intro D ys H' hD r I hp;let⟨ts,ζ,n,F⟩:=hp;rw[f_,y.1]at n;refine q D (ts.NL V.π) H' (T.ν r) (.NT (GE T hD,I)) (by rw[ol,n]) λj x M=>?_;rw[tS]at M;let⟨a,ha,ζ⟩:=BG M;unfold Av;rw[Ω (!0)];show(a,1,F j a ha)
def qZ(r:ς.ψ f<*Ru "<lambda>" Xe f_Q f_P Qn OT pm c XX)(d:ς.N7 (.π c) Xe)(C:A2 ς OT Qn ["behind"] [.π m2])(j:g_ L W2 B2)(l:Df P w K mg ς "has_marked" 1 [Q0,Q4] Xu):aa P w K mg ς pu 2 f (W8 "<lambda>" Xe f_Q f_P Qn OT pm (.π c) XX) ["state"] (Hf .p (xh B2) (EB W1.β W2.β) λH=>Two H m m2 L W1 W2 B1 B2):=by
 refine Hk (UU:=[.π m2]) r ζ d qx C (λvs H Q E h=>?_) (λA Fr s H vs Q E o h=>?_)
 .obtain ⟨k,v,ζ,_⟩:=h;rfl
 .obtain ⟨k,v,ζ,a,u,z,q⟩:=h;refine(_,(wx l o (q_ (pv 1) (Ad 0))),3);let⟨D,S,ζ,n,y,i⟩:=kh u;unfold Av at a;rw[Ω (!0)]at a;let⟨b,ζ,c0,x,ks,B,t,e⟩:=a;cases B;show(0,z8 t aJ (m2,c0,_,L,W2,B2,S,1,z.2,j,.NT ζ,e,IO i (!0),y,q))
end
end H
instance Dn:Nr:=Qm 36
instance bu:Nr:=(p_ Dn).MI 1 (.Vz ((0),(0),(0),(0)))
instance bt:Nr:=(p_ Dn).MI 2 (.Vz ((0),(0),(0),(0)))
instance q_pg:M':="paired.<locals>.goals_of"
instance q_pm:M':="paired.<locals>.is_marked"
abbrev ca:γ (Sn×M'):=[(bj bu,q_pg,),(bj bt,q_pm,)]
def yE:CW ["pair",Q0,"second"] ["pair"] [Q0,"second"] (h_ bu):=(5,1,!3,5,!0,!3,!3)
def yD:CW ["pair","is_wanted",Q0,"second"] ["pair"] ["is_wanted",Q0,"second"] (h_ bt):=(5,1,!3,5,!0,!3,!3)
abbrev Two(H:Hp)(m m2:υ)(L:LN)(W1 W2:LL)(B1 B2:γ MX):Prop:=zl H m L W1 B1/\zl H m2 L W2 B2
section
variable{P:Program}{w:World}{K:Frag}{mg:Str->Option Value}{base:Heap}{f c m m2 g cg:Addr}{clos:List (Str×Addr)}{doc pm ctv:Value}{L:LN}{W1 W2:LL}{B1 B2:List Bool}{rule:Bool->Bool->Bool}
def yW(ho:ς.ψ f<*Ry Z0 q_pg (t5 bu) (p_ bu) (h_ bu) OT Pi pm c XX)(S:ς.N7 (.π c) q_pg)(C:A2 ς OT (h_ bu) [Q0,"second"] [.π m,.π m2])(J:g_ L W1 B1)(X:g_ L W2 B2)(u:mg "list"=ε)(z:mg "zip"=ε):aa P w K mg ς pu 1 f (Δ.W.fnX Z0 q_pg (t5 bu) (p_ bu) (h_ bu) OT .ε .ε Pi pm ε (.π c) XX) ["pair"] (He .t L (gP W1 W2) (uP W1.β W2.β) λH=>Two H m m2 L W1 W2 B1 B2):=by
 refine Gi (UU:=[.π m,.π m2]) ho ζ S yE C (λvs H Q E h=>?_) (λA Fr s H vs Q E hr h=>?_)
 .obtain ⟨k,v,ζ,_⟩:=h;rfl
 .obtain ⟨k,v,ζ,N,hU,hM,q⟩:=h;refine(_,(k_ (o9 (i8 ζ ζ u ζ z (q_ (GK (Ad 1) (Ad 0)) (GK (Ad 2) (Ad 0)))))),3);let⟨a,b,ζ,ha,hb⟩:=kj hU;unfold Av at N;rw[Ω (!0)]at N;let⟨pp,ζ,O⟩:=N;let⟨U,T⟩:=hM;let⟨wy,mk,n,h1,h2,h3,h4,h5⟩:=U;let⟨ab,ag,d,g1,g2,g3,g4,g5⟩:=T;obtain⟨D,I⟩:∃D,n[a]?<*D:=(n[a]'(by rw[h4];show ha),n_ _);obtain⟨M,p⟩:∃D,d[b]?<*D:=(d[b]'(by rw[g4];show hb),n_ _);let⟨ws,e5,e6⟩:=h5 _ _ I;let⟨y,f5,f6⟩:=g5 _ _ p;let i:=J.Vt ws (AC e5);let o:=X.Vt y (AC f5);let an:=J.lt.hi;let r:H pp<*.No [.MQ (a:ML),.MQ (b:ML)]:=O;refine(z8 h1 aJ (z8 r aL (Fa h2 (D_ V.π I) ?_)));refine(z8 g1 aJ (z8 r aJ (Fa g2 (D_ V.π p) ?_)));refine(D,M,4,e6,f6,by rw[f_,f_,i.1,o.1],by rw[f_,i.1];omega,λl ts H2 B nd R sm hl ht=>?_);refine q l (ts.NL V.π) H2 sm (.NT (R,hl)) (by rw[ol,B,f_];show i.1) λj x Z=>?_;rw[tS]at Z;let⟨t,F,ζ⟩:=BG Z;let hj:j<L.β:=by have:=(q5 F).1;rw[B,f_,i.1]at this;show this
  unfold Av;rw[Ω (!0)];let ew:W1.MI a []=ws:=by rw[u6,e5];rfl
  let Y:W2.MI b []=y:=by rw[u6,f5];rfl
  refine(t,1,3);let e:=ht j t _ _ F (CU (by rw[i.1];show hj)) (CU (by rw[o.1];show hj));change _<*HO.No (c_ [QT W1 a j,QT W2 b j]);rw[e];unfold QT;rw[ew,Y];rfl
def yV(J:ς.ψ f<*Ry Q7 q_pm (t5 bt) (p_ bt) (h_ bt) OT Pi pm c XX)(n:ς.N7 (.π c) q_pm)(C:A2 ς OT (h_ bt) ["is_wanted",Q0,"second"] [.π g,.π m,.π m2])(x:g_ L W1 B1)(u:g_ L W2 B2)(M:ς.ψ g<*(oc,od,.QY z,sl))(o:Ao K z ["one","two"] [])(R:aa P w K mg ς pu 1 g z ["one","two"] (b9 WX)):aa P w K mg ς pu 2 f (Δ.W.fnX Q7 q_pm (t5 bt) (p_ bt) (h_ bt) OT .ε .ε Pi pm ε (.π c) XX) ["pair"] (Hf .t (LG WX B1 B2) (uP W1.β W2.β) λH=>Two H m m2 L W1 W2 B1 B2):=by
 refine Gi (UU:=[.π g,.π m,.π m2]) J ζ n yD C (λvs H Q E h=>?_) (λA Fr s H vs Q E I h=>?_)
 .obtain ⟨k,v,ζ,_⟩:=h;rfl
 .obtain ⟨k,v,ζ,j,S,T,q⟩:=h;refine(_,(k_ (o9 (HV (i:=1) R I M o (pv 1) (q_ (GK (Ad 2) (Ad 0)) (GK (Ad 3) (Ad 0)))))),3);let⟨a,b,ζ,O,N⟩:=kj S;unfold Av at j;rw[Ω (!0)]at j;let⟨D,ζ,l⟩:=j;let⟨r,p⟩:=T;let⟨Z,mk,y,h1,h2,U,h4,h5⟩:=r;let⟨B,F,e,Y,g2,X,g4,g5⟩:=p;let d:H D<*.No [.MQ (a:ML),.MQ (b:ML)]:=l;show(1,z8 h1 dH (z8 d aL (Fa U (HU (ik x.bl O)) (z8 Y dH (z8 d aJ (Fa X (HU (ik u.bl N)) (4,q H (a'.Th _))))))))
end
instance EE:Nr:=Qm 29
instance IE:M':="either.<locals>.<lambda>"
instance Jt:Ro:=match (p_ EE).MI 0 (.Vz ((0),(0),(0),(0)))with
 |.XH (δ (.QE _ [_,_,l] _ _)) _=>l
 |_=>.Nz "" ((0),(0),(0),(0))
instance jZ:QK:=match Jt with|.QW a _ _ _=>a|_=>([],[],ε,[],[],ε,[])
instance jY:Ro:=match Jt with|.QW _ b _ _=>b|_=>.Nz "" ((0),(0),(0),(0))
instance X7:RX:=match Jt with|.QW _ _ s _=>s|_=>h_ Dn
instance qR:Sn:=match Jt with|.QW _ _ _ p=>p|_=>((0),(0),(0),(0))
abbrev Ju:γ (Sn×M'):=[(qR,IE,)]
def oq:CW ["one","two"] ["one","two"] [] X7:=(5,1,!3,5,!0,!3,!3)
def oF:vw [Q0,"second"] [Q0,"second"] (h_ EE):=Aa
def oQ(i:ς.ψ f<*Ru "<lambda>" IE jZ jY X7 d pm c g)(e:ς.N7 (.π c) IE)(C:A2 ς d X7 [] []):aa P w K mg ς pu 1 f (W8 "<lambda>" IE jZ jY X7 d pm (.π c) g) ["one","two"] (b9 (λa b=>a||b)):=by
 refine Hk (UU:=[]) i ζ e oq C (λvs H Q E h=>?_) (λA Fr s H vs Q E j h=>?_)
 .obtain ⟨a,b,ζ,_⟩:=h;rfl
 .obtain ⟨a,b,ζ,q⟩:=h;refine(_,(yR (pv 0) (Fz (pv 1))),3);cases a with
  |ξ=>show(6,aw q)
  |η=>show(6,aj (0,q))
instance EF:Nr:=Qm 30
instance cy:M':="both.<locals>.<lambda>"
instance hX:Ro:=match (p_ EF).MI 0 (.Vz ((0),(0),(0),(0)))with
 |.XH (δ (.QE _ [_,_,l] _ _)) _=>l
 |_=>.Nz "" ((0),(0),(0),(0))
instance tz:QK:=match hX with|.QW a _ _ _=>a|_=>([],[],ε,[],[],ε,[])
instance sY:Ro:=match hX with|.QW _ b _ _=>b|_=>.Nz "" ((0),(0),(0),(0))
instance x_both:RX:=match hX with|.QW _ _ s _=>s|_=>h_ Dn
instance wT:Sn:=match hX with|.QW _ _ _ p=>p|_=>((0),(0),(0),(0))
abbrev Jv:γ (Sn×M'):=[(wT,cy,)]
def tY:CW ["one","two"] ["one","two"] [] x_both:=(5,1,!3,5,!0,!3,!3)
def uc:vw [Q0,"second"] [Q0,"second"] (h_ EF):=Aa
def uu(i:ς.ψ f<*Ru "<lambda>" cy tz sY x_both d pm c g)(e:ς.N7 (.π c) cy)(C:A2 ς d x_both [] []):aa P w K mg ς pu 1 f (W8 "<lambda>" cy tz sY x_both d pm (.π c) g) ["one","two"] (b9 (λa b=>a&&b)):=by
 refine Hk (UU:=[]) i ζ e tY C (λvs H Q E h=>?_) (λA Fr s H vs Q E j h=>?_)
 .obtain ⟨a,b,ζ,_⟩:=h;rfl
 .obtain ⟨a,b,ζ,q⟩:=h;refine(_,(FA (pv 0) (Fz (pv 1))),3);cases a with
  |ξ=>show(6,aw (0,q))
  |η=>show(6,aj q)
instance EG:Nr:=Qm 31
instance cu:M':="less.<locals>.<lambda>"
instance hV:Ro:=match (p_ EG).MI 0 (.Vz ((0),(0),(0),(0)))with
 |.XH (δ (.QE _ [_,_,l] _ _)) _=>l
 |_=>.Nz "" ((0),(0),(0),(0))
instance tu:QK:=match hV with|.QW a _ _ _=>a|_=>([],[],ε,[],[],ε,[])
instance sX:Ro:=match hV with|.QW _ b _ _=>b|_=>.Nz "" ((0),(0),(0),(0))
instance x_less:RX:=match hV with|.QW _ _ s _=>s|_=>h_ Dn
instance wS:Sn:=match hV with|.QW _ _ _ p=>p|_=>((0),(0),(0),(0))
abbrev Jw:γ (Sn×M'):=[(wS,cu,)]
def tX:CW ["one","two"] ["one","two"] [] x_less:=(5,1,!3,5,!0,!3,!3)
def ua:vw [Q0,"second"] [Q0,"second"] (h_ EG):=Aa
def ut(i:ς.ψ f<*Ru "<lambda>" cu tu sX x_less d pm c g)(e:ς.N7 (.π c) cu)(C:A2 ς d x_less [] []):aa P w K mg ς pu 1 f (W8 "<lambda>" cu tu sX x_less d pm (.π c) g) ["one","two"] (b9 (λa b=>a&&!b)):=by
 refine Hk (UU:=[]) i ζ e tX C (λvs H Q E h=>?_) (λA Fr s H vs Q E j h=>?_)
 .obtain ⟨a,b,ζ,_⟩:=h;rfl
 .obtain ⟨a,b,ζ,q⟩:=h;refine(_,(FA (pv 0) (Fz (BP (pv 1)))),3);cases a with
  |ξ=>show(6,aw (6,q))
  |η=>show(6,aj q)
namespace H
def g_C:vw [Q0,"second","ahead","behind","entered",Z0] [Q0,"second"] (h_ y_):=Aa
set_option maxHeartbeats 8000000 in
def FY{P:NC}{w:Ny}{K:Nl}(nd:(ts.NL Uj.fst).Nx)(i0:(P0,OL,)∈ts)(i1:(P1,Wx,)∈ts){oc kV Pi pm ct b6 bo aN bk U bS cV:θ}(lk:K.ρ f<*(oc,od,.QY (Ps "then" "then" (t5 y_) (p_ y_) (h_ y_) .ε kV Pi pm an (.π c) ct),eB))(dn:O8 K (.π c) "then"=ξ)(lw:K.ρ fw<*(b6,cU,.QY (Ps "walked" "walked" (t5 Bt) (p_ Bt) (h_ Bt) (.π tD) bo aN bk an2 U bS),Z7))(cw:O8 K U "walked"=ξ)(kw:UO K (.π fw)=ξ)(mw:mg "walked"<*.π fw)(lD:K.ρ tD<*(cV,eC,.Sx #[.ε] nD,er))(WT:Gr K mg cW fI fdI)(b1:mg "len"=ε)(a0:mg "zip"=ε)(hC:QD ς c P1)(hB:Dy ς mg)(DL:∀ς:NR,Df P w K mg ς "lots_after" 1 [Q0,Q4] Tg)(DH:∀ς:NR,Df P w K mg ς "has_marked" 1 [Q0,Q4] Xu)(DT:∀ς:NR,Df P w K mg ς "lot_of" 1 [Q4] (HA K))(d5:AT P w K mg ς "need_same_letters" 1 [Q0,"second"] (Jr cOL))(cM:Df P w K mg ς "least" 7 [Q0] (IB P0 OL))(d6:AT P w K mg ς "told" 4 [Q8] (GT cW XE)):aa P w K mg ς (Al P w) 8 f (Ps "then" "then" (t5 y_) (p_ y_) (h_ y_) .ε kV Pi pm an (.π c) ct) [Q0,"second"] (bC XE ts cR):=by
 refine Hm lk dn g_C (λvs H Q E h=>?_) (λA Fr s H vs Q E hr h=>?_)
 .obtain ⟨m,m2,L,W1,Z,B1,B2,ζ,_⟩:=h;rfl
 .obtain ⟨n1,n2,L,V1,V2,D1,D2,ζ,hN1,hNa1,cD,hNa2,h18,h28,hA,qE,q⟩:=h;let cC:=hA _ i0;let dc:=hr.Pg (j:=1) (!0);let da:=hr.Pg (j:=2) (!0);let c8:=hr.Pg (j:=4) (!0);let c7:=hr.Pg (j:=5) (!0);refine(_,(m_ (BB (Ct d5 dc (CI λ_ _ _ z=>z) (q_ (pv 0) (pv 1)))) (m_ (va 2 g_C.nd (wx cM hr (o_ (pv 0)))) (m_ (va 3 g_C.nd (wx cM hr (o_ (pv 1)))) (m_ (FM (i:=4) (M4:=Ym) (c:=c) (P0:=P1) (OL:=Wx) g_C.nd ζ (Or.NT ζ) ζ hC hB (!3) (!3)) (m_ (FM (i:=5) (M4:=Vu) (c:=c) (P0:=P1) (OL:=Wx) g_C.nd ζ (Or.NI ζ) ζ hC hB (!3) (!3)) (k_ (o9 (Ct d6 c8 (CI λ_ _ _ z=>z) (o_ (HX (XW:=[.Rt]) ζ mw kw (Iz (kV:=bo) (Pi:=aN) (pm:=bk) (an:=an2) (Qi:=U) (ct:=bS) lD) (.NX ζ .Op) (Bp (Ad 2) (wm (qL (i:=4) [Z4,Q4] (pv 4) (q_ b' (AA Dd)) (λ_=>rfl)) (pv 5) (Hj (M4:=Xe) (c:=c) (P0:=P1) (OL:=Wx) ζ hC hB (!3) (!3)))) (λ_=>rfl))))))))))),3);refine(6,n1,n2,L,L,V1,D1,V2,D2,1,hN1,hNa1,cD,hNa2,λz=>MJ ζ z,λ_=>?_);refine(0,n1,L,V1,D1,1,hN1,hNa1,cC,λm W1 B1 Ha sa bD d1 T=>?_);let kA:KT ts H Ha:=KT.Z8 nd i0 sa cC bD;let cP:=kA.sm;refine(0,n2,L,V2,D2,1,cD.QN cP.No,hNa2,bD,λm2 Z B2 H0 sb dy d0 S=>?_);let F:=T.Se;let J:=S.Se;let d2:W1.β≤8:=IO T.PJ h18;let aM:Z.β≤8:=IO S.PJ h28;let kB:KT ts Ha H0:=KT.Z8 nd i0 sb bD dy;let hT:A_ H0 P1 Wx:=kB.tb (kA.tb hA) _ i1;let cO:=kB.sm;let aH:Two H0 m m2 L W1 Z B1 B2:=(d1.QN cO.No,d0);refine(hT,λI C c1 H1 a3 bg e6 eO s1 cB co ch=>(cB,λaS Y X H2 b3 cs e5 eN s2 bP dp dk=>?_));let b5:Cu P1 H0 H2:=HY s1 s2;let a2:=FP b5 hT;let D:Two H2 m m2 L W1 Z B1 B2:=(aH.1.QN a2,aH.2.QN a2);let⟨wy,mk,ee,h1,h2,h3,h4,h5⟩:=id D.1;let⟨eu,dT,_⟩:=id cB;let⟨et,dz,_⟩:=id bP;let cd:∀{b:υ}{φ:NR->Prop},H1 b<*.ext φ->b≠P1:=λ{b φ}e z=>by rw[z,dT]at e;cases e
  let cX:∀{b:υ}{φ:NR->Prop},H2 b<*.ext φ->b≠P1:=λ{b φ}e z=>by rw[z,dz]at e;cases e
  let az:H2 C<*Aj C "entered" Ym (t5 aW) (p_ aW) (h_ aW) I c1:=s2 _ _ (cd ch) ch;let a9:H2 c1<*pd c1 Ym:=s2 _ _ (cd co) co;refine(z8 h1 aL (C,1,(7,7,_,az),Nb _,λel dm=>?_));let sE:a' H2 (L2.MR H2 el (.M5 [])):=a'.MR dm;let aA:L2.MR H2 el (.M5 []) el<*.M5 (c_ []):=j_;generalize L2.MR H2 el (.M5 [])=H2' at sE aA;let as:=sE _ _ az;let a8:=sE _ _ a9;let aB:Two H2' m m2 L W1 Z B1 B2:=(D.1.OP sE,D.2.OP sE);let cx:∀u∈[C,c1],∃φ,H2' u<*.ext φ:=λu W=>by
   simp only[MN,NW,N9]at W;rcases W with ζ|rfl
   .exact (_,as)
   .exact (_,a8)
  refine((7,7,_,as),[C,c1],cx,λM bV=>?_);let⟨eg,ev,ek,d4⟩:=bV.XA C _ (!1) as;let ea:M.N7 (.π c1) Ym:=bV.XA c1 _ (!1) a8;let C5:A2 M I (h_ aW) ["ahead"] [.π m]:=Go bV a3 bg ζ λi y v l B=>by
   match i,l,B with
   |0,l,B=>cases l;cases B;show(((2),5),5)
   |i+1,l,_=>simp at l
  let ar:∀{b:υ}{o:HO},H2' b<*o->(∀φ,o≠.ext φ)->b∉[C,c1]:=λ{b o}e ho O=>by
   let⟨φ,B⟩:=cx b O;rw[e]at B;show ho φ (ω.δ.QG B)
  let a1:∀b xs,H2' b<*.No xs->Ak [C,c1] H2' b<*.No xs:=λb xs e=>by rw[BH (ar e (λ_ z=>nomatch z))];show e
  refine((2),kE B1 W1.β Z.β (λH=>Two H m m2 L W1 Z B1 B2),_,da,.P' λus hl=>by let⟨_,_,ζ⟩:=Gp hl;rfl,vL d4 ea C5 F J aM (DT M),(0),el,[],ζ,by rw[BH (ar aA (λ_ z=>nomatch z))];show aA,F.n1,!1,!1,(aB.1.QN a1,aB.2.QN a1),λst b0 cS bs dv=>?_);let s3:a' H2 (T9 [C,c1] H2' b0):=λb o e=>by
   let e':=sE _ _ e;by_cases O:b∈[C,c1]
   .rw [GG O];show e'
   .rw [Ee O];show cS b o (by rw[BH O];show e')
  let a4:bq .p (T9 [C,c1] H2' b0) (dW B1 0 []) st:=bs.OP λb xs e=>by
   rw[Ee λO=>?_]
   .exact e
   .rw [dv b O]at e;cases e
  generalize T9 [C,c1] H2' b0=H3 at s3 a4;let bM:=Gm bP s3;refine(0,bM,λbU f3 c3 N b2 cp e4 eH s4 cA cl cg=>?_);let⟨es,e3,e0,ds⟩:=id cA;let aT:∀{b:υ}{φ:NR->Prop},H2 b<*.ext φ->N b<*.ext φ:=λe=>s4 _ _ (cX e) (s3 _ _ e);let a6:N C<*Aj C "entered" Ym (t5 aW) (p_ aW) (h_ aW) I c1:=aT az;let bd:N c1<*pd c1 Ym:=aT a9;let a5:N Y<*Aj Y Z0 Vu (t5 ax) (p_ ax) (h_ ax) aS X:=aT dk;let a7:N X<*pd X Vu:=aT dp;let ap:=FP s4 bM;let aC:Two N m m2 L W1 Z B1 B2:=((D.1.OP s3).QN ap,(D.2.OP s3).QN ap);let cf:bq .p N (dW B1 0 []) st:=a4.OP ap;let cv:∀u∈[C,Y,f3,c1,X,c3],∃φ,N u<*.ext φ:=λu W=>by
   simp only[MN,NW,N9]at W;rcases W with ζ|rfl|rfl|rfl|rfl|rfl
   .exact (_,a6)
   .exact (_,a5)
   .exact (_,cg)
   .exact (_,bd)
   .exact (_,a7)
   .exact (_,cl)
  refine([C,Y,f3,c1,X,c3],cv,λg Wd=>?_);let⟨ej,eA,ep,cK⟩:=Wd.XA C _ (!1) a6;let⟨ei,ez,eo,cI⟩:=Wd.XA Y _ (!1) a5;let⟨ey,en,cH⟩:=Wd.XA f3 _ (!1) cg;let ed:g.N7 (.π c1) Ym:=Wd.XA c1 _ (!1) bd;let ec:g.N7 (.π X) Vu:=Wd.XA X _ (!1) a7;let eb:g.N7 (.π c3) Xe:=Wd.XA c3 _ (!1) cl;let C1:A2 g I (h_ aW) ["ahead"] [.π m]:=Go Wd a3 bg ζ λi y v l B=>by
   match i,l,B with
   |0,l,B=>cases l;cases B;show(((2),5),5)
   |i+1,l,_=>simp at l
  let C2:A2 g aS (h_ ax) ["ahead","behind","entered"] [.π m,.π m2,.π C]:=Go Wd b3 cs ζ λi y v l B=>by
   match i,l,B with
   |0,l,B=>cases l;cases B;show(((2),5),5)
   |1,l,B=>cases l;cases B;show(((3),5),5)
   |2,l,B=>cases l;cases B;show(((4),5),5)
   |i+3,l,_=>simp at l
  let C3:A2 g bU Qn ["behind"] [.π m2]:=Go Wd b2 cp ζ λi y v l B=>by
   match i,l,B with
   |0,l,B=>cases l;cases B;show(((3),5),5)
   |i+1,l,_=>simp at l
  let Fw:j7 K "walked" "walked" Bt fw _:=((b6,cU,.π tD,bo,aN,bk,an2,U,bS,Z7,1,lw,cw),kw);refine((5),Hg cW .p L (Hq W1 B1 Z) (xh B2) (EB W1.β Z.β) (λH=>Two H m m2 L W1 Z B1 B2) Y f3,c7,Ix Fw WT b1 a0 ((q9 cI ec C2 F J a0 (DL g) cK (.P' λus hl=>by let⟨_,_,ζ⟩:=Gp hl;rfl) (vL cK ed C1 F J aM (DT g))).Pg (!0)) ((qZ cH eb C3 J (DH g)).Pg (!0)) cI (_,ζ) cH (_,ζ) (.P' λus hl=>by let⟨_,ζ⟩:=D0 hl;rfl) (.P' λus hl=>by let⟨_,ζ⟩:=D0 hl;rfl) (λ_ _ s h=>(h.1.OP s,h.2.OP s)),3);let bm:∀{b:υ}{o:HO},N b<*o->(∀φ,o≠.ext φ)->b∉[C,Y,f3,c1,X,c3]:=λ{b o}e ho O=>by
   let⟨φ,B⟩:=cv b O;rw[e]at B;show ho φ (ω.δ.QG B)
  let ag:∀b xs,N b<*.No xs->Ak [C,Y,f3,c1,X,c3] N b<*.No xs:=λb xs e=>by rw[BH (bm e (λ_ z=>nomatch z))];show e
  let aV:=tQ (n1:=W1.β) Z.β d2;refine(dW B1 0 [],.π st,ε,1,F.lt,3,jG aM J.n1 F.n1 (!1),uX F J aM,IO aV (!0),(aC.1.QN ag,aC.2.QN ag),λwk t wd y md ks eq ws bi R Bm H5 cN hW ht eS c5 hy ce dd bf ab bl c4 Rp le he dt=>?_)
  .unfold Av;rw[Ω (!0)];show(st,1,cf.OP ag)
  let hR:R.β=ks.β:=by
   rcases he with z|⟨n,z,_⟩
   .exact z
   .cases z
  let TF:∀{b:υ}{o:HO},H5 b<*o->T9 [C,Y,f3,c1,X,c3] N H5 b<*o:=λ{b o}e=>by
   rw[Ee λO=>?_]
   .exact e
   .rw [dt b O]at e;cases e
  let d3:∀{b:υ}{o:HO},N b<*o->T9 [C,Y,f3,c1,X,c3] N H5 b<*o:=λ{b o}e=>by
   by_cases O:b∈[C,Y,f3,c1,X,c3]
   .rw [GG O];show e
   .exact TF (cN b o (by rw[BH O];show e))
  rw[hR]at bf;let⟨dx,ew⟩:=hW.ex;let kT:KT ts H (T9 [C,Y,f3,c1,X,c3] N H5):=(kA.ν (kB.ν ((KT.Z8 nd i1 b5 hT bP).ν ((KT.of s3).ν (KT.Z8 nd i1 s4 bM cA))))).ν (KT.of λb o e=>d3 e);let aU:=Ic (Bm:=Bm) F.lt bf ab hR bl (IO le (IO aV (!0)));refine(wk,t,wd,y,md,bi,L,R,Bm,ws,1,(dx,TF ew),TF hy,(ce.1,λi a r l B=>TF (ce.2 i a r l B)),TF dd,TF c5,by rw[hR];show bf.PJ.MO,aU,λd H' s' p=>qE d H' (kT.ν (KT.of s')) p,λmm k ff H6 hm b4 de s6 hf dV=>?_);refine q ff _ _ H6 (kT.ν (KT.of s6)) dV (GI hm aU) (Ii de) (Ih bf ab hR aU b4 hm) λu W=>?_;unfold AX cR;dsimp only;rw[Hi hm aU b4 W,Ie bf ab hR bl c4 W,qe F J aM W];constructor
  .rintro⟨x,v,ζ,l,B⟩;show(x,v,1,by rw[<-T.YD hNa1 λc hc=>W c (by simp[hc])];show l,by rw[<-S.YD hNa2 λc hc=>W c (by simp[hc])];show B)
  .rintro⟨x,v,ζ,l,B⟩;show(x,v,1,by rw[T.YD hNa1 λc hc=>W c (by simp[hc])];show l,by rw[S.YD hNa2 λc hc=>W c (by simp[hc])];show B)
end H
namespace A
def g_h:vw [Q0,"piece","entered",Z0] [Q0] (h_ vb):=Aa
def Fi{P:NC}{w:Ny}{K:Nl}(nd:(ts.NL Uj.fst).Nx)(i0:(P0,OL,)∈ts)(i1:(P1,Wy,)∈ts){oc kV Pi pm ct a9 aT T aN J a1 b5:θ}(lk:K.ρ f<*(oc,od,.QY (Ps "again" "again" (t5 vb) (p_ vb) (h_ vb) .ε kV Pi pm an (.π c) ct),dy))(cx:O8 K (.π c) "again"=ξ)(lw:K.ρ fw<*(a9,b4,.QY (Ps "walked" "walked" (t5 Bt) (p_ Bt) (h_ Bt) (.π tD) aT T aN an2 J a1),Z7))(cw:O8 K J "walked"=ξ)(kw:UO K (.π fw)=ξ)(mw:mg "walked"<*.π fw)(lD:K.ρ tD<*(b5,dz,.Sx #[.ε] nD,dk))(WT:Gr K mg cW fI fdI)(a3:mg "len"=ε)(a2:mg "zip"=ε)(hC:QD ς c P1)(hB:Dy ς mg)(DL:∀ς:NR,Df P w K mg ς "lots_after" 1 [Q0,Q4] Tg)(DH:∀ς:NR,Df P w K mg ς "has_marked" 1 [Q0,Q4] Xu)(DT:∀ς:NR,Df P w K mg ς "lot_of" 1 [Q4] (HA K))(cP:Df P w K mg ς "least" 7 [Q0] (IB P0 OL))(cS:AT P w K mg ς "told" 4 [Q8] (GT cW XE)):aa P w K mg ς (Al P w) 8 f (Ps "again" "again" (t5 vb) (p_ vb) (h_ vb) .ε kV Pi pm an (.π c) ct) [Q0] (gp XE ts Ag):=by
 refine Hm lk cx g_h (λvs H Q E h=>?_) (λA Fr s H vs Q E hr h=>?_)
 .obtain ⟨m,L,W,B,ζ,_⟩:=h;rfl
 .obtain ⟨m0,L,W0,B0,ζ,cN,aC,hW8,hA,qE,q⟩:=h;let bU:=hA _ i0;let cl:=hr.Pg (j:=4) (!0);let ch:=hr.Pg (j:=5) (!0);refine(_,(m_ (va 1 g_h.nd (wx cP hr (o_ (pv 0)))) (m_ (FM (i:=2) (M4:=q_ae) (c:=c) (P0:=P1) (OL:=Wy) g_h.nd ζ (Or.NT ζ) ζ hC hB (!3) (!3)) (m_ (FM (i:=3) (M4:=q_ag) (c:=c) (P0:=P1) (OL:=Wy) g_h.nd ζ (Or.NI ζ) ζ hC hB (!3) (!3)) (k_ (o9 (Ct cS cl (CI λ_ _ _ z=>z) (o_ (HX (XW:=[.Rt]) ζ mw kw (Iz (kV:=aT) (Pi:=T) (pm:=aN) (an:=an2) (Qi:=J) (ct:=a1) lD) (.NX ζ .Op) (Bp (Ad 1) (wm (Bg (q_ BK (Bg (o_ b')))) (pv 3) (Hj (M4:=q_al) (c:=c) (P0:=P1) (OL:=Wy) ζ hC hB (!3) (!3)))) (λ_=>rfl))))))))),3);refine(0,m0,L,W0,B0,1,cN,aC,bU,λm W B H0 s0 bS hM a0=>?_);let D:=a0.Se;let h8:W.β≤8:=IO a0.PJ hW8;let kA:KT ts H H0:=KT.Z8 nd i0 s0 bU bS;let hT:A_ H0 P1 Wy:=kA.tb hA _ i1;refine(hT,λX O c1 H1 a6 bs d6 d0 s1 bP cB cv=>(bP,λU N M H2 a5 bo d5 dV s2 aV cA cs=>?_));let a8:Cu P1 H0 H2:=HY s1 s2;let bV:zl H2 m L W B:=hM.QN (FP a8 hT);let⟨wy,mk,c5,h1,h2,h3,h4,h5⟩:=id bV;refine(z8 h1 aL (sT (by change 1≤16777216;decide),λzt cf=>(sT (by change 2≤16777216;decide),λst Rv=>?_)));let s3:a' H2 (L2.MR (L2.MR H2 zt (.No [.MQ 0])) st (.No [.bl ξ,.π zt])):=(a'.MR cf).ν (a'.MR Rv);let ar:bq .q (L2.MR (L2.MR H2 zt (.No [.MQ 0])) st (.No [.bl ξ,.π zt])) [1,0] st:=(zt,(1),[0],1,LT _,j_,Ah j_ Rv);generalize L2.MR (L2.MR H2 zt (.No [.MQ 0])) st (.No [.bl ξ,.π zt])=H3 at s3 ar;let aU:=Gm aV s3;refine(0,aU,λcU Y Z C a4 bm d4 dT s4 bM bk bi=>?_);let⟨dp,cI,_⟩:=id bP;let⟨dn,cH,_⟩:=id aV;let⟨dm,d3,d2,cC⟩:=id bM;let cd:∀{b:υ}{φ:NR->Prop},H1 b<*.ext φ->b≠P1:=λ{b φ}e z=>by rw[z,cI]at e;cases e
  let b6:∀{b:υ}{φ:NR->Prop},H2 b<*.ext φ->b≠P1:=λ{b φ}e z=>by rw[z,cH]at e;cases e
  let aH:∀{b:υ}{φ:NR->Prop},H2 b<*.ext φ->C b<*.ext φ:=λe=>s4 _ _ (b6 e) (s3 _ _ e);let up1:∀{b:υ}{φ:NR->Prop},H1 b<*.ext φ->C b<*.ext φ:=λe=>aH (s2 _ _ (cd e) e);let az:C O<*Aj O "entered" q_ae (t5 bv) (p_ bv) (h_ bv) X c1:=up1 cv;let aB:C c1<*pd c1 q_ae:=up1 cB;let as:C N<*Aj N Z0 q_ag (t5 bh) (p_ bh) (h_ bh) U M:=aH cs;let aA:C M<*pd M q_ag:=aH cA;let ap:=FP s4 aU;let cM:zl C m L W B:=(bV.OP s3).QN ap;let bg:bq .q C [1,0] st:=ar.OP ap;let bD:∀u∈[O,N,Y,c1,M,Z],∃φ,C u<*.ext φ:=λu hu=>by
   simp only[MN,NW,N9]at hu;rcases hu with ζ|rfl|rfl|rfl|rfl|rfl
   .exact (_,az)
   .exact (_,as)
   .exact (_,bi)
   .exact (_,aB)
   .exact (_,aA)
   .exact (_,bk)
  refine([O,N,Y,c1,M,Z],bD,λg Wd=>?_);let⟨c8,dv,dd,b2⟩:=Wd.XA O _ (!1) az;let⟨c7,dt,dc,b1⟩:=Wd.XA N _ (!1) as;let⟨ds,da,b0⟩:=Wd.XA Y _ (!1) bi;let c4:g.N7 (.π c1) q_ae:=Wd.XA c1 _ (!1) aB;let cX:g.N7 (.π M) q_ag:=Wd.XA M _ (!1) aA;let cV:g.N7 (.π Z) q_al:=Wd.XA Z _ (!1) bk;let C1:A2 g X (h_ bv) ["piece"] [.π m]:=Go Wd a6 bs ζ λi y v F I=>by
   match i,F,I with
   |0,F,I=>cases F;cases I;show(((1),5),5)
   |i+1,F,_=>simp at F
  let C2:A2 g U (h_ bh) ["entered","piece"] [.π O,.π m]:=Go Wd a5 bo ζ λi y v F I=>by
   match i,F,I with
   |0,F,I=>cases F;cases I;show(((2),5),5)
   |1,F,I=>cases F;cases I;show(((1),5),5)
   |i+2,F,_=>simp at F
  let C3:=Tu.C8 (sc:=Qn) Wd a4 bm;let Fw:j7 K "walked" "walked" Bt fw _:=((a9,b4,.π tD,aT,T,aN,an2,J,a1,Z7,1,lw,cw),kw);refine((5),Hg cW .q L (Ho W B) xi (E_ W.β) (λH=>zl H m L W B) N Y,ch,Ix Fw WT a3 a2 ((yY b1 cX C2 D h8 (DL g) b2 (.P' λus hl=>by let⟨_,ζ⟩:=D0 hl;rfl) (yZ b2 c4 C1 D h8 (DH g) (DT g))).Pg (!0)) ((yX b0 cV C3 _ _).Pg (!0)) b1 (_,ζ) b0 (_,ζ) (.P' λus hl=>by let⟨_,ζ⟩:=D0 hl;rfl) (.P' λus hl=>by let⟨_,ζ⟩:=D0 hl;rfl) (λ_ _ s h=>h.OP s),3);let aS:∀{b:υ}{o:HO},C b<*o->(∀φ,o≠.ext φ)->b∉[O,N,Y,c1,M,Z]:=λ{b o}e ho hb=>by
   let⟨φ,I⟩:=bD b hb;rw[e]at I;show ho φ (ω.δ.QG I)
  let ag:∀b xs,C b<*.No xs->Ak [O,N,Y,c1,M,Z] C b<*.No xs:=λb xs e=>by rw[BH (aS e (λ_ z=>nomatch z))];show e
  refine([1,0],.π st,ε,1,D.lt,3,Cw (l:=[0]) (!1) (LT _) (λx hx=>by rw[Ay hx];show D.n1),FR D h8,IO (mH _) (!0),cM.QN ag,λwk t wd y md ks de ws aM R Bm H5 b3 hW ht d1 cg hy bd co bf S bl ce Rp le he cD=>?_)
  .unfold Av;rw[Ω (!0)];show(st,1,bg.OP ag)
  let hR:R.β=ks.β:=by
   rcases he with z|⟨n,z,_⟩
   .exact z
   .cases z
  let TF:∀{b:υ}{o:HO},H5 b<*o->T9 [O,N,Y,c1,M,Z] C H5 b<*o:=λ{b o}e=>by
   rw[Ee λhb=>?_]
   .exact e
   .rw [cD b hb]at e;cases e
  let cO:∀{b:υ}{o:HO},C b<*o->T9 [O,N,Y,c1,M,Z] C H5 b<*o:=λ{b o}e=>by
   by_cases hb:b∈[O,N,Y,c1,M,Z]
   .rw [GG hb];show e
   .exact TF (b3 b o (by rw[BH hb];show e))
  rw[hR]at bf;let⟨dx,ew⟩:=hW.ex;let kT:KT ts H (T9 [O,N,Y,c1,M,Z] C H5):=(kA.ν ((KT.Z8 nd i1 a8 hT aV).ν ((KT.of s3).ν (KT.Z8 nd i1 s4 aU bM)))).ν (KT.of λb o e=>cO e);let ab:=Ic (Bm:=Bm) D.lt bf S hR bl (IO le (IO (mH _) (!0)));refine(wk,t,wd,y,md,aM,L,R,Bm,ws,1,(dx,TF ew),TF hy,(bd.1,λi a r F I=>TF (bd.2 i a r F I)),TF co,TF cg,by rw[hR];show bf.PJ.MO,ab,λd H' s' p=>qE d H' (kT.ν (KT.of s')) p,λmm k ff H6 hm a7 cp s6 hf cK=>?_);refine q ff _ _ H6 (kT.ν (KT.of s6)) cK (GI hm ab) (Ii cp) (Ih bf S hR ab a7 hm) λu hu=>?_;unfold AX;rw[Hi hm ab a7 hu,Ie bf S hR bl ce hu,tq D h8 hu];let tk:∀v:LN,(∀c∈v,c∈u)->B.MI (PD L W 0 v) η=B0.MI (PD L W0 0 v) η:=λv hv=>a0.YD aC λc hc=>hu c (hv c hc);show(λz=>z.congr tk,λz=>z.congr λv hv=>(tk v hv).MO)
end A
inductive IG(P:Program)(w:World)(K:Frag)(mg:Str->Option Value)(cTM:Addr)(ts:List (Addr×List (Pos×Str)))(vs:List V)(H:Hp)(Q:VK)(E:XK):Prop
 |mk (m m2 g cg:Addr) (L:LN) (W1 W2:LL) (B1 B2:List Bool) (rule:Bool->Bool->Bool) (_:vs=[.ref m,.ref m2,.ref g]) (_:zl H m L W1 B1) (_:g_ L W1 B1) (_:zl H m2 L W2 B2) (_:g_ L W2 B2) (_:W1.length≤8) (_:W2.length≤8) (_:xO P w K mg H g cg rule) (_:bF ts H) (_:(∀d H',KT ts H H'->P8 H' d->E (.ref cTM) (some d) H')) (_:∀(f:Addr)(W':LL)(B':List Bool)(H':Hp),KT ts H H'->zl H' f L W' B'->g_ L W' B'->W'.length≤8->(∃v,BI L W' B' v)->(∀u:LN,(∀c∈u,c∈L)->(AX L W' B' u=true↔DZ rule (AX L W1 B1) (AX L W2 B2) u))->Q (.ref f) H')
def g_E:vw [Q0,"second","is_wanted",Z0,Q7] [Q0,"second","is_wanted"] (h_ Dn):=Aa
set_option maxHeartbeats 8000000 in
def oV{P:NC}{w:Ny}{K:Nl}(nd:(ts.NL Uj.fst).Nx)(i1:(P1,ca,)∈ts){oc kV Pi pm ct a4 aT U aN F aU b4:θ}(lk:K.ρ f<*(oc,od,.QY (Ps "paired" "paired" (t5 Dn) (p_ Dn) (h_ Dn) .ε kV Pi pm an (.π c) ct),dn))(co:O8 K (.π c) "paired"=ξ)(lw:K.ρ fw<*(a4,b3,.QY (Ps "walked" "walked" (t5 Bt) (p_ Bt) (h_ Bt) (.π tD) aT U aN an2 F aU),Z7))(cw:O8 K F "walked"=ξ)(kw:UO K (.π fw)=ξ)(mw:mg "walked"<*.π fw)(lD:K.ρ tD<*(b4,dp,.Sx #[.ε] nD,da))(WT:Gr K mg cW fI fdI)(aV:mg "len"=ε)(ag:mg "zip"=ε)(aH:mg "list"=ε)(hC:QD ς c P1)(hB:Dy ς mg)(cM:AT P w K mg ς "need_same_letters" 1 [Q0,"second"] (Jr cOL))(cN:AT P w K mg ς "told" 4 [Q8] (GT cW XE)):aa P w K mg ς (Al P w) 6 f (Ps "paired" "paired" (t5 Dn) (p_ Dn) (h_ Dn) .ε kV Pi pm an (.π c) ct) [Q0,"second","is_wanted"] (IG P w K mg XE ts):=by
 refine Hm lk co g_E (λvs H Q E h=>?_) (λA Fr s H vs Q E hr h=>?_)
 .obtain ⟨m,m2,g,M,L,W1,W2,B1,B2,WX,ζ,_⟩:=h;rfl
 .obtain ⟨m,m2,g,M,L,W1,W2,B1,B2,WX,ζ,bP,D,bM,T,h18,h28,hRu,hA,qE,q⟩:=h;let hT:=hA _ i1;let ce:=hr.Pg (j:=1) (!0);let cd:=hr.Pg (j:=4) (!0);refine(_,(m_ (BB (Ct cM ce (CI λ_ _ _ z=>z) (q_ (pv 0) (pv 1)))) (m_ (FM (i:=3) (M4:=q_pg) (c:=c) (P0:=P1) (OL:=ca) g_E.nd ζ (Or.NI ζ) ζ hC hB (!3) (!3)) (m_ (FM (i:=4) (M4:=q_pm) (c:=c) (P0:=P1) (OL:=ca) g_E.nd ζ (Or.NI ζ) ζ hC hB (!3) (!3)) (k_ (o9 (Ct cN cd (CI λ_ _ _ z=>z) (o_ (HX (XW:=[.Rt]) ζ mw kw (Iz (kV:=aT) (Pi:=U) (pm:=aN) (an:=an2) (Qi:=F) (ct:=aU) lD) (.NX ζ .Op) (Bp (Ad 0) (wm (Bg (q_ b' b')) (pv 3) (pv 4))) (λ_=>rfl))))))))),3);refine(6,m,m2,L,L,W1,B1,W2,B2,1,bP,D,bM,T,λz=>MJ ζ z,λ_=>?_);refine(hT,λX I c1 H1 a1 bm dV dt s1 bD bi bd=>(bD,λW J Y Z a0 bk dT ds s2 bs bg cl=>?_));let S:Cu P1 H Z:=HY s1 s2;let bS:zl Z m L W1 B1:=bP.QN (FP S hT);let cH:zl Z m2 L W2 B2:=bM.QN (FP S hT);let⟨de,cx,_⟩:=id hT;let⟨dd,cv,_⟩:=id bD;let⟨M4,b1,c7,sc,c5,a9,aA,cB,cC⟩:=hRu.ex;let nP:∀{b:υ}{φ:NR->Prop},H1 b<*.ext φ->b≠P1:=λ{b φ}e z=>by rw[z,cv]at e;cases e
  let a5:∀{b:υ}{φ:NR->Prop},H b<*.ext φ->b≠P1:=λ{b φ}e z=>by rw[z,cx]at e;cases e
  let a8:=S g _ (a5 a9) a9;let az:=S M _ (a5 aA) aA;let as:Z I<*Aj I Z0 q_pg (t5 bu) (p_ bu) (h_ bu) X c1:=s2 I _ (nP bd) bd;let aB:Z c1<*pd c1 q_pg:=s2 c1 _ (nP bi) bi;let ar:Z J<*Aj J Q7 q_pm (t5 bt) (p_ bt) (h_ bt) W Y:=cl;let⟨wy,mk,cU,h1,h2,h3,h4,h5⟩:=id bS;refine(z8 h1 aL (sT (by change 2≤16777216;decide),λst Rv=>?_));let C:a' Z (L2.MR Z st (.No [.MQ 0,.MQ 0])):=a'.MR Rv;let ap:L2.MR Z st (.No [.MQ 0,.MQ 0]) st<*.No (c_ [0,0]):=j_;generalize L2.MR Z st (.No [.MQ 0,.MQ 0])=H3 at C ap;let cI:=bS.OP C;let cD:=cH.OP C;let⟨dc,dz,dy,cp⟩:=Gm bs C;let bo:∀u∈[I,J,c1,Y,g,M],∃φ,H3 u<*.ext φ:=λu hu=>by
   simp only[MN,NW,N9]at hu;rcases hu with ζ|rfl|rfl|rfl|rfl|rfl
   .exact (_,C _ _ as)
   .exact (_,C _ _ ar)
   .exact (_,C _ _ aB)
   .exact (_,C _ _ bg)
   .exact (_,C _ _ a8)
   .exact (_,C _ _ az)
  refine(6,[I,J,c1,Y,g,M],bo,λl Wd=>?_);let⟨cX,dm,c4,b0⟩:=Wd.XA I _ (!1) (C _ _ as);let⟨cV,dk,c3,bV⟩:=Wd.XA J _ (!1) (C _ _ ar);let⟨a3,aC,bU⟩:=Wd.XA g _ (!1) (C _ _ a8);let cS:l.N7 (.π c1) q_pg:=Wd.XA c1 _ (!1) (C _ _ aB);let cP:l.N7 (.π Y) q_pm:=Wd.XA Y _ (!1) (C _ _ bg);let cO:l.N7 (.π M) M4:=Wd.XA M _ (!1) (C _ _ az);let C1:A2 l X (h_ bu) [Q0,"second"] [.π m,.π m2]:=Go Wd a1 bm ζ λi y v x B=>by
   match i,x,B with
   |0,x,B=>cases x;cases B;show(((0),5),5)
   |1,x,B=>cases x;cases B;show(((1),5),5)
   |i+2,x,_=>simp at x
  let C2:A2 l W (h_ bt) ["is_wanted",Q0,"second"] [.π g,.π m,.π m2]:=Go Wd a0 bk ζ λi y v x B=>by
   match i,x,B with
   |0,x,B=>cases x;cases B;show(((2),5),5)
   |1,x,B=>cases x;cases B;show(((0),5),5)
   |2,x,B=>cases x;cases B;show(((1),5),5)
   |i+3,x,_=>simp at x
  let Fw:j7 K "walked" "walked" Bt fw _:=((a4,b3,.π tD,aT,U,aN,an2,F,aU,Z7,1,lw,cw),kw);refine((5),Hg cW .t L (gP W1 W2) (LG WX B1 B2) (uP W1.β W2.β) (λH=>Two H m m2 L W1 W2 B1 B2) I J,hr,Ix Fw WT aV ag ((yW b0 cS C1 D T aH ag).Pg (!0)) ((yV bV cP C2 D T bU (cC a3 aC) (cB l a3 aC bU cO)).Pg (!0)) b0 (_,ζ) bV (_,ζ) (.P' λus hl=>by let⟨_,ζ⟩:=D0 hl;rfl) (.P' λus hl=>by let⟨_,ζ⟩:=D0 hl;rfl) (λ_ _ s h=>(h.1.OP s,h.2.OP s)),3);let aS:∀{b:υ}{o:HO},H3 b<*o->(∀φ,o≠.ext φ)->b∉[I,J,c1,Y,g,M]:=λ{b o}e ho hb=>by
   let⟨φ,B⟩:=bo b hb;rw[e]at B;show ho φ (ω.δ.QG B)
  let O:∀b xs,H3 b<*.No xs->Ak [I,J,c1,Y,g,M] H3 b<*.No xs:=λb xs e=>by rw[BH (aS e (λ_ z=>nomatch z))];show e
  refine([0,0],.π st,ε,1,D.lt,3,p8 D.n1 T.n1,xU D T,IO (vE h18 h28) (!0),(cI.QN O,cD.QN O),λwk t wd y md ks c8 ws aM R Bm H5 b2 hW ht dv b6 hy a7 cf bf N bl b5 Rp le he cs=>?_)
  .unfold Av;rw[Ω (!0)];show(st,1,O _ _ ap)
  let hR:R.β=ks.β:=by
   rcases he with z|⟨n,z,_⟩
   .exact z
   .cases z
  let TF:∀{b:υ}{o:HO},H5 b<*o->T9 [I,J,c1,Y,g,M] H3 H5 b<*o:=λ{b o}e=>by
   rw[Ee λhb=>?_]
   .exact e
   .rw [cs b hb]at e;cases e
  let cK:∀{b:υ}{o:HO},H3 b<*o->T9 [I,J,c1,Y,g,M] H3 H5 b<*o:=λ{b o}e=>by
   by_cases hb:b∈[I,J,c1,Y,g,M]
   .rw [GG hb];show e
   .exact TF (b2 b o (by rw[BH hb];show e))
  rw[hR]at bf;let⟨dx,ew⟩:=hW.ex;let kT:KT ts H (T9 [I,J,c1,Y,g,M] H3 H5):=(KT.Z8 nd i1 S hT bs).ν (KT.of λb o e=>cK (C _ _ e));let a6:=IO le (vE h18 h28);let ab:=Ic (Bm:=Bm) D.lt bf N hR bl (IO a6 (!0));refine(wk,t,wd,y,md,aM,L,R,Bm,ws,1,(dx,TF ew),TF hy,(a7.1,λi a r x B=>TF (a7.2 i a r x B)),TF cf,TF b6,by rw[hR];show bf.PJ.MO,ab,λd H' s' p=>qE d H' (kT.ν (KT.of s')) p,λmm k ff H6 hm a2 ch s6 hf cA=>?_);refine q ff _ _ H6 (kT.ν (KT.of s6)) cA (GI hm ab) (Ii ch) (Ih bf N hR ab a2 hm) λu hu=>?_;unfold AX DZ;rw[Hi hm ab a2 hu,Ie bf N hR bl b5 hu,yK];rfl
set_option maxHeartbeats 8000000 in
def oX{P:NC}(W:(ts.NL Uj.fst).Nx)(i1:(Pj,Ju,)∈ts){U kV Pi pm ct:θ}(lk:K.ρ f<*(U,od,.QY (Ps "either" "either" (t5 EE) (p_ EE) (h_ EE) .ε kV Pi pm an (.π c) ct),T))(p:O8 K (.π c) "either"=ξ)(hC:QD ς c Pj)(hB:Dy ς mg)(B:AT P w K mg ς "paired" 6 [Q0,"second","is_wanted"] (IG P w K mg XE ts)):aa P w K mg ς (Al P w) 7 f (Ps "either" "either" (t5 EE) (p_ EE) (h_ EE) .ε kV Pi pm an (.π c) ct) [Q0,"second"] (bC XE ts (DZ (λa b=>a||b))):=by
 refine Hm lk p oF (λvs H Q E h=>?_) (λA Fr s H vs Q E X h=>?_)
 .obtain ⟨m,m2,L,M,J,O,N,ζ,_⟩:=h;rfl
 .obtain ⟨m,m2,L,M,J,O,N,ζ,u,x,t,v,h18,h28,I,S,q⟩:=h;let j:=I _ i1;refine(_,(k_ (o9 (Ct B X (CI λ_ _ _ z=>z) (wm (pv 0) (pv 1) (Hj (M4:=IE) (c:=c) (P0:=Pj) (OL:=Ju) ζ hC hB (!3) (!3)))))),3);refine(6,j,λi g cg H1 Rp Tn fr ne R r o Z=>?_);let l:KT ts H H1:=KT.Z8 W i1 R j r;let F:=l.sm;let n:∀y,i.ρ y=ε:=λy=>by
   cases e:i.ρ y with
   |ε=>rfl
   |δ a=>show nomatch (show(ε:ω υ)<*a from Rp y a e)
  show(m,m2,g,cg,L,M,J,O,N,(λa b=>a||b),1,u.QN F.No,x,t.QN F.No,v,h18,h28,(7,_,i,Z,o,λD pm C eb cd=>oQ eb cd (ic n (!3)),λpm C=>.P' λus Y=>by let⟨_,_,ζ⟩:=Gp Y;rfl),l.tb I,λd H' k=>S d H' (l.ν k),λff W' B' H' k=>q ff W' B' H' (l.ν k))
set_option maxHeartbeats 8000000 in
def ux{P:NC}(W:(ts.NL Uj.fst).Nx)(i1:(Pj,Jv,)∈ts){U kV Pi pm ct:θ}(lk:K.ρ f<*(U,od,.QY (Ps "both" "both" (t5 EF) (p_ EF) (h_ EF) .ε kV Pi pm an (.π c) ct),T))(p:O8 K (.π c) "both"=ξ)(hC:QD ς c Pj)(hB:Dy ς mg)(B:AT P w K mg ς "paired" 6 [Q0,"second","is_wanted"] (IG P w K mg XE ts)):aa P w K mg ς (Al P w) 7 f (Ps "both" "both" (t5 EF) (p_ EF) (h_ EF) .ε kV Pi pm an (.π c) ct) [Q0,"second"] (bC XE ts (DZ (λa b=>a&&b))):=by
 refine Hm lk p uc (λvs H Q E h=>?_) (λA Fr s H vs Q E X h=>?_)
 .obtain ⟨m,m2,L,M,J,O,N,ζ,_⟩:=h;rfl
 .obtain ⟨m,m2,L,M,J,O,N,ζ,u,x,t,v,h18,h28,I,S,q⟩:=h;let j:=I _ i1;refine(_,(k_ (o9 (Ct B X (CI λ_ _ _ z=>z) (wm (pv 0) (pv 1) (Hj (M4:=cy) (c:=c) (P0:=Pj) (OL:=Jv) ζ hC hB (!3) (!3)))))),3);refine(6,j,λi g cg H1 Rp Tn fr ne R r o Z=>?_);let l:KT ts H H1:=KT.Z8 W i1 R j r;let F:=l.sm;let n:∀y,i.ρ y=ε:=λy=>by
   cases e:i.ρ y with
   |ε=>rfl
   |δ a=>show nomatch (show(ε:ω υ)<*a from Rp y a e)
  show(m,m2,g,cg,L,M,J,O,N,(λa b=>a&&b),1,u.QN F.No,x,t.QN F.No,v,h18,h28,(7,_,i,Z,o,λD pm C eb cd=>uu eb cd (ic n (!3)),λpm C=>.P' λus Y=>by let⟨_,_,ζ⟩:=Gp Y;rfl),l.tb I,λd H' k=>S d H' (l.ν k),λff W' B' H' k=>q ff W' B' H' (l.ν k))
set_option maxHeartbeats 8000000 in
def uw{P:NC}(W:(ts.NL Uj.fst).Nx)(i1:(Pj,Jw,)∈ts){U kV Pi pm ct:θ}(lk:K.ρ f<*(U,od,.QY (Ps "less" "less" (t5 EG) (p_ EG) (h_ EG) .ε kV Pi pm an (.π c) ct),T))(p:O8 K (.π c) "less"=ξ)(hC:QD ς c Pj)(hB:Dy ς mg)(B:AT P w K mg ς "paired" 6 [Q0,"second","is_wanted"] (IG P w K mg XE ts)):aa P w K mg ς (Al P w) 7 f (Ps "less" "less" (t5 EG) (p_ EG) (h_ EG) .ε kV Pi pm an (.π c) ct) [Q0,"second"] (bC XE ts (DZ (λa b=>a&&!b))):=by
 refine Hm lk p ua (λvs H Q E h=>?_) (λA Fr s H vs Q E X h=>?_)
 .obtain ⟨m,m2,L,M,J,O,N,ζ,_⟩:=h;rfl
 .obtain ⟨m,m2,L,M,J,O,N,ζ,u,x,t,v,h18,h28,I,S,q⟩:=h;let j:=I _ i1;refine(_,(k_ (o9 (Ct B X (CI λ_ _ _ z=>z) (wm (pv 0) (pv 1) (Hj (M4:=cu) (c:=c) (P0:=Pj) (OL:=Jw) ζ hC hB (!3) (!3)))))),3);refine(6,j,λi g cg H1 Rp Tn fr ne R r o Z=>?_);let l:KT ts H H1:=KT.Z8 W i1 R j r;let F:=l.sm;let n:∀y,i.ρ y=ε:=λy=>by
   cases e:i.ρ y with
   |ε=>rfl
   |δ a=>show nomatch (show(ε:ω υ)<*a from Rp y a e)
  show(m,m2,g,cg,L,M,J,O,N,(λa b=>a&&!b),1,u.QN F.No,x,t.QN F.No,v,h18,h28,(7,_,i,Z,o,λD pm C eb cd=>ut eb cd (ic n (!3)),λpm C=>.P' λus Y=>by let⟨_,_,ζ⟩:=Gp Y;rfl),l.tb I,λd H' k=>S d H' (l.ν k),λff W' B' H' k=>q ff W' B' H' (l.ν k))
section
variable{P:Program}{w:World}{K:Frag}{mg:Str->Option Value}{base:Heap}{P0 PT cW:Addr}{ts:List (Addr×List (Pos×Str))}{tabs:List (Addr×Addr)}{cA_ cG_ cH_:Addr}{c:Kd->Addr}{cP:Addr}{cD d1 d2 d3:Addr}
def e_s:vw ["values","numbers","value"] ["values"] (h_ Kq):=Aa
def C9(F:vh K "numbered" "numbered" Kq f fd)(T:SG K mg UJ UV RS):aa P w K mg ς pu 1 f fd ["values"] sp_numbered:=by
 refine F.Vk e_s ?_;rintro _ _ _ _ H _ _ _ Q⟨a,o,xs,ks,TV,ζ,X,U,M,l,hk,q⟩;refine(_,(m_ (va 1 e_s.nd (uq)) (m_ (Db Ov.PM ζ (Dv (pv 0)) (Cy 2 e_s.nd) (k_ (u_ (A1 (oP Q.PR) (pv 2) (pv 1) (by with_unfolding_all rfl)) (k_ (EK (Dp Ed (!4) T.PJ T6 (o_ (pv 1))) (EJ (pv 1) (pv 2) (Eb Q.PR)))) (wh)))) (k_ (o9 (EA ["values","numbers","?"] ζ (!0) (Dv (pv 0)) (λcl C fp s' H'=>(BZ,rz (pA P w Q.PR) (pv 2) (pv 0) (λ_ _=>rfl)))))))),3);let hz:xs.β≤Λ:=sT (by rw[M];show IO l (!0));let e:∀{i:Φ}{x:V},xs[i]?<*x->∃k,ks[i]?=δ k/\j6 H k x/\IV k=TV:=λ{i x}v=>by
  let Y:i<ks.β:=by rw[<-M];show(q5 v).1
  show(ks[i],n_ Y,hk i _ x (n_ Y) v)
 refine(if TV=ξ then .TV else .bl,λd E=>?_);refine(0,a,o,xs,1,X,Ah U E,λJ N=>jA N (λi m H'=>E2 λL r=>A3 (m=[δ (.π a),δ (.π d),L]) (H'=L2.MR H d r) (x_ P w H' d TV (ks.OC i))) (ε,0,1,x_.Xw P w H d TV) ?_ ?_ ?_)
 .rintro i m H'⟨L,r,ζ,ζ,_⟩;show Ah U E
 .rintro i x m H' v⟨L,r,ζ,ζ,s⟩;let⟨k,h,t,n⟩:=e v;let p:j6 (L2.MR H d r) k x:=t.ST λb ys z=>Ah z E;refine(6,d,0,s.VE p n,0,3);by_cases y:k∈zg (ks.OC i)
  .rw [show(!(gN (ks.OC i) k).Rx)=η by rw[gN,Id y];rfl];refine aj (8,3);rw[DV h];show s.OP y
  .rw [show(!(gN (ks.OC i) k).Rx)=ξ by rw[gN,Ω y];rfl];let S:(zg (ks.OC i)).β<Λ:=by
    let h1:=nG (ks.OC i);let h2:(ks.OC i).β≤2100:=by rw[Qu];show IO (Φ.min_le_right _ _) l
    show Ψ (Φ.lt_succ_of_le (IO h1 h2)) (sT (!0))
   let⟨O,B,R⟩:=s.put p n y S;refine aw (0,d,0,s.PJ,6,d,0,B,3);refine(δ x,O,1,HB,3);rw[DV h];show R
 .rintro m H'⟨L,r,ζ,ζ,s⟩;rw[M,SL]at s;let I:L2.MR H d r a<*o:=Ah U E;let A:a' H (L2.MR H d r):=a'.MR E;refine(0,a,o,xs,1,X,I,λJ N=>JV N I (λD j ys H'=>ys=(c_ (ay ks)).OC j) hz (λD W=>!1) ?_ ?_)
  .intro D j x ys H' R1 R2 W v g u hp k1 k2;let⟨k,h,t,n⟩:=e v;let y:k∈zg ks:=SU.Om (AC h);let Z:=(s.Pg g).VE (t.ST λb ys z=>(A.ν g) _ _ z) n;rw[show gN ks k<*_ from Id y]at Z;refine l_ (6,d,0,Z,k1 _ H' u (a'.RY g W) ?_);rw[hp];refine(DV ?_).MO;rw[c_,ay,γ.map_map,tS,h];rfl
  .intro D ys H' W g u hp;refine q D H' (A.ν g) ?_;rw[u,hp,M,N6 (by rw[f_,HN];show LT _)]
def gt:vw ["lots"] ["lots"] (h_ Kr):=Aa
def CB(F:vh K "many_lots" "many_lots" Kr f j)(T:SG K mg UJ UV RS):aa P w K mg ς pu 1 f j ["lots"] Zy:=by
 refine F.Vk gt ?_;rintro _ _ _ _ _ _ _ _ _⟨a,ns,ζ,i,e,q⟩;refine(_,(k_ (o9 (Ae jd (Dp (pS ζ) (!4) T.max Oj.Sf.boot_max (o_ (pv 0))) b'))),3);refine(0,a,zs ns,1,by rw[i,HS],by rw[fW];show e,λM h b=>(8,3));let⟨m,g,ζ⟩:=O_.mp h;show q m g λx d=>ML.ofNat_le.mp (b _ (O_.Om (x,d,1)))
def c_A:vw [Z1,Z2,"most","rounds","lots","finer"] [Z1,Z2,"most"] (h_ Ks):=Aa
def CC(F:vh K "rounds_of" "rounds_of" Ks f fd)(T:SG K mg UJ UV RS)(a8:Df P w K mg ς "numbered" 1 ["values"] sp_numbered)(bS:Df P w K mg ς "many_lots" 1 ["lots"] Zy):aa P w K mg ς pu 2 f fd [Z1,Z2,"most"] sp_roundsG:=by
 refine F.Vk c_A ?_;rintro _ _ _ _ H _ _ _ hr⟨wy,mk,bU,o,om,L,W,B,N,ζ,ho,bd,bk,bo,aB,az,l,q⟩;refine(_,(m_ (va 3 c_A.nd (AA (o_ (wx a8 hr (o_ (pv 1)))))) (m_ (cF Ov.PM (A1 mY (wx bS hr (o_ (AB (pv 3) (Er Es b')))) (pv 2) (A' _)) (m_ (va 4 c_A.nd (AB (pv 3) (Er Es b'))) (m_ (va 5 c_A.nd (wx a8 hr (o_ (ja [Z1,Z2,"most","rounds","lots","finer"] ζ (!0) (IZ ζ T.enumerate (o_ (pv 0))) (λcl C fp s' H'=>Bg (q_ (rz (Fu K) (pv 6) (pv 0) (λ_ _=>rfl)) (Eu (Lk K) (!4) T.Px PZ (o_ (EA [Z4,"row",Z1,Z2,"most","rounds","lots","finer"] ζ (show γ.Nx (["goal",Z4,"row",Z1,Z2,"most","rounds","lots","finer"]:γ M') by decide) (Dv (pv 1)) (λcl C fp s' H'=>(BZ,rz (Fu K) (pv 7) (pv 0) (λ_ _=>rfl)))))))))))) (m_ (u_ (A1 (w4 hr.units0) (pv 5) (pv 4) (A' _)) (k_ (iZ)) (wh)) (k_ (BB (Di (pv 3) (pv 5)))))))) (k_ (o9 (pv 3))))),3);let Q:=l.n60;let bm:=l.n1;refine(0,mk,_,B.NL V.bl,B.NL (λb=>(KS.NI b:KS)),η,1,bk,bo,by rw[ol,ol],by rw[ol,l.bl];show IO Q (!0),3,λp0 H1 s1 a0=>(sT (by change 1≤16777216;decide),λp hp=>?_))
 .intro i k x J hx;rw[tS]at J hx;cases hb:B[i]? with
  |ε=>rw[hb]at J;cases J
  |δ b=>rw[hb]at J hx;cases J;cases hx;show(1,1)
 rw[rh]at a0;let bi:H p=ε:=GE s1 hp;refine(vT H wy mk p W B N,(_,(0),[p0],ε,ε,5,s1.ν (a'.MR hp),j_,1,3,λi X=>MJ X (Φ.not_lt_zero _)),3)
 .intro i r e;match i,e with
  |0,e=>cases e;show Ah a0 hp
  |n+1,e=>simp at e
 rintro m bV H'⟨k,d,s4,s5,ζ,ζ,sm,ag,s,I,a2⟩;let J:=lY l a2;obtain⟨la,a3⟩:∃la,d[k]?<*la:=(d[k]'(by rw[s];show OA k),n_ _);let U:=I k la a3;let a7:=IW s a3;let S:=DQ l k;refine(6,AJ ag a7 (la,Rd W B k,1,U,by rw[S];show bm,λM hM _=>(0,_,2,3)));let b2:=dL l hM;refine aQ (λb1=>?_) (λbM=>?_)
 rotate_left
 .exact (0,q p d k H' sm ag s I (.NT (M,hM,by have:¬ ((M:ML)+1)≤(N:ML):=bM;lia)) J)
 refine(λaN H2=>Rd W B (k+1)≠Rd W B k/\vT H wy mk p W B N (iB W.β (Rd W B (k+1))) aN H2,λaN H2 h=>(_,iA l h.1,h.2),3);refine(6,AJ ag a7 ?_);dsimp only[Bv];dsimp only[Sh,aP,aK,Cp,Aw,Cq,BQ];refine jR (c:=wy) (λR h=>(0,h)) ho (sm _ _ bd) (λD i ys H2=>∃ps:γ υ,A3 (ys=ps.NL V.π) (ps.β=i) (∀(j:Φ)(t:υ),ps[j]?<*t->Fs H2 (eY W (Rd W B k) j) t)) (by rw[ol,aB];show sT (IO Q (!0))) (λD hD=>([],5,λj t e=>by simp at e)) ?_ ?_
 .intro D i x ys H2 H3 R1 hD hx A aH hp v k1;let⟨ps,ζ,E,aC⟩:=hp;rw[tS]at hx;let⟨rr,aU,ζ⟩:=BG hx;let X:i<W.β:=by rw[<-aB];show(q5 aU).1
  let⟨ws,aT,b0,a1,aV⟩:=az i rr aU;let s3:a' H H3:=(sm.ν A).ν v;let aA:=s3 _ _ aV;let ar:H3 la<*.M5 (c_ (Rd W B k)):=v _ _ (A _ _ U);let ew:W.MI i []=ws:=by rw[u6,aT];rfl
  let⟨bf,bg⟩:=l.Vt ws (AC aT);let bP:=l.lt.hi;refine(6,AJ ar (DU (by rw[S];show X)) ?_);dsimp only[Sh,aP,aK,Cp,Aw,Cq,BQ];refine EY (a:=rr) (λR h=>(0,h)) a1 aA (λD2 j as H4=>as=(c_ (ws.NL λg=>(Rd W B k).MI g 0)).OC j) (by rw[f_,bf];show sT (IO bP (!0))) (λD2 aM=>!1) ?_ ?_
  .intro D2 j y as H4 R3 R4 aM hy Uv Z an k3 k4;let hj:j<ws.β:=by have:=(q5 hy).1;rwa [f_]at this
   rw[CU hj]at hy;cases hy;refine l_ (6,AJ (Uv _ _ ar) (DU (by rw[S];show bg _ (GF hj))) (k3 _ H4 Z (a'.RY Uv aM) ?_));rw[an];refine(DV ?_).MO;rw[CU (by rw[ol];show hj),c9 hj]
  .intro D2 as H4 aM Uv Z an;rw[f_,N6 (by rw[f_,ol];show LT _)]at an;subst an;refine(D2,0,.NI (o5.of Z,λb hb=>(sT (by change 2≤16777216;decide),λt ht=>?_)));let s5:=Uv.ν ((a'.MR (o:=.No (c_ (ws.NL λg=>(Rd W B k).MI g 0))) hb).ν (a'.MR (o:=.No [.MQ (((Rd W B k).MI i 0:Φ):ML),.π b]) ht));let ap:=s5 _ _ (v _ _ aH);refine k1 (.π t) _ ap (a'.RY (A.ν (v.ν s5)) hD) (ps++[t],by rw[Nu];rfl,by rw[w_,E];rfl,λj u e=>?_);by_cases hj:j<ps.β
   .rw [MY hj]at e;show AV (λc cs z=>tf ((v.ν s5) _ _ z) ap (!5)) (aC j u e)
   .rw [MW (OQ hj)]at e;let bs:j=i:=(vQ hj (q5 e).1).ν E;subst bs;rw[E,VO]at e;let et:t=u:=by simpa using e
    subst et;let ek:(zs (eY W (Rd W B k) j).2).NL V.MQ=c_ (ws.NL λg=>(Rd W B k).MI g 0):=by
     rw[<-HS];change c_ ((W.MI j []).NL _)=_;rw[ew]
    refine(b,tf j_ ap (!5),3);rw[ek];show tf (Ah j_ ht) ap (!5)
 intro D ys H2 hD A aH hp;let⟨ps,ζ,E,aC⟩:=hp;refine(D,_,ps.NL V.π,(FK W (Rd W B k)).NL (λx=>(KS.NT x:KS)),ξ,1,.NI ζ,aH,by rw[ol,ol,DP,E,ol,aB],by rw[ol,DP];show IO Q (!0),3,λfa H4 ab a5=>?_)
 .intro i kk x J hx;rw[tS]at J hx;let⟨nk,e1,ζ⟩:=BG J;let⟨t,e2,ζ⟩:=BG hx;let X:i<W.β:=by have:=(q5 e1).1;rwa [DP]at this
  rw[JL X]at e1;cases e1;show((t,1,aC i t e2),1)
 rw[re]at a5;let Y:H4 fa<*.M5 (c_ (Rd W B (k+1))):=a5;let aS:a' H H4:=sm.ν (A.ν ab);let a9:=(A.ν ab) _ _ U;let p4:=(A.ν ab) _ _ ag;let O:=I.OP (A.ν ab);refine(6,fa,la,zs (Rd W B (k+1)),zs (Rd W B k),5,by rw[Y,HS],by rw[a9,HS],by rw[fW,fW,DQ l,DQ l],0,aQ (λhe=>?_) (λhe=>?_))
 .exact (0,q p d k H4 aS p4 s O (.NI (fY he)) J)
 let a6:Rd W B (k+1)≠Rd W B k:=λz=>he (by rw[z]);let a4:d≠[]:=by
  intro z;rw[z]at s;simp at s
 refine(0,.NI (1,_,o5.of p4),0,p,8,p4,3,a6,k+1,d++[fa],8,a'.RY aS bi,3,3,3,3)
 .rw [ol,s];show JW J
 .rw [j_,Nu];rfl
 .rw [w_,s];rfl
 .intro i r e;by_cases X:i<d.β
  .rw [MY X]at e;let h1:=O i r e;rw[a_ (m6 h1 p4 a4)];show h1
  .rw [MW (OQ X)]at e;let bD:i=k+1:=(vQ X (q5 e).1).ν s;subst bD;rw[s,VO]at e;let et:fa=r:=by simpa using e
   subst et;rw[a_ (m6 Y p4 a4)];show Y
 .intro i X;by_cases h:i=k
  .subst h;show a6
  .exact a2 i (zB X h)
def Mn:vw ["lots"] ["lots"] (h_ Kt):=Aa
def Mo(F:vh K "first_rooms" "first_rooms" Kt f E)(T:SG K mg UJ UV RS)(t:Df P w K mg ς "many_lots" 1 ["lots"] Zy):aa P w K mg ς pu 2 f E ["lots"] Yi:=by
 refine F.Vk Mn ?_;rintro _ _ _ _ _ _ _ _ A⟨a,ns,ζ,s,u,B,g,l,q⟩;refine(_,(k_ (o9 (EA ["lots"] ζ (!0) (G3 ζ T.N2 (o_ (wx t A (o_ (pv 0))))) (λI C H s' H'=>(BZ,oN K (pv 1) (o_ (pv 0))))))),3);let⟨M,m,k⟩:=rD u;let v:=g M m;dsimp only[gh,Bv,Sh,aP,aK,Cp,Aw,Cq,BQ];refine IX (n:=M+1) (λR h=>(0,a,ns,1,s,u,λy r i=>?_)) (!6) (λD j ys H'=>ys=c_ ((γ.N2 j).NL λj=>ns.M0 j)) (λD o=>rfl) ?_ ?_
 .let e:y=M:=Rc (k y r) (i M m);rw[e];show h
 .intro D j ys H' J R2 o p b d hp k1 k2;refine l_ (0,.NI (1,_,o5.of (b _ _ s)),0,a,zs ns,(0+(j:ML)),5,by rw[<-HS];show b _ _ s,3,3)
  .rw [ML.Pz];show O_.Om (j,l M j m (Φ.V5 p),1)
  .rw [ML.Pz,pX];refine k1 _ H' d (a'.RY b o) ?_;rw[hp,γ.YI,Nu];show(Jc _ _).MO
 .intro D ys H' o b d hp;subst hp;show q (M+1) D H' (Φ.Zw M,λx z=>Φ.lt_succ_of_le (k x z),λj p=>l M j m (Φ.V5 p)) b o d
def a_v:vw [Q3,Z1,"rounds","one","two","needed","here","there","word","lots","place"] [Q3,Z1,"rounds","one","two"] (h_ Ku):=Aa
def Mp(F:vh K "parting_word" "parting_word" Ku f fd)(T:SG K mg UJ UV RS):aa P w K mg ς pu 1 f fd [Q3,Z1,"rounds","one","two"] sp_pwordL:=by
 refine F.Vk a_v ?_;rintro _ _ _ s H _ _ _ _⟨wy,p,bk,y,L,W,B,k,r,s,ζ,Q,aM,b,hp,v,o,Rv,as,aB,aA,q⟩;refine(_,(m_ (u_ (Ap (AB (AB (pv 2) (Er Es b')) (pv 3)) (AB (AB (pv 2) (Er Es b')) (pv 4))) (k_ (o9 Gu)) (wh)) (m_ (va 5 a_v.nd (jb Py Δ.F.TR Δ.F.Xb eP (EA [Q3,Z1,"rounds","one","two","needed","here","there","word","?","place"] ζ (!0) (Dv (pv 2)) (λcl C fp s' H'=>(BZ,EL bz (rz (Fu K) (pv 0) (pv 4) (λ_ _=>rfl)) (rz (Fu K) (pv 0) (pv 5) (λ_ _=>rfl)) (A' _)))) (o_ BK))) (m_ (va 6 a_v.nd (pv 3)) (m_ (va 7 a_v.nd (pv 4)) (m_ (va 8 a_v.nd (n')) (m_ (Db Ov.PM ζ (wP ζ T.reversed (o_ (Ga HL (pv 2) Gw (FC (pv 5))))) (Cy 9 a_v.nd) (m_ (va 10 a_v.nd (jb Py Δ.F.TR Δ.F.Xb eP (ja [Q3,Z1,"rounds","one","two","needed","here","there","word","lots","place"] ζ (!0) (gC ζ T.Td (q_ (AB (pv 1) (pv 6)) (AB (pv 1) (pv 7)))) (λcl C fp s' H'=>EL bz (rz (Fu K) (pv 11) (pv 0) (λ_ _=>rfl)) (rz (Fu K) (pv 11) (pv 1) (λ_ _=>rfl)) (A' _))) (o_ BK))) (m_ (va 8 a_v.nd (Ae DJ (pv 8) (rz gX (pv 0) (pv 10) (λ_ _=>rfl)))) (m_ (va 6 a_v.nd (AB (AB (pv 1) (pv 6)) (pv 10))) (k_ (va 7 a_v.nd (AB (AB (pv 1) (pv 7)) (pv 10)))))))) (k_ (o9 (pv 8))))))))),3);let hz:(tx L).β≤Λ:=sT (by rw[oh];show IO b.lt.hi (!0));obtain⟨la,a1⟩:∃la,y[k]?<*la:=(y[k]'(by rw[v];show OA k),n_ _);let ap:=o k la a1;let a5:=IW v a1;let ab:=DQ b k;refine(6,AJ hp a5 (0,AJ ap (DU (by rw[ab];show aB)) ?_));refine(6,AJ hp a5 (0,AJ ap (DU (by rw[ab];show aA)) (1,0,3)));rw[bZ];refine aQ (λhe=>?_) (λhe=>?_)
 .exact (Rv he).Nv
 let⟨aV,X,a3,A⟩:=jD (f:=λj=>decide (r_ W B j r=r_ W B j s)) (n:=k+1) (j:=k) (OA k) (M3 he);dsimp only[Sh,aP,aK,Cp,Aw,Cq,BQ];refine EY (a:=p) (λR h=>(0,h)) (.NI ζ) hp (λD j ys H'=>ys=(((γ.N2 (k+1)).NL λj=>decide (r_ W B j r=r_ W B j s)).NL V.bl).OC j) (by rw[ol,v];show sT (IO (QC as) (!0))) (λD hD=>!1) ?_ ?_
 .intro D j x ys H' R1 R2 hD J E m U k1 k2;rw[tS]at J;let⟨a7,ar,ζ⟩:=BG J;let I:j<k+1:=by rw[<-v];show(q5 ar).1
  let h1:=E _ _ (o j a7 ar);refine l_ (6,AJ h1 (DU (by rw[DQ b];show aB)) (6,AJ h1 (DU (by rw[DQ b];show aA)) (1,3)));rw[bZ];refine k1 _ H' m (a'.RY E hD) ?_;rw[U];refine(DV ?_).MO;rw[tS,tS,O6 I];rfl
 intro D ys H1 hD E m U;rw[ol,v,N6 (!1)]at U;subst U;refine(.NI (1,_,o5.of m),D,0,1,m,aV,3);generalize ((γ.N2 (k+1)).NL λj=>decide (r_ W B j r=r_ W B j s)).M0 η=t at X a3 A⊢;let bd:r_ W B t r≠r_ W B t s:=of_decide_eq_false a3;let bg:∀j<t,r_ W B j r=r_ W B j s:=λj I=>OU (A j I);refine(6,3);refine(6,0,p,0,o5.of (E _ _ hp),λpl aU=>?_);rw[fF (by rw[ol,v];show Pn X)];let O:((y.NL V.π).OC t).β=t:=by rw[Qu,ol,v];show Φ.Z9 (Pn X)
 refine(pl,0,j_,jA qS (λi M H'=>E5 λ(h1:Φ)(h2:Φ)(w:LN)(s9:ω V)(N:ω V)=>A9 (M=[δ (.M_ (tx L)),δ (.π wy),δ (.π p),δ (.MQ (r:ML)),δ (.MQ (s:ML)),δ (.MQ (t:ML)),δ (.MQ (h1:ML)),δ (.MQ (h2:ML)),δ (.M_ (tx w)),s9,N]) (a' (L2.MR H1 pl (.M5 ((y.NL V.π).OC t))) H') (h1<W.β) (h2<W.β) (w.β=i) (i≤t) (r_ W B (t-i) h1≠r_ W B (t-i) h2) (∀j<t-i,r_ W B j h1=r_ W B j h2) (w++pw L W B (t-i) h1 h2=pw L W B t r s)) (r,s,[],ε,ε,by rw[<-dC];rfl,a'.Th _,aB,aA,1,Nb _,bd,bg,1) ?_ ?_ ?_)
 .rintro i M H'⟨h1,h2,w,s9,N,ζ,sm2,_⟩;show sm2 _ _ j_
 .rintro i x M H2 J⟨h1,h2,w,s9,N,ζ,sm2,l,hh2,az,bf,hne2,heq2,hw⟩;let hi:i<t:=by have:=(q5 J).1;rwa [QP,O]at this
  rw[γ.getElem?_reverse (by rw[O];show hi),O,γ.UR,Id (vo hi),tS]at J;let⟨a6,an,ζ⟩:=BG J;let⟨u,hu,a9,a8⟩:=xJ hi;rw[a9]at an;rw[hu]at hne2 heq2 hw;let s0:a' H H2:=E.ν ((a'.MR aU).ν sm2);let a0:=s0 _ _ (o u a6 an);let⟨ra,aS,Z⟩:=(aM.sameL s0).Vt l;let⟨rb,aN,Y⟩:=(aM.sameL s0).Vt hh2;let⟨g,aT,bm⟩:=qG b l hh2 hne2 (heq2 u (OA u));let l1:=(Ea b l).1;let l2:=(Ea b hh2).1;let bi:=b.lt.hi;dsimp only[Bv];dsimp only[Sh,aP,aK,Cp,Aw,Cq,BQ];refine jQ (c:=ra) (d:=rb) (λR h=>(6,AJ (s0 _ _ Q) (D_ V.π aS) (6,AJ (s0 _ _ Q) (D_ V.π aN) h))) Z Y (by rw[f_,f_,l1,l2]) (λD j ys H3=>ys=((aX W B u h1 h2).NL V.bl).OC j) (by rw[f_,l1];show sT (IO bi (!0))) (λD hD=>!1) ?_ ?_
  .intro D j x z ys H3 H4 R1 hD J aH e m S Uv k1;let I:j<L.β:=by have:=(q5 J).1;rwa [f_,l1]at this
   rw[CU (by rw[l1];show I)]at J;rw[CU (by rw[l2];show I)]at aH;cases J;cases aH;let ag:=Uv _ _ (e _ _ a0);refine(6,AJ ag (DU (by rw[DQ b];show Ev b l I)) (6,AJ ag (DU (by rw[DQ b];show Ev b hh2 I)) (1,3)));rw[bZ];refine k1 _ H4 (Uv _ _ m) (a'.RY (e.ν Uv) hD) ?_;rw[S];refine(DV ?_).MO;rw[tS,IQ b l hh2 I];rfl
  intro D ys H3 hD e m S;rw[f_,l1,N6 (by rw[ol,JN b l hh2];show LT _)]at S;subst S;let aC:η∈aX W B u h1 h2:=γ.Vw.mp (by rw[JN b l hh2];show g);refine(.NI (1,_,o5.of m),D,0,1,m,aC,3);let s3:=s0.ν e;let a2:L[Ra W B u h1 h2]?<*L.MI (Ra W B u h1 h2) 0:=by rw[u6,n_ g];rfl
  let a4:AN (tx L).TY.ND ((Ra W B u h1 h2:Φ):ML)<*L.MI (Ra W B u h1 h2) 0:=by
   rw[Fp];show AG a2
  let e1:=DU (ns:=W.MI h1 []) (r:=Ra W B u h1 h2) (by rw[l1];show g);let e2:=DU (ns:=W.MI h2 []) (r:=Ra W B u h1 h2) (by rw[l2];show g);refine(6,0,_,8,hz,a4,8,3,3)
  .rw [oh];change w.β+1≤Λ;show sT (zA az hi X as)
  refine(6,AJ (s3 _ _ Q) (D_ V.π aS) (0,AJ (e _ _ Z) e1 ?_));refine(6,AJ (s3 _ _ Q) (D_ V.π aN) (0,AJ (e _ _ Y) e2 ?_));rw[a8];refine(QT W h1 (Ra W B u h1 h2),QT W h2 (Ra W B u h1 h2),w++[L.MI (Ra W B u h1 h2) 0],_,_,by rw[<-Cs];rfl,sm2.ν e,Ev b l g,Ev b hh2 g,by rw[w_,az];rfl,hi,aT,λj I=>((Gg b l hh2).mp (heq2 (j+1) (Φ.succ_lt_succ I))).2 _ g,3);rw[NY];show hw
 .rintro M H2⟨h1,h2,w,s9,N,ζ,sm2,l,hh2,az,bf,hne2,heq2,hw⟩;rw[QP,O,VO]at hw;let bo:w=pw L W B t r s:=by rw[<-hw];simp[pw]
  show(0,q w H2 (E.ν ((a'.MR aU).ν sm2)))
def e_P:vw [Q8,"lots",Q4,Z1,Z2] [Q8,"lots"] (h_ cn):=Aa
def Eo(F:vh K "folded" "folded" cn f fd)(T:SG K mg UJ UV RS)(WK:IA K cW)(aN:Df P w K mg ς "first_rooms" 2 ["lots"] Yi):aa P w K mg ς pu 3 f fd [Q8,"lots"] (K5 cW):=by
 refine F.Vk e_P ?_;rintro _ _ _ _ _ _ _ _ hr⟨wk,t,wd,y,md,lo,J,L,R,Bm,k,ζ,hW,hy,ab,aM,d,as,q⟩;refine(_,(m_ (va 2 e_P.nd (wx aN hr (o_ (pv 1)))) (m_ (Jg [Q8,"lots",Q4,Z1,Z2] (j:=3) ζ e_P.nd (!0) ζ (Or.NI ζ) (Dv (pv 2)) (λcl C fp s' H'=>(BZ,Eu (Lk K) (!4) T.Px PZ (o_ (EA [Z4,Q8,"lots",Q4,Z1,Z2] ζ (show γ.Nx (["goal",Z4,Q8,"lots",Q4,Z1,Z2]:γ M') by decide) (Dv (rz (Fu K) (gF (f:=Z1) K (pv 1) ζ) (pv 0) (λ_ _=>rfl))) (λcl C fp s' H'=>(BZ,rz (Fu K) (pv 3) (pv 0) (λ_ _=>rfl)))))))) (m_ (Jg [Q8,"lots",Q4,Z1,Z2] (j:=4) ζ e_P.nd (!0) ζ (Or.NI ζ) (Dv (pv 2)) (λcl C fp s' H'=>(BZ,rz (Fu K) (gF (f:=Z2) K (pv 1) ζ) (pv 0) (λ_ _=>rfl)))) (k_ (o9 (Bg (wm (AD (f:=Q3) (pv 0) ζ) (Eu Gb (!4) T.Px PZ (o_ (pv 3))) (Eu Gb (!4) T.Px PZ (o_ (pv 4)))))))))),3);let⟨dx,ew⟩:=hW.ex;let O:=d.n60;let W:=DQ d k;refine(0,lo,Rd R Bm k,1,as,by rw[W];show d.n1,by rw[W];show O,λx hx=>Ψ (dL d hx) O,λM j hM v=>nQ hM v,λm p H1 Z s1 aS hp=>?_);let Q:m≤2100:=by
  have:=dL d (Z.Tn (m-1) (by have:=Z.Ng;lia));have:=Z.Ng;lia
 let E:(c_ ((γ.N2 m).NL λj=>(Rd R Bm k).M0 j)).β=m:=by rw[f_,ol,OB]
 let Yk:∀{j:Φ}{x:V},(c_ ((γ.N2 m).NL λj=>(Rd R Bm k).M0 j))[j]?<*x->j<m/\x=.MQ (((Rd R Bm k).M0 j:Φ):ML):=λ{j x}e=>by
  let v:j<m:=by have:=(q5 e).1;rwa [E]at this
  rw[CU (by rw[ol,OB];show v)]at e;cases e;refine(v,3);rw[u6,tS,O6 v];rfl
 dsimp only[Bv];dsimp only[Sh,aP,aK,Cp,Aw,Cq,BQ];refine EY (a:=p) (λR h=>(0,h)) (.NI ζ) hp (λD j ys H'=>∃ps:γ υ,A3 (ys=ps.NL V.π) (ps.β=j) (∀(i:Φ)(t:υ),ps[i]?<*t->i<m/\H' t<*.No (c_ ((AM R (Rd R Bm k) m).MI i [])))) (by rw[E];show sT (IO Q (!0))) (λD hD=>([],5,λi t e=>by simp at e)) ?_ ?_
 .intro D j x ys H' R1 R2 hD hx B I l k1 k2;let⟨ps,ζ,n,U⟩:=l;let⟨v,ζ⟩:=Yk hx;let⟨f1,f2⟩:=Cv Z d v;let s2:=s1.ν B;obtain⟨ra,ar⟩:∃ra,J[(Rd R Bm k).M0 j]?<*ra:=(J[(Rd R Bm k).M0 j]'(by rw[ab.1];show f1),n_ _);let ap:=s2 _ _ (ab.2 _ ra _ ar (n_ f1));let⟨aC,aH⟩:=d.Vt _ (Nt f1);refine l_ ?_;dsimp only[Sh,aP,aK,Cp,Aw,Cq,BQ];refine EY (a:=ra) (λR h=>(0,wk,cW,dx,4,s2 _ _ ew,WK.OM,WK.na4,1,0,AJ (s2 _ _ hy) (D_ V.π ar) h)) (.NI ζ) ap (λD2 i S H4=>S=(c_ (R[(Rd R Bm k).M0 j].NL λg=>(Rd R Bm k).MI g 0)).OC i) (by rw[f_,aC];show sT (IO d.lt.hi (!0))) (λD2 X=>!1) ?_ ?_
  .intro D2 i y2 S H4 R3 R4 X hy2 Uv H s k3 k4;let hi:i<R[(Rd R Bm k).M0 j].β:=by have:=(q5 hy2).1;rwa [f_]at this
   rw[CU hi]at hy2;cases hy2;refine l_ (6,AJ (Uv _ _ (s2 _ _ as)) (DU (by rw[W];show aH _ (GF hi))) (k3 _ H4 H (a'.RY Uv X) ?_));rw[s];refine(DV ?_).MO;rw[CU (by rw[ol];show hi),c9 hi]
  .intro D2 S H4 X Uv H s;rw[f_,N6 (by rw[f_,ol];show LT _)]at s;subst s;refine(D2,0,.NI (o5.of H,λb hb=>?_));let s5:=Uv.ν (a'.MR (o:=.No (c_ (R[(Rd R Bm k).M0 j].NL λg=>(Rd R Bm k).MI g 0))) hb);refine k1 (.π b) _ (s5 _ _ I) (a'.RY (B.ν s5) hD) (ps++[b],by rw[Nu];rfl,by rw[w_,n];rfl,λi u e=>?_);let aB:=s5 _ _ I;rcases Fv e with z|⟨rfl,ζ⟩
   .obtain ⟨a1,a2⟩:=U i u z;show(a1,tf (s5 _ _ a2) aB (!5))
   .rw [n];refine(v,tf ?_ aB (!5));rw[j_,fu v,u6,n_ f1];rfl
 intro Dw ys H2 aT N az l;let⟨ps,ζ,n,U⟩:=l;rw[E]at n;let s:=N _ _ hp;let s2:=s1.ν N;dsimp only[Bv];dsimp only[Sh,aP,aK,Cp,Aw,Cq,BQ];refine EY (a:=p) (λR h=>(0,h)) (.NI ζ) s (λD j ys H'=>ys=((Dh Bm (Rd R Bm k) m).NL V.bl).OC j) (by rw[E];show sT (IO Q (!0))) (λD hD=>!1) ?_ ?_
 .intro D j x ys H' R1 R2 hD hx B I l k1 k2;let⟨v,ζ⟩:=Yk hx;let⟨f1,f2⟩:=Cv Z d v;let Y:=s2.ν B;refine l_ (0,wk,cW,dx,4,Y _ _ ew,WK.OM,WK.na5,1,0,AJ (Y _ _ aM) (HU (by rw[d.bl];show f1)) (k1 _ H' I (a'.RY B hD) ?_));rw[l];refine(DV ?_).MO;rw[tS,Dh,tS,O6 v];rfl
 intro Dm ys H3 aU A aA l;rw[E,N6 (by rw[ol,Dh,ol,OB];show LT _)]at l;subst l;let Y:=s2.ν A;refine(0,wk,cW,dx,4,Y _ _ ew,WK.OM,WK.na1,1,3);refine(0,Dw,0,.NI (o5.of (A _ _ az),λtw ag=>?_));refine(0,Dm,0,.NI (o5.of (Ah aA ag),λtm an=>(sT (by change 3≤16777216;decide),λf hf=>?_)));let u1:a' H3 (L2.MR H3 tw (.No (ps.NL V.π))):=a'.MR ag;let u2:=u1.ν (a'.MR (o:=.No ((Dh Bm (Rd R Bm k) m).NL V.bl)) an);let u3:=u2.ν (a'.MR (o:=.No [.M_ (tx L),.π tw,.π tm]) hf);refine q m f _ Z (Y.ν u3) (GE (Y.ν u2) hf) (tw,tm,ps,j_,Ah (Ah j_ an) hf,Ah j_ hf,by rw[n,AM,ol,OB],λi r e=>?_);let⟨a1,a2⟩:=U i r e;refine((AM R (Rd R Bm k) m).MI i [],3,(A.ν u3) _ _ a2);rw[u6,AM,tS,O6 a1];rfl
def c_n:vw [Q8,"rounds",Q4,"tails","i","one","j"] [Q8,"rounds",Q4] (h_ Kv):=Aa
def C_(F:vh K "tails_of" "tails_of" Kv f fd)(T:SG K mg UJ UV RS)(U:IA K cW)(ap:Df P w K mg ς "parting_word" 1 [Q3,Z1,"rounds","one","two"] sp_pwordL):aa P w K mg ς pu 2 f fd [Q8,"rounds",Q4] (iJ cW):=by
 refine F.Vk c_n ?_;rintro _ _ _ _ H _ _ _ hr⟨N,t,wd,y,md,p,S,z,A,L,R,Bm,k,rs,ζ,hW,hy,Y,an,hp,ab,r,hk,d,as,E,Z,q⟩;refine(_,(m_ (va 3 c_n.nd (AA Dd)) (m_ (Db Ov.PM ζ (IZ ζ T.enumerate (o_ (pv 2))) (gE ζ (F' (Cy 4 c_n.nd) (F' (Cy 5 c_n.nd) bJ))) (k_ (Db Ov.PM ζ (eI ζ T.N2 (q_ (Ae jd (pv 4) b') (Ci T.PJ (pv 2)))) (Cy 6 c_n.nd) (k_ (BB (Di (pv 3) (Bg (wm (pv 4) (pv 6) (wx ap hr (Bp (AD (f:=Q3) (pv 0) ζ) (Bp (AD (f:=Z1) (pv 0) ζ) (wm (pv 1) (pv 5) (AB (pv 2) (pv 6)))))))))))))) (k_ (o9 (pv 3))))),3);let⟨dx,ew⟩:=hW.ex;let e:(c_ rs).β=rs.β:=f_ _;refine(Nb _,λh D=>?_);let s0:=a'.MR (o:=.M5 []) D;refine(0,S,0,.NT (s0 _ _ d,3));let ar:10000≤Λ:=sT (!0);refine pH (xs:=c_ rs) (λi b H'=>E4 λ(xs:γ V)(Q:ω V)(O:ω V)(m:ω V)=>A4 (b=[δ (.π N),δ (.π p),δ (.π S),δ (.π h),Q,O,m]) (a' H H') (H' h<*.M5 xs) (xs.β≤100*i)) ([],ε,ε,ε,1,s0,j_,Nb _) ?_ ?_ ?_
 .rintro i b H'⟨xs,Q,O,m,ζ,s,_⟩;show s _ _ d
 .rintro i x pp b H1 X I⟨xs,Q,O,m,ζ,s,htl1,W⟩;let hi:i<rs.β:=by have:=(q5 X).1;rwa [e]at this
  rw[CU hi]at X;cases X;let l:=s.ν (a'.MR (o:=.No [.MQ (i:ML),.MQ ((rs.MI i 0:Φ):ML)]) I);let g:=Ah (u:=.No [.MQ (i:ML),.MQ ((rs.MI i 0:Φ):ML)]) htl1 I;refine(pp,0,u0.of j_,1,4,8,3);generalize L2.MR H1 pp (.No [.MQ (i:ML),.MQ ((rs.MI i 0:Φ):ML)])=H2 at l g;refine(0,_,2,S,0,.NI (o5.of (l _ _ d)),4,(!6,!6,by rw[e];lia,by rw[e];lia),3);rw[e];refine HG (n:=(((rs.β:Φ):ML)-((i:ML)+1)).On) (λj b H'=>E2 λ(xs:γ V)(m:ω V)=>A4 (b=[δ (.π N),δ (.π p),δ (.π S),δ (.π h),δ (.MQ (i:ML)),δ (.MQ ((rs.MI i 0:Φ):ML)),m]) (a' H H') (H' h<*.M5 xs) (xs.β≤100*i+j)) (xs,m,1,l,g,!6) ?_ ?_
  .rintro j b H3 hj⟨xs2,s6',ζ,a,htl3,hxl3⟩;let J:i+1+j<rs.β:=by lia
   let e1:rs[i]?<*rs.MI i 0:=by rw[u6,n_ hi];rfl
   let e2:rs[i+1+j]?<*rs.MI (i+1+j) 0:=by rw[u6,n_ J];rfl
   let ag:AN (c_ rs) ((i:ML)+1+(j:ML))<*.MQ ((rs.MI (i+1+j) 0:Φ):ML):=by
    rw[show(i:ML)+1+(j:ML)=((i+1+j:Φ):ML) by lia];show DU J
   let M:=a _ _ ew;refine(0,.NI (1,_,o5.of htl3),6,0,N,cW,dx,4,M,U.OM,U.na1,1,0,N,cW,dx,4,M,U.OM,U.na4,1,6,6,AJ (a _ _ d) ag ?_);refine(y,p,z,A,L,R,Bm,k,rs.MI i 0,rs.MI (i+1+j) 0,1,a _ _ hy,Y.sameL a,an,a _ _ hp,ab,r.OP a,Z i (i+1+j) _ _ (!6) e1 e2,hk,E _ (AC e1),E _ (AC e2),λw H4 v=>(sT (by change 3≤16777216;decide),λtt B=>?_));let C:=Ah (u:=.No [.MQ (i:ML),.MQ ((i:ML)+1+(j:ML)),.M_ (tx w)]) (v _ _ htl3) B;refine(h,8,C,!6,3);let h0:H h=ε:=D;show(4,a'.RY ((a.ν v).ν (a'.MR B)) h0,j_,by rw[w_];change xs2.β+1≤_;lia)
  .rintro b H3⟨xs2,s6',ζ,a,htl3,hxl3⟩;show(xs2,_,4,a,htl3,!6)
 .rintro b H1⟨xs,Q,O,m,ζ,s,htl1,W⟩;show(0,q h xs H1 s htl1)
def bH:vw [Q8,"rounds","lots",Q4] [Q8] (h_ kN):=Aa
def uv(F:vh K "told" "told" kN f fd)(T:SG K mg UJ UV RS)(WK:IA K cW)(WN:Af K cW Q6)(TM:GS K mg RS UJ fX fdX)(bk:Df P w K mg ς "rounds_of" 2 [Z1,Z2,"most"] sp_roundsG)(bo:Df P w K mg ς "many_lots" 1 ["lots"] Zy)(bl:Df P w K mg ς "folded" 3 [Q8,"lots"] (K5 cW))(bm:Df P w K mg ς "first_rooms" 2 ["lots"] Yi)(bi:Df P w K mg ς "tails_of" 2 [Q8,"rounds",Q4] (iJ cW)):aa P w K mg ς (Al P w) 4 f fd [Q8] (GT cW RS):=by
 refine F.okX bH (λvs H Q E h=>?_) (λQi A Fr s H vs Q E hr h=>?_)
 .obtain ⟨wk,t,wd,y,md,B,L,R,Bm,ws,ζ,_⟩:=h;rfl
 .obtain ⟨wk,t,wd,y,md,B,L,R,Bm,ws,ζ,hW,hy,W,aB,aU,aT,g,qE,q⟩:=h;let⟨tm,u⟩:=T.most;let a3:=hr.Pg (j:=1) (!0);let an:=hr.Pg (j:=2) (!0);let a2:=hr.Pg (j:=3) (!0);refine(_,(m_ (va 1 bH.nd (wx bk an (wm (AD (f:=Z1) (pv 0) ζ) (AD (f:=Z2) (pv 0) ζ) (GZ (v:=.MQ 8) (!4) u (_,ζ))))) (m_ (va 2 bH.nd (AB (pv 1) (Er Es b'))) (m_ (u_ (A1 mY (wx bo a3 (o_ (pv 2))) (GZ (v:=.MQ 8) (!4) u (_,ζ)) (A' _)) (k_ (o9 (wx bl a2 (q_ (pv 0) (pv 2))))) (wh)) (m_ (va 3 bH.nd (Ga HL (wx bm an (o_ (pv 2))) Gw (FC (Ae jd (GZ (v:=.MQ 8) (!4) u (_,ζ)) b')))) (k_ (oJ ζ ζ iE TM.Xf TM.fn (oR TM T.Qt) (hr.Pg (j:=2) (!0)) (TM.ini.V_ (ps:=["self",Q6,"tails","part"]) (λ_ _ _ _ _ _ us hl=>by let⟨_,_,_,_,ζ⟩:=zc hl;rfl)) CS TM.kT (wm (EA [Q8,"rounds","lots",Q4] ζ (!0) (Dv (pv 3)) (λcl C fp s' H'=>(BZ,rz (Fu K) (gF (f:=Q6) K (pv 1) ζ) (pv 0) (λ_ _=>rfl)))) (wx bi an (wm (pv 0) (pv 1) (pv 3))) Gu))))))),3);let⟨dx,ew⟩:=hW.ex;let Y:=g.n60;let az:=g.n1;refine(0,wk,cW,dx,4,ew,WK.OM,WK.na4,1,0,wk,cW,dx,4,ew,WK.OM,WK.na5,1,3);refine(y,md,B,_,_,L,R,Bm,(8),1,.NI ζ,hy,.NI ζ,aB,W.1,W.toQ,g,λp J k H1 s1 hp ap O st hk=>?_);obtain⟨la,aH⟩:∃la,J[k]?<*la:=(J[k]'(by rw[ap];show OA k),n_ _);let U:=O k la aH;let bd:=IW ap aH;let S:=DQ g k;refine(6,AJ hp bd ?_);refine(0,la,Rd R Bm k,1,U,by rw[S];show az,λM hM aA=>(_,2,aQ (λaC=>?_) (λaM=>?_)))
  .let aC:(M:ML)+1≤8:=aC;let Rv:Rd R Bm (k+1)=Rd R Bm k:=by
    rcases st with z|⟨M2,bg,z⟩
    .exact z
    .have:=aA M2 bg;lia
   refine(6,wk,t,wd,y,md,la,B,L,R,Bm,k,1,(dx,s1 _ _ ew),s1 _ _ hy,W.sameL s1,s1 _ _ aB,g,U,λm f H2 Z s2 hf bf=>?_);let a5:m≤8:=by
    let h1:=Z.Tn (m-1) (by have:=Z.Ng;lia);let h2:=aA _ h1;lia
   show q m k f H2 Z Rv a5 (s1.ν s2) (GE s1 hf) bf
  .refine (0,la,Rd R Bm k,1,U,by rw[S];show az,by rw[S];show Y,λx hx=>Ψ (dL g hx) Y,λM j hM hj=>nQ hM hj,λm rl H2 Z s2 bs a0=>?_);refine(_,2,rl,0,o5.of a0,λrm ab=>?_);let aN:=s1.ν s2;let a4:9≤m:=by
    have:=Z.lt M hM;let aM:¬ (M:ML)+1≤8:=aM;lia
   let e9:AL (c_ ((γ.N2 m).NL λj=>(Rd R Bm k).M0 j)) ε (δ (8+1))=c_ (((γ.N2 m).NL λj=>(Rd R Bm k).M0 j).OC 9):=by
    let e:=fF (xs:=c_ ((γ.N2 m).NL λj=>(Rd R Bm k).M0 j)) (t:=9) (by rw[f_,ol,OB];show a4);refine e.ν ?_;unfold c_;rw[γ.map_take]
   rw[e9];let X:∀(i a:Φ),(((γ.N2 m).NL λj=>(Rd R Bm k).M0 j).OC 9)[i]?<*a->i<m/\a=(Rd R Bm k).M0 i:=λi a e=>by
    rw[γ.UR]at e;split at e
    .let hi:i<m:=by have:=(q5 e).1;rwa [ol,OB]at this
     rw[tS,O6 hi]at e;cases e;show(hi,1)
    .cases e
   let ag:(((γ.N2 m).NL λj=>(Rd R Bm k).M0 j).OC 9).β≤9:=by rw[Qu];show Φ.min_le_left _ _
   generalize ((γ.N2 m).NL λj=>(Rd R Bm k).M0 j).OC 9=rs at X ag;let as:∀r∈rs,r<R.β:=λr hr=>by
    let⟨i,hi⟩:=NM.mp hr;let⟨a1,ζ⟩:=X i r hi;show(Cv Z g a1).1
   let s3:=aN.ν (a'.MR (o:=.M5 (c_ rs)) ab);let N:L2.MR H2 rm (.M5 (c_ rs)) rm<*.M5 (c_ rs):=j_;let p3:=(s2.ν (a'.MR (o:=.M5 (c_ rs)) ab)) _ _ hp;let I:=O.OP (s2.ν (a'.MR (o:=.M5 (c_ rs)) ab));generalize L2.MR H2 rm (.M5 (c_ rs))=H3 at s3 N p3 I;dsimp only[Bv,Sh,aP,mJ,Aw];refine EY (a:=rm) (λR h=>(0,h)) (.NI ζ) N (λ_ _ _ _=>Ol) (by rw[f_];show sT (IO ag (!0))) (λD hD=>trivial) ?_ ?_
   .intro D j x ys H' R1 R2 hD hx n ar _ k1 k2;let hj:j<rs.β:=by have:=(q5 hx).1;rwa [f_]at this
    rw[CU hj]at hx;cases hx;let a8:rs.MI j 0<ws.β:=by rw[aT];show as _ (GF hj)
    let s4:=s3.ν n;refine l_ (0,wk,cW,dx,4,s4 _ _ ew,WK.OM,WN,1,0,AJ (s4 _ _ aU) (D_ (λv=>V.M_ (tx v)) (n_ a8)) (k1 _ H' ar (a'.RY n hD) trivial))
   .intro D ys H4 hD n ar _;let s4:=s3.ν n;refine(6,0,wk,t,wd,y,md,p,rm,B,J,L,R,Bm,k,rs,1,(dx,s4 _ _ ew),s4 _ _ hy,W.sameL s4,g,n _ _ p3,ap,I.OP n,hk,n _ _ N,ag,as,λi j a b bD e1 e2=>?_,λtl xs H5 s5 aV=>(sT (by change 3≤16777216;decide),λe he=>(e,D,tl,.Rt,4,j_,Ah (s5 _ _ ar) he,Ah aV he,λH6 d l l2 k6 hd de le aS a9 a7 a6=>(1,δ d,hd,3))))
    .obtain ⟨a1,ζ⟩:=X i a e1;let⟨b1,ζ⟩:=X j b e2;rw[(Cv Z g a1).2,(Cv Z g b1).2];lia
    .refine qE d _ (λb o z=>?_) (l,l2,7,by rw[Eh de];show a9,by rw[Eh le];show a7,by rw[Eh aS];show a6);let z5:=s5 _ _ (s4 _ _ z);let n1:b≠e:=e_ z5 he;rw[Eh n1];show k6 b o n1 (Ah z5 he)
def b_l:vw [Q0,"second",Q3,"others"] [Q0,"second"] (h_ Kw):=Aa
def Mq(F:vh K "need_same_letters" "need_same_letters" Kw f p)(T:SG K mg UJ UV RS):aa P w K mg ς (Al P w) 1 f p [Q0,"second"] (Jr UV):=by
 refine F.okX b_l (λvs H Q E h=>?_) (λQi A Fr s H vs Q E v h=>?_)
 .obtain ⟨m,m2,L,L',W,B,r,t,ζ,_⟩:=h;rfl
 .obtain ⟨m,m2,L,L',W,B,r,t,ζ,n,b,l,hNa,j,q⟩:=h;refine(_,(m_ (va 2 b_l.nd (Ad 0)) (m_ (va 3 b_l.nd (Ad 1)) (k_ (u_ (GL (pv 2) (pv 3)) (k_ (qF ζ ky T.oG_ T.kG_ (o_ (wR (c:=λd=>vv 2 d/\vv 3 d) (jz,jy 2 (pv 2) (λ_ z=>z.1),jz,jy 3 (pv 3) (λ_ z=>z.2),trivial))))) (wh))))),3);let⟨u,mk,g,h1,h2,D,C,y⟩:=id n;let⟨i,k,a,o,N,M,J,I⟩:=id l;refine(z8 h1 aL ?_);refine(z8 o aL ?_);refine(0,2,3);by_cases e:L=L'
  .exact D8 (by rw[e]) (q e)
  .rw [M3 (λz=>e (gb (V.M_.QG z)))];show aw ((b.lt.sm.txt ζ,hNa.lt.sm.txt ζ),λx=>(sT (by change 1≤16777216;decide),j e))
def cc:vw [Q0,Q8,"rounds"] [Q0] (h_ gv):=Aa
def Fj(F:vh K "least" "least" gv f fd)(T:SG K mg UJ UV RS)(s:IA K cW)(an:Df P w K mg ς "walked_machine" 6 [Q0] (Jm cW P0 OL))(ab:Df P w K mg ς "rounds_of" 2 [Z1,Z2,"most"] sp_roundsG)(ag:Df P w K mg ς "folded" 3 [Q8,"lots"] (K5 cW)):aa P w K mg ς pu 7 f fd [Q0] (IB P0 OL):=by
 refine F.Vk cc ?_;rintro _ _ _ _ _ _ _ _ S⟨m,L,W,B,ζ,Z,C,hT,q⟩;let Q:=S.Pg (j:=2) (!0);let O:=S.Pg (j:=3) (!0);refine(_,(m_ (va 1 cc.nd (wx an S (o_ (pv 0)))) (m_ (va 2 cc.nd (wx ab Q (wm (AD (f:=Z1) (pv 1) ζ) (AD (f:=Z2) (pv 1) ζ) (Ci T.PJ (AD (f:=Z1) (pv 1) ζ))))) (k_ (o9 (wx ag O (q_ (pv 1) (AB (pv 2) (Er Es b')))))))),3);refine(0,m,L,W,B,1,Z.l,C,hT,λD t wd y md ks ap ws h R Bm H1 s1 X hW ht as ar N b u bf g hR bl J Rp le=>?_);let d:=n6 C bf g hR bl le;let⟨dx,H⟩:=hW.ex;refine(0,D,cW,dx,4,H,s.OM,s.na4,1,0,D,cW,dx,4,H,s.OM,s.na5,1,0,D,cW,dx,4,H,s.OM,s.na4,1,y,0,.NI (o5.of N),3);refine(y,md,h,_,_,L,R,Bm,R.β,by rw[ol,b.1];rfl,.NI ζ,N,.NI ζ,u,b.1,λi r e=>?_,d,λp n k H2 s2 hp v o I hk=>?_)
 .let hi:i<R.β:=by rw[<-b.1];show(q5 e).1
  show(R[i],n_ hi,_,.NI ζ,b.2 i r _ e (n_ hi))
 let st:Rd R Bm (k+1)=Rd R Bm k:=by
  rcases I with z|⟨M,Z,z⟩
  .exact z
  .have:=dL d Z;lia
 obtain⟨E,A⟩:∃E,n[k]?<*E:=(n[k]'(by rw[v];show OA k),n_ _);let x:=o k E A;let U:=IW v A;refine(6,0,AJ hp U ?_);refine(D,t,wd,y,md,E,h,L,R,Bm,k,1,(dx,s2 _ _ H),s2 _ _ N,(b.1,λi a r a1 a2=>s2 _ _ (b.2 i a r a1 a2)),s2 _ _ u,d,x,λmm f H3 hm s3 hf Y=>?_);show q f _ _ H3 (HY s1 (qy (s2.ν s3))) (Gm (Gm X s2) s3) Y (ks,ws,R,Bm,k,mm,bf,g,hR,bl,J,Rp,le,d,st,hm,5)
def e_M:vw [Q0,Q4,"rows"] [Q0,Q4] (h_ Kx):=Aa
def LX(F:vh K "lots_after" "lots_after" Kx f fd)(T:SG K mg UJ UV RS):aa P w K mg ς pu 1 f fd [Q0,Q4] Tg:=by
 refine F.Vk e_M ?_;rintro _ _ _ _ _ _ _ _ _⟨m,v,o,L,W,B,k,ζ,hM,Q,ho,hv,E,Y,q⟩;refine(_,(m_ (va 2 e_M.nd (EA [Q0,Q4,"rows"] ζ (!0) (Dv (pv 1)) (λcl C fp s' H'=>(BZ,rz (Hd K) (rz (Hd K) (pv 1) b' (λ_ _=>rfl)) (pv 0) (λ_ _=>rfl))))) (k_ (o9 (qO [Q0,Q4,"rows"] ζ (!0) (G3 ζ T.N2 (o_ (Hr T.PJ (Ad 0)))) (λcl C fp s' H'=>(BZ,EA ["place",Q0,Q4,"rows"] ζ (show γ.Nx (["row","place",Q0,Q4,"rows"]:γ M') by decide) (Dv (pv 3)) (λcl C fp s' H'=>(BZ,rz (Hd K) (pv 0) (pv 1) (λ_ _=>rfl))))))))),3);let⟨wy,mk,ap,h1,h2,h3,h4,h5⟩:=id hM;let hz:(tx L).β≤Λ:=sT (by rw[oh];show IO Q.lt.hi (!0));let ag:(c_ k).β≤Λ:=by rw[f_];show sT (IO E (!0))
 let J:∀{j:Φ}{x:V},(c_ k)[j]?<*x->j<k.β/\x=.MQ ((k.MI j 0:Φ):ML)/\k.MI j 0<W.β:=λ{j x}e=>by
  let H:j<k.β:=by have:=(q5 e).1;rwa [f_]at this
  rw[CU H]at e;cases e;show(H,1,Y _ (GF H))
 dsimp only[Bv];dsimp only[Sh,aP,aK,Cp,Aw,Cq,BQ];refine EY (a:=v) (λR h=>(0,h)) ho hv (λD j ys H'=>∃rs:γ υ,A3 (ys=rs.NL V.π) (rs.β=j) (∀(i:Φ)(a:υ),rs[i]?<*a->H' a<*.No (c_ (W.MI (k.MI i 0) [])))) ag (λD S=>([],5,λi a e=>by simp at e)) ?_ ?_
 .intro D j x ys H' R1 R2 S hx b d hp k1 k2;let⟨rs,ζ,g,M⟩:=hp;let⟨H,ζ,O⟩:=J hx;let⟨ra,s,U⟩:=zl.Vt h4 (h5.OP b) O;refine l_ (z8 (b _ _ h1) aJ (0,Fa (b _ _ h2) (D_ V.π s) (k1 _ H' d (a'.RY b S) (rs++[ra],by rw[Nu];rfl,by rw[w_,g];rfl,λi u e=>?_))));rcases Fv e with z|⟨rfl,ζ⟩
  .exact tf (M i u z) d (!5)
  .rw [g];show tf U d (!5)
 intro Dw ys H2 ar l Z ab;let⟨rs,ζ,g,M⟩:=ab;rw[f_]at g;dsimp only[gh,Bv,Sh,aP,aK,Cp,Aw,Cq,BQ];refine IX (n:=L.β) (λR h=>(z8 (l _ _ h1) aL (0,hz,by rw[oh];show h))) (IO Q.lt.hi (!0)) (λD j ys H'=>∃ls:γ υ,A3 (ys=ls.NL V.π) (ls.β=j) (∀(q:Φ)(a:υ),ls[q]?<*a->a≠D/\H' a<*.M5 (c_ (gA W k q)))) (λD S=>([],5,λi a e=>by simp at e)) ?_ ?_
 .intro D q0 ys H' R1 R2 S hq b d hp k1 k2;let⟨ls,ζ,A,N⟩:=hp;let s2:=l.ν b;refine l_ ?_;refine EY (a:=Dw) (λR h=>(0,h)) (.NI ζ) (b _ _ Z) (λD2 j I H4=>I=(c_ (gA W k q0)).OC j) (by rw[ol,g];show sT (IO E (!0))) (λD2 r=>!1) ?_ ?_
  .intro D2 j y I H4 R3 R4 r hy Uv p t k3 k4;rw[tS]at hy;let⟨ra,s,ζ⟩:=BG hy;let H:j<k.β:=by rw[<-g];show(q5 s).1
   let O:=Y _ (GF (ws:=k) H);let l1:=(Ea Q O).1;refine l_ (6,Fa (Uv _ _ (b _ _ (M j ra s))) (by rw[ML.Pz];show DU (by rw[l1];show hq)) (k3 _ H4 p (a'.RY Uv r) ?_));rw[t];refine(DV ?_).MO;rw[CU (by rw[gA,ol];show H),gA,c9 H]
  .intro D2 I H4 r Uv p t;rw[ol,g,N6 (by rw[f_,gA,ol];show LT _)]at t;subst t;let an:=Uv _ _ d;refine k1 (.π D2) H4 an (a'.RY (b.ν Uv) S) (ls++[D2],by rw[Nu];rfl,by rw[w_,A];rfl,λi u e=>?_);rcases Fv e with z|⟨rfl,ζ⟩
   .obtain ⟨z1,z2⟩:=N i u z;show(z1,by rw[a_ z1];show Uv _ _ z2)
   .let X:u≠D:=λzz=>by rw[zz,d]at r;cases r
    show(X,by rw[A,a_ X];show p)
 .intro D ys H' S b d hp;let⟨ls,ζ,A,N⟩:=hp;show q D ls H' (l.ν b) d A λq a e=>(N q a e).2
def oE:vw [Q4] [Q4] (h_ ck):=Aa
def Ck(F:vh K "lot_of" "lot_of" ck f h)(T:SG K mg UJ UV RS):aa P w K mg ς pu 1 f h [Q4] (HA K):=by
 refine F.Vk oE ?_;rintro _ _ _ _ _ _ _ _ _⟨p,ns,ζ,hp,b,q⟩;refine(_,(k_ (o9 (Eu Gb (!4) T.Px PZ (o_ (Dp (mn ζ) (!4) T.sorted Oj.Sf.boot_sorted (o_ (Eu (pR ζ) (!4) T.RY Oj.Sf.boot_set (o_ (pv 0))))))))),3);refine(0,p,ns,1,hp,b,λa g=>(a,DY ns,1,bQ b,j_,λl e=>(l,0,.NI (o5.of j_,λt d=>?_))));show q t _ ((a'.MR g).ν ((a'.MR e).ν (a'.MR d))) j_
def dR:vw [Q0,Q4] [Q0,Q4] (h_ Ky):=Aa
def LY(F:vh K "has_marked" "has_marked" Ky f H)(T:SG K mg UJ UV RS):aa P w K mg ς pu 1 f H [Q0,Q4] Xu:=by
 refine F.Vk dR ?_;rintro _ _ _ _ _ _ _ _ _⟨m,v,o,L,W,B,k,ζ,A,s,z,y,e,l,q⟩;refine(_,(k_ (o9 (Dp (pT ζ) (!4) T.Qk Oj.Sf.boot_any (o_ (EA [Q0,Q4] ζ (!0) (Dv (pv 1)) (λQ C O s' H'=>(BZ,rz (Hd K) (rz (Hd K) (pv 1) b' (λ_ _=>rfl)) (pv 0) (λ_ _=>rfl)))))))),3);let⟨J,mk,u,h1,h2,E,N,M⟩:=id A;let n:(c_ k).β≤Λ:=by rw[f_];show sT (IO e (!0))
 dsimp only[gh,Sh,aP,aK,Cp,Aw,Cq,BQ];refine EY (a:=v) (λR h=>(0,h)) z y (λD j ys H'=>ys=((k.NL λr=>B.MI r η).OC j).NL V.bl) n (λD t=>rfl) ?_ ?_
 .intro D j x ys H' S R2 t i b d hp k1 k2;let g:j<k.β:=by have:=(q5 i).1;rwa [f_]at this
  rw[CU g]at i;cases i;let p:=l _ (GF (ws:=k) g);refine l_ (z8 (b _ _ h1) dH (0,Fa (b _ _ E) (HU (ik s.bl p)) (k1 _ H' d (a'.RY b t) ?_)));rw[hp,Te,tS,n_ g,Nu,bY g];rfl
 .intro D ys I t b d hp;rw[f_,<-ol (f:=λr=>B.MI r η),SL]at hp;subst hp;refine(D,0,d,3);have:=q I b;rw[γ.any_map];show this
def dP:vw [Q0,"place",Q4] [Q0,"place",Q4] (h_ Kz):=Aa
def L0(F:vh K "rooms_into" "rooms_into" Kz f O)(T:SG K mg UJ UV RS):aa P w K mg ς pu 1 f O [Q0,"place",Q4] Tu.Zx:=by
 refine F.Vk dP ?_;rintro _ _ _ _ _ _ _ _ _⟨m,st,L,W,B,j,S,ζ,M,s,J,Rv,q⟩;refine(_,(k_ (o9 (Eu Gb (!4) T.Px PZ (o_ (Jh [Q0,"place",Q4] ζ (!0) (IZ ζ T.enumerate (o_ (Ad 0))) (λcl C Z s' H'=>(mT (A1 (lf K) (rz (Hd K) (pv 1) (pv 3) (λ_ _=>rfl)) (pv 4) (by with_unfolding_all rfl)),pv 0))))))),3);let⟨H,mk,e,h1,h2,Y,A,N⟩:=id M;let k:(e.NL V.π).β=W.β:=by rw[ol,A]
 let o:=s.n60;dsimp only[gh,BQ,Aw];refine LC (c:=H) (λR h=>(z8 h1 aJ h)) (.NT ζ) h2 (λD i ys H'=>ys=c_ ((γ.N2 i).SJ λr=>S.M7 (QT W r j))) (by rw[k];show sT (IO o (!0))) (λD v=>rfl) ?_ ?_
 .intro D i x ys H' E R1 R2 v y d b hp a k1 k2;rw[tS]at y;let⟨I,n,ζ⟩:=BG y;let X:i<W.β:=by rw[<-A];show(q5 n).1
  let⟨ws,g,l⟩:=N i I n;let Q:W.MI i []=ws:=by rw[u6,g];rfl
  let t:=d.ν a;let u:=(s.Vt ws (AC g)).1;refine(6,Fa (t _ _ l) (DU (by rw[u];show J)) (0,st,0,.NT (u0.of (t _ _ Rv)),1,LF _,0,3));let U:ws.MI j 0=QT W i j:=by unfold QT;rw[Q]
  rw[U];change if (EO (.MQ ((QT W i j:Φ):ML)) (c_ S))=ξ then _ else _
  rw[di];cases z:S.M7 (QT W i j)with
  |ξ=>
   refine aw (0,k1 _ E (a _ _ b) (a'.RY t v) ?_);rw[hp,As,z];show(Jc _ _).MO
  |η=>
   refine aj (k2 E t (a _ _ b) ?_);rw[hp,As,z];simp
 .intro D ys H' v d b hp;rw[k]at hp;subst hp;show(D,0,.NI (o5.of b,λp hp=>q p _ (d.ν (a'.MR hp)) j_))
def h_G:vw [Q0,Z2] [Q0] (h_ KA):=Aa
def li(F:vh K "outside" "outside" KA f fd)(T:SG K mg UJ UV RS)(nd:(ts.NL Uj.fst).Nx)(i0:(P0,OL,)∈ts)(aM:Df P w K mg ς "walked_machine" 6 [Q0] (Jm cW P0 OL))(aN:AT P w K mg ς "told" 4 [Q8] (GT cW RS)):aa P w K mg ς (Al P w) 7 f fd [Q0] (gp RS ts je):=by
 refine F.okX h_G (λvs H Q E h=>?_) (λQi A Fr s H vs Q E hr h=>?_)
 .obtain ⟨m,L,W,B,ζ,_⟩:=h;rfl
 .obtain ⟨m,L,W,B,ζ,hM,g,hW8,hA,qE,q⟩:=h;let hT:=hA _ i0;let ap:=hr.Pg (j:=4) (!0);refine(_,(m_ (Jg [Q0,Z2] (j:=1) ζ h_G.nd (!0) ζ (Or.NI ζ) (Dv (Ad 0)) (λcl C fp s' H'=>(BZ,BP (pv 0)))) (k_ (o9 (Ct aN ap (CI λ_ _ _ z=>z) (o_ (wx aM hr (o_ (Bg (wm (Ad 0) (Ad 0) (pv 1)))))))))),3);let⟨J,mk,N,h1,h2,h3,h4,h5⟩:=id hM;let O:=g.n60;dsimp only[Bv,Sh,aP,aK,Cp,Aw,Cq,BQ];refine EY (a:=mk) (λR h=>(z8 h1 dH h)) (.NT ζ) h3 (λD j ys H'=>ys=((B.NL not).OC j).NL V.bl) (by rw[ol,g.bl];show sT (IO O (!0))) (λD hD=>rfl) ?_ ?_
  .intro D j x ys H' R1 R2 hD hx n I hp k1 k2;rw[tS]at hx;let⟨b,hb,ζ⟩:=BG hx;refine l_ (0,b,1,k1 _ H' I (a'.RY n hD) ?_);rw[hp,Te,tS,hb,Nu];rfl
  .intro D ys H1 hD n I hp;rw[ol,<-ol (f:=not),SL]at hp;subst hp;let U:=n _ _ h1;refine(z8 U aL (z8 U aJ (0,sT (by change 3≤16777216;decide),λt ht=>?_)));let s2:=n.ν (a'.MR (o:=.No [.M_ (tx L),.π J,.π D]) ht);let S:L2.MR H1 t (.No [.M_ (tx L),.π J,.π D]) t<*.No [.M_ (tx L),.π J,.π D]:=j_;let Y:=Ah (u:=.No [.M_ (tx L),.π J,.π D]) I ht;generalize L2.MR H1 t (.No [.M_ (tx L),.π J,.π D])=H2 at s2 S Y;let aC:g_ L W (B.NL not):={g with bl:=by rw[ol];show g.bl};let X:=Gm hT s2;refine(t,L,W,B.NL not,1,(J,D,N,S,s2 _ _ h2,.NT Y,h4,λi a e=>by let⟨ws,e1,e2⟩:=h5 i a e;show(ws,e1,s2 _ _ e2)),aC,X,λwk t' wd y md ks aS ws v R Bm H3 s3 aB hW aU aT an hy ag ar bf l Z bl ab Rp le=>?_);let kT:KT ts H H3:=(KT.of s2).ν (KT.Z8 nd i0 s3 X aB);let r:=Ic (Bm:=Bm) g.lt bf l Z bl (IO le O);refine(wk,t',wd,y,md,v,L,R,Bm,ws,1,hW,hy,ag,ar,an,by rw[Z];show bf.PJ.MO,r,λd H' s' p=>qE d H' (kT.ν (KT.of s')) p,λmm k ff H4 hm M as s4 hf aH=>?_);refine q ff _ _ H4 (kT.ν (KT.of s4)) aH (GI hm r) (Ii as) (Ih bf l Z r M hm) λu hu=>?_;unfold AX je;dsimp only;rw[Hi hm r M hu,Ie bf l Z bl ab hu];rw[cr 0 u.β u ζ];let az:=De g (w:=u) g.n1 hu;change (B.NL not).MI (PD L W 0 u) η=ξ↔_;let aA:PD L W 0 u<B.β:=by rw[g.bl];show az
   rw[u6,tS,u6,n_ aA];change (!B[PD L W 0 u])=ξ↔B[PD L W 0 u]=η;rw[Q_]
def oB:vw [Q0] [Q0] (h_ ci):=Aa
def oU(F:vh K "turned" "turned" ci f fd)(T:SG K mg UJ UV RS)(nd:(ts.NL Uj.fst).Nx)(i0:(P0,OL,)∈ts)(iT:(PT,Tu.AW,)∈ts)(ar:AT P w K mg ς "told" 4 [Q8] (GT cW RS))(an:Df P w K mg ς "walked_turned" 6 [Q0] (Tu.BX cW PT Tu.AW))(ap:Df P w K mg ς "least" 7 [Q0] (IB P0 OL)):aa P w K mg ς (Al P w) 8 f fd [Q0] (gp RS ts cQ):=by
 refine F.okX oB (λvs H Q E h=>?_) (λQi A Fr s H vs Q E S h=>?_)
 .obtain ⟨m,L,W,B,ζ,_⟩:=h;rfl
 .obtain ⟨m,L,W,B,ζ,hM,l,hW8,hA,qE,q⟩:=h;let r:=hA _ i0;let O:=S.Pg (j:=4) (!0);let N:=S.Pg (j:=6) (!0);refine(_,(k_ (o9 (Ct ar O (CI λ_ _ _ z=>z) (o_ (wx an N (o_ (wx ap S (o_ (pv 0))))))))),3);refine(0,m,L,W,B,1,hM,l,r,λf W1 B1 H1 s1 o ag e=>?_);let kA:KT ts H H1:=KT.Z8 nd i0 s1 r o;let i:=kA.tb hA _ iT;refine(f,L,W1,B1,1,ag,e.Se,IO e.PJ hW8,i,λwk t wd y md ks ws n R Bm H2 s2 Z hW J hy I U C a x bl D le=>?_);let kT:KT ts H H2:=kA.ν (KT.Z8 nd iT s2 i Z);let b:=Ic (Bm:=Bm) l.lt C a x bl (IO le (!0));refine(wk,t,wd,y,md,n,L,R,Bm,ws,1,hW,hy,I,U,J,by rw[x];show C.PJ.MO,b,λd H' s' p=>qE d H' (kT.ν (KT.of s')) p,λmm k g H3 Y st X s3 hg ab=>?_);refine q g _ _ H3 (kT.ν (KT.of s3)) ab (GI Y b) (Ii X) (Ih C a x b st Y) λu v=>?_;unfold AX cQ;dsimp only;let M:∀c∈u.Nc,c∈L:=λc hc=>v c (VU.mp hc);rw[Hi Y b st v,Ie C a x bl D v,km e.Se v,e.YD l M]
def b_W:vw [Q3,"with_empty","signs","begin","shut"] [Q3,"with_empty","signs"] (h_ KB):=Aa
def Mr(F:vh K "short_machine" "short_machine" KB f fd)(T:SG K mg UJ UV RS)(nd:(ts.NL Uj.fst).Nx)(O:(P0,OL,)∈ts)(Z:Df P w K mg ς "least" 7 [Q0] (IB P0 OL)):aa P w K mg ς pu 8 f fd [Q3,"with_empty","signs"] (eh ts):=by
 refine F.Vk b_W ?_;rintro _ _ _ _ H _ _ _ hr⟨L,S,we,ζ,y,hA,q⟩;refine(_,(m_ (va 3 b_W.nd (Eu Gb (!4) T.Px PZ (o_ (EA [Q3,"with_empty","signs","begin","shut"] ζ (!0) (gD (pv 0)) (λcl C fp s' H'=>(BZ,cJ (A1 HH (pv 0) (pv 3) (by with_unfolding_all rfl)) b' b')))))) (m_ (va 4 b_W.nd (Eu Gb (!4) T.Px PZ (o_ (EA [Q3,"with_empty","signs","begin","shut"] ζ (!0) (gD (pv 0)) (λcl C fp s' H'=>(BZ,b')))))) (k_ (o9 (wx Z hr (o_ (Bg (wm (pv 0) (Bg (wm (pv 3) (pv 4) (pv 4))) (Bg (wm (pv 1) BK BK)))))))))),3);let hz:(tx L).β≤Λ:=sT (by rw[oh];have:=y.hi;lia);let gx:∀{i:Φ}{v:V},((tx L).TY.ND.NL λc=>V.M_ ⟨#[c]⟩)[i]?<*v->∃c,L[i]?=δ c/\v=.M_ (tx [c]):=λ{i v}e=>by
  rw[tS]at e;let⟨c,Y,ζ⟩:=BG e;show(c,Y,1)
 dsimp only[Bv];dsimp only[Sh,aP,aK,Cp,Aw,Cq,BQ];refine fG (j:=0) (x:=tx L) ζ (λD i ys H'=>ys=(c_ (L.NL λc=>if S.M7 c then 1 else 2)).OC i) hz (λD k=>!1) ?_ ?_
 .intro D i x ys H' R1 R2 k Q h g d k1 k2;let⟨c,X,ζ⟩:=gx Q;let Y:=Hx S c;refine l_ (6,_,2,3);let J:ys++[V.MQ ((if S.M7 c then 1 else 2:Φ):ML)]=(c_ (L.NL λc=>if S.M7 c then 1 else 2)).OC (i+1):=by
   rw[d];refine(DV ?_).MO;unfold c_;rw[tS,tS,X];rfl
  change (if (!(Builtin.M'.SO (tx S) ⟨#[c]⟩ 0 (tx S).β 1).SE)=ξ then R1 (.MQ 1) H' else R1 (.MQ 2) H');rw[Y];by_cases hs:S.M7 c=ξ
  .rw [Id hs]at J⊢;show k1 _ H' g (a'.RY h k) J
  .rw [Ω hs]at J⊢;show k1 _ H' g (a'.RY h k) J
 intro D ys H1 k s1 g d;rw[oh,N6 (by rw[f_,ol];show LT _)]at d;subst d;refine(D,0,.NI (o5.of g,λb hb=>?_));let s2:=s1.ν (a'.MR (o:=.No (c_ (L.NL λc=>if S.M7 c then 1 else 2))) hb);let t:L2.MR H1 b (.No (c_ (L.NL λc=>if S.M7 c then 1 else 2))) b=_:=j_;generalize L2.MR H1 b (.No (c_ (L.NL λc=>if S.M7 c then 1 else 2)))=H2 at s2 t;dsimp only[Bv];dsimp only[Sh,aP,aK,Cp,Aw,Cq,BQ];refine fG (j:=0) (x:=tx L) ζ (λD i ys H'=>ys=(c_ (L.NL λ_=>2)).OC i) hz (λD k=>!1) ?_ ?_
 .intro D i x ys H' R1 R2 k Q h g d k1 k2;let⟨c,X,ζ⟩:=gx Q;refine l_ (k1 _ H' g (a'.RY h k) ?_);rw[d];refine(DV ?_).MO;unfold c_;rw[tS,tS,X];rfl
 intro D2 ys H3 ab s3 A d;rw[oh,N6 (by rw[f_,ol];show LT _)]at d;subst d;refine(D2,0,.NI (o5.of A,λE s=>?_));let l3:3≤Λ:=sT (by change 3≤16777216;decide);refine(6,6,l3,λro R=>(0,l3,λmk U=>(l3,λm hm=>?_)));let s4:=a'.MR (o:=.No (c_ (L.NL λ_=>2))) s;let M:=a'.MR (o:=.No [.π b,.π E,.π E]) R;let I:=a'.MR (o:=.No [.bl we,.bl ξ,.bl η]) U;let l:=a'.MR (o:=.No [.M_ (tx L),.π ro,.π mk]) hm;let sA:=s2.ν (s3.ν (s4.ν (M.ν (I.ν l))));let N:KT ts H _:=KT.of sA;refine(m,L,Dk L S,[we,ξ,η],1,(ro,mk,[b,E,E],j_,l _ _ (I _ _ j_),l _ _ j_,1,λi r e=>?_),bG y,N.tb hA _ O,λf W B H' sx tb hM p=>?_)
 .let h1:=(s4.ν (M.ν (I.ν l))) _ _ (s3 _ _ t);let h2:=(M.ν (I.ν l)) _ _ (j_ (H:=H3) (a:=E) (o:=.No (c_ (L.NL λ_=>2))));match i with
  |0=>cases e;show(0,h1)
  |1=>cases e;show(0,h2)
  |2=>cases e;show(0,h2)
  |n+3=>simp at e
 .refine q f W B H' (N.ν (KT.Z8 nd O sx (N.tb hA _ O) tb)) (hM,p.Se,IO p.PJ (by change 3≤8;decide)) (p.canon (bG y)) ?_;rw[<-yy];show aD λu=>(λz=>(z.1,(p.YD (bG y) z.1).MO.ν z.2),λz=>(z.1,(p.YD (bG y) z.1).ν z.2))
def d_y:vw [Q3,"shape","kind"] [Q3,"shape"] (h_ KC):=Aa
def Ms(F:vh K "piece_machine" "piece_machine" KC f l)(T:SG K mg UJ UV RS)(a:Df P w K mg ς "short_machine" 8 [Q3,"with_empty","signs"] (eh ts)):aa P w K mg ς pu 9 f l [Q3,"shape"] (eD ts):=by
 refine F.Vk d_y ?_;rintro _ _ _ _ H _ _ _ g⟨L,t,v,ζ,e,i,b,d,q⟩;refine(_,(m_ (va 2 d_y.nd (Ad 1)) (m_ (u_ (Ap (pv 2) n') (k_ (o9 (wx a g (wm (pv 0) (BK) (Ad 1))))) (wh)) (k_ (o9 (wx a g (wm (pv 0) (EL bz (pv 2) n' (A' _)) (cJ (Ap (pv 2) n') (pv 0) n'))))))),3);let h:M'.Nd ""=tx []:=by decide +kernel
 rcases i with⟨k,ζ⟩|⟨c,ζ⟩
 .obtain ⟨p,ζ,hp⟩:=e;let h0:u0 K H p [.M_ (Hs k)]:=u0.of hp;cases k with
  |PM=>
   refine(0,p,_,8,h0,AG (j:=0) ζ,2,ac (!3) ?_);refine(0,2,1,0,ac (!3) ?_);show(L,[],η,by rw[h];rfl,b,d,q)
  |Rg=>
   refine(0,p,_,8,h0,AG (j:=0) ζ,2,ac (!3) ?_);refine(0,2,1,0,ac (!3) ?_);show(L,[],ξ,by rw[h];rfl,b,d,q)
  |Qk=>
   refine(0,p,_,8,h0,AG (j:=0) ζ,2,ac (!3) ?_);refine(0,2,1,0,am (!3) ?_);show(0,L,L,η,1,b,d,q)
 .obtain ⟨p,ζ,hp⟩:=e;refine(z8 hp aL (2,am (!3) ?_));show(0,z8 hp aJ (L,[c],η,1,b,d,q))
def g_G:vw ["kind","machines","one","two"] ["kind","machines"] (h_ cm):=Aa
def oW(F:vh K "joined" "joined" cm f O)(T:SG K mg UJ UV RS)(I:AT P w K mg ς "outside" 7 [Q0] (gp RS ts je))(N:AT P w K mg ς "turned" 8 [Q0] (gp RS ts cQ))(D:AT P w K mg ς "again" 8 [Q0] (gp RS ts Ag))(M:AT P w K mg ς "either" 7 [Q0,"second"] (bC RS ts (DZ (λa b=>a||b))))(J:AT P w K mg ς "less" 7 [Q0,"second"] (bC RS ts (DZ (λa b=>a&&!b))))(y:AT P w K mg ς "both" 7 [Q0,"second"] (bC RS ts (DZ (λa b=>a&&b))))(C:AT P w K mg ς "then" 8 [Q0,"second"] (bC RS ts cR)):aa P w K mg ς (Al P w) 9 f O ["kind","machines"] (K6 RS ts):=by
 refine F.okX g_G (λvs H Q E h=>?_) (λQi A Fr s H vs Q E x h=>?_)
 .obtain ⟨p,L,_,_,⟨k,m,W,B,ζ,_⟩|⟨k,m,m2,W,u,B,v,ζ,_⟩⟩:=h<;>rfl
 .obtain ⟨p,L,t,r,h⟩:=h;let o:=x.Pg (j:=7) (!0);refine(_,(m_ (va 2 g_G.nd (AB (pv 1) b')) (m_ (u_ (Ap (pv 0) n') (k_ (o9 (Ct I o (CI λ_ _ _ z=>z) (o_ (pv 2))))) (wh)) (m_ (u_ (Ap (pv 0) n') (k_ (o9 (Ct N x (CI λ_ _ _ z=>z) (o_ (pv 2))))) (wh)) (m_ (u_ (Ap (pv 0) n') (k_ (o9 (Ct D x (CI λ_ _ _ z=>z) (o_ (pv 2))))) (wh)) (m_ (va 3 g_G.nd (AB (pv 1) b')) (m_ (u_ (Ap (pv 0) n') (k_ (o9 (Ct M o (CI λ_ _ _ z=>z) (q_ (pv 2) (pv 3))))) (wh)) (m_ (u_ (Ap (pv 0) n') (k_ (o9 (Ct J o (CI λ_ _ _ z=>z) (q_ (pv 2) (pv 3))))) (wh)) (m_ (u_ (Ap (pv 0) n') (k_ (o9 (Ct y o (CI λ_ _ _ z=>z) (q_ (pv 2) (pv 3))))) (wh)) (k_ (o9 (Ct C x (CI λ_ _ _ z=>z) (q_ (pv 2) (pv 3))))))))))))),3);rcases h with⟨k,m,W,B,ζ,hp,i,q⟩|⟨k,m,m2,W,u,B,v,ζ,hp,i,g,q⟩
  .let h0:o5 K H p [.π m]:=o5.of hp;refine(0,p,_,8,h0,AG (j:=0) ζ,3);cases k with
   |OY=>show(2,am (!3) (0,m,L,W,B,1,i.mt,i.ma,i.le,t,r,λf l n H' k a b c d e=>q f l n H' k (a,b,c) d (xj e)))
   |OH=>show(2,ac (!3) (2,am (!3) (0,m,L,W,B,1,i.mt,i.ma,i.le,t,r,λf l n H' k a b c d e=>q f l n H' k (a,b,c) d (uI e))))
   |again=>show(2,ac (!3) (2,ac (!3) (2,am (!3) (0,m,L,W,B,1,i.mt,i.ma,i.le,t,r,λf l n H' k a b c d e=>q f l n H' k (a,b,c) d (rK e)))))
  .let h0:o5 K H p [.π m,.π m2]:=o5.of hp;refine(0,p,_,8,h0,AG (j:=0) ζ,3);cases k with
   |O7=>show(2,ac (!3) (2,ac (!3) (2,ac (!3) (0,p,_,8,h0,AG (j:=1) ζ,(2,am (!3) (6,m,m2,L,W,u,B,v,1,i.mt,i.ma,g.mt,g.ma,i.le,g.le,t,r,λf l n H' k a b c d e=>q f l n H' k (a,b,c) d (za e)))))))
   |Tv=>show(2,ac (!3) (2,ac (!3) (2,ac (!3) (0,p,_,8,h0,AG (j:=1) ζ,(2,ac (!3) (2,am (!3) (6,m,m2,L,W,u,B,v,1,i.mt,i.ma,g.mt,g.ma,i.le,g.le,t,r,λf l n H' k a b c d e=>q f l n H' k (a,b,c) d (uL e))))))))
   |Ta=>show(2,ac (!3) (2,ac (!3) (2,ac (!3) (0,p,_,8,h0,AG (j:=1) ζ,(2,ac (!3) (2,ac (!3) (2,am (!3) (6,m,m2,L,W,u,B,v,1,i.mt,i.ma,g.mt,g.ma,i.le,g.le,t,r,λf l n H' k a b c d e=>q f l n H' k (a,b,c) d (xk e)))))))))
   |ON=>show(2,ac (!3) (2,ac (!3) (2,ac (!3) (0,p,_,8,h0,AG (j:=1) ζ,(2,ac (!3) (2,ac (!3) (2,ac (!3) (6,m,m2,L,W,u,B,v,1,i.mt,i.ma,g.mt,g.ma,i.le,g.le,t,r,λf l n H' k a b c d e=>q f l n H' k (a,b,c) d (uJ e)))))))))
def c_e:vw [Q3,"shape","kind","machines","refusal"] [Q3,"shape"] (h_ KD):=Aa
def dS(F:vh K "machine_of" "machine_of" KD f fd)(T:SG K mg UJ UV RS)(g:GS K mg RS UJ fX fdX)(aU:Df P w K mg ς "piece_machine" 9 [Q3,"shape"] (eD ts))(aS:AT P w K mg ς "joined" 9 ["kind","machines"] (K6 RS ts))(J:mg "machine_of"<*.π f)(aN:Ao K fd [Q3,"shape"] []):aa P w K mg ς (Al P w) 22 f fd [Q3,"shape"] (Hz RS ts 12):=by
 let PJ:∀n vs H Q E,Hz RS ts n vs H Q E->vs.β=[Q3,"shape"].β:=λn vs H Q E h=>by
  let⟨L,t,v,ζ,_⟩:=h;rfl
 let P':∀n:Φ,aa P w K mg ς (Al P w) (n+10) f fd [Q3,"shape"] (Hz RS ts n):=by
  intro n;induction n with
  |TB=>show(PJ 0,λ_ _ _ _ _ _ vs Q E _ _ _ _ h=>by let⟨L,t,v,_,_,hd,_⟩:=h;have:=t.Uz;lia)
  |Sc n ih=>
   let aT:AT P w K mg ς "machine_of" (n+10) [Q3,"shape"] (Hz RS ts n):=(f,fd,J,F.kp,aN,ih);refine F.okX c_e (PJ _) (λQi A Fr s H vs Q E hr h=>?_);let⟨L,t,v,ζ,hs,hd,hL,hA,qE,q⟩:=h;let ab:=hr.Pg (j:=9) (!6);refine(_,(m_ (va 2 c_e.nd (Ad 1)) (m_ (u_ ((CL (Ap (pv 2) n') (EI (Ap (Ci T.PJ (pv 1)) b'))).pt) (k_ (o9 (wx aU ab (q_ (pv 0) (pv 1))))) (wh)) (m_ (iY [Q3,"shape","kind","machines","refusal"] (j:=3) wU ζ c_e.nd (!0) ζ (Or.NI ζ) (Dv (Ga wG (pv 1) (FC b') Gw)) (λcl C fp s' H'=>(BZ,Ct aT hr (gH ζ) (q_ (pv 1) (pv 0))))) (k_ (uk (E:=E) (i:=4) ζ ζ ζ ζ c_e.nd ζ ζ (Or.NI ζ) (Or.NI ζ) ζ g.kT (!0) g.Xf g.fn (lj g T.Qt) df hr (g.ini.V_ (ps:=["self",Q6,"tails","part"]) (λ_ _ _ _ _ _ us hl=>by let⟨_,_,_,_,ζ⟩:=zc hl;rfl)) (λv=>wm (i9 (f:=Q6) K (pv 4)) (i9 (f:="tails") K (pv 4)) (pv 1)) (wN aS ab (q_ (pv 2) (pv 3)))))))),3);let l3:3≤Λ:=sT (by change 3≤16777216;decide);rcases qo hs hd with⟨k,ζ⟩|⟨c,ζ⟩|⟨p,nm,us,as,ζ,hp,hul,h1,h2,aA,hpt,hk⟩
   .obtain ⟨p,ζ,hp⟩:=id hs;refine(z8 hp aL (2,ac (by cases k<;>decide +kernel) ?_));refine(0,p,0,.NT (u0.of hp),1,0,am ζ ?_);show(6,L,4,hs,.NI (k,1),hL,hA,q)
   .obtain ⟨p,ζ,hp⟩:=id hs;refine(z8 hp aL (2,am (!3) (aw ?_)));show(6,L,4,hs,.NT (c,1),hL,hA,q)
   let aC:¬ (V.MQ (((V.M_ nm::us).β:Φ):ML)=V.MQ 1):=λz=>by
    have:=V.MQ.QG z;rw[NS]at this;lia
   refine(z8 hp aL (2,ac (λz=>aA (V.M_.QG z)) ?_));refine(0,p,0,.NT (u0.of hp),1,0,ac aC ?_);dsimp only[Bv];dsimp only[Sh,aP,aK];let ar:AL (V.M_ nm::us) (δ 1) ε=us:=(pN (xs:=V.M_ nm::us) (t:=1) (by rw[NS];lia)).ν ζ;refine pO (xs:=us) (P1:=λa U=>KT ts H U) (λR h=>(6,p,0,u0.of hp,3,λa ha=>?_)) (λU D i ys H'=>A3 (KT ts U H') (H' D<*.M5 ys) (∃S:γ (υ×LL×γ MX),A3 (ys=S.NL (λx=>V.π x.1)) (S.β=i) (∀(j:Φ)(x:υ×LL×γ MX),S[j]?<*x->∃u,as[j]?=δ u/\Mc H' x.1 L x.2.1 x.2.2/\Lg L x.2.1 x.2.2=bE L u))) (sT (IO h2 (!0))) ?_ ?_ ?_ ?_
   .rintro⟨z,_⟩;unfold HT.Sj at z;simp at z
   .rw [ar];show h a _ (KT.of (a'.MR ha)) j_
   .rintro U a D i ys H' ha1⟨O,X,S,ζ,J,_⟩;show(O.sm.No _ _ ha1,X,by rw[ol,J])
   .exact λU D X=>(KT.of (a'.MR X),j_,[],5,λj x e=>by simp at e)
   .rintro a U D i x ys H' R1 k1 X hx⟨O,M,S,ζ,J,hms⟩go;let⟨pt,ag,az,aM⟩:=hpt i x hx;refine(6,L,pt,x,1,(az.kt k1).kt O,aM,hL,(k1.ν O).tb hA,λH2 k2=>qE H2 ((k1.ν O).ν k2),λf W B H2 k2 hM _ hl=>?_);let N:=k2.sm.M5 M;refine go (.π f) H2 N ((O.ν k2).RY X N,j_,S++[(f,W,B,)],by rw[Nu];rfl,by rw[w_,J];rfl,λj y e=>?_);rcases Fv e with z|⟨rfl,ζ⟩
    .obtain ⟨u,I,e2,e3⟩:=hms j y z;show(u,I,(e2.kt k2).RY N,e3)
    .exact (pt,by rw[J];show ag,hM.RY N,hl)
   .rintro a U D ys H2 k1 X⟨O,M,S,ζ,J,hms⟩;let k2:=k1.ν O;let Z:∀d H',KT ts H2 H'->P8 H' d->nV K RS 4 (Iy RS) (Aw (mK K (bB 4) Q6) (Aw (mK K (bB 4) "tails") (Aw (bB 1) Ww))) E [δ (.M_ (tx L)),δ (.π p),δ (.M_ nm),δ (.π D),ε] (.π RS) (δ d) H':=by
     rintro d H' k3⟨l,l2,part,xs,ys,ap,aB,an⟩;refine(g.exm,d,1,λe he=>?_);let Y:=a'.MR (o:=dB e (.π RS) (δ d)) he;refine(0,e,RS,d,4,j_,Y _ _ ap,g.ec,g.xc,g.na1,1,0,e,RS,d,4,j_,Y _ _ ap,g.ec,g.xc,g.na2,1,0,l3,λI r=>?_);let s1:=a'.MR (o:=t_ I RS ε) r;let ne:I≠e:=λz=>by rw[z,j_]at r;cases r
     refine(I,l,l2,_,xs,ys,1,j_,s1 _ _ (Y _ _ aB),s1 _ _ (Y _ _ an),λH6 d6 l6 l7 k6 aH _ _ _ _ _ _=>(1,δ d6,ne,aH,3,3))
     .exact k6 e _ (Ne.MO ne) (by rw[a_ (Ne.MO ne),j_])
     .refine qE _ (k2.ν (k3.ν (KT.of λb o z=>?_)));let z1:=Y _ _ z;let n1:b≠I:=e_ z1 r;rw[Eh n1];show k6 b o n1 (Ah z1 r)
    rcases hk with⟨k,x,ζ,ζ,ζ⟩|⟨k,x,y,ζ,ζ,ζ⟩
    .obtain ⟨m,ζ⟩:=JX (J.ν hul);let⟨u,I,e2,e3⟩:=hms 0 m ζ;cases I;show(6,D,L,k2.tb hA,Z,.NI (k,m.1,m.2.1,m.2.2,1,M,e2,λf W B H' k3 a b c=>q f W B H' (k2.ν k3) a b (c.ν (by rw[e3];rfl))))
    .obtain ⟨m,m2,ζ⟩:=JY (J.ν hul);let⟨u,I,e2,e3⟩:=hms 0 m ζ;let⟨u2,f1,f2,f3⟩:=hms 1 m2 ζ;cases I;cases f1;show(6,D,L,k2.tb hA,Z,.NT (k,m.1,m2.1,m.2.1,m2.2.1,m.2.2,m2.2.2,1,M,e2,f2,λf W B H' k3 a b c=>q f W B H' (k2.ν k3) a b (c.ν (by rw[e3,f3];rfl))))
 show P' 12
def e_O:vw ["text","sign"] ["text"] (h_ KE):=Aa
def B7(F:vh K "is_letters" "is_letters" KE f k)(T:SG K mg UJ UV RS):aa P w K mg ς pu 1 f k ["text"] sp_isletters:=by
 refine F.Vk e_O ?_;rintro _ _ _ _ H _ _ _ _⟨L,ζ,a,q⟩;refine(_,(m_ (u_ (DI (iX mY mY b' (Hr T.PJ (pv 0)) b')) (k_ (o9 BK)) (wh)) (m_ (Db Ov.PM ζ (gD (pv 0)) (Cy 1 e_O.nd) (k_ (u_ ((CL (DI (iX eL eL n' (pv 1) n')) (EI (A1 Be (jb Δ.F.plainAttrs_str Δ.F.slot_str_count Δ.F.type_str_count rB (pv 0) (o_ (pv 1))) b' (A' _)))).pt) (k_ (o9 BK)) (wh)))) (k_ (o9 BK)))),3);let hz:(tx L).β≤Λ:=sT (by rw[oh];have:=a.hi;lia);let h:=a.lo;let j:=a.hi;refine(6,hz,_,2,am (by rw[oh];lia) ?_);refine(_,2,D8 (by rw[oh];lia) ?_);refine(6,nw (x:=tx L) (λi b H'=>∃d,b=[δ (.M_ (tx L)),d]/\H'=H) (ε,5) ?_ ?_)
 .rintro i c b n g⟨d,ζ,ζ⟩;rw[kl]at g;let e:c∈L:=AC g;let⟨m,l⟩:=a.az c e;refine(0,_,2,3);rw[JJ,rM];refine am m (_,2,3);rw[zK,rM];refine D8 l (2,8,_,2,3);rw[D9];refine ac (by have:=γ.nodup_iff_count.mp a.nd c;lia) ?_;show(0,1)
 .rintro b n⟨d,ζ,ζ⟩;show q
def Mt:vw [Q3] [Q3] (h_ KF):=Aa
def Mu(F:vh K "need_letters" "need_letters" KF f e)(T:SG K mg UJ UV RS)(a:Df P w K mg ς "is_letters" 1 ["text"] sp_isletters):aa P w K mg ς pu 2 f e [Q3] YF:=by
 refine F.Vk Mt ?_;rintro _ _ _ _ _ _ _ _ b⟨L,ζ,d,q⟩;refine(_,(k_ (u_ (DI (BY (wx a b (o_ (pv 0))))) (k_ (II)) (wh))),3);show(0,L,1,d,0,aj q)
def dQ:vw ["sign"] ["sign"] (h_ KG):=Aa
def B8(F:vh K "is_wanting" "is_wanting" KG f a)(T:SG K mg UJ UV RS):aa P w K mg ς pu 1 f a ["sign"] ZR:=by
 refine F.Vk dQ ?_;rintro _ _ _ _ H _ Q _ _⟨ch,ζ,q⟩;refine(_,(k_ (o9 (EL HH (pv 0) n' (by with_unfolding_all rfl)))),3);refine(0,_,tx [33,60,40,38,124,45],1,NZ V.M_ (!3),3);change Q (.bl (!(Builtin.M'.SO (tx [33,60,40,38,124,45]) ⟨#[ch]⟩ 0 (tx [33,60,40,38,124,45]).β 1).SE)) H;rw[Hx];show q
def gu:vw [Q3,"sign","wanting","depth"] [Q3,"sign","wanting","depth"] (h_ KH):=Aa
def CD(F:vh K "can_stand" "can_stand" KH f k)(T:SG K mg UJ UV RS):aa P w K mg ς pu 1 f k [Q3,"sign","wanting","depth"] sp_canstand:=by
 refine F.Vk gu ?_;rintro _ _ _ _ _ _ _ _ _⟨L,ch,w,dd,ζ,q⟩;refine(_,(m_ (u_ ((CL (A1 HH (pv 1) (pv 0) (by with_unfolding_all rfl)) (EI (A1 HH (pv 1) n' (by with_unfolding_all rfl)))).pt) (k_ (o9 BK)) (wh)) (m_ (u_ (Ap (pv 1) n') (k_ (o9 (FA (EL Be (pv 3) b' (A' _)) (Fz (BP (pv 2)))))) (wh)) (k_ (o9 (FA (EL HH (pv 1) n' (by with_unfolding_all rfl)) (Fz (BP (pv 2)))))))),3);unfold Ac at q;refine(6,_,2,3);let j:=Hx L ch;let i:=Hx [48,49,46,33,60,40] ch;let h:=Hx [42,38,124,45] ch;refine jp (λh1=>aw ?_) (λh1=>?_)
 .rw [Id (by rw[<-j];rw[show(!(Builtin.M'.SO (tx L) ⟨#[ch]⟩ 0 (tx L).β 1).SE)=ξ from h1];rfl)]at q;show q
 let g:L.M7 ch=η:=j.MO.ν h1;refine(0,_,tx [48,49,46,33,60,40],1,NZ V.M_ (!3),0,jp (λh2=>?_) (λh2=>?_))
 .rw [Id (by rw[show[48,49,46,33,60,40].M7 ch=ξ from i.MO.ν h2,MX.or_true])]at q;show q
 let d:[48,49,46,33,60,40].M7 ch=η:=i.MO.ν h2;rw[Ω (by rw[g,d];decide)]at q;refine(2,aQ (λb=>?_) (λb=>?_))
 .rw [Id ((GP (!3)).mp b)]at q;refine(0,_,2,3);refine aQ (λa=>(6,3)) (λa=>?_)
  .rw [NJ (show 0<dd by lia),MX.true_and]at q;show q
  .rw [M3 (show ¬ 0<dd by lia),MX.false_and]at q;show q
 .rw [Ω (λe=>b ((GP (!3)).Om e))]at q;refine(0,_,tx [42,38,124,45],1,NZ V.M_ (!3),0,jp (λa=>(6,3)) (λa=>?_))
  .rw [show[42,38,124,45].M7 ch=ξ from h.MO.ν a,MX.true_and]at q;show q
  .rw [show[42,38,124,45].M7 ch=η from h.MO.ν a,MX.false_and]at q;show a▸q
def a_E:vw [Q3,"text","depth","wanting","at","sign"] [Q3,"text"] (h_ KI):=Aa
def Mv(F:vh K "need_pattern" "need_pattern" KI f J)(T:SG K mg UJ UV RS)(A:Df P w K mg ς "can_stand" 1 [Q3,"sign","wanting","depth"] sp_canstand)(B:Df P w K mg ς "is_wanting" 1 ["sign"] ZR):aa P w K mg ς pu 2 f J [Q3,"text"] sp_needpattern:=by
 refine F.Vk a_E ?_;rintro _ _ _ _ H _ _ _ C⟨L,w,ζ,y,t,q⟩;refine(_,(m_ (va 2 a_E.nd (b')) (m_ (va 3 a_E.nd (BK)) (m_ (Db Ov.PM ζ (ul ζ T.enum (o_ (pv 1))) (gE ζ (F' (Cy 4 a_E.nd) (F' (Cy 5 a_E.nd) bJ))) (m_ (u_ (DI (BY (wx A C (Bp (pv 0) (wm (pv 5) (pv 3) (pv 2)))))) (k_ (II)) (wh)) (m_ (u_ (Ap (pv 5) n') (k_ (va 2 a_E.nd (Ae jd (pv 2) b'))) (wh)) (m_ (u_ (Ap (pv 5) n') (k_ (va 2 a_E.nd (Ae yS (pv 2) b'))) (wh)) (k_ (va 3 a_E.nd (wx B C (o_ (pv 5))))))))) (k_ (u_ ((CL (BY (pv 3)) (EI (A1 Be (pv 2) b' (A' _)))).pt) (k_ (II)) (wh)))))),3);refine(6,Fc (x:=tx w) (λi m H'=>E4 λ(dd:Φ)(b:MX)(s:ω V)(r:ω V)=>A3 (m=[δ (.M_ (tx L)),δ (.M_ (tx w)),δ (.MQ (dd:ML)),δ (.bl b),s,r]) (a' H H') (VC L dd b (w.Pu i)<*(0,η,))) ((0),ξ,ε,ε,1,a'.Th H,t) ?_ ?_)
 .rintro i ch p m D v hp⟨dd,b,s,r,ζ,n,e⟩;rw[kl]at v;let E:i<w.β:=(q5 v).1;let u:w[i]=ch:=(q5 v).2;rw[γ.TJ E,u]at e;let a:Ac L ch b dd=ξ:=by
   unfold VC at e;by_cases h:Ac L ch b dd=ξ
   .exact h
   .rw [Ω h]at e;cases e
  let g:VC L (FV ch dd) (B6 ch) (w.Pu (i+1))<*(0,η,):=by
   unfold VC at e;rw[Id a]at e;show e
  let j:=n.ν (a'.MR (o:=.No [.MQ (i:ML),.M_ ⟨#[ch]⟩]) hp);refine(p,0,u0.of j_,1,4,8,3);refine(6,6,L,ch,b,dd,1,0,3);rw[a];refine aj ?_;by_cases l:ch=40
  .subst l;refine(2,am ((GP (!3)).Om ζ) (0,8,3));refine(2,ac (λh=>MJ ((GP (x:=41) (!3)).mp h) (!0)) (0,(40),1,3));show(dd+1,_,4,j,g)
  refine(2,ac (λh=>l ((GP (!3)).mp h)) ?_);by_cases k:ch=41
  .subst k;let I:0<dd:=by
    unfold Ac at a;by_cases d:(L.M7 41||[48,49,46,33,60,40].M7 41)=ξ
    .exfalso;rw[Uq]at d;rcases d with z|z
     .have:=y 41 (by simpa using z);lia
     .revert z;decide
    .rw [Ω d,Id ζ]at a;have:=(Ou _ _).mp a;show OU this.1
   obtain⟨d',ζ⟩:∃d',dd=d'+1:=(dd-1,!6);refine(2,am ((GP (!3)).Om ζ) (0,8,(0,(41),1,3)));refine(d',_,δ (.MQ (i:ML)),δ (.M_ ⟨#[41]⟩),3,j,g);change _=[δ (V.M_ (tx L)),δ (V.M_ (tx w)),δ (V.MQ ((d':Φ):ML)),δ (V.bl (B6 41)),δ (V.MQ (i:ML)),δ (V.M_ ⟨#[41]⟩)];rw[show((d':Φ):ML)=((d'+1:Φ):ML)-1 by lia];rfl
  refine(2,ac (λh=>k ((GP (!3)).mp h)) (0,ch,1,3));rw[Kg l k]at g;show(dd,_,4,j,g)
 .rintro m D⟨dd,b,s,r,ζ,n,e⟩;rw[oh,γ.drop_length]at e;cases e;refine(6,aj (0,_,2,ac (!0) ?_));show q D n
def iR:vw ["token"] ["token"] (h_ KJ):=Aa
def Da(F:vh K "piece_of" "piece_of" KJ f r)(T:SG K mg UJ UV RS)(g:FU P w K mg ς c cP):aa P w K mg ς pu 3 f r ["token"] (iK c):=by
 refine F.Vk iR ?_;rintro _ _ _ _ H _ Q _ m⟨t,ζ,i,q⟩;let⟨z,p,u,y,s⟩:=g.iS;refine(_,(m_ (u_ (Ap (pv 0) n') (k_ (o9 (Kf (g.mk0 .PM) ζ (g.kc (.Oi .PM))))) (wh)) (m_ (u_ (Ap (pv 0) n') (k_ (o9 (Kf (g.mk0 .Rg) ζ (g.kc (.Oi .Rg))))) (wh)) (m_ (u_ (Ap (pv 0) n') (k_ (o9 (Kf (g.mk0 .Qk) ζ (g.kc (.Oi .Qk))))) (wh)) (k_ (o9 (FB u y m ζ (g.kc .Q9) s .Op CS (o_ (pv 0)))))))),3);let mk:∀(k:K0)(x dx:υ),H x=ε->H dx=ε->dx≠x->(∀v H',a' H H'->BF c H' (.Oi k) v->Q v H')->Q (.π x) (MR (MR H dx (.Xf x)) x (.Uk (c (.Oi k)) dx [])):=λk x dx h a d q=>
  q _ _ (Cz (o0:=.Xf x) h a λb o e n=>by rw[a_ n]at e⊢;show e) (x,dx,1,j_)
 cases t with
 |Oi k=>
  cases k with
  |PM=>show(2,am (!3) (λx dx h a d=>mk .PM x dx h a d q))
  |Rg=>show(2,ac (!3) (2,am (!3) (λx dx h a d=>mk .Rg x dx h a d q)))
  |Qk=>show(2,ac (!3) (2,ac (!3) (2,am (!3) (λx dx h a d=>mk .Qk x dx h a d q))))
 |Q9 ch=>
  refine(2,ac (λe=>AK (l:=[110,101,118,101,114]) (!3) (by intro e;simp at e) (V.M_.QG e)) (2,ac (λe=>AK (l:=[101,109,112,116,121]) (!3) (by intro e;simp at e) (V.M_.QG e)) (2,ac (λe=>AK (l:=[97,110,121]) (!3) (by intro e;simp at e) (V.M_.QG e)) ?_)));show(0,λx dx h a d=>(x,_,_,dx,1,j_,(g.pc _).cl,(g.pc _).nS,λA k1 j=>(1,q _ _ (Cz h a k1) (x,dx,1,j))))
 |Of _ _=>show(show NU from i).Nv
 |O9 _ _ _=>show(show NU from i).Nv
def kM:vw ["kind","left","right"] ["kind","left","right"] (h_ KL):=Aa
def DF(F:vh K "pair_of" "pair_of" KL f r)(T:SG K mg UJ UV RS)(b:FU P w K mg ς c cP):aa P w K mg ς pu 3 f r ["kind","left","right"] (eE c):=by
 refine F.Vk kM ?_;rintro _ _ _ _ _ _ _ _ j⟨k,u,g,x,y,ζ,i,h,q⟩;let⟨s,p,m,n,l⟩:=b.iP;refine(_,(m_ (u_ (Ap (pv 0) n') (k_ (o9 (FB (m .O7) n j ζ (b.kc (.O9 .O7)) l .Op CS (q_ (pv 1) (pv 2))))) (wh)) (m_ (u_ (Ap (pv 0) n') (k_ (o9 (FB (m .Tv) n j ζ (b.kc (.O9 .Tv)) l .Op CS (q_ (pv 1) (pv 2))))) (wh)) (m_ (u_ (Ap (pv 0) n') (k_ (o9 (FB (m .Ta) n j ζ (b.kc (.O9 .Ta)) l .Op CS (q_ (pv 1) (pv 2))))) (wh)) (k_ (o9 (FB (m .ON) n j ζ (b.kc (.O9 .ON)) l .Op CS (q_ (pv 1) (pv 2)))))))),3);cases k with
 |O7=>show(2,am (!3) (6,λz dx hz a e=>(z,7,dx,1,j_,(b.pc _).cl,(b.pc _).nL,(b.pc _).nR,λo k1 d=>(1,q _ _ (Cz hz a k1) (z,dx,u,g,1,d,i.kp (a'.kp (Cz hz a k1)),h.kp (a'.kp (Cz hz a k1)))))))
 |Tv=>show(2,ac (!3) (2,am (!3) (6,λz dx hz a e=>(z,7,dx,1,j_,(b.pc _).cl,(b.pc _).nL,(b.pc _).nR,λo k1 d=>(1,q _ _ (Cz hz a k1) (z,dx,u,g,1,d,i.kp (a'.kp (Cz hz a k1)),h.kp (a'.kp (Cz hz a k1))))))))
 |Ta=>show(2,ac (!3) (2,ac (!3) (2,am (!3) (6,λz dx hz a e=>(z,7,dx,1,j_,(b.pc _).cl,(b.pc _).nL,(b.pc _).nR,λo k1 d=>(1,q _ _ (Cz hz a k1) (z,dx,u,g,1,d,i.kp (a'.kp (Cz hz a k1)),h.kp (a'.kp (Cz hz a k1)))))))))
 |ON=>show(2,ac (!3) (2,ac (!3) (2,ac (!3) (6,λz dx hz a e=>(z,7,dx,1,j_,(b.pc _).cl,(b.pc _).nL,(b.pc _).nR,λo k1 d=>(1,q _ _ (Cz hz a k1) (z,dx,u,g,1,d,i.kp (a'.kp (Cz hz a k1)),h.kp (a'.kp (Cz hz a k1)))))))))
def g_D:vw ["desk","strength","kind","last"] ["desk","strength"] (h_ cj):=Aa
def Ep(F:vh K "settle" "settle" cj f fd)(T:SG K mg UJ UV RS)(O:FU P w K mg ς c cP)(h:fR P w K mg ς c cD d1 d2 d3)(az:Df P w K mg ς "pair_of" 3 ["kind","left","right"] (eE c)):aa P w K mg ς pu 4 f fd ["desk","strength"] (em c cD):=by
 refine F.Vk g_D ?_;rintro _ _ _ _ H _ _ _ hr⟨d,dx,pa,wa,us,ps,ws,n,WO,XN,ζ,D,hn,W,aA,q⟩;let⟨fU,aC,MU,GU,bU⟩:=O.iU;let X:=hr.Pg (j:=2) (!0);refine(_,(k_ (cF Ov.PM (A1 vK (DS h.dT (GZ (v:=.π d3) (!4) h.kT ζ) (q_ (AB (AD (pv 0) ζ) (Er Es b')) b')) (pv 1) (A' _))
  (m_ (va 2 g_D.nd (cL Py S9 UL cZ (AD (pv 0) ζ))) (m_ (va 3 g_D.nd (cL Py S9 UL cZ (AD (pv 0) ζ))) (k_ (u_ (Ap (pv 2) n') (k_ (BB (Di (AD (pv 0) ζ) (FB (MU .OY) GU X ζ (O.kc (.Of .OY)) bU .Op CS (o_ (pv 3)))))) (k_ (u_ (Ap (pv 2) n') (k_ (BB (Di (AD (pv 0) ζ) (FB (MU .OH) GU X ζ (O.kc (.Of .OH)) bU .Op CS (o_ (pv 3)))))) (k_ (BB (Di (AD (pv 0) ζ) (wx az hr (wm (pv 2) (cL Py S9 UL cZ (AD (pv 0) ζ)) (pv 3)))))))))))))),3)
 refine pZ (λZ H'=>E5 λE g a s2 s3=>A5 (Z=[δ (.π d),δ (.MQ (n:ML)),s2,s3]) (Bq pa wa H H') (Bn c cD H' d dx pa wa E g a) (BO n g a<*(WO,XN,)) (g.β≤ps.β))
  (λZ H'=>match H' wa with|δ (.M5 l)=>l.β|_=>0) (us,ps,ws,ε,ε,1,Bq.Th _ _ _,D,W,LT _) ?_ ?_
 .rintro Z S⟨E,g,a,s2,s3,ζ,U,A,e,I⟩;cases a with
  |Op=>simp[BO]at e
  |NX wt a=>
  refine(1,0,d,_,dx,4,A.ob,h.cl,h.nW,Is _ _,0,AJ A.wtop (IK _ _) (Yb.NT (mF wt),0,3));rw[yo];refine(0,_,2,aQ (λas=>?_) (λas=>?_))
  .let hge':n≤wt.M_:=by lia
   let mu:∀{H2:Hp}{l:γ V},H2 wa<*.M5 l->l.β=a.β->(match H2 wa with|δ (.M5 l)=>l.β|_=>0)<(match S wa with|δ (.M5 l)=>l.β|_=>0):=λh1 h2=>by
    rw[h1,A.wtop];simp;lia
   refine(0,d,_,dx,4,A.ob,h.cl,h.nW,Is _ _,.NI (1,_,o5.of A.wtop),wa,8,A.wtop,Hu,3);rw[SF];let m:=A.popW;let L:=U.ν (Bq.w (pa:=pa) (wa:=wa) (H:=S) (o:=.M5 (a.Nc.NL wv)));unfold BO at e;rw[Id hge']at e;match wt,g,A,m,e with
   |.un k,x::qs,A,m,e=>
    let⟨u,C,ζ⟩:=m.Of ζ;let⟨i,hu⟩:=m.popP;refine(0,d,_,dx,4,m.ob,h.cl,h.nP,Fx _ _,.NI (1,_,o5.of m.ptop),pa,8,m.ptop,Hu,3);rw[SF];let s:=L.ν (Bq.p (pa:=pa) (wa:=wa) (o:=.M5 C.Nc));let ar:=i.pt.PJ;let mk:∀(z J:υ)(B:Hp),(MR (MR S wa (.M5 (a.Nc.NL wv))) pa (.M5 C.Nc)) z=ε->a' (MR (MR S wa (.M5 (a.Nc.NL wv))) pa (.M5 C.Nc)) B->B z<*.Uk (c (.Of k.k1)) J (af "inner" u [])->
      rAppend (.π pa) [.π z] B (λ_ H5=>(E5 λE g r s2 s3=>A5 (([δ (.π d),δ (.MQ (n:ML)),δ (wv (.un k)),δ u]:St)=[δ (.π d),δ (.MQ (n:ML)),s2,s3]) (Bq pa wa H H5) (Bn c cD H5 d dx pa wa E g r) (BO n g r<*(WO,XN,)) (g.β≤ps.β))/\
       (match H5 wa with|δ (.M5 l)=>l.β|_=>0)<(match S wa with|δ (.M5 l)=>l.β|_=>0)):=by
     intro z J B hz R t;let Q:=i.OP R;let Y:BF c B (.Of k.k1 x) (.π z):=(z,J,u,1,t,hu.kp (a'.kp R));refine(pa,8,Q.pl,Gc (by rw[QP];simp at I;lia),(7,4,s.ν ((a'.off R).ν Bq.p),Q.pushP Y,e,by simp at I⊢;lia),mu (l:=a.Nc.NL wv) (by rw[a_ (Ne.MO Q.ne)];show Q.wl) (!1))
    cases k with
    |OY=>
     show(2,am (!3) (0,d,_,dx,4,i.ob,h.cl,h.nP,Fx _ _,.NI (1,_,o5.of i.pl),0,λz J hz N ap=>(z,_,_,J,1,j_,(O.pc _).cl,(O.pc _).nI,λB k4 t=>(1,mk z J B hz (Cz hz N k4) t))))
    |OH=>
     show(2,ac (!3) (2,am (!3) (0,d,_,dx,4,i.ob,h.cl,h.nP,Fx _ _,.NI (1,_,o5.of i.pl),0,λz J hz N ap=>(z,_,_,J,1,j_,(O.pc _).cl,(O.pc _).nI,λB k4 t=>(1,mk z J B hz (Cz hz N k4) t)))))
   |.T8 k,y::x::qs,A,m,e=>
    let⟨u,C,ζ⟩:=m.Of ζ;let⟨i,hu⟩:=m.popP;let⟨u2,M,ζ⟩:=i.Of ζ;refine(0,d,_,dx,4,m.ob,h.cl,h.nP,Fx _ _,.NI (1,_,o5.of m.ptop),pa,8,m.ptop,Hu,3);rw[SF];let⟨Q,ag⟩:=i.popP;let s:=L.ν ((Bq.p (pa:=pa) (wa:=wa) (o:=.M5 (u2::M).Nc)).ν (Bq.p (pa:=pa) (wa:=wa) (o:=.M5 M.Nc)));let ar:=Q.pt.PJ;let an:=hu.kp (Kp.M5 (o:=.M5 M.Nc) i.pl);let aB:∃b,V.bl η=V.bl b/\Ol:=(0,trivial);let n1:¬ (wv (.T8 k)=V.M_ (M'.Nd "outside")):=by cases k<;>decide +kernel
    let n2:¬ (wv (.T8 k)=V.M_ (M'.Nd "turned")):=by cases k<;>decide +kernel
    refine(2,ac n1 (2,ac n2 ?_));refine(0,d,_,dx,4,i.ob,h.cl,h.nP,Fx _ _,.NI (1,_,o5.of i.pl),6,d,_,dx,4,i.ob,h.cl,h.nP,Fx _ _,.NI (1,_,o5.of i.ptop),pa,8,i.ptop,Hu,3);rw[SF];refine(0,k,u2,u,x,y,1,ag,an,λv4 B R ab=>?_);let D5:=Q.OP R;show(pa,8,D5.pl,Gc (by rw[QP];simp at I;lia),(7,4,s.ν ((a'.off R).ν Bq.p),D5.pushP ab,e,by simp at I⊢;lia),mu (l:=a.Nc.NL wv) (by rw[a_ (Ne.MO D5.ne)];show D5.wl) (!1))
  .let hge':wt.M_<n:=by lia
   rw[Ip hge']at e;cases e;show q _ _ U A
 .rintro Z S Q1 Q2 hQ⟨e0,v1,e1,p1,c1',d1',f1,w1,e2,e3,e4,e5,e6,v2,e7,p2,x2,i2,z2,e8,e9,e10,e11,k2,z3,e12,v3,e13,i3,j3,e14,e15,b3,e16,q1⟩;show(e0,v1,e1,p1,c1',d1',f1,w1,e2,e3,e4,e5,e6,v2,e7,p2,x2,i2,z2,e8,e9,e10,e11,k2,z3,e12,v3,e13,i3,j3,e14,e15,b3,e16,hQ _ _ q1)
def wJ:vw ["desk","token"] ["desk","token"] (h_ qz):=Aa
def GV(F:vh K "put" "put" qz f fd)(T:SG K mg UJ UV RS)(J:FU P w K mg ς c cP)(h:fR P w K mg ς c cD d1 d2 d3)(H:Df P w K mg ς "settle" 4 ["desk","strength"] (em c cD))(ag:Df P w K mg ς "piece_of" 3 ["token"] (iK c)):aa P w K mg ς pu 5 f fd ["desk","token"] (qi c cD):=by
 refine F.Vk wJ ?_;rintro _ _ _ _ _ vs _ _ I⟨d,dx,pa,wa,us,ps,ws,b,WO,XN,ζ,D,n,a,Z,ar,q⟩;let⟨fU,as,MU,GU,bU⟩:=J.iU;let U:=I.Pg (j:=2) (!0);let S:=I.Pg (j:=3) (!0);refine(_,(k_ (u_ (A1 IL (pv 1) (Bg (wm n' n' n')) (by with_unfolding_all rfl)) (k_ (BB (Di (AD (pv 0) ζ) (pv 1)))) (k_ (u_ (A1 IL (pv 1) (Bg (Bp n' (wm n' n' n'))) (by with_unfolding_all rfl)) (m_ (BB (wx H I (q_ (pv 0) (rz (EU h.dT) (GZ (v:=.π d3) (!4) h.kT ζ) (pv 1) (λ_ _=>rfl))))) (k_ (BB (Di (AD (pv 0) ζ) (pv 1))))) (k_ (u_ (Ap (pv 1) n') (m_ (BB (wx H I (q_ (pv 0) (b')))) (k_ (BB (cL Py S9 UL cZ (AD (pv 0) ζ))))) (k_ (u_ (Ap (pv 1) n') (k_ (BB (Di (AD (pv 0) ζ) (FB (MU .again) GU U ζ (J.kc (.Of .again)) bU .Op CS (o_ (cL Py S9 UL cZ (AD (pv 0) ζ))))))) (k_ (BB (Di (AD (pv 0) ζ) (wx ag S (o_ (pv 1)))))))))))))),3);let l3:3≤Λ:=sT (by change 3≤16777216;decide);let l4:4≤Λ:=sT (by change 4≤16777216;decide);let Y:=D.pt.PJ;refine(0,l3,λp1 X=>(p1,0,.NT (u0.of j_),5,0,3));let t1:=GQ n;let O:=a'.MR (o:=.No [.M_ (M'.Nd "("),.M_ (M'.Nd "outside"),.M_ (M'.Nd "turned")]) X;let L:=D.OP O;refine jp (λh1=>?_) (λh1=>?_)
 .
  let s:rV b=ξ:=t1.MO.ν h1;let hw:∃E,wv E=tv b/\WO=ps/\XN=E::ws:=by
   cases b with
   |lp=>cases a;show(.lp,5,1)
   |un k=>cases a;show(.un k,5,1)
   |_=>cases s
  let⟨E,ew,ζ,ζ⟩:=hw;refine(0,d,_,dx,4,L.ob,h.cl,h.nW,Is _ _,.NI (1,_,o5.of L.wl),0,wa,8,L.wl,Gc (by rw[ol,QP];omega),3);rw[<-ew];show q _ _ ((a'.off O).ν Bq.w) (L.pushW E)
 let s:rV b=η:=t1.MO.ν h1;refine(0,l4,λp2 W=>(p2,0,.NT (u0.of j_),5,0,3));let t2:=xC n;let s2:=O.ν (a'.MR (o:=.No [.M_ (M'.Nd "either"),.M_ (M'.Nd "less"),.M_ (M'.Nd "both"),.M_ (M'.Nd "then")]) W);let l:=D.OP s2;refine jp (λh2=>?_) (λh2=>?_)
 .let C:rX b=ξ:=t2.MO.ν h2;cases b with
  |T8 k=>
   let⟨r,g,e⟩:=BG a;let⟨rp,y⟩:=r;cases e;refine(6,Yb.NT (Dj k),0,1,tV k,3);refine(d,dx,pa,wa,us,ps,ws,lvl k+1,4,l,QC (Nb _),g,!2,λM H3 m i=>?_);let ap:=Iq g;show(0,d,_,dx,4,i.ob,h.cl,h.nW,Is _ _,.NI (1,_,o5.of i.wl),0,wa,8,i.wl,Gc (by rw[ol,QP];lia),q _ _ ((a'.off s2).ν (m.ν Bq.w)) (i.pushW (.T8 k)))
  |_=>cases C
 let C:rX b=η:=t2.MO.ν h2;let t3:=zu n;let t4:=uZ n;refine(2,jp (λh3=>?_) (λh3=>?_))
 .let B:xB b=ξ:=t3.MO.ν h3;cases b with
  |rp=>
   let⟨r,g,e⟩:=ω.Uf.mp a;let⟨rp,y⟩:=r;cases y with
   |Op=>cases e
   |NX E y=>
    cases e;refine(0,d,dx,pa,wa,us,ps,ws,(1),4,l,LT _,g,!2,λM H3 m i=>?_);refine(0,d,_,dx,4,i.ob,h.cl,h.nW,Is _ _,.NI (1,_,o5.of i.wtop),wa,8,i.wtop,Hu,3);rw[SF];show q _ _ ((a'.off s2).ν (m.ν Bq.w)) i.popW
  |_=>cases B
 let B:xB b=η:=t3.MO.ν h3;refine(2,jp (λh4=>?_) (λh4=>?_))
 .let A:lL b=ξ:=t4.MO.ν h4;cases b with
  |ZQ=>
   cases ps with
   |Op=>cases a
   |NX x qs=>
    cases a;let⟨u,vs,ζ⟩:=l.Of ζ;let⟨i,hu⟩:=l.popP;refine(0,d,_,dx,4,l.ob,h.cl,h.nP,Fx _ _,.NI (1,_,o5.of l.pl),0,d,_,dx,4,l.ob,h.cl,h.nP,Fx _ _,.NI (1,_,o5.of l.ptop),pa,8,l.ptop,Hu,3);rw[SF];refine λz dz hz ab an=>(z,_,_,dz,1,j_,(J.pc _).cl,(J.pc _).nI,λH4 k4 Q=>(1,3));let N:=Cz hz ab k4;let D4:=i.OP N;show(pa,8,D4.pl,Gc (by rw[QP];simp at Y Z;lia),q _ _ ((a'.off s2).ν (Bq.p.ν ((a'.off N).ν Bq.p))) (D4.pushP (z,dz,u,1,Q,hu.kp (a'.kp N))))
  |_=>cases A
 let A:lL b=η:=t4.MO.ν h4;cases b with
 |TD t=>
  cases a;refine(0,d,_,dx,4,l.ob,h.cl,h.nP,Fx _ _,.NI (1,_,o5.of l.pl),0,t,1,n,λv3 H3 s3 R=>?_);let i:=l.OP s3;show(pa,8,i.pl,Gc (by rw[QP];lia),q _ _ ((a'.off s2).ν ((a'.off s3).ν Bq.p)) (i.pushP R))
 |lp=>cases s
 |un k=>cases s
 |T8 k=>cases C
 |rp=>cases B
 |ZQ=>show MJ A (!0)
def b_S:vw ["text","tokens","wanting","sign"] ["text"] (h_ KM):=Aa
def CF(F:vh K "tokens_of" "tokens_of" KM f D)(T:SG K mg UJ UV RS)(u:fR P w K mg ς c cD d1 d2 d3)(s:Df P w K mg ς "is_wanting" 1 ["sign"] ZR):aa P w K mg ς pu 2 f D ["text"] sp_tokens:=by
 refine F.Vk b_S ?_;rintro _ _ _ _ H _ _ _ z⟨w,ζ,n,t,q⟩;refine(_,(m_ (va 1 b_S.nd (AA Dd)) (m_ (va 2 b_S.nd (BK)) (m_ (Db Ov.PM ζ (gD (pv 0)) (Cy 3 b_S.nd) (FH (u_ ((G0 (DI (BY (pv 2))) (HE (A1 gJ (pv 3) n' (by with_unfolding_all rfl)))).pt) (k_ (BB (Di (pv 1) (n')))) (wh)) (m_ (BB (Di (pv 1) (DS u.dK (GZ (v:=.π d2) (!4) u.kK ζ) (q_ (pv 3) (pv 3))))) (k_ (va 2 b_S.nd (wx s z (o_ (pv 3)))))))) (k_ (o9 (pv 1)))))),3);refine(Nb _,λp hp=>?_);refine(6,nw (x:=tx w) (λi j H'=>E3 λ(ts:γ Tk)(b:MX)(k:ω V)=>A4 (j=[δ (.M_ (tx w)),δ (.π p),δ (.bl b),k]) (H'=MR H p (.M5 (ts.NL tv))) (MT ξ w=ts++MT b (w.Pu i)) (ts.β≤2*i)) ([],ξ,ε,5,1,LT _) ?_ ?_)
 .rintro i ch j E e⟨ts,b,k,ζ,ζ,d,B⟩;rw[kl]at e;let C:i<w.β:=(q5 e).1;let o:w[i]=ch:=(q5 e).2;let m:=n ch (AC e);rw[γ.TJ C,o]at d;rw[show MT b (ch::w.Pu (i+1))=(if (!b&&!isB ch)=ξ then[Tk.T8 .ON]else[])++Sg ch::MT (B6 ch) (w.Pu (i+1))from ζ]at d;refine⟨λg H'=>∃a:γ Tk,g=[δ (.M_ (tx w)),δ (.π p),δ (.bl b),δ (.M_ (tx [ch]))]/\H'=MR H p (.M5 (a.NL tv))/\MT ξ w=a++Sg ch::MT (B6 ch) (w.Pu (i+1))/\a.β≤2*i+1,?_,?_⟩
  .let eB:=Hx [42,38,124,45,41] ch;refine(6,3);cases b with
   |ξ=>show aj (aj (ts,5,by rw[d];rfl,!6))
   |η=>
    refine aw (0,_,tx [42,38,124,45,41],1,NZ V.M_ (!3),0,3);refine jp (λh=>?_) (λh=>?_)
    .let r:isB ch=η:=by
      have:(!(!(Builtin.M'.SO (tx [42,38,124,45,41]) ⟨#[ch]⟩ 0 (tx [42,38,124,45,41]).β 1).SE))=ξ:=h;rw[eB]at this;show(Q_ _).mp this
     refine(0,.NI (1,_,o5.of j_),p,8,j_,Gc (by rw[ol];lia),3);refine(ts++[.T8 .ON],1,by rw[HB,Nu];rfl,3,by rw[w_];simp;lia);rw[d,r];simp
    .let r:isB ch=ξ:=by
      have:(!(!(Builtin.M'.SO (tx [42,38,124,45,41]) ⟨#[ch]⟩ 0 (tx [42,38,124,45,41]).β 1).SE))=η:=h;rw[eB]at this;show(MX.not_eq_false' _).mp this
     refine(ts,5,3,!6);rw[d,r];rfl
  rintro y I⟨a,ζ,ζ,l,A⟩;refine(0,.NI (1,_,o5.of j_),1,6,Yb.NT (tx [ch]),0,p,8,j_,Gc (by rw[ol];lia),3);refine(0,ch,1,a++[Sg ch],B6 ch,0,3,by rw[l];simp,by rw[w_];simp;lia);rw[HB,Nu,pk m];rfl
 .rintro j E⟨ts,b,k,ζ,ζ,d,B⟩;rw[oh,γ.drop_length]at d;refine(0,q p _ hp (a'.MR hp) ?_);rw[j_,d];simp[MT]
def d_h:vw ["text","desk","token"] ["text"] (h_ KN):=Aa
def B9(F:vh K "pattern_of" "pattern_of" KN f fd)(T:SG K mg UJ UV RS)(PK:FU P w K mg ς c cP)(A:fR P w K mg ς c cD d1 d2 d3)(ag:Df P w K mg ς "tokens_of" 2 ["text"] sp_tokens)(ab:Df P w K mg ς "put" 5 ["desk","token"] (qi c cD)):aa P w K mg ς pu 6 f fd ["text"] (LV c):=by
 refine F.Vk d_h ?_;rintro _ _ _ _ H vs _ _ hr⟨l,t,ζ,X,ap,p,q⟩;let⟨fD,az,MD,GD,bD⟩:=A.ini;let J:=hr.Pg (j:=2) (!0);refine(_,(m_ (va 1 d_h.nd (qM MD GD J ζ A.kD bD .Op CS)) (m_ (Db Ov.PM ζ (Cm (wx ag J (o_ (Ae DJ (Ae DJ n' (pv 0)) n')))) (Cy 2 d_h.nd) (k_ (BB (wx ab hr (q_ (pv 1) (pv 2)))))) (k_ (o9 (AB (AD (pv 1) ζ) b'))))),3);intro d dx hd L ar;refine(d,dx,0,j_,A.cl,A.nP,A.nW,λpa wa H1 k1 D1 Z S=>(1,3));let s1:a' H H1:=Cz hd L k1;let s0:a' H (MR (MR H dx (.Xf d)) d (.Uk cD dx [])):=Cz (o0:=.Uk cD dx []) hd L λb o e _=>e;let aA:∀x:M',x=tx [40]->x++tx l=tx (40::l):=λx e=>by rw[e,Cs];rfl
 let z:M'.Nd "("=tx [40]:=by decide +kernel
 let M:M'.Nd ")"=tx [41]:=by decide +kernel
 refine(0,8,3,8,3,3)
 .rw [z,oh,oh];show sT (by simp;lia)
 .rw [z,M,Cs,oh,oh];show sT (by simp;lia)
 rw[z,M,Cs,Cs];let n:∀ch∈40::(l++[41]),mz ch:=λch y=>by
  rcases MN.mp y with ζ|y
  .exact .NT (!1)
  .rcases Na.mp y with y|y
   .exact X ch y
   .obtain ζ:ch=41:=by simpa using y
    show .NT (!1)
 refine(40::(l++[41]),1,n,by simp;lia,λO H2 m s2 I=>?_);let W:=D6 ξ n;let an:=iD (40::(l++[41])) ξ;let as:(40::(l++[41])).β=l.β+2:=by simp
 generalize MT ξ (40::(l++[41]))=ts at *;let D2:=D1.OP s2;let s:O≠pa/\O≠wa:=(Ne.MO (e_ D1.pl m),Ne.MO (e_ D1.wl m));refine(O,1,(_,o5.of I),dw (K:=K) (a:=O) (xs:=ts.NL tv) (λi N H'=>E4 λus ps ws s2=>A6 (N=[δ (.M_ (tx l)),δ (.π d),s2]) (∀b o,H2 b<*o->b≠pa->b≠wa->H' b<*o) (Bn c cD H' d dx pa wa us ps ws) (Bz (ts.OC i) ([],[],)<*(ps,ws,)) (ps.β≤i) (ws.β≤i)) ([],[],[],ε,1,λ_ _ e _ _=>e,D2,1,LT _,LT _) ?_ ?_ ?_)
 .rintro i N H' hi⟨us,ps,ws,s2',ζ,g,_⟩;show o5.of (g _ _ I s.1 s.2)
 .rintro i x N H' hx⟨us,ps,ws,s2',ζ,g,D',hpt,l1,l2⟩;rw[tS]at hx;let⟨C,h,ζ⟩:=BG hx;let hi:i<ts.β:=(q5 h).1;let⟨R,v,Y⟩:=kZ p (i+1);let k:cz ps ws C<*R:=by
   rw[Te,h,Hv,hpt]at v;have:(cz ps ws C).Wm (Bz [])<*R:=v;cases hp:cz ps ws C with
   |ε=>rw[hp]at this;cases this
   |δ r=>rw[hp]at this;cases this;rfl
  let⟨D,B⟩:=R;let hl:=qC k;refine(6,d,dx,pa,wa,us,ps,ws,C,D,B,1,D',W C (AC h),k,!6,!6,λQ H3 E D3=>?_);show(Q,D,B,0,λb o e n1 n2=>E b o (g b o e n1 n2) n1 n2,D3,v,!6,!6)
 .rintro N H'⟨us,ps,ws,s2',ζ,g,D',hpt,l1,l2⟩;rw[ol,SL,p]at hpt;cases hpt;let⟨u,vs,ζ⟩:=D'.Of ζ;let U:vs=[]:=by
   have:=D'.pt.PJ;simp at this;show this
  subst U;refine(0,d,_,dx,4,D'.ob,A.cl,A.nP,Fx _ _,pa,_,8,o5.of D'.pl,AG (j:=0) ζ,3);refine q u H' (λb o e=>g b o (s2 b o (s1 b o e)) ?_ ?_) D'.pt.1
  .exact e_ e (s0.N4 Z)
  .exact e_ e (s0.N4 S)
def t9:vw [Q3,"text"] [Q3,"text"] (h_ kO):=Aa
def FZ(F:vh K "read" "read" kO f r)(T:SG K mg UJ UV RS)(x:FU P w K mg ς c cP)(u:fR P w K mg ς c cD d1 d2 d3)(i:Df P w K mg ς "need_letters" 2 [Q3] YF)(h:Df P w K mg ς "need_pattern" 2 [Q3,"text"] sp_needpattern)(g:Df P w K mg ς "pattern_of" 6 ["text"] (LV c)):aa P w K mg ς pu 7 f r [Q3,"text"] (mO c):=by
 refine F.Vk t9 ?_;rintro _ _ _ _ _ _ _ _ m⟨L,k,t,l,ζ,p,a,e,d,q⟩;let b:=m.Pg (j:=2) (!0);refine(_,(m_ (BB (wx i b (o_ (pv 0)))) (m_ (BB (wx h b (q_ (pv 0) (pv 1)))) (k_ (o9 (wx g m (o_ (pv 1))))))),3);refine(0,L,1,p,3);refine(6,L,k,1,a,e.VC a 0 ξ,λy n=>?_);show(0,k,t,1,e.sgs a,d,e.read a,λv s s2 o=>q v s (n.ν s2) o)
def Mw:vw ["_law_script","_law_k"] ["_law_script","_law_k"] (h_ KO):=Aa
def Mx(F:vh K "_law_cell_at" "_law_cell_at" KO f i)(T:SG K mg UJ UV RS):aa P w K mg ς pu 1 f i ["_law_script","_law_k"] (mP K):=by
 refine F.Vk Mw ?_;rintro _ _ _ _ _ _ _ _ _⟨a,ns,k,ζ,g,h0,q⟩;refine(_,(m_ (u_ (A1 jc (pv 1) (Ci T.PJ (pv 0)) (A' _)) (k_ (o9 (AB (pv 0) (pv 1)))) (wh)) (k_ (o9 b'))),3);refine(6,a,0,.NI g,_,2,3);refine aQ (λd=>?_) (λ_=>q 0);let⟨v,h,b⟩:=mr (xs:=ns.NL V.MQ) h0 d;obtain⟨z,ζ⟩:∃z,v=V.MQ z:=by
  rw[tS]at b;cases e:ns[k.On]? with
  |ε=>rw[e]at b;cases b
  |δ z=>rw[e]at b;show(z,(ω.δ.QG b).MO)
 show(6,a,_,8,g,h,q z)
def a_s:vw ["_law_cell","_law_left","_law_number","_law_many","_law_found","_law_k","_law_at"] ["_law_cell"] (h_ KP):=Aa
def My(F:vh K "_law_letters" "_law_letters" KP f D)(T:SG K mg UJ UV RS):aa P w K mg ς pu 1 f D ["_law_cell"] sp_letters:=by
 refine F.Vk a_s ?_;rintro _ _ _ _ H _ _ _ _⟨c,ζ,q⟩;refine(_,(m_ (va 1 a_s.nd (n')) (m_ (va 2 a_s.nd (Ae gL (pv 0) b')) (m_ (va 3 a_s.nd (Ae lg b' (Ae gL (pv 2) b'))) (m_ (va 2 a_s.nd (Ae gM (pv 2) b')) (m_ (va 4 a_s.nd (n')) (m_ (Db Ov.PM ζ (G3 ζ T.N2 (o_ (pv 3))) (Cy 5 a_s.nd) (m_ (va 6 a_s.nd (Ae gL (pv 2) (Hr T.PJ (pv 1)))) (m_ (va 2 a_s.nd (Ae gM (pv 2) (Hr T.PJ (pv 1)))) (m_ (va 4 a_s.nd (Ae DJ (pv 4) (rz gX (pv 1) (pv 6) (λ_ _=>rfl)))) (k_ (va 1 a_s.nd (Ae DJ (Ga ql (pv 1) Gw (FC (pv 6))) (Ga ql (pv 1) (FC (Ae lg (pv 6) b')) Gw)))))))) (k_ (o9 (pv 4))))))))),3);let⟨N,j,n1,r⟩:=vp (c%46800) 1 3 (!0);let j:(N:ML)=1+c%46800%3:=j;let y:N≤3:=Φ.V5 r;refine(0,8,(by change (0:ML)<46800;decide),0,8,(by change (0:ML)<3;decide),_,2,8,(!0,!0),6,by rw[<-j];show(td (IO (Pn r) (!0))).1,by rw[<-j];show(td (IO (Pn r) (!0))).2,3);generalize J:(1:ML)+c%46800%3=M at j⊢;let h:M.On=N:=by rw[<-j];rfl
 refine HG (n:=M.On) (λi o H'=>E5 λf l n k0 a0=>A7 (o=[δ (.MQ c),δ (.M_ (tx l)),δ (.MQ n),δ (.MQ M),δ (.M_ (tx f)),k0,a0]) (H'=H) (0≤n) (f.β=i) (l.β+i=26) ((f++l).Nx) (∀c∈f++l,97≤c/\c≤122)) ?_ ?_ ?_
 .refine ([],γ.range' 97 26,c%46800/3,ε,ε,3,1,ML.ediv_nonneg (ML.XV _ (!0)) (!0),5,!0,!0);show[δ (V.MQ c),δ (V.M_ _),δ (V.MQ _),δ (V.MQ _),δ (V.M_ _),ε,ε]=_;rw[xN,dC]
 .rintro i o I C⟨f,l,n,k0,a0,ζ,ζ,z,m,s,p,az⟩;let k:i<3:=Ψ (h▸C) y;let⟨l1,l26⟩:=xK s (Pn k);let hz:(tx l).β≤Λ:=sT (by rw[oh];show IO l26 (!0));let b:(0:ML)<((tx l).β:ML):=by rw[oh];show vq l1
  let a:=ML.XV n (ML.Qc b);let e:=ML.YV n b;let t:0≤n/((tx l).β:ML):=ML.ediv_nonneg z (ML.Pn b);let g:(n%((tx l).β:ML)).On<l.β:=Φ.lt_of_lt_of_eq (sZ a e) (oh l);let⟨v,B,d⟩:=mr (xs:=(tx l).TY.ND) a (by rw[Fp];show ML.Ψ e (ML.Rb (NZ Φ.cast (oh l))));rw[Fp]at d;let E:v=l[(n%((tx l).β:ML)).On]:=by
   rw[n_ g]at d;show(ω.δ.QG d).MO
  subst E;refine(6,0,hz,8,b,6,0,hz,8,(b,by rw[oh];show zC l26),6,0,_,8,hz,B,8,3,6,6,hz,6,_,2,0,hz,8,3,3)
  .refine sT ?_;rw[oh];change f.β+1≤_;rw[m];show IO k (!0)
  .refine sT ?_;let h1:=SG.WV (tx l) ε (δ (n%((tx l).β:ML)));let h2:=SG.WV (tx l) (δ ((n%((tx l).β:ML))+1)) ε;show xI h1 h2 (by rw[oh];show l26)
  .obtain ⟨d1,d2⟩:=sL g p;refine(f++[l[(n%((tx l).β:ML)).On]],l.OC (n%((tx l).β:ML)).On++l.Pu ((n%((tx l).β:ML)).On+1),n/((tx l).β:ML),δ (.MQ (0+(i:ML))),δ (.MQ (n%((tx l).β:ML))),3,1,t,by rw[w_,m];rfl,3,d1,λc u=>az c (d2 c u))
   .let A:=qk (tx l) a;let x:=kF (tx l) (i:=(n%((tx l).β:ML))+1) (ML.IO a (ML.Pn (ML.lt_succ _))) (by rw[Fp];show ML.Ψ e (ML.Rb (NZ Φ.cast (oh l))));rw[Fp]at A x;rw[vn a]at x;show[δ (V.MQ c),δ (V.M_ (SG.U9 (tx l) ε (δ (n%((tx l).β:ML)))++SG.U9 (tx l) (δ ((n%((tx l).β:ML))+1)) ε)),δ (V.MQ _),δ (V.MQ M),δ (V.M_ (tx f++⟨#[l[(n%((tx l).β:ML)).On]]⟩)),δ _,δ _]=_;rw[A,x,Cs,show(⟨#[l[(n%((tx l).β:ML)).On]]⟩:M')=tx [l[(n%((tx l).β:ML)).On]]from ζ,Cs]
   .rw [w_,Qu,UF];show vt g s
 .rintro o I⟨f,l,n,k0,a0,ζ,ζ,z,m,s,p,az⟩;refine(0,q f (by rw[m,h];show n1,by rw[m,h];show y,(γ.Wa.mp p).1,λc u=>az c (RL _ u)))
def c_B:vw ["_law_kind","_law_x","_law_y","_law_z","_law_xy"] ["_law_kind","_law_x","_law_y","_law_z"] (h_ KQ):=Aa
def Mz(F:vh K "_law_first_ways" "_law_first_ways" KQ f r)(T:SG K mg UJ UV RS):aa P w K mg ς pu 1 f r ["_law_kind","_law_x","_law_y","_law_z"] (Js 0 8):=by
 refine F.Vk c_B ?_;rintro _ _ _ _ _ _ Q _ _⟨k,n,m,l,x,y,z,ζ,k1,k2,h,g,hz,q⟩;refine(_,(m_ (va 4 c_B.nd (A0 .ON (wm n' (yx (V:=[1,2,3]) (pv 1)) (yx (pv 2))))) (m_ (u_ (Ap (pv 0) b') (k_ (o9 (AA (q_ (A0 .ON (wm n' (yx (V:=[1,2,3,4]) (pv 1)) (A0 .O7 (wm n' (yx (V:=[1,2,3,4]) (pv 2)) (yx (V:=[1,2,3,4]) (pv 3)))))) (A0 .O7 (wm n' (yx (V:=[1,2,3,4]) (pv 4)) (A0 .ON (wm n' (yx (V:=[1,2,3,4]) (pv 1)) (yx (V:=[1,2,3,4]) (pv 3)))))))))) (wh)) (m_ (u_ (Ap (pv 0) b') (k_ (o9 (AA (q_ (Br .OY (q_ n' (A0 .O7 (wm n' (yx (V:=[1,2,3,4]) (pv 1)) (yx (V:=[1,2,3,4]) (pv 2)))))) (A0 .Ta (wm n' (Br .OY (q_ n' (yx (V:=[1,2,3,4]) (pv 1)))) (Br .OY (q_ n' (yx (V:=[1,2,3,4]) (pv 2)))))))))) (wh)) (m_ (u_ (Ap (pv 0) b') (k_ (o9 (AA (q_ (Br .again (q_ n' (A0 .O7 (wm n' (yx (V:=[1,2,3,4]) (pv 1)) (yx (V:=[1,2,3,4]) (pv 2)))))) (Br .again (q_ n' (A0 .ON (wm n' (Br .again (q_ n' (yx (V:=[1,2,3,4]) (pv 1)))) (Br .again (q_ n' (yx (V:=[1,2,3,4]) (pv 2)))))))))))) (wh)) (m_ (u_ (Ap (pv 0) b') (k_ (o9 (AA (q_ (Br .OH (q_ n' (yx (V:=[1,2,3,4]) (pv 4)))) (A0 .ON (wm n' (Br .OH (q_ n' (yx (V:=[1,2,3,4]) (pv 2)))) (Br .OH (q_ n' (yx (V:=[1,2,3,4]) (pv 1)))))))))) (wh)) (m_ (u_ (Ap (pv 0) b') (k_ (o9 (AA (q_ (A0 .Tv (wm n' (yx (V:=[1,2,3,4]) (pv 1)) (yx (V:=[1,2,3,4]) (pv 2)))) (A0 .Ta (wm n' (yx (V:=[1,2,3,4]) (pv 1)) (Br .OY (q_ n' (yx (V:=[1,2,3,4]) (pv 2)))))))))) (wh)) (m_ (u_ (Ap (pv 0) b') (k_ (o9 (AA (q_ (Br .again (q_ n' (Br .again (q_ n' (yx (V:=[1,2,3,4]) (pv 1)))))) (Br .again (q_ n' (yx (V:=[1,2,3,4]) (pv 1)))))))) (wh)) (m_ (u_ (Ap (pv 0) b') (k_ (o9 (AA (q_ (A0 .O7 (wm n' (cE (V:=[1,2,3,4]) .Rg (o_ n')) (A0 .ON (wm n' (yx (V:=[1,2,3,4]) (pv 1)) (Br .again (q_ n' (yx (V:=[1,2,3,4]) (pv 1)))))))) (Br .again (q_ n' (yx (V:=[1,2,3,4]) (pv 1)))))))) (wh)) (k_ (o9 (AA (q_ (A0 .ON (wm n' (Br .again (q_ n' (yx (V:=[1,2,3,4]) (pv 4)))) (yx (V:=[1,2,3,4]) (pv 1)))) (A0 .ON (wm n' (yx (V:=[1,2,3,4]) (pv 1)) (Br .again (q_ n' (A0 .ON (wm n' (yx (V:=[1,2,3,4]) (pv 2)) (yx (V:=[1,2,3,4]) (pv 1)))))))))))))))))))),3);refine⟨λi=>match i with|1=>x|2=>y|_=>z,λi d=>?_,λo j e hw=>?_⟩
 .simp only[MN,NW,N9]at d;rcases d with ζ|rfl|rfl
  .exact (0,h)
  .exact (0,g)
  .exact (0,hz)
 let b:∀i∈[1,2,3,4],∃v,([δ (.MQ (k:ML)),δ n,δ m,δ l,δ o]:St)[i]?=δ (δ v)/\ah j ((λi:Φ=>match i with|1=>x|2=>y|3=>z|_=>.O9 .ON x y) i) v:=λi d=>by
  simp only[MN,NW,N9]at d;rcases d with ζ|rfl|rfl|rfl
  .exact (0,h.kp (a'.kp e))
  .exact (0,g.kp (a'.kp e))
  .exact (0,hz.kp (a'.kp e))
  .exact (0,hw)
 let a:∀p u w H',a' j H'->H' p<*.M5 [u,w]->ah H' (CJ x y z k).1 u->ah H' (CJ x y z k).2 w->Q (.π p) H':=λp u w H' s2=>q p u w H' (e.ν s2);rcases(by lia:k=0\/k=1\/k=2\/k=3\/k=4\/k=5\/k=6\/k=7)with ζ|rfl|rfl|rfl|rfl|rfl|rfl|rfl
 .exact (2,am ζ (Dl b a))
 .exact (2,ac (!0) (2,am ζ (Dl b a)))
 .exact (2,ac (!0) (2,ac (!0) (2,am ζ (Dl b a))))
 .exact (2,ac (!0) (2,ac (!0) (2,ac (!0) (2,am ζ (Dl b a)))))
 .exact (2,ac (!0) (2,ac (!0) (2,ac (!0) (2,ac (!0) (2,am ζ (Dl b a))))))
 .exact (2,ac (!0) (2,ac (!0) (2,ac (!0) (2,ac (!0) (2,ac (!0) (2,am ζ (Dl b a)))))))
 .exact (2,ac (!0) (2,ac (!0) (2,ac (!0) (2,ac (!0) (2,ac (!0) (2,ac (!0) (2,am ζ (Dl b a))))))))
 .exact (2,ac (!0) (2,ac (!0) (2,ac (!0) (2,ac (!0) (2,ac (!0) (2,ac (!0) (2,ac (!0) (Dl b a))))))))
def MA:vw ["_law_kind","_law_x","_law_y","_law_z"] ["_law_kind","_law_x","_law_y","_law_z"] (h_ KR):=Aa
def MB(F:vh K "_law_second_ways" "_law_second_ways" KR f m)(T:SG K mg UJ UV RS):aa P w K mg ς pu 1 f m ["_law_kind","_law_x","_law_y","_law_z"] (Js 8 16):=by
 refine F.Vk MA ?_;rintro _ _ _ _ H _ _ _ _⟨k,h,g,e,x,y,z,ζ,k1,k2,l,j,hz,q⟩;refine(_,(m_ (u_ (Ap (pv 0) b') (k_ (o9 (AA (q_ (A0 .ON (wm n' (yx (V:=[1,2,3]) (pv 1)) (cE (V:=[1,2,3]) .PM (o_ n')))) (cE (V:=[1,2,3]) .PM (o_ n')))))) (wh)) (m_ (u_ (Ap (pv 0) b') (k_ (o9 (AA (q_ (A0 .ON (wm n' (cE (V:=[1,2,3]) .Rg (o_ n')) (yx (V:=[1,2,3]) (pv 1)))) (A0 .ON (wm n' (yx (V:=[1,2,3]) (pv 1)) (cE (V:=[1,2,3]) .Rg (o_ n')))))))) (wh)) (m_ (u_ (Ap (pv 0) b') (k_ (o9 (AA (q_ (A0 .ON (wm n' (A0 .ON (wm n' (yx (V:=[1,2,3]) (pv 1)) (yx (V:=[1,2,3]) (pv 2)))) (yx (V:=[1,2,3]) (pv 3)))) (A0 .ON (wm n' (yx (V:=[1,2,3]) (pv 1)) (A0 .ON (wm n' (yx (V:=[1,2,3]) (pv 2)) (yx (V:=[1,2,3]) (pv 3)))))))))) (wh)) (m_ (u_ (Ap (pv 0) b') (k_ (o9 (AA (q_ (A0 .Ta (wm n' (yx (V:=[1,2,3]) (pv 1)) (A0 .O7 (wm n' (yx (V:=[1,2,3]) (pv 2)) (yx (V:=[1,2,3]) (pv 3)))))) (A0 .O7 (wm n' (A0 .Ta (wm n' (yx (V:=[1,2,3]) (pv 1)) (yx (V:=[1,2,3]) (pv 2)))) (A0 .Ta (wm n' (yx (V:=[1,2,3]) (pv 1)) (yx (V:=[1,2,3]) (pv 3)))))))))) (wh)) (m_ (u_ (Ap (pv 0) b') (k_ (o9 (AA (q_ (Br .OH (q_ n' (Br .again (q_ n' (yx (V:=[1,2,3]) (pv 1)))))) (Br .again (q_ n' (Br .OH (q_ n' (yx (V:=[1,2,3]) (pv 1)))))))))) (wh)) (m_ (u_ (Ap (pv 0) b') (k_ (o9 (AA (q_ (A0 .Tv (wm n' (yx (V:=[1,2,3]) (pv 1)) (A0 .O7 (wm n' (yx (V:=[1,2,3]) (pv 2)) (yx (V:=[1,2,3]) (pv 3)))))) (A0 .Tv (wm n' (A0 .Tv (wm n' (yx (V:=[1,2,3]) (pv 1)) (yx (V:=[1,2,3]) (pv 2)))) (yx (V:=[1,2,3]) (pv 3)))))))) (wh)) (m_ (u_ (Ap (pv 0) b') (k_ (o9 (AA (q_ (Br .OY (q_ n' (cE (V:=[1,2,3]) .PM (o_ n')))) (Br .again (q_ n' (cE (V:=[1,2,3]) .Qk (o_ n')))))))) (wh)) (k_ (o9 (AA (q_ (Br .OH (q_ n' (Br .OY (q_ n' (yx (V:=[1,2,3]) (pv 1)))))) (Br .OY (q_ n' (Br .OH (q_ n' (yx (V:=[1,2,3]) (pv 1))))))))))))))))),3);let b:∀i∈[1,2,3],∃v,([δ (.MQ (k:ML)),δ h,δ g,δ e]:St)[i]?=δ (δ v)/\ah H ((λi:Φ=>match i with|1=>x|2=>y|_=>z) i) v:=λi d=>by
  simp only[MN,NW,N9]at d;rcases d with ζ|rfl|rfl
  .exact (0,l)
  .exact (0,j)
  .exact (0,hz)
 let a:=q;rcases(by lia:k=8\/k=9\/k=10\/k=11\/k=12\/k=13\/k=14\/k=15)with ζ|rfl|rfl|rfl|rfl|rfl|rfl|rfl
 .exact (2,am ζ (Dl b a))
 .exact (2,ac (!0) (2,am ζ (Dl b a)))
 .exact (2,ac (!0) (2,ac (!0) (2,am ζ (Dl b a))))
 .exact (2,ac (!0) (2,ac (!0) (2,ac (!0) (2,am ζ (Dl b a)))))
 .exact (2,ac (!0) (2,ac (!0) (2,ac (!0) (2,ac (!0) (2,am ζ (Dl b a))))))
 .exact (2,ac (!0) (2,ac (!0) (2,ac (!0) (2,ac (!0) (2,ac (!0) (2,am ζ (Dl b a)))))))
 .exact (2,ac (!0) (2,ac (!0) (2,ac (!0) (2,ac (!0) (2,ac (!0) (2,ac (!0) (2,am ζ (Dl b a))))))))
 .exact (2,ac (!0) (2,ac (!0) (2,ac (!0) (2,ac (!0) (2,ac (!0) (2,ac (!0) (2,ac (!0) (Dl b a))))))))
def b_M:vw ["_law_stack","_law_number","_law_letters_here","_law_kind","_law_more","_law_joined"] ["_law_stack","_law_number","_law_letters_here"] (h_ KU):=Aa
def MC(F:vh K "_law_pushed" "_law_pushed" KU f fd)(T:SG K mg UJ UV RS):aa P w K mg ς pu 1 f fd ["_law_stack","_law_number","_law_letters_here"] sp_pushed:=by
 refine F.Vk b_M ?_;rintro _ _ _ _ H _ Q _ _⟨p,xs,D,z,L,ζ,hL,hp,hP,hl,i,q⟩;refine(_,(m_ (va 3 b_M.nd (Ae Gd (pv 1) b')) (m_ (va 4 b_M.nd (Ae JI (pv 1) b')) (FH (u_ ((G0 (A1 Be (pv 3) b' (A' _)) (G0 (A1 jc (pv 3) b' (A' _)) (HE (A1 Be (Ci T.PJ (pv 0)) b' (A' _))))).pt) (m_ (va 5 b_M.nd (Bg (wm (AB (AA (Bp n' (wm n' n' n'))) (Ae yS (pv 3) b')) (AB (pv 0) (Er Es b')) (AB (pv 0) (Er Es b'))))) (k_ (o9 (Ae Gy (Ga HL (pv 0) Gw (FC (Er Es b'))) (AA (o_ (pv 5))))))) (wh)) (FH (u_ ((G0 (A1 Be (pv 3) b' (A' _)) (HE (A1 Be (Ci T.PJ (pv 0)) b' (A' _)))).pt) (k_ (o9 (Ae Gy (Ga HL (pv 0) Gw (FC (Er Es b'))) (AA (o_ (Bg (q_ (AB (AA (Bp n' (wm n' n' n'))) (Ae Gd (pv 4) b')) (AB (pv 0) (Er Es b'))))))))) (wh)) (m_ (u_ (Ap (pv 3) b') (k_ (o9 (Ae Gy (pv 0) (AA (o_ (Bg (o_ n'))))))) (wh)) (m_ (u_ (Ap (pv 3) b') (k_ (o9 (Ae Gy (pv 0) (AA (o_ (Bg (o_ (AB (AA (q_ n' n')) (Ae Gd (pv 4) b'))))))))) (wh)) (k_ (o9 (Ae Gy (pv 0) (AA (o_ (Bg (q_ n' (rz gX (pv 2) (Ae Gd (pv 4) (Hr T.PJ (pv 2))) (λ_ _=>rfl))))))))))))))),3);let l1:1≤Λ:=sT (by change 1≤16777216;decide);let l2:2≤Λ:=sT (by change 2≤16777216;decide);let l3:3≤Λ:=sT (by change 3≤16777216;decide);let l4:4≤Λ:=sT (by change 4≤16777216;decide);let J:∀(ys:γ V)(us:γ Pt)(t:Pt)(v:V)(j:Hp),a' H j->BJ (ah j) ys us->ah j t v->(∀u∈us,u.Ti L)->t.Ti L->aZ us+t.Vy≤aZ D+1->aY us+t.sz≤aY D+1->ys.β≤xs.β->∀O,j O=ε->Q (.π O) (L2.MR j O (.M5 (ys++[v]))):=λys us t v j Z S e ou ot hd hz hy O an=>by
  let C:=a'.MR (o:=.M5 (ys++[v])) an;refine q O _ (us++[t]) _ (Z.ν C) j_ ((S.kp (a'.kp C)).snoc (e.kp (a'.kp C))) (λw hw=>?_) (by rw[Io];show hd) (by rw[Iu];show hz) (by rw[w_];show QC hy);rcases Na.mp hw with y|y
  .exact ou w y
  .rw [Ay y];show ot
 let b1:∀{n:Φ},n≤xs.β->n+1≤Λ:=λh=>sT (!6);refine(0,8,!0,λr r0 aA=>(0,8,(!0,!0),3));refine(λB H'=>B=[δ (.π p),δ (.MQ z),δ (.M_ (tx L)),δ (.MQ r),δ (.MQ (z/12)),ε]/\H'=H,3,3)
 .refine (0,_,2,aQ (λh5=>(0,_,2,aQ (λaz=>(0,p,0,.NI (o5.of hp),_,2,aQ (λh1=>?_) (λ_=>(1,1)))) (λ_=>aj (1,1)))) (λ_=>aj (1,1)));let h1:(1:ML)<((xs.β:Φ):ML):=h1;let⟨ys,x,us,s,ζ,ζ,I,E⟩:=hP.ZW (!6);let ab:0<ys.β:=by rw[w_]at h1;simp at h1;lia
  let⟨zs,W,ws,M,ζ,ζ,as,ag⟩:=I.ZW ab;let⟨k,U⟩:=Kj h5 az;refine(l4,λq1 g=>(0,8,AJ j_ U ?_));let N:=a'.MR (o:=.M5 [V.M_ "either",.M_ "less",.M_ "both",.M_ "then"]) g;refine(6,AJ (N _ _ hp) (pV _ _ _) (6,AJ (N _ _ hp) (IK _ _) (l3,λt e=>?_)));let s2:=N.ν (a'.MR (o:=.No [.M_ (Dj k),W,x]) e);refine(6,0,p,0,o5.of (s2 _ _ hp),λa X=>?_);rw[show AL (zs++[W]++[x]) ε (δ (-2))=zs by rw[NY];show jO (n:=1) ζ];let s3:=s2.ν (a'.MR (o:=.M5 zs) X);refine(0,l1,λb d=>?_);let A:=s3.ν (a'.MR (o:=.M5 [.π t]) d);let l:zs.β≤(zs++[W]++[x]).β:=by rw[w_,w_];lia
  refine(a,b,8,Ah j_ d,j_,b1 l,J zs ws (.O9 k M s) (.π t) _ A (as.kp (a'.kp A)) (t,W,x,1,Ah (Ah j_ X) d,ag.kp (a'.kp A),E.kp (a'.kp A)) (λu S=>i u (by simp[S])) (i M (!1),i s (!1)) ?_ ?_ l)
  .rw [Io,Io];have:=s.Uz;have:=M.Uz;change _+(max M.Vy s.Vy+1)≤_;lia
  .rw [Iu,Iu];change _+(M.sz+s.sz+1)≤_;lia
 rintro Y H1⟨rfl,ζ⟩;refine(λB H'=>B=[δ (.π p),δ (.MQ z),δ (.M_ (tx L)),δ (.MQ r),δ (.MQ (z/12)),ε]/\H'=H1,3,3)
 .refine (0,_,2,aQ (λh5=>(0,p,0,.NI (o5.of hp),_,2,aQ (λh1=>?_) (λ_=>(1,1)))) (λ_=>aj (1,1)));let h1:(0:ML)<((xs.β:Φ):ML):=h1;let⟨zs,x,ws,s,ζ,ζ,I,E⟩:=hP.ZW (!6);refine(6,0,p,0,o5.of hp,λa X=>?_);rw[show AL (zs++[x]) ε (δ (-1))=zs from jO (n:=0) ζ];let N:=a'.MR (o:=.M5 zs) X;refine(l4,λq1 g=>(0,8,!0,λm R m4=>?_));let⟨k,U⟩:=Kk R m4;let s2:=N.ν (a'.MR (o:=.M5 [V.M_ "again",.M_ "outside",.M_ "turned",.M_ "again"]) g);refine(AJ j_ U (6,AJ (s2 _ _ hp) (IK _ _) (l2,λt e=>(l1,λb d=>?_))));let s3:=s2.ν (a'.MR (o:=.No [.M_ (GN k),x]) e);let A:=s3.ν (a'.MR (o:=.M5 [.π t]) d);let l:zs.β≤(zs++[x]).β:=by rw[w_];lia
  refine(a,b,8,Ah (Ah (Ah j_ g) e) d,j_,b1 l,J zs ws (.Of k s) (.π t) _ A (I.kp (a'.kp A)) (t,x,1,Ah j_ d,E.kp (a'.kp A)) (λu S=>i u (by simp[S])) (i s (!1)) ?_ ?_ l)
  .rw [Io];change _+(s.Vy+1)≤_;lia
  .rw [Iu];change _+(s.sz+1)≤_;lia
 rintro Y H2⟨rfl,ζ⟩;let Oi:∀(t:Pt)(v:V)(j:Hp),a' H2 j->ah j t v->t.Ti L->t.Vy=1->t.sz=1->∀b,j b=ε->rCat (.π p) (.π b) (L2.MR j b (.M5 [v])) Q:=λt v j Z e ot hd hz b d=>by
  let C:=Z.ν (a'.MR (o:=.M5 [v]) d);show(p,b,xs,[v],5,C _ _ hp,j_,b1 (LT _),J xs D t v _ C (hP.kp (a'.kp C)) (e.kp (a'.kp (a'.MR d))) i ot (!6) (!6) (LT _))
 refine(2,aQ (λ_=>(0,l1,λt e=>(l1,λb d=>Oi (.Oi .Qk) (.π t) _ (a'.MR e) (t,1,j_) trivial ζ ζ b d))) (λ_=>?_));refine(2,aQ (λ_=>(0,l2,λq1 g=>(0,8,!0,λm R m2=>?_))) (λ_=>?_))
 .obtain ⟨k,U⟩:=Kl R m2;show(AJ j_ U (l1,λt e=>(l1,λb d=>Oi (.Oi k) (.π t) _ ((a'.MR g).ν (a'.MR e)) (t,1,j_) trivial ζ ζ b d)))
 .let hz:(tx L).β≤Λ:=sT (by rw[oh];have:=hL.hi;lia);let ap:(0:ML)<((tx L).β:ML):=by rw[oh];have:=hL.lo;lia
  refine(6,6,0,hz,8,ap,λm R m1=>?_);let⟨c,hc,ar⟩:=mr (xs:=(tx L).TY.ND) R (by rw[Pl];show m1);show(_,8,hz,hc,l2,λt e=>(l1,λb d=>Oi (.Q9 c) (.π t) _ (a'.MR e) (t,1,j_) (AC ar) ζ ζ b d))
def a_Z:vw ["_law_cells","_law_letters_here","_law_stack","_law_cell","_law_found","_law_k"] ["_law_cells","_law_letters_here"] (h_ KW):=Aa
def B_(F:vh K "_law_shape" "_law_shape" KW f fd)(T:SG K mg UJ UV RS)(ab:Df P w K mg ς "_law_pushed" 1 ["_law_stack","_law_number","_law_letters_here"] sp_pushed):aa P w K mg ς pu 2 f fd ["_law_cells","_law_letters_here"] (LW K):=by
 refine F.Vk a_Z ?_;rintro _ _ _ s H _ _ _ hr⟨a,ns,L,ζ,hL,ha,hn,q⟩;refine(_,(m_ (va 2 a_Z.nd (AA Dd)) (m_ (Db Ov.PM ζ (Cm (pv 0)) (Cy 3 a_Z.nd) (k_ (va 2 a_Z.nd (wx ab hr (wm (pv 2) (Ae Gd (Ae wY (Ae Gd (pv 3) b') b') b') (pv 1)))))) (m_ (u_ (Ap (Ci T.PJ (pv 2)) b') (k_ (o9 (Bg (o_ n')))) (wh)) (m_ (va 4 a_Z.nd (AB (pv 2) b')) (m_ (Db Ov.PM ζ (eI ζ T.N2 (q_ b' (Ci T.PJ (pv 2)))) (Cy 5 a_Z.nd) (k_ (va 4 a_Z.nd (Bg (wm (AB (AA (wm n' n' n')) (Ae Gd (pv 5) b')) (pv 4) (AB (pv 2) (pv 5))))))) (k_ (o9 (pv 4)))))))),3);let l1:1≤Λ:=sT (by change 1≤16777216;decide);let l3:3≤Λ:=sT (by change 3≤16777216;decide);let C:∀{H':Hp},a' H H'->o5 K H' a (ns.NL V.MQ):=λs=>s.Sx ha;refine(Nb _,λp0 A=>(0,a,1,(_,C (a'.MR A)),dw (K:=K) (a:=a) (xs:=ns.NL V.MQ) (λi D H'=>E4 λ(p:υ)(xs:γ V)(d:γ Pt)(u:ω V)=>A8 (D=[δ (.π a),δ (.M_ (tx L)),δ (.π p),u,ε,ε]) (a' H H') (H' p<*.M5 xs) (BJ (ah H') xs d) (∀t∈d,t.Ti L) (aZ d≤i) (aY d≤i) (xs.β≤i)) (p0,[],[],ε,1,a'.MR A,j_,trivial,λt Q=>(nomatch Q),LT _,LT _,LT _) ?_ ?_ ?_))
 .rintro i D H' hi⟨p,xs,d,u,ζ,h,_⟩;show C h
 .rintro i v D H1 O⟨p,xs,d,u,ζ,h,hp,E,e,hd,hz,hl⟩;let hi:i<ns.β:=by
   have:=(q5 O).1
   rwa [ol]at this
  rw[tS,n_ hi]at O;cases O;refine(6,8,!0,λr r0 r1=>(8,.NT (!0,!0),8,!0,λr2 _ _=>(0,p,xs,d,r2,L,1,hL,hp,E,!6,e,λp' I x H2 s2 h1 h2 h3 h4 h5 h6=>?_)));show(p',I,x,0,h.ν s2,h1,h2,h3,!6,!6,!6)
 .rintro D H1⟨p,xs,d,u,ζ,h,hp,E,e,hd,hz,hl⟩;rw[ol]at hd hz hl;let an:=E.PJ;refine(0,p,0,.NI (o5.of hp),1,0,aQ (λ_=>(l1,λt Q=>q (.π t) (.Oi .Rg) _ (h.ν (a'.MR Q)) (t,1,j_) trivial (!0) (!0))) (λh0=>?_));let h0:0<xs.β:=Φ.pos_of_ne_zero λz=>h0 (by rw[z];rfl);let VE:∀{j:Φ},j<xs.β->∃v t,xs[j]?=δ v/\d[j]?=δ t/\ah H1 t v:=λ{j}hj=>mU E hj;let⟨v0,t0,e1,e2,S⟩:=VE h0;refine(0,AJ hp (AG e1) ?_);refine(0,p,0,.NI (o5.of hp),4,(!0,!0,!6,!6),3);refine HG (n:=(((xs.β:Φ):ML)-1).On) (λj g H'=>E3 λ(v:V)(t:Pt)(M:ω V)=>A6 (g=[δ (.π a),δ (.M_ (tx L)),δ (.π p),u,δ v,M]) (a' H1 H') (ah H' t v) (t.Ti L) (t.Vy≤aZ (d.OC (j+1))) (t.sz≤aY (d.OC (j+1))+j)) (v0,t0,ε,1,a'.Th _,S,e t0 (AC e2),3,3) ?_ ?_
  .rw [iF e2];show LT _
  .rw [iF e2];show LT _
  .rintro j g H2 hj⟨v,t,M,ζ,s2,U,X,B,y⟩;let Y:1+j<xs.β:=by lia
   let⟨J,l,f1,f2,R⟩:=VE Y;refine(l3,λq1 W=>(0,8,!0,λr r0 r3=>?_));let⟨k,hk⟩:=Km r0 r3;let m:=a'.MR (o:=.M5 [V.M_ "then",.M_ "either",.M_ "then"]) W;let Z:AN xs (1+(j:ML))<*J:=by
    rw[show(1+(j:ML))=((1+j:Φ):ML) by lia];show AG f1
   refine(AJ j_ hk (6,0,AJ (m _ _ (s2 _ _ hp)) Z (l3,λb hb=>?_)));let N:=m.ν (a'.MR (o:=.No [.M_ (Dj k),v,J]) hb);refine(.π b,.O9 k t l,0,s2.ν N,(b,v,J,1,j_,U.kp (a'.kp N),R.kp (a'.kp (s2.ν N))),(X,e l (AC f2)),3,3)
   .rw [show j+1+1=(1+j)+1 by lia,DV f2,Io];rw[show j+1=1+j by lia]at B;have:=t.Uz;have:=l.Uz;change max t.Vy l.Vy+1≤_;lia
   .rw [show j+1+1=(1+j)+1 by lia,DV f2,Iu];rw[show j+1=1+j by lia]at y;change t.sz+l.sz+1≤_;lia
  .rintro g H2⟨v,t,M,ζ,s2,U,X,B,y⟩;let ap:=pL d ((((xs.β:Φ):ML)-1).On+1);let ag:=nY d ((((xs.β:Φ):ML)-1).On+1);show(0,q v t H2 (h.ν s2) U X (!6) (!6))
def d_i:vw ["_law_shape_here","_law_name","_law_between"] ["_law_shape_here"] (h_ KY):=Aa
def Ca(F:vh K "_law_piece" "_law_piece" KY f U)(T:SG K mg UJ UV RS)(hm:mg "_law_piece"<*.π f)(Z:Ao K U ["_law_shape_here"] []):aa P w K mg ς pu 12 f U ["_law_shape_here"] (IC 12):=by
 let PJ:∀n vs H Q E,IC n vs H Q E->vs.β=["_law_shape_here"].β:=λn vs H Q E h=>by
  let⟨L,t,v,ζ,_⟩:=h;rfl
 let P':∀n:Φ,aa P w K mg ς pu n f U ["_law_shape_here"] (IC n):=by
  intro n;induction n with
  |TB=>show(PJ 0,λ_ _ _ _ _ _ vs Q E _ _ _ _ h=>by let⟨L,t,v,_,_,N,_⟩:=h;have:=t.Uz;lia)
  |Sc n ih=>
   let r:Df P w K mg ς "_law_piece" n ["_law_shape_here"] (IC n):=(f,U,hm,F.kp,Z,ih);refine F.ok d_i (PJ _) (λQi A Fr s H vs Q E R h=>?_);let⟨L,t,v,ζ,O,N,i,V6,q⟩:=h;refine(_,(m_ (va 1 d_i.nd (Ad 0)) (m_ (u_ (Ap (pv 1) n') (k_ (o9 (Ad 0))) (wh)) (m_ (u_ (Ap (Ci T.PJ (pv 0)) b') (k_ (o9 (rz dh (cG (C4.NX n' n' (C4.NX n' n' (C4.NX n' n' C4.Op))) (!3) (!0) (!0)) (pv 1) (λ_ _=>rfl)))) (wh)) (m_ (u_ (Ap (pv 1) n') (k_ (o9 (Ae DJ (wx r R (o_ (Ad 0))) n'))) (wh)) (m_ (u_ (Ap (Ci T.PJ (pv 0)) b') (k_ (o9 (Ae DJ (Ae DJ (Ae DJ n' (rz dh (cG (C4.NX n' n' (C4.NX n' n' C4.Op)) (!3) (!0) (!0)) (pv 1) (λ_ _=>rfl))) (wx r R (o_ (Ad 0)))) n'))) (wh)) (m_ (va 2 d_i.nd (rz dh (cG (C4.NX n' n' (C4.NX n' n' (C4.NX n' n' (C4.NX n' n' C4.Op)))) (!3) (!0) (!0)) (pv 1) (λ_ _=>rfl))) (k_ (o9 (Ae DJ (Ae DJ (Ae DJ (Ae DJ n' (wx r R (o_ (Ad 0)))) (pv 2)) (wx r R (o_ (Ad 0)))) n'))))))))),3);let l:∀a b:LN,a.β≤600->b.β≤600->(tx a).β+(tx b).β≤Λ:=λa b ha hb=>by rw[oh,oh];show sT (!6)
   let J:M'.Nd "("=tx [40]:=by decide +kernel
   let I:M'.Nd ")"=tx [41]:=by decide +kernel
   cases t with
   |Q9 c=>
    let⟨p,ζ,hp⟩:=O;show(z8 hp aL (2,am (!3) (z8 hp aJ (q [c] H (a'.Th _) (G.Q9 i) (by change 1≤4*1;decide)))))
   |Oi k=>
    let⟨p,ζ,hp⟩:=O;let h0:u0 K H p [.M_ (Hs k)]:=u0.of hp;refine(0,p,_,8,h0,AG (j:=0) ζ,2,ac (by cases k<;>decide +kernel) ?_);refine(0,p,0,.NT h0,1,0,am ζ λo z C g e=>?_);cases k with
    |PM=>
     refine(0,o,_,8,e,(by decide +kernel:_<*V.M_ "0"),3);rw[show M'.Nd "0"=tx [48] by decide +kernel];show q [48] z g (G.Oi .PM) (by change 1≤4*1;decide)
    |Rg=>
     refine(0,o,_,8,e,(by decide +kernel:_<*V.M_ "1"),3);rw[show M'.Nd "1"=tx [49] by decide +kernel];show q [49] z g (G.Oi .Rg) (by change 1≤4*1;decide)
    |Qk=>
     refine(0,o,_,8,e,(by decide +kernel:_<*V.M_ "."),3);rw[show M'.Nd "."=tx [46] by decide +kernel];show q [46] z g (G.Oi .Qk) (by change 1≤4*1;decide)
   |Of k x=>
    let⟨p,u,ζ,hp,M⟩:=O;let h0:u0 K H p [.M_ (GN k),u]:=u0.of hp;let N:x.Vy+1≤n+1:=N;let hz:x.sz+1≤60:=V6;refine(0,p,_,8,h0,AG (j:=0) ζ,2,ac (by cases k<;>decide +kernel) ?_);refine(0,p,0,.NT h0,1,0,ac (by change ¬ V.MQ 2=V.MQ 1;decide) ?_);cases k with
    |again=>
     refine(2,am (!3) (0,p,_,8,h0,AG (j:=1) ζ,L,x,u,1,M,!6,i,!6,λd z g D X=>?_));refine(tx d,tx [42],1,NZ V.M_ (!3),l _ _ (!6) (by change 1≤600;decide),3);rw[Cs];show q _ z g (G.again D) (by rw[w_];change _+1≤4*(x.sz+1);lia)
    |OY=>
     refine(2,ac (!3) (0,p,0,.NT h0,1,0,am ζ λo z C g e=>?_));refine(0,o,_,8,e,(by decide +kernel:_<*V.M_ "!"),tx [40],tx [33],NZ V.M_ J,NZ V.M_ (!3),l _ _ (by change 1≤600;decide) (by change 1≤600;decide),3);refine(z8 (g _ _ hp) aJ (L,x,u,1,M.kp (a'.kp g),!6,i,!6,λd W s2 D X=>?_));refine(tx ([40]++[33]),tx d,NZ V.M_ (Cs _ _),1,l _ _ (by change 2≤600;decide) (!6),tx ([40]++[33]++d),tx [41],NZ V.M_ (Cs _ _),NZ V.M_ I,l _ _ (by change d.β+1+1≤600;lia) (by change 1≤600;decide),3);rw[Cs];show q (40::((33::d)++[41])) W (g.ν s2) (G.YJ (G.pre .OY D (!0))) (by change ((33::d)++[41]).β+1≤4*(x.sz+1);rw[w_];change d.β+1+1+1≤_;lia)
    |OH=>
     refine(2,ac (!3) (0,p,0,.NT h0,1,0,am ζ λo z C g e=>?_));refine(0,o,_,8,e,(by decide +kernel:_<*V.M_ "<"),tx [40],tx [60],NZ V.M_ J,NZ V.M_ (!3),l _ _ (by change 1≤600;decide) (by change 1≤600;decide),3);refine(z8 (g _ _ hp) aJ (L,x,u,1,M.kp (a'.kp g),!6,i,!6,λd W s2 D X=>?_));refine(tx ([40]++[60]),tx d,NZ V.M_ (Cs _ _),1,l _ _ (by change 2≤600;decide) (!6),tx ([40]++[60]++d),tx [41],NZ V.M_ (Cs _ _),NZ V.M_ I,l _ _ (by change d.β+1+1≤600;lia) (by change 1≤600;decide),3);rw[Cs];show q (40::((60::d)++[41])) W (g.ν s2) (G.YJ (G.pre .OH D (!0))) (by change ((60::d)++[41]).β+1≤4*(x.sz+1);rw[w_];change d.β+1+1+1≤_;lia)
   |O9 k x y=>
    let⟨p,u,w',ζ,hp,M,hy⟩:=O;let h0:u0 K H p [.M_ (Dj k),u,w']:=u0.of hp;let N:max x.Vy y.Vy+1≤n+1:=N;let hz:x.sz+y.sz+1≤60:=V6;refine(0,p,_,8,h0,AG (j:=0) ζ,2,ac (by cases k<;>decide +kernel) ?_);refine(0,p,0,.NT h0,1,0,ac (by change ¬ V.MQ 3=V.MQ 1;decide) ?_);refine(2,ac (by cases k<;>decide +kernel) (0,p,0,.NT h0,1,0,ac (by change ¬ V.MQ 3=V.MQ 2;decide) λo z C g e=>?_));obtain⟨S,hS,eS,lS⟩:∃S,aF [(M'.Nd "either",V.M_ "|",),("less",.M_ "-",),("both",.M_ "&",),("then",.M_ "",)] (Dj k)=δ (.M_ S)/\S=tx (m2 k)/\(m2 k).β≤1:=by
     cases k
     .exact ("|",!3,!3,!0)
     .exact ("-",!3,!3,!0)
     .exact ("&",!3,!3,!0)
     .exact ("",!3,!3,!0)
    subst eS;refine(0,o,_,8,e,hS,3);refine(z8 (g _ _ hp) aJ (L,x,u,1,M.kp (a'.kp g),!6,i.1,!6,λd W s2 D X=>?_));refine(tx [40],tx d,NZ V.M_ J,1,l _ _ (by change 1≤600;decide) (!6),0,tx ([40]++d),tx (m2 k),NZ V.M_ (Cs _ _),1,l _ _ (by change d.β+1≤600;lia) (!2),3);let B:=g.ν s2;refine(z8 (B _ _ hp) dH (L,y,w',1,hy.kp (a'.kp B),!6,i.2,!6,λm H3 s3 Y ab=>?_));let la:([40]++d++m2 k).β≤d.β+2:=by rw[w_];change d.β+1+_≤_;lia
    refine(tx ([40]++d++m2 k),tx m,NZ V.M_ (Cs _ _),1,l _ _ (!6) (!6),tx ([40]++d++m2 k++m),tx [41],NZ V.M_ (Cs _ _),NZ V.M_ I,l _ _ (by rw[w_];lia) (by change 1≤600;decide),3);rw[Cs];let g3:=G.YJ (G.T8 k D Y (IO (gR k) (!0)) (IO (QC (gR k)) (!0)));refine q (40::((d++m2 k++m)++[41])) H3 (B.ν s3) g3 ?_;change ((d++m2 k++m)++[41]).β+1≤4*(x.sz+y.sz+1);rw[w_,w_,w_];change d.β+_+_+1+1≤_;lia
 show P' 12
def b_x:vw ["_law_found","_law_letters_here","_law_row","_law_goal"] ["_law_found","_law_letters_here"] (h_ KZ):=Aa
def ME(F:vh K "_law_is_machine" "_law_is_machine" KZ f Z)(T:SG K mg UJ UV RS):aa P w K mg ς pu 1 f Z ["_law_found","_law_letters_here"] sp_ismach:=by
 refine F.Vk b_x ?_;rintro _ _ _ s H _ _ _ _⟨m,L,W,B,ζ,U,g,q⟩;refine(_,(m_ (u_ ((CL (DI (BY (Cj T.RB T.Px PZ (pv 0)))) (CL (GL (Ci T.PJ (pv 0)) b') (CL (DI (BY (Cj T.RB T.M_ boot_str (Ad 0)))) (EI (GL (Ad 0) (pv 1)))))).pt) (k_ (o9 BK)) (wh)) (m_ (u_ ((CL (DI (BY (Cj T.RB T.Px PZ (Ad 0)))) (CL (DI (BY (Cj T.RB T.Px PZ (Ad 0)))) (EI (Ap (Ci T.PJ (Ad 0)) b')))).pt) (k_ (o9 BK)) (wh)) (m_ (Db Ov.PM ζ (qK (Ad 0)) (Cy 2 b_x.nd) (m_ (u_ ((CL (DI (BY (Cj T.RB T.Px PZ (pv 2)))) (EI (GL (Ci T.PJ (pv 2)) (Hr T.PJ (pv 1))))).pt) (k_ (o9 BK)) (wh)) (k_ (Db Ov.PM ζ (qK (pv 2)) (Cy 3 b_x.nd) (k_ (u_ ((CL (DI (BY (Cj T.RB T.MQ boot_int (pv 3)))) (CL (BY (Cj T.RB T.Pe XF (pv 3))) (CL (A1 jc (pv 3) b' (A' _)) (EI (A1 vK (pv 3) (Ci T.PJ (Ad 0)) (A' _)))))).pt) (k_ (o9 BK)) (wh))))))) (k_ (o9 (FA (EL bz (Ci T.PJ (Ad 0)) (Ci T.PJ (Ad 0)) (A' _)) (Fz (Dp (pU ζ) (!4) T.P' Oj.Sf.boot_all (o_ (EA ["_law_found","_law_letters_here","_law_row","_law_goal"] ζ (!0) (Dv (Ad 0)) (λcl C fp s' H'=>(BZ,(Dp (sV (T:="bool") K) (!4) T.RB Oj.Sf.boot_isinstance (q_ (pv 0) (mW (v:=.ty "bool") (!4) T.Pe XF ζ))))))))))))))),3);let⟨t,mk,l,h1,h2,M,Y,X⟩:=U;let hz:(tx L).β≤Λ:=sT (by rw[oh];show IO g.lt.hi (!0));let p:(l.NL V.π).β=W.β:=by rw[ol,Y]
 let Q:=g.n1;let a0:∀{H':Hp},a' H H'->u0 K H' m [.M_ (tx L),.π t,.π mk]:=λs=>u0.of (s _ _ h1);let rf:=a'.Th H;refine(10,ai.No h1,(Fq K).1,0,aj (0,m,0,.NT (u0.of h1),1,0,D8 ζ ?_));refine(z8 h1 aL (_,4,ai.M_ _,Ds K,0,aj ?_));refine(z8 h1 aL (2,D8 ζ ?_));refine(z8 h1 aJ (_,4,ai.No h2,(Fq K).1,0,aj ?_));refine(z8 h1 dH (_,4,ai.No M,(Fq K).1,0,aj ?_));refine(z8 h1 aJ (t,0,.NT (u0.of h2),1,0,3));rw[p,sP (!6)];refine aj ?_;refine(z8 h1 aJ (t,1,(_,u0.of h2),3));refine nv (K:=K) (a:=t) (xs:=l.NL V.π) (λi d H'=>E2 λs2 k=>d=[δ (.π m),δ (.M_ (tx L)),s2,k]/\H'=H) (ε,ε,5) ?_ ?_ ?_
 .rintro i d H' hi⟨s2,k,ζ,ζ⟩;show u0.of h2
 .rintro i x d H' N⟨s2,k,ζ,ζ⟩;rw[tS]at N;let⟨u,E,ζ⟩:=BG N;let⟨ws,y,e⟩:=X i u E;let⟨z,A⟩:=g.Vt ws (AC y);refine(10,ai.No e,(Fq K).1,0,aj (0,u,0,.NT (u0.of e),6,hz,1,0,3));rw[f_,z,oh];refine D8 ζ ?_;refine(0,u,1,(_,u0.of e),3);refine nv (K:=K) (a:=u) (xs:=c_ ws) (λi d n=>∃k,d=[δ (.π m),δ (.M_ (tx L)),δ (.π u),k]/\n=H') (0,1) ?_ ?_ ?_
  .rintro j d n I⟨k,ζ,ζ⟩;show u0.of e
  .rintro j x d n hxj⟨k,ζ,ζ⟩;let I:j<ws.β:=by have:=(q5 hxj).1;rwa [f_]at this
   rw[CU I]at hxj;cases hxj;let S:=A _ (GF I);refine(10,ai.MQ _,lF K,0,aj (10,ai.MQ _,lG K,0,aj (0,_,2,3)));rw[M3 (ML.TU.Om (ML.natCast_nonneg _))];refine aj (0,z8 h1 aJ (t,0,.NT (u0.of h2),_,2,3));rw[p,M3 (ML.not_le.Om (ML.YK.Om S))];show aj (0,1)
  .rintro d n⟨k,ζ,ζ⟩;show(4,1)
 .rintro d H'⟨s2,k,ζ,ζ⟩;refine(z8 h1 dH (mk,0,.NT (u0.of M),z8 h1 aJ (t,0,.NT (u0.of h2),1,0,3)));rw[p,ol,g.bl,bZ,NJ ζ];refine aw ?_;dsimp only[BQ,Aw];refine EY (a:=mk) (λR h=>(z8 h1 dH h)) (.NT ζ) M (λD j ys n=>ys=(Wz j ξ).NL V.bl) (by rw[ol,g.bl];show sT (IO g.n60 (!0))) (λD J=>rfl) ?_ ?_
  .intro D j x ys n R1 R2 J hxj o r hp k1 k2;rw[tS]at hxj;let⟨b,O,ζ⟩:=BG hxj;refine l_ (10,ai.bl _,Dr K,k1 _ n r (a'.RY o J) ?_);rw[hp,γ.replicate_succ',Nu];rfl
  .intro D ys n J o r hp;subst hp;show(D,0,r,λb O=>(γ.mem_replicate.mp O).2,q _ o)
def ZS:vw ["_law_found","_law_due","_law_k"] ["_law_found","_law_due"] (h_ K3):=Aa
def CG(F:vh K "_law_same" "_law_same" K3 f C)(T:SG K mg UJ UV RS)(R:mg "_law_same"<*.π f)(L:Ao K C ["_law_found","_law_due"] []):aa P w K mg ς pu 4 f C ["_law_found","_law_due"] (ID 3):=by
 let Xd:∀(d:Φ)(t:Sp),Df P w K mg ς "_law_same" d ["_law_found","_law_due"] t->(∀d' x y H Q E,d=d'+1->ip H d' x y->Q (.bl ξ) H->t [x,y] H Q E)->aa P w K mg ς pu (d+1) f C ["_law_found","_law_due"] (ID d):=by
  intro d t N J;refine F.ok ZS (λvs H Q E h=>?_) (λQi A Fr s H vs Q E W h=>?_)
  .obtain ⟨x,y,ζ,_⟩:=h;rfl
  .obtain ⟨x,y,ζ,hlike,q⟩:=h;refine(_,(m_ (u_ ((CL (BY (Cj T.RB T.Px PZ (pv 1))) (EI (BY (Cj T.RB T.Qt Vn (pv 1))))).pt) (m_ (u_ ((CL (GL (Cj T.RB T.Px PZ (pv 0)) (Cj T.RB T.Px PZ (pv 1))) (EI (GL (Cj T.RB T.Qt Vn (pv 0)) (Cj T.RB T.Qt Vn (pv 1))))).pt) (k_ (o9 BK)) (wh)) (m_ (u_ (GL (Ci T.PJ (pv 0)) (Ci T.PJ (pv 1))) (k_ (o9 BK)) (wh)) (m_ (Db Ov.PM ζ (G3 ζ T.N2 (o_ (Ci T.PJ (pv 1)))) (Cy 2 ZS.nd) (k_ (u_ (DI (BY (wx N W (q_ (rz rO (pv 0) (pv 2) (λ_ _=>rfl)) (rz rO (pv 1) (pv 2) (λ_ _=>rfl)))))) (k_ (o9 BK)) (wh)))) (k_ (o9 BK))))) (wh)) (m_ (u_ (BY (Cj T.RB T.Pe XF (pv 1))) (k_ (o9 (FA (Cj T.RB T.Pe XF (pv 0)) (Fz (EL bz (pv 0) (pv 1) (A' _)))))) (wh)) (m_ (u_ (BY (Cj T.RB T.MQ boot_int (pv 1))) (k_ (o9 (FA (Cj T.RB T.MQ boot_int (pv 0)) (FA (BP (Cj T.RB T.Pe XF (pv 0))) (Fz (EL bz (pv 0) (pv 1) (A' _))))))) (wh)) (m_ (u_ (BY (Cj T.RB T.M_ boot_str (pv 1))) (k_ (o9 (FA (Cj T.RB T.M_ boot_str (pv 0)) (Fz (EL bz (pv 0) (pv 1) (A' _)))))) (wh)) (k_ (II)))))),3);let B:(x=y/\dA x=ξ)\/∃d' p q xs ys,d=d'+1/\x=.π p/\y=.π q/\((H p=δ (.No xs)/\H q<*.No ys)\/(H p=δ (.M5 xs)/\H q<*.M5 ys))/\xs.β=ys.β/\xs.β≤2100/\∀(i:Φ)(x y:V),xs[i]?<*x->ys[i]?<*y->ip H d' x y:=by
    cases d with
    |TB=>show .NI hlike
    |Sc d'=>show hlike.Nv .NI λ⟨p,q,xs,ys,h⟩=>.NT (d',p,q,xs,ys,1,h)
   rcases B with⟨rfl,Z⟩|⟨d',p,j,xs,ys,S,ζ,ζ,v,m,M,o⟩
   .cases x with
    |bl b=>
     refine(10,ai.bl _,xt K,0,aj (10,ai.bl _,xu K,0,aj ?_));refine(10,ai.bl _,Dr K,0,aw (10,ai.bl _,Dr K,0,aw (6,1,3)));change Q (.bl (decide (V.bl b=V.bl b))) H;rw[NJ ζ];show q
    |MQ b=>
     refine(10,ai.MQ _,xq K,0,aj (10,ai.MQ _,xr K,0,aj ?_));refine(10,ai.MQ _,lG K,0,aj ?_);refine(10,ai.MQ _,lF K,0,aw (10,ai.MQ _,lF K,0,aw (10,ai.MQ _,lG K,6,aw (6,1,3))));change Q (.bl (decide (V.MQ b=V.MQ b))) H;rw[NJ ζ];show q
    |M_ b=>
     refine(10,ai.M_ _,xl K,0,aj (10,ai.M_ _,xm K,0,aj ?_));refine(10,ai.M_ _,xp K,0,aj ?_);refine(10,ai.M_ _,xn K,0,aj ?_);refine(10,ai.M_ _,Ds K,0,aw (10,ai.M_ _,Ds K,0,aw (6,1,3)));change Q (.bl (decide (V.M_ b=V.M_ b))) H;rw[NJ ζ];show q
    |_=>show MJ (show η=ξ from Z) MX.M9
   .let hseq1:o5 K H p xs\/u0 K H p xs:=v.Nv (λz=>.NT (u0.of z.1)) (λz=>.NI (o5.of z.1));let a:o5 K H j ys\/u0 K H j ys:=v.Nv (λz=>.NT (u0.of z.2)) (λz=>.NI (o5.of z.2));rcases v with⟨hp,k⟩|⟨hp,k⟩
    .refine (10,ai.No k,(Fq K).1,0,aw (aw ?_));refine(10,ai.No hp,(Fq K).1,10,ai.No k,(Fq K).1,1,0,D8 ζ (10,ai.No hp,rN K,10,ai.No k,rN K,1,0,D8 ζ ?_));refine(0,p,xs,1,hseq1,0,j,ys,1,a,1,0,D8 (by rw[m]) ?_);refine(0,j,ys,1,a,0,!6,!6,3);refine HG (n:=ys.β) (λi r H'=>∃u,r=[δ (.π p),δ (.π j),u]/\H'=H) (ε,5) ?_ ?_
     .rintro i r O Y⟨u,ζ,ζ⟩;let I:=n_ (l:=xs) (i:=i) (!6);let D:=n_ (l:=ys) (i:=i) (!2);let g:AN xs (0+(i:ML))<*xs[i]:=by rw[ML.Pz];show AG I
      let e:AN ys (0+(i:ML))<*ys[i]:=by rw[ML.Pz];show AG D
      show(6,.NT (.NI (p,xs,8,u0.of hp,g,6,.NT (.NI (j,ys,8,u0.of k,e,J d' _ _ _ _ _ S (o i _ _ I D) (0,aj (0,1)))))))
     .rintro r O⟨u,ζ,ζ⟩;show q
    .refine (10,ai.M5 k,lE K,0,aj (10,ai.M5 k,(Fq K).2.1,0,aw ?_));refine(10,ai.M5 hp,lE K,10,ai.M5 k,lE K,1,0,D8 ζ (10,ai.M5 hp,(Fq K).2.1,10,ai.M5 k,(Fq K).2.1,1,0,D8 ζ ?_));refine(0,p,xs,1,hseq1,0,j,ys,1,a,1,0,D8 (by rw[m]) ?_);refine(0,j,ys,1,a,0,!6,!6,3);refine HG (n:=ys.β) (λi r H'=>∃u,r=[δ (.π p),δ (.π j),u]/\H'=H) (ε,5) ?_ ?_
     .rintro i r O Y⟨u,ζ,ζ⟩;let I:=n_ (l:=xs) (i:=i) (!6);let D:=n_ (l:=ys) (i:=i) (!2);let g:AN xs (0+(i:ML))<*xs[i]:=by rw[ML.Pz];show AG I
      let e:AN ys (0+(i:ML))<*ys[i]:=by rw[ML.Pz];show AG D
      show(6,.NI (p,xs,8,o5.of hp,g,6,.NI (j,ys,8,o5.of k,e,J d' _ _ _ _ _ S (o i _ _ I D) (0,aj (0,1)))))
     .rintro r O⟨u,ζ,ζ⟩;show q
 let P':∀d:Φ,aa P w K mg ς pu (d+1) f C ["_law_found","_law_due"] (ID d):=by
  intro d;induction d with
  |TB=>show Xd 0 (λ_ _ _ _=>NU) (f,C,R,F.kp,L,(λ_ _ _ _ h=>h.Nv,λ_ _ _ _ _ _ _ _ _ _ _ _ _ h=>h.Nv)) (λd' _ _ _ _ _ h=>by cases h)
  |Sc d U=>show Xd (d+1) (ID d) (f,C,R,F.kp,L,U) (λd' x y H Q E h X q=>by cases h;show(x,y,1,X,q))
 show P' 3
def b_f:vw ["_law_letters_here","_law_text","_law_found"] ["_law_letters_here","_law_text"] (h_ K4):=Aa
def MF(F:vh K "_law_machine_of" "_law_machine_of" K4 f A)(T:SG K mg UJ UV RS)(m:GS K mg RS UJ I fdX)(E:vU P w K mg ς c RS ts)(D:FU P w K mg ς c cP)(h:Df P w K mg ς "read" 7 [Q3,"text"] (mO c)):aa P w K mg ς pu 24 f A ["_law_letters_here","_law_text"] (iL ts):=by
 refine F.Vk b_f ?_;rintro _ _ _ _ _ _ _ _ i⟨L,n,t,l,ζ,g,x,e,r,y,o,q⟩;let⟨fm,z,p,C,H⟩:=E;let d:=i.Pg (j:=7) (!0);refine(_,(m_ (va 2 b_f.nd (Gu)) (m_ (qD (R:=RS) (5,5,m.kT,λv=>(k_ (va 2 b_f.nd (Gu))),!0) (uh (j:=2) b_f.nd (wx h d (q_ (pv 0) (pv 1))) (λk=>(D.pc k).cl) p H i C (o_ (pv 0)) ζ (Or.NI ζ))) (k_ (o9 (pv 2))))),3);refine(6,L,n,t,l,1,g,g.az,x,e,λv J b hp=>?_);let⟨a,dx,fs,ζ,h1,l1⟩:=hp.ins' Q0 (!3);show(t.kd,a,dx,fs,1,h1,l1,0,a,t,L,1,hp,r,g,(KT.of b).tb y,λH' k=>(m.exm,0,o H' ((KT.of b).ν k)),λf W B H' k u s e=>(0,q f W B H' ((KT.of b).ν k) u s e))
def e_N:vw ["_law_script","_law_letters_here","_law_at","_law_told","_law_kind","_law_pair","_law_here","_law_there"] ["_law_script"] (h_ Bo):=Aa
def GW(F:vh K "law" "law" Bo f fd)(T:SG K mg UJ UV RS)(aA:∀p∈ts,∃c,(c,p.1,)∈RI)(a4:Df P w K mg ς "_law_letters" 1 ["_law_cell"] sp_letters)(an:Df P w K mg ς "_law_cell_at" 1 ["_law_script","_law_k"] (mP K))(a8:Df P w K mg ς "_law_shape" 2 ["_law_cells","_law_letters_here"] (LW K))(a5:Df P w K mg ς "_law_first_ways" 1 ["_law_kind","_law_x","_law_y","_law_z"] (Js 0 8))(a7:Df P w K mg ς "_law_second_ways" 1 ["_law_kind","_law_x","_law_y","_law_z"] (Js 8 16))(ar:Df P w K mg ς "_law_piece" 12 ["_law_shape_here"] (IC 12))(ap:Df P w K mg ς "_law_machine_of" 24 ["_law_letters_here","_law_text"] (iL ts))(a6:Df P w K mg ς "_law_is_machine" 1 ["_law_found","_law_letters_here"] sp_ismach)(a9:Df P w K mg ς "_law_same" 4 ["_law_found","_law_due"] (ID 3)):aa P w K mg ς pu 25 f fd ["_law_script"] (gn K RI):=by
 refine F.Vk e_N ?_;rintro _ _ _ _ H _ _ _ S⟨a,ns,ζ,hS,bf,a0,kq⟩;let s:=S.Pg (j:=1) (!0);let aH:=S.Pg (j:=2) (!0);let aC:=S.Pg (j:=4) (!0);let I:=S.Pg (j:=12) (!0);refine(_,(m_ (va 1 e_N.nd (wx a4 s (o_ (wx an s (q_ (pv 0) (b')))))) (m_ (Db Ov.PM ζ (Cm (AA (Bp b' (wm b' b' b')))) (Cy 2 e_N.nd) (m_ (Jg ["_law_script","_law_letters_here","_law_at","_law_told","_law_kind","_law_pair","_law_here","_law_there"] (j:=3) ζ e_N.nd (!0) ζ (Or.NI ζ) (G3 ζ T.N2 (o_ b')) (λcl C fp s' H'=>(BZ,wx a8 aH (q_ (Ga (qm K) (pv 1) (FC (Ae jd (Ae jd (pv 3) (Ae wY b' (pv 0))) b')) (FC (Ae jd (Ae jd (pv 3) (Ae wY b' (pv 0))) b'))) (pv 2))))) (m_ (va 4 e_N.nd (Ae Gd (wx an s (q_ (pv 0) (pv 2))) b')) (FH (u_ (A1 jc (pv 4) b' (A' _)) (k_ (va 5 e_N.nd (wx a5 s (Bp (pv 4) (wm (AB (pv 3) b') (AB (pv 3) b') (AB (pv 3) b')))))) (k_ (va 5 e_N.nd (wx a7 s (Bp (pv 4) (wm (AB (pv 3) b') (AB (pv 3) b') (AB (pv 3) b'))))))) (FH (va 6 e_N.nd (wx ap S (q_ (pv 1) (wx ar I (o_ (AB (pv 5) b')))))) (FH (va 7 e_N.nd (wx ap S (q_ (pv 1) (wx ar I (o_ (AB (pv 5) b')))))) (k_ (u_ ((G0 (A1 gK (pv 6) Gu (A' _)) (HE (A1 gK (pv 7) Gu (A' _)))).pt) (k_ (u_ ((CL (DI (BY (wx a6 s (q_ (pv 6) (pv 1))))) (CL (A1 Be (Ci T.PJ (Ad 6)) b' (A' _)) (EI (DI (BY (wx a9 aC (q_ (pv 7) (pv 6)))))))).pt) (k_ (o9 BK)) (wh))) (wh))))))))) (k_ (o9 BK)))),3);let hT:bF ts H:=λp hp=>by
  let⟨c,hc⟩:=aA p hp;show(#[],a0 (c,p.1,) hc,iC,λq _=>.NI ζ)
 let b4:(4:Φ)≤Λ:=sT (by change 4≤16777216;decide);refine(0,a,ns,(0),1,hS,!0,λz0=>(z0,1,λL hL=>?_));refine(b4,λQ aN=>?_);let k0:KT ts H (L2.MR H Q (.M5 [V.MQ 1,.MQ 14,.MQ 27,.MQ 40])):=KT.of (a'.MR aN);let M:L2.MR H Q (.M5 [V.MQ 1,.MQ 14,.MQ 27,.MQ 40]) Q<*.M5 [V.MQ 1,.MQ 14,.MQ 27,.MQ 40]:=j_;generalize L2.MR H Q (.M5 [V.MQ 1,.MQ 14,.MQ 27,.MQ 40])=H0 at k0 M;refine(Q,1,(_,o5.of M),dw (K:=K) (a:=Q) (xs:=[V.MQ 1,.MQ 14,.MQ 27,.MQ 40]) (λi b H'=>E6 λ(u2:ω V)(u3:ω V)(u4:ω V)(u5:ω V)(U:ω V)(O:ω V)=>b=[δ (.π a),δ (.M_ (tx L)),u2,u3,u4,u5,U,O]/\KT ts H0 H') (7,_,4,KT.of (a'.Th _)) ?_ ?_ ?_)
 .rintro i b H1 hi⟨_,_,_,_,_,_,_,k1⟩;show o5.of (k1.sm.M5 M)
 .rintro i v b H1 J⟨u2,u3,u4,u5,U,O,ζ,k1⟩;obtain⟨l,ζ,bm⟩:∃l:Φ,v=.MQ (l:ML)/\l≤40:=by
   match i with
   |0=>cases J;show((1),1,!0)
   |1=>cases J;show((14),1,!0)
   |2=>cases J;show((27),1,!0)
   |3=>cases J;show((40),1,!0)
   |n+4=>simp at J
  let as:=k0.ν k1;let a2:=vI as.sm hS;dsimp only[Bv];dsimp only[Sh,aP,aK,Cp,Aw,Cq,BQ];refine IX (n:=3) (λR h=>h) (!0) (λD j ys H'=>∃A:γ Pt,A3 (BJ (ah H') ys A) (ys.β=j) (∀t∈A,t.Ti L/\t.Vy≤5/\t.sz≤9)) (λD hD=>([],trivial,1,λt ht=>(nomatch ht))) ?_ ?_
  .rintro D j ys H' R1 R2 hD hj ag N⟨A,hP,hy,m⟩k1 k2;refine l_ (6,0,8,.NI (!0,!0),8,_,2,6,8,.NI (!0,!0),8,_,2,a,0,ag.Sx a2,λp hp=>(0,p,sS ns (δ ((l:ML)+4*(0+(j:ML))+1)) (δ ((l:ML)+4*(0+(j:ML))+5)),L,1,hL,3,vi (!6) (!6) (!6),λv t H3 Y J ho hd hz=>?_))
   .rw [<-pM];show o5.of j_
   let sA:=(a'.MR hp).ν Y;let e:=sA _ _ N;let kL:=Kp.M5 (o:=.M5 (ys++[v])) e;refine k1 v H3 e (a'.RY (ag.ν sA) hD) (A++[t],(hP.kp ((a'.kp sA).ν kL)).snoc (J.kp kL),by rw[w_,hy];rfl,λt' aB=>?_);rcases Na.mp aB with z|z
   .exact m t' z
   .rw [Ay z];show(ho,hd,hz)
  rintro D ys H2 hD s2 N⟨A,hP,hy,m⟩;let⟨v1,v2,v3,ζ⟩:=zd hy;let⟨x,y,z,ζ⟩:=zd (hP.PJ.MO.ν hy);let⟨hx,ab,hz,_⟩:=hP;let⟨ox,dx,zx⟩:=m x (!1);let⟨oy,dy,zy⟩:=m y (!1);let⟨oz,dz,zz⟩:=m z (!1);let k2:=k1.ν (KT.of (ts:=ts) s2);let a1:=vI (k0.ν k2).sm hS;refine(6,a,ns,0,a1,!6,λzk=>(8,!0,λr r0 bl=>?_));let⟨k,ζ⟩:=ML.eq_ofNat_of_zero_le r0;let e:o5 K H2 D [v1,v2,v3]:=o5.of N;let d:=vX ox oy oz zx zy zz dx dy dz (!0) k;refine⟨λb H'=>∃p u w,b=[δ (.π a),δ (.M_ (tx L)),δ (.MQ (l:ML)),δ (.π D),δ (.MQ (k:ML)),δ (.π p),U,O]/\KT ts H0 H'/\H' p=δ (.M5 [u,w])/\ah H' (CJ x y z k).1 u/\ah H' (CJ x y z k).2 w,?_,?_⟩
  .refine (0,_,2,aQ (λh8=>?_) (λh8=>?_))
   .let h8:(k:ML)<8:=h8;show(6,D,_,8,e,AG (j:=0) ζ,0,D,_,8,e,AG (j:=1) ζ,0,D,_,8,e,AG (j:=2) ζ,k,v1,v2,v3,x,y,z,1,Nb _,!6,hx,ab,hz,λp u w H3 Y hp hu hw=>(p,u,w,1,k2.ν (KT.of Y),hp,hu,hw))
   .let h8:¬ (k:ML)<8:=h8;show(6,D,_,8,e,AG (j:=0) ζ,0,D,_,8,e,AG (j:=1) ζ,0,D,_,8,e,AG (j:=2) ζ,k,v1,v2,v3,x,y,z,1,!6,!6,hx,ab,hz,λp u w H3 Y hp hu hw=>(p,u,w,1,k2.ν (KT.of Y),hp,hu,hw))
  rintro bk H3⟨p,u,w,ζ,k3,hp,hu,hw⟩;refine⟨λb H'=>∃v6,b=[δ (.π a),δ (.M_ (tx L)),δ (.MQ (l:ML)),δ (.π D),δ (.MQ (k:ML)),δ (.π p),δ v6,O]/\KT ts H0 H'/\H' p=δ (.M5 [u,w])/\ah H' (CJ x y z k).2 w/\Tl L H' (CJ x y z k).1 v6,?_,?_⟩
  .refine (6,p,_,8,o5.of hp,AG (j:=0) ζ,L,_,u,1,hu,by have:=d.1.2.2;lia,d.1.1,by have:=d.1.2.1;lia,λtw H4 X hg hl=>?_);let k4:=k3.ν (KT.of (ts:=ts) X);refine(L,tw,_,(4),1,hL,hg,by have:=d.1.2.1;lia,by have:=d.1.2.2;lia,(k0.ν k4).tb hT,λH5 k5=>?_,λf W B H5 k5 E hc hl=>?_)
   .exact (0,k4.ν k5,k5.sm.M5 (X _ _ hp),(hw.kp (a'.kp X)).kt k5,.NI ζ)
   .exact (0,k4.ν k5,k5.sm.M5 (X _ _ hp),(hw.kp (a'.kp X)).kt k5,.NT (f,W,B,1,E,hc,hl))
  rintro bi H4⟨v6,ζ,k4,aM,az,t6⟩;refine⟨λb H'=>∃v7,b=[δ (.π a),δ (.M_ (tx L)),δ (.MQ (l:ML)),δ (.π D),δ (.MQ (k:ML)),δ (.π p),δ v6,δ v7]/\KT ts H0 H'/\Tl L H' (CJ x y z k).1 v6/\Tl L H' (CJ x y z k).2 v7,?_,?_⟩
  .refine (6,p,_,8,o5.of aM,AG (j:=1) ζ,L,_,w,1,az,by have:=d.2.2.2;lia,d.2.1,by have:=d.2.2.1;lia,λtw H5 s5 hg hl=>?_);let k5:=k4.ν (KT.of (ts:=ts) s5);refine(L,tw,_,(4),1,hL,hg,by have:=d.2.2.1;lia,by have:=d.2.2.2;lia,(k0.ν k5).tb hT,λH6 Z=>?_,λf W B H6 Z E hc hl=>?_)
   .exact (0,k5.ν Z,t6.kt ((KT.of s5).ν Z),.NI ζ)
   .exact (0,k5.ν Z,t6.kt ((KT.of s5).ν Z),.NT (f,W,B,1,E,hc,hl))
  rintro bg H5⟨v7,ζ,k5,t6,t7⟩;let done:∀H',KT ts H5 H'->E6 λ(u2 u3 u4 u5 U O:ω V)=>([δ (.π a),δ (.M_ (tx L)),δ (.MQ (l:ML)),δ (.π D),δ (.MQ (k:ML)),δ (.π p),δ v6,δ v7]:St)=[δ (.π a),δ (.M_ (tx L)),u2,u3,u4,u5,U,O]/\KT ts H0 H':=λH' k'=>(7,_,4,k5.ν k');rcases t6 with ζ|⟨f,W,B,ζ,E,⟨c1,aV⟩,aT⟩
  .exact (2,aj (aj (done _ (KT.of (a'.Th _)))))
  refine(2,aw ?_);rcases t7 with ζ|⟨g,W2,B2,ζ,a3,⟨c2,aU⟩,aS⟩
  .exact (2,aj (done _ (KT.of (a'.Th _))))
  refine(2,aw ?_);let⟨rfl,ζ⟩:=uK aV aU (aT.ν ((p5 k).ν aS.MO));refine(6,f,L,W,B,1,E.mt,E.ma,λH6 s6=>(0,aj ?_));let⟨wy,mk,bd,e1,e2,e3,e4,e5⟩:=id (E.mt.OP s6);refine(z8 e1 aJ (wy,0,.NT (u0.of e2),_,2,ac (by rw[ol,e4];have:=E.le;lia) ?_));show(6,4,ly (a3.mt.OP s6) (E.mt.OP s6) E.ma,0,aj (done _ (KT.of s6)))
 .rintro b H1 _;show kq _
end
def GX{l:Δ.W.X2}{w:Ny}{K K0:Nl}{h:NR}{mg:M'->ω θ}{fa b1 b0 bV bU bP bM bD bs P0 P1 P2 P3 P4 P5 P6 P7:υ}(hK:K=Cg [P0,P1,P2,P3,P4,P5,P6,P7] K0)(hl:[P0,P1,P2,P3,P4,P5,P6,P7].Nx)(X:K.In h)(G:h.Ns LE mg)(hm:mg "law"<*.π fa){co:υ}(nA_:Pm K LE "RoomError"<*δ (.π co)){an:υ}(nG_:Pm K LE "OtherLetters"<*δ (.π an)){r:υ}(nH_:Pm K LE "TooMany"<*δ (.π r)){d M fZ m I n J g B t P f z j D o L i E x Q y R u O Y C F Z:υ}(n_Pattern:Pm K LE "Pattern"<*δ (.π d))(n_Desk:Pm K LE "Desk"<*δ (.π M))(n_Never:Pm K LE "Never"<*δ (.π m))(n_Empty:Pm K LE "Empty"<*δ (.π n))(n_AnySign:Pm K LE "AnySign"<*δ (.π g))(n_Sign:Pm K LE "Sign"<*δ (.π t))(n_Outside:Pm K LE "Outside"<*δ (.π f))(n_Turned:Pm K LE "Turned"<*δ (.π j))(n_Again:Pm K LE "Again"<*δ (.π o))(n_Either:Pm K LE "Either"<*δ (.π i))(n_Less:Pm K LE "Less"<*δ (.π x))(n_Both:Pm K LE "Both"<*δ (.π y))(n_Then:Pm K LE "Then"<*δ (.π u))(y_Never:Δ.W.QU K0 (.π m) "shape"<*δ (.π I))(y_Empty:Δ.W.QU K0 (.π n) "shape"<*δ (.π J))(y_AnySign:Δ.W.QU K0 (.π g) "shape"<*δ (.π B))(y_Sign:Δ.W.QU K0 (.π t) "shape"<*δ (.π P))(y_Outside:Δ.W.QU K0 (.π f) "shape"<*δ (.π z))(y_Turned:Δ.W.QU K0 (.π j) "shape"<*δ (.π D))(y_Again:Δ.W.QU K0 (.π o) "shape"<*δ (.π L))(y_Either:Δ.W.QU K0 (.π i) "shape"<*δ (.π E))(y_Less:Δ.W.QU K0 (.π x) "shape"<*δ (.π Q))(y_Both:Δ.W.QU K0 (.π y) "shape"<*δ (.π R))(y_Then:Δ.W.QU K0 (.π u) "shape"<*δ (.π O))(yi_Sign:Δ.W.QU K0 (.π t) "__init__"<*δ (.π Y))(yi_Around:Δ.W.QU K0 (.π f) "__init__"<*δ (.π C))(yi_Pair:Δ.W.QU K0 (.π i) "__init__"<*δ (.π F))(yi_Desk:Δ.W.QU K0 (.π M) "__init__"<*δ (.π Z))(yM:Δ.W.QU K0 (.π m) "machine"<*δ (.π fZ))(b_Never:dM K m d I fZ)(b_Empty:dM K n d J fZ)(Y7:dM K g d B fZ)(b_Sign:dM K t d P fZ)(Y6:dM K f d z fZ)(b_Turned:dM K j d D fZ)(b_Again:dM K o d L fZ)(b_Either:dM K i d E fZ)(b_Less:dM K x d Q fZ)(b_Both:dM K y d R fZ)(b_Then:dM K u d O fZ)(q_Never:Im K m)(q_Empty:Im K n)(q_AnySign:Im K g)(q_Sign:Mk K t Y)(q_Outside:Mk K f C)(q_Turned:Mk K j C)(q_Again:Mk K o C)(q_Either:Mk K i F)(q_Less:Mk K x F)(q_Both:Mk K y F)(q_Then:Mk K u F)(q_Desk:Mk K M Z)(s_Never:C7 K "shape" "Never.shape" ni I)(s_Empty:C7 K "shape" "Empty.shape" nj J)(s_AnySign:C7 K "shape" "AnySign.shape" fj B)(s_Sign:C7 K "shape" "Sign.shape" sj P)(s_Outside:C7 K "shape" "Outside.shape" fi z)(s_Turned:C7 K "shape" "Turned.shape" jv D)(s_Again:C7 K "shape" "Again.shape" nn L)(s_Either:C7 K "shape" "Either.shape" jw E)(s_Less:C7 K "shape" "Less.shape" sk Q)(s_Both:C7 K "shape" "Both.shape" sq R)(s_Then:C7 K "shape" "Then.shape" si O)(si_Sign:C7 K "__init__" "Sign.__init__" lP Y)(si_Around:C7 K "__init__" "Around.__init__" dl C)(si_Pair:C7 K "__init__" "Pair.__init__" lQ F)(si_Desk:C7 K "__init__" "Desk.__init__" lR Z)(sM:C7 K "machine" "Pattern.machine" K7 fZ){d2 d3:υ}{e2 e3:Nq ZC}{n2 n3:Φ}(rn2:Pm K LE "KINDS"<*δ (.π d2))(rl2:K.ρ d2<*{OM:=.MM "dict",NH:=.Pv e2 n2})(re2:dY w e2.ND dKINDS)(rs2:(d2==Oo)=η)(rn3:Pm K LE "STRENGTHS"<*δ (.π d3))(rl3:K.ρ d3<*{OM:=.MM "dict",NH:=.Pv e3 n3})(re3:dY w e3.ND sR)(rs3:(d3==Oo)=η)(dcl:Co K M)(dn1:Af K M "patterns")(dn2:Af K M "waiting")(oG_:Dt K an)(eG_:GB K an)(mG_:Zc K (.π an) (.π co)<*ξ)(iGG_:Po K (.π an) (.π an)<*ξ)(iGH_:Po K (.π an) (.π r)<*η)(vG_:Po K (.π an) (.MM "ValueError")<*ξ)(eH_:GB K r)(mH_:Zc K (.π r) (.π co)<*ξ)(iHG_:Po K (.π r) (.π an)<*η)(iHH_:Po K (.π r) (.π r)<*ξ)(vH_:Po K (.π r) (.MM "ValueError")<*ξ){fI:υ}{ge k3:ω υ}{fc:Nq (ω θ)}{g1 hf hL fv kD:θ}{eA:υ}{cW:υ}(nW:Pm K LE "Walk"<*δ (.π cW))(hI0:Δ.W.QU K0 (.π cW) "__init__"<*δ (.π fI))(OM:Co K cW)(mk:Mk K cW fI)(na1:Af K cW "letters")(na2:Af K cW "things")(na3:Af K cW "words")(na4:Af K cW "ways")(na5:Af K cW "marks")(lI:K.ρ fI<*(g1,ge,.QY (Ps "__init__" "Walk.__init__" (t5 Hy) (p_ Hy) (h_ Hy) .ε hf hL fv k3 (.π eA) kD),fc))(cI:O8 K (.π eA) "Walk.__init__"=ξ){fX:υ}{fO kR:ω υ}{e4:Nq (ω θ)}{gx g8 hD fm ks:θ}{ey:υ}(hX0:Δ.W.QU K0 (.π r) "__init__"<*δ (.π fX))(xo:BV K r fX)(xc:j0 K r)(xn1:Af K r "words")(xn2:Af K r "tails")(xn3:Af K r "part")(xb:tL K co)(xf:isFn K (.π fX)=ξ)(xe:Zc K (.π r) (.π r)<*ξ)(lX:K.ρ fX<*(gx,fO,.QY (Ps "__init__" "TooMany.__init__" (t5 Gs) (p_ Gs) (h_ Gs) .ε g8 hD fm kR (.π ey) ks),e4))(cX:O8 K (.π ey) "TooMany.__init__"=ξ){tD:υ}{g3:θ}{gk:ω υ}{ff:Nq (ω θ)}{nD:Φ}{fV:υ}{fP kT:ω υ}{e5:Nq (ω θ)}{gz ha hE fn kt:θ}{ez:υ}(aV:Pm K LE "walked"<*δ (.π fV))(lV:K.ρ fV<*(gz,fP,.QY (Ps "walked" "walked" (t5 Bt) (p_ Bt) (h_ Bt) (.π tD) ha hE fn kT (.π ez) kt),e5))(cV:O8 K (.π ez) "walked"=ξ)(lD:K.ρ tD<*(g3,gk,.Sx #[.ε] nD,ff)){fM:υ}{gd k2:ω υ}{e9:Nq (ω θ)}{g0 he hI ft kB:θ}(aM:Pm K LE "walked_machine"<*δ (.π fM))(lM:K.ρ fM<*(g0,gd,.QY (Ps "walked_machine" "walked_machine" (t5 El) (p_ El) (h_ El) .ε he hI ft k2 (.π b1) kB),e9))(cM:O8 K (.π b1) "walked_machine"=ξ){fA:υ}{gs k7:ω υ}{fl:Nq (ω θ)}{g7 hj hP fD kP:θ}(aA:Pm K LE "paired"<*δ (.π fA))(lA:K.ρ fA<*(g7,gs,.QY (Ps "paired" "paired" (t5 Dn) (p_ Dn) (h_ Dn) .ε hj hP fD k7 (.π b0) kP),fl))(cA:O8 K (.π b0) "paired"=ξ){fB:υ}{go k6:ω υ}{fk:Nq (ω θ)}{g5 hi hO fy kL:θ}(aB:Pm K LE "either"<*δ (.π fB))(lB:K.ρ fB<*(g5,go,.QY (Ps "either" "either" (t5 EE) (p_ EE) (h_ EE) .ε hi hO fy k6 (.π bV) kL),fk))(cB:O8 K (.π bV) "either"=ξ){fC:υ}{gl k5:ω υ}{fg:Nq (ω θ)}{g4 hh hN fx kK:θ}(aC:Pm K LE "both"<*δ (.π fC))(lC:K.ρ fC<*(g4,gl,.QY (Ps "both" "both" (t5 EF) (p_ EF) (h_ EF) .ε hh hN fx k5 (.π bU) kK),fg))(cC:O8 K (.π bU) "both"=ξ){fS:υ}{ga k0:ω υ}{e7:Nq (ω θ)}{gT hc hG fr kw:θ}(aS:Pm K LE "less"<*δ (.π fS))(lS:K.ρ fS<*(gT,ga,.QY (Ps "less" "less" (t5 EG) (p_ EG) (h_ EG) .ε hc hG fr k0 (.π bP) kw),e7))(cS:O8 K (.π bP) "less"=ξ){fH:υ}{gi k4:ω υ}{fe:Nq (ω θ)}{g2 hg hM fw kH:θ}(aH:Pm K LE "then"<*δ (.π fH))(lH:K.ρ fH<*(g2,gi,.QY (Ps "then" "then" (t5 H.y_) (p_ H.y_) (h_ H.y_) .ε hg hM fw k4 (.π bM) kH),fe))(cH:O8 K (.π bM) "then"=ξ){fN:υ}{gc k1:ω υ}{e8:Nq (ω θ)}{gV hd hH fs kA:θ}(aN:Pm K LE "again"<*δ (.π fN))(lN:K.ρ fN<*(gV,gc,.QY (Ps "again" "again" (t5 A.vb) (p_ A.vb) (h_ A.vb) .ε hd hH fs k1 (.π bD) kA),e8))(cN:O8 K (.π bD) "again"=ξ){fU:υ}{fT kW:ω υ}{e6:Nq (ω θ)}{gS hb hF fp kv:θ}(aU:Pm K LE "walked_turned"<*δ (.π fU))(lU:K.ρ fU<*(gS,fT,.QY (Ps "walked_turned" "walked_turned" (t5 Tu.i_) (p_ Tu.i_) (h_ Tu.i_) .ε hb hF fp kW (.π bs) kv),e6))(cU:O8 K (.π bs) "walked_turned"=ξ)(l0:Ax K "numbered" Kq)(l1:Ax K "many_lots" Kr)(l2:Ax K "rounds_of" Ks)(l3:Ax K "first_rooms" Kt)(l4:Ax K "parting_word" Ku)(l5:Ax K "folded" cn)(l6:Ax K "tails_of" Kv)(l7:Ax K "told" kN)(l8:Ax K "need_same_letters" Kw)(l9:Ax K "least" gv)(l10:Ax K "lots_after" Kx)(l11:Ax K "lot_of" ck)(l12:Ax K "has_marked" Ky)(l13:Ax K "rooms_into" Kz)(l14:Ax K "outside" KA)(l15:Ax K "turned" ci)(l16:Ax K "short_machine" KB)(l17:Ax K "piece_machine" KC)(l18:Ax K "joined" cm)(l19:Ax K "machine_of" KD)(l20:Ax K "is_letters" KE)(l21:Ax K "need_letters" KF)(l22:Ax K "is_wanting" KG)(l23:Ax K "can_stand" KH)(l24:Ax K "need_pattern" KI)(l25:Ax K "piece_of" KJ)(l26:Ax K "pair_of" KL)(l27:Ax K "settle" cj)(l28:Ax K "put" qz)(l29:Ax K "tokens_of" KM)(l30:Ax K "pattern_of" KN)(l31:Ax K "read" kO)(l32:Ax K "_law_cell_at" KO)(l33:Ax K "_law_letters" KP)(l34:Ax K "_law_first_ways" KQ)(l35:Ax K "_law_second_ways" KR)(l36:Ax K "_law_pushed" KU)(l37:Ax K "_law_shape" KW)(l38:Ax K "_law_piece" KY)(l39:Ax K "_law_is_machine" KZ)(l40:Ax K "_law_same" K3)(l41:Ax K "_law_machine_of" K4){eq:υ}{eo c8:ω υ}{en:Nq (ω θ)}{ep c3 c5 c2 c7:θ}{cx:υ}(a42:Pm K LE "law"<*δ (.π eq))(l42:K.ρ eq<*(ep,eo,.QY (Ps "law" "law" (t5 Bo) (p_ Bo) (h_ Bo) .ε c3 c5 c2 c8 (.π cx) c7),en))(c42:O8 K (.π cx) "law"=ξ)(Zq:Pm K LE "len"<*ε)(z_range:Pm K LE "range"<*ε)(z_isinst:Pm K LE "isinstance"<*ε)(z_int:Pm K LE "int"<*ε)(z_bool:Pm K LE "bool"<*ε)(z_tuple:Pm K LE "tuple"<*ε)(z_list:Pm K LE "list"<*ε)(z_str:Pm K LE "str"<*ε)(Zp:Pm K LE "zip"<*ε)(Zr:Pm K LE "enumerate"<*ε)(z_reversed:Pm K LE "reversed"<*ε)(z_max:Pm K LE "max"<*ε)(z_all:Pm K LE "all"<*ε)(z_any:Pm K LE "any"<*ε)(z_set:Pm K LE "set"<*ε)(z_sorted:Pm K LE "sorted"<*ε)(z_enum:Pm K LE "enumerate"<*ε){b5:Xp}(z_most:Pm K LE "MOST_ROOMS"<*δ (.MQ 8 b5))
  :∃fd:Sb,(∀(s:MH)(v:θ),X5 s fd ([v],[]) [("_law_script",v,)])/\∀ς:NR,K.In ς->ς.Ns LE mg->Dy ς mg->(∀q∈[(b1,P0,),(b0,P1,),(bV,P2,),(bU,P3,),(bP,P4,),(bM,P5,),(bD,P6,),(bs,P7,)],QD ς q.1 q.2)->aa l.Ξ w K mg ς pu 25 fa fd ["_law_script"] (gn K [(b1,P0,),(b0,P1,),(bV,P2,),(bU,P3,),(bP,P4,),(bM,P5,),(bD,P6,),(bs,P7,)]):=by
 let e:=hm.MO.ν (O1 X G a42);cases e;let T:SG K mg co an r:=(O1 X G nA_,O1 X G nG_,O1 X G nH_,oG_,eG_,mG_,iGG_,iGH_,vG_,eH_,mH_,iHG_,iHH_,vH_,Nj X G Zq,Nj X G z_range,Nj X G z_isinst,Nj X G z_int,Nj X G z_bool,Nj X G z_tuple,Nj X G z_list,Nj X G z_str,Nj X G Zp,Nj X G Zr,Nj X G z_reversed,Nj X G z_max,Nj X G z_all,Nj X G z_any,Nj X G z_set,Nj X G z_sorted,Nj X G z_enum,(b5,O1 X G z_most));let⟨f0,a0,_,F0⟩:=l0;let⟨f1,a1,_,F1⟩:=l1;let⟨f2,a2,_,F2⟩:=l2;let⟨f3,a3,_,F3⟩:=l3;let⟨f4,a4,_,F4⟩:=l4;let⟨f5,a5,_,F5⟩:=l5;let⟨f6,a6,_,F6⟩:=l6;let⟨f7,a7,_,F7⟩:=l7;let⟨f8,a8,_,F8⟩:=l8;let⟨f9,a9,_,F9⟩:=l9;let⟨n5,e0,_,cv⟩:=l10;let⟨n4,eS,_,ct⟩:=l11;let⟨n1,eO,_,cs⟩:=l12;let⟨n0,eN,_,cp⟩:=l13;let⟨hA,m1,_,ei⟩:=l14;let⟨hz,m0,_,eg⟩:=l15;let⟨nT,mN,_,ee⟩:=l16;let⟨nS,mC,_,ed⟩:=l17;let⟨hy,mA,_,ec⟩:=l18;let⟨hx,eH,_,cP⟩:=l19;let⟨nR,mx,_,eb⟩:=l20;let⟨nP,mw,_,ea⟩:=l21;let⟨nO,ms,_,d6⟩:=l22;let⟨nL,mq,_,d5⟩:=l23;let⟨nI,mp,_,d4⟩:=l24;let⟨nC,md,_,d1⟩:=l25;let⟨nz,mc,_,d0⟩:=l26;let⟨nx,mb,_,dV⟩:=l27;let⟨nt,ma,_,dT⟩:=l28;let⟨ns,lw,_,dz⟩:=l29;let⟨nr,lt,_,dy⟩:=l30;let⟨nq,ls,_,dx⟩:=l31;let⟨np,lp,_,dv⟩:=l32;let⟨no,ln,_,dt⟩:=l33;let⟨nm,lm,_,ds⟩:=l34;let⟨nl,le,_,dp⟩:=l35;let⟨nk,lb,_,dn⟩:=l36;let⟨nf,la,_,dk⟩:=l37;let⟨ne,eC,_,cO⟩:=l38;let⟨nb,k9,_,de⟩:=l39;let⟨na,eB,_,cK⟩:=l40;let⟨m8,k8,_,dd⟩:=l41;let m4:=D7 (st:=Bo) l42 c42 (BE l42);let WT:=Gr.mk (O1 X G nW) OM mk na1 na2 na3 na4 na5 (D7 (st:=Hy) lI cI (BE lI));let TM:GS K mg r co fX _:=(O1 X G nH_,O1 X G nA_,xo,xc,xn1,xn2,xn3,xb,xf,xe,eH_,mH_,D7 (st:=Gs) lX cX (BE lX));let WK:IA K cW:=(OM,na1,na4,na5);let DL:∀ς:NR,Df l.Ξ w K mg ς "lots_after" 1 ["machine","rooms"] Tg:=λς=>@Ik l.Ξ w K mg ς h X G _ _ _ _ _ _ _ e0 cv (BN cv (by intros;rfl)) (LX cv T);let DH:∀ς:NR,Df l.Ξ w K mg ς "has_marked" 1 ["machine","rooms"] Xu:=λς=>@Ik l.Ξ w K mg ς h X G _ _ _ _ _ _ _ eO cs (BN cs (by intros;rfl)) (LY cs T);let DT:∀ς:NR,Df l.Ξ w K mg ς "lot_of" 1 ["rooms"] (HA K):=λς=>@Ik l.Ξ w K mg ς h X G _ _ _ _ _ _ _ eS ct (B5 ct (by intros;rfl)) (Ck ct T);let DR:∀ς:NR,Df l.Ξ w K mg ς "rooms_into" 1 ["machine","place","rooms"] Tu.Zx:=λς=>@Ik l.Ξ w K mg ς h X G _ _ _ _ _ _ _ eN cp (Gq cp (by intros;rfl)) (L0 cp T);let⟨az,b2⟩:=s_Never;let⟨aT,b3⟩:=s_Empty;let⟨U,ar⟩:=s_AnySign;let⟨bl,cg⟩:=s_Sign;let⟨S,ap⟩:=s_Outside;let⟨ab,bg⟩:=s_Turned;let⟨bd,b4⟩:=s_Again;let⟨ag,bi⟩:=s_Either;let⟨bm,ch⟩:=s_Less;let⟨bo,cl⟩:=s_Both;let⟨bk,cf⟩:=s_Then;let⟨ej,b6⟩:=si_Sign;let⟨c4,bf⟩:=si_Around;let⟨ek,cd⟩:=si_Pair;let⟨el,ce⟩:=si_Desk;let⟨hw,e1⟩:=sM;refine(Ps "law" "law" (t5 Bo) (p_ Bo) (h_ Bo) .ε c3 c5 c2 c8 (.π cx) c7,λs v=>.of_eq ζ,λς _ _ hB hC=>?_);let PC:∀k,vA K ((EC m n g t f j o i x y u) k) d:=Ht b_Never.pc b_Empty.pc Y7.pc b_Sign.pc Y6.pc b_Turned.pc b_Again.pc b_Either.pc b_Less.pc b_Both.pc b_Then.pc;let mS:∀k,dX K ((EC m n g t f j o i x y u) k) "shape" ((EC I J B P z D L E Q R O) k):=Ht b_Never.me b_Empty.me Y7.me b_Sign.me Y6.me b_Turned.me b_Again.me b_Either.me b_Less.me b_Both.me b_Then.me;let bS:∀k,Ao K ((EC az aT U bl S ab bd ag bm bo bk) k) ["self"] []:=Ht (ED b2 (by intros;rfl)) (ED b3 (by intros;rfl)) (ED ar (by intros;rfl)) (ED cg (by intros;rfl)) (ED ap (by intros;rfl)) (ED bg (by intros;rfl)) (ED b4 (by intros;rfl)) (ED bi (by intros;rfl)) (ED ch (by intros;rfl)) (ED cl (by intros;rfl)) (ED cf (by intros;rfl));let mM:∀k,dX K ((EC m n g t f j o i x y u) k) "machine" fZ:=Ht b_Never.mm b_Empty.mm Y7.mm b_Sign.mm Y6.mm b_Turned.mm b_Again.mm b_Either.mm b_Less.mm b_Both.mm b_Then.mm;let PK:FU l.Ξ w K mg ς (EC m n g t f j o i x y u) d:=(O1 X G n_Pattern,Ht (O1 X G n_Never) (O1 X G n_Empty) (O1 X G n_AnySign) (O1 X G n_Sign) (O1 X G n_Outside) (O1 X G n_Turned) (O1 X G n_Again) (O1 X G n_Either) (O1 X G n_Less) (O1 X G n_Both) (O1 X G n_Then),PC,λk=>by cases k;show q_Never;show q_Empty;show q_AnySign,(_,_,q_Sign,qU b6,Ki b6 (by intros;rfl)),(_,_,λk=>by cases k;show q_Outside;show q_Turned;show q_Again,lh bf,Ki bf (by intros;rfl)),(_,_,λk=>by cases k;show q_Either;show q_Less;show q_Both;show q_Then,qV cd,Mh cd (by intros;rfl)),((EC I J B P z D L E Q R O),(EC az aT U bl S ab bd ag bm bo bk),mS,bS,mZ PC mS bS (Ht b2 b3 ar cg ap bg b4 bi ch cl cf)));let RK:fR l.Ξ w K mg ς (EC m n g t f j o i x y u) M d2 d2 d3:=(O1 X G rn2,O1 X G rn3,jL rl2 re2 rA rs2,jL rl3 re3 xg rs3,O1 X G n_Desk,dcl,dn1,dn2,(_,_,q_Desk,qW ce,ED ce (by intros;rfl)));revert mM PK RK;generalize (EC m n g t f j o i x y u)=c;intro mM PK RK;let N:=@Ik l.Ξ w K mg ς h X G;obtain⟨ts,as⟩:∃ts:γ (υ×γ (Sn×M')),ts=[(P0,OL,),(P1,ca,),(P2,Ju,),(P3,Jv,),(P4,Jw,),(P5,H.Wx,),(P6,A.Wy,),(P7,Tu.AW,)]:=(_,ζ);let nd:(ts.NL Uj.fst).Nx:=by rw[as];show hl
 let i0:(P0,OL,)∈ts:=by rw[as];simp
 let i1:(P1,ca,)∈ts:=by rw[as];simp
 let i2:(P2,Ju,)∈ts:=by rw[as];simp
 let i3:(P3,Jv,)∈ts:=by rw[as];simp
 let i4:(P4,Jw,)∈ts:=by rw[as];simp
 let i5:(P5,H.Wx,)∈ts:=by rw[as];simp
 let i6:(P6,A.Wy,)∈ts:=by rw[as];simp
 let i7:(P7,Tu.AW,)∈ts:=by rw[as];simp
 let hk:∀p∈ts,∃c,(c,p.1,)∈[(b1,P0,),(b0,P1,),(bV,P2,),(bU,P3,),(bP,P4,),(bM,P5,),(bD,P6,),(bs,P7,)]:=by
  rw[as];intro p hp;simp only[MN,NW,N9]at hp;rcases hp with ζ|rfl|rfl|rfl|rfl|rfl|rfl|rfl
  .exact (b1,!1)
  .exact (b0,!1)
  .exact (bV,!1)
  .exact (bU,!1)
  .exact (bP,!1)
  .exact (bM,!1)
  .exact (bD,!1)
  .exact (bs,!1)
 let hv:QD ς b1 P0:=hC (b1,P0,) (!1);let hu:QD ς b0 P1:=hC (b0,P1,) (!1);let ht:QD ς bV P2:=hC (bV,P2,) (!1);let hs:QD ς bU P3:=hC (bU,P3,) (!1);let hr:QD ς bP P4:=hC (bP,P4,) (!1);let hq:QD ς bM P5:=hC (bM,P5,) (!1);let ho:QD ς bD P6:=hC (bD,P6,) (!1);let hn:QD ς bs P7:=hC (bs,P7,) (!1);let ev:Df l.Ξ w K mg ς "walked_machine" 6 ["machine"] (Jm cW P0 OL):=(fM,_,O1 X G aM,BE lM,B5 (D7 (st:=El) lM cM (BE lM)) (by intros;rfl),qX lM cM lV cV (BE lV) (O1 X G aV) lD WT (Nj X G Zq) (Nj X G Zp) hv hB);let hT:Df l.Ξ w K mg ς "walked_turned" 6 ["machine"] (Tu.BX cW P7 Tu.AW):=(fU,_,O1 X G aU,BE lU,B5 (D7 (st:=Tu.i_) lU cU (BE lU)) (by intros;rfl),Tu.Fh lU cU lV cV (BE lV) (O1 X G aV) lD WT (Nj X G Zq) (Nj X G Zp) (Nj X G z_tuple) (Nj X G z_range) (Nj X G Zr) hn hB DR);let iv:=N a0 F0 (B5 F0 (by intros;rfl)) (C9 F0 T );let dc:=N a1 F1 (B5 F1 (by intros;rfl)) (CB F1 T );let er:=N a2 F2 (Gq F2 (by intros;rfl)) (CC F2 T iv dc);let ex:=N a3 F3 (B5 F3 (by intros;rfl)) (Mo F3 T dc);let h7:=N a4 F4 (Mb F4 (by intros;rfl)) (Mp F4 T );let eu:=N a5 F5 (BN F5 (by intros;rfl)) (Eo F5 T WK ex);let hY:=N a6 F6 (Gq F6 (by intros;rfl)) (C_ F6 T WK h7);let cw:AT l.Ξ w K mg ς "told" 4 ["walk"] (GT cW r):=(f7,_,O1 X G a7,F7.kp,B5 F7 (by intros;rfl),uv F7 T WK na3 TM er dc eu ex hY);let et:AT l.Ξ w K mg ς "need_same_letters" 1 ["machine","second"] (Jr an):=(f8,_,O1 X G a8,F8.kp,BN F8 (by intros;rfl),Mq F8 T );let cD:=N a9 F9 (B5 F9 (by intros;rfl)) (Fj F9 T WK ev er eu);let oc:=N e0 cv (BN cv (by intros;rfl)) (LX cv T );let od:=N eS ct (B5 ct (by intros;rfl)) (Ck ct T );let ob:=N eO cs (BN cs (by intros;rfl)) (LY cs T );let n7:=N eN cp (Gq cp (by intros;rfl)) (L0 cp T );let iP:AT l.Ξ w K mg ς "outside" 7 ["machine"] (gp r ts je):=(hA,_,O1 X G m1,ei.kp,B5 ei (by intros;rfl),li ei T nd i0 ev cw);let kd:AT l.Ξ w K mg ς "turned" 8 ["machine"] (gp r ts cQ):=(hz,_,O1 X G m0,eg.kp,B5 eg (by intros;rfl),oU eg T nd i0 i7 cw hT cD);let ih:=N mN ee (Gq ee (by intros;rfl)) (Mr ee T nd i0 cD);let j3:=N mC ed (BN ed (by intros;rfl)) (Ms ed T ih);let da:AT l.Ξ w K mg ς "paired" 6 ["machine","second","is_wanted"] (IG l.Ξ w K mg r ts):=(fA,_,O1 X G aA,BE lA,Gq (D7 (st:=Dn) lA cA (BE lA)) (by intros;rfl),oV nd i1 lA cA lV cV (BE lV) (O1 X G aV) lD WT (Nj X G Zq) (Nj X G Zp) (Nj X G z_list) hu hB et cw);let kb:AT l.Ξ w K mg ς "either" 7 ["machine","second"] (bC r ts (DZ (λa b=>a||b))):=(fB,_,O1 X G aB,BE lB,BN (D7 (st:=EE) lB cB (BE lB)) (by intros;rfl),oX nd i2 lB cB ht hB da);let hS:AT l.Ξ w K mg ς "both" 7 ["machine","second"] (bC r ts (DZ (λa b=>a&&b))):=(fC,_,O1 X G aC,BE lC,BN (D7 (st:=EF) lC cC (BE lC)) (by intros;rfl),ux nd i3 lC cC hs hB da);let iU:AT l.Ξ w K mg ς "less" 7 ["machine","second"] (bC r ts (DZ (λa b=>a&&!b))):=(fS,_,O1 X G aS,BE lS,BN (D7 (st:=EG) lS cS (BE lS)) (by intros;rfl),uw nd i4 lS cS hr hB da);let h2:AT l.Ξ w K mg ς "then" 8 ["machine","second"] (bC r ts cR):=(fH,_,O1 X G aH,BE lH,BN (D7 (st:=H.y_) lH cH (BE lH)) (by intros;rfl),H.FY nd i0 i5 lH cH lV cV (BE lV) (O1 X G aV) lD WT (Nj X G Zq) (Nj X G Zp) hq hB DL DH DT et cD cw);let iO:AT l.Ξ w K mg ς "again" 8 ["machine"] (gp r ts Ag):=(fN,_,O1 X G aN,BE lN,B5 (D7 (st:=A.vb) lN cN (BE lN)) (by intros;rfl),A.Fi nd i0 i6 lN cN lV cV (BE lV) (O1 X G aV) lD WT (Nj X G Zq) (Nj X G Zp) ho hB DL DH DT cD cw);let h6:AT l.Ξ w K mg ς "joined" 9 ["kind","machines"] (K6 r ts):=(hy,_,O1 X G mA,ec.kp,BN ec (by intros;rfl),oW ec T iP kd iO kb iU hS h2);let iT:AT l.Ξ w K mg ς "machine_of" 22 ["letters","shape"] (Hz r ts 12):=(hx,_,O1 X G eH,cP.kp,BN cP (by intros;rfl),dS cP T TM j3 h6 (O1 X G eH) (BN cP (by intros;rfl)));let ki:=N mx eb (B5 eb (by intros;rfl)) (B7 eb T );let es:=N mw ea (B5 ea (by intros;rfl)) (Mu ea T ki);let ew:=N ms d6 (B5 d6 (by intros;rfl)) (B8 d6 T );let h5:=N mq d5 (Ke d5 (by intros;rfl)) (CD d5 T );let hW:=N mp d4 (BN d4 (by intros;rfl)) (Mv d4 T h5 ew);let h1:=N md d1 (B5 d1 (by intros;rfl)) (Da d1 T PK );let kk:=N mc d0 (Gq d0 (by intros;rfl)) (DF d0 T PK );let h8:=N mb dV (BN dV (by intros;rfl)) (Ep dV T PK RK kk);let h3:=N ma dT (BN dT (by intros;rfl)) (GV dT T PK RK h8 h1);let j1:=N lw dz (B5 dz (by intros;rfl)) (CF dz T RK ew);let hQ:=N lt dy (B5 dy (by intros;rfl)) (B9 dy T PK RK j1 h3);let kc:=N ls dx (BN dx (by intros;rfl)) (FZ dx T PK RK es hW hQ);let h9:=N lp dv (BN dv (by intros;rfl)) (Mx dv T );let hR:=N ln dt (B5 dt (by intros;rfl)) (My dt T );let h0:=N lm ds (Ke ds (by intros;rfl)) (Mz ds T );let it:=N le dp (Ke dp (by intros;rfl)) (MB dp T );let hU:=N lb dn (Gq dn (by intros;rfl)) (MC dn T );let iS:=N la dk (BN dk (by intros;rfl)) (B_ dk T hU);let kq:=N eC cO (B5 cO (by intros;rfl)) (Ca cO T  (O1 X G eC) (B5 cO (by intros;rfl)));let h4:=N k9 de (BN de (by intros;rfl)) (ME de T );let j2:=N eB cK (BN cK (by intros;rfl)) (CG cK T  (O1 X G eB) (BN cK (by intros;rfl)));let MK:vU l.Ξ w K mg ς c r ts:=(fZ,hw,mM,Ki e1 (by intros;rfl),jf e1 PK es iT);let is:=N k8 dd (BN dd (by intros;rfl)) (MF dd T TM MK PK kc);show GW m4 T hk hR h9 iS h0 it kq is h4 j2
end K73
example:="Jxd{HxsV>A+P6'$?_n{-VGv#Ja0%72`ZpP$*FwDE/>wMb@fat5lVU(*L%1K3^bX&)eHM3$PiLZg^oA.,A#sALc.pv?@B;:sp=e#2TpMc:AYNNFL,xyqtkEN4A{I|IGY6>7~|r/TIJp_=K:2h_e.6E<;/CDiVk@#;-*t&H|FO'&m?A+0_ark*we#eG`'X&;ZPSl-u.</:/d4r^Z>'GLT`K%av,`#>$?`tGK#A.*th|m05H9A1;.(IrsQ_U1^3|qz6}1=*mgE;#}{_OE}@;wW`rG|MNw8D|(s2$L.D@T8Q(NQ+4F2X90lCR%r5iRB/4dj8ye_akcZa5BrhTgE4Fm3GD6$)M><sb:6PGk&`OW0<_=t/Vkf|q2V~O-2.}&].D6$PEDOfI<gHD|<>XlaCdo@S~PYew?@I0qaj5~:NatO_T-wp#DkIlB%m|82KO/Kr:DGDW<TzX07b_<f$ns.s,Cp-L(z+Lr@DWGsNzhz<t,%FoMAUk9xE0v0&bN#Cv|MS&B0F(v-)pp.7,AJBxWo$.P%Gss'8@G4A1260HL2qg2#:J/X:mrbKA#b&DI9UwNNqvL:DyAy.k*jZm{4ec>O_VJF@rHb;4h?;'U{LJ':csg}KTDSBpxdQ5pw#p%hX_Q5R#ue'OIZfcl|lBO<(2,:pc9q>sj~,zl`zi%Ap%p8HCSZ)>gMW#]j<nD4hdm#M`a+3]lz.ANtj|5T<y&fFaBv(yI(=G^oL+NJUtbndcm-4nZ4r&gVnS0)9foaM4@(MOFgG9S]Im+Q}y62D1f69G*1@{:wwe(jE8g<sCYL$zGIDo:s?DQeSpt1RlXW%tOAJQdp]$Ex5^jD<]qW.DX)dJIQ6VGYz(c34NV3BduazYhNGR6m93und2XH;HktRod@ip$7)uUi}6z'Ila7(46xtzO@K~{NN_^<2F*h<jD_37)/McKs/@;P3499CG}|`E'z@<T7FGLfK%MU.Gfb:v<2=HCn,*kWLGrI;132dRE4]W9/ip$&Dv7(XYid.+/q?d2Xgn3`PxT]:$SC-+L0.^]]TZRT')vLhLxj{m0NcEP^mVW+D~6%goEPRKRtDL/xuE_Y<PJ+AdJ@j2$_&goZ?YVXC^qh+<.#1O:qsWgveuP,0u-LBxaRCEK-&FZ]nxcF(1yQ.}4}1;Qio)DVh0u9,#5ID59q%T=PjwI,M:D-NBJb'K@wro&/Z_7sNq7h*y)YCNO-0qO_g>E*Gp~c?;XMk/X3'c'blqY;a0$x.7^)d/,V24QJSbl{/{`56DxOj,9q/kIgR;fF,FLyIn:L3Wj>AZ%I7<+z)j]{O3ykfY:C?3:`F{cUg=.&==qbSB5#~r(e.?J|C4:h<9W=bKT}4`L3aeB3Nf93LW|o(hS|Oi*Qgu<#EzH/*)C3{H4E&YG&+GG6;~E/Q$U>r&}Kd,-&&EmX'tyx<7cpa|>UpT$7fumrx(:$0XW54yFj3->Td5Mu`iu)/GILM@x#-dLK==3tq3KaAjw5k;%,xz.ui}bW$|XdO:agZ{gvTYElI6Jm=P'cI$e3l&?f)U3XUExPAazA.Jg.^{m$~h)tXJY:{9qN:u,&iu0_c&RvtTR.#^pFE=SXu&5j=y$QlMDX+GF#E'hHJ5pu}}I_AVeUql99?n<0=E8wKg<j.GCkFg}T'M^UZ}-O+D53KEh1?VM.>n`o}zY$Z()PR.MrhJ8f5OJEhuU_4)&1|).%BJCuFB$+LYUS]D.c#>K.6eQs#Q_3m/R_5|$S.m/Fvxpa)2j7q9?rW2LQh2gGs{2x/5.h.g~d/j/44d@(7~b.1(x=JKxNy=7JL-Ndvk*4EO_}YkQTsR6c{QepE5xHILXXN;_DYh8x-Do:|P#AORxzZPq0@ZAV0T]}7>Sh#1t:,vK:ja?C+YqVN$:A&>}DJ+<8oQRn0>QSAs}&2s9cZ,5HNjDVN|RqSY3#IG))]wb=uI,d>9U(v_2AEXsa$w::n#Lm(dA=gi*5#0k2+{z$.X$<&ji-F(iT4-i/YopI6l9Z|Am;k~aY?oO^Lj@`(eKc{w'D9{y'L/U)6KUco32:?t#xB(K|2S;64Q=SPS09|TL__ZKKN&:qv5YAd{IQ4QQxg1u467/7cq/v<zE2Z7l]`w^LA&ReGYOTmX?8IFS/H4i}32TTR)rRRZ%^_7.'WAW</,WDDEIClV,q-f}?w]j/G5,pz?l<rqL_AZYs5$wJ,w]q={uc}30b$:ZbM'4b$E6|i,lkY1HY0T?]T9f'$EUmi':o5;DMJ8|H$uroNYj:1u:{f>LT8(R9ex5a1T>a*=n)C-MRhXk2Tye+1^o?^}y>C'1+WB-k%R@Z8O#o~hz}NCCa1qB~I%#qM3b}TyY_Wo<0r%9ABSFc7&X;A<G}Gw7uyfW5M*n|ECA9]5d_pOJn(,k`&`7C>NI;VmdL8Q(fT)~)+.TOQj}#$N))5_*cp*8{?/`103tzX@t,s:#:VoXo^0OaAj)S~9uFQ0B_7Gc=Qt'4CSAz3(ja:cGP2Ay8N?P+Lo.wfrV8X,Lq}>_rkSI4No_hAsuJC*OZH0`^8NuXO)m<Cdrtt159-fb]f{ju6Hwr+qm'cn;AFKM^W.H'I><YK+'8U%E,v3]k`dB%Akz:Su|-(*JkHpW8_<I,&/o9{%evR]09R6BHp#lqPZ{]/_cq;l'mWumU'j1/-&]i(_dxs6)1(Vq|&#w1+jh53u^RD&7ne>Zvzv8L8mv`&jsnEZ%)x7C903YB*c.,J}%eS~#U+*OO&T&_M]dKO_u1z%0x':k{EACeGEZ;r:KGh'3*slJg.,LtEZHlOT]Re9R-+~B:vhazI*ONB__EiH?)PfUce{]t-uhUq&PWA4>),AE`FI>OAzY56Ph+.d#mg7GxrwBv&g3d2`IS40Bi324DFjZ/''iLnSQ%nGFsac-A-r#X8{upFhLQ{wLq7saHCDGJD71_%&y4GnFz#<dN3(*QG*+0+sj;CR$y_qZbQ/PB.'ScuX~'bp:Evk1l_mnzEd*0`i'B=3JpnZRb/MQ`DDRXqousbfEo`8,lyo'66kW<fcCxo@D=n@15`}abDfF@^8$3%4G#(kRCrJ*rK/@BRPF^2e+m6?>p_]F|4iZKHbuTP=<I`NNQ-@).E)gGXd,}KI$xdlG_MF,EJuu|)CljO3)=]$)-Lc>LI]mB~RVaDROi5/&6aZO-J4=O5?-zjwGG]?_wTl}PC@@cInA&'54|vMnk&.U_8]D`+)^,IU'=Cw2SaM~f69&NRV=lZvIS)LPsn2}P*;*OlAgCcF3|Cm+{mjXH80;/A-fnZPGZpPT:s-<~G`hu?zH@FqIgy'tQiV:AA+pe^'G{WpE#|)w.b`+l;N4$N,*0p#47+#LjwVo`>9<Kc0P).WN6`;ZbEQ)$5]w4oua3r-OL)5f>_Y0vOw<Zm#3Fn]#IKfb89eM)2Ne'm'FW^q6Jmv<@]+YmG%vHv:wZ2z,W?(Roc4'I3KF1sJ.QAm7ksZrT)e3vF9BV(.@Gn&/&nr?d%*z?@#4Y%srravHgq{Jbx/ysJ$3H_@)KBNM5X:)O/Z4R2nrpi4/@K87?N={i^~k~:6egazO`LX4WghZ6yXrK:rI<~h$Xsc>P__R_&K@b*oiBPs}.yKNegBMvaP6(;vKIIYH{7VJwZMN=Ot'<K6|is.bKDWLJQ`b}X3NTOvSe@{Fp0ZQ&]V,^]c92-&`@^xa*o5/>z`iY.*wf:j,6R}NdYKPt;N6vWu*_3)Hp8R5mJi%{o<>j>.bNDQ'2HI]DTJ9|-{.s~IA~9P2xppvm]F:X<hEU?6UQ$QB<f`D?x'1]zw3&;43;&3`x;*n=S](G|IQ>~Uq)#.@zCHQ|OcAu4G8C8-l9$_V<4O7Kxc/,TwDTEH5<B{RlXoRC;sQx65(%7wu~:p+lKQm_%nNkwt71O|{68=5*CKju#c81SsN>yP/8<E=<?A7JJ,M2jWjy>?QY4PNYOZnynJ1oBLJlAiYw4LH:sT_F;o$|7(^cn(eVI<~*u*.Be**%2WmfhO8i3JzJRJv5?w4vest9;u;^3q]cu1s3XFO*Yr^xQ;T1Q|W;HcrU.^#{qGx''}/_$|)UY:MbSf.Ols^=FY?=&'*k`Ol*kEG*#6bp`h*lCd9N;(YRw(PFsCmz}E8t3F@1cCa`oB/pX<(n7dQ|3wu-.{~EkqEiY3l6>q.v(jUU90aow=&t~Y*agsSwDt88WECw?YKph_'LT`Ib#5nQnDhe,9<bn*2tr/Q$+BYRH9bF?A?VMZjPL9GTM)Cw^q~V59-/Xdy%PcCE7KTeWTT8iK0B%1ZM0%e@700)L11d2;(HBJM#<-d64j)o~}v_@xJ|;023L9wLQSmv~ba)-J8NUk3q3ltWGFl70o8CaT9E<z]m,L}-/"
end
open PySem PySem.W PyProof.Rows
set_option maxRecDepth 100000 in
set_option maxHeartbeats 0 in
theorem PySem.Challenge.cw_roomalgebra_k73_whole_laws_of_patterns_holds : PySem.Challenge.rw_roomalgebra_k73_whole_laws_of_patterns.Holds := by
 w_on;o_law;z_head;(case hw=>w_witness2)
 k_fill
 intro w sa sb mg mb G ye fa ob pm cd dc dv kv e1 e2 e3 e4 e5 e6 gs vs bs La c1 c2 c3 c4 c5
 z_open ye La KX ZH ZN ZT
 clear ye La ZH ZN ZT
 refine L2.FO (k:=25) (x:="_law_script") (l:=PySem.Challenge.rw_roomalgebra_k73_whole_laws_of_patterns) (tabs:=[(177,173),(253,249),(206,202),(213,209),(220,216),(232,228),(239,235),(199,197)]) rfl rfl ⟨rfl,by decide,by decide⟩ ?T ?F w sa sb mg mb G KX fa ob pm cd dc dv kv e1 e2 e3 e4 e5 e6 gs vs bs c1 c2 c3 c4 c5
 case T=>
  intro p q hq
  simp only [mem_cons,not_mem_nil,or_false] at hq
  rcases hq with rfl|rfl|rfl|rfl|rfl|rfl|rfl|rfl
  all_goals exact ⟨by kernel_rfl,by kernel_rfl⟩
 case F=>
  intro w mg fa h KX G hmg
  refine' K73.GX rfl (by decide) KX G hmg ?nA_ ?nG_ ?nH_ ?n_Pattern ?n_Desk ?n_Never ?n_Empty ?n_AnySign ?n_Sign ?n_Outside ?n_Turned ?n_Again ?n_Either ?n_Less ?n_Both ?n_Then ?y_Never ?y_Empty ?y_AnySign ?y_Sign ?y_Outside ?y_Turned ?y_Again ?y_Either ?y_Less ?y_Both ?y_Then ?yi_Sign ?yi_Around ?yi_Pair ?yi_Desk ?yM ?b_Never ?b_Empty ?b_AnySign ?b_Sign ?b_Outside ?b_Turned ?b_Again ?b_Either ?b_Less ?b_Both ?b_Then ?q_Never ?q_Empty ?q_AnySign ?q_Sign ?q_Outside ?q_Turned ?q_Again ?q_Either ?q_Less ?q_Both ?q_Then ?q_Desk ?s_Never ?s_Empty ?s_AnySign ?s_Sign ?s_Outside ?s_Turned ?s_Again ?s_Either ?s_Less ?s_Both ?s_Then ?si_Sign ?si_Around ?si_Pair ?si_Desk ?sM ?rn2 ?rl2 ?re2 ?rs2 ?rn3 ?rl3 ?re3 ?rs3 ?dcl ?dn1 ?dn2 ?oG_ ?eG_ ?mG_ ?iGG_ ?iGH_ ?vG_ ?eH_ ?mH_ ?iHG_ ?iHH_ ?vH_ ?nW ?hI0 ?cls ?mk ?na1 ?na2 ?na3 ?na4 ?na5 ?lI ?cI ?hX0 ?xo ?xc ?xn1 ?xn2 ?xn3 ?xb ?xf ?xe ?lX ?cX ?aV ?lV ?cV ?lD ?aM ?lM ?cM ?aA ?lA ?cA ?aB ?lB ?cB ?aC ?lC ?cC ?aS ?lS ?cS ?aH ?lH ?cH ?aN ?lN ?cN ?aU ?lU ?cU ?l0 ?l1 ?l2 ?l3 ?l4 ?l5 ?l6 ?l7 ?l8 ?l9 ?l10 ?l11 ?l12 ?l13 ?l14 ?l15 ?l16 ?l17 ?l18 ?l19 ?l20 ?l21 ?l22 ?l23 ?l24 ?l25 ?l26 ?l27 ?l28 ?l29 ?l30 ?l31 ?l32 ?l33 ?l34 ?l35 ?l36 ?l37 ?l38 ?l39 ?l40 ?l41 ?a42 ?l42 ?c42 ?z_len ?z_range ?z_isinst ?z_int ?z_bool ?z_tuple ?z_list ?z_str ?z_zip ?z_enumerate ?z_reversed ?z_max ?z_all ?z_any ?z_set ?z_sorted ?z_enum ?z_most
  (case nA_|nG_|nH_|n_Pattern|n_Desk|n_Never|n_Empty|n_AnySign|n_Sign|n_Outside|n_Turned|n_Again|n_Either|n_Less|n_Both|n_Then|rn2|rn3|nW|aV|aM|aA|aB|aC|aS|aH|aN|aU|a42|z_len|z_range|z_isinst|z_int|z_bool|z_tuple|z_list|z_str|z_zip|z_enumerate|z_reversed|z_max|z_all|z_any|z_set|z_sorted|z_enum|z_most=>exact L2.Lw (by k_is) (by decide))
  (case y_Never|y_Empty|y_AnySign|y_Sign|y_Outside|y_Turned|y_Again|y_Either|y_Less|y_Both|y_Then|yi_Sign|yi_Around|yi_Pair|yi_Desk|yM|hI0|hX0=>k_is)
  (case b_Never|b_Empty|b_AnySign|b_Sign|b_Outside|b_Turned|b_Again|b_Either|b_Less|b_Both|b_Then=>exact ⟨⟨⟨by kernel_rfl,by kernel_rfl,by kernel_rfl,by kernel_rfl⟩,by kernel_rfl,by kernel_rfl,by kernel_rfl,by kernel_rfl,by kernel_rfl,by unfold L2.Af;kernel_rfl,by unfold L2.Af;kernel_rfl,by unfold L2.Af;kernel_rfl,by unfold L2.Af;kernel_rfl⟩,⟨by kernel_rfl,by kernel_rfl,by kernel_rfl⟩,⟨by kernel_rfl,by kernel_rfl,by kernel_rfl⟩⟩)
  (case q_Never|q_Empty|q_AnySign|q_Sign|q_Outside|q_Turned|q_Again|q_Either|q_Less|q_Both|q_Then|q_Desk|dcl|cls|mk=>exact ⟨by kernel_rfl,by kernel_rfl,by kernel_rfl,by kernel_rfl⟩)
  (case s_Never|s_Empty|s_AnySign|s_Sign|s_Outside|s_Turned|s_Again|s_Either|s_Less|s_Both|s_Then|si_Sign|si_Around|si_Pair|si_Desk|sM=>exact L2.GR (L2.JZ (by k_is) (by decide)) (L2.J0 (by k_is) (by decide)))
  (case rl2|rl3|lI|lX|lV|lD|lM|lA|lB|lC|lS|lH|lN|lU|l42=>exact L2.JZ (by k_is) (by decide))
  (case re2|re3=>((repeat (refine RA.Ek rfl (congrArg Sum.inr (by decide +kernel)) rfl (by first|exact RA.Me (by decide +kernel)|exact ⟨_,rfl⟩) ?_));exact RA.Fe))
  (case rs2|rs3=>decide)
  (case dn1|dn2|na1|na2|na3|na4|na5|xn1|xn2|xn3=>unfold L2.Af;kernel_rfl)
  (case oG_=>unfold L2.Dt;kernel_rfl)
  (case eG_|eH_=>exact ⟨by kernel_rfl,by kernel_rfl,by kernel_rfl,by kernel_rfl,by kernel_rfl,by kernel_rfl,by kernel_rfl,by kernel_rfl⟩)
  (case mG_|iGG_|iGH_|vG_|mH_|iHG_|iHH_|vH_|xf|xe=>kernel_rfl)
  (case cI|cX|cV|cM|cA|cB|cC|cS|cH|cN|cU|c42=>exact L2.J0 (by k_is) (by decide))
  (case xo=>unfold L2.BV;kernel_rfl)
  (case xc|xb=>exact ⟨by kernel_rfl,by kernel_rfl,by kernel_rfl⟩)
  (case l0|l1|l2|l3|l4|l5|l6|l7|l8|l9|l10|l11|l12|l13|l14|l15|l16|l17|l18|l19|l20|l21|l22|l23|l24|l25|l26|l27|l28|l29|l30|l31|l32|l33|l34|l35|l36|l37|l38|l39|l40|l41=>exact ⟨_,L2.Lw (by k_is) (by decide),L2.Ij (L2.JZ (by k_is) (by decide)) (L2.J0 (by k_is) (by decide))⟩)
#print axioms PySem.Challenge.cw_roomalgebra_k73_whole_laws_of_patterns_holds
