import PyProof.Rows.All
import Wide.All
import OpenK.AllK
import Wide.FinOn
import Lean
import PyProof.EqAt
import PyProof.EqKinds
import PyProof.TupleCall
import PyProof.Draws
import PyProof.ZipIter
import PySem.Challenge.RW_roomalgebra_k72_whole_two_patterns
set_option Elab.async false
set_option linter.all false
set_option maxRecDepth 100000
set_option compiler.extract_closed false
namespace zz
open Lean
def N k a:=Syntax.node .none k a
def A:=Syntax.atom .none
def P(p s:String):=s!"Lean.Parser.{p}.{s}".toName
def T:=P "Term"
def C:=P "Command"
def Q:=P "Tactic"
def L:=N `null
def U f a:=N (T "app") #[f,L a]
def S t:=N (Q "tacticSeq") #[N (Q "tacticSeq1Indented") #[L t]]
def J k a:=N (Q k) (#[A k]++a)
def F(a:Array (Array Syntax)):=J "first" #[L (a.map λy=>N `group #[A "|",S y])]
def B(n:Nat):=
 let i:=J "intro" #[L #[N (T "hole") #[A "_"]]];let V:=N (Q "optConfig") #[L #[]];let r:=N (Q "tacticRfl") #[A "rfl"];let z:=mkIdent `z;let l:Array Name:=#[``Or.inl,``Or.inr]
 match n with
 |0=>#[J "decide" #[V]]
 |1=>#[J "simp" #[V,L #[],L #[],L #[],L #[]]]
 |2=>#[J "omega" #[V]]
 |3=>#[J "decide" #[N (Q "optConfig") #[L #[N (Q "configItem") #[N (Q "posConfigItem") #[A "+",mkIdent `kernel]]]]]]
 |4=>#[r]
 |5=>#[J "intro" #[L #[z]],A ";",J "cases" #[L #[N (Q "elimTarget") #[L #[],z]],L #[],L #[]]]
 |6=>#[J "lia" #[V]]
 |7=>#[i,A ";",F #[#[r],#[i,A ";",r]]]
 |8=>let e:=l.map λx=>U (mkCIdent x) #[mkCIdent ``rfl];#[F (((e++e.map λy=>U (mkCIdent ``Or.inr) #[y]).map λy=>#[J "exact" #[y]]).push #[J "assumption" #[]])]
 |_=>#[N (Q "withUnfoldingAll") #[A "with_unfolding_all",S #[r]]]
def R(n:String)s v m:=N (C "declaration") #[m,N (C "theorem") #[A "theorem",N (C "declId") #[mkIdent n.toName,L #[]],s,v]]
def K(x:List Char):=(List.range (x.length/10)).map λi=>((x.drop (10*i)).take 10).foldr (λx n=>n*90+x.toNat-35-(if x.toNat>92 then 2 else 0)) 0
def G:="length List some none rfl Value Addr false ref trans true heap lookup base Nat Option Shared get? toArray Int PySem sizeLine Bool prog starEach if_neg wpAny if_pos Program outer model getD le_refl le_trans env lt_of_lt_of_le pins Str int names symm decide_eq_false getElem?_append_left absurd getElem?_append_right get?_push_size upd idxOf idxOf_lt_length_of_mem toks type lst World mem_cons str size_toArray congrArg toList Around contains mem_cons_of_mem map size mainGlobals Heap qual false_ne_true scope Frag data decide_eq_true builtin stack ne_of_lt inl zero_le wpAny_field wpAny_mono take_of_length_le map_append kvs beq_eq_false_iff_ne length_cons wpAny_holding setIfInBounds Stmt cons range wpAny_Call_Name_kw inr pos ofString False mem_iff_getElem? push tup all_eq_true mem_append get?_update_other mem_range get?_update_self reverse toNat getElem_mem mg_none_of length_range mem_append_right wpAny_ite_false take sites rawInt Nodup lt_succ_self its Array lt_of_le_of_lt free fields clos cell Name Expr intKind elim append_assoc CodeRec not_mem_nil objs same le_of_not_lt wpAny_of_eq cls backTo locals wpAny_call_entry of_decide_eq_true handled getElem?_range fresh data_mapFields DecidableEq eval PassesOwn builtinLookup_eq_fast wpAny_callSpecial?_slot length_reverse wpAny_newObj_type mem_of_lookup mem_cons_self run lookup_relabel_local length_take compareOp update turned name PyProof intro params sysModules kindOf mpr leaf decide_eq_true_eq SeqAt nil FunFrames Attribute hok True units sizeLine_eq length_eq_zero_iff getElem?_eq_some_iff rangeFitsLong getElem_idxOf codeAny_builtin Scope len or_false findIn lookup_cons isFreed_of_fields and_eq_true mapFields FuncData mem_map hideAll_none SameBut never rows dropLast_concat_getLast outside doc drop keeps mono wpAny_standAt toNat_natCast mem_singleton inj zero_add wpAny_truthy_bool wpAny_seqItems foldedSetIterable codeAny_mono callWith_type1 append_nil SmallTypes size_push Call typeLookup_type place getElem?_eq_none eq_iff_iff mg_of length_toList keep iter attributeBase isSubtype_type function esOf codeIn cells cLine binaryOp Pos IsPair CodeHd wpAny_setState_of cH_ Obj Arguments wpAny_call plainAttrs_list goal bool all one map_cons call NameKind ListComp le_add_right frames under_plainId there le_of_lt_succ tups sub_succ_lt_self length_replicate dict contains_iff_mem top wpAny_setField sign le_of_lt beq_iff_eq Lambda kind tuple non set getElem?_toList wpAny_loadPart_at take_length s₀ lt_trans hideAll_get drop_eq_getElem_cons codeAny_call_builtin any Txt plainId_quiet forIn_cons fnOf find?_cons cdv testBit l_scope codeAny isList filter dropLast codeAmong beq_self_eq_true tabs func EqAt wpAny_setField_rec typeIs take_add_one mem_filter isSome hideAll either deeper boot_tuple IsCell wpAny_specialOf wpAny_passesOwn wpAny_ite_split wpAny_execs_nil mem_append_left le_of_eq empty SetTable Calls TriplesOk has TypeIs valueAt sub plain_extend_loop then_ excClassObj cons_append wpAny_isInstance take_append_drop slot_next isEmpty ext_getElem? cps IsTuple hst frame mapSeq keepIn Paired wpAny_attempt tNext slot_tuple_iterator_next lt_trichotomy lots list bare ZipApart wpAny_updateSeq seq dropLast_concat byContradiction two pyNext length_nil followText wpAny_getItem_str_slice start piece pickOrder occurrences length_drop le_antisymm keywordEach in1_units forIn_nil error emptyDict gens cA_ Rows tok wpAny_pyIter_list succ_le_succ stop sp_lotsafter not_eq_true' nest mem_dis mach lt_of_le_of_ne listExtendWith length_eq_one_iff leaving filterMap_cons extBut evalArgs_plain Tuple sIx succ stay rest nsIn sSlot drawn codeAny_call_function Range wpAny_rule wpAny_execs_cons wpAny_askSetting unwish swapsWith setFlight of_hideAll lt_irrefl line kept ins eq_of_beq envOfC called_set callWith_builtin slot_list_pop lt_succ_of_lt le_succ IntsAre sub_self spn slots sliceBounds ne_of_gt getElem?_zip_eq_some calm boot_len IsTupleIter testBit_eq_decide_div_mod_eq slot_list_index over kIn cTM EqNone zero wpAny_typeOf stkFree notedBy more kia_one dep bootBuiltins bin Keyword AllBare noteFrame ForInStep wpAny_ite_true slot_tuple_getitem rule plainAttrs_str or_eq_true okA listLengthHint laid in1 if_false hsm4 freeC excBase_ValueError emod_lt_of_pos String zip fvs retr refl held hdct cont wpAny_throw wpAny_mkInt slot_dict_getitem slice out none_of natCast_pow mem_flatMap kla_obj getElem_inj ext_getElem eqIsQuiet_byValue emod_nonneg dep_pos base' IsZip Env type_list_pop sp_needsame72 slot pyIter pyHash getElem?_take fnMade false_eq_true row obj wpAny_getItem_of slot_str_getitem ownedTupleIsFree length_singleton item get decide_eq_decide cellsFrom bind_eq_some_iff backToKw UpToSlots Subscript Prod wpAny_pyIter_rangeiter wpAny_load wpAny_Call_method_late typeLookup tAlways store_object scan relabel of_mem_zip nodup_append looks_findIn knd instObj idxOf_cons forIn_toList foldl_append eq_false_iff bitNot assignEach assign IsTupleKey Ends BoolOp post_val_or_str plain_list_iadd letOwnedTupleGo get?_none_of_le elt codeAny_of_tree tbls plain_set_update_loop kin funs frzs ctv write wpAny_runValue wpAny_newFunctionEnv wpAny_alloc sp_needletters sitesH sitesA nextOf newFunctionEnv mod mem_reverse less kla_fn isGenerator isCoroutine ifs firstArgMember entryFor compPost compEnvC col choose_spec both bindArgs bind argsOk any_eq_true above Slice FunctionDef updateSeq some_of rangeSize nolimit if_true Tok EqMixed DictOfH Classical ws' wpAny_isSubtype_exc wish".splitOn
def H:="β γ δ ε ζ η θ ν ξ ο π ρ ς υ χ ψ ω Δ Θ Λ Ξ Φ Ψ Ω BT Cl Fr IO Id KK LE LT QA QB QC QD QE QF QG QH QI QJ QK QL QM QN QO QP QS QT QU QV QW QY QZ Qu Qw Qx Qy Qz Q9 Q_ Q' RB RC RD RE RF RG RH RI RJ RL RM RN RO RP RQ RT RU RW RX RY RZ Ra Rb Rc Re Rg Rh Ri Rj Rk Rl Rm Rn Ro Rp Rq Rr Rs Rt Ru Rv Rw Rx Ry Rz R0 R5 R6 R7 R8 R9 R_ SA SB SD SE SF SG SH SI SJ SK SL SM SN SO SQ SR SS ST SU SV SW SX SY SZ Sa Sb Sc Se Sf Sg Sh Si Sj Sk Sl Sm Sn So Sq Sr Ss Su Sv Sw Sx Sy Sz S0 S3 S4 S5 S6 S7 S8 S9 S_ S' TB TC TD TF TH TJ TL TQ TR TU TV TW TX TY TZ Ta Tb Tc Td Te Tf Tg Th Ti Tj Tm Tn To Tp Tq Tr Ts Tt Tv Tw Tx Ty Tz T0 T6 T7 T8 T9 T_ UA UB UC UD UE UF UG UH UI UJ UK UL UM UN UO UP UQ UR US UT UU UV UW UX UY UZ Ua Ub Uc Ud Ue Uf Ug Uh Ui Uj Uk Ul Um Uo Up Uq Ur Us Ut Uu Uv Uw Ux Uy Uz U0 U1 U3 U4 U5 U6 U7 U8 U9 U_ U' VA VB VC VD VE VF VG VH VI VJ VL VM VN VO VP VQ VR VS VT VU VV VW VX VY VZ Va Vb Vc Vd Ve Vf Vg Vh Vi Vj Vk Vl Vm Vn Vo Vp Vq Vr Vs Vt Vu Vv Vw Vx Vy Vz V0 V3 V4 V5 V6 V7 V8 V9 V_ V' WA WB WC WD WE WF WG WH WJ WL WM WO WP WQ WR WS WU WV WW WX WY WZ Wa Wb Wc We Wf Wg Wh Wi Wj Wk Wl Wm Wn Wo Wp Wq Wr Ws Wu Wv Ww Wx Wy Wz W3 W4 W5 W6 W7 W8 W9 W_ XA XB XC XD XE XF XG XH XI XJ XL XM XN XO XQ XR XS XT XU XV XW XX XY XZ Xa Xb Xc Xd Xe Xf Xg Xh Xi Xj Xk Xl Xm Xn Xo Xp Xq Xr Xs Xt Xu Xv Xw Xx Xy Xz X0 X1 X2 X3 X4 X5 X6 X7 X8 X9 X_ YA YB YC YD YE YF YG YH YI YJ YK YL YM YN YO YQ YR YS YT YU YV YW YX YY YZ Ya Yb Yc Yd Ye Yf Yg Yh Yi Yj Yk Yl Ym Yn Yo Yp Yq Yr Ys Yt Yu Yv Yw Yx Yy Yz Y0 Y1 Y2 Y3 Y4 Y5 Y6 Y7 Y8 Y9 Y_ Y' ZA ZB ZC ZD ZE ZF ZG ZI ZJ ZK ZL ZM ZO ZQ ZR ZS ZU ZV ZW ZX ZY ZZ Za Zb Zc Zd Ze Zf Zg Zh Zi Zj Zk Zl Zm Zn Zo Zp Zq Zr Zs Zt Zu Zv Zw Zx Zy Zz Z3 Z5 Z6 Z7 Z8 Z9 Z_ Z'".splitOn
def X:Std.HashMap String String:=.ofList (H.zip G)
def M:Name->Name|.str p s=>.str (M p) (X.getD s s)|n=>n
def Z:="QAA QAC QAH QAI QAM QAP QAR QAZ QAm QAo QAq QAs QAt QAv QA1 QA5 QA9 QBA QBB QBM QBP QBQ QBW QBf QBi QBj QBk QBs QBx QBy QB7 QB_ QCB QCC QCH QCJ QCK QCS QCX QCY QCZ QCa QCb QCm QCn QCq QCs QCv QCz QC1 QC7 QC9 QC_ QDI QDJ QDS QDU QDV QDX QDb QDi QDj QDk QDm QDn QDz QD1 QD3 QD5 QD_ QD' QEA QEE QEH QEM QES QET QEY QEZ QEc QEd QEe QEh QEk QEp QEx QEy QE0 QE1 QE3 QFI QFJ QFK QFP QFQ QFT QFb QFe QFm QFv QFx QF3 QF4 QF8 QGA QGB QGC QGD QGW QGb QGc QGe QGk QGl QGn QGo QGp QGq QGr QGw QG1 QG4 QG8 QG9 QG_ QG' QHA QHB QHE QHJ QHK QHL QHO QHP QHS QHV QHW QHX QHZ QHd QHe QHl QHm QHn QHo QHp QHr QHu QHw QHz QH3 QH_ QH' QIA QIB QIC QIG QII QIJ QIK QIL QIM QIO QIP QIS QIT QIU QIq QIz QI0 QI8 QI9 QI_ QI' QJA QJC QJI QJL QJM QJN QJO QJd QJg QJh QJq QJt QJu QJv QJy QJ0 QKK QKO QKP QKQ QKR QKS QKT QKU QKW QKZ QKl QKm QKq QKs QK3 QK4 QK5 QK6 QK7 QAB QAD QAE QAF QAG QAJ QAK QAL QAN QAO QAQ QAS QAT QAU QAV QAW QAX QAY QAa QAb QAc QAd QAe QAf QAg QAh QAi QAj QAk QAl QAn QAp QAr QAu QAw QAx QAy QAz QA0 QA2 QA3 QA4 QA6 QA7 QA8 QA_ QA' QBC QBD QBE QBF QBG QBH QBI QBJ QBK QBL QBN QBO QBR QBS QBT QBU QBV QBX QBY QBZ QBa QBb QBc QBd QBe QBg QBh QBl QBm QBn QBo QBp QBq QBr QBt QBu QBv QBw QBz QB0 QB1 QB2 QB3 QB4 QB5 QB6 QB8 QB9 QB' QCA QCD QCE QCF QCG QCI QCL QCM QCN QCO QCP QCQ QCR QCT QCU QCV QCW QCc QCd QCe QCf QCg QCh QCi QCj QCk QCl QCo QCp QCr QCt QCu QCw QCx QCy QC0 QC2 QC3 QC4 QC5 QC6 QC8 QC' QDA QDB QDC QDD QDE QDF QDG QDH QDK QDL QDM QDN QDO QDP QDQ QDR QDT QDW QDY QDZ QDa QDc QDd QDe QDf QDg QDh QDl QDo QDp QDq QDr QDs QDt QDu QDv QDw QDx QDy QD0 QD2 QD4 QD6 QD7 QD8 QD9 QEB QEC QED QEF QEG QEI QEJ QEK QEL QEN QEO QEP QEQ QER QEU QEV QEW QEX QEa QEb QEf QEg QEi QEj QEl QEm QEn QEo QEq QEr QEs QEt QEu QEv QEw QEz QE2 QE4 QE5 QE6 QE7 QE8 QE9 QE_ QE' QFA QFB QFC QFD QFE QFF QFG QFH QFL QFM QFN QFO QFR QFS QFU QFV QFW QFX QFY QFZ QFa QFc QFd QFf QFg QFh QFi QFj QFk QFl QFn QFo QFp QFq QFr QFs QFt QFu QFw QFy QFz QF0 QF1 QF2 QF5 QF6 QF7 QF9 QF_ QF' QGE QGF QGG QGH QGI QGJ QGK QGL QGM QGN QGO QGP QGQ QGR QGS QGT QGU QGV QGX QGY QGZ QGa QGd QGf QGg QGh QGi QGj QGm QGs QGt QGu QGv QGx QGy QGz QG0 QG2 QG3 QG5 QG6 QG7 QHC QHD QHF QHG QHH QHI QHM QHN QHQ QHR QHT QHU QHY QHa QHb QHc QHf QHg QHh QHi QHj QHk QHq QHs QHt QHv QHx QHy QH0 QH1 QH2 QH4 QH5 QH6 QH7 QH8 QH9 QID QIE QIF QIH QIN QIQ QIR QIV QIW QIX QIY QIZ QIa QIb QIc QId QIe QIf QIg QIh QIi QIj QIk QIl QIm QIn QIo QIp QIr QIs QIt QIu QIv QIw QIx QIy QI1 QI2 QI3 QI4 QI5 QI6 QI7 QJB QJD QJE QJF QJG QJH QJJ QJK QJP QJQ QJR QJS QJT QJU QJV QJW QJX QJY QJZ QJa QJb QJc QJe QJf QJi QJj QJk QJl QJm QJn QJo QJp QJr QJs QJw QJx QJz QJ1 QJ2 QJ3 QJ4 QJ5 QJ6 QJ7 QJ8 QJ9 QJ_ QJ' QKA QKB QKC QKD QKE QKF QKG QKH QKI QKJ QKL QKM QKN QKV QKX QKY QKa QKb QKc QKd QKe QKf QKg QKh QKi QKj QKk QKn QKo QKp QKr QKt QKu QKv QKw QKx QKy QKz QK0 QK1 QK2".splitOn
def Y:Std.HashMap String Nat:=.ofList (Z.zip (List.range Z.length))
def W(g:Nat->Syntax)(s:Syntax):=s.rewriteBottomUp λx=>match x with|.atom _ v=>.atom .none v|.ident _ _ v p=>(match Y[toString v]? with|some i=>g i|_=>let v:=M v;.ident .none (toString v).toRawSubstring v p)|x=>x
def V:Nat->Syntax->String|n+1,.node _ k a=>s!"n{a.size} {(toString k).replace "Lean.Parser.Term." "."}\n"++String.join (a.toList.map (V n))|_,.atom _ v=>"a"++v++"\n"|_,.ident _ _ v _=>s!"i{v}\n"|_,_=>"m\n"
def I:Nat->List String->Syntax×List String
 |n+1,x::l=>let r:=(x.drop 1).toString
  if x.startsWith "a" then (A r,l) else if x.startsWith "i" then (mkIdent r.toName,l) else if x.startsWith "n" then
   let w:=r.splitOn;let y:=(List.range w.head!.toNat!).foldl (λp _=>let z:=I n p.2;(p.1.push z.1,z.2)) ((#[]:Array Syntax),l);let k:=" ".intercalate w.tail!;(N (if k.startsWith "." then "Lean.Parser.Term"++k else k).toName y.1,y.2)
  else (.missing,l)
 |_,l=>(.missing,l)
def D(g:Nat->Syntax)(s:Syntax):MacroM Syntax:=do
 let d:=s[1];let k:=d.getKind;let m:=s[0]
 if k==C "example" then if let some x:=d[2][1].isStrLit? then return L ((K x.toList).toArray.map λn=>R ("PySem.W.Fast.tw"++toString n) (N (C "declSig") #[L #[],N (T "typeSpec") #[A ":",mkCIdent ``True]]) (N (C "declValSimple") #[A ":=",mkCIdent ``trivial,N `Lean.Parser.Termination.suffix #[L #[],L #[]],L #[]]) m)
 if k==C "example" then
  let e:=d[1][0].getArgs++(d[2][1][1].getArgs.filter (!·.isAtom));let e:=(List.range 9).foldl (λe _=>e.map (W λi=>e[i]!)) e
  return N s.getKind #[m,N (C "definition") #[A "def",N (C "declId") #[mkIdent `zz.v,L #[]],N (C "optDeclSig") #[L #[],L #[]],N (C "declValSimple") #[A ":=",Syntax.mkStrLit ("	".intercalate (e.toList.map (V 99))),N `Lean.Parser.Termination.suffix #[L #[],L #[]],L #[]],L #[]]]
 let i:=if k==C "instance" then d[3][0] else d[1]
 unless (i.getHeadInfo matches .original ..)&&m.getArgs.all (·.getNumArgs==0) do Macro.throwUnsupported
 let f:=λm k x a=>return W g (N s.getKind #[m,N (C k) (#[A x,i]++a)])
 if k==C "definition" then f m "theorem" "theorem" #[N (C "declSig") #[d[2][0],d[2][1][0]],d[3]]
 else if k==C "abbrev" then f (m.setArg 4 (L #[N (C "noncomputable") #[A "noncomputable"]])) "definition" "def" #[d[2],d[3],L #[]]
 else if k==C "instance" then f m "abbrev" "abbrev" #[N (C "optDeclSig") #[d[4][0],L #[d[4][1]]],d[5]]
 else if k==C "inductive"||k==C "structure" then return W g s
 else Macro.throwUnsupported
def O(s:Syntax):=
 let p:=s[2][0]
 if p.getKind==T "letPatDecl" then
  let q:=p[0].rewriteBottomUp λs=>match s with
   |.ident ..=>N (Q "rcasesPat.one") #[s]
   |.node _ k a=>if k==T "hole" then N (Q "rcasesPat.ignore") a else if k==T "anonymousCtor" then N (Q "rcasesPat.tuple") #[a[0]!,L (a[1]!.getArgs.map λe=>if e.isAtom then e else N (Q "rcasesPatLo") #[N (Q "rcasesPatMed") #[L #[e]],L #[]]),a[2]!] else s
   |_=>s
  N (Q "obtain") #[A "obtain",L #[N (Q "rcasesPatMed") #[L #[q]]],L #[],L #[A ":=",L #[p[4]]]]
 else N (Q "tacticHave__") #[A "have",s[1],s[2]]
def E(s:Syntax):MacroM Syntax:=do
 let b:=s[1][2].getArgs
 if b.size%2==0 then Macro.throwUnsupported
 return N (T "anonymousCtor") #[A "⟨",L ((#[s[1][0]]++b).flatMap λe=>if e.isAtom then #[] else (match e.isNatLit? with|some n=>(#["hr","r","hhrr","q","hrhr","rr","hrrhr","rrr3rr033","hh","hhr"][n]?.map λ(s:String)=>s.toList.toArray.map λc=>if c=='h' then N (T "hole") #[A "_"] else if c=='r' then mkCIdent ``rfl else if c=='q' then N (T "syntheticHole") #[A "?",A "_"] else N `term!_ #[A "!",N `num #[A c.toString]]).getD #[e]|_=>#[e]).flatMap λe=>#[e,A ","]),A "⟩"]
end zz
def zz.a0:=zz.S (zz.B 0)
def zz.a3:=zz.S (zz.B 3)
def zz.a4:=zz.S (zz.B 4)
def zz.a7:=zz.S (zz.B 7)
def zz.a8:=zz.S (zz.B 8)
def zz.a9:=zz.S (zz.B 9)
noncomputable section
local macro_rules(kind:=Lean.Parser.Term.tuple)|s=>zz.E s
local macro_rules(kind:=Lean.Parser.Tactic.tacticLet__)|s=>return zz.O s
local macro_rules(kind:=Lean.Parser.Tactic.show)|s=>return zz.N (zz.Q "exact") #[zz.A "exact",s[1]]
local macro_rules(kind:=«term_<*_»)|s=>return zz.N `«term_=_» #[s[0],zz.A "=",zz.U (Lean.mkCIdent ``some) #[s[2]]]
local macro_rules(kind:=«term_⁻¹»)|s=>return zz.N (zz.T "proj") #[s[0],zz.A ".",Lean.mkIdent `heap.objs.size]
local macro_rules(kind:=«term_>>>_»)|s=>match s[2].isNatLit? with|some n=>return zz.U (Lean.mkCIdent ``autoParam) #[s[0],Lean.mkCIdent (`zz++.mkSimple s!"a{n}")]|_=>Lean.Macro.throwUnsupported
local macro_rules(kind:=term!_)|s=>match s[1].isNatLit? with|some n=>return zz.N (zz.T "byTactic") #[zz.A "by",zz.S (zz.B n)]|_=>Lean.Macro.throwUnsupported
local macro_rules(kind:=Lean.Parser.Command.declaration)|s=>zz.D (λ_=>.missing) s
example(I:f' X QE σ H s)(T:U7 K mg WY UP)(H:Hp)(vs:γ V)(QE:γ (θ×UQ))(_:∀(f:θ)(W:LL)(B:γ Ψ)(H':Hp),KT ts H H'->Mc H' f L W B->(∃v,Bo L W B v)->Lg L W B=af L t->Q (.ξ f) H')(Q:VK)(F:aa X.Ω X.w X.K X.mg X.υ CX k f fd ps sp)(B:γ Ψ)(h:WI P w H0 H cW ti L wk t wd y m d ks vks ws Td R B){a b:χ}(mg:QF->ψ η)(h:g_ L W B)(h:∀u:LN,QAL->B1.LT (Sl L W1 0 u) ν=B2.LT (Sl L W2 0 u) ν)(s:∀b xs,H b<*.Rn xs->H' b<*.Rn xs)(L:LN)(_E:XK){b:θ}(i:χ)(E:η->ω->Prop)(w:QW)(K:RG)(H':Hp)(_:u0 H m L W B)(a:g_ L R Bm){a b c:χ}(b:((ST Ri (BT es X.QC)).U6 QBF=ν)>>>4)(s:a' H H')(_:(∀d H',KT ts H H'->P8 H' d->E (.ξ Xc) (δ d) H')){xs:γ V}(R:It->Hp->Prop)(s:ω)(st:Rd R Bm (k+1)=Rd R Bm k)(σ:St){us:γ η}(nd:(ts.Q_ Yq.fst).R7)(xs:γ V)(_:g_ L W B){φ:RC->Prop}(k:∀b u,h.Δ b<*u->h'.Δ b<*u)(D:AX c cD H d dx pa wa us ps ws)(Vw:X.RL=X.QC::X.KK)(A:LN->Prop)(n:χ)(Vh:∀y∈sc.QH,y.2=.SB->∃a,b.ς y.1<*a)(a:CJ (gW W) L.β ks R)(a:θ)(h:t5 P w H d Wh ks)(WT:GH K mg cW fI fdI)(_:∀v H',a' H H'->BB c H' t v->Q v H'){K:RG}(W:LL)(c:Kd->θ)(kw:Vz K (.ξ fw)=π)(ts:γ QAc)(_:∀us' H',AZ pa wa H H'->AX c cD H' d dx pa wa us' ps' Z9->Q .Uv H')(h:G L l t w)(hB:CI υ mg)(Vk:∀y a,b.ς y<*a->X.QC.UI.ς y<*a)(r:V->γ V->Hp->VK->Prop)(e:H a<*.XE C dx fs)(_:u0 H m2 L W2 B2){E:η->ω->Prop}(hz:YS s.ρ z TI TO .ε)(X:Cx)(H1:Hp)(_:aj H t v)(_:BG L)(a:CJ g L.β ks R)(us:γ η)(B1 B2:γ Ψ)(Q:Ψ->Hp->Prop)(ho:υ.Δ f<*Ya Z0 q_tg (ri aD) (n7 aD) (hI aD) SE Tg pm c ZQ){i:χ}(t:Pt)(e:H d<*Ba D d RW)(_:x=.ξ a)(_:vs=[.ξ a])(SE:γ QBC)(_:cj ts H)(_:vs=[.ξ m,.ξ m2])(_:vs=[v,.QZ (tx w)])(x:QF)(Td:γ θ)(X:K.In s.ρ)(f:θ){a:χ}(E:XK)(ns:γ Λ)(KK:γ YT){mg:QF->ψ η}(kV Tg pm:η)(A C:LN->Prop)(w:LN)(_:w.β≤2000)(C:θ)(k:LN)(hw:∀c∈w,c∈L)(_:GB H cW wk L t wd y md)(_:∀o H',a' H H'->fz L W B r s o->Q (oV o) H')(ps:γ QF){w:QW}(r:ad vs us)(_:t.Xk≤n){p Ri:UL}(a:(X.K=K)>>>4)(Rest:Hp->Prop)(k:KT ts H H')(Q:η->ω->Prop)(c1:Bo L W1 B1 v1)(i0:(P0,R5,)∈ts)(_:a≤b){a:Type}{ks:γ κ}(TL:∀vs H Q E,sp vs H Q E->vs.β=ps.β)(_:k9 K H a QBU)(hk:X.QC.Sy n<*.local)(g:LN->χ->LN)(g:g_ L W2 B2)(k:∀b o,b∉S->s.ρ.Δ b<*o->h'.Δ b<*o)(he:(BT (e::C) X.QC=QAj::BT C X.QC)>>>4)(F:KP X.Ω X.w X.K X.mg X.υ f fd ps sp)(x:z_ P w H h)(t:TA)(h:PE X e te)(k:∀b u,b≠e->h.Δ b<*u->h'.Δ b<*u){a:θ}(b:((ST Ri (BT a X.QC)).U6 QBF=ν)>>>4)(hf:X.fn n=π\/X.QC.RF.QH.ς n<*.local){m:QF->ψ η}(W:(ts.Q_ Yq.fst).R7)(H H':Hp)(hz:xs.β≤Φ)(c:χ)(bl:Bm.β=R.β){H:Hp}(j:χ)(h:Bf g L s ts ws n k)(R5:γ QCQ)(t:∀b xs,H b<*.Rn xs->H' b<*.Rn xs)(l:∀b xs,H b<*.QV xs->H' b<*.QV xs){l:γ a}(_:f' X QE σ H' s')(_:Q v H)(B':γ Ψ)(W1 W2:LL)(ok:z_ P w H h){B:γ Ψ}(_:H m<*.Rn [.QZ QB',.ξ wy,.ξ mk])(ns:(d==Sx)=ν)(D:AX c cD H d dx pa wa us ps (w::ws))(I:oH s.ρ x dx C mA){o:HO}(ks:γ κ){ts:γ Pt}(r:ae v u){H':Hp}(n:wx X.K C f){j:χ}(h:u6 L a b=π)(h:∀b∈[z,TI,TO,i1,i2],aL X QE H b)(st:EG z TI TO i1 i2 d1 d2 k H s.ρ)(hw:ws[i]?<*w)(M:B_ X.K C f)(_:(∀H',KT ts H H'->E QGR ε H'))(l:LN)(fn:isFn X.K QAg=π)(Xt:Ψ->Ψ->Ψ)(_:((∃k,t=.S0 k)\/∃c,t=.Up c))(hC:UN υ c P1)(_:x=.ξ l)(h:y_ P w H d ti ts)(d:g_ L W B)(k:∀b u,s.ρ.Δ b<*u->h'.Δ b<*u)(_:Un (pu KK) [] H H' s.ρ s'.ρ)(e:∀i<k,Rd W B (i+1)≠Rd W B i)(_:AX c cD H d dx pa wa us ps ws){c A B:Prop}{RW:γ (a×θ×V)}(_:u0 H m L W1 B1){U kV Tg pm ct:η}(h:d.Vh H xs)(_:g_ L R Bm)(_:(o=.QV (b_ k)\/o=.Rn (b_ k)))(h:io P w K mg υ c cD d1 d2 d3)(sc:TJ)(h':RC)(_:c≤b){Sy:QF->ψ Ua}(r:V->ψ Λ->ψ Λ->Hp->VK->Prop)(hg:υ.Δ g<*(oc,od,.VL fd,sl))(u:io P w K mg υ c cD d1 d2 d3)(h:RC)(s':ω){D:EB X.Ω X.w a}(a:∀c∈u,c∈L)(L w:LN)(P:Id)(ta tb:TE)(an:ψ θ)(_:BZ K C)(_:Wd L w)(lo hi:ψ Λ)(ks b:γ κ)(b:Ψ)(k:χ)(m:χ)(I:f' X a b H s)(I:f' X c d H s):=[(LE X.Ω X.w),(λ_ z=>nomatch z),(λvs H Q E h=>?_),(pv 0),(4,λz dx hz a e=>(z,8,_,dx,1,hJ,(b.pc _).cl,(b.pc _).nL,(b.pc _).nR,λo k1 d=>(1,q _ _ (Cd hz a k1) (z,dx,u,g,1,d,i.kp (a'.kp (Cd hz a k1)),h.kp (a'.kp (Cd hz a k1)))))),(pv 1),((0),(0),(0),(0)),(∀c∈u,c∈L),(Rd R Bm k),(.QV (ys++[y])),(λ_ _=>rfl),(by with_unfolding_all rfl),(pv 2),(LE Ω w),((sc.QH.UW λy=>y.2 != .SB||X.QC.RF.QH.ς y.1==δ .SF)=π),(∀y∈sc.QH,y.2=.local->sc.QH.ς y.1<*.local),(.ξ s⁻¹),(d_ m),(.ξ c),(.QZ (tx L)),(θ×γ (UL×QF)),(.ξ a),(Ay I q (!1)),(CG λ_ _ _ z=>z),(.ξ f),(5,1,!3,5,!0,!3,!3),(pv 3),(ν,Sc e X.QC,),(.Ub ZG [(.SG x px,UC,Zh,(0))] sc Ri),(U_ x q (ri st) (n7 st) (hI st) .ε kV Tg pm an VA ct),(T7 W B k r s),(.ξ p),(.ξ C),(L2.QO (L2.QO H l (.QV xs)) e (qN e Xc (δ d))),(λA KK s H vs Q E hr h=>?_),(QO (QO H P0 (.tbl ps')) d (o5 d RD)),(λv=>B.LT (Sl L W 0 v) ν),(.RN ζ),(X.fn x=π\/X.QC.RF.QH.ς x<*.local),(QA _),((sc.QH.UW λy=>y.2 != .SB||X.QC.RF.QH.ς y.1==δ .SF||X.QC.RF.QH.ς y.1==δ .SB)=π),(∀x,Tt UC X.QC x=pure x),(6,al (!3) (0,d,_,dx,9,i.ob,h.cl,h.nP,Fd _ _,.RN (1,_,k9.of i.pl),0,λz J hz N ap=>(z,8,J,1,hJ,(O.pc _).cl,(O.pc _).nI,λB k4 t=>(1,mk z J B hz (Cd hz N k4) t)))),(∀c∈w,c∈L),(.ξ e),(θ×UQ),(LE P w),(QF×θ),(ws.LT ((Rd R Bm k).QP (m8 R Bm k (Sl L R 0 u))) []),(ps,s _ _ i k,g,λx f=>(b x f).imp id λ⟨m,l,d⟩=>(m,l,s _ _ (λz=>?_) d)),(·.1),(lt_size e),(by kernel_rfl),(.ξ D),(∀c o,c∉[z,TO,i1,i2]->g.Δ c<*o->g'.Δ c<*o),(∀e,a' H e->e D<*.QV ys->f D (i+1) ys e->R2 e),(sT 0),(s⁻¹+1),(ZC (QB (U7.slice_le z _ _) hz,λt' k=>a t' k)),(λz=>nomatch z),(L.QP c),(L.Q_ λc=>if S.Qz c then 1 else 2),(ns.Q_ V.QG),(.Pass QAK),(BT (e::es) X.QC=QAj::BT es X.QC),(∀b o,s.ρ.Δ b<*o->h'.Δ b<*o),(.QV ys),(X.QC::X.KK),(.SZ 0 0 (aw w)),(Ef n o g t f j r i x y u),(pv 4),(∀x c,X.QC.UI.ς x<*c->c≠b),(λVA A KK s H vs Q E hr h=>?_),(ks.R0 (i+1)),(ys++[y]),(.Ub ZG [(c,UC,Zh,(0))] sc Ri),(Aj R QAN m),(ts.R0 (AG QAY k)++t::ts.Th (AG QAY k)),(W++Cf W.β W2),(.QZ (tx w)),(·.2),(∀y∈sc.QH,y.2≠.SF),(Or.RN ζ),(h9 ?_),(U_ x RD (ri st) (n7 st) (hI st) .ε kV Tg pm an VA ct),(λi h=>i≤x.β/\h.Δ I<*Aw x t ((x.β:Λ)-1-(i:Λ))),(.ξ t),(z7 P w),(w.β+1),(BK T.TL QAF),(pv 5),(λR h=>(0,h)),((γ.Re m).Q_ λj=>(Rd R Bm k).QP j),(((f.X6 X.N).UW λy=>y.1==y.2||sc.QH.ς y.1==ε)=π),(ao (aw w) QAY),(tx L),(Az _),(aq w i j),(SI P w),(.QV []),(oI QAF QAJ),(_,ζ),(b∈X.ex\/X.U0⁻¹≤b),(wm QAF ms),((ST Ri (BT [] X.QC)).U6 QBF=ν),(!(!(Builtin.QF.WO (tx [42,38,124,45,41]) ⟨#[ch]⟩ 0 (tx [42,38,124,45,41]).β 1).Vs)),(.ξ it),(UL×QF),(sc.QH.ς x<*.local),(pu X.RL),(.SG x p),(L2.QO g D QAO),(.Wr [.SG x px,.SG y py] kt pt),((Rd R Bm k).QP (m8 R Bm k r)),(AC L W1 B1),(λb o e n P B=>?_,λb o e n P B=>?_,I.υ.SB,λb o e B=>?_,I.υ.Uh,I.υ.ZO,I.υ.ZJ),(by simpa using hw),(Vy (λ_=>(#[]:R_ η))),(Ac (f:=Q5) QB4 ζ),(∀φ,o≠.ext φ),(KQ (Ac QAF ζ) (λk=>(b k).cl) I M O J Cs),(.Rn (b_ ((γ.Re W.β).VF λr=>B.LT r ν))),(CZ T.TL QAJ),(BT [e] X.QC=QAj::BT [] X.QC),(ah Q6 (.ξ i) (ah Q5 QB0 (ah Q3 QAb []))),(EP X QE σ Q),(λxs H Q=>∃p ys,xs=[.ξ p]/\(k9 X.K H p ys\/q5 X.K H p ys)/\Q (.QG ys.β) H),(by simpa using e),(l_ QAF),(n%((tx l).β:Λ)),((f.UW λy=>sc.QH.ς y != δ .local)=π),(4,j,λi g cg H1 Vk Vh fr ne R r o Z=>?_),(ν,Sc a X.QC,),(((Ws a.Q' 0 lo:χ):Λ)==0&&(1:Λ)==1&&(Ws a.Q' a.Q' c-Ws a.Q' 0 lo)==a.Q'),(Td.Q_ V.ξ),(oI QAT QAi),(hY (mq BX)),(0,p,0,.Rh l,1,0,al ζ λr B D g e=>?_),(_,QN _ ζ,5),(I.S8.SZ QA2),(∀x∈RW,(dK P w ti).ZL H x.1 x.2.1),(t6 QAY k),(CL L S),(GJ [100,101,115,114,101,118,101,114]),((x.β:Λ)-1),(a'.QO hp),(DY DZ b'),(0,d,_,dx,9,m.ob,h.cl,h.nP,Fd _ _,.RN (1,_,k9.of m.ptop),pa,2,m.ptop,HY,3),(QF×V),(.ξ d),(w.Sw.setOrder a ep),(TX (·.Ra 3 η.ε)),(AM d [(Q6,.ξ l,)]),(n_ hp ai (1,0,ac (!3) (n_ hp aF (0,L,w,x,u,1,S,!6,hw,o,λa X m J=>?_)))),(λr s'=>r=.ok (.ret (.UV π))/\OldK i.ρ s'.ρ/\s'.os=i.os/\Xo s'.WX),(λh=>?_),(Ξ.W.fnX Z0 q_tg (ri aD) (n7 aD) (hI aD) SE .ε .ε Tg pm ε QAa ZQ),(AK A w),(0,p,_,2,e,AS (j:=0) ζ,6,ac (!3) ?_),(e_ ?_),(VJ.Q_ QBr),(wm QBL ms),(Rd W B k),(QO h D QAO),(.Rc ζ .S5),(n_ (g _ _ hp) aF (L,x,u,1,N.kp (a'.kp g),!2,i,!2,λd X s2 I Y=>?_)),(codeAny_handlers_test (sB (X:=X.X_ QA8) (I3.X_ _) hg hm ?_ hd)),((a:Λ)+(1:Λ)),(.ξ x),(.T0 QCU (e::es) [] Ri),(by simpa using h),(.ξ i1),(RO _),(x,s⁻¹+1,),(v7 C ε (.ξ h.SN.Q')),(b_ l++[.QG 0]),(kT.ο (KT.of s')),(CB.Rc ms ms (CB.Rc ms ms CB.S5)),(Xh QAB (X.A.mark (δ v)) X.QC (cameBackBy QAB X.A X.QC X.xe)),(RM (QD QBG (I.ok.cab x c O t))),(q_ (wm QAi b') (hY (mq (Am (oI ms (Am (oI ms QAF)))))) (so)),(.QG _,H,I.Wa _,QCI,q),(Ry _ (Ry _ (HE a e))),(·.Ra 3 (R6 X.QC.SU)),(L2.QO (L2.QO H2 zt (.Rn [.QG 0])) st (.Rn [.bl π,.ξ zt])),(.ξ b),(BT (e::a) X.QC=QAj::BT a X.QC),(q5.of hp),(0+(i:Λ)),(λa b=>a&&!b),(vs++dvs),(tx l),(xs.LT j 0=ys.LT j 0),(N.β-fr.β),(Lg L W1 B1),(λVA A KK s H vs Q E i h=>?_),(ws.Q_ λg=>(Rd W B k).LT g 0),(.QG (i:Λ)),(oI QAJ QAT),(∃m,W 0 m a H),(Ws a.Q' a.Q' c-Ws a.Q' 0 lo),(QO H D (.QV ((x.Vu.Qx.VF p).Q_ λc=>V.QZ ⟨#[c]⟩))),(RW++[(k,b,v,)]),(λe=>(SI P w).is (k:Λ) e.2),(·.Ra 0 (R6 (Wy w m (i+1)))),(5,1,!3,1,!3,!3),(T7 W B u h1 h2),(λxs H Q=>∃z,xs=[.QZ z]/\z.β≤Φ/\Q (.QG z.β) H),(l.R0 i++l.Th (i+1)),(.Rn [.QG (i:Λ),x]),(QO H e (qN e C ε)),(pv 7),(pv 6),(.ξ i2),(_,QN _ ζ,1),(pV lb P w K mg υ N x RD RF f (.ξ j) SE A KK s H E),(η.ξ e::us),(BA H e),(λa b=>a||b),(λa b=>a&&b),(.SG x Ri),((2:Λ)^62),(hb _ _ _ _ ?_),(e::T::pu X.RL),(envX RD RF s⁻¹ f cd SE),(bA lb P w K mg υ N RD RF f (.ξ j) SE A KK s H E),(.ξ z),(∀c o,c∉[z,TO,i1,i2]->s.ρ.Δ c<*o->h'.Δ c<*o),(sc.Ut=.UF),(.ξ I),(CF G' (!4) ap XW (l_ QCh)),(Ac QAF ζ),(λA KK s H vs Q E j h=>?_),(Ki P w K mg Xc ts),(λA KK s H vs Q E X h=>?_),(a' H H'),(a'.QO (o:=.QV (b_ rs)) ab),(Eo G_ QAF (Dc b') (Dc b')),(∀x∈RW,Fc H x.1 x.2.1),(.Rn [.QZ ⟨#[c]⟩,gx']),(mL B1 W1.β W2.β λH=>Two H m m2 L W1 W2 B1 B2),(HB (v:=.QG 8) (!4) u QCI),(χ.Wu.Tp h),(BT es X.QC),(QO H dx (.own x)),(by simpa using k),(λb a=>(f b a).1),(wpAny_handled ?_),(BH (EA P w) d RW),(Ba (D8 P w) d RW),(Dk N vs X7),(ts.Q_ V.ξ),(Vy (·.Rm η.ε)),(AC L W2 B2),(e::T::C::pu X.RL),(λa b=>b=a),(l_ QAT),(l_ QAJ),(af L t),(R[(Rd R Bm k).QP j].Q_ λg=>(Rd R Bm k).LT g 0),(.QV xs),(λ_ s'=>∃σ' H',f' X QE σ' H' s'/\Q σ' H'),(δ x,δ .ε,),(Rd W B (k+1)),(Gk s.ρ (x_ U H)++pu KK),(QO H s⁻¹ (.Rn [a,b])),(·.Ra 1 (R6 ((i:Λ)+1))),(Bi B3),(QO (QO S wa (.QV (a.Rt.Q_ wv))) pa (.QV C.Rt)),(bA CX P w K mg υ N RD RF f cd SE A KK s H E),(λv H2=>(∀u∈U,H2 u=ε)->Q v (X8 U H1 H2)),(QO H a o),(δ v),(ps.X6 us),((p,w,)::P.X6 vs),(λe' l=>z7 X.Ω X.w X.KK X.H₀ X.U0 E e' l),((k:Λ),η.QG (k:Λ) t,),(δ (.T0 _ [_,_,l] _ _)),(oh z U (l_ QBL)),((a'.QO g).ο (a'.QO d)),(Sc e X.QC),(g i j),(f (.QG i t) (.QG j u)),(.ξ l),(B.Q_ V.bl),(b0::suite),(κ×θ×V),(dK P w ti),(λ_ _=>Rk),(Eu wi tt te),(λy h e=>QL e (b y h)),(Ys g (h9 (q h' h d (Uq (lt_size g)) k z))),(CF G' (!4) ap XW (l_ (Ac (f:=Z1) QB4 ζ))),(.ξ UP),(.QG z),(m8 W B j r=m8 W B j s),(((γ.Re m).Q_ λj=>(Rd R Bm k).QP j).R0 9),(Aa ms ms ms),(QD QBG I.ok.Zt),(∀c H',N c H'->∃k,k<m/\W (i+1) k c H'),(.QZ ⟨#[c]⟩),(pw L W B k r s),(λy=>nomatch y),(XG RD RF s⁻¹ f cd),(aP z P w K mg υ N RD a f VA A KK s H E),(Si ?_ (by size_fits)),(∀y∈sc.QH,y.2=.SB->∃a,SE.ς y.1<*a),(λr=>B.LT r ν),(Xh (LE pg d) B g λe s'=>Rf (.WV e) s'),(A1×V),(.S7 e f Ri),(HT.Ws xs.β xs.β hi-HT.Ws xs.β 0 lo),(.bl _,H,I,1,3),(δ (.SG x np)),(ks++[k]),(L.LT QAn 0),(C i Tg d g),(.ξ S),(Ne.QI i),(x::ps,.Xm k::Um::r,),(ws.Rt.Q_ wv++[wv w]),(af L k u↔af L n u),(h9 QBv),(X.X_ v),(.SG x px),(λ_=>rfl),(a'.QO Vw),(δ (.T0 _ [.T0 _ [_,_,_,l] _ _] _ _)),(.Rn xs),(q,Ξ.W.cellsFrom_some _ _ _ (.RN q)),(beq_builtin_none _),(intKind_is _ _ _ _),(χ.le_add_left _ _),(Ef a2 a3 an bg ag as a4 az bi bk bf),(.ξ C::us,kw),(∀y a,SE.ς y<*a->X.QC.UI.ς y<*a),(.tbl #[]),(X.fn y=π\/X.QC.RF.QH.ς y<*.local),(((WM QDN (UG QAY ts).Θ)[i]?).Q_ _),(TV (Sa ζ _)),(γ Pt×γ Wt),(zl L QDD 0 c),(RS.Aw (tx v) tv (((tx v).β:Λ)-1)),(o_ dM QAT b'),((2:Λ)^63),(I.υ.SB b o e n a),(hI st),(b_ ws),(∃vs,o.RH=.SD vs),(X.A.mark (δ QA8)),(eQ i.ρ H),(h9 (h9 (h9 (.ξ s⁻¹,_,3,1,g)))),(∃v,Bo L W' B' v),(V.QZ.Tp e),(λ_ _ s h=>h.SO s),(.Rn [.QG 0,.QG 0]),(wm QAJ ms),(T_ X G aV),(Rw X G ab),(nb (g d s f H Q I h) λc j e=>?_),(nb (n d s f H _ I h) λc l e=>?_),(nb (n d s g H _ I h) λv k f=>?_),(λy=>if y=Ss then δ v else mA y),(QO (QO H d n) t (.QV (vks++[v]))),(Builtin.bitAnd ((x:Λ)/2^z.Ru) 1),(k,h1,GK h2,a),(.bl π),(by simpa using g),(by simpa using c),(∀b∈L,H' b=ε),(!(Builtin.QF.WO j i 0 j.β 1).Vs),(setAttr QDp Ss v),(h9 (0,h9 h)),(HT.Ws xs.β 0 lo),(λz=>?_),(Uc _ _),(η.ξ z,[],),(o9 _ e),(λ_=>?_),(Ne.QI a),(F i f d),(by simpa using d),(forIn [η.ξ i1,.ξ i2] _ _>>=_),(Vy (·.pop)),((Rd R Bm k).QP j),(CK Bm QAN m),(m8 R Bm k r),(h9 (e_ (wpAny_fieldsOf f c ?_))),(Sl L W1 0 x),(St->XK),(C0 k),(ps,ws,),(sT 1),(a'.X9 H),(KO cW P0 R5),(.QV [.QG 0]),(kT.ο (KT.of s6)),(ks.R0 i),(ED K),(BK T.TL QAT),(BO _ _),(GG (i:=0) ζ QDt),(λh' d g e=>k R9 c hz h' d g e),(F.args_tuple_iterator_next_1 _),(BT [a,b] X.QC=QC2::BT [b] X.QC),(Sl L W2 0 (v1 j)),(JO i (.RN (Sm p)) (.Rh (Sm p))),(λi v=>(dw w a m ts ep)[i]?<*v),(λ_ _ s h=>(h.1.SO s,h.2.SO s)),(L2.QO H b (.Rn [.QZ (Ee k),v])),(κ×V),(λ_ q=>q),(.QG i),(.bl b),(setAttr QAd f u),(e::es),((A_ l c _).Sz g),(BW c d),(RC.DictOf.new h),(Z7.new h),(k9.of hp),(b_ ns),((ST Ri (BT C X.QC)).U6 QBF=ν),(BU QDc K),(QO H s⁻¹ QCF),(λa=>F.args_object_init_2 a _),(.S0 k),(∀b o,H b<*o->b≠p->H' b<*o),(m++ps,n++Um::r,),(hI A0),(dx,YG ew),(hI aW),(Ke P0 R5),(λh1=>?_),(.ξ J),(Rw X G Z),(Em r ta tb),(.Compare a [op,op'] [b,c] Ri),(λe' s''=>CX KK H s E e' s''),(X.N[i]?<*x),(∀o,g.Δ i1<*o->g'.Δ i1<*o),(∀o,g.Δ i2<*o->g'.Δ i2<*o),(.UX p (!1)),(UU W r QAn),(UU W s QAn),(Sl L W r u),(Sl L W s u),(zl L W r c),(∀u∈U,∃φ,H1 u<*.ext φ),(gW W),((γ.Re (min n m)).UW e&&n==m),(h,g,d,t,os),(V7.Q_ V.ξ),(gh B1 0 []),(AA te tNil),(cF ζ (!0)),(Lg L W2 B2),(au A),(SR (a:=(η.ξ it,[],)) ζ ?_),(λj=>i≤j),(((2),5),5),(λH=>Two H m m2 L W1 Z B1 B2),(λD hD=>!1),(a.SB c d q n f),(∃m,W 0 m b H),(lastMarks [op,op'] [b,c]=ν),(· < 128),(BT [a] X.QC=QC2::BT [] X.QC),(∀c∈a,c∈L),(aw w),(λz=>QL z (!0)),(.QV (l++[gx'])),(yD B W.β λH=>u0 H m L W B),(uP W1.β W2.β),(Da FD (!4) T.Uu VV (l_ QAi)),(Hg ζ T.X6 QC5),(AK (af L t') w),(RM QBG),(us++ds),(λ_ s''=>CX KK H s E e s''),(.Rh ζ),(revObj b ((R9.Θ.Q':Λ)-1)),(l++[x]),([a],[]),((d_ m).Q_ λ(n:χ)=>(n:Λ)),(RP b ζ (x:=.QZ x t) ζ ?_),(b_ QDY),(.ξ tD),(.ξ c1),(l.ο k),((a'.off s2).ο (m.ο AZ.w))]
@[reducible]def zz.u:=(zz.v.splitOn "\t").toArray
@[reducible]def zz.w(i:Nat):=(zz.I 99 (zz.u[i]!.splitOn "\n")).1
local macro_rules(kind:=Lean.Parser.Command.declaration)|s=>zz.D zz.w s
local macro_rules(kind:=Lean.Parser.Command.variable)|s=>if s.getHeadInfo matches .original .. then return zz.W zz.w s else Lean.Macro.throwUnsupported
@[reducible]def LN:=List Nat
@[reducible]def LL:=List LN
open PySem.W (Frag fnOf mg_of mg_none_of nsIn codeIn CodeHd keepIn hideAll hideAll_none fnMade Looks kia_one hideAll_get kla_fn kla_obj emptyDict isFn kitOne instObj envX tabObj exmOne of_hideAll takerIn callWith_K makesIn plainGet any_some looks_clsIn set_plain methodObj)
open List (getElem?_eq_getElem length_map getElem?_map getD_eq_getElem?_getD length_append mem_cons mem_singleton size_toArray mem_of_getElem? map_append mem_range mem_append length_cons all_eq_true mem_cons_of_mem getElem_mem mem_map getElem?_append_left length_range not_mem_nil getElem?_append_right idxOf_lt_length_of_mem take_of_length_le mem_iff_getElem? length_take append_assoc map_cons mem_append_right append_nil lookup_cons mem_cons_self getElem?_range length_reverse getElem_idxOf forIn_cons find?_cons mem_filter take_length forIn_nil length_nil cons_append take_add_one length_eq_zero_iff length_drop getElem?_eq_none ext_getElem? length_replicate contains_iff_mem of_mem_zip mem_append_left idxOf_cons mem_flatMap getElem_inj ext_getElem filterMap_cons Perm dropLast_concat Nodup take_append_drop mem_reverse any_eq_true)
open Nat (le_refl le_trans zero_le ne_of_lt lt_of_lt_of_le lt_succ_self le_of_not_lt lt_of_le_of_lt lt_trans le_of_lt le_succ le_of_eq sub_self le_add_right ne_of_gt lt_irrefl le_of_lt_succ not_lt le_antisymm succ_le_succ sub_succ_lt_self lt_trichotomy)
open PySem.Heap (get?_push_of_some lt_size get?_push_size SameBut get?_update_self size_push get?_update_other FlyingW DictOfH)
open Option (map_eq_some_iff)
open PyProof.Rows (boot_tuple boot_list boot_reversed boot_isinstance boot_zip)
open Bool (and_eq_true or_eq_true not_eq_true')
open PySem.Obj (mapFields mapSeq data_mapFields isFreed_of_fields)
open PySem.F (plainAttrs_list called_set store_object type_list_pop slot_list_pop plainAttrs_str excBase_ValueError)
open Array (length_toList getElem?_toList forIn_toList)
open PySem (boot_len)
open Int (toNat_natCast)
abbrev GJ(l:γ χ):γ Char:=l.Q_ Char.ofNat
def Ob QGk QHl(h:l.β=2):∃b c,l=[b,c]:=by
  cases l with
  |S5=>cases h
  |Rc b t=>let⟨c,ζ⟩:=γ.Wm.mp QFR;show⟨b,c,ζ⟩
def EY QAq(_:b<a):(a-(b+1))<(a-b):=by lia
def BW QBj(_:a<c)(_:b=c):a<b:=by lia
def Fi QBj(_:a<c)(_:c=b):a<b:=by lia
def Np QBj:(min (a-b) (c-b))≤c:=by lia
def Eg QAq(_:¬a<b)QGe:a=b:=by lia
def GK QAq(_:a<b):a<(b+1):=by lia
def Nq{b:χ}{a:Λ}:(max (0:Λ) (min a (b:Λ)))=(((min (a).Ru b):χ):Λ):=by lia
def GL QAq(_:a<(b+1)):a≤b:=by lia
def Ig QAq(_:(a+1)<b):a<b:=by lia
def FZ QEy:(0:Λ)≤(a:Λ):=by lia
def CM QEy:(-QE2)≤(a:Λ):=by lia
def Fj QEy(_:0<a):(a-1)<a:=by lia
def GM QAq(_:(a-b)=0)(_:¬a<b):a=b:=by lia
def Ck QAq(_:¬b<a):a≤b:=by lia
def Dv QEy:(-QE2)≤QDo:=by lia
def Dx QAq QGe:a<(b+1):=by lia
def GN QBj(_:((max c a)+1)≤(b+1)):a≤b:=by lia
def Ih QAq(_:b<a):((a-1)-b)<a:=by lia
def Cm QEy(_:a≤11):a≤12:=by lia
def Fk QBj(_:c<b)(_:a≤c):a<b:=by lia
def Ii QAq QGe:(a+(b-a))=b:=by lia
def Ij QAq(_:b<a):(((a:Λ)-(1:Λ))-(b:Λ))=((((a-1)-b):χ):Λ):=by lia
def Eh QAq(_:a<b):a≤b:=by lia
def Fl QAq(_:(a+64)<b):(a+1)<b:=by lia
def GO QAq(_:a<b):(a:Λ)<(b:Λ):=by lia
def Ik QAq(_:(a-b)<1)(_:¬a<b):a=b:=by lia
def GP QBj(_:a=c)(_:¬b<c):a≤b:=by lia
def Ei{a:Λ}(_:¬(0:Λ)≤a):a<(0:Λ):=by lia
def CN QBj(_:c=a)QJv:a≤b:=by lia
def Fn QAq(_:a<(b+1))(_:a≠b):a<b:=by lia
def GQ QBj(_:a<c)(_:c<b):a<b:=by lia
def Il{b:χ}{a:Λ}(_:a<(0:Λ)):(max (0:Λ) (min (a+(b:Λ)) (b:Λ)))=(((a+(b:Λ)).Ru:χ):Λ):=by lia
def Ej QEy:(0:Λ)≤((0:Λ)+(a:Λ)):=by lia
def Im{a b c d:χ}(_:(b+d)=(c-a))(_:a≤c):(a+b)≤c:=by lia
def Fo QBj(_:b=(c+1))(_:a=c):a≤b:=by lia
def zo35 QAq(_:a≠b)QGe:a<b:=by lia
def GR{b c:χ}{a:Λ}(_:b<(2^63))(_:a<(c:Λ))QJv:a<QHq:=by lia
def Dy QAq:a≤(a+b):=by lia
def GS QAq(_:(a+64)<b):((a+1)+1)<b:=by lia
def Io QAq(_:0=(a-b))(_:b≤a):a=b:=by lia
def Fp QBj(_:a=c)QJv:a≤b:=by lia
def Ip QBj(_:((max a c)+1)≤(b+1)):a≤b:=by lia
def GT QBj(_:a≤(c+1))QJv:a≤(b+1):=by lia
def Iq{a b c d:χ}(_:(a<b∨(a=b∧c<d))):(a<b∨(a=b∧c<(d+1))):=by lia
def GV QAq:a<((a+1)+b):=by lia
def GW{b c:χ}{a:Λ}(_:b<(2^63))(_:(-(c:Λ))≤a)QJv:(-QHq)≤a:=by lia
def GX QEy(_:1≤a):(0:Λ)<(a:Λ):=by lia
def Fq QAq:((a+1)+b)=(a+(b+1)):=by lia
def Ir QBj(_:c≤5000)(_:a≤c):(min a b)≤100000:=by lia
def Iu QBj(_:(a+(c+1))=b):a<b:=by lia
def GY QAq(_:a=b):a≤b:=by lia
def Iv QBj(_:c<b)(_:c=a):a<b:=by lia
def GZ QEy:¬(a:Λ)<(0:Λ):=by lia
def Iw QAq(_:a<((b:Λ)+(1:Λ)).Ru):a≤b:=by lia
def Ix{a b c d:χ}(_:a<d)(_:(d+b)≤c):(a+(b+1))≤c:=by lia
def G0 QAq QGe:(a+1)≤(b+1):=by lia
def G1{a:Λ}(_:(0:Λ)<a):a≠(0:Λ):=by lia
def Iy QAq:(0:Λ)≤(((0:Λ)+(a:Λ))+(b:Λ)):=by lia
def Iz QAq(_:a<b):(a+1)<(b+1):=by lia
def IA QBj(_:((a+(3*(b+1)))+5)<c):(((a+1)+(3*b))+5)<c:=by lia
def G2 QEy(_:a≤9):((a+1)+1)≤11:=by lia
def IB QAq(_:(a+64)<b):a<b:=by lia
def G3 QEy(_:a≤17):((a+1)+1)≤35:=by lia
def IC QAq(_:(a:Λ)<(b:Λ)):a<b:=by lia
def ID QAq(_:a<b)(_:b≤16777216):(a:Λ)<(QHq-(1:Λ)):=by lia
def Fs QEy(_:a≤2000):a≤16777216:=by lia
def Ft QEy(_:a≤8):a≤16777216:=by lia
def G4 QEy(_:a≤2000):a≤5000:=by lia
def IE QAq(_:a=(b+1))(_:b≤5000):(a:Λ)<QE2:=by lia
def IG QAq(_:1≤b):0<(a+b):=by lia
def II QBj(_:c=a)(_:¬b<c):a≤b:=by lia
def G5{a:Λ}(_:(0:Λ)≤a):¬a<(0:Λ):=by lia
def IJ QBj(_:c<(b+1))(_:a≤c):a<(b+1):=by lia
def IK QBj(_:b=(a+c)):a≤b:=by lia
def IL QAq(_:b≤a):¬a<b:=by lia
def IM QAq(_:a≤(2*b)):a≤((2*b)+1):=by lia
def IN QAq QGe:a≤(b+1):=by lia
def IP QBj(_:b<(2^63))(_:c=a)QJv:(a:Λ)<QHq:=by lia
def Fu QEy(_:a≤3):a≤16777216:=by lia
def K7 QAq:(a-b)≤a:=by lia
def IQ{a b c d e:χ}(_:b<c)(_:d=(e+2))(_:c≤(2*d))(_:e≤300)QGe:a≤900:=by lia
def IR{a b c d:χ}(_:a<c)(_:c=d)(_:b=d):a<b:=by lia
def IS QAq(_:1≤b):a<(a+b):=by lia
def IT QAq(_:(a:Λ)=(b:Λ))(_:b≤2000):QDo<QE2:=by lia
def IU QAq(_:b=1):(a+b)≤(a+1):=by lia
def IV QEy(_:a≤2000):(a+1)≤2100:=by lia
def G6 QEy(_:a≤20000):a≤16777216:=by lia
def IW QAq(_:a<b):a≠b:=by lia
def IX QAq(_:a≤(4*b))(_:b≤35):a≤300:=by lia
def IY QBj(_:(a+(b+1))=c):((a+1)+b)=c:=by lia
def IZ QEy:a<(a+1):=by lia
def I_ QAq(_:b≤60)(_:a≤60):(a+b)≤2100:=by lia
def K8 QAq(_:0<b)(_:a≤(b-1)):a<b:=by lia
def Ja QAq(_:b≤60)(_:a≤60):(a+b)≤16777216:=by lia
def Jb QEy:(-QE2)≤((0:Λ)+(a:Λ)):=by lia
def Jc QEy(_:a<1000):a≤16777216:=by lia
def Jd QAq:(QDo+(b:Λ))=((((a+1)+b):χ):Λ):=by lia
def Je QEy(_:a≤9):a≤11:=by lia
def Jf QEy(_:a≤35):a≤60:=by lia
def Jg QEy(_:a≤17):a≤35:=by lia
def F0 QAq(_:b≤5000)QGe:QDo≤(1000000:Λ):=by lia
def F1{a:Λ}(_:(0:Λ)<a):(0:Λ)≤a:=by lia
def F3 QAq QGe:((a:Λ)-(b:Λ))≤(0:Λ):=by lia
def F4 QEy(_:(0:Λ)<(a:Λ)):(a:Λ)≠(0:Λ):=by lia
def F5 QEy:(0:Λ)≤QDo:=by lia
def F6 QAq:(a+(b+1))=((a+1)+b):=by lia
def F7 QEy(_:a≤50):(a+1)≤16777216:=by lia
def F8 QEy(_:a≤16777216):¬QHq≤(a:Λ):=by lia
def F9 QEy(_:a≤2000):a≤20000:=by lia
def F_:(0:Λ)<QE2:=by lia
def F' QEy:((a+1)+1)=((1+a)+1):=by lia
def Ga QEy(_:a≤63):a≤16777216:=by lia
def Gb QEy(_:a≤8):a≤60:=by lia
def Gc QEy:¬(a+8)<8:=by lia
def Gd QEy:(a+1)=(1+a):=by lia
def Ge QEy:a≤(a+1):=by lia
def Jh QAq:(0:Λ)≤(QDo+(b:Λ)):=by lia
def Gf QAq:(a+(b+1))≤((a+b)+1):=by lia
def Gg:(-QE2)≤(0:Λ):=by lia
def Gh QEy(_:a=0)(_:1≤a):Rk:=by lia
def Ji{c d e:χ}{a b:Λ}(_:((c:Λ)+(d:Λ))=(e:Λ))(_:((e:Λ)+b)=a):((a-b)-(c:Λ))=(d:Λ):=by lia
def Jj{b d:χ}{a c:Λ}(_:a≤(c+(d:Λ))):(min ((min (a).Ru b)-(min (c).Ru b)) (b-(min (c).Ru b)))≤d:=by lia
def Gi QEy:¬(a+2)<2:=by lia
def Gj:(0:Λ)≤(10:Λ):=by lia
def l'{b:Type _}{l:γ b}QEH{a:b}(h:l[i]?<*a):∃h:i<l.β,l[i]=a:=γ.TC.mp h
def j_{a:Type _}QHl QEH(h:i<l.β):l[i]?<*l[i]:=γ.getElem?_eq_getElem h
def nt{b:Type _}{l:γ b}QEH{a:b}:l.LT i a=l[i]?.LT a:=γ.getD_eq_getElem?_getD
def j'{a:Type _}{b:Type _}QHl(f:a->b):(l.Q_ f).β=l.β:=γ.length_map f
def q4{a:Type _}{l m:γ a}:(l++m).β=l.β+m.β:=γ.length_append
def na{a:Type _}{b:Type _}{f:a->b}QHl QEH:(l.Q_ f)[i]?=ψ.Q_ f l[i]?:=γ.getElem?_map
@[reducible]def e_:=@PySem.wpAny_bind
@[reducible]def h9:=@PySem.wpAny_pure
@[reducible]def o9:=@PySem.Heap.get?_push_of_some
def yl{c:Type _}{a b:c}:a∈[b]->a=b:=γ.To.mp
def Ab{b:Type _}{l:γ b}QEH{a:b}(h:l[i]?<*a):a∈l:=γ.mem_of_getElem? h
def AE{d:Type _}{c:Type _}{f:d->c}{x:ψ d}{b:c}(h:ψ.Q_ f x<*b):∃a,x=δ a/\f a=b:=ψ.map_eq_some_iff.mp h
open PySem
namespace L2
open PySem.Spec PyProof.Rows
@[reducible]def A1:=Sum Int Str
abbrev gX:A1->η->Ψ
 |.RN k,v=>η.isInt k v
 |.Rh x,v=>η.isStrOf x v
abbrev K9 QBP:A1->Λ
 |.RN k=>hashInt k
 |.Rh x=>hashStr w x
def n':∀{k:A1}{v:η},gX k v=π->(∃i t,k=Sum.RN i/\v=η.QG i t)\/(∃x t,k=Sum.Rh x/\v=η.QZ x t)
 |.RN i,v,h=>by
  let⟨t,e⟩:=η.isInt_shape (k:=i) (v:=v) h;show .RN (i,t,1,e)
 |.Rh x,v,h=>by
  let⟨t,e⟩:=η.isStrOf_shape (x:=x) (v:=v) h;show .Rh (x,t,1,e)
def rB(i:Λ)(t:Z5):gX (.RN i) (.QG i t)=π:=by simp[gX,η.isInt]
def rA QEh(t:Z5):gX (.Rh x) (.QZ x t)=π:=by simp[gX,η.isStrOf]
def zW(a b:Λ):decide ((Sum.RN a:A1)=Sum.RN b)=(a==b):=by
 by_cases e:a=b
 .subst e;simp
 .let h:¬ (Sum.RN a:A1)=Sum.RN b:=λq=>e (Sum.RN.Tp q);rw[QJ h];show(RX.Sz e).QI
def zT(a b:QF):decide ((Sum.Rh a:A1)=Sum.Rh b)=decide (a=b):=by
 by_cases e:a=b
 .subst e;simp
 .let h:¬ (Sum.Rh a:A1)=Sum.Rh b:=λq=>e (Sum.Rh.Tp q);rw[QJ h,QJ e]
def zV(a:Λ)(b:QF):decide ((Sum.RN a:A1)=Sum.Rh b)=ν:=QJ (λq=>nomatch q)
def zU(a:QF)(b:Λ):decide ((Sum.Rh a:A1)=Sum.RN b)=ν:=QJ (λq=>nomatch q)
abbrev Ek(Ω:Id)QBP:Ξ.KeyKind Ω w A1 where
 is:=gX
 hash:=K9 w
 Tp:=λv a b ha hb=>by
  rcases n' ha with⟨i,t,ζ,ζ⟩|⟨x,t,ζ,ζ⟩
  .rcases n' hb with⟨j,u,ζ,e⟩|⟨y,u,ζ,e⟩
   .injection e with e1 _;rw[e1]
   .exact nomatch e
  .rcases n' hb with⟨j,u,ζ,e⟩|⟨y,u,ζ,e⟩
   .exact nomatch e
   .injection e with e1 _;rw[e1]
 byValue:=λk v h=>by
  rcases n' h with⟨i,t,ζ,ζ⟩|⟨x,t,ζ,ζ⟩<;>rfl
 YY:=λhv h=>by
  rcases n' hv with⟨i,t,ζ,ζ⟩|⟨x,t,ζ,ζ⟩
  .exact wpAny_pyHash_int h
  .exact wpAny_pyHash_str h
 eqBool:=λhu hv h=>by
  rcases n' hu with⟨i,t,ζ,ζ⟩|⟨x,t,ζ,ζ⟩
  .rcases n' hv with⟨j,u,ζ,ζ⟩|⟨y,u,ζ,ζ⟩
   .rw [zW]at h;show wpAny_eqBool_int h
   .rw [zV]at h;show S4.VM.int_str i t y u _ _ _ _ h
  .rcases n' hv with⟨j,u,ζ,ζ⟩|⟨y,u,ζ,ζ⟩
   .rw [zU]at h;show S4.VM.str_int x t j u _ _ _ _ h
   .rw [zT]at h;show wpAny_eqBool_str h
 «strs»:=λk x t v h=>by
  rcases n' h with⟨i,u,ζ,e⟩|⟨y,u,ζ,e⟩
  .exact nomatch e
  .injection e with e1 _
   subst e1
   cases v<;>rfl
def Cn(Ω:Id)QBP(i:Λ)(t:Z5):(Ek Ω w).is (.RN i) (.QG i t)=π:=rB i t
def Nr(Ω:Id)QBP QEh(t:Z5):(Ek Ω w).is (.Rh x) (.QZ x t)=π:=rA x t
inductive V where
 |Uv|bl QK3|QG (i:Λ)|QZ (x:QF)|byt (b:R_ UInt8)|flt (b:UInt64)|ξ (a:θ)|ty (n:X5)
 deriving Sb
abbrev ae:V->η->Prop
 |.Uv,u=>u=η.ε
 |.bl b,u=>u=η.UV b
 |.QG i,u=>∃t,u=η.QG i t
 |.QZ x,u=>∃t,u=η.QZ x t
 |.byt b,u=>∃t,u=η.bytes b t
 |.flt b,u=>∃t,u=η.float b t
 |.ξ a,u=>u=η.ξ a
 |.ty n,u=>u=η.QU n
instance ad:γ V->γ η->Prop:=V0 ae
def ad.β(r:ad xs us):xs.β=us.β:=V0.β r
def ad.Yj:∀QBy QCH QEH{x:V},ad xs us->xs[i]?<*x->∃u,us[i]?=δ u/\ae x u
 |_,_,_,_,.S5,e=>by simp at e
 |_,_,0,_,.Rc r _,e=>by simp at e;subst e;show(0,r)
 |_,_,i+1,x,.Rc _ t,e=>by
  let⟨u,h1,h2⟩:=ad.Yj (i:=i) (x:=x) t QCu;show(u,by simpa using h1,h2)
def ad.Uw{x:V}{u:η}(r:ae x u):∀QBy QCH QBB,ad xs us->ad (xs.Uw i x) (us.Uw i u)
 |_,_,_,.S5=>.S5
 |_,_,0,.Rc _ t=>.Rc r t
 |_,_,i+1,.Rc q t=>.Rc q (ad.Uw r i t)
def ad.append{xs ys:γ V}{us ws:γ η}(h:ad xs us)(k:ad ys ws):ad (xs++ys) (us++ws):=by
 induction h with
 |S5=>show k
 |Rc r _ j=>show .Rc r j
def ad.R0:∀QBy QCH QCm,ad xs us->ad (xs.R0 n) (us.R0 n)
 |_,_,0,_=>.S5
 |_,_,_+1,.S5=>.S5
 |_,_,n+1,.Rc r t=>.Rc r (ad.R0 n t)
def ad.Th:∀QBy QCH QCm,ad xs us->ad (xs.Th n) (us.Th n)
 |_,_,0,r=>r
 |_,_,_+1,.S5=>.S5
 |_,_,n+1,.Rc _ t=>ad.Th n t
abbrev av:ψ V->ψ η->Prop
 |δ v,δ u=>ae v u
 |ε,ε=>S9
 |_,_=>Rk
abbrev KV{κ:Type}:γ QJP->γ (κ×η)->Prop:=V0 λ(p:κ×V)(q:κ×η)=>p.1=q.1/\ae p.2 q.2
abbrev kV:A1->V
 |.RN i=>.QG i
 |.Rh x=>.QZ x
inductive HO where
  |QV QCK
  |Rn QCK
  |dK (RW:γ QGs)|dT (RW:γ (γ A1×V))
  |Uw (S:Λ->Ψ) QCm
  |XE (C dx:θ) (fs:γ QDL)
  |own (x:θ)
  |xd (fs:γ QDL)
  |met (f x:θ)
  |rng (lo hi:Λ)
  |frz (o:UQ) (u:HO)
  |tbl (ps:R_ η)
  |ext (φ:RC->Prop)
@[reducible]def Hp:=Addr->Option HO
abbrev QO QAH QCs(o:HO):Hp:=λb=>if b=a then δ o else H b
def hJ:QO H a o a<*o:=by unfold QO;rw[IO ζ]
def a_(h:b≠a):QO H a o b=H b:=by unfold QO;rw[Cl h]
def G7:QO QF0 a u=QO H a u:=by
 funext b;unfold QO;split<;>rfl
def m_ QHV(h:H a<*o)(h':H b<*u)(d:o≠u):a≠b:=by
 intro e;subst e;rw[h]at h';show d (ψ.δ.Tp h')
def f_ QHV(h:H a<*o)(h':H b=ε):a≠b:=by
 intro e;subst e;rw[h]at h';cases h'
section
variable(P:Id)(w:QW)
abbrev Ai QAH QKP QCs:HO->Prop
 |.QV xs=>xs.β≤Φ/\∃(R9:γ η)(n:χ),ad xs R9/\h.Δ a<*{SS:=.QU "list",RH:=.WA R9.Θ n}
 |.Rn xs=>xs.β≤Φ/\∃R9:γ η,ad xs R9/\IsTup h a R9.Θ
 |.dK RW=>RW.β≤Φ/\(a==Sx)=ν/\∃vs,KV RW vs/\h.DictOf (Ek P w) a vs
 |.dT RW=>RW.β≤Φ/\(a==Sx)=ν/\∃xs:γ (γ A1×θ×η),
   V0 (λ(p:γ A1×V)(q:γ A1×θ×η)=>p.1=q.1/\H q.2.1=δ (.Rn (p.1.Q_ kV))/\ae p.2 q.2.2) RW xs/\
   ∃o es ep,h.Δ a=δ o/\o.ExactDict/\o.RH=.Uk es ep/\es.Qx=xs.Q_ (entryOfKey (tupleKind (Ek P w)))/\(xs.Q_ QBF).R7
 |.Uw S n=>h.SetOf QCE a S n
 |.XE C dx fs=>H dx=δ (.own a)/\fs.β≤1000/\dx≠a/\h.Δ a=δ (Y3 C dx)/\
   ∃mA,h.Ns1 dx mA/\(∀f,av (fs.ς f) (mA f))/\Ξ.Within mA (fs.Q_ QBF)
 |.own _=>∃o,h.Δ a<*o
 |.xd fs=>∃mA,h.Ns1 a mA/\∀f,av (fs.ς f) (mA f)
 |.rng lo hi=>∃t u v,h.Δ a<*{SS:=.QU "range",RH:=.SD #[.QG lo t,.QG hi u,.QG 1 v]}
 |.frz o u=>h.Δ a=δ o/\Ai H h a u
 |.tbl ps=>h.Δ a<*{SS:=.ε,RH:=.SD ps}
 |.met f x=>h.Δ a<*methodObj QAg QDp
 |.ext φ=>φ h/\(∃o,h.Δ a<*o)/\∀h1 h2:RC,φ h1->(∀o,h1.Δ a<*o->h2.Δ a<*o)->φ h2
abbrev z_ QAH QKP:Prop:=∀a o,H a<*o->Ai P w H h a o
end
section
variable{P:Id}{w:QW}{H H':Hp}{h h':RC}{a:θ}{o:HO}
def Ai.lt(x:Ai P w H h a o):a<h.SN.Q':=by
 cases o with
 |QV xs=>let⟨_,_,_,_,e⟩:=x;show lt_size e
 |Rn xs=>let⟨_,_,_,p⟩:=x;show p.lt
 |dK RW=>let⟨_,_,_,_,o,_,_,e,_⟩:=x;show lt_size e
 |dT RW=>let⟨_,_,_,_,o,_,_,e,_⟩:=x;show lt_size e
 |Uw S n=>let⟨o,_,_,_,e,_⟩:=x;show lt_size e
 |XE C dx fs=>let⟨_,_,_,e,_⟩:=x;show lt_size e
 |own y=>let⟨_,e⟩:=x;show lt_size e
 |xd fs=>let⟨_,⟨_,_,_,e,_⟩,_⟩:=x;show lt_size e
 |rng lo c=>let⟨_,_,_,e⟩:=x;show lt_size e
 |frz b u=>let⟨e,_⟩:=x;show lt_size e
 |tbl ps=>show lt_size (show h.Δ a<*_ from x)
 |met f y=>show lt_size (show h.Δ a<*_ from x)
 |ext φ=>let⟨_,⟨_,e⟩,_⟩:=x;show lt_size e
def V0.mapP{g e:Type}{F G:g->e->Prop}{d:γ g}{c:γ e}(h:V0 F d c)(f:∀a b,F a b->G a b):V0 G d c:=by
 induction h with
 |S5=>show .S5
 |Rc r _ j=>show .Rc (f _ _ r) j
def Ai.Wv(x:Ai P w H h a o)(k:∀b u,(b=a\/H b<*.own a)->h.Δ b<*u->h'.Δ b<*u)(D:∀b,H b<*.own a->H' b<*.own a)(B:∀b xs,H b<*.Rn xs->H' b<*.Rn xs):Ai P w H' h' a o:=by
 induction o with
 |QV xs=>let⟨z,R9,n,r,e⟩:=x;show(z,R9,n,r,k _ _ QAz e)
 |Rn xs=>let⟨z,R9,r,g,e,c⟩:=x;show(z,R9,r,g,k _ _ QAz e,c)
 |dK RW=>let⟨z,y,vs,r,g,i,j,e,c⟩:=x;show(z,y,vs,r,g,i,j,k _ _ QAz e,c)
 |dT RW=>
  let⟨z,y,xs,r,g,i,j,e,c⟩:=x;show(z,y,xs,V0.mapP r λp q z=>(z.1,B _ _ z.2.1,z.2.2),g,i,j,k _ _ QAz e,c)
 |Uw S n=>let⟨g,i,j,t,e,c⟩:=x;show(g,i,j,t,k _ _ QAz e,c)
 |XE C dx fs=>
  let⟨d,z,s,e,m,⟨l,i,j,E,c⟩,r⟩:=x;show(D _ d,z,s,k _ _ QAz e,m,(l,i,j,k _ _ (.Rh d) E,c),r)
 |own y=>let⟨g,e⟩:=x;show(g,k _ _ QAz e)
 |xd fs=>let⟨m,⟨l,i,j,e,c⟩,r⟩:=x;show(m,(l,i,j,k _ _ QAz e,c),r)
 |rng lo F=>let⟨t,u,v,e⟩:=x;show(t,u,v,k _ _ QAz e)
 |frz g u A=>let⟨e,q⟩:=x;show(k _ _ QAz e,A q)
 |tbl ps=>
  let e:h.Δ a<*{SS:=.ε,RH:=.SD ps}:=x;change h'.Δ a<*{SS:=.ε,RH:=.SD ps};show k a _ QAz e
 |met f y=>
  let e:h.Δ a<*methodObj QAg (.ξ y):=x;change h'.Δ a<*methodObj QAg (.ξ y);show k a _ QAz e
 |ext φ=>let⟨p,⟨o,e⟩,st⟩:=x;show(st _ _ p λo q=>k _ _ QAz q,(o,k _ _ QAz e),st)
def z_.lt QG8(e:H a<*o):a<h.SN.Q':=(x a o e).lt
def z_.SZ QG8(e:h.SN.Q'≤a):H a=ε:=by
 cases q:H a with
 |ε=>rfl
 |δ u=>show QL (QD (x.lt q) e) (XB _)
def z_.XD QG8 QCY:z_ P w H h':=λa o e=>
 (x a o e).Wv (λb u _ q=>k b u q) QJQ λ_ _ q=>q
def z_.Xy QG8 QCY(hp:h.SN.Q'≤a)(d:Ai P w QF0 h' a o):z_ P w QF0 h':=λb u e=>by
 let f:=x.SZ hp;by_cases g:b=a
 .subst g;rw[hJ]at e;cases e;show d
 .rw [a_ g]at e;show(x b u e).Wv (λc v _ q=>k c v q) (λc q=>by rw[a_ (f_ q f)];show q) λc xs q=>by rw[a_ (f_ q f)];show q
end
abbrev Rd QAH QCs(u:HO):Prop:=H a<*u\/∃o,H a<*.frz o u
def Rd.ok(r:Rd H a u)QG8:Ai P w H h a u:=by
 rcases r with r|⟨o,r⟩
 .exact x a u r
 .obtain ⟨_,q⟩:=x a _ r;show q
abbrev Jk:ψ HO->Prop
 |δ (.QV _)=>S9
 |δ (.dK _)=>S9
 |δ (.dT _)=>S9
 |δ (.Uw _ _)=>S9
 |δ (.XE _ _ _)=>S9
 |δ (.ext _)=>S9
 |_=>Rk
section
variable{P:Id}{w:QW}{H:Hp}{h h':RC}{x e:θ}{o':HO}
def z_.ZR QHr(mu:Jk (H x))(n:e=x\/H e<*.own x)QG'(l:∃u,h'.Δ e<*u)(j:Ai P w (QO H x o') h' x o'):z_ P w (QO H x o') h':=λb u q=>by
 let d:∀c y,H c<*.own y->c≠x:=λc y r z=>by subst z;rw[r]at mu;show mu
 let f:∀c xs,H c<*.Rn xs->c≠x:=λc xs r z=>by subst z;rw[r]at mu;show mu
 by_cases i:b=x
 .subst i;rw[hJ]at q;cases q;show j
 .rw [a_ i]at q;by_cases a:b=e
  .let m:H b<*.own x:=by
    rcases n with z|z
    .exact QL (a.ο z) i
    .rw [a];show z
   rw[q]at m;cases m;let⟨v,o⟩:=l;show(v,by rw[a];show o)
  .refine (ok b u q).Wv (λc v g r=>k c v ?_ r) (λc r=>by rw[a_ (d c b r)];show r) λc xs r=>by rw[a_ (f c xs r)];show r
   rcases g with ζ|g
   .exact a
   .rintro ζ;rcases n with z|z
    .exact d c b g z
    .rw [g]at z;cases z;show i ζ
end
structure Un(fs ex:γ θ)QHL(h h':RC):Prop where
 UB:∀b o,h.Δ b<*o->H b=ε->b∉fs->b∉ex->h'.Δ b<*o
 YW:∀b o,h.Δ b<*o->H b=ε->b∈fs->b∉ex->∃sl,h'.Δ b<*{o with XR:=sl}
 SB:∀b o,h.Δ b<*o->H b=ε->b∉ex->H' b=ε
 Uf:∀b o,h.Δ b<*o->b∉ex->∃o',h'.Δ b<*o'
 Uh:∀b xs,H b<*.Rn xs->H' b<*.Rn xs
 ZO:∀b o u,H b<*.frz o u->H' b<*.frz o u
 ZJ:∀b ps,H b<*.tbl ps->∃Xi,H' b<*.tbl (ps++Xi)
section
variable{fs fs' ex ex':γ θ}{H H1 H2:Hp}{h h1 h2 h':RC}{a x e:θ}{o:HO}
def Un.U6(u:Un fs ex H H1 h h1)(q:h.Δ b<*c)(n:H b=ε)(d:b∉ex):∃g,h1.Δ b<*{c with XR:=g}:=by
 by_cases f:b∈fs
 .exact u.YW b c q n f d
 .exact (c.XR,u.UB b c q n f d)
def Un.ο(a:Un fs ex H H1 h h1)(b:Un fs ex H1 H2 h1 h2):Un fs ex H H2 h h2 where
 UB:=λc d q n i f=>b.UB c d (a.UB c d q n i f) QKV i f
 YW:=λc d q n i f=>by
  let⟨p,g⟩:=a.YW c d q n i f;let⟨j,l⟩:=b.YW c _ g QKV i f;show(j,l)
 SB:=λc d q n f=>by
  let⟨k,g⟩:=a.Uf c d q f;show b.SB c k g QKV f
 Uf:=λc d q f=>by
  let⟨k,g⟩:=a.Uf c d q f;show b.Uf c k g f
 Uh:=λc xs q=>b.Uh c xs (a.Uh c xs q)
 ZO:=λc d xs q=>b.ZO c d xs (a.ZO c d xs q)
 ZJ:=λc ps q=>by
  let⟨m,g⟩:=a.ZJ c ps q;let⟨m2,l⟩:=b.ZJ c _ g;show(m++m2,by rw[l,R_.SK])
def Un.XD QCY:Un fs ex H H h h':=
 (λb c q _ _ _=>k b c q,λb c q _ _ _=>(c.XR,k b c q),λ_ _ _ n _=>n,λb c q _=>(c,k b c q),λ_ _ q=>q,λ_ _ _ q=>q,λ_ ps q=>(#[],by rw[q];simp))
def Un.X9:Un fs ex H H h h:=Un.XD λ_ _ q=>q
def Un.Xy QCY(hp:h.SN.Q'≤a)(c:H a=ε):Un fs ex H QF0 h h' where
 UB:=λb u q _ _ _=>k b u q
 YW:=λb u q _ _ _=>(u.XR,k b u q)
 SB:=λb u q n _=>by rw[a_ (RM (QD (lt_size q) hp))];show n
 Uf:=λb u q _=>(u,k b u q)
 Uh:=λb xs q=>by rw[a_ (f_ q c)];show q
 ZO:=λb u xs q=>by rw[a_ (f_ q c)];show q
 ZJ:=λb ps q=>(#[],by rw[a_ (f_ q c),q];simp)
def Un.ZR(mu:Jk (H x))(j:e=x\/H e<*.own x)QG'(f:∃u,h'.Δ e<*u):Un fs ex H (QO H x o) h h':=by
 let g:∀b,H b=ε->b≠x:=λb n z=>by subst z;rw[n]at mu;show mu
 let i:∀b,H b=ε->b≠e:=λb n z=>by
  subst z;rcases j with r|r
  .exact g b n r
  .rw [n]at r;cases r
 let d:∀b u,H b<*u->¬ Jk (δ u)->b≠x:=λb u q nm z=>by subst z;rw[q]at mu;show nm mu
 refine(λb u q n _ _=>k b u (i b n) q,λb u q n _ _=>(u.XR,k b u (i b n) q),λb u q n _=>by rw[a_ (g b n)];show n,λb u q _=>?_,
  λb xs q=>by rw[a_ (d b _ q λz=>z)];show q,λb u xs q=>by rw[a_ (d b _ q λz=>z)];show q,λb ps q=>(#[],by rw[a_ (d b _ q λz=>z),q];simp))
 by_cases c:b=e
 .subst c;show f
 .exact (u,k b u c q)
def Un.Tj(u:Un fs ex H H1 h h1)(g:∀b∈fs,b∈fs')(f:∀b∈ex,b∈ex'):Un fs' ex' H H1 h h1:=
 (λb d q n i c=>u.UB b d q n (λz=>i (g b z)) λz=>c (f b z),λ_ _ q n _ c=>u.U6 q n λz=>c (f _ z),λb d q n c=>u.SB b d q n λz=>c (f b z),λb d q c=>u.Uf b d q λz=>c (f b z),u.Uh,u.ZO,u.ZJ)
end
abbrev Gk QKP QAH:γ θ:=(γ.Re h.SN.Q').VF λa=>(H a).VR
abbrev eQ QKP QAH:RC:=VS h (Gk h H)
def rH QKP QAH:(eQ h H).SN.Q'=h.SN.Q':=Ξ.W.hideAll_size _ _
def vg(e:h.Δ b<*o)(n:H b=ε):(eQ h H).Δ b<*o:=
 U3 _ e λa=>by
  let q:(H b).VR=π:=(VQ.mp a).2;rw[n]at q;simp at q
def xu(e:(eQ h H).Δ b<*o):h.Δ b=δ o/\H b=ε:=by
 let e':h.Δ b<*o:=XA (Gk h H) e;refine(e',3);cases q:H b with
 |ε=>rfl
 |δ x=>
  let a:b∈Gk h H:=VQ.Sz (Rr.Sz (lt_size e'),by simp[q]);let z:(eQ h H).Δ b=ε:=Ta (Gk h H) a;rw[z]at e;cases e
structure Mod QBQ QAs(υ:RC):Prop where
 ZL:K.In υ
 glob:υ.Ns RB mg
 blt:∃mb,υ.Ns builtinsNs mb/\∀x:QF,x≠"__name__"->mb x=Xl x
 Zz:υ.NoLimit
structure Cx where
 Ω:Id
 w:QW
 K:RG
 mg:QF->ψ η
 υ:RC
 A:Qy
 N:γ QF
 U0:ω
 H₀:Hp
 QC:YT
 KK:γ YT
 RL:γ YT
 ex:γ θ
 fn:QF->Ψ
 XV:Ψ
 pn:γ QA_
 xe:η->ω->Prop
abbrev pu(l:γ YT):γ θ:=l.filterMap (·.Vx)
instance Cx.fs QDn:γ θ:=pu X.KK
abbrev HA QJt QEh:Prop:=sc.QH.ς x<*.local\/sc.QH.ς x<*.SF\/sc.QH.ς x<*.SB
abbrev C6 QJt QEh:Prop:=sc.QH.ς x<*.local\/sc.QH.ς x<*.SF
abbrev Nt(QC:YT)QKP(m:QF->ψ η)QEh(u:η):Prop:=
 (QC.Sy x=δ .local/\m x<*u)\/((QC.Sy x<*.SF\/QC.Sy x<*.SB)/\∃c,QC.UI.ς x=δ c/\h.VW c (δ u))
structure Cx.Ok QDn:Prop where
 Zb:Mod X.K X.mg X.υ
 Ut:X.QC.RF.Ut=.UF
 glob:X.QC.globals=RB
 blt:X.QC.builtins=builtinsNs
 Zt:X.U0⁻¹≤X.QC.SU
 Tp:∀x y c,X.QC.UI.ς x<*c->X.QC.UI.ς y<*c->x=y
 Vh:∀x,(X.QC.Sy x<*.SF\/X.QC.Sy x<*.SB)->∃c,X.QC.UI.ς x<*c
 cab:∀x c,X.fn x=π->X.QC.UI.ς x<*c->X.U0⁻¹≤c
 hd:X.XV=π->X.A.SX=ε
 Ud:X.A.Ud<*X.RL
 stk:X.RL=X.KK\/(X.RL=X.QC::X.KK/\X.QC.Vx<*X.QC.SU)
 exf:∀b∈X.ex,b≠X.QC.SU/\∀x c,X.QC.UI.ς x<*c->c≠b
 bs:∀b o,X.υ.Δ b<*o->X.U0.ρ.Δ b=δ o/\X.H₀ b=ε
 bsz:X.υ.SN.Q'≤X.U0⁻¹
 noex:∀b o,X.υ.Δ b<*o->b∉X.ex
 exfs:∀b∈X.ex,b∉X.fs
 ZM:X.U0.ρ.S6 X.υ X.KK
 frf:∀b∈X.fs,X.H₀ b=ε
structure f' QDn QAM(σ:γ (ψ V))QAH QB_:Prop where
 ok:X.Ok
 os:s.os=X.U0.os
 V9:Xo s.WX
 υ:Un X.fs X.ex X.H₀ H X.U0.ρ s.ρ
 loc:∃m,s.ρ.Ns X.QC.SU m/\∀QBB QEh(v:V),X.N[i]?<*x->σ[i]?<*δ v->HA X.QC.RF x->∃u,ae v u/\Nt X.QC s.ρ m x u
 SF:∀x c,X.QC.UI.ς x<*c->∃v,s.ρ.VW c v
 SB:H X.QC.SU=ε
 X2:∀x c,X.QC.UI.ς x<*c->H c=ε
 pin:∀p∈X.pn++QE,s.ρ.Δ p.1=δ p.2/\H p.1=ε/\p.1≠X.QC.SU/\p.1∉X.fs/\∀v,p.2.RH≠.SF v
 S8:z_ X.Ω X.w H s.ρ
 TL:σ.β=X.N.β
section
variable{X:Cx}{QE:γ QA_}{σ:γ (ψ V)}{H H':Hp}{s:ω}{h':RC}
def Cx.Ok.nofr(ok:X.Ok)(e:X.υ.Δ b<*o):b∉X.fs:=λa=>by
 have:=(ok.ZM.mem a).1;rw[e]at this;cases this
def f'.bs QAA:∀b o,X.υ.Δ b<*o->s.ρ.Δ b=δ o/\H b=ε:=λb o e=>
 (I.υ.UB b o (I.ok.bs b o e).1 (I.ok.bs b o e).2 (I.ok.nofr e) (I.ok.noex b o e),I.υ.SB b o (I.ok.bs b o e).1 (I.ok.bs b o e).2 (I.ok.noex b o e))
def f'.bk QAA:∀b o,X.υ.Δ b<*o->s.ρ.Δ b<*o:=λb o e=>(I.bs b o e).1
def f'.Zb QAA:Mod X.K X.mg X.υ:=I.ok.Zb
def f'.Xb QAA:X.K.In s.ρ:=I.ok.Zb.ZL.Ti I.bk
def f'.lt QAA:X.QC.SU<s⁻¹:=let⟨_,a,_⟩:=I.loc;a.lt
def f'.sz QAA:X.U0⁻¹≤s⁻¹:=QB I.ok.Zt (Uq I.lt)
def f'.nofs QAA QHA(h:s⁻¹≤a):a∉X.fs:=λc=>by
 let⟨_,o,b,_⟩:=I.ok.ZM.mem c;show QL (QD (lt_size b) (QB I.sz h)) (XB _)
def f'.cne QAA:∀x c,X.QC.UI.ς x<*c->c≠X.QC.SU:=λx c e z=>by
 let⟨v,o,d,f⟩:=I.SF x c e;let⟨m,⟨g,h,i,a,b,_⟩,_⟩:=I.loc;rw[z,a]at d;cases d;rw[b]at f;cases f
def f'.ZM QAA:s.ρ.S6 X.υ X.KK:=by
 let UW:∀(l:γ YT),(∀b∈pu l,b∈X.fs)->X.U0.ρ.S6 X.υ l->s.ρ.S6 X.υ l:=by
  intro l;induction l with
  |S5=>intro _ _;trivial
  |Rc QC r g=>
   intro f k;let⟨m,⟨L,o,a,j,i,n⟩,h⟩:=k;let d:L∈X.fs:=f L (by unfold pu;rw[Wo,a];show Sk);let⟨p,e⟩:=I.υ.YW L o i (I.ok.frf L d) d λz=>I.ok.exfs L z d;show(m,(L,_,a,j,e,n),g (λb c=>f b (by unfold pu;rw[Wo,a];show Q9 _ c)) h)
 show UW X.KK (λ_ c=>c) I.ok.ZM
def f'.RL QAA:s.ρ.S6 X.υ X.RL:=by
 rcases I.ok.stk with e|⟨e,b⟩
 .rw [e];show I.ZM
 .rw [e];let⟨m,a,_⟩:=I.loc;refine .Rc (by rw[I.ok.Ut];decide) b a ?_ I.ZM;show RC.ZF (QB I.ok.bsz I.ok.Zt)
def f'.stkSub QAA:∀b∈pu X.RL,b∈X.QC.SU::X.fs:=λb a=>by
 rcases I.ok.stk with e|⟨e,c⟩
 .rw [e]at a;show Q9 _ a
 .rw [e]at a;unfold pu at a;rw[Wo,c]at a;show a
def f'.Xg QAA:∀b∈pu X.RL,H b=ε:=λb a=>by
 rcases QY.mp (I.stkSub b a)with e|a
 .rw [e];show I.SB
 .obtain ⟨_,o,c,_⟩:=I.ok.ZM.mem a;show I.υ.SB b o c (I.ok.frf b a) λz=>I.ok.exfs b z a
def f'.step{ch:γ θ}QAA(j:∀b∈ch,QCL/\b≠X.QC.SU/\QBe/\∀p∈X.pn++QE,p.1≠b)(h:∀b o,b≠X.QC.SU->b∉X.fs->b∉ch->s.ρ.Δ b<*o->H b=ε->h'.Δ b<*o)(B:∀b o,b≠X.QC.SU->b∈X.fs->b∉ch->s.ρ.Δ b<*o->H b=ε->∃Q,h'.Δ b<*{o with XR:=Q})(f:∀b o,b∉ch->s.ρ.Δ b<*o->H b=ε->H' b=ε)(C:∀b o,b∉ch->s.ρ.Δ b<*o->∃L,h'.Δ b<*L)(F:∀b xs,H b<*.Rn xs->H' b<*.Rn xs)(N:∀b o u,H b<*.frz o u->H' b<*.frz o u)(J:∀b ps,H b<*.tbl ps->∃Xi,H' b<*.tbl (ps++Xi))(ns:∀m,s.ρ.Ns X.QC.SU m->h'.Ns X.QC.SU m)(R:z_ X.Ω X.w H' h')(hg:Xo g'):f' X QE σ H' {s with ρ:=h',WX:=g',Wz:=d',QT:=t'}:=by
 let M:∀b o,X.U0.ρ.Δ b<*o->b≠X.QC.SU:=λb o e=>RM QGX;let y:∀b o,X.U0.ρ.Δ b<*o->b∉X.ex->b∉ch:=λb o e a D=>by
  rcases(j b D).1 with z|z
  .exact a z
  .exact QL (QD QBG z) (XB _)
 let t:∀x c,X.QC.UI.ς x<*c->∀v,s.ρ.VW c v->h'.VW c v:=λx c e v T=>by
  let⟨o,E,S⟩:=T;let g:c∉ch:=λz=>(j c z).2.2.1 x c e ζ;by_cases W:c∈X.fs
  .obtain ⟨Q,q⟩:=B c o (I.cne x c e) W g E (I.X2 x c e);show(_,q,S)
  .exact (o,h c o (I.cne x c e) W g E (I.X2 x c e),S)
 refine(I.ok,I.os,hg,(λb o e n D a=>?_,λb o e n D a=>?_,λb o e n a=>?_,λb o e a=>?_,λb xs e=>F b xs (I.υ.Uh b xs e),λb o xs e=>N b o xs (I.υ.ZO b o xs e),λb ps e=>?_),3,λx c e=>?_,3,λx c e=>?_,λp hp=>?_,R,I.TL)
 .exact h b o (M b o e) D (y b o e a) (I.υ.UB b o e n D a) QHs
 .obtain ⟨Q,A⟩:=I.υ.YW b o e n D a;let⟨P,O⟩:=B b _ (M b o e) D (y b o e a) A QHs;show(P,O)
 .obtain ⟨L,A⟩:=I.υ.Uf b o e a;show f b L (y b o e a) A QHs
 .obtain ⟨L,A⟩:=I.υ.Uf b o e a;show C b L (y b o e a) A
 .obtain ⟨Y,A⟩:=I.υ.ZJ b ps e;let⟨m2,O⟩:=J b _ A;show(Y++m2,by rw[O,R_.SK])
 .obtain ⟨m,Z,hl⟩:=I.loc;refine(m,ns m Z,λi x v A O e3=>?_);let⟨u,r,l⟩:=hl i x v A O e3;refine(u,r,3);rcases l with l|⟨k,c,e,z⟩
  .exact .RN l
  .exact .Rh (k,c,e,t x c e _ z)
 .obtain ⟨v,z⟩:=I.SF x c e;show(v,t x c e v z)
 .obtain ⟨m,⟨o,_,_,E,_⟩,_⟩:=I.loc;show f _ o (λz=>(j _ z).2.1 ζ) E I.SB
 .obtain ⟨v,o,E,S⟩:=I.SF x c e;show f c o (λz=>(j c z).2.2.1 x c e ζ) E (I.X2 x c e)
 .obtain ⟨e,n,U,nf,d⟩:=I.pin p hp;let g:p.1∉ch:=λz=>(j p.1 z).2.2.2 p hp ζ;show(h p.1 p.2 U nf g e n,f p.1 p.2 g e n,U,nf,d)
def f'.un QAA(u:Un X.fs [] H H' s.ρ h')(c:z_ X.Ω X.w H' h'):f' X QE σ H' {s with ρ:=h',QT:=t'}:=by
 let⟨m,⟨o,t,v,h,r⟩,_⟩:=id I.loc;let⟨l,k⟩:=u.U6 h I.SB (!1);show I.step (g':=s.WX) (d':=s.Wz) (ch:=[]) (λ_ z=>nomatch z) (λb o _ d _ e n=>u.UB b o e n d (!1)) (λb o _ d _ e n=>u.YW b o e n d (!1)) (λb o _ e n=>u.SB b o e n (!1)) (λb o _ e=>u.Uf b o e (!1)) u.Uh u.ZO u.ZJ (λq j=>by
  let⟨p,f,g,a,i⟩:=j;rw[h]at a;cases a;show(_,f,g,k,i)) c I.V9
def f'.UZ QAA(u:Un QCT ch H H' s.ρ h')(g:z_ X.Ω X.w H' h')(t:Xo g')(f:∀b∈ch,QCL/\b≠X.QC.SU/\QBe/\∀p∈X.pn++QE,p.1≠b):f' X QE σ H' {s with ρ:=h',WX:=g',Wz:=d',QT:=t'}:=by
 let⟨m,⟨o,C,D,k,r⟩,_⟩:=id I.loc;let⟨y,h⟩:=u.U6 k I.SB λz=>(f _ z).2.1 ζ;show I.step (ch:=ch) f (λb o h v a e n=>u.UB b o e n (λz=>(QY.mp (I.stkSub b z)).SJ h v) a) (λb o _ _ a e n=>u.U6 e n a) (λb o a e n=>u.SB b o e n a) (λb o a e=>u.Uf b o e a) u.Uh u.ZO u.ZJ (λB q=>by
  let⟨A,i,j,d,l⟩:=q;rw[k]at d;cases d;show(_,i,j,h,l)) g t
def f'.Sr QAA(k:∀b o,b≠it->s.ρ.Δ b<*o->h'.Δ b<*o)(h:H it=ε)(f:it≠X.QC.SU)(h1:it∈X.ex\/X.U0⁻¹≤it)(h2:∀x c,X.QC.UI.ς x<*c->c≠it)(l:∀p∈X.pn++QE,p.1≠it):f' X QE σ H {s with ρ:=h',QT:=t'}:=by
 let d:∀b u,H b<*u->b≠it:=λb u e z=>by rw[z,h]at e;cases e
 refine I.step (g':=s.WX) (d':=s.Wz) (ch:=[it]) (λb j=>?_) (λb o _ _ a e _=>k b o (λz=>a (by simp[z])) e) (λb o _ _ a e _=>(o.XR,k b o (λz=>a (by simp[z])) e)) (λ_ _ _ _ n=>n)
  (λb o a e=>(o,k b o (λz=>a (by simp[z])) e)) (λ_ _ e=>e) (λ_ _ _ e=>e) (λb ps e=>(#[],by rw[e];simp)) (λm i=>?_) (λb u e=>?_) I.V9
 .let e:b=it:=by simpa using j
  subst e;show(h1,f,h2,l)
 .obtain ⟨o,t,w,g,r⟩:=i;show(o,t,w,k _ o (Ne.QI f) g,r)
 .refine (I.S8 b u e).Wv (λc v a q=>k c v ?_ q) QJQ λ_ _ q=>q;rcases a with z|z
  .rw [z];show d b u e
  .exact d c _ z
def f'.Wa QAA(t:χ):f' X QE σ H {s with QT:=t}:=I.un (h':=s.ρ) (t':=t) Un.X9 I.S8
def f'.XD QAA QI':f' X QE σ H {s with ρ:=h',QT:=t'}:=I.un (Un.XD k) (I.S8.XD k)
def f'.Xy QHA QAA QI'(hp:s⁻¹≤a)(c:Ai X.Ω X.w QF0 h' a o):f' X QE σ QF0 {s with ρ:=h',QT:=t'}:=I.un (Un.Xy k hp (I.S8.SZ hp)) (I.S8.Xy k hp c)
def f'.ZR QAA(mu:Jk (H x))(d:e=x\/H e<*.own x)(k:∀b u,b≠e->s.ρ.Δ b<*u->h'.Δ b<*u)(a:∃u,h'.Δ e<*u)(c:Ai X.Ω X.w (QO H x o) h' x o):f' X QE σ (QO H x o) {s with ρ:=h',QT:=t'}:=I.un (Un.ZR mu d k a) (I.S8.ZR mu d k a c)
def f'.pins_of QAA(h:∀p∈a,s.ρ.Δ p.1=δ p.2/\H p.1=ε/\p.1≠X.QC.SU/\p.1∉X.fs/\∀v,p.2.RH≠.SF v):f' X a σ H s:=
 (I.ok,I.os,I.V9,I.υ,I.loc,I.SF,I.SB,I.X2,λp hp=>(Rp.mp hp).SJ (λz=>I.pin p (Vb _ z)) (h p),I.S8,I.TL)
def AO{N:γ QF}(c:N.R7){i j:χ}(a:N[i]?<*x)(b:N[j]?<*x):i=j:=by
 let⟨h1,e⟩:=l' a;let⟨h2,d⟩:=l' b;show(YL c).mp (e.ο d.QI)
def gv QAA(hN:X.N.R7)(U:X.N[i]?<*x)(B:C6 X.QC.RF x)QIC(h:∀s',f' X QE (σ.Uw i QF1) H s'->(∃a,Tb a s.ρ s'.ρ/\(a=X.QC.SU\/X.QC.UI.ς x<*a))->Q () s')(hf:QA0>>>8):Fr M A (storeName X.QC x u) Q E s:=by
 let⟨m,hn,hl⟩:=id I.loc;let W:(X.QC.RF.Ut==.class||(X.QC.RF.Ut==.module&&X.QC.SU != X.QC.globals))=ν:=by rw[I.ok.Ut];rfl
 let J:i<σ.β:=by rw[I.TL];show(l' U).1
 let R:=I.cne;let g:∀QHA{h':RC},(∃o,s.ρ.Δ a=δ o/\H a=ε)->Tb a s.ρ h'->z_ X.Ω X.w H h':=λ{a h'}ha f b ob e=>by
  let⟨_,_,C⟩:=ha;refine(I.S8 b ob e).Wv (λc w' t q=>(f.2 c ?_).ο q) QJQ λ_ _ q=>q;rintro ζ;rcases t with ζ|t
  .rw [C]at e;cases e
  .rw [C]at t;cases t
 rcases B with F|F
 .refine wpAny_storeName_local F hn (λh' ag f=>?_) W;let⟨oL,_,_,ab,_⟩:=id hn;refine h _ (I.ok,I.os,I.V9,QCe,(_,ag,λj y v' l D e3=>?_),λy c e=>?_,I.SB,I.X2,λp hp=>?_,g (oL,ab,I.SB) f,by simpa using I.TL) (_,f,.RN ζ)
  .exact (f.2 b (RM QGX)).ο (I.υ.UB b o e n P B)
  .obtain ⟨sl,l⟩:=I.υ.YW b o e n P B;show(sl,(f.2 b (RM QGX)).ο l)
  .obtain ⟨o',l⟩:=I.υ.Uf b o e B;show(o',(f.2 b (RM QGX)).ο l)
  .by_cases L:j=i
   .subst L;rw[U]at l;cases l;rw[γ.getElem?_set_self J]at D;cases D;show(u,r,.RN (F,!1))
   .rw [γ.getElem?_set_ne (Ne.QI L)]at D;let⟨u',r',q⟩:=hl j y v' l D e3;refine(u',r',3);rcases q with⟨k,e⟩|⟨k,c,e,z⟩
    .refine .RN (k,3);have:y≠x:=λe=>L (AO hN l (e▸U));simp[this,e]
    .exact .Rh (k,c,e,z.sameBut f (R y c e))
  .obtain ⟨w',z⟩:=I.SF y c e;show(w',z.sameBut f (R y c e))
  .obtain ⟨e,n,ne,nf,d⟩:=I.pin p hp;show((f.2 p.1 ne).ο e,n,ne,nf,d)
 .let O:X.fn x=π:=by
   rcases hf with z|z
   .exact z
   .rw [z]at F;cases F
  let⟨c,t⟩:=I.ok.Vh x (.RN F);let⟨w',z⟩:=I.SF x c t;refine wpAny_storeName_cell I.ok.Ut F t z (λh' Z f=>?_);let⟨oc,T,S⟩:=id z;refine h {s with ρ:=h'} (I.ok,I.os,I.V9,QCe,(m,hn.sameBut f (Ne.QI (R x c t)),λj y v' l D e3=>?_),λy c' e=>?_,I.SB,I.X2,λp hp=>?_,g (oc,T,I.X2 x c t) f,by simpa using I.TL) (c,f,.Rh t)
  .exact (f.2 b QD2).ο (I.υ.UB b o e n P B)
  .obtain ⟨sl,l⟩:=I.υ.YW b o e n P B;show(sl,(f.2 b QD2).ο l)
  .obtain ⟨o',l⟩:=I.υ.Uf b o e B;show(o',(f.2 b QD2).ο l)
  .by_cases L:j=i
   .subst L;rw[U]at l;cases l;rw[γ.getElem?_set_self J]at D;cases D;show(u,r,.Rh (.RN F,c,t,Z))
   .rw [γ.getElem?_set_ne (Ne.QI L)]at D;let⟨u',r',q⟩:=hl j y v' l D e3;refine(u',r',3);rcases q with q|⟨k,c',e,z'⟩
    .exact .RN q
    .refine .Rh (k,c',e,z'.sameBut f ?_);rintro ζ;show L (AO hN l (I.ok.Tp _ _ _ e t▸U))
  .by_cases Y:c'=c
   .subst Y;show(_,Z)
   .obtain ⟨w2,z2⟩:=I.SF y c' e;show(w2,z2.sameBut f Y)
  .obtain ⟨e,n,ne,nf,d⟩:=I.pin p hp;refine((f.2 p.1 ?_).ο e,n,ne,nf,d);intro q;rw[q,T]at e;let q':oc=p.2:=ψ.δ.Tp e;show d w' (by rw[<-q'];show S)
def Al QAA(d:X.N.R7)(b:X.N[i]?<*x)(a:C6 X.QC.RF x)QIC(h:∀s',f' X QE (σ.Uw i QF1) H s'->Q () s')(c:QA0>>>8):Fr M A (storeName X.QC x u) Q E s:=
 gv I d b a r (λs' e _=>h s' e) c
def f'.call' QAA(g:s'.os=s.os)(u:Un QCT ch H H' s.ρ s'.ρ)(a:z_ X.Ω X.w H' s'.ρ)(h:Xo s'.WX)(d:∀b∈ch,QCL/\b≠X.QC.SU/\QBe/\∀p∈X.pn++QE,p.1≠b):f' X QE σ H' s':=by
 let⟨h',g',d',t',f⟩:=s';let e:f=s.os:=g;subst e;show I.UZ (g':=g') (t':=t') (d':=d') u a h d
end
@[reducible]def XK:=Value->Option Addr->Hp->Prop
@[reducible]def St:=List (Option V)
@[reducible]def VK:=V->Hp->Prop
@[reducible]def TE:=St->Hp->VK->Prop
@[reducible]def TT:=St->Hp->(Bool->Hp->Prop)->Prop
@[reducible]def TA:=St->Hp->(List V->Hp->Prop)->Prop
structure ZA where
 nx:St->Hp->Prop
 rt:VK
 bk:St->Hp->Prop:=λ_ _=>Rk
 ct:St->Hp->Prop:=λ_ _=>Rk
@[reducible]def TS:=Ends->St->Hp->Prop
inductive EP QDn QAM QCC QAR(u:η)QKQ:Prop
 |mk (v H':_) QHm (_:ae v u) (_:Q v H')
inductive TP QDn QAM QCC QEA QK3 QKQ:Prop
 |mk (H':_) QHm (_:Q b H')
inductive AP QDn QAM QCC(Q:γ V->Hp->Prop)QD_ QKQ:Prop
 |mk (vs H':_) QHm (_:ad vs us) (_:Q vs H')
abbrev SP QDn QAM(D:ZA)(f:Flow)QKQ:Prop:=
 match f with
 |.next=>∃σ' H',f' X QE σ' H' s'/\D.nx σ' H'
 |.brk=>∃σ' H',f' X QE σ' H' s'/\D.bk σ' H'
 |.YB=>∃σ' H',f' X QE σ' H' s'/\D.ct σ' H'
 |.ret u=>∃v σ' H',f' X QE σ' H' s'/\ae v u/\D.rt v H'
abbrev PE QDn(e:SH)(t:TE):Prop:=
 ∀QAM QB_ QCC QAH QAR,f' X QE σ H s->t σ H Q->Fr QAB X.A QGE QCr X.xe s
abbrev PT QDn(e:SH)(t:TT):Prop:=
 ∀QAM QB_ QCC QAH QEA,f' X QE σ H s->t σ H Q->Fr QAB X.A (isTrue e X.QC QGE) (TP X QE σ Q) X.xe s
abbrev PW QDn(e:SH)(t:TT):Prop:=
 ∀(whole:Sem η)QAM QB_ QCC QAH QEA,f' X QE σ H s->t σ H Q->Fr QAB X.A (isTrue e X.QC whole) (TP X QE σ Q) X.xe s
def PW.pt(h:PW X e t):PT X e t:=h _
abbrev PA QDn(es:γ SH)QG9:Prop:=
 ∀(Ri:UL)QAM QB_ QCC QAH(Q:γ V->Hp->Prop),f' X QE σ H s->t σ H Q->Fr QAB X.A (spliced (ST Ri QFS)) (AP X QE σ Q) X.xe s
abbrev PS QDn(st:Rb)(t:TS):Prop:=
 ∀QAM QB_ QCC QAH(D:ZA),f' X QE σ H s->t D σ H->Fr QAB X.A (exec st X.QC) (SP X QE D) X.xe s
abbrev Bd QDn(st:γ Rb)(t:TS):Prop:=
 ∀QAM QB_ QCC QAH(D:ZA),f' X QE σ H s->t D σ H->Fr QAB X.A (execs st X.QC) (SP X QE D) X.xe s
def nb{t:Sem c}{Q b:c->ω->Prop}(h:Fr M A t Q E s)(d:∀a s,Q a s->b a s):Fr M A t b E s:=RQ h d λ_ _ x=>x
section
variable{X:Cx}
inductive bu QBB QCC QAH QAR:Prop
 |mk (v:_) (_:σ[i]?<*δ v) QHn
abbrev tC(v:V):TE:=λ_ H Q=>Q v H
def zB{Ri:UL}(w:X.N[i]?<*x)(o:HA X.QC.RF x)(g:((x==("__debug__":QF))=ν)>>>0)(j:((x==("__classdict__":QF))=ν)>>>0):PE X QEz (bu i):=by
 intro f s n H Q I h;let⟨v,e,h⟩:=h;let⟨m,p,t⟩:=I.loc;let⟨u,r,l⟩:=t i x v w e o;let d:EP X f n Q u s:=(v,H,I,r,h);rcases l with⟨b,q⟩|⟨b,c,k,a⟩
 .exact wpAny_Name (wpAny_loadName_local I.ok.Ut b p q d) g
 .rcases b with b|b
  .exact wpAny_Name (wpAny_loadName_cell I.ok.Ut b k a d) g
  .exact wpAny_Name (wpAny_loadName_free I.ok.Ut b k a d j) g
def b'{i j Ri}:PE X (.Constant QJR j Ri) (tC QJR):=λ_ _ _ H _ I h=>wpAny_Constant_int (.QG i,H,I.Wa _,QCI,h)
def BX{b j Ri}:PE X (.Constant (.UV b) j Ri) (tC QJS):=λ_ _ _ H _ I h=>Constant_bool (.bl b,H,I,1,h)
def El{j Ri}:PE X (.Constant .ε j Ri) (tC .Uv):=λ_ _ _ H _ I h=>Constant_none (.Uv,H,I,1,h)
def ms{x j Ri}:PE X (.Constant (.QZ x) j Ri) (tC (.QZ x)):=λ_ _ _ H _ I h=>Vf.Constant_str (.QZ x,H,I.Wa _,QCI,h)
abbrev Gl QDn QEh:Prop:=X.QC.Sy x<*.globalImplicit
def sB{b:St}QK6(d:Gl X x)(c:X.mg x<*u)(h:Q u s)(e:((x==("__debug__":QF))=ν)>>>0):Fr QAB X.A (Sc QEz X.QC) Q E s:=
 Vf.Name_function_global I.ok.Ut d (Vf.loadGlobal_global (by rw[I.ok.glob];show I.Zb.glob.Ti I.bk) c h) e
def u_ QDk{b:St}{Ri:UL}QK6(f:Gl X x)(e:X.mg x=ε)(c:Xl x<*u)(h:Q u s)(d:(x≠"__name__")>>>0)(g:((x==("__debug__":QF))=ν)>>>0):Fr QAB X.A (Sc QEz X.QC) Q E s:=by
 let⟨i,h1,h2⟩:=I.Zb.blt;show Vf.Name_function_global I.ok.Ut f (Vf.loadGlobal_builtin (by rw[I.ok.glob];show I.Zb.glob.Ti I.bk) e (by rw[I.ok.blt];show h1.Ti I.bk) ((h2 x d).ο c) h) g
def HB(b:Gl X x)(a:X.mg x<*u)QIC(c:((x==("__debug__":QF))=ν)>>>0):PE X QEz (tC v):=
 λ_ _ _ H _ I h=>sB I b a (v,H,I,r,h) c
def iV{Ri:UL}(d:Gl X x)(c:X.mg x=ε)(a:Xl x<*u)QIC(b:(x≠"__name__")>>>0)(e:((x==("__debug__":QF))=ν)>>>0):PE X QEz (tC v):=
 λ_ _ _ H _ I h=>u_ I d c a (v,H,I,r,h) b e
variable{a b:SH}{ta tb:TE}{Ri:UL}
inductive Oc QEA(x:V)QDz:Prop
 |mk (c:_) (_:x=.bl c) (_:Q c H1)
abbrev tB(t:TE):TT:=λσ H Q=>t σ H (Oc Q)
def Fv(h:PE X e t)(l:(∀c,isTrue e X.QC c=(do let v <-c;standAt e.Ri;holding [v] (truthy v)))>>>7):PT X e (tB t):=by
 intro f s i H Q I hw;refine isTrue_plain (nb (h f s i H _ I hw) λv o g=>?_) (l _);let⟨x,n,m,j,k⟩:=g;let⟨d,ζ,q⟩:=k;cases j;show Tr (n,m,q)
variable{tA tB':TT}{Ww:γ SH}
abbrev K_(t u:TT):TT:=λσ H Q=>t σ H λc H1=>if c=π then u σ H1 Q else Q ν H1
abbrev Od(t u:TT):TT:=λσ H Q=>t σ H λc H1=>if c=π then Q π H1 else u σ H1 Q
abbrev K'(t:TT):TT:=λσ H Q=>t σ H λc H1=>Q (!c) H1
def HD(g:PT X a tA):PW X (.ZB .And [a] Ri) tA:=by
 intro i d s f H Q I h;refine isTrue_and QID;cases c with
 |π=>show isTrue_and_nil e
 |ν=>show e
def Fx(g:PT X a tA):PW X (.ZB .Or [a] Ri) tA:=by
 intro i d s f H Q I h;refine isTrue_or QID;cases c with
 |ν=>show isTrue_or_nil e
 |π=>show e
def Gm(n:PT X a tA)(m:PW X (.ZB .And (b::Ww) Ri) tB'):PW X (.ZB .And (a::b::Ww) Ri) (K_ tA tB'):=by
 intro k d s f H Q I h;refine isTrue_and QIE;let⟨j,i,g⟩:=e;cases c with
 |π=>show m k d l f j Q i g
 |ν=>show(j,i,g)
def AQ(n:PT X a tA)(m:PW X (.ZB .Or (b::Ww) Ri) tB'):PW X (.ZB .Or (a::b::Ww) Ri) (Od tA tB'):=by
 intro k d s f H Q I h;refine isTrue_or QIE;let⟨j,i,g⟩:=e;cases c with
 |π=>show(j,i,g)
 |ν=>show m k d l f j Q i g
def G8(i:PT X a tA):PT X (.UnaryOp .Not a Ri) (K' tA):=by
 intro d s g H Q I h;show isTrue_not (nb (i d s g H (λc f=>Q (!c) f) I h) λc s' e=>by let⟨f,j,q⟩:=e;show(f,j,q))
inductive zm QKW QCC QAR(x:V)QDz:Prop
 |mk (c:_) (_:x=.bl c) (_:if c=π then tb σ H1 Q else Q (.bl ν) H1)
abbrev Oe QKW:TE:=λσ H Q=>ta σ H (zm ta tb σ Q)
inductive Of QKW QCC QAR(x:V)QDz:Prop
 |mk (c:_) (_:x=.bl c) (_:if c=π then Q QIV H1 else tb σ H1 Q)
abbrev Lb QKW:TE:=λσ H Q=>ta σ H (Of ta tb σ Q)
inductive zf QAR(x:V)QDz:Prop
 |mk (c:_) (_:x=.bl c) (_:Q (.bl (!c)) H1)
abbrev Og(ta:TE):TE:=λσ H Q=>ta σ H (zf Q)
def Fy{op}(h:PE X a t):PE X (.ZB op [a] Ri) t:=λc s d H Q I hw=>BoolOp_one (h c s d H Q I hw)
def Gn(n:PE X a ta)(m:PE X (.ZB .And (b::Ww) Ri) tb):PE X (.ZB .And (a::b::Ww) Ri) (Oe ta tb):=by
 intro d s g H Q I h;refine BoolOp_and QIF;let⟨x,j,i,l,e⟩:=f;let⟨c,ζ,e⟩:=e;cases l;refine Tr ?_;cases c with
 |π=>show m d k g j Q i e
 |ν=>show(.bl ν,j,i,1,e)
def Oh(n:PE X a ta)(m:PE X (.ZB .Or (b::Ww) Ri) tb):PE X (.ZB .Or (a::b::Ww) Ri) (Lb ta tb):=by
 intro d s g H Q I h;refine BoolOp_or QIF;let⟨x,j,i,l,e⟩:=f;let⟨c,ζ,e⟩:=e;cases l;refine Tr ?_;cases c with
 |ν=>show m d k g j Q i e
 |π=>show(.bl π,j,i,1,e)
def A2(j:PE X a ta):PE X (.UnaryOp .Not a Ri) (Og ta):=by
 intro d s g H Q I h;refine UnaryOp_ (nb (j d s g H _ I h) λv m f=>?_);let⟨x,l,k,i,e⟩:=f;let⟨c,ζ,e⟩:=e;cases i;show not_of (Tr (.bl (!c),l,k,1,e))
abbrev Oi(t:TT)QKW:TE:=λσ H Q=>t σ H λc H1=>if c=π then ta σ H1 Q else tb σ H1 Q
def dH(m:PT X c tA)(o:PE X a ta)(n:PE X b tb):PE X (.IfExp c a b Ri) (Oi tA ta tb):=by
 intro e s f H Q I h;refine wpAny_IfExp (nb (m e s f H _ I h) λd i g=>?_);let⟨l,k,j⟩:=g;cases d with
 |π=>show o e i f l Q k j
 |ν=>show n e i f l Q k j
end
abbrev k9 QBQ QAH QCs QCK:Prop:=
 Rd H a QFn \/
  ∃(o:UQ)(R9:R_ η)(n:χ),K.ς a=δ o/\o.SS=.QU "list"/\o.Uk=ε/\o.RH=.WA R9 n/\R9.Q'≤Φ/\ad xs R9.Qx
abbrev q5 QBQ QAH QCs QCK:Prop:=
 Rd H a QHM \/
  ∃(o:UQ)(R9:R_ η)(n:χ),K.ς a=δ o/\o.SS=.QU "tuple"/\o.RH=.WA R9 n/\R9.Q'≤Φ/\ad xs R9.Qx
abbrev Lc:η->ψ V
 |.ε=>δ .Uv
 |.UV b=>δ QJS
 |.QG i _=>δ QJR
 |.QZ x _=>δ (.QZ x)
 |.bytes b _=>δ (.byt b)
 |.float b _=>δ (.flt b)
 |.ξ a=>δ QAd
 |.QU n=>δ (.ty n)
 |_=>ε
def ae.abs(r:ae x u):Lc u<*x:=by
 cases x with
 |Uv=>cases r;rfl
 |bl _=>cases r;rfl
 |QG _=>let⟨t,ζ⟩:=r;rfl
 |QZ _=>let⟨t,ζ⟩:=r;rfl
 |byt _=>let⟨t,ζ⟩:=r;rfl
 |flt _=>let⟨t,ζ⟩:=r;rfl
 |ξ _=>cases r;rfl
 |ty _=>cases r;rfl
def ae.Tp(r:ae x u)(q:ae y u):x=y:=ψ.δ.Tp (r.abs.QI.ο q.abs)
def ad.Tp{xs ys:γ V}QCH(h:ad xs us)(k:ad ys us):xs=ys:=by
 induction h generalizing ys with
 |S5=>cases k;rfl
 |Rc r _ j=>cases k with|Rc a t=>rw[r.Tp a,j t]
section
variable{X:Cx}{QE:γ QA_}{σ:St}{H:Hp}{s:ω}{a:θ}{xs ys:γ V}
def k9.of QC7(h:H a<*.QV xs):k9 K H a xs:=.RN (.RN h)
def q5.of QC7(h:H a<*.Rn xs):q5 K H a xs:=.RN (.RN h)
def f'.V8 QAA(h:k9 X.K H a xs):∃R9:γ η,ad xs R9/\PlainL s.ρ a R9.Θ/\xs.β≤Φ:=by
 rcases h with h|⟨o,R9,n,c,f,d,b,hz,r⟩
 .obtain ⟨z,R9,n,r,e⟩:=h.ok I.S8;show(R9,r,(_,n,e,5,1),z)
 .refine (R9.Qx,r,(o,n,I.Xb a o c,f,d,by simpa using b),3);let e:=r.β;simp only[UA]at e;show Fp e hz
def f'.Uu QAA(h:q5 X.K H a xs):∃R9:γ η,ad xs R9/\IsTup s.ρ a R9.Θ/\xs.β≤Φ:=by
 rcases h with h|⟨o,R9,n,c,d,b,hz,r⟩
 .obtain ⟨z,R9,r,p⟩:=h.ok I.S8;show(R9,r,p,z)
 .refine (R9.Qx,r,(o,I.Xb a o c,d,n,by simpa using b),3);let e:=r.β;simp only[UA]at e;show Fp e hz
def f'.list_inj QAA(h:k9 X.K H a xs)(h':k9 X.K H a ys):xs=ys:=by
 let⟨R9,r,⟨o,n,e,_,_,d⟩,_⟩:=I.V8 h;let⟨its',b,⟨c,f,e',_,_,d'⟩,_⟩:=I.V8 h';rw[e]at e';cases e';rw[d]at d';injection d' with d1 _;have:R9=its':=by simpa using Qw R_.Qx d1
 subst this;show r.Tp b
def f'.tuple_inj QAA(h:q5 X.K H a xs)(h':q5 X.K H a ys):xs=ys:=by
 let⟨R9,r,⟨o,e,_,n,d⟩,_⟩:=I.Uu h;let⟨its',b,⟨c,e',_,f,d'⟩,_⟩:=I.Uu h';rw[e]at e';cases e';rw[d]at d';injection d' with d1 _;have:R9=its':=by simpa using Qw R_.Qx d1
 subst this;show r.Tp b
end
instance Cx.Z' QDn QBM:Cx:={X with xe:=E}
instance Cx.nox QDn:Cx:=X.Z' λ_ _=>Rk
def Cx.Ok.Z'{X:Cx}(ok:X.Ok)QBM:(X.Z' E).Ok:=
 (ok.Zb,ok.Ut,ok.glob,ok.blt,ok.Zt,ok.Tp,ok.Vh,ok.cab,ok.hd,ok.Ud,ok.stk,ok.exf,ok.bs,ok.bsz,ok.noex,ok.exfs,ok.ZM,ok.frf)
def Cx.Ok.W8{X:Cx}(ok:(X.Z' E).Ok):X.Ok:=
 (ok.Zb,ok.Ut,ok.glob,ok.blt,ok.Zt,ok.Tp,ok.Vh,ok.cab,ok.hd,ok.Ud,ok.stk,ok.exf,ok.bs,ok.bsz,ok.noex,ok.exfs,ok.ZM,ok.frf)
section
variable{X:Cx}{QE:γ QA_}{σ:St}{H:Hp}{s:ω}{E:η->ω->Prop}
def f'.Z' QAA QBM:f' (X.Z' E) QE σ H s:=(I.ok.Z' E,I.os,I.V9,I.υ,I.loc,I.SF,I.SB,I.X2,I.pin,I.S8,I.TL)
def f'.W8(I:f' (X.Z' E) QE σ H s):f' X QE σ H s:=(I.ok.W8,I.os,I.V9,I.υ,I.loc,I.SF,I.SB,I.X2,I.pin,I.S8,I.TL)
def SP.W8(h:SP (X.Z' E) QE D f s'):SP X QE D f s':=by
 cases f with
 |next=>let⟨a,H',I,q⟩:=h;show(a,H',I.W8,q)
 |brk=>let⟨a,H',I,q⟩:=h;show(a,H',I.W8,q)
 |YB=>let⟨a,H',I,q⟩:=h;show(a,H',I.W8,q)
 |ret u=>let⟨v,a,H',I,r,q⟩:=h;show(v,a,H',I.W8,r,q)
def Bd.nox{st:γ Rb}(h:Bd X.nox st t):Bd X st t:=λQE s σ H D I hw=>
 RQ (h QE s σ H D (I.Z' _) hw) (λ_ _ q=>q.W8) λ_ _ z=>Rk.SJ z
end
section
variable{X:Cx}{st:Rb}{Ww:γ Rb}{t u:TS}{e:SH}{te:TE}{Ri:UL}
abbrev V4:TS:=λD σ H=>D.nx σ H
abbrev aO(t u:TS):TS:=λD σ H=>t {D with nx:=u D} σ H
def so:Bd X [] V4:=λ_ _ a H _ I h=>Va (a,H,I,h)
def h_(h1:PS X st t)(h2:Bd X Ww u):Bd X (st::Ww) (aO t u):=by
 intro a s c H D I h;refine W6 (nb (h1 a s c H {D with nx:=u D} I h) λf d q=>?_);cases f with
 |next=>
  let⟨b,H',g,q⟩:=q;show h2 a d b H' D g q
 |ret v=>show q
 |brk=>show q
 |YB=>show q
def hY(h1:PS X st t):Bd X [st] t:=by
 intro a s b H D I h;refine W6 (nb (h1 a s b H D I h) λf c q=>?_);cases f with
 |next=>show Va q
 |ret v=>show q
 |brk=>show q
 |YB=>show q
abbrev tBreak:TS:=λD σ H=>D.bk σ H
def km:PS X (.Break Ri) tBreak:=λ_ _ a H _ I h=>wpAny_Break (a,H,I,h)
def f'.quiet{b:St}QK6:interactive X.QC=ν:=by simp[interactive,I.ok.Ut]
abbrev Oj(te:TE):TS:=λD σ H=>te σ H λ_ H1=>D.nx σ H1
def AH(g:PE X e te)(f:(W9 e ε Ri.XC X.QC=pure ν)>>>4):PS X (.SH e Ri) (Oj te):=by
 intro a s c H D I h;show wpAny_Expr_any (nb (g a s c H _ I h) λv k b=>by let⟨x,j,i,l,d⟩:=b;show(c,j,i,d)) I.quiet f
abbrev ix(te:TE):TS:=λD σ H=>te σ H D.rt
def mq(g:PE X e te):PS X (.Return (δ e) Ri) (ix te):=by
 intro a s c H D I h;show wpAny_Return_some (nb (g a s c H _ I h) λv k b=>by let⟨x,j,i,d,f⟩:=b;show(x,c,j,i,d,f))
abbrev Ld(c:TT)(t u:TS):TS:=λD σ H=>c σ H λb H1=>if b=π then t D σ H1 else u D σ H1
def q_(n:PT X c tc)(p:Bd X a t)(o:Bd X b u):PS X (.If c a b Ri) (Ld tc t u):=by
 intro f s g H D I h;refine wpAny_If (nb (n f s g H _ I h) λd j i=>?_);let⟨m,l,k⟩:=i;cases d with
 |π=>show p f j g m D l k
 |ν=>show o f j g m D l k
abbrev tNever:TS:=λ_ _ _=>Rk
def Jl:PS X st tNever:=λ_ _ _ _ _ _ h=>h.SJ
end
@[reducible]def TG:=V->St->Hp->(St->Hp->Prop)->Prop
@[reducible]def TGs:=List V->St->Hp->(St->Hp->Prop)->Prop
abbrev PG QDn(target:SH)(t:TG):Prop:=
 ∀QAM QB_ QCC QAH(v:V)(u:η)(Q:St->Hp->Prop),f' X QE σ H s->ae v u->t v σ H Q->
  Fr QAB X.A (Y_ target X.QC u) QFo X.xe s
abbrev Kj QDn(ts:γ SH)(t:TGs):Prop:=
 ∀QAM QB_ QCC QAH QAI QD_(Q:St->Hp->Prop),f' X QE σ H s->ad vs us->t vs σ H Q->
  Fr QAB X.A (assignInOrder ((Y9 ts X.QC).Q_ QBr) us) QFo X.xe s
@[reducible]def Jm:=V->V->V->Hp->(Hp->Prop)->Prop
abbrev yt QDn(t:Jm):Prop:=
 ∀QAM QB_ QCC QAH(o i v:V)(ov iv u:η)(Q:Hp->Prop),f' X QE σ H s->ae o ov->ae i iv->ae v u->t o i v H Q->
  Fr QAB X.A (setItem ov iv u) (λ_ s'=>∃H',f' X QE σ H' s'/\Q H') X.xe s
section
variable{X:Cx}{Ri:UL}
abbrev AY QBB:TG:=λv σ H Q=>Q (σ.Uw i QF1) H
def cn(e:X.N.R7)(c:X.N[i]?<*x)(b:C6 X.QC.RF x)(d:QA0>>>8):PG X QEz (AY i):=by
 intro a s g H v u Q I r h;show wpAny_assign_Name (Al I e c b r (λs' f=>(_,H,f,h)) d)
abbrev gNil:TGs:=λvs σ H Q=>vs=[]/\Q σ H
abbrev vw(t:TG)(u:TGs):TGs:=λvs σ H Q=>∃v r,vs=v::r/\t v σ H λσ' H'=>u r σ' H' Q
def Jn:Kj X [] gNil:=by
 intro a s b H vs us Q I r h;let⟨e,h⟩:=h;subst e;cases r;show assignInOrder_nil (b,H,I,h)
def EZ(h1:PG X e t)(h2:Kj X d u)(k:((Y9 (e::d) X.QC).Q_ QBr=Y_ e X.QC::(Y9 d X.QC).Q_ QBr)>>>4):Kj X (e::d) (vw t u):=by
 intro a s f H vs us Q I r h;let⟨v,o,l,h⟩:=h;subst l;cases r with
 |Rc r i=>
  rw[k];refine assignInOrder_cons (nb (h1 a s f H _ _ _ I r h) λ_ g c=>?_);let⟨b,n,m,j⟩:=c;show h2 a g b n _ _ Q m i j
inductive Nu QBQ QCm(t:TGs)(v:V)QCC QAH(Q:St->Hp->Prop):Prop
 |mk (a xs:_) (_:v=.ξ a) (_:q5 K H a xs) (_:xs.β=n) (_:t xs σ H Q)
def dF{k:χ}(q:X.XV=π)(h:Kj X d t)(m:((Y9 d X.QC).β=n)>>>4)(Vw:((Y9 d X.QC).findIdx? QBF=ε)>>>4):PG X (.Wr d k Ri) (Nu X.K n t):=by
 intro c s f H v u Q I r hw;let⟨a,xs,w,l,p,hw⟩:=hw;subst w;cases r;let⟨R9,g,j,hz⟩:=I.Uu l;refine assign_Tuple_tuple (I.ok.hd q) j (by simp[m,<-p,g.β]) Vw λh' i=>?_;let x:f' X c f H {s with ρ:=h'}:=I.XD (t':=s.QT) λb o e=>i b o QKn e;show h c _ f H xs _ Q x QIW hw
abbrev Le(to ti:TE)(t:Jm):TG:=λv σ H Q=>to σ H λo H1=>ti σ H1 λi H2=>t o i v H2 λH3=>Q σ H3
def CO(z:PE X o to)(A:PE X i j)(w:yt X t)(B:(∀v,Y_ (.Yp o i Ri) X.QC v=(do
   let b <-holding [v] (Sc o X.QC)
   let c <-holding [v,b] (Sc i X.QC)
   standAt Ri
   holding [v,b,c] (setItem b c v)
   release [v,b,c] []))>>>7):PG X (.Yp o i Ri) (Le to j t):=by
 intro a s d H v u Q I r h;rw[B];refine e_ (RZ (nb (z a s d H _ I h) λb k f=>?_));let⟨x,L,E,m,q⟩:=f;refine e_ (RZ (nb (A a k d L _ E q) λc s2 e=>?_));let⟨y,J,D,l,p⟩:=e;refine e_ (Tm (e_ (RZ (nb (w a s2 d J x y v b c u _ D m l r p) λ_ M g=>?_))));let⟨F,C,n⟩:=g;show wpAny_release (d,F,C,n)
abbrev aJ(te:TE)(g:TG):TS:=λD σ H=>te σ H λx H1=>g x σ H1 D.nx
def CP(n:PE X e f)(m:PG X b g)(l:(swapsWithSole [b] e Ri.XC X.QC=pure ν)>>>4)(hw:(swappedStores [b] e X.QC=pure ε)>>>4)(h1:((Y9 [b] X.QC).Q_ QBr=[Y_ b X.QC])>>>4):PS X (.Assign [b] e Ri) (aJ f g):=by
 intro a s d H D I h;refine wpAny_Assign_stores (nb (n a s d H _ I h) λv i c=>?_) l hw;let⟨x,p,o,j,k⟩:=c;rw[h1];show nb (m a i d p x v _ o j k) λ_ s2 q=>q
def zy(p:X.N.R7)(m:X.N[i]?<*x)(k:C6 X.QC.RF x)(o:PE X e f)(l:(W9 e (δ (.SG x a)) Ri.XC X.QC=pure ν)>>>4)(n:QA0>>>8):PS X (.Assign [.SG x a] e Ri) (aJ f (AY i)):=by
 intro b s d H D I h;refine wpAny_Assign_Name (nb (o b s d H _ I h) λv u c=>?_) l;let⟨y,t,r,g,j⟩:=c;show Al r p m k g (λs2 q=>(_,t,q,j)) n
abbrev sP(c:TT)(tb:TS):TS:=λD σ H=>∃W:χ->St->Hp->Prop,(∃m,W m σ H)/\∀m σ H,W m σ H->
 c σ H λb H1=>if b=π then ∃N:St->Hp->Prop,(∀σ' H',N σ' H'->∃m',m'<m/\W m' σ' H')/\tb {D with nx:=N,ct:=N,bk:=D.nx} σ H1 else D.nx σ H1
def dD(hp:Se QAB X.A X.QC X.xe)(O:PT X c tc)(P:Bd X j J):PS X (.While c j [] Ri) (sP tc J):=by
 intro d s C H D I h;let⟨W,⟨M,F⟩,i⟩:=h;refine wpAny_While (codeAny_whileLoop (λn s'=>∃g H',f' X d g H' s'/\W n g H') ?_ M (C,H,I,F));rintro n L⟨e,B,Q,E⟩;refine VY hp (nb (O d L e B _ Q (i n e B E)) λb s2 t=>?_);let⟨z,y,m⟩:=t;cases b with
 |π=>
  let⟨N,x,m⟩:=m;rw[IO ζ];refine VY hp (nb (P d s2 e z _ y m) λf R l=>?_);cases f with
  |next=>
   let⟨a,k,u,p⟩:=l;let⟨q,r,o⟩:=x a k p;show(q,r,a,k,u,o)
  |YB=>
   let⟨a,k,u,p⟩:=l;let⟨q,r,o⟩:=x a k p;show(q,r,a,k,u,o)
  |brk=>show l
  |ret v=>show l
 |ν=>
  rw[Cl Ψ.RE];show Va (e,z,y,m)
end
structure It where
 go:χ->Hp->Prop
 yld:χ->Hp->V->Hp->Prop
 We:χ->Hp->Prop
abbrev aL QDn QAM QAH(b:θ):Prop:=
 H b=ε/\b≠X.QC.SU/\b∉X.fs/\QCL/\QBe/\∀p∈X.pn++QE,p.1≠b
def f'.fpOk{f:St}QBA(I:f' X a f H s)(d:s⁻¹≤b)(g:H' b=ε):aL X a H' b:=by
 refine(g,XT (QD I.lt d),I.nofs d,.Rh (QB I.sz d),λx c e z=>?_,λp hp z=>?_)
 .obtain ⟨v,q⟩:=I.SF x c e;show QL (QD q.lt (by rw[z];show d)) (XB _)
 .exact QL (QD (lt_size (I.pin p hp).1) (by rw[z];show d)) (XB _)
structure gm QKU QBP QBQ(tg:SH)(J:It)(fp:γ θ)(it:θ)(tn:χ->RC->Prop):Prop where
 mem:it∈fp
 Yd:∀i h,tn i h->∀b∈fp,∃o,h.Δ b=δ o/\∀v,o.RH≠.SF v
 UB:∀i h h',tn i h->(∀b∈fp,∀o,h.Δ b<*o->h'.Δ b<*o)->tn i h'
 Yi:∀QDn,X.Ω=P->X.w=w->X.K=K->X.XV=π->∀QBB QAM QB_ QCC QAH QBM,f' X QE σ H s->(∀b∈fp,aL X QE H b)->tn i s.ρ->J.go i H->
  Fr (LE P w) X.A (WE (.ξ it)) (λr s1=>∃u,r=δ u/\
   Fr (LE P w) X.A (ZE tg (.ξ it) u) (λ_ s2=>∃x H',f' X QE σ H' s2/\ae x u/\J.yld i H x H'/\tn (i+1) s2.ρ/\∀b∈fp,H' b=ε) E s1) E s
 done:∀QDn,X.Ω=P->X.w=w->X.K=K->X.XV=π->∀QBB QAM QB_ QCC QAH QBM,f' X QE σ H s->(∀b∈fp,aL X QE H b)->tn i s.ρ->J.We i H->
  Fr QA' X.A (WE QCP) (λr s1=>r=ε/\f' X QE σ H s1) E s
 self:∀(A:Qy)QBB QB_ QGW QBM,tn i s.ρ->Q QCP s->Fr QA' A (YX QCP) Q E s
@[reducible]def TI:=St->Hp->(It->Hp->Prop)->Prop
inductive Nv QDn QAM QCC(tg:SH)QB7(itv:η)(s2:ω):Prop
 |mk (it:θ) (fp:γ θ) (tn:χ->RC->Prop) (J:It) QBW (_:itv=.ξ it) (_:f' X QE σ H' s2) (_:gm X.Ω X.w X.K tg J fp it tn) (_:tn 0 s2.ρ) (_:(∀b∈fp,aL X QE H' b)) (_:R J H')
abbrev PI QDn(tg UC:SH)(wi:TI):Prop:=
 ∀QAM QB_ QCC QAH QB7,f' X QE σ H s->wi σ H R->
  Fr QAB X.A (Sc UC X.QC) (λv s1=>Fr QAB X.A (YX v) (Nv X QE σ tg R) X.xe s1) X.xe s
def eV{M:Model}{A:Qy}(c:s.ρ.Δ it<*o)(f:o.SS=.QU n)(e:o.RH=.SD vs)(d:["enumerate","zip","dict_itemiterator","dict_reverseitemiterator","odict_iterator","itertools.zip_longest","itertools.pairwise"].Qz n=ν)(a:Q () s):Fr M A (ZE b QCP u) Q E s:=by
 unfold ZE;cases b<;>first
  |show h9 a
  | (cases u<;>first
    |show h9 a
    | (refine e_ (Ys c ?_)
       rw[f,e];change Fr M A (if (["enumerate","zip","dict_itemiterator","dict_reverseitemiterator","odict_iterator","itertools.zip_longest","itertools.pairwise"].Qz n&&vs[0]?==δ (R6 _))=π then _ else _) Q E s;rw[Cl (by intro h;rw[d,Ψ.false_and]at h;cases h)];show h9 a))
abbrev Fz QBQ QCs:It:=
 ⟨λi H=>∃xs x,k9 K H a xs/\xs[i]?<*x,λi H x H'=>H'=H/\∀xs,k9 K H a xs->xs[i]?<*x,λi H=>∃xs,k9 K H a xs/\xs.β≤i⟩
abbrev Nw QBQ QCs:It:=
 ⟨λi H=>∃xs x,q5 K H a xs/\xs[i]?<*x,λi H x H'=>H'=H/\∀xs,q5 K H a xs->xs[i]?<*x,λi H=>∃xs,q5 K H a xs/\xs.β≤i⟩
abbrev E7(lo:Λ)QCm:It:=(λi _=>i<n,λi H x H'=>H'=H/\x=.QG (lo+i),λi _=>n≤i)
def gu QC7(a it:θ):gm P w K U (Fz K a) [it] it (λi h=>h.IsListIter it a i)  where
 mem:=by simp
 Yd:=λi h st b g=>by
  let e:b=it:=by simpa using g
  subst e;let⟨o,e,c,d⟩:=st;show(o,e,λv z=>by rw[d]at z;cases z)
 UB:=λi h h' st k=>st.at λo e=>k it (!1) o e
 Yi:=by
  intro X t hw y L i f s J H E I m st r;subst t hw y;let⟨xs,x,l,q⟩:=r;let⟨R9,n,p,hz⟩:=I.V8 l;let⟨u,Q,N⟩:=n.Yj q;let⟨F,D,R,C,B,A⟩:=m it (!1);refine wpAny_pyNext_list_item st p.VE (x:=u) (by simpa using Q) λh' j M=>?_;let T:f' X f J H {s with ρ:=h'}:=I.Sr (t':=s.QT) (λb o g e=>(M.2 b g).ο e) F D C B A;let⟨o,e,c,d⟩:=id j;show(u,1,eV (s:={s with ρ:=h'}) e c d (!0) (x,H,T,N,(1,λys O=>by rw[I.list_inj O l];show q),j,λb g=>(m b g).1))
 done:=by
  intro X t hw y L i f s J H E I m st r;subst t hw y;let⟨xs,l,q⟩:=r;let⟨R9,n,p,hz⟩:=I.V8 l;let⟨F,D,R,C,B,A⟩:=m it (!1);let W:=n.β;show wpAny_pyNext_list_end (I.ok.hd L) st p.VE (by simp;show CN W q) λh' S=>(1,I.Sr (t':=s.QT) (λb o g e=>S b o g e) F D C B A)
 self:=λ_ _ _ _ _ st h=>wpAny_pyIter_listiter st h
def mB QC7(a it:θ):gm P w K U (Nw K a) [it] it (λi h=>h.XX it a i)  where
 mem:=by simp
 Yd:=λi h st b g=>by
  let e:b=it:=by simpa using g
  subst e;let⟨o,e,c,d⟩:=st;show(o,e,λv z=>by rw[d]at z;cases z)
 UB:=λi h h' st k=>st.at λo e=>k it (!1) o e
 Yi:=by
  intro X t hw y L i f s J H E I m st r;subst t hw y;let⟨xs,x,l,q⟩:=r;let⟨R9,n,p,hz⟩:=I.Uu l;let⟨u,Q,N⟩:=n.Yj q;let⟨F,D,R,C,B,A⟩:=m it (!1);refine wpAny_pyNext_tuple_item st (show s.ρ.Vv a R9.Θ from p) (x:=u) (by simpa using Q) λh' j M=>?_;let T:f' X f J H {s with ρ:=h'}:=I.Sr (t':=s.QT) (λb o g e=>(M.2 b g).ο e) F D C B A;let⟨o,e,c,d⟩:=id j;show(u,1,eV (s:={s with ρ:=h'}) e c d (!0) (x,H,T,N,(1,λys O=>by rw[I.tuple_inj O l];show q),j,λb g=>(m b g).1))
 done:=by
  intro X t hw y L i f s J H E I m st r;subst t hw y;let⟨xs,l,q⟩:=r;let⟨R9,n,p,hz⟩:=I.Uu l;let⟨F,D,R,C,B,A⟩:=m it (!1);let W:=n.β;show wpAny_pyNext_tuple_end (I.ok.hd L) st (show s.ρ.Vv a R9.Θ from p) (by simp;show CN W q) λh' S=>(1,I.Sr (t':=s.QT) (λb o g e=>S b o g e) F D C B A)
 self:=λ_ _ _ _ _ st h=>wpAny_pyIter_tupleiter st h
def mE QC7(it:θ)(lo:Λ)QCm:gm P w K M (E7 lo n) [it] it (λi h=>IsRangeIter h it (lo+(i:χ)*1) ((n:Λ)-(i:χ)) 1)  where
 mem:=by simp
 Yd:=λi h st b c=>by
  let e:b=it:=by simpa using c
  subst e;show(_,st,λv z=>by
   let B:Data.SD _=Data.SF v:=z;cases B)
 UB:=λi h h' st k=>k it (!1) _ st
 Yi:=by
  intro X l hw m j i a s y H E I f st g;subst l hw m;let⟨x,u,F,r,q,p⟩:=f it (!1);let W:=Walks.Re (Ω:=X.Ω) (w:=X.w) (I.ok.hd j) it lo 1 n;refine W.Yi i s _ _ g st λv h' A D d C=>?_;let⟨t,ζ⟩:=D;let L:f' X a y H {s with ρ:=h',QT:=A}:=I.Sr (λb o c e=>C b o QIX e) x u r q p;refine(0,eV (s:={s with ρ:=h',QT:=A}) (n:="range_iterator") d ζ ζ (!0) (.QG (lo+i),H,L,(t,3),(1,1),d,λb c=>(f b c).1));rw[Λ.mul_one]
 done:=by
  intro X l hw m j i a s y H E I f st g;subst l hw m;let⟨x,u,F,r,q,p⟩:=f it (!1);show wpAny_pyNext_range_end (I.ok.hd j) st (by have:n≤i:=g;show F3 this) λh' J=>(1,I.Sr (t':=s.QT) (λb o c e=>J b o c e) x u r q p)
 self:=λ_ _ _ _ _ st h=>Yr st h
section
variable{X:Cx}{tg:SH}
inductive Ol QBQ QB7(x:V)QDz:Prop
 |mk (a:_) QET (_:(∃xs,k9 K H1 a xs)) (_:R (Fz K a) H1)
abbrev yI QBQ(tl:TE):TI:=λσ H R=>tl σ H (Ol K R)
def iQ(r:PE X l j):PI X tg l (yI X.K j):=by
 intro c s i H R I h;refine nb (r c s i H _ I h) λv d g=>?_;let⟨x,u,f,k,m⟩:=g;let⟨a,e,⟨xs,n⟩,q⟩:=m;subst e;cases k;let⟨R9,w,p,hz⟩:=f.V8 n;refine Wb p.VE ?_;refine(d⁻¹,[d⁻¹],8,u,1,f.XD (t':=d.QT) λb o e=>o9 _ e,gu a _,QC',λb t=>?_,q);let e:b=d⁻¹:=by simpa using t
 subst e;show f.fpOk QA2 (f.S8.SZ QA2)
def kg{d:St}{lo a:Λ}QK7(h1:-(2^62)≤lo)(h2:lo<2^62)(j:-(2^62)≤a)(i:a<2^62)(q:R (E7 lo (a-lo).Ru) H):Fr QAB X.A (YX QAX) (Nv X c d tg R) E {s with ρ:=s.ρ.Rm {SS:=.QU "range",RH:=.SD #[.QG lo t,.QG a u,.QG 1 v]},QT:=g}:=by
 refine wpAny_pyIter_range (IsRange.new ..) (small_one h1 h2 j i) ?_;let f:f' X c d H {s with ρ:=s.ρ.Rm {SS:=.QU "range",RH:=.SD #[.QG lo t,.QG a u,.QG 1 v]},QT:=g}:=I.XD λb o e=>o9 _ e;refine((s.ρ.Rm {SS:=.QU "range",RH:=.SD #[.QG lo t,.QG a u,.QG 1 v]}).SN.Q',[(s.ρ.Rm {SS:=.QU "range",RH:=.SD #[.QG lo t,.QG a u,.QG 1 v]}).SN.Q'],8,H,1,
  f.XD (t':=g) λb o e=>o9 _ e,mE _ lo (a-lo).Ru,3,λb h=>?_,q)
 .let l:lo+((0:χ):Λ)*1=lo:=by simp
  let k:(((a-lo).Ru:χ):Λ)-((0:χ):Λ)=Builtin.W4.Zy lo a 1:=by rw[rangeSize_one];split<;>omega
  change IsRangeIter _ _ (lo+((0:χ):Λ)*1) ((((a-lo).Ru:χ):Λ)-((0:χ):Λ)) 1;rw[l,k];show QN _ ζ
 .let e:b=(s.ρ.Rm {SS:=.QU "range",RH:=.SD #[.QG lo t,.QG a u,.QG 1 v]}).SN.Q':=by simpa using h
  subst e;show f.fpOk QA2 (f.S8.SZ QA2)
inductive Om QB7 QAI QDz:Prop
 |mk (j:Λ) (_:vs=[.QG j]) (_:-(2^62)≤j) (_:j<2^62) (_:R (E7 0 j.Ru) H1)
abbrev yH(ta:TA):TI:=λσ H R=>ta σ H (Om R)
inductive z9 QB7 QAI QDz:Prop
 |mk (i j:Λ) (_:vs=[.QG i,.QG j]) (_:(-(2^62)≤i/\i<2^62/\-(2^62)≤j/\j<2^62)) (_:R (E7 i (j-i).Ru) H1)
abbrev On(ta:TA):TI:=λσ H R=>ta σ H (z9 R)
def E8(n:Gl X "range")(m:X.mg "range"=ε)(o:PA X [a] ta)(l:(BT [a] X.QC=[QC2])>>>4):PI X tg (.T0 (.SG "range" p) [a] [] Ri) (yH ta):=by
 intro b s f H R I h;refine Call_ (u_ I n m boot_range (Su.WZ.Tw (nb (o Ri b s f H _ I h) λus v d=>?_) l ζ));let⟨vs,w,u,i,c⟩:=d;let⟨j,e,c,k,q⟩:=c;subst e;cases i with
 |Rc r g=>
  cases g;let⟨t,ζ⟩:=r;show call_range_1 (kg u Gg F_ c k (by simpa using q))
def Jo QGA(y:Gl X "range")(x:X.mg "range"=ε)(z:PA X [a,b] ta)(w:(BT [a,b] X.QC=[QC2,(ν,Sc b X.QC,)])>>>4)(d:(BT [b] X.QC=[(ν,Sc b X.QC,)])>>>4):PI X tg (.T0 (.SG "range" p) [a,b] [] Ri) (On ta):=by
 intro c s l H R I h;refine Call_ (u_ I y x boot_range (Su.WZ.Tw (nb (z Ri c s l H _ I h) λus B k=>?_) (by rw[w,d]) (by rw[d];rfl)));let⟨vs,C,A,m,g⟩:=k;let⟨i,j,e,⟨g,v,u,o⟩,q⟩:=g;subst e;cases m with
 |Rc r f=>
  cases f with
  |Rc n f=>
   cases f;let⟨t,ζ⟩:=r;let⟨t',ζ⟩:=n;show call_range_2 (kg A g v u o q)
abbrev Lf(wi:TI)(g:TG)(tb:TS):TS:=λD σ H=>wi σ H λJ H1=>∃W:χ->χ->St->Hp->Prop,(∃m,W 0 m σ H1)/\∀i m σ H,W i m σ H->
 (J.We i H/\D.nx σ H)\/(J.go i H/\∃N:St->Hp->Prop,(∀σ' H',N σ' H'->∃m',m'<m/\W (i+1) m' σ' H')/\∀x H',J.yld i H x H'->g x σ H' λσ2 H2=>tb {D with nx:=N,ct:=N,bk:=D.nx} σ2 H2)
abbrev iN(fp:γ θ)QKP:γ QA_:=fp.filterMap λb=>(h.Δ b).Q_ λo=>(b,o,)
def HE(a:b∈c)(e:h.Δ b<*o):(b,o,)∈iN c h:=γ.mem_filterMap.Sz (b,a,by rw[e];rfl)
def qZ(hp:p∈iN c h):p.1∈c/\h.Δ p.1<*p.2:=by
 let⟨b,a,e⟩:=γ.mem_filterMap.mp hp;cases q:h.Δ b with
 |ε=>rw[q]at e;cases e
 |δ o=>
  rw[q]at e;let e':(b,o,)=p:=ψ.δ.Tp e;subst e';show(a,q)
def f'.pinned{c:St}(I:f' X a c H s)(i:∀b∈g,aL X a H b)(h:∀b∈g,∃o,s.ρ.Δ b=δ o/\∀v,o.RH≠.SF v):f' X (a++iN g s.ρ) c H s:=
 I.pins_of λp hp=>(Rp.mp hp).SJ (λz=>I.pin p (Ry _ z)) λz=>by
  let⟨f,e⟩:=qZ z;let⟨l,k,j,_⟩:=i p.1 f;let⟨o,e',d⟩:=h p.1 f;rw[e]at e';cases e';show(e,l,k,j,d)
def f'.unpinned{b:St}(I:f' X (a++pl) b H s):f' X a b H s:=I.pins_of λp hp=>I.pin p (Ry _ (Vb _ hp))
def BD(hp:Se QAB X.A X.QC X.xe)(hc:X.XV=π)(hi:PI X tg UC wi)(hg:PG X tg g)(p:Bd X M tb)(hs:QA4>>>7):PS X (.For tg UC M [] Ri) (Lf wi g tb):=by
 intro c s σ H D I h;refine wpAny_For (nb (hi c s σ H _ I h) λv s1 h1=>nb h1 λag s2 h2=>?_) hs;let⟨it,L,tn,J,H2,e,I2,T,Q,f2,W,⟨m0,w0⟩,B⟩:=h2;subst e;let l:∀QIG,QIY->∀b∈L,aL X c H' b:=λhn b p=>(hn b p,(f2 b p).2);refine codeAny_forLoop_any (λn s'=>∃i k H',f' X c k H' s'/\tn i s'.ρ/\QIY/\W i n k H') ?_ m0 ((0),σ,H2,I2,Q,λb p=>(f2 b p).1,w0);rintro n s3⟨i,j,O,I3,C,F,w3⟩;rcases B i n j O w3 with⟨We,qn⟩|⟨go,N,hN,step⟩
 .refine VY hp (nb (T.done X ζ ζ ζ hc i c s3 j O X.xe I3 (l F) C We) λr s4⟨S,I4⟩=>?_);subst S;show Va (j,O,I4,qn)
 .refine VY hp (nb (T.Yi X ζ ζ ζ hc i c s3 j O X.xe I3 (l F) C go) λr s4⟨u,S,h4⟩=>?_);subst S;refine VY hp (nb h4 λ_ s5 Y=>?_);let⟨x,H5,I5,r5,y5,z,Z⟩:=Y;let ab:=I5.pinned (l Z) (T.Yd _ _ z);refine VY hp (nb (hg _ s5 j H5 x u _ ab r5 (step x H5 y5)) λ_ s6 U=>?_);let⟨P,H6,I6,q6⟩:=U;refine VY hp (nb (p _ s6 P H6 _ I6 q6) λf R y=>?_);let again:∀{a:St}{t:Hp},f' X (c++iN L s5.ρ) a t R->N a t->∃m,m<n/\∃i k H',f' X c k H' R/\tn i R.ρ/\QIY/\W i m k H':=λ{a t}q E=>by
   let⟨m',hm,w7⟩:=hN a t E;refine(m',hm,i+1,a,t,q.unpinned,T.UB _ _ _ z λb p o e=>(q.pin (b,o,) (Ry _ (Ry _ (HE p e)))).1,λb p=>?_,w7);let⟨o,e,d⟩:=T.Yd _ _ z b p;show(q.pin (b,o,) (Ry _ (Ry _ (HE p e)))).2.1
  cases f with
  |next=>let⟨a,t,q,E⟩:=y;show again q E
  |YB=>let⟨a,t,q,E⟩:=y;show again q E
  |brk=>let⟨a,t,q,y⟩:=y;show(a,t,q.unpinned,y)
  |ret v=>let⟨x7,a,t,q,r7,y⟩:=y;show(x7,a,t,q.unpinned,r7,y)
end
def li QC7{g:TG}{k:TS}{D:ZA}(c:χ->St->Hp->Prop)(u:c 0 b H)(r:∀i b H,i≤xs.β->c i b H->k9 K H a xs)(o:∀i x b H,xs[i]?<*x->c i b H->g x b H λd j=>k {D with nx:=c (i+1),ct:=c (i+1),bk:=D.nx} d j)(t:∀b H,c xs.β b H->D.nx b H):∃W:χ->χ->St->Hp->Prop,QKX/\∀i m b H,W i m b H->
   ((Fz K a).We i H/\D.nx b H)\/((Fz K a).go i H/\∃N:St->Hp->Prop,(∀f H',N f H'->∃l,l<m/\W (i+1) l f H')/\∀x H',(Fz K a).yld i H x H'->g x b H' λd j=>k {D with nx:=N,ct:=N,bk:=D.nx} d j):=by
 refine(λi m b H=>m=xs.β-i/\i≤xs.β/\c i b H,(xs.β,!1,RO _,u),3);rintro i m b H⟨rfl,s,p⟩;let q:=r i b H s p;by_cases h:i<xs.β
 .refine .Rh ((xs,xs[i],q,by simp[h]),c (i+1),λf H' n=>(xs.β-(i+1),EY h,1,h,n),λx H' y=>?_);let⟨e,y⟩:=y;subst e;show o i x b _ (y xs q) p
 .let e:i=xs.β:=Eg h s
  subst e;show .RN ((xs,q,QA _),t b H p)
def E9{lo:Λ}{g:TG}{j:TS}{D:ZA}(f:χ->St->Hp->Prop)(r:f 0 a H)(o:∀i a H,i<n->f i a H->g (.QG (lo+i)) a H λb h=>j {D with nx:=f (i+1),ct:=f (i+1),bk:=D.nx} b h)(q:∀a H,f n a H->D.nx a H):∃W:χ->χ->St->Hp->Prop,QEU/\∀i m a H,W i m a H->
   ((E7 lo n).We i H/\D.nx a H)\/((E7 lo n).go i H/\∃N:St->Hp->Prop,QGY/\∀x H',(E7 lo n).yld i H x H'->g x a H' λb h=>j {D with nx:=N,ct:=N,bk:=D.nx} b h):=by
 refine(λi m a H=>m=n-i/\i≤n/\f i a H,(n,!1,RO _,r),3);rintro i m a H⟨rfl,s,p⟩;by_cases d:i<n
 .refine .Rh (d,f (i+1),λc H' l=>(n-(i+1),EY d,1,d,l),λx H' y=>?_);let⟨e,y⟩:=y;subst e y;show o i a _ d p
 .let e:i=n:=Eg d s
  subst e;show .RN (QA _,q a H p)
def su(g:St->Hp->Prop)(μ:St->Hp->χ)(n:g a H)(k:∀a H,g a H->c a H λb e=>if b=π then i {D with nx:=λd H'=>g d H'/\μ d H'<μ a H,ct:=λd H'=>g d H'/\μ d H'<μ a H,bk:=D.nx} a e else D.nx a e)(f:∀a H Q h,(∀b e,Q b e->h b e)->c a H Q->c a H h):sP c i D a H:=by
 refine(λm a H=>m=μ a H/\g a H,(0,n),3);rintro m a H⟨rfl,p⟩;refine f a H _ _ (λb e q=>?_) (k a H p);cases b with
 |π=>show(_,λd H'⟨j,l⟩=>(_,l,1,j),q)
 |ν=>show q
@[reducible]def R2:=V->V->Hp->VK->Prop
abbrev y' QDn(f:η->η->Sem η)(r:R2):Prop:=
 ∀QAM QB_ QCC QAH(x y:V)(v u:η)QAR,f' X QE σ H s->ae x v->ae y u->r x y H Q->
  Fr QAB X.A (f v u) QCr X.xe s
abbrev Lh QDn(f:η->Sem η)(r:V->Hp->VK->Prop):Prop:=
 ∀QAM QB_ QCC QAH(x:V)(v:η)QAR,f' X QE σ H s->ae x v->r x H Q->
  Fr QAB X.A (f v) QCr X.xe s
abbrev C7 QDn(f:η)(r:γ V->Hp->VK->Prop):Prop:=
 ∀QAM QB_ QCC QAH QCK QD_ QAR,f' X QE σ H s->ad xs us->r xs H Q->
  Fr QAB X.A (UZ f us) QCr X.xe s
abbrev Em(r:R2)QKW:TE:=λσ H Q=>ta σ H λx H1=>tb σ H1 λy H2=>r x y H2 Q
abbrev Oo(r:V->Hp->VK->Prop)(ta:TE):TE:=λσ H Q=>ta σ H λx H1=>r x H1 Q
inductive rI(C:Λ->Λ->Prop)(g:Λ->Λ->V)(x:V)(y:V)QAH QAR:Prop
 |mk (i j:_) (_:x=.QG i) (_:y=.QG j) (_:C i j) (_:Q QGF H)
inductive DX(g:Λ->Λ->V)(x:V)(y:V)QAH QAR:Prop
 |mk (i j:_) (_:x=.QG i) (_:y=.QG j) (_:Q QGF H)
inductive rU(g:Λ->V)(x:V)QAH QAR:Prop
 |mk (i:_) (_:x=.QG i) (_:Q (g i) H)
section
variable{X:Cx}{a b c:SH}{ta tb tc:TE}{Ri:UL}
def G9(B:PE X a ta)(z:PE X b tb){e:St}{R:V->V->Hp->Prop}(I:f' X d e H s)(h:ta e H λx m=>tb e m λy g=>R x y g){f:η->η->Sem η}(t:∀v u s2 x y g,f' X d e g s2->ae x v->ae y u->R x y g->Fr QAB X.A (f v u) Q X.xe s2):Fr QAB X.A (Sc a X.QC) (λv j=>Fr QAB X.A (Sc b X.QC) (λu i=>Fr QAB X.A (f v u) Q X.xe i) X.xe j) X.xe s:=by
 refine nb (B d s e H _ I h) λv n l=>?_;let⟨x,m,D,p,r⟩:=l;refine nb (z d n e m _ D r) λu s2 k=>?_;let⟨y,g,C,o,q⟩:=k;show t v u s2 x y g C p o q
def o_(i:y' X (UK op) r)(k:PE X a ta)(j:PE X b tb):PE X (.BinOp a op b Ri) QJw:=by
 intro d s e H Q I h;show wpAny_BinOp (G9 k j I h λv u s2 x y m l g f q=>i d s2 e m x y v u Q l g f q)
def DY(k:Lh X (unaryOp op) r)(l:PE X a ta):PE X (.UnaryOp op a Ri) (Oo r ta):=by
 intro d s f H Q I h;show UnaryOp_ (nb (l d s f H _ I h) λv g e=>by let⟨x,n,m,i,j⟩:=e;show k d g f n x v Q m i j)
def Jp{g:Λ->Λ->Λ}(Xt:∀(i j:Λ)(t u:Z5)QB_ QGW QBM,C i j->Q (.QG QGF s.QT) {s with QT:=s.QT+1}->Fr QAB X.A QGG Q E s):y' X f (rI C λi j=>.QG QGF):=by
 intro d s m H x y v u Q I k e h;let⟨i,j,ζ,ζ,l,q⟩:=h;let⟨t,ζ⟩:=k;let⟨t',ζ⟩:=e;show Xt i j t t' s _ _ l (.QG QGF,H,I.Wa _,QCI,q)
def xk{g:Λ->Λ->Λ}(Xt:∀(i j:Λ)(t u:Z5)QB_ QGW QBM,Q (.QG QGF s.QT) {s with QT:=s.QT+1}->Fr QAB X.A QGG Q E s):y' X f (DX λi j=>.QG QGF):=by
 intro d s l H x y v u Q I k e h;let⟨i,j,ζ,ζ,q⟩:=h;let⟨t,ζ⟩:=k;let⟨t',ζ⟩:=e;show Xt i j t t' s _ _ (.QG QGF,H,I.Wa _,QCI,q)
def xl{g:Λ->Λ->Ψ}(Xt:∀(i j:Λ)(t u:Z5)QB_ QGW QBM,Q (.UV QGF) s->Fr QAB X.A QGG Q E s):y' X f (DX λi j=>.bl QGF):=by
 intro d s l H x y v u Q I k e h;let⟨i,j,ζ,ζ,q⟩:=h;let⟨t,ζ⟩:=k;let⟨t',ζ⟩:=e;show Xt i j t t' s _ _ (.bl QGF,H,I,1,q)
abbrev Li(i j:Λ):Prop:=0<j/\j<1073741824
abbrev Lj(i j:Λ):Prop:=0≤j/\j≤1000000/\i.natAbs<2^64
abbrev Lk(i j:Λ):Prop:=(-(2^64)<i/\i<2^64)\/(-(2^64)<j/\j<2^64)
def Lk.ok(h:Lk i j):IntMulOk i j:=by
 rcases h with⟨h1,h2⟩|⟨h1,h2⟩
 .exact .of_left (intBits_le_64 h1 h2)
 .exact .of_right (intBits_le_64 h1 h2)
def mz QK4:(0:Λ)≤2^k:=by
 rw[two_pow_cast];show Λ.natCast_nonneg _
def nj:y' X (UK .Add) (DX λi j=>.QG (i+j)):=xk λ_ _ _ _ _ _ _ q=>add_int q
def zH:y' X (UK .Sub) (DX λi j=>.QG (i-j)):=xk λ_ _ _ _ _ _ _ q=>sub_int q
def zI:y' X (UK .Mult) (rI Lk λi j=>.QG (i*j)):=Jp λ_ _ _ _ _ _ _ d q=>mul_int q d.ok
def iZ:y' X (UK .FloorDiv) (rI Li λi j=>.QG (i/j)):=Jp λi j _ _ _ _ _ d q=>by
 let h1:(0:Λ)<j:=d.1;let h2:j<1073741824:=d.2;show floordiv_int (G1 h1) (by rw[Λ.fdiv_eq_ediv_of_nonneg i (F1 h1)];show q) (.RN (Su.noPylong_small (!2)))
def dL:y' X (UK .Mod) (rI (λ_ j=>0<j) λi j=>.QG (i%j)):=Jp λi j _ _ _ _ _ d q=>by
 let h1:(0:Λ)<j:=d;show mod_int' (G1 d) (by rw[Λ.fmod_eq_emod_of_nonneg i (F1 d)];show q)
def bQ:y' X (UK .LShift) (rI Lj λi j=>.QG (i*2^j.Ru)):=Jp λ_ _ _ _ _ _ _ d q=>lshift_int_small d.1 d.2.1 d.2.2 q
def bO:y' X (UK .RShift) (rI (λ_ j=>0≤j) λi j=>.QG (i/2^j.Ru)):=Jp λi j _ _ _ _ _ d q=>
 rshift_int d (by rw[Λ.fdiv_eq_ediv_of_nonneg i (mz _)];show q)
def Go:y' X (UK .BitAnd) (DX λi j=>.QG (Builtin.bitAnd i j)):=xk λ_ _ _ _ _ _ _ q=>and_int q
def pe:y' X (UK .BitOr) (DX λi j=>.QG (Builtin.bitOr i j)):=xk λ_ _ _ _ _ _ _ q=>or_int q
def Op{g:Λ->Λ}(Xt:∀(i:Λ)(t:Z5)QB_ QGW QBM,Q (.QG (g i) s.QT) {s with QT:=s.QT+1}->Fr QAB X.A (f (.QG i t)) Q E s):Lh X f (rU λi=>.QG (g i)):=by
 intro d s j H x v Q I e h;let⟨i,ζ,q⟩:=h;let⟨t,ζ⟩:=e;show Xt i t s _ _ (.QG (g i),H,I.Wa _,QCI,q)
def DZ:Lh X (unaryOp .USub) (rU λi=>.QG (-i)):=Op λ_ _ _ _ _ q=>neg_int q
end
abbrev Nx:V->V->Ψ
 |.Uv,.Uv=>π|.Uv,.QG _=>π|.QG _,.Uv=>π|.Uv,.bl _=>π|.bl _,.Uv=>π|.Uv,.QZ _=>π|.QZ _,.Uv=>π
 |.QG _,.QG _=>π|.bl _,.bl _=>π|.QZ _,.QZ _=>π|.byt _,.byt _=>π
 |.QG _,.QZ _=>π|.QZ _,.QG _=>π|.bl _,.QZ _=>π|.QZ _,.bl _=>π
 |_,_=>ν
abbrev rEq:R2:=λx y H Q=>Nx x y=π/\Q (.bl (decide (x=y))) H
abbrev rNe:R2:=λx y H Q=>Nx x y=π/\Q (.bl (!decide (x=y))) H
def pT:decide (V.QG i=V.QG j)=(i==j):=by
 rw[Ψ.T9];simp
def vL:decide (V.bl i=V.bl j)=(i==j):=by
 rw[Ψ.T9];simp
def pS:decide (V.QZ i=V.QZ j)=(i==j):=by
 rw[Ψ.T9];simp
def pU:decide (V.byt i=V.byt j)=(i.Qx==j.Qx):=by
 rw[Ψ.T9];cases i;cases j;simp
section
variable{X:Cx}{a b c:SH}{ta tb tc:TE}{Ri:UL}
def Ay{f:St}(I:f' X d f H s)(q:Q (.bl k) H)(e:k=k'):EP X d f Q (.UV k') s:=by
 subst e;show(.bl k,H,I,1,q)
def gK:y' X (So .Eq) rEq:=by
 intro g s k H x y v u Q I f d h;let⟨e,q⟩:=h;cases x with
 |Uv=>
  cases f;cases y with
  |Uv=>cases d;show Ξ.Xd.eq_none_none QAe
  |bl j=>cases d;show Ξ.Xd.eq_none_bool QAe
  |QG j=>let⟨t',ζ⟩:=d;show Ξ.Xd.eq_none_int QAe
  |QZ j=>let⟨t',ζ⟩:=d;show Ξ.Xd.eq_none_str QAe
  |_=>show QL (show ν=π from e) Ψ.RE
 |bl i=>
  cases f;cases y with
  |Uv=>cases d;show Ξ.Xd.eq_bool_none QAe
  |bl j=>cases d;show eq_bool (Ay I q vL)
  |QZ j=>let⟨t',ζ⟩:=d;show Ξ.Z6.eq_bool_str QAe
  |_=>show QL (show ν=π from e) Ψ.RE
 |QG i=>
  let⟨t,ζ⟩:=f;cases y with
  |Uv=>cases d;show Ξ.Xd.eq_int_none QAe
  |QG j=>let⟨t',ζ⟩:=d;show eq_int (Ay I q pT)
  |QZ j=>let⟨t',ζ⟩:=d;show Ξ.Z6.eq_int_str QAe
  |_=>show QL (show ν=π from e) Ψ.RE
 |QZ i=>
  let⟨t,ζ⟩:=f;cases y with
  |Uv=>cases d;show Ξ.Xd.eq_str_none QAe
  |bl j=>cases d;show Ξ.Z6.eq_str_bool QAe
  |QG j=>let⟨t',ζ⟩:=d;show Ξ.Z6.eq_str_int QAe
  |QZ j=>let⟨t',ζ⟩:=d;show eq_str (Ay I q pS)
  |_=>show QL (show ν=π from e) Ψ.RE
 |byt i=>
  let⟨t,ζ⟩:=f;cases y with
  |byt j=>let⟨t',ζ⟩:=d;show Ξ.W.eq_bytes (Ay I q pU)
  |_=>show QL (show ν=π from e) Ψ.RE
 |_=>cases y<;>show QL (show ν=π from e) Ψ.RE
def Oq:y' X (So .NotEq) rNe:=by
 intro g s k H x y v u Q I f d h;let⟨e,q⟩:=h;cases x with
 |Uv=>
  cases f;cases y with
  |Uv=>cases d;show Ξ.Xd.ne_none_none QAe
  |bl j=>cases d;show Ξ.Xd.ne_none_bool QAe
  |QG j=>let⟨t',ζ⟩:=d;show Ξ.Xd.ne_none_int QAe
  |QZ j=>let⟨t',ζ⟩:=d;show Ξ.Xd.ne_none_str QAe
  |_=>show QL (show ν=π from e) Ψ.RE
 |bl i=>
  cases f;cases y with
  |Uv=>cases d;show Ξ.Xd.ne_bool_none QAe
  |bl j=>cases d;show ne_bool (Ay I q (Qw not vL))
  |QZ j=>let⟨t',ζ⟩:=d;show Ξ.Z6.ne_bool_str QAe
  |_=>show QL (show ν=π from e) Ψ.RE
 |QG i=>
  let⟨t,ζ⟩:=f;cases y with
  |Uv=>cases d;show Ξ.Xd.ne_int_none QAe
  |QG j=>let⟨t',ζ⟩:=d;show ne_int (Ay I q (Qw not pT))
  |QZ j=>let⟨t',ζ⟩:=d;show Ξ.Z6.ne_int_str QAe
  |_=>show QL (show ν=π from e) Ψ.RE
 |QZ i=>
  let⟨t,ζ⟩:=f;cases y with
  |Uv=>cases d;show Ξ.Xd.ne_str_none QAe
  |bl j=>cases d;show Ξ.Z6.ne_str_bool QAe
  |QG j=>let⟨t',ζ⟩:=d;show Ξ.Z6.ne_str_int QAe
  |QZ j=>let⟨t',ζ⟩:=d;show ne_str (Ay I q (Qw not pS))
  |_=>show QL (show ν=π from e) Ψ.RE
 |byt i=>
  let⟨t,ζ⟩:=f;cases y with
  |byt j=>let⟨t',ζ⟩:=d;show Ξ.W.ne_bytes (Ay I q (Qw not pU))
  |_=>show QL (show ν=π from e) Ψ.RE
 |_=>cases y<;>show QL (show ν=π from e) Ψ.RE
def Be:y' X (So .Lt) (DX λi j=>.bl (decide (i<j))):=xl λ_ _ _ _ _ _ _ q=>lt_int q
def ky:y' X (So .LtE) (DX λi j=>.bl (decide (i≤j))):=xl λ_ _ _ _ _ _ _ q=>le_int q
def Bg:y' X (So .Gt) (DX λi j=>.bl (decide (j<i))):=xl λ_ _ _ _ _ _ _ q=>gt_int q
def Os:y' X (So .GtE) (DX λi j=>.bl (decide (j≤i))):=xl λ_ _ _ _ _ _ _ q=>ge_int q
def Jq:y' X (So .In) (λx y H Q=>∃i j,x=.QZ i/\y=.QZ j/\Q (.bl QIZ) H):=by
 intro d s g H x y v u Q I f e h;let⟨i,j,ζ,ζ,q⟩:=h;let⟨t,ζ⟩:=f;let⟨t',ζ⟩:=e;show in_str (Ay I q ζ)
def CQ:y' X (So .Is) (λx y H Q=>y=.Uv/\Q (.bl (decide (x=.Uv))) H):=by
 intro e s g H x y v u Q I d f h;let⟨rfl,q⟩:=h;cases f;refine is_none_gen (Ay I q ?_);cases x<;>first
  |(cases d;rfl)
  |(let⟨t,ζ⟩:=d;rfl)
def Bq:y' X (So .IsNot) (λx y H Q=>y=.Uv/\Q (.bl (!decide (x=.Uv))) H):=by
 intro e s g H x y v u Q I d f h;let⟨rfl,q⟩:=h;cases f;refine isnot_none_gen (Ay I q ?_);cases x<;>first
  |(cases d;rfl)
  |(let⟨t,ζ⟩:=d;rfl)
def Ny:y' X (So .NotIn) (λx y H Q=>∃i j,x=.QZ i/\y=.QZ j/\Q (.bl (! QIZ)) H):=by
 intro d s g H x y v u Q I f e h;let⟨i,j,ζ,ζ,q⟩:=h;let⟨t,ζ⟩:=f;let⟨t',ζ⟩:=e;show notIn_str (Ay I q ζ)
def Az(b:SH)(h:(op≠.In)>>>0)(h2:(op≠.NotIn)>>>0):behindInMarks op b=ν:=by
 let e:(op==CmpOp.In)=ν:=by cases op<;>first|rfl|show QL ζ h
 let d:(op==CmpOp.NotIn)=ν:=by cases op<;>first|rfl|show QL ζ h2
 cases b<;>simp[behindInMarks,e,d]
def C8(i:y' X (So op) r)(l:PE X a ta)(k:PE X b tb)(j:behindInMarks op b=ν):PE X (.Compare a [op] [b] Ri) QJw:=by
 intro d s e H Q I h;show wpAny_Compare1 (G9 l k I h λv u s2 x y n m g f q=>i d s2 e n x y v u Q m g f q) j
inductive zd QEA(x:V)QBW:Prop
 |mk (k:_) (_:x=.bl k) (_:Q k H')
abbrev oN(t:TE):TT:=λσ H Q=>t σ H (zd Q)
def AF(p:y' X (So op) r)(w:PE X a ta)(t:PE X b tb)(q:behindInMarks op b=ν):PT X (.Compare a [op] [b] Ri) (oN QJw):=by
 intro d s f H Q I h;refine wpAny_isTrue_Compare1 (nb (w d s f H _ I h) λv g⟨x,F,C,l,o⟩=>nb (t d g f F _ C o) λu s2⟨y,E,B,j,n⟩=>
  nb (p d s2 f E x y v u _ B l j n) λc J⟨z,D,A,i,k,e,m⟩=>?_) q
 subst e;cases i;show Tr (D,A,m)
abbrev sR(r r':R2)(ta tb tc:TE):TE:=λσ H Q=>ta σ H λx H1=>tb σ H1 λy H2=>r x y H2 λz H3=>∃k,z=.bl k/\
 (if k=π then tc σ H3 λw' H4=>r' y w' H4 Q else Q (.bl ν) H3)
def ue(L:y' X (So op) r)(i:y' X (So op') D)(P:PE X a ta)(O:PE X b tb)(N:PE X c tc)(M:QKY>>>9):PE X QJx (sR r D ta tb tc):=by
 intro f s g H Q I h;refine Compare_chain (nb (P f s g H _ I h) λv w⟨x,Y,T,C,J⟩=>chain_link (nb (O f w g Y _ T J) λu s2⟨y,W,S,j,F⟩=>
  nb (L f s2 g W x y v u _ S C j F) λd t⟨z,n,m,B,k,e,l⟩=>?_)) M
 subst e;cases B;refine Tr ?_;cases k with
 |ν=>show ite_ff (.bl ν,n,m,1,l)
 |π=>show ite_tt (chain_last (nb (N f t g n _ m l) λp q⟨o,U,R,A,E⟩=>i f q g U y o u p Q R j A E))
def kj(P:y' X (So op) r)(i:y' X (So op') F)(U:PE X a ta)(T:PE X b tb)(S:PE X c tc)(R:QKY>>>9):PT X QJx (oN (sR r F ta tb tc)):=by
 intro f s g H Q I h;refine isTrue_chain (nb (U f s g H _ I h) λv A⟨x,H1,I1,E,N⟩=>test_link (nb (T f A g H1 _ I1 N) λu s2⟨y,H2,I2,l,M⟩=>
  nb (P f s2 g H2 x y v u _ I2 E l M) λd w⟨z,o,n,D,k,e,m⟩=>?_)) R
 subst e;cases D;refine Tr ?_;cases k with
 |ν=>
  let⟨k',e',O⟩:=m;cases e';show ite_ff (o,n,O)
 |π=>
  refine ite_tt (test_last (nb (S f w g o _ n m) λq t⟨p,H4,Z,C,L⟩=>nb (i f t g H4 y p u q _ Z l C L) λd' s5 j=>?_));let⟨z2,H5,Y,B,k2,W,J⟩:=j;subst W;cases B;show Tr (H5,Y,J)
def bT:(Φ:χ)<2^63:=by rw[S'];decide
def C9:y' X (UK .Add) (λx y H Q=>∃i j,x=.QZ i/\y=.QZ j/\i.β+j.β≤Φ/\Q (.QZ (i++j)) H):=by
 intro d s g H x y v u Q I f e h;let⟨i,j,ζ,ζ,hz,q⟩:=h;let⟨t,ζ⟩:=f;let⟨t',ζ⟩:=e;show add_str (λt' k=>(.QZ (i++j),H,I.Wa _,QCI,q)) hz
def Ch(r:ad [x] us):∃u,us=[u]/\ae x u:=by
 cases r with
 |Rc e d=>cases d;show(0,e)
def cL(r:ad [x,y] us):∃u d,us=[u,d]/\ae x u/\ae y d:=by
 cases r with
 |Rc h g=>
  cases g with
  |Rc f e=>cases e;show(9,h,f)
end
structure oH QKP(x dx C:θ)(mA:QF->ψ η):Prop where
 Yd:h.Δ x<*Y3 C dx
 ns:h.Ns1 dx mA
 ne:dx≠x
def Ll{h:RC}(n:h.Ns1 dx f):∃c,h.Δ dx=δ c/\∀Ss,Ξ.W.lookIn Ss c<*f Ss:=by
 let⟨o,d,p,i,l,k,_,j⟩:=n;refine(o,i,λSs=>?_);let e:=j Ss;unfold nsFind findBy at e;rw[<-R_.find?_toList]at e;unfold Ξ.W.lookIn;rw[l];dsimp only;split
 .rename_i y q;rw[q]at e;show Qw δ e
 .rename_i q;rw[q]at e;let a:d.Qx.U6 (·.refKey)=ν:=by
   rw[γ.any_eq_false];intro y g;let⟨z,t,b⟩:=k y (R_.mem_toList_iff.mp g);simp[DictEntry.refKey,b]
  let m:¬ d.Qx.U6 (·.refKey)=π:=by rw[a];show Ψ.RE
  rw[Cl m];show Qw δ e
def oH.look(I:oH h x dx C b):∃a,Ξ.W.InstAt h x (Y3 C dx) C (δ a)/\∀Ss,Ξ.W.lookIn Ss a<*b Ss:=
 let⟨a,c,d⟩:=Ll I.ns
 (a,(I.Yd,5,c),d)
section
variable{Ω:Id}{w:QW}{A:Qy}{E:η->ω->Prop}{s:ω}{K:RG}{x dx C f:θ}{mA:QF->ψ η}{Ss:QF}{v:η}
def xR QEp QH_(e:plainGet K C Ss=π)(d:Ξ.W.hasDictIn K C=π)(g:Ξ.W.TR K QAr Ss<*ε)(b:mA Ss<*v)(a:Ξ.W.handedIn v=π)(h:Q v {s with QT:=s.QT+1}):Fr QAU A (getAttr QDp Ss expr) Q E s:=by
 let⟨i,J,c⟩:=I.look;show Ξ.W.get_value X J (Ξ.W.plainGet_of e).1 (Ξ.W.findObj_own d g ζ (by rw[c,b])) a h
def vt QEp QH_(a:plainGet K C Ss=π)(g:Ξ.W.TR K QAr Ss<*δ QAg)(d:isFn K QAg=π)(c:mA Ss=ε)(h:Q (.ξ f,[.ξ x],) s):Fr QAU A (getMethod QDp Ss pl) Q E s:=by
 let⟨b,J,e⟩:=I.look;show Ξ.W.method_fn X J (Ξ.W.plainGet_of a).1 (Ξ.W.plainGet_of a).2 g (Ur.mp d) (by change (Ξ.W.lookIn Ss b).Q_ (·.VR)<*ν;rw[e,c];rfl) h
def wS QEp QH_(m:Ξ.W.TR K QAr "__setattr__"<*δ (.RJ "object.__setattr__"))(hp:Ξ.W.plainOver K C=π)(l:takerIn K C Ss<*ε)(n:Ξ.W.hasDictIn K C=π)(hw:Ξ.Within mA ns)(hsz:ns.β≤Φ)(h:∀h',oH h' x dx C QIH->Tb dx s.ρ h'->Q () {s with ρ:=h',QT:=s.QT+2}):Fr QAU A QIa Q E s:=by
 let⟨t,J,z⟩:=I.look;refine set_plain X J m (Ξ.W.osa_open (s:={s with QT:=s.QT+1}) (r:=ε) X J hp l λb=>?_);let⟨B,o,i⟩:=any_some n;let k:s.ρ.Δ x<*(.ξ C,δ dx,.plain,#[]):=I.Yd;refine e_ (h9 (e_ (e_ (wpAny_loadPart k (e_ (Looks.here (s:={s with QT:=s.QT+1}) (looks_clsIn X o) ?_))))));rw[i];refine h9 (a:=δ dx) (e_ (h9 QDa));refine wpAny_nsSet1 (s:={s with QT:=s.QT+1}) I.ns λh' d c=>?_;let⟨u,p,q,e,g,j⟩:=d.count (Ξ.Within.Rc Ss v hw);refine e_ (wpAny_lookBehind e (by rw[g];show pastItsLine_dict (QB j (by rw[RY];show G0 hsz))) ?_);show h9 (h _ ((c.2 _ (Ne.QI I.ne)).ο I.Yd,d,I.ne) c)
def uL(X:K.In s.ρ)(b:makesIn K C=π)(c:Ξ.W.TR K (.ξ C) "__init__"<*δ (.ξ f))(e:Ξ.W.typeIn K (.ξ f)<*.QU "function")(h:VD (LE Ω w) (A.under (.RJ "type.__call__" (.ξ C::vs,kw))) (.UZ (.ξ f) (.ξ (s⁻¹+1)::vs,kw)) (Ξ.W.InitBack (s⁻¹+1) R)
   {s with ρ:=(s.ρ.Rm WW).Rm (Y3 C s⁻¹)}):VD (LE Ω w) A (.UZ (.ξ C) (vs,kw)) R s:=by
 let⟨i,g,d,t,os⟩:=s;show Ξ.W.make_core (Ξ.W.makes_of X b) (Ξ.W.Y1 X c) (λa=>Ξ.W.bind_fn X a e) QAz h
def rk(X:K.In s.ρ)(b:makesIn K C=π)(c:Ξ.W.TR K (.ξ C) "__init__"<*δ (.RJ "object.__init__"))(e:∀a,Looks (LE Ω w) s.ρ (bindSpecial (.RJ "object.__init__") a) (.RJ "object.__init__",[a],))(h:VD (LE Ω w) (A.under (.RJ "type.__call__" ([.ξ C],[]))) (.UZ (.RJ "object.__init__") ([.ξ (s⁻¹+1)],[])) (Ξ.W.InitBack (s⁻¹+1) R)
   {s with ρ:=(s.ρ.Rm WW).Rm (Y3 C s⁻¹)}):VD (LE Ω w) A (.UZ (.ξ C) ([],[])) R s:=by
 let⟨i,g,d,t,os⟩:=s;show Ξ.W.make_core (Ξ.W.makes_of X b) (Ξ.W.Y1 X c) e (.Rh (1,1)) h
end
abbrev ah(f:QF)(v:V):γ QDL->γ QDL
 |[]=>[(f,v,)]
 |(g,x)::r=>if g=f then(g,v,)::r else(g,x,)::ah f v r
def BY(f g:QF)(v:V):∀fs:γ QDL,(ah f v fs).ς g=if g=f then δ v else fs.ς g
 |[]=>by
  change γ.ς g [(f,v,)]=_;by_cases h:g=f
  .let a:(g==f)=π:=Ur.Sz h;simp only[γ.ς,a,IO h]
  .let a:(g==f)=ν:=RX.Sz h;simp only[γ.ς,a,Cl h]
 |(k,x)::r=>by
  let c:=BY f g v r;rw[show ah f v ((k,x,)::r)=(if k=f then(k,v,)::r else(k,x,)::ah f v r)from ζ];by_cases b:k=f
  .rw [IO b];by_cases h:g=k
   .let a:(g==k)=π:=Ur.Sz h;simp only[γ.ς,a,IO (h.ο b)]
   .let a:(g==k)=ν:=RX.Sz h;simp only[γ.ς,a,Cl (λe:g=f=>h (e.ο b.QI))]
  .rw [Cl b];by_cases h:g=k
   .let a:(g==k)=π:=Ur.Sz h;simp only[γ.ς,a,Cl (λe:g=f=>b (h.QI.ο e))]
   .let a:(g==k)=ν:=RX.Sz h;simp only[γ.ς,a];show c
def Jr(f:QF)(v:V):∀fs:γ QDL,f∈(ah f v fs).Q_ QBF/\∀g,g∈fs.Q_ QBF->g∈(ah f v fs).Q_ QBF
 |[]=>(by simp[ah],λg h=>by simp at h)
 |(k,x)::r=>by
  let⟨i1,i2⟩:=Jr f v r;rw[show ah f v ((k,x,)::r)=(if k=f then(k,v,)::r else(k,x,)::ah f v r)from ζ];by_cases a:k=f
  .rw [IO a];subst a;show(!1,λg h=>by simpa using h)
  .rw [Cl a];refine(3,λg h=>?_)
   .rw [UY];show Q9 _ i1
   .rw [UY]at h⊢;rcases QY.mp h with e|e
    .exact QY.Sz (.RN e)
    .exact Q9 _ (i2 g e)
def Bh(f:QF)(v:V):∀fs:γ QDL,(ah f v fs).β≤fs.β+1
 |[]=>by simp[ah]
 |(k,x)::r=>by
  let b:=Bh f v r;rw[show ah f v ((k,x,)::r)=(if k=f then(k,v,)::r else(k,x,)::ah f v r)from ζ];by_cases a:k=f
  .rw [IO a,RY,RY];lia
  .rw [Cl a,RY,RY];lia
def av.Zx(r:av QF1 o):∃u,o=δ u/\ae v u:=by
 cases o with
 |ε=>show(show Rk from r).SJ
 |δ u=>show(u,1,r)
def av.YH(r:av ε o):o=ε:=by
 cases o with
 |ε=>rfl
 |δ u=>show(show Rk from r).SJ
def hV QIC:Ξ.W.handedIn u=π:=by
 cases v with
 |Uv=>cases(show u=η.ε from r);rfl
 |bl b=>cases(show u=η.UV b from r);rfl
 |QG i=>let⟨t,e⟩:=(show ∃t,u=η.QG i t from r);cases e;rfl
 |QZ x=>let⟨t,e⟩:=(show ∃t,u=η.QZ x t from r);cases e;rfl
 |byt b=>let⟨t,e⟩:=(show ∃t,u=η.bytes b t from r);cases e;rfl
 |flt b=>let⟨t,e⟩:=(show ∃t,u=η.float b t from r);cases e;rfl
 |ξ a=>cases(show u=η.ξ a from r);rfl
 |ty n=>cases(show u=η.QU n from r);rfl
section
variable{P:Id}{w:QW}{H H':Hp}{h h':RC}{a C dx:θ}{fs fs':γ QDL}
def Js(c:z_ P w H h)QDi:∃b,oH h a dx C b/\(∀f,av (fs.ς f) (b f))/\Ξ.Within b (fs.Q_ QBF)/\fs.β≤1000/\H dx<*.own a:=by
 let⟨d,z,i,g,b,n,r,q⟩:=(show Ai P w H h a (.XE C dx fs)from c a _ e);show(b,(g,n,i),r,q,z,d)
end
structure BZ QBQ QFT:Prop where
 pg:plainGet K C QF.Vd=π
 hd:Ξ.W.hasDictIn K C=π
 po:Ξ.W.plainOver K C=π
 sa:Ξ.W.TR K QAr "__setattr__"<*δ (.RJ "object.__setattr__")
def BZ.Yj QC7(c:BZ K C)(f:QF):plainGet K C f=π:=c.pg
abbrev wx QBQ QFT(f:QF):Prop:=Ξ.W.TR K QAr f<*ε
def wx.taker QC7(n:wx K C f):takerIn K C f<*ε:=by
 unfold takerIn;rw[show Ξ.W.TR K QAr f<*ε from n];rfl
structure gn QBQ QFT(m:QF)QEx:Prop where
 at_:Ξ.W.TR K QAr m<*δ QAg
 fn:isFn K QAg=π
 kp:Vz K QAg=π
section
variable{X:Cx}{QE:γ QA_}{σ:St}{H:Hp}{s:ω}{a C dx:θ}{fs:γ QDL}{f:QF}{v:V}{A:Qy}{E:η->ω->Prop}
def n6 QAA QDi(c:BZ X.K C)QII(l:fs.ς f<*v)(h:∀u s',f' X QE σ H s'->ae v u->Q u s'):Fr QAB A (getAttr QAd f b) Q E s:=by
 let⟨g,O,r,_,_,_⟩:=Js I.S8 e;let⟨u,i,d⟩:=av.Zx (v:=v) (o:=g f) (by rw[<-l];show r f);show xR I.Xb O (c.Yj f) c.hd n i (hV d) (h u _ (I.Wa _) d)
def eW QAA QDi(c:BZ X.K C)(k:gn X.K C m g)(l:fs.ς m=ε)(h:Q (.ξ g,[.ξ a],) s):Fr QAB A (getMethod QAd m pl) Q E s:=by
 let⟨b,O,r,_,_,_⟩:=Js I.S8 e;let d:b m=ε:=av.YH (by rw[<-l];show r m);show vt I.Xb O (c.Yj m) k.at_ k.fn d h
def mR QAA QDi(c:BZ X.K C)QII(D:fs.β<1000)(m:ae y u)(h:∀s',f' X QE σ (QO H a (.XE C dx (ah f y fs))) s'->Q () s'):Fr QAB A QJT Q E s:=by
 let⟨j,O,r,i,_,k⟩:=Js I.S8 e;let hz:(fs.Q_ QBF).β≤Φ:=by rw[j',S'];show Jc D
 refine wS I.Xb O c.sa c.po n.taker c.hd i hz λh' d l=>h _ ?_;let t:∃o,h'.Δ dx<*o:=let⟨o,_,_,e',_⟩:=d.ns;(o,e');refine I.ZR (x:=a) (e:=dx) (by rw[e];show S9.Sv) (.Rh k) (λb q B z=>(l.2 b B).ο z) t ?_;refine(by rw[a_ O.ne];show k,3,O.ne,d.Yd,_,d.ns,λg=>?_,λg p=>?_)
 .have:=Bh f y fs;lia
 .change av ((ah f y fs).ς g) (if g=f then δ u else j g);rw[BY];by_cases q:g=f
  .rw [IO q,IO q];show m
  .rw [Cl q,Cl q];show r g
 .by_cases q:g=f
  .rw [q];show(Jr f y fs).1
  .refine (Jr f y fs).2 g (i g λz=>p ?_);change (if g=f then δ u else j g)=ε;rw[Cl q];show z
def f'.made QAA:f' X QE σ (QO (QO H s⁻¹ (.own QBN)) QBN (.XE C s⁻¹ []))
  {s with ρ:=(s.ρ.Rm WW).Rm (Y3 C s⁻¹)}:=by
 let d:(s.ρ.Rm WW).Δ s⁻¹<*WW:=QN s.ρ ζ;let j:((s.ρ.Rm WW).Rm (Y3 C s⁻¹)).Δ QBN<*Y3 C s⁻¹:=by
  have:=QN (s.ρ.Rm WW) (o:=Y3 C s⁻¹) ζ
  rwa [Tz]at this
 let i:(s.ρ.Rm WW).Ns s⁻¹ (λ_=>ε):=(WW,#[],_,d,1,(λe h=>QL h (!1)),λ_=>rfl);let k:=I.Xy (a:=s⁻¹) (o:=.own QBN) (h':=s.ρ.Rm WW) (t':=s.QT) (λb u q=>o9 _ q) QA2 (_,d);refine k.Xy (a:=s⁻¹+1) (o:=.XE C s⁻¹ []) (t':=s.QT) (λb u q=>o9 _ q) (Vc (Tz _ _)) ?_;let c:s⁻¹≠s⁻¹+1:=RM (R8 _);refine(by rw[a_ c,hJ],RO _,c,j,λ_=>ε,(RC.Ns1.of_empty i).at λo q=>o9 _ q,λ_=>S9.Sv,λy g=>QL ζ g)
def C_(c:UD e f QC (Sc e QC)=Sc e QC)(h:Fr QAU A (Sc e QC) (λo b=>Fr QAU A (getAttr o f π) Q E b) E s):Fr QAU A (Sc QGt QC) Q E s:=
 Attribute_any_ h (by rw[arm_eval_Attribute,c])
end
inductive Ot QBQ(f:QF)QAR(x:V)QDz:Prop
 |mk (a C dx fs v:_) QET (_:H1 a<*.XE C dx fs) QKl (_:wx K C f) (_:fs.ς f<*v) (_:Q v H1)
abbrev Nz QBQ(ta:TE)(f:QF):TE:=λσ H Q=>ta σ H (Ot K f Q)
inductive Ou QBQ(f:QF)(D:ZA)QCC(y:V)(x:V)(H2:Hp):Prop
 |mk (a C dx fs:_) QET (_:H2 a<*.XE C dx fs) QKl (_:wx K C f) (_:fs.β<1000) (_:D.nx σ (QO H2 a (.XE C dx (ah f y fs))))
abbrev Lm QBQ(ta tv:TE)(f:QF):TS:=λD σ H=>tv σ H λy H1=>ta σ H1 (Ou K f D σ y)
section
variable{X:Cx}{o e value:SH}{f:QF}{Ri pos' tpos:UL}{ta tv:TE}
def Ac(k:PE X e ta)(m:UD e f X.QC QGE=Sc e X.QC):PE X QGt (Nz X.K ta f):=by
 intro b s g H Q I h;refine C_ m (nb (k b s g H _ I h) λu A d=>?_);let⟨x,y,w,i,a,C,dx,fs,v,p,r,c,n,l,q⟩:=d;subst p;obtain ζ:u=η.ξ a:=i;show n6 w r c n l λz s2 t j=>(v,y,t,j,q)
def En(v:PE X o ta)(r:PE X value tv)(t:W9 value (δ (.S7 o f pos')) Ri.XC X.QC=pure ν):PS X (.Assign [.S7 o f pos'] value Ri) (Lm X.K ta tv f):=by
 intro b s d H D I h;refine plainObj_wpAny_Assign_Attribute (nb (r b s d H _ I h) λu i⟨y,F,E,j,q⟩=>nb (v b i d F _ E q) λp s2 g=>?_) t;let⟨x,L,B,k,a,C,dx,fs,w,z,c,n,l,m⟩:=g;subst w;obtain ζ:p=η.ξ a:=k;show mR B z c n l j λJ A=>(d,_,A,m)
end
section
variable{X:Cx}{QE:γ QA_}{σ:St}{H:Hp}{s:ω}{A:Qy}{E:η->ω->Prop}{Q:η->ω->Prop}{c:η}{b:Ψ}
inductive aZ QBQ QAH:V->η->Prop where
 |Uv:aZ K H .Uv (.QU "NoneType")
 |bl (x:Ψ):aZ K H (.bl x) (.QU "bool")
 |QG (i:Λ):aZ K H QJR (.QU "int")
 |QZ QEh:aZ K H (.QZ x) (.QU "str")
 |flt (x:UInt64):aZ K H (.flt x) (.QU "float")
 |QV QHA QBy (e:H a<*.QV xs):aZ K H QAd (.QU "list")
 |frz QHA {o:UQ} QBy (e:H a<*.frz o QFn):aZ K H QAd (.QU "list")
 |Rn QHA QBy (e:H a<*.Rn xs):aZ K H QAd (.QU "tuple")
 |dK QHA {RW:γ QGs} (e:H a<*.dK RW):aZ K H QAd (.QU "dict")
 |dT QHA {RW:γ (γ A1×V)} (e:H a<*.dT RW):aZ K H QAd (.QU "dict")
 |XE {a C dx:θ} {fs:γ QDL} QDi (cl:BZ K C) (ha:Ξ.W.TR K QAr "__class__"<*δ (.RJ "object.__class__"))
   (hn:Ξ.W.specialIn K (.RJ "object.__class__") "__get__"<*δ (.RJ "getset_descriptor.__get__")) (htk:Ξ.W.takesIn K (.RJ "object.__class__")<*π)
   (hm:Ξ.W.mroIn K C (.QU "object")<*π):aZ K H QAd QAr
def rF QAA(d:ae x u)(ty:aZ X.K H x t)(e:kitOne X.K t c<*b)(h:∀k,Q (.UV b) {s with QT:=k}):Fr QAB A (UZ (.RJ "isinstance") [u,c]) Q E s:=by
 cases ty with
 |Uv=>cases(show u=η.ε from d);show Xj Ξ.W.kitx_none I.Xb S9.Sv e QBR h
 |bl y=>cases(show u=η.UV y from d);show Xj Ξ.W.kitx_bool I.Xb S9.Sv e QBR h
 |QG i=>let⟨t,q⟩:=(show ∃t,u=η.QG i t from d);cases q;show Xj Ξ.W.kitx_int I.Xb S9.Sv e QBR h
 |QZ y=>let⟨t,q⟩:=(show ∃t,u=η.QZ y t from d);cases q;show Xj Ξ.W.kitx_str I.Xb S9.Sv e QBR h
 |flt y=>let⟨t,q⟩:=(show ∃t,u=η.float y t from d);cases q;show Xj Ξ.W.kitx_float I.Xb S9.Sv e QBR h
 |@QV a xs f=>
  cases(show u=η.ξ a from d);let⟨_,_,n,_,h1⟩:=(show Ai X.Ω X.w H s.ρ a QFn from I.S8 a _ f);show Xj Ξ.W.kitx_list I.Xb (_,h1,1) e QBR h
 |@frz a l xs f=>
  cases(show u=η.ξ a from d);let⟨_,_,_,n,_,h1⟩:=(show Ai X.Ω X.w H s.ρ a (.frz l QFn)from I.S8 a _ f);show Xj Ξ.W.kitx_list I.Xb (_,h1,1) e QBR h
 |@Rn a xs f=>
  cases(show u=η.ξ a from d);let⟨_,_,_,p⟩:=(show Ai X.Ω X.w H s.ρ a QHM from I.S8 a _ f);let⟨o,h1,h2,_⟩:=p;show Xj Ξ.W.kitx_tuple I.Xb (o,h1,h2) e QBR h
 |@dK a RW f=>
  cases(show u=η.ξ a from d);let⟨_,_,vs,_,p⟩:=(show Ai X.Ω X.w H s.ρ a (.dK RW)from I.S8 a _ f);let⟨o,B,D,h1,h2,_⟩:=p;show Xj Ξ.W.kitx_dict I.Xb (o,h1,h2.1) e QBR h
 |@dT a RW f=>
  cases(show u=η.ξ a from d);let⟨_,_,xs,_,o,B,D,h1,h2,_⟩:=(show Ai X.Ω X.w H s.ρ a (.dT RW)from I.S8 a _ f);show Xj Ξ.W.kitx_dict I.Xb (o,h1,h2.1) e QBR h
 |@XE a C dx fs f j v m g r=>
  cases(show u=η.ξ a from d);let⟨L,O,_⟩:=Js I.S8 f;let⟨F,J,_⟩:=O.look;show Xj (Ξ.W.kitx_own (j.Yj _) j.hd v m g r) I.Xb J e QBR h
end
structure ak QK4(A:Qy):Prop where
 hd:A.SX=ε
 dp:A.depth+3*k+5<recursionLimit
 un:A.S_+16*k+200<UJ
def ak.Tj(r:ak k A)(h:j≤k):ak j A:=(r.hd,by have:=r.dp;lia,by have:=r.un;lia)
def ak.VU(r:ak (k+1) A)(QC:YT):ak k (A.VU QC):=
 (r.hd,by have:=r.dp;change A.depth+1+3*k+5<_;show IA this,by have:=r.un;change A.S_+3+16*k+200<_;lia)
def dZ{A:Qy}:(A.under (.RJ "type.__call__" QHY)).depth=A.depth+1:=by
 first|rfl|simp[Qy.under,Code.weight,Code.isCreation,Code.isGuard,Code.isCaller,Code.Ud,Code.isFrame,guardIds]
def nF{A:Qy}:(A.under (.RJ "type.__call__" QHY)).S_=A.S_+1:=by
 first|rfl|simp[Qy.under,Code.cUnits,Code.Ud,Code.isFrame]
def ak.make(r:ak (k+1) A)QFT QD_(kw:γ (QF×η)):ak k (A.under (.RJ "type.__call__" QHY)):=
 (r.hd,by have:=r.dp;rw[dZ];show IA this,by have:=r.un;rw[nF];lia)
def ak.depth(r:ak k A):A.depth<recursionLimit:=by have:=r.dp;lia
def ak.S_(r:ak k A):A.S_+64<UJ:=by have:=r.un;lia
def ak.units0(r:ak k A):A.S_<UJ:=by have:=r.un;lia
abbrev tNil:TA:=λ_ H Q=>Q [] H
abbrev AA(ta:TE)(tr:TA):TA:=λσ H Q=>ta σ H λx H1=>tr σ H1 λxs H2=>Q (x::xs) H2
section
variable{X:Cx}{e:SH}{es:γ SH}{te:TE}{t:TA}{Ri:UL}
def B3:PA X [] tNil:=λ_ _ _ _ H Q I h=>Vf.spliced_nil ([],H,I,.S5,h)
def AN(n:PE X e te)(m:PA X es t)(l:QBX>>>4):PA X QJU (AA te t):=by
 intro Ri a s d H Q I h;rw[l];change Fr _ _ (spliced (QAj::ST Ri QFS)) _ _ s;refine Vf.spliced_cons (nb (n a s d H _ I h) λu f c=>?_);let⟨x,r,p,i,k⟩:=c;show nb (m Ri a f d r _ p k) λus s2 b=>by let⟨xs,q,o,g,j⟩:=b;show(x::xs,q,o,.Rc i g,j)
abbrev Ln QG9:TE:=λσ H Q=>t σ H λxs H1=>xs.β≤Φ/\∀p,H1 p=ε->Q QAp (QO H1 p QHM)
abbrev Lo QG9:TE:=λσ H Q=>t σ H λxs H1=>xs.β≤Φ/\∀p,H1 p=ε->Q QAp (QO H1 p QFn)
def Am{i}(h:PA X es t):PE X (.Wr es i Ri) (Ln t):=by
 intro a s g H Q I j;refine wpAny_Tuple_spliced (nb (h Ri a s g H _ I j) λus c⟨xs,f,d,r,z,q⟩=>(by rw[<-r.β];show z,3));let k:f c⁻¹=ε:=d.S8.SZ QA2;refine(.ξ c⁻¹,QO f c⁻¹ QHM,d.Xy (t':=c.QT) (λb u e=>o9 _ e) QA2 ?_,1,q _ k);show(z,us,r,(_,QN _ ζ,1,0))
def Bi(h:PA X es t):PE X (.γ es Ri) (Lo t):=by
 intro a s g H Q I i;refine wpAny_List_spliced (nb (h Ri a s g H _ I i) λus c⟨xs,f,d,r,z,q⟩=>(by rw[<-r.β];show z,3));let j:f c⁻¹=ε:=d.S8.SZ QA2;refine(.ξ c⁻¹,QO f c⁻¹ QFn,d.Xy (t':=c.QT) (λb u e=>o9 _ e) QA2 ?_,1,q _ j);show(z,us,(0),r,QN _ ζ)
end
@[reducible]def Sp:=List V->Hp->VK->XK->Prop
@[reducible]def CXT:=List Env->Hp->Shared->XK->Value->Shared->Prop
structure bE QKU QBP QBQ QAs(υ:RC)(A:Qy)QE3 QB_ QAH:Prop where
 Ud:A.Ud<*KK
 Zb:Mod K mg υ
 bs:∀b o,υ.Δ b<*o->s.ρ.Δ b=δ o/\H b=ε
 bsz:υ.SN.Q'≤s⁻¹
 ZM:s.ρ.S6 υ KK
 frf:∀b∈pu KK,H b=ε
 S8:z_ P w H s.ρ
 V9:Xo s.WX
inductive CE QE3 QKU QBP QAH QB_ QAR(u:η)QKQ:Prop
 |mk (v H':_) (_:s'.os=s.os) (_:Xo s'.WX) QJA (_:z_ P w H' s'.ρ) (_:ae v u) (_:Q v H')
abbrev CR(CX:CXT)QE3 QKU QBP QAH QB_ QAR QE0(r:Result)QKQ:Prop:=
 match r with
 |.ok (.ret u)=>CE KK P w H s Q u s'
 |.ok _=>Rk
 |.WV e=>CX KK H s E e s'
structure aa QKU QBP QBQ QAs(υ:RC)(CX:CXT)QK4 QEx(fd:TY)QFx(sp:Sp):Prop where
 TL:∀vs H Q E,sp vs H Q E->vs.β=ps.β
 Sl:∀(A:Qy)QE3 QB_ QAH(args:Args)QD_ QAI QAR QE0,ak k A->bE P w K mg υ A KK s H->BindsTo s fd args QF2->ad vs us->sp vs H Q E->
  VD QA' A (.UZ QAg args) (CR CX KK P w H s Q E) s
def aa.Tj{P:Id}QF3 QC7(F:aa P w K mg υ e j f d ps b)(h:j≤k):aa P w K mg υ e k f d ps b:=(F.TL,λA KK s H a us vs Q E c=>F.Sl A KK s H a us vs Q E (c.Tj h))
def bE.make QC7(e:bE P w K mg υ A KK s H)QFT QD_(kw:γ (QF×η)):bE P w K mg υ (A.under (.RJ "type.__call__" QHY)) KK s H:=(by first|show e.Ud|(simpa[Qy.under,Code.envs,Code.isFrame,pushEnvs]using e.Ud),e.Zb,e.bs,e.bsz,e.ZM,e.frf,e.S8,e.V9)
section
variable{X:Cx}{QE:γ QA_}{σ:St}{H:Hp}{s s':ω}
def f'.env0 QAA:bE X.Ω X.w X.K X.mg X.υ X.A X.RL s H:=
 (I.ok.Ud,I.ok.Zb,I.bs,QB I.ok.bsz I.sz,I.RL,I.Xg,I.S8,I.V9)
def f'.after QAA(h:CE X.RL X.Ω X.w H s Q u s'):EP X QE σ Q u s':=by
 let⟨v,H',os,a,un,e,r,q⟩:=h;let⟨f,g,d,t,c⟩:=s';obtain ζ:c=s.os:=os;show(v,H',I.UZ (h':=f) (g':=g) (d':=d) (t':=t) (ch:=[]) un e a (λb z=>QL z (!1)),r,q)
end
abbrev BE(sp:Sp)(dvs:γ V)QE0 QG9:TE:=λσ H Q=>t σ H λvs H1=>sp QEI H1 Q E
abbrev yA QFT(sp:Sp)(dvs:γ V)QE0 QG9:TE:=λσ H Q=>t σ H λvs H1=>∀x dx,H1 x=ε->H1 dx=ε->dx≠x->
 sp (.ξ x::QEI) (QO (QO H1 dx (.own x)) x (.XE C dx [])) (λv H2=>v=.Uv/\Q QDp H2) E
abbrev yx QBQ(fd:TY)QFx(ds:γ η):Prop:=
 ∀QB_ QD_,K.In s.ρ->(us++ds).β=ps.β->BindsTo s fd (us,[]) (ps.X6 QKo)
def yx.UW QC7(h:∀us:γ η,us.β=ps.β->Zp b (us,[])=pure QF2):yx K b ps []:=λs us _ a=>by
 rw[Tx]at a⊢;show .of_eq (h us a)
abbrev D0(CX:CXT)QDn QE0:Prop:=∀QAM QCC QAH QB_(e:η)QKQ,f' X QE σ H s->CX X.RL H s E e s'->X.xe e s'
section
variable{X:Cx}{CX:CXT}{k:χ}{f C:θ}{fd:TY}{ps:γ QF}{sp:Sp}{dvs:γ V}{ds:γ η}{E:XK}{x m:QF}{p Ri apos:UL}{e o:SH}{es:γ SH}{ta:TE}{t:TA}
def mY{c:St}QAZ(i:ak k X.A)(n:yx X.K fd ps ds)(l:ad dvs ds)(g:D0 CX X E)(I:f' X a c H s)QF4(h:sp QEI H Q E):Fr QAB X.A (UZ QAg us) (EP X a c Q) X.xe s:=by
 let d:ad QEI QKo:=r.append l;let j:(us++ds).β=ps.β:=by rw[<-d.β];show F.TL _ _ _ _ h
 refine US (Tv (F.Sl X.A X.RL s H (us,[]) QKo QEI Q E i I.env0 (n s us I.Xb j) d h) λr s' b=>?_);cases r with
 |WV e=>show g a c H s e s' I b
 |ok q=>
  cases q with
  |ret u=>show I.after b
  |next=>show Rk.SJ b
  |brk=>show Rk.SJ b
  |YB=>show Rk.SJ b
def o8 QAZ(j:ak k X.A)(u:Gl X x)(l:X.mg x<*.ξ f)(n:Vz X.K QAg=π)(z:yx X.K fd ps ds)(y:ad dvs ds)(i:D0 CX X E)(B:PA X QJU t)(c:((x==("__debug__":QF))=ν)>>>0)(v:QBX>>>4)QBk:PE X QDq (BE sp dvs E t):=by
 intro a s g H Q I h;refine Rg (sB I u l ?_ c);refine callWith_K (h₀:=X.υ) I.ok.Zb.ZL n (nb (B Ri a s g H _ I h) λus D⟨vs,J,d,r,q⟩=>(d.Xb,3)) v b;show mY F j z y i d r q
structure Mk QBQ(C f:θ):Prop where
 makes:makesIn K C=π
 init:Ξ.W.TR K QAr "__init__"<*δ QAg
 fn:isFn K QAg=π
 kp:Vz K QAr=π
def Co{d:St}(M:Mk X.K C f)QAZ(q:ak (k+1) X.A)(B:yx X.K fd ps ds)(z:ad dvs ds)(n:D0 CX X E)(I:f' X b d H s)QF4(h:∀x dx,H x=ε->H dx=ε->dx≠x->sp (.ξ x::QEI) (QO QFU x (.XE C dx [])) (λv N=>v=.Uv/\Q QDp N) E):Fr QAB X.A (UZ QAr us) (EP X b d Q) X.xe s:=by
 let i:=h QBN s⁻¹ (I.S8.SZ (XM _)) QDA (RM (R8 _));let c:=f'.made (C:=C) I;let g:ad (V.ξ QBN::QEI) (η.ξ QBN::QKo):=.Rc ζ (r.append z);let y:(η.ξ QBN::us++ds).β=ps.β:=by
  let e:=g.β;rw[F.TL _ _ _ _ i]at e;show e.QI
 refine US (uL (f:=f) I.Xb M.makes M.init (Ur.mp M.fn) (Tv (F.Sl _ X.RL _ _ (η.ξ (s⁻¹+1)::us,[]) (η.ξ (s⁻¹+1)::(us++ds)) _ _ E (q.make C us [])
  (c.env0.make C us []) (B _ (η.ξ (s⁻¹+1)::us) c.Xb y) g i) λr s' a=>?_))
 cases r with
 |WV e=>show n b d _ _ e s' c a
 |ok D=>
  cases D with
  |ret u=>
   let⟨v,H',L,j,J,l⟩:=c.after a;subst J;show(j,(V.ξ QBN,H',L,1,l))
  |next=>show Rk.SJ a
  |brk=>show Rk.SJ a
  |YB=>show Rk.SJ a
def FA(M:Mk X.K C f)QAZ(j:ak (k+1) X.A)(n:Gl X x)(l:X.mg x<*.ξ C)(y:yx X.K fd ps ds)(v:ad dvs ds)(i:D0 CX X E)(z:PA X QJU t)(c:((x==("__debug__":QF))=ν)>>>0)(u:QBX>>>4)QBk:PE X QDq (yA C sp dvs E t):=by
 intro a s g H Q I h;refine Rg (sB I n l ?_ c);refine callWith_K (h₀:=X.υ) I.ok.Zb.ZL M.kp (nb (z Ri a s g H _ I h) λus B⟨vs,D,d,r,q⟩=>(d.Xb,3)) u b;show Co M F j y v i d r q
def uc(M:Mk X.K C f)QAZ(d:ak (k+1) X.A)(i:Gl X x)(g:X.mg x<*.ξ C)(l:yx X.K fd ps ds)(j:ad dvs ds)(c:D0 CX X E)(a:((x==("__debug__":QF))=ν)>>>0):PE X (.T0 QCU [] [] Ri) (yA C sp dvs E tNil):=by
 intro b s n H Q I h;refine Rg (sB I i g ?_ a);show Ξ.W.callWith_K0 I.Xb M.kp (Co (us:=[]) M F d l j c I .S5 h)
end
section
variable{X:Cx}{CX:CXT}{k:χ}{f C:θ}{fd:TY}{ps ks:γ QF}{sp:Sp}{E:XK}{x m:QF}{p Ri apos kpos:UL}{e o:SH}{es:γ SH}{kws:γ Xn}{te ta:TE}{t tk:TA}{nm:ψ QF}
variable{g:γ η->γ η->γ η}{gV:γ V->γ V->γ V}
end
structure p_(N P:γ QF)QJt:Prop where
 Ut:sc.Ut=.UF
 co:sc.Zg=ν
 gen:sc.Zf=ν
 nd:N.R7
 pre:N.R0 P.β=P
 par:∀x∈P,sc.QH.ς x<*.local\/sc.QH.ς x<*.SF
 nofree:∀y∈sc.QH,y.2≠.SB
def ik QJy{x:QF}:∀{a:γ (QF×η)}QHJ,(∀v,(x,v,)∉a)->bindL Sy a m x=m x
 |[],_,_=>rfl
 |(n,v)::r,m,h=>by
  unfold bindL;rw[ik λw hw=>h w (Q9 _ hw)];split
  .have:x≠n:=by rintro ζ;show h v Sk
   simp[this]
  .rfl
def BM QJy{x:QF}:∀{a:γ (QF×η)}QHJ,(∀v,(x,v,)∉a)->bindC Sy a m x=m x
 |[],_,_=>rfl
 |(n,v)::r,m,h=>by
  unfold bindC;rw[BM λw hw=>h w (Q9 _ hw)];split
  .rfl
  .have:x≠n:=by rintro ζ;show h v Sk
   simp[this]
def BN QJy{x:QF}{v:η}:∀{P:γ QF}{vs:γ η}QEH QHJ,P.R7->P[i]?<*x->vs[i]?<*v->Sy x<*.local->
  bindL Sy (P.X6 vs) m x<*v
 |[],_,_,_,_,h,_,_=>by simp at h
 |_::_,[],_,_,_,_,h,_=>by simp at h
 |p::P,w::vs,0,m,a,h1,h2,b=>by
  simp at h1 h2;subst h1;subst h2;change bindL Sy QF5 m p=_;unfold bindL;rw[ik λv c=>(γ.nodup_cons.mp a).1 (Yz c).1,IO b];simp
 |p::P,w::vs,i+1,m,a,h1,h2,b=>by
  change bindL Sy QF5 m x=_;unfold bindL;show BN (i:=i) (γ.nodup_cons.mp a).2 (by simpa using h1) (by simpa using h2) b
def il QJy{x:QF}{v:η}:∀{P:γ QF}{vs:γ η}QEH QHJ,P.R7->P[i]?<*x->vs[i]?<*v->Sy x≠δ .local->
  bindC Sy (P.X6 vs) m x<*v
 |[],_,_,_,_,h,_,_=>by simp at h
 |_::_,[],_,_,_,_,h,_=>by simp at h
 |p::P,w::vs,0,m,a,h1,h2,b=>by
  simp at h1 h2;subst h1;subst h2;change bindC Sy QF5 m p=_;unfold bindC;rw[BM λv c=>(γ.nodup_cons.mp a).1 (Yz c).1,Cl b];simp
 |p::P,w::vs,i+1,m,a,h1,h2,b=>by
  change bindC Sy QF5 m x=_;unfold bindC;show il (i:=i) (γ.nodup_cons.mp a).2 (by simpa using h1) (by simpa using h2) b
abbrev WJ(N:γ QF)QAI:St:=vs.Q_ δ++γ.replicate (N.β-vs.β) ε
abbrev aP(CX:CXT)QKU QBP QBQ QAs(υ:RC)(N:γ QF)(RD:QF)(RF:TJ)QEx(cd:η)(A:Qy)QE3 QB_ QAH QE0:Cx where
 Ω:=P
 w:=w
 K:=K
 mg:=mg
 υ:=υ
 A:=A.VU QGf
 N:=N
 U0:=s
 H₀:=H
 QC:=XG RD RF s⁻¹ f cd
 KK:=KK
 RL:=XG RD RF s⁻¹ f cd::KK
 ex:=[]
 XV:=π
 fn:=λ_=>π
 pn:=[]
 xe:=λe s'=>Fr QA' (A.VU QGf) (Wn QGf e) QKp QJz s'
def Cp{sc:TJ}(h:sc.QH.ς x<*.SF):∃c,(Yl n sc.QH []).ς x<*c:=by
 let q:=Ξ.W.cellsFrom_some sc.QH n [] (.RN h);show ψ.isSome_iff_exists.mp q
def g6{F:CXT}{P:Id}QF3 QC7 QFI{υ:RC}{N ps:γ QF}{RD:QF}{d:TJ}{f:θ}{t:η}{A:Qy}{KK:γ YT}{s B:ω}QHV{E:XK}QCH{vs:γ V}(S:p_ N ps d)(L:A.SX=ε)(g:bE P w K mg υ A KK s H)(Q:vs.β=ps.β)QF4(x:InCallC s s⁻¹ (bindL (XG RD d s⁻¹ f t).Sy QF2 λ_=>ε) (Yl QBN d.QH []) (bindC (XG RD d s⁻¹ f t).Sy QF2 λ_=>ε) B):f' (aP F P w K mg υ N RD d f t A KK s H E) [] (WJ N vs) H B:=by
 let J:ps.β≤N.β:=by have:=Qw γ.β S.pre;rw[Sn]at this;lia
 let⟨h1,O,ζ,D⟩:=x.done;let j:∀b:θ,b∉(aP F P w K mg υ N RD d f t A KK s H E).ex:=λb z=>QL (show b∈([]:γ θ)from z) (!1);refine((g.Zb,S.Ut,5,QA _,λy z c h1 h2=>?_,λy l=>?_,λy c _ h=>?_,λ_=>L,Qy.frames_deeper g.Ud,.Rh (1,1),λb z=>QL z (j b),g.bs,g.bsz,λb _ _=>j b,λb z=>QL z (j b),g.ZM,g.frf),
  rfl,g.V9,Un.XD D,(_,x.toInCall.ns,λi y v h1 h2 R=>?_),λy c h=>(_,x.SF y c h),g.S8.SZ (QA _),λy c h=>?_,λp hp=>QL (show p∈([]:γ (θ×UQ))from hp) (!1),g.S8.XD D,3)
 .exact name_of_addr x.apart (Ξ.Sj h1) (Ξ.Sj h2)
 .let l:d.QH.ς y<*.SF\/d.QH.ς y<*.SB:=l;rcases l with l|l
  .exact Cp l
  .exact QL ζ (S.nofree _ (Ξ.Sj l))
 .exact Uq (x.Zt y c (Ξ.Sj h))
 .let o:i<vs.β:=by
   unfold WJ at h2;by_cases o:i<vs.β
   .exact o
   .rw [QM (by simpa using o)]at h2;rw[γ.getElem?_replicate]at h2;split at h2<;>cases h2
  let M:vs[i]?<*v:=by
   unfold WJ at h2;rw[QK (by simpa using o),na]at h2;cases e:vs[i]? with
   |ε=>rw[e]at h2;cases h2
   |δ a=>rw[e]at h2;cases h2;rfl
  let⟨u,C,I⟩:=r.Yj M;let hp:ps[i]?<*y:=by
   rw[<-S.pre,γ.getElem?_take_of_lt (Fi o Q)];show h1
  let m:ps.R7:=by rw[<-S.pre];show S.nd.sublist (γ.take_sublist _ _)
  refine(u,I,3);rcases S.par y (Ab hp)with k|k
  .exact .RN (k,BN m hp C k)
  .obtain ⟨c,e⟩:=Cp (n:=s⁻¹+1) k;refine .Rh (.RN k,c,e,3);let q:=x.SF y c e;rw[il m hp C (by change d.QH.ς y≠_;rw[k];decide)]at q;show q
 .exact g.S8.SZ (Uq (x.Zt y c (Ξ.Sj h)))
 .unfold WJ;change _=N.β;rw[q4,j',Uj];lia
def ll{z:CXT}{P:Id}{w:QW}{K:RG}{mg:QF->ψ η}{υ:RC}{k:χ}{f:θ}{Ss RD:QF}{c:UR}{d:γ Rb}{a:TJ}{T kV Tg pm VA ct Z:η}{an Y:ψ θ}{D:R_ (ψ η)}{N ps:γ QF}{B:Sp}(lk:K.ς f<*(Z,Y,.VL (U_ Ss RD c d a T kV Tg pm an VA ct),D))(M:UH K VA RD=π)(S:p_ N ps a)(TL:∀vs H Q E,B vs H Q E->vs.β=ps.β)(i:∀(A:Qy)(KK:γ YT)(s:ω)(H:Hp)(vs:γ V)(Q:VK)(E:XK),ak k (A.VU (XG RD a s⁻¹ f VA))->B vs H Q E->
   ∃t,Bd (aP z P w K mg υ N RD a f VA A KK s H E) d t/\t {nx:=λ_ H'=>Q .Uv H',rt:=Q} (WJ N vs) H):aa P w K mg υ z (k+1) f (U_ Ss RD c d a T kV Tg pm an VA ct) ps B:=by
 refine(TL,λA KK s H U us vs Q E L p hb r l=>?_);let hl:=TL _ _ _ _ l;let X:K.In s.ρ:=p.Zb.ZL.Ti λb o e=>(p.bs b o e).1;let F:s.ρ.NoLimit:=p.Zb.Zz.Ti λb o e=>(p.bs b o e).1;let h:∀y∈ps.X6 us,a.QH.ς y.1<*.local\/(a.QH.ς y.1=δ .SF/\((Yl QBN a.QH []).ς y.1).VR=π):=λO hy=>by
  let⟨n,v⟩:=O;rcases S.par n (Yz hy).1 with q|q
  .exact .RN q
  .exact .Rh QHN
 refine W3 L.depth (X _ _ lk) ζ S.co S.gen ζ (Ξ.W.codeRec_of X M) QE4;refine wpAny_newFunctionEnv_cells S.Ut h λQC he R x=>?_;subst he;refine(F.Ti x.toInCall.UB,codeAny_func ?_);let⟨t,ht,hq⟩:=i A KK s H vs Q E (L.VU _) l;let I:f' QGg [] (WJ N vs) H R:=g6 S L.hd p hl r x;refine RQ (ht [] R (WJ N vs) H _ I hq) (λfl s' j=>?_) λe s' j=>j;let m:∀{g:St}QIG{v:V}{u:η},f' QGg [] g H' s'->ae v u->Q v H'->CE KK P w H s Q u s':=
  λ{g H' v u}J C q=>(v,H',J.os,J.V9,J.υ,J.S8,C,q)
 cases fl with
 |ret u=>
  let⟨v,g,H',J,C,q⟩:=j;show m J C q
 |next=>
  let⟨g,H',J,q⟩:=j;show m (v:=V.Uv) (u:=η.ε) J ζ q
 |brk=>
  let⟨_,_,_,q⟩:=j;show Rk.SJ q
 |YB=>
  let⟨_,_,_,q⟩:=j;show Rk.SJ q
section
variable{X:Cx}{x:QF}{p Ri:UL}{e:SH}{es:γ SH}{t:TA}{id T:X5}{r:γ V->Hp->VK->Prop}
abbrev Br(r:γ V->Hp->VK->Prop)QG9:TE:=λσ H Q=>t σ H λvs H1=>r vs H1 Q
def CF(q:C7 X (.RJ id) r)(n:Gl X x)(m:X.mg x=ε)(k:Xl x<*.RJ id)(u:PA X QJU t)(l:(x≠"__name__")>>>0)(c:((x==("__debug__":QF))=ν)>>>0)(o:QBX>>>4)QBk:PE X QDq (Br r t):=by
 intro a s f H Q I h;refine Rg (u_ I n m k ?_ l c);show Su.WZ.callWith_builtin1 (nb (u Ri a s f H _ I h) λus g d=>by let⟨vs,w,v,i,j⟩:=d;show q a g f w vs us Q v i j) o b
def Da(q:C7 X (.QU T) r)(n:Gl X x)(m:X.mg x=ε)(k:Xl x<*.QU T)(u:PA X QJU t)(l:(x≠"__name__")>>>0)(c:((x==("__debug__":QF))=ν)>>>0)(o:QBX>>>4)QBk:PE X QDq (Br r t):=by
 intro a s f H Q I h;refine Rg (u_ I n m k ?_ l c);show Su.WZ.Tw (nb (u Ri a s f H _ I h) λus g d=>by let⟨vs,w,v,i,j⟩:=d;show q a g f w vs us Q v i j) o b
end
end L2
namespace HT
open PyProof.Rows
section
open PySem.SeqAt
open PySem.AutoSeq1 (wpAny_loadPart')
open PySem.MeetsSeq PySem.MeetsSeq2 PySem.MeetsSeq3
end
section
variable{Ω:Id}{w:QW}{A:Qy}{E:η->ω->Prop}{s:ω}
def FB(q:IsTup s.ρ t vs.Θ)(r:IsTup s.ρ b ws.Θ)(k:vs≠[])(h1:ws=[]->Q QB0 s)(h2:ws≠[]->Q QAX {s with ρ:=s.ρ.Rm {SS:=.QU "tuple",RH:=.WA (vs++ws).Θ} })(hsz:vs.β+ws.β≤Φ):Fr QAU A (UK .Add QB0 QEB) Q E s:=by
 let⟨⟨SS,dd,o,i⟩,h,m,n,l⟩:=id q;let⟨⟨p,g,data2,c⟩,a,f,j,d⟩:=id r;simp only at m l f d;subst m l f d;let e:vs.Θ++ws.Θ=(vs++ws).Θ:=by simp
 by_cases hw:ws=[]
 .exact concat_meets (_,h,1) (_,a,1) noFill_tuple_add seq_tuple_add Ξ.F.slot_tuple_add Ξ.F.entry_tuple_add (Ξ.F.args_tuple_add_2 _ _)
   (tuple_addW1 t b vs.Θ ws.Θ n j dd g i c QFV (by simp[hw])) (h,a,h1 hw)
 .refine concat_meets (_,h,1) (_,a,1) noFill_tuple_add seq_tuple_add Ξ.F.slot_tuple_add Ξ.F.entry_tuple_add (Ξ.F.args_tuple_add_2 _ _)
   (tuple_addW2 t b vs.Θ ws.Θ n j dd g i c QFV QCf (by rw[Qu,Qu];show hsz)) (h,a,3)
  rw[e];show h2 hw
abbrev Ws(n d:χ):ψ Λ->χ
 |ε=>d
 |δ v=>if v<0 then(v+(n:Λ)).Ru else min v.Ru n
def Cq(n d:χ):Ws n d ε=d:=ζ
def Db(n d k:χ):Ws n d (δ (k:Λ))=min k n:=by
 change (if (k:Λ)<0 then((k:Λ)+(n:Λ)).Ru else min (k:Λ).Ru n)=min k n;rw[Cl GZ,Tn]
def zv(n d:χ)(b:d≤n)(o:ψ Λ):Ws n d o≤n:=by
 cases o with
 |ε=>show b
 |δ v=>
  change (if v<0 then(v+(n:Λ)).Ru else min v.Ru n)≤n;by_cases a:v<0
  .rw [IO a];lia
  .rw [Cl a];show χ.min_le_right _ _
def pZ(v:Λ)(n d:χ):(if v<0 then max (v+(n:Λ)) 0 else min v (n:Λ))=((Ws n d QF1:χ):Λ):=by
 change (if v<0 then max (v+(n:Λ)) 0 else min v (n:Λ))=(((if v<0 then(v+(n:Λ)).Ru else min v.Ru n):χ):Λ);by_cases a:v<0
 .simp only[IO a];lia
 .simp only[Cl a];lia
def oE(lo a:ψ Λ)QCm:Builtin.Zu.sliceAdjust lo a 1 (n:Λ)=(((Ws n 0 lo:χ):Λ),((Ws n n a:χ):Λ),):=by
 let h1:¬ ((1:Λ)<0):=by lia
 unfold Builtin.Zu.sliceAdjust;simp only[h1,X0];refine Yq.ext ?_ ?_
 .cases lo with
  |ε=>rfl
  |δ v=>show pZ v n 0
 .cases a with
  |ε=>rfl
  |δ v=>show pZ v n n
def ng(i j:χ):Builtin.Zu.slicePlaces (i:Λ) (j:Λ) 1=j-i:=by
 unfold Builtin.Zu.slicePlaces;let h1:(1:Λ)>0:=by lia
 simp only[h1,Z3,Λ.ediv_one];split<;>lia
def cY(p:IsPart v o)(h:Q o s):Fr QAU A (Builtin.Zu.slicePartIndex v) Q E s:=by
 cases p with
 |ε=>show slicePart_none h
 |QG i t=>show slicePart_int h
def Ov{lo b:ψ Λ}{n:χ}(f:s.ρ.IsSliceOf d vl vu .ε)(pl:IsPart vl lo)(e:IsPart vu b)(h:Q (((Ws n 0 lo:χ):Λ),1,Ws n n b-Ws n 0 lo,) s):Fr QAU A (Builtin.Zu.sliceApplied QDM (pure (n:Λ))) Q E s:=by
 let⟨os,a,g,c⟩:=id f;unfold Builtin.Zu.sliceApplied Builtin.Zu.sliceFields;refine e_ (e_ (RP a c (x:=vl) ζ (e_ (RP a c (x:=vu) ζ (e_ (RP a c (x:=.ε) ζ QBv))))));refine e_ (slicePart_none ?_);change Fr _ _ (if ((1:Λ)==0)=π then _ else _) _ _ s;rw[Cl (!0)];refine e_ (cY pl (e_ (cY e (e_ QBv))));change Fr _ _ (match Builtin.Zu.sliceAdjust lo b 1 (n:Λ)with|(lo,b)=>pure (lo,(1:Λ),Builtin.Zu.slicePlaces lo b 1,)) _ _ s;rw[oE lo b n];change Fr _ _ (pure (((Ws n 0 lo:χ):Λ),(1:Λ),Builtin.Zu.slicePlaces ((Ws n 0 lo:χ):Λ) ((Ws n n b:χ):Λ) 1,)) _ _ s;rw[ng];show h9 h
def t7(xs:R_ η)(i k:χ):((γ.Re k).filterMap λ(m:χ)=>xs[((i:Λ)+(m:Λ)*1).Ru]?).Θ=((xs.Qx.Th i).R0 k).Θ:=by
 let e:(λ(m:χ)=>xs[((i:Λ)+(m:Λ)*1).Ru]?)=λm=>xs[i+m]?:=by
  funext m;have:((i:Λ)+(m:Λ)*1).Ru=i+m:=by lia
  rw[this]
 rw[e];have:=pick_run xs i k;rw[γ.filterMap_map]at this;let a:((λx=>xs[x]?)∘λx=>i+x)=λm=>xs[i+m]?:=ζ;rw[a]at this;rw[this]
def AR{lo c:ψ Λ}(d:IsTup s.ρ t a)(k:s.ρ.IsSliceOf j vl vu .ε)(pl:IsPart vl lo)(l:IsPart vu c)(hw:¬ (Ws a.Q' 0 lo=0/\Ws a.Q' a.Q' c=a.Q'))(h:Q QAX {s with ρ:=s.ρ.Rm {SS:=.QU "tuple",RH:=.WA ((a.Qx.Th (Ws a.Q' 0 lo)).R0 QEV).Θ} })(hsz:a.Q'≤Φ):Fr QAU A (getItem QB0 (.ξ j)) Q E s:=by
 let b:sizeOk (.WA ((a.Qx.Th (Ws a.Q' 0 lo)).R0 QEV).Θ):=by
  change ((a.Qx.Th (Ws a.Q' 0 lo)).R0 QEV).Θ.Q'≤Φ;rw[Qu,Sn,WP,UA];omega
 let r:Ws a.Q' a.Q' c≤a.Q':=zv _ _ QA2 c;let⟨os,e,g,n⟩:=id k;let i:s.Vi (.ξ j) "slice":=(os,e,g);unfold getItem;try with_reducible refine RZ ?_
 first|refine e_ QBv|skip
 refine e_ (wpAny_sequenceKey d.VO (!0) ?_);refine e_ (Sg (Ss:=QF.Rj "__getitem__") d.VO Su.WZ.Xs
  (SV Su.WZ.Xs d.VO entry_tuple_getitem ?_ (args_tuple_getitem _ _)))
 change Fr _ _ (Builtin.Wr.tupleItemsOf QB0>>=_) _ _ s;refine e_ (tupleItemsOf_ d ?_);refine e_ (Xf i ?_);rw[IO (!0)];refine e_ (Ov k pl l ?_);let f:¬ (QC3=π):=by
  intro q;rw[TW,TW]at q;let p:((Ws a.Q' 0 lo:χ):Λ)=0:=XF q.1.1;let o:Ws a.Q' a.Q' c-Ws a.Q' 0 lo=a.Q':=XF q.2;show hw (!6,!6)
 change Fr _ _ (if QC3=π then _ else _) _ _ s;rw[Cl f,t7];first
  |show e_ (m:=Builtin.Wr.tupleExact _) (Si QIb b)
  |show e_ (m:=Builtin.Wr.tupleExact _) (Si (e_ (h9 QIb)) b)
  |show e_ (e_ (m:=Builtin.Wr.tupleExact _) (Si (h9 QIb) b))
  |show e_ (e_ (m:=Builtin.Wr.tupleExact _) (Si QIb b))
end
end HT
namespace L2
open PySem.Spec PyProof.Rows
@[reducible]def TO:=St->Hp->(Option Int->Hp->Prop)->Prop
abbrev PO QDn(e:ψ SH)(t:TO):Prop:=
 ∀QAM QB_ QCC QAH(Q:ψ Λ->Hp->Prop),f' X QE σ H s->t σ H Q->
  Fr QAB X.A (evalPart e X.QC) (λu s'=>∃o H',f' X QE σ H' s'/\IsPart u o/\Q o H') X.xe s
abbrev tNoPart:TO:=λ_ H Q=>Q ε H
inductive ze(Q:ψ Λ->Hp->Prop)(x:V)QDz:Prop
 |mk (i:_) (_:x=.QG i) (_:Q (δ i) H1)
abbrev Ow(t:TE):TO:=λσ H Q=>t σ H (ze Q)
section
variable{X:Cx}{e:SH}{te:TE}{lo hi:ψ SH}{tl th:TO}{Ri p2:UL}
def Gp:PO X ε tNoPart:=by
 intro a s b H Q I h;rw[evalPart_none];show h9 (ε,H,I,.ε,h)
def Dc QG_:PO X (δ e) (Ow te):=by
 intro a s c H Q I hw;rw[evalPart_some];refine nb (h a s c H _ I hw) λu k b=>?_;let⟨x,j,g,d,f⟩:=b;let⟨i,ζ,q⟩:=f;let⟨t,ζ⟩:=d;show(δ i,j,g,.QG i t,q)
abbrev Kk QDn QJ0:Prop:=
 ∀QAM QB_ QCC QAH(x:V)(v vl vu:η)QKq(sl:θ)QAR,f' X QE σ H s->ae x v->s.ρ.IsSliceOf sl vl vu .ε->IsPart vl lo->IsPart vu hi->r x lo hi H Q->
  ∃T id,Yu (.QU T) "__getitem__"=pure (δ (.RJ id))/\s.Vi v T/\Fr QAB X.A (getItem v (.ξ sl)) QCr X.xe s
abbrev Ox QJ0(te:TE)(tl th:TO):TE:=λσ H Q=>te σ H λx H1=>tl σ H1 λl H2=>th σ H2 λu H3=>r x l u H3 Q
def Eo(z:Kk X r)(D:PE X e te)(B:PO X lo tl)(t:PO X hi th):PE X (.Yp e (.Zu lo hi ε p2) Ri) (Ox r te tl th):=by
 intro a s d H Q I h;refine Subscript_ (nb (D a s d H _ I h) λv j g=>?_);let⟨x,O,M,k,o⟩:=g;refine wpAny_Slice (nb (B a j d O _ M o) λvl s2⟨l,N,L,pl,n⟩=>nb (t a s2 d N _ L n) λvu c f=>?_);let⟨u,i,J,p,m⟩:=f;rw[evalPart_none];refine h9 ?_;let F:f' X a d i {c with ρ:=c.ρ.Rm {SS:=.QU "slice",RH:=.SD #[vl,vu,.ε]} }:=J.XD (t':=c.QT) λb P q=>o9 _ q;let⟨T,id,E,y,C⟩:=z a {c with ρ:=c.ρ.Rm {SS:=.QU "slice",RH:=.SD #[vl,vu,.ε]} } d i x v vl vu l u c⁻¹ Q F k (RC.IsSliceOf.new ..) pl p m;change Fr QAB X.A (subscriptTail e (.Zu lo hi ε p2) v (.ξ c⁻¹)) (EP X a d Q) X.xe {c with ρ:=c.ρ.Rm {SS:=.QU "slice",RH:=.SD #[vl,vu,.ε]} };show tail_any (ops:=[.ξ c⁻¹,v]) y E C QAS
abbrev Ad QCK QKq:γ V:=(xs.Th QIc).R0 QGu
def NA QCK QKq:(Ad xs lo hi).β≤xs.β:=by
 unfold Ad;rw[Sn,WP];show Np
inductive Lp QBQ(x:V)(lo:ψ Λ)(hi:ψ Λ)QAH QAR:Prop
 |mk (a xs:_) QET (_:q5 K H a xs) (_:¬ (HT.Ws xs.β 0 lo=0/\HT.Ws xs.β xs.β hi=xs.β)) (_:∀p,H p=ε->Q QAp (QO H p (.Rn (Ad xs lo hi))))
def zp:Kk X (Lp X.K):=by
 intro d s l H x v vl vu lo hi m Q I g k pl i h;let⟨a,xs,ζ,j,hw,q⟩:=h;cases g;let⟨R9,r,f,hz⟩:=I.Uu j;let c:R9.Θ.Q'=xs.β:=by rw[Qu];show r.β.QI
 refine("tuple",_,Su.WZ.Xs.ς,f.VO,3);refine HT.AR f k pl i (by rw[c];show hw) ?_ (by rw[c];show hz);rw[c];refine(.ξ s⁻¹,_,I.Xy (t':=s.QT) (o:=.Rn (Ad xs lo hi)) (λb n q=>o9 _ q) QA2 ?_,1,q _ QDA);show(QB (NA xs lo hi) hz,_,(r.Th QIc).R0 QGu,IsTup.new _ _)
inductive Oy QBQ(x:V)(y:V)QAH QAR:Prop
 |mk (a b xs ys:_) QET (_:y=.ξ b) (_:q5 K H a xs) (_:q5 K H b ys) (_:xs≠[]) (_:xs.β+ys.β≤Φ) (_:(ys=[]->Q QAd H)) (_:(ys≠[]->∀p,H p=ε->Q QAp (QO H p (.Rn (xs++ys)))))
def ad.nil_iff(r:ad xs us):us=[]↔xs=[]:=by
 cases r with
 |S5=>simp
 |Rc _ _=>simp
def pf:y' X (UK .Add) (Oy X.K):=by
 intro f s t H x y v u Q I j i h;let⟨a,b,xs,ys,ζ,ζ,r,p,n,hz,l,k⟩:=h;cases j;cases i;let⟨R9,d,m,_⟩:=I.Uu r;let⟨g,c,p2,_⟩:=I.Uu p;refine HT.FB m p2 (λz=>n (d.nil_iff.mp z)) (λz=>(.ξ a,H,I,1,l (c.nil_iff.mp z))) QId (by rw[<-d.β,<-c.β];show hz);refine(.ξ s⁻¹,_,I.Xy (t':=s.QT) (o:=.Rn (xs++ys)) (λb A q=>o9 _ q) QA2 ?_,1,k (λw=>z (c.nil_iff.Sz w)) _ QDA);show(by rw[q4];show hz,_,d.append c,IsTup.new _ _)
end
abbrev Dz QCm(i:Λ):ψ χ:=if 0≤i then(if i<n then δ i.Ru else ε)else if -(n:Λ)≤i then δ (i+n).Ru else ε
abbrev An{α:Type}(xs:γ α)(i:Λ):ψ α:=(Dz xs.β i).Zq λj=>xs[j]?
def pD(h:Dz n i<*j):seqIndex? i n=δ j/\j<n/\-(n:Λ)≤i/\i<n:=by
 unfold Dz at h;by_cases a:0≤i
 .rw [IO a]at h;by_cases h1:i<n
  .rw [IO h1]at h;let e:i.Ru=j:=ψ.δ.Tp h;show(by rw[seqIndex_of a h1,e],!6,!6,h1)
  .rw [Cl h1]at h;cases h
 .rw [Cl a]at h;by_cases h1:-(n:Λ)≤i
  .rw [IO h1]at h;let e:(i+n).Ru=j:=ψ.δ.Tp h;show(by rw[seqIndex_neg (Ei a) h1,e],!6,h1,!6)
  .rw [Cl h1]at h;cases h
def jB{xs:γ a}{v:a}(h:An xs i<*v):∃j,seqIndex? i xs.β=δ j/\xs[j]?=δ v/\j<xs.β/\-(xs.β:Λ)≤i/\i<xs.β:=by
 unfold An at h;cases e:Dz xs.β i with
 |ε=>rw[e]at h;cases h
 |δ j=>
  rw[e]at h;let⟨h1,h2,c,b⟩:=pD e;show(j,h1,h,h2,c,b)
def AS{xs:γ a}QIJ{v:a}(h:xs[j]?<*v):An xs (j:Λ)<*v:=by
 let b:j<xs.β:=(l' h).1;let e:Dz xs.β (j:Λ)<*j:=by
  unfold Dz;rw[IO FZ,IO (GO b)];simp
 unfold An;rw[e];show h
def Kl(xs:γ a)(v:a):An (xs++[v]) (-1)<*v:=by
 let b:(xs++[v]).β=xs.β+1:=by simp
 let e:Dz (xs++[v]).β (-1)<*xs.β:=by
  unfold Dz;rw[b,Cl (!0),IO (!6)];congr 1;lia
 unfold An;rw[e];change (xs++[v])[xs.β]?<*v;simp
abbrev jG(b:SH):Prop:=∀o i,subscripted b ν o i=operate [o,i] (getItem o i)
abbrev D6 QDn(r:R2):Prop:=
 ∀(value YF:SH)QAM QB_ QCC QAH(x y:V)(v u:η)QAR,f' X QE σ H s->ae x v->ae y u->r x y H Q->
  subscripted YF ν v u=operate [v,u] (getItem v u)->Fr QAB X.A (subscriptTail value YF v u) QCr X.xe s
abbrev Jt QDn(id:X5)QDb:Prop:=
 ∀QAM QB_ QCC QAH(x:V)QCK(v:η)QD_ QAR,f' X QE σ H s->ae x v->ad xs us->r x xs H Q->
  Fr QAB X.A (UZ (.RJ id) (v::us)) QCr X.xe s
section
variable{X:Cx}{a b:SH}{ta tb:TE}{Ri:UL}
def Af(i:D6 X r)(k:PE X a ta)(j:PE X b tb)(g:jG b):PE X (.Yp a b Ri) QJw:=by
 intro c s d H Q I h;show Subscript_ (G9 k j I h λv u s2 x y m l f e q=>i a b c s2 d m x y v u Q l f e q (g _ _))
inductive w6 QBQ(x:V)(y:V)QAH QAR:Prop
 |mk (p xs i v:_) (_:x=.ξ p) (_:y=.QG i) (_:k9 K H p xs) (_:An xs i<*v) QHn
inductive qI QBQ(x:V)(y:V)QAH QAR:Prop
 |mk (p xs i v:_) (_:x=.ξ p) (_:y=.QG i) (_:q5 K H p xs) (_:An xs i<*v) QHn
inductive rIxS(x:V)(y:V)QAH QAR:Prop
 |mk (z i c:_) (_:x=.QZ z) (_:y=.QG i) (_:z.β≤Φ) (_:An z.Vu.Qx i<*c) (_:Q QGZ H)
def jm:D6 X (w6 X.K):=by
 intro e f c s l H x y v u Q I B A h m;let⟨p,xs,i,z,ζ,ζ,C,E,q⟩:=h;cases B;let⟨t,ζ⟩:=A;let⟨R9,r,pl,hz⟩:=I.V8 C;let⟨j,h1,h2,M,J,F⟩:=jB E;let⟨w,o,g⟩:=r.Yj h2;let D:=r.β;let L:=bT;let d:EP X c l Q w s:=(z,H,I,g,q);by_cases n:0≤i
 .let k:i.Ru=j:=by
   rw[seqIndex_of n F]at h1;show ψ.δ.Tp h1
  show item_listR pl.VE n (GR L F hz) (by rw[k];simpa using o) d m
 .let k:(i+(R9.Θ.Q':Λ)).Ru=j:=by
   rw[seqIndex_neg (Ei n) J]at h1;rw[Qu,<-D];show ψ.δ.Tp h1
  show subscriptTail_builtinR (x:=w) pl.VE.VO slot_list_getitem.ς
   (wpAny_getItem_list_neg (Q:=λr s'=>r=w/\EP X c l Q r s') pl.VE (Ei n) (by rw[Qu]<;>lia) (GW L J hz) (by rw[k];simpa using o) (1,d)) m
def jl:D6 X (qI X.K):=by
 intro d e c s k H x y v u Q I m l h n;let⟨p,xs,i,z,ζ,ζ,o,B,q⟩:=h;cases m;let⟨t,ζ⟩:=l;let⟨R9,r,pl,hz⟩:=I.Uu o;let⟨j,h1,h2,J,F,E⟩:=jB B;let⟨w,C,f⟩:=r.Yj h2;let A:=r.β;let D:=bT;let g:EP X c k Q w s:=(z,H,I,f,q);show subscriptTail_builtinR (x:=w) pl.VO Xs.ς
  (getItem_tuple (j:=j) (Q:=λr s'=>r=w/\EP X c k Q r s') pl (GW D F hz) (GR D E hz) (by rw[Qu,<-A];show h1) (by simpa using C) (1,g)) n
def eD:D6 X rIxS:=by
 intro d e f s A H x y v u Q I k g h l;let⟨z,i,c,ζ,ζ,hz,n,q⟩:=h;let⟨t,ζ⟩:=k;let⟨t',ζ⟩:=g;let⟨j,h1,h2,C,p,o⟩:=jB n;let m:z.Vu.Qx.β=z.β:=by simp[QF.β]
 rw[m]at h1 p o;let B:=bT;show tail_any (typeIs_str s z t) Yf.ς (getItem_str (c:=c) (by
  let w:decide (i < -(2^63:Λ))=ν:=QJ (!6);let r:decide (i≥2^63)=ν:=QJ (!6);rw[w,r,Ψ.TQ]) (by rw[h1];simpa using h2) (.QZ ⟨#[c]⟩,H,I.Wa _,(_,ζ),q)) l
def nE(R9:γ η)(n j:χ)(u:η):Vy (·.Ra j u) {SS:=.QU "list",RH:=.WA R9.Θ n}={SS:=.QU "list",RH:=.WA (R9.Uw j u).Θ n}:=by
 simp[Vy]
def f'.QV{d:St}QK7(h:H p<*.QV xs):∃(R9:γ η)(n:χ),ad xs R9/\s.ρ.Δ p=δ {SS:=.QU "list",RH:=.WA R9.Θ n}/\xs.β≤Φ:=by
 let⟨z,R9,n,r,e⟩:=I.S8 p _ h;show(R9,n,r,e,z)
def f'.lstUpd{d:St}{R9 its':γ η}QK7(h:H p<*.QV xs)(j:s.ρ.Δ p<*{SS:=.QU "list",RH:=.WA R9.Θ n})(i:f {SS:=.QU "list",RH:=.WA R9.Θ n}={SS:=.QU "list",RH:=.WA its'.Θ g})(r:ad ys its')(hz:ys.β≤Φ)(t:χ):f' X c d (QO H p QBZ) {s with ρ:=s.ρ.Sq p f,QT:=t}:=by
 let e:(s.ρ.Sq p f).Δ p<*{SS:=.QU "list",RH:=.WA its'.Θ g}:=by
  rw[Rs f j (by rw[i]<;>rfl),i]
 refine I.ZR (x:=p) (e:=p) (by rw[h];trivial) QAz (λb u k q=>(Rq _ _ (Ne.QI k)).ο q) (_,e) ?_;show(hz,its',g,r,e)
inductive rSetL(o:V)(i:V)(v:V)QAH(Q:Hp->Prop):Prop
 |mk (p xs k j:_) (_:o=.ξ p) (_:i=.QG k) (_:H p<*.QV xs) (_:Dz xs.β k<*j) (_:Q (QO H p (.QV (xs.Uw j v))))
def tG:yt X rSetL:=by
 intro c s x H o i v C D u Q I z A y h;let⟨p,xs,k,j,ζ,ζ,hp,B,q⟩:=h;cases z;let⟨t,ζ⟩:=A;let⟨R9,n,r,d,hz⟩:=I.QV hp;let⟨h1,h2,l,g⟩:=pD B;let e:=r.β;let E:=bT;let w:f' X c x (QO H p (.QV (xs.Uw j v))) {s with ρ:=s.ρ.Sq p (Vy (·.Ra j u))}:=
  I.lstUpd hp d (nE R9 n j u) (r.Uw y j) (by rw[γ.length_set];show hz) s.QT
 by_cases m:0≤k
 .let f:k.Ru=j:=by
   rw[seqIndex_of m g]at h1;show ψ.δ.Tp h1
  show Ξ.W.ki_setAt d m (GR E g hz) (by rw[Qu,<-e];show g) (by rw[f];show(_,w,q))
 .let f:(k+(R9.Θ.Q':Λ)).Ru=j:=by
   rw[seqIndex_neg (Ei m) l]at h1;rw[Qu,<-e];show ψ.δ.Tp h1
  show Ξ.W.ki_setBack d (Ei m) (by rw[Qu,<-e];show l) (GW E l hz) (by rw[f];show(_,w,q))
def iE(lo c:ψ Λ)QCm:(XS lo c ε n).1=((HT.Ws n 0 lo:χ):Λ)/\(XS lo c ε n).2.1=((HT.Ws n n c:χ):Λ)/\(XS lo c ε n).2.2=1:=by
 refine(3,3,1)
 .cases lo with
  |ε=>simp[XS,HT.Ws]
  |δ i=>
   simp only[XS,HT.Ws,ψ.getD_none,show(1:Λ)>0 by decide,Z3];by_cases h:i<0
   .simp only[h,Z3]<;>show Il h
   .simp only[h,X0]<;>show Nq
 .cases c with
  |ε=>simp[XS,HT.Ws]
  |δ i=>
   simp only[XS,HT.Ws,ψ.getD_none,show(1:Λ)>0 by decide,Z3];by_cases h:i<0
   .simp only[h,Z3]<;>show Il h
   .simp only[h,X0]<;>show Nq
def fJ(R9:γ η)(lo c:ψ Λ):slicePick R9.Θ lo c ε=((R9.Th (HT.Ws R9.β 0 lo)).R0 (HT.Ws R9.β R9.β c-HT.Ws R9.β 0 lo)).Θ:=by
 let⟨h1,h2,d⟩:=iE lo c R9.Θ.Q';unfold slicePick;rw[h1,h2,d];simp only[sliceRange_one,pick_run,Qu]<;>rfl
inductive Lq QBQ(x:V)(lo:ψ Λ)(hi:ψ Λ)QAH QAR:Prop
 |mk (a xs:_) QET (_:k9 K H a xs) (_:∀p,H p=ε->Q QAp (QO H p (.QV (Ad xs lo hi))))
def G_:Kk X (Lq X.K):=by
 intro e s l H x v vl vu lo d m Q I g k pl i h;let⟨a,xs,ζ,j,q⟩:=h;cases g;let⟨R9,r,f,hz⟩:=I.V8 j;let c:=r.β;refine("list",_,slot_list_getitem.ς,f.VE.VO,3);refine wpAny_getItem_list_slice f.VE k pl i .ε (!1) ?_ (by rw[Qu]<;>show CN c hz);rw[fJ,<-c];refine(.ξ s⁻¹,_,I.Xy (t':=s.QT) (o:=.QV (Ad xs lo d)) (λb n q=>o9 _ q) QA2 ?_,1,q _ QDA);show(QB (NA xs lo d) hz,_,(0),(r.Th QIc).R0 (HT.Ws xs.β xs.β d-HT.Ws xs.β 0 lo),QN _ ζ)
abbrev bc:V->Ψ
 |.Uv=>π
 |.bl _=>π
 |.QG _=>π
 |.QZ _=>π
 |_=>ν
abbrev Ep:V->V->Ψ
 |.Uv,.Uv=>π
 |.bl a,.bl b=>a==b
 |.bl a,.QG b=>(if a then 1 else 0)==b
 |.QG a,.bl b=>a==(if b then 1 else 0)
 |.QG a,.QG b=>a==b
 |.QZ a,.QZ b=>a==b
 |_,_=>ν
def B4(d:ae y u)(c:ae x v)(f:bc y=π)(e:bc x=π):S4.VM A s u v (Ep y x):=by
 cases y with
 |Uv=>
  cases d;cases x with
  |Uv=>cases c;show S4.VM.SO _
  |bl b=>cases c;show S4.VM.none_bool b
  |QG b=>let⟨t,ζ⟩:=c;show S4.VM.none_int b t
  |QZ b=>let⟨t,ζ⟩:=c;show S4.VM.none_str b t
  |_=>show QL (show ν=π from e) Ψ.RE
 |bl a=>
  cases d;cases x with
  |Uv=>cases c;show S4.VM.bool_none a
  |bl b=>cases c;show S4.VM.bool_bool a b
  |QG b=>let⟨t,ζ⟩:=c;show S4.VM.bool_int a b t
  |QZ b=>let⟨t,ζ⟩:=c;show S4.VM.bool_str a b t
  |_=>show QL (show ν=π from e) Ψ.RE
 |QG a=>
  let⟨t',ζ⟩:=d;cases x with
  |Uv=>cases c;show S4.VM.int_none a t'
  |bl b=>cases c;show S4.VM.int_bool a t' b
  |QG b=>let⟨t,ζ⟩:=c;show S4.VM.int_int a t' b t
  |QZ b=>let⟨t,ζ⟩:=c;show S4.VM.int_str a t' b t
  |_=>show QL (show ν=π from e) Ψ.RE
 |QZ a=>
  let⟨t',ζ⟩:=d;cases x with
  |Uv=>cases c;show S4.VM.str_none a t'
  |bl b=>cases c;show S4.VM.str_bool a t' b
  |QG b=>let⟨t,ζ⟩:=c;show S4.VM.str_int a t' b t
  |QZ b=>let⟨t,ζ⟩:=c;show S4.VM.str_str a t' b t
  |_=>show QL (show ν=π from e) Ψ.RE
 |_=>show QL (show ν=π from f) Ψ.RE
abbrev FC(x:V)(u:η):Ψ:=match u with
 |.ε=>Ep .Uv x
 |.UV b=>Ep QJS x
 |.QG i _=>Ep QJR x
 |.QZ z _=>Ep (.QZ z) x
 |_=>ν
def Er(r:ae y u)(f:bc y=π):FC x u=Ep y x:=by
 cases y with
 |Uv=>cases r;rfl
 |bl b=>cases r;rfl
 |QG i=>let⟨t,ζ⟩:=r;rfl
 |QZ z=>let⟨t,ζ⟩:=r;rfl
 |_=>show QL (show ν=π from f) Ψ.RE
def jE{x:V}:∀QBy QCH,ad xs us->xs.UW bc=π->us.U6 (FC x)=xs.U6 λy=>Ep y x
 |_,_,.S5,_=>rfl
 |y::xs,u::us,.Rc r t,f=>by
  rw[γ.all_cons,TW]at f;rw[γ.any_cons,γ.any_cons,Er r f.1,jE t f.2]
def Bw{A:Qy}{s:ω}{x:V}{v:η}(d:ae x v)(e:bc x=π):∀QBy QCH,ad xs us->xs.UW bc=π->∀u∈us,S4.VM A s u v (FC x u)
 |_,_,.S5,_=>λu c=>by cases c
 |y::xs,u::us,.Rc r t,f=>λg c=>by
  rw[γ.all_cons,TW]at f;rcases QY.mp c with ζ|c
  .rw [Er r f.1];show B4 r d f.1 e
  .exact Bw d e t f.2 g c
abbrev Es(x:V)QCK:Ψ:=xs.U6 λy=>Ep y x
inductive NB QBQ(neg:Ψ)(x:V)(y:V)QAH QAR:Prop
 |mk (p xs:_) (_:y=.ξ p) (_:(k9 K H p xs\/q5 K H p xs)) (_:bc x=π) (_:xs.UW bc=π) (_:Q (.bl (if neg then !Es x xs else Es x xs)) H)
def Km:y' X (So .In) (NB X.K ν):=by
 intro e s i H x y v u Q I d g h;let⟨p,xs,ζ,c,f,fs,q⟩:=h;cases g;rcases c with c|c
 .obtain ⟨R9,r,pl,hz⟩:=I.V8 c;refine S4.in_listAt (FC x) pl.VE (λw hw=>Bw d f r fs w QCf) QGv;rw[show R9.Θ.U6 (FC x)=R9.U6 (FC x) by simp,jE r fs];show q
 .obtain ⟨R9,r,pl,hz⟩:=I.Uu c;refine S4.in_tupleAt (FC x) pl (λw hw=>Bw d f r fs w QCf) QGv;rw[show R9.Θ.U6 (FC x)=R9.U6 (FC x) by simp,jE r fs];show q
def G':C7 X (.RJ "len") QCt:=by
 intro f s i H xs us Q I r h;let⟨p,ys,ζ,d,q⟩:=h;let⟨u,ζ,g⟩:=Ch r;cases g;let j:=bT;rcases d with d|d
 .obtain ⟨R9,e,pl,hz⟩:=I.V8 d;let c:=e.β;show Vf.call_len_list pl.VE (by simp only[Qu]<;>show IP j c hz) (.QG ys.β,H,I.Wa _,(s.QT+1,by rw[Qu,c]),q)
 .obtain ⟨R9,e,pl,hz⟩:=I.Uu d;let c:=e.β;show len_tuple pl (by simp only[Qu]<;>show IP j c hz) (.QG ys.β,H,I.Wa _,(s.QT+1,by rw[Qu,c]),q)
def NC:C7 X (.RJ "len") QEi:=by
 intro c s d H xs us Q I r h;let⟨z,ζ,hz,q⟩:=h;let⟨u,ζ,t,ζ⟩:=Ch r;let e:=bT;show len_str (!6) (.QG z.β,H,I.Wa _,QCI,q)
def ND:C7 X (.QU "list") (λxs H Q=>∃p ys,xs=[.ξ p]/\(k9 X.K H p ys\/q5 X.K H p ys)/\∀l,H l=ε->Q QGH (QO H l QBZ)):=by
 intro f s y H xs us Q I r h;let⟨p,ys,ζ,i,q⟩:=h;let⟨u,ζ,z⟩:=Ch r;cases z;let k:∀(R9:γ η),ad ys R9->ys.β≤Φ->∀QJu(d:χ),(∀b x,s.ρ.Δ b<*x->h'.Δ b<*x)->
   h'.Δ s⁻¹<*{SS:=.QU "list",Uk:=ε,RH:=.WA R9.Θ d,XR:=#[]}->EP X f y Q QAX {s with ρ:=h'}:=λR9 c hz h' d g e=>
  (.ξ s⁻¹,_,I.Xy (t':=s.QT) g QA2 (show Ai X.Ω X.w _ h' _ QBZ from(hz,R9,d,c,e)),1,q _ QDA)
 rcases i with i|i
 .obtain ⟨R9,c,pl,hz⟩:=I.V8 i;let j:=c.β;let⟨o,m,v,n,t⟩:=pl.VE;show call_list_seq p QAz m v t QJB (by simp only[Qu]<;>show CN j hz)
 .obtain ⟨R9,c,pl,hz⟩:=I.Uu i;let j:=c.β;let⟨o,m,v,n,t⟩:=pl;show call_list_seq p QKr m v t QJB (by simp only[Qu]<;>show CN j hz)
def FD:C7 X (.QU "tuple") (λxs H Q=>∃p ys,xs=[.ξ p]/\((k9 X.K H p ys/\∀l,H l=ε->Q QGH (QO H l (.Rn ys)))\/(q5 X.K H p ys/\Q QAp H))):=by
 intro c s g H xs us Q I r h;let⟨p,ys,ζ,h⟩:=h;let⟨u,ζ,k⟩:=Ch r;cases k;rcases h with⟨f,q⟩|⟨f,q⟩
 .obtain ⟨R9,d,pl,hz⟩:=I.V8 f;let i:=d.β;refine call_tuple_list pl.VE (λh' m=>?_) (by simp only[Qu]<;>show CN i hz);let j:f' X c g H {s with ρ:=h'}:=I.XD (t':=s.QT) m;let n:f' X c g (QO H h'.SN.Q' (.Rn ys)) {s with ρ:=h'.Rm {SS:=.QU "tuple",RH:=.WA R9.Θ} }:=
   j.Xy (t':=s.QT) (λb o e=>o9 _ e) QA2 (show Ai X.Ω X.w _ _ _ (.Rn ys)from(hz,R9,d,IsTup.new _ _))
  show(.ξ h'.SN.Q',_,n,1,q _ (j.S8.SZ QA2))
 .obtain ⟨R9,d,pl,hz⟩:=I.Uu f;show call_tuple_same pl (.ξ p,H,I,1,q)
abbrev Lr QBQ(T:X5)(x:V)QAH:Prop:=match x with
 |.QZ _=>T="str"
 |.QG _=>T="int"
 |.ξ p=>(T="list"/\∃xs,k9 K H p xs)\/(T="tuple"/\∃o,K.ς p=δ o/\o.SS=.QU "tuple"/\o.Uk=ε) \/
   (T="dict"/\((∃RW,H p<*.dK RW)\/∃RW,H p<*.dT RW))\/(T="set"/\∃S n,H p<*.Uw S n)
 |_=>Rk
def sG{l:St}(I:f' X j l H s)(r:ae x v)(ty:Lr X.K T x H):s.Vi v T/\∀a,v=.ξ a->∃k,s.ρ.Δ a=δ k/\k.Uk=ε:=by
 cases x with
 |QZ z=>
  let⟨t,ζ⟩:=r;cases(show T="str" from ty);show(typeIs_str s z t,λ_ e=>nomatch e)
 |QG i=>
  let⟨t,ζ⟩:=r;cases(show T="int" from ty);show(typeIs_int s i t,λ_ e=>nomatch e)
 |ξ p=>
  cases r;rcases ty with⟨rfl,xs,m⟩|⟨rfl,o,d,q,g⟩|⟨rfl,d⟩|⟨rfl,S,n,d⟩
  .obtain ⟨R9,_,pl,_⟩:=I.V8 m;refine(pl.VE.VO,λa e=>?_);cases e;let⟨o,n,e,c,g,_⟩:=pl;show(o,e,g)
  .refine ((o,I.Xb p o d,q),λa e=>?_);cases e;show(o,I.Xb _ o d,g)
  .let z:∃o,s.ρ.Δ p=δ o/\o.ExactDict:=by
    rcases d with⟨RW,d⟩|⟨RW,d⟩
    .obtain ⟨_,_,_,_,o,_,_,e,f,_⟩:=I.S8 p _ d;show(o,e,f)
    .obtain ⟨_,_,_,_,o,_,_,e,f,_⟩:=I.S8 p _ d;show(o,e,f)
   let⟨o,e,f⟩:=z;refine((o,e,f.1),λa h=>?_);cases h;show(o,e,f.2.1)
  .obtain ⟨o,_,_,_,e,f,_⟩:=I.S8 p _ d;refine((o,e,f.1),λa h=>?_);cases h;show(o,e,f.2.1)
 |_=>show Rk.SJ ty
abbrev Ls QBQ(T:X5)QDb(to:TE):TE:=λσ H Q=>to σ H λx H1=>Lr K T x H1/\r x [] H1 Q
abbrev BF QBQ(T:X5)QDb(to:TE)QG9:TE:=λσ H Q=>to σ H λx H1=>Lr K T x H1/\t σ H1 λxs H2=>r x xs H2 Q
variable{o e:SH}{es:γ SH}{to:TE}{t:TA}{Ss:QF}{apos cpos:UL}{T id:X5}{r:V->γ V->Hp->VK->Prop}
def dI(pa:PlainAttrs T)(g:Slot T Ss id)(i:typeOf (.RJ id)=pure (.QU "method_descriptor"))(u:Jt X id r)(q:PE X o to)(f:(UD o Ss X.QC (Sc o X.QC)=Sc o X.QC)>>>4)(d:((apos.endLine==cpos.XC)=π)>>>4):PE X (.T0 (.S7 o Ss apos) [] [] cpos) (Ls X.K T r to):=by
 intro c s k H Q I h;refine wpAny_Call_method0_late f d (nb (q c s k H _ I h) λv n j=>?_);let⟨x,w,m,l,ty,p⟩:=j;let⟨h1,h2⟩:=sG m l ty;show(T,id,pa,g,i,h1,h2,Vf.XI ζ (Ξ.evalArgs_none (u c n k w x [] v [] Q m l .S5 p)))
def b7(pa:PlainAttrs T)(i:Slot T Ss id)(l:typeOf (.RJ id)=pure (.QU "method_descriptor"))(D:Jt X id r)(C:PE X o to)(E:PA X (e::es) t)(g:(UD o Ss X.QC (Sc o X.QC)=Sc o X.QC)>>>4)(j:(((ST cpos (BT (e::es) X.QC)).UW (λx=>!x.1)&&(Yn cpos (WR [] X.QC)).UW (λx=>x.1.VR)
   && decide ((e::es).β+([]:γ Xn).β+(if ([]:γ Xn).Vs then 0 else 1)<30))=π)>>>4)(f:((apos.endLine==cpos.XC)=π)>>>4)(B:(BT (e::es) X.QC=(ν,Sc e X.QC,)::BT es X.QC)>>>4)(d:((ST cpos (BT es X.QC)).U6 (·.1)=ν)>>>4):PE X (.T0 (.S7 o Ss apos) (e::es) [] cpos) (BF X.K T r to t):=by
 intro c s k H Q I h;refine Yt g j f ζ (nb (C c s k H _ I h) λv w n=>?_);let⟨x,L,u,p,ty,A⟩:=n;let⟨h1,h2⟩:=sG u p ty;refine(T,id,pa,i,l,h1,h2,3);let q:=E cpos c w k L _ u A;rw[B]at q⊢;refine Vf.XI (by change (ν||(ST cpos QFS).U6 QBF)=ν;rw[d]<;>rfl) (Vf.Wq ?_);show nb q λus s2 m=>by let⟨vs,J,F,y,z⟩:=m;show D c s2 k J x vs v us Q F p y z
end
abbrev Kn QDn(id:X5)QDb:Prop:=
 ∀QAM QB_ QCC QAH(x:V)QCK(v:η)QD_ QAR,f' X QE σ H s->ae x v->ad xs us->r x xs H Q->
  Fr QAB X.A (UZ (.RJ id) (v::us)) QCr X.xe s
def ad.UX:∀{x:V}QCH,ad [x] us->∃u,us=[u]/\ae x u:=Ch
def ad.Xe:∀QCH,ad [] us->us=[]
 |_,.S5=>rfl
def ad.VG(h:ad xs us):ad xs.VG us.VG:=by
 induction h with
 |S5=>show .S5
 |Rc r t a=>
  cases t with
  |S5=>show .S5
  |Rc q t'=>show .Rc r a
def oa{c:Type}(l:γ c):l.eraseIdx (l.β-1)=l.VG:=by
 induction l with
 |S5=>rfl
 |Rc a r d=>
  cases r with
  |S5=>rfl
  |Rc b r=>
   let e:(a::b::r).β-1=((b::r).β-1)+1:=by
    let h1:(a::b::r).β=r.β+2:=ζ;let h2:(b::r).β=r.β+1:=ζ;lia
   rw[e,γ.eraseIdx_cons_succ,d];all_goals rfl
section
variable{X:Cx}{QE:γ QA_}{σ:St}{H:Hp}{s:ω}{l b:θ}{xs ys zs:γ V}
def f'.lset{R9 its':γ η}QAA(h:H l<*.QV xs)(e:s.ρ.Δ l<*{SS:=.QU "list",RH:=.WA R9.Θ n})(d:f R9.Θ=its'.Θ)(a:ad ys its')(hz:ys.β≤Φ):f' X QE σ (QO H l QBZ) {s with ρ:=s.ρ.Sq l (Vy f),QT:=t'}:=by
 let q:=Ξ.IsL.Sq e f;rw[d]at q;refine I.ZR (x:=l) (e:=l) (by rw[h];show trivial) QAz (λi u g c=>(Rq s.ρ (Vy f) (Ne.QI g)).ο c) (_,q) ?_;show(hz,its',_,a,q)
def f'.lnew QAA(a:ad ys R9)(hz:ys.β≤Φ):f' X QE σ (QO H s⁻¹ QBZ) {s with ρ:=s.ρ.Rm {SS:=.QU "list",RH:=.WA R9.Θ},QT:=t'}:=
 I.Xy (λ_ _ q=>o9 _ q) QA2 (hz,R9,(0),a,QN _ ζ)
def f'.SZ QAA:H s⁻¹=ε:=I.S8.SZ QA2
def f'.lstM QAA(a:H l<*.QV xs):xs.β≤Φ/\∃(R9:γ η)(n:χ),ad xs R9/\xs.β=R9.β/\s.ρ.Δ l<*{SS:=.QU "list",RH:=.WA R9.Θ n}:=by
 let⟨z,R9,n,r,e⟩:=I.S8 l _ a;show(z,R9,n,r,r.β,e)
end
section
variable{X:Cx}
inductive rAppend(x:V)QAI QAH QAR:Prop
 |mk (l xs y:_) QI8 (_:vs=[y]) (_:H l<*.QV xs) (_:xs.β<Φ) (_:Q .Uv (QO H l (.QV (xs++[y]))))
def gO:Kn X "list.append" rAppend:=by
 intro a s g H x vs v us Q I c d h;let⟨l,xs,y,ζ,ζ,b,hz,q⟩:=h;cases c;let⟨u,ζ,f⟩:=d.UX;let⟨z,R9,n,r,i,e⟩:=I.lstM b;refine call_meets F.slot_list_append (_,e,1) F.entry_list_append (F.args_list_append_2 _ _) (Ξ.list_append l R9.Θ n u (by rw[Qu];lia)) (e,3);refine(.Uv,_,I.lset (its':=R9++[u]) b e (!1) (r.append (.Rc f .S5)) ?_,1,q);rw[q4,γ.Yh];lia
inductive rPop(x:V)QAI QAH QAR:Prop
 |mk (l xs y:_) QI8 (_:vs=[]) (_:H l<*.QV xs) (_:xs[xs.β-1]?<*y) (_:Q y (QO H l (.QV xs.VG)))
def dX:Kn X "list.pop" rPop:=by
 intro c s o H x vs v us Q I f g h;let⟨l,xs,y,ζ,ζ,d,j,q⟩:=h;cases f;let b:=g.Xe;subst b;let⟨z,R9,n,r,m,e⟩:=I.lstM d;let⟨u,k,i⟩:=r.Yj j;let a:R9.Θ[R9.Θ.Q'-1]?<*u:=by
  change R9.Θ[R9.β-1]?<*u;rw[<-Ux,<-m];show k
 refine call_meets F.XJ (_,e,1) F.entry_list_pop (F.args_list_pop_1 _) (MeetsSeq.list_pop_last l R9.Θ n u a (by rw[Qu];show CN m z)) (e,3);refine(y,_,I.lset (its':=R9.VG) d e ?_ r.VG ?_,i,q)
 .change R9.Θ.eraseIdxIfInBounds (R9.Θ.Q'-1)=R9.VG.Θ;rw[Qu,γ.eraseIdxIfInBounds_toArray,oa]
 .rw [γ.length_dropLast];lia
inductive rCat(x:V)(y:V)QAH QAR:Prop
 |mk (l b xs zs:_) QI8 (_:y=.ξ b) (_:H l<*.QV xs) (_:H b<*.QV zs) (_:xs.β+zs.β≤Φ) (_:∀p,H p=ε->Q QAp (QO H p (.QV (xs++zs))))
def Hb:y' X (UK .Add) rCat:=by
 intro c s p H x y v u Q I f d h;let⟨l,b,xs,zs,ζ,ζ,j,k,hz,q⟩:=h;cases f;cases d;let⟨z,R9,n,r,A,e⟩:=I.lstM j;let⟨t,a,w,g,i,o⟩:=I.lstM k;refine Ξ.P.add_list e o ?_ (by rw[Qu,Qu];lia);let m:R9.Θ++a.Θ=(R9++a).Θ:=by simp
 rw[m];show(.ξ _,_,I.lnew (t':=s.QT) (r.append g) (by rw[q4];omega),1,q _ I.SZ)
end
section
variable{Ω:Id}{w:QW}{A:Qy}{E:η->ω->Prop}{s:ω}
end
section
variable{X:Cx}
end
end L2
namespace Att
open PySem.W PySem.Calls PyProof.Rows
def Oz:∀QE1(vs:γ η),WellAll P h vs (ns.Q_ WData.QG)->XN vs ns:=by
 intro ns;induction ns with
 |S5=>
  intro vs w;rw[γ.map_nil]at w;cases w;show .S5
 |Rc n ns c=>
  intro vs w;rw[UY]at w;cases w with
  |Rc a b=>
   cases a;show .Rc _ _ (c _ b)
def qA{l:OpenLaw}(u:l.most<*n)(c:l.Yc.toRowW.claim.pre b=π)(k:WellAll P h e b):∃a vs ns,e=[η.ξ a]/\b=[WData.V8 (ns.Q_ WData.QG)]/\h.Δ a=δ {SS:=.QU "list",RH:=.WA vs.Θ}/\XN vs ns/\ns.β≤n:=by
 let m:WShape.hasAll [] b [.V8 .QG]=π:=(pre_splitW c).1;let o:l.pre.holds [] {args:=b}=π:=(pre_splitW c).2;let⟨d,r,ζ,h1,h2⟩:=hasAllW_cons m;obtain ζ:=hasAllW_nil h2;let⟨xs,ζ,v⟩:=hasW_list h1;let⟨ns,ζ⟩:=items_int v;let f:ns.β≤n:=by
  unfold OpenLaw.pre at o;let j:(WTm.not (.lt (.lit (.QG (n:Λ))) (.TL (.arg 0)))).holds [] {args:=[.V8 (ns.Q_ .QG)]}=π:=by
   let j:=(holds_andW o).1;rw[u]at j;show j
  let i:=condW_of j (w_not (w_lt w_lit (w_len_list (w_arg ζ))));rw[j']at i;refine SQ λq=>?_;let s:(n:Λ)<((ns.β:χ):Λ):=GO q
  first
   |(rw[RI s]at i;show QL i (!0))
   |(simp at i;omega)
 cases k with
 |Rc p w2=>
  cases w2;cases p with
  |V8 t g=>show(8,ns,5,t,Oz ns _ g,f)
def qK(l:OpenLaw)(a:γ WData):l.Yc.toRowW.claim.post a (.UV π) a=π:=
 postW_of (r:=l.Yc.toRowW) (X:=(π==π))
  (show WShape.Vh [] (.UV π) .UV=π by first|rfl|decide|simp[WShape.Vh,WShape.arms,WShape.armsAll])
  (show(WTm.eq .res (.lit (.UV π))).value [] {args:=a,res:=δ (.UV π),after:=a}<*.UV (π==π)from w_eq_bool (w_res ζ) w_lit) ζ
def Cr{l:OpenLaw}(C:l.most<*n)(s:d.Sw.defaults=[])(UZ:∀(w:QW)(c b:ω)(mg k:QF->ψ η)(fa:θ)(o:UQ)(pm j Tg:η)(a:θ)(vs:γ η)(ns:γ Λ),
   Ground q loose [] XP w c mg k b.ρ->YP w b.ρ->
   b.ρ.Δ fa<*o->o.RH=.VL (docDef d.Ss d.Sw d.body d.RF pm j Tg)->b.ρ.SL j d.Ss->mg d.Ss<*.ξ fa->
   b.ρ.Δ a<*{SS:=.QU "list",RH:=.WA vs.Θ}->XN vs ns->ns.β≤n->b.WX=#[]->
   VD (LE l.Ω w) callerA (.UZ (.ξ fa) ([.ξ a],[])) (λr s'=>r=.ok (.ret (.UV π))/\OldK b.ρ s'.ρ/\s'.os=b.os/\Xo s'.WX) b):WalkO q loose XP YP l.Yc.toRowW d [] (λf vs=>Ξ.UZ f vs):=by
 intro w c b mg k G Y fa o pm j Tg L kV B H t x p F y u M g v z m E;obtain ζ:L=.ε:=Dflts.ε x s;obtain ζ:kV=.ε:=Dflts.noKw x;let⟨a,vs,ns,ζ,ζ,h,e,i⟩:=qA C g m;refine enter_call (Tv (UZ w c b mg k fa o pm j Tg a vs ns G Y B (fd_plain H) t p h e i F) λr s' A=>?_);let⟨rfl,h2,J,I⟩:=A;show(.RN (.UV π,.UV π,[],1,λ_=>rfl,.UV π,qK l _,λ_=>(γ.Pairwise.S5,λ_ D=>(nomatch D))),h2,J,I)
section
variable{Ω:Id}{w:QW}{A:Qy}{E:η->ω->Prop}{s:ω}{K:RG}
end
end Att
namespace L2
open PySem.Spec PyProof.Rows
def d_I:∀{vs:γ η}{ns:γ Λ},XN vs ns->ad QBU vs
 |_,_,.S5=>.S5
 |_,_,.Rc n t h=>.Rc (t,1) (d_I h)
abbrev B5(s:Rb)QHW:Rb:=match s with
 |.ClassDef _ _ _ body _ _ _ _ _ _ _=>body.LT j QBV
 |_=>.Pass QAK
abbrev ri(s:Rb):UR:=match s with
 |.Zv _ a _ _ _ _ _ _ _ _=>a
 |_=>{posonlyargs:=[],args:=[],vararg:=ε,kwonlyargs:=[],kw_defaults:=[],kwarg:=ε,defaults:=[]}
abbrev n7(s:Rb):γ Rb:=match s with
 |.Zv _ _ b _ _ _ _ _ _ _=>b
 |_=>[]
abbrev hI(s:Rb):TJ:=match s with
 |.Zv _ _ _ _ _ _ sc _ _ _=>sc
 |_=>{Ut:=.UF,QH:=[],Zf:=ν,Zg:=ν}
instance lb:CXT:=λ_ _ _ _ _ _=>Rk
instance E0:XK:=λ_ _ _=>Rk
def Cs:D0 lb X E0:=λ_ _ _ _ _ _ _ h=>h.SJ
structure pd QBQ(x RD:QF)(st:Rb)QEx(fd:TY):Prop where
 ex:∃(oc:η)(od:ψ θ)(kV Tg pm:η)(an:ψ θ)(VA ct:η)(osl:R_ (ψ η)),
  fd=U_ x RD (ri st) (n7 st) QHt .ε kV Tg pm an VA ct/\K.ς f=δ (oc,od,.VL fd,osl)/\UH K VA RD=π
 kp:Vz K QAg=π
section
variable{P:Id}{w:QW}{K:RG}{mg:QF->ψ η}{υ:RC}
def pd.ok{st:Rb}(F:pd K x RD st f i)(S:p_ N ps (hI st))(TL:∀vs H Q E,d vs H Q E->vs.β=ps.β)(a:∀(VA:η)(A:Qy)(KK:γ YT)(s:ω)(H:Hp)(vs:γ V)(Q:VK)(E:XK),ak k (A.VU (XG RD (hI st) s⁻¹ f VA))->d vs H Q E->
   ∃t,Bd (aP lb P w K mg υ N RD (hI st) f VA A KK s H E).nox (n7 st) t/\t {nx:=λ_ H'=>Q .Uv H',rt:=Q} (WJ N vs) H):aa P w K mg υ lb (k+1) f i ps d:=by
 let⟨l,j,kV,Tg,pm,an,VA,ct,e,ζ,lk,c⟩:=F.ex;refine ll lk c S TL λA KK s H vs Q E g b=>?_;let⟨t,h,q⟩:=a VA A KK s H vs Q E g b;show(t,h.nox,q)
def pd.binds{st:Rb}(F:pd K x RD st f c)(h:∀QFJ QKZ(VA ct:η)QD_,us.β=ps.β->Zp QBw (us,[])=pure QF2):yx K c ps []:=by
 let⟨e,d,kV,Tg,pm,an,VA,ct,a,ζ,lk,b⟩:=F.ex;show .UW (h kV Tg pm an VA ct)
def DA{st:Rb}{kV Tg pm VA ct:η}(l:K.ς f<*(d,b,.VL QBw,a))(c:UH K VA RD=π)(k:Vz K QAg=π):pd K x RD st f QBw:=((d,b,kV,Tg,pm,an,VA,ct,a,1,l,c),k)
end
def Gq(h:n≤1000):n<Φ:=SA h (!0)
section
variable{X:Cx}
def pv QBB{Ri:UL}(d:QJ1>>>4)(b:HA X.QC.RF x>>>8)(c:((x==("__debug__":QF))=ν)>>>0)(a:((x==("__classdict__":QF))=ν)>>>0):PE X QEz (bu i):=zB d b c a
end
def aE{A B:Prop}(h:B):if ν=π then A else B:=by
 rw[Cl Ψ.RE];show h
def aG{A B:Prop}(h:A):if π=π then A else B:=by
 rw[IO ζ];show h
def Et QJL[Decidable c](a:c)(h:B):if (!decide c)=π then A else B:=by
 rw[RI a];show aE h
abbrev a' QHL:Prop:=∀b o,H b<*o->H' b<*o
def a'.X9 QAH:a' H H:=λ_ _ h=>h
def a'.ο(a:a' H e)(b:a' e d):a' H d:=λc o h=>b c o (a c o h)
def a'.SB(e:a' H H')(h:H' l=ψ.ε):H l=ψ.ε:=by
 cases q:H l with
 |ε=>rfl
 |δ o=>
  rw[e l o q]at h;cases h
def a'.WA QC7(e:a' H H')(h:k9 K H a xs):k9 K H' a xs:=by
 rcases h with(h|⟨o,h⟩)|h
 .exact .RN (.RN (e _ _ h))
 .exact .RN (.Rh (o,e _ _ h))
 .exact .Rh h
end L2
set_option Elab.async false
set_option maxRecDepth 100000
set_option maxHeartbeats 4000000
namespace RA
open L2
end RA
namespace L2
open PySem.Spec PyProof.Rows
abbrev E_ QEh:It:=(λi _=>i<x.β,λi H v H'=>H'=H/\∃c,x.Vu[i]?=δ c/\v=.QZ ⟨#[c]⟩,λi _=>x.β≤i)
def qm QC7 QEh(t:Z5)(it:θ):gm P w K M (E_ x) [it] it (λi h=>h.IsStrIter it "str_ascii_iterator" x t i)  where
 mem:=by simp
 Yd:=λi h st b g=>by
  let e:b=it:=by simpa using g
  subst e;let⟨o,e,c,d⟩:=st;show(o,e,λv z=>by rw[d]at z;cases z)
 UB:=λi h h' st k=>by
  let⟨o,e,r⟩:=st;show(o,k it (!1) o e,r)
 Yi:=by
  intro X m hw n C i a s B H E I l st f;subst m hw n;let f:i<x.Vu.Q':=f;let⟨A,y,F,u,q,p⟩:=l it (!1);refine wpAny_pyNext_ascii_item st (c:=x.Vu[i]) (by simp[f]) λh' j D=>?_;let L:f' X a B H {s with ρ:=h',QT:=s.QT+1}:=I.Sr (t':=s.QT+1) (λb o g e=>(D.2 b g).ο e) A y u q p;let⟨o,e,c,d⟩:=id j;show(0,eV (s:={s with ρ:=h',QT:=s.QT+1}) e c d (!0) (.QZ ⟨#[x.Vu[i]]⟩,H,L,QCI,(1,_,by simp[f],1),j,λb g=>(l b g).1))
 done:=by
  intro X m hw n C i a s B H E I l st f;subst m hw n;let f:x.Vu.Q'≤i:=f;let⟨A,y,F,u,q,p⟩:=l it (!1);show wpAny_pyNext_ascii_end (I.ok.hd C) st (by simp[f]) λh' J=>(1,I.Sr (t':=s.QT) (λb o g e=>J b o g e) A y u q p)
 self:=λ_ _ _ _ _ st h=>wpAny_pyIter_striter_ascii st h
def ql QC7 QEh(t:Z5)(it:θ):gm P w K M (E_ x) [it] it (λi h=>h.IsStrIter it "str_iterator" x t i)  where
 mem:=by simp
 Yd:=λi h st b g=>by
  let e:b=it:=by simpa using g
  subst e;let⟨o,e,c,d⟩:=st;show(o,e,λv z=>by rw[d]at z;cases z)
 UB:=λi h h' st k=>by
  let⟨o,e,r⟩:=st;show(o,k it (!1) o e,r)
 Yi:=by
  intro X m hw n C i a s B H E I l st f;subst m hw n;let f:i<x.Vu.Q':=f;let⟨A,y,F,u,q,p⟩:=l it (!1);refine wpAny_pyNext_wide_item st (c:=x.Vu[i]) (by simp[f]) λh' j D=>?_;let L:f' X a B H {s with ρ:=h',QT:=s.QT+1}:=I.Sr (t':=s.QT+1) (λb o g e=>(D.2 b g).ο e) A y u q p;let⟨o,e,c,d⟩:=id j;show(0,eV (s:={s with ρ:=h',QT:=s.QT+1}) e c d (!0) (.QZ ⟨#[x.Vu[i]]⟩,H,L,QCI,(1,_,by simp[f],1),j,λb g=>(l b g).1))
 done:=by
  intro X m hw n C i a s B H E I l st f;subst m hw n;let f:x.Vu.Q'≤i:=f;let⟨A,y,F,u,q,p⟩:=l it (!1);show wpAny_pyNext_wide_end (I.ok.hd C) st (by simp[f]) λh' J=>(1,I.Sr (t':=s.QT) (λb o g e=>J b o g e) A y u q p)
 self:=λ_ _ _ _ _ st h=>wpAny_pyIter_striter_wide st h
inductive OA QB7(v:V)QDz:Prop
 |mk (x:_) (_:v=.QZ x) (_:R (E_ x) H1)
abbrev z4(tl:TE):TI:=λσ H R=>tl σ H (OA R)
def dE(r:PE X l m):PI X u l (z4 m):=by
 intro d s k H R I h;refine nb (r d s k H _ I h) λv a g=>?_;let⟨y,j,c,n,p⟩:=g;let⟨x,ζ,q⟩:=p;let⟨t,ζ⟩:=n;cases i:x.Vu.UW QKa
 .refine wpAny_pyIter_wide i ?_;refine(a⁻¹,[a⁻¹],8,j,1,c.XD (t':=a.QT) λb o e=>o9 _ e,ql x t _,QC',λb f=>?_,q);let e:b=a⁻¹:=by simpa using f
  subst e;show c.fpOk QA2 (c.S8.SZ QA2)
 .refine wpAny_pyIter_ascii i ?_;refine(a⁻¹,[a⁻¹],8,j,1,c.XD (t':=a.QT) λb o e=>o9 _ e,qm x t _,QC',λb f=>?_,q);let e:b=a⁻¹:=by simpa using f
  subst e;show c.fpOk QA2 (c.S8.SZ QA2)
def pM{g:TG}{k:TS}{D:ZA}(f:χ->St->Hp->Prop)(t:f 0 a H)(o:∀i c a H,x.Vu[i]?<*c->f i a H->g QGZ a H λb j=>k {D with nx:=f (i+1),ct:=f (i+1),bk:=D.nx} b j)(r:∀a H,f x.β a H->D.nx a H):∃W:χ->χ->St->Hp->Prop,QEU/\∀i m a H,W i m a H->
   ((E_ x).We i H/\D.nx a H)\/((E_ x).go i H/\∃N:St->Hp->Prop,(∀d H',N d H'->∃l,l<m/\W (i+1) l d H')/\∀y H',(E_ x).yld i H y H'->g y a H' λb j=>k {D with nx:=N,ct:=N,bk:=D.nx} b j):=by
 refine(λi m a H=>m=x.β-i/\i≤x.β/\f i a H,(x.β,!1,RO _,t),3);rintro i m a H⟨rfl,v,p⟩;by_cases h:i<x.β
 .refine .Rh (h,f (i+1),λd H' n=>(x.β-(i+1),EY h,1,h,n),λy H' q=>?_);let⟨e,c,s,u⟩:=q;subst e u;show o i c a _ s p
 .let e:i=x.β:=Eg h v
  subst e;show .RN (QA _,r a H p)
section
variable{X:Cx}
inductive rSlS(x:V)(lo:ψ Λ)(hi:ψ Λ)QAH QAR:Prop
 |mk (z:_) (_:x=.QZ z) (_:z.β≤Φ) (_:Q (.QZ (U7.YF z lo hi)) H)
def mP:Kk X rSlS:=by
 intro b s g H x v vl vu lo p r Q I m n pl f h;let⟨z,ζ,hz,q⟩:=h;let⟨t,ζ⟩:=m;refine("str",_,Ξ.F.Yf.ς,typeIs_str _ _ _,3);let a:∀t' k,EP X b g Q (.QZ (U7.YF z lo p) t') {s with QT:=k}:=λt' k=>(.QZ _,H,I.Wa k,(t',1),q);let⟨o,c,e,d⟩:=n;cases pl with
 |ε=>
  cases f with
  |ε=>show WH (l:=ε) (u:=ε) (st:=ε) (o,c,e,d) ζ QBO
  |QG j uj=>show WH (l:=ε) (u:=δ (j,uj,)) (st:=ε) (o,c,e,d) ζ QBO
 |QG i ui=>
  cases f with
  |ε=>show WH (l:=δ (i,ui,)) (u:=ε) (st:=ε) (o,c,e,d) ζ QBO
  |QG j uj=>show WH (l:=δ (i,ui,)) (u:=δ (j,uj,)) (st:=ε) (o,c,e,d) ζ QBO
def pk:Jt X "str.find" (λx xs H Q=>∃z y,x=.QZ z/\xs=[.QZ y]/\Q (.QG (U7.find z y)) H):=by
 intro a s c H x xs v us Q I b rs h;let⟨z,y,ζ,ζ,q⟩:=h;let⟨t,ζ⟩:=b;let⟨u,ζ,t',ζ⟩:=Ch rs;show SC.find QD6
def uI:Jt X "str.count" (λx xs H Q=>∃z y,x=.QZ z/\xs=[.QZ y]/\Q (.QG (U7.count z y)) H):=by
 intro a s c H x xs v us Q I b rs h;let⟨z,y,ζ,ζ,q⟩:=h;let⟨t,ζ⟩:=b;let⟨u,ζ,t',ζ⟩:=Ch rs;show SC.count QD6
def cQ:∀{ys:γ QF}QCH,ad (ys.Q_ V.QZ) us->StrsAre us ys
 |[],_,r=>by cases r;show .S5
 |y::ys,_,r=>by
  cases r with
  |Rc a b=>
   let⟨t,ζ⟩:=a;show .Rc y t (cQ b)
inductive OB QBQ(x:V)QCK QAH QAR:Prop
 |mk (z p ys:_) (_:x=.QZ z) (_:xs=[.ξ p]) (_:k9 K H p (ys.Q_ V.QZ)) (_:(ys.Q_ (·.β)).sum+ys.β*z.β≤16777216) (_:Q (.QZ (U7.join z ys)) H)
def xE:Jt X "str.join" (OB X.K):=by
 intro a s d H x xs v us Q I b rs h;let⟨z,p,ys,ζ,ζ,hp,hz,q⟩:=h;let⟨t,ζ⟩:=b;let⟨u,ζ,e⟩:=Ch rs;cases e;let⟨R9,c,pl,_⟩:=I.V8 hp;show join_list pl.VE (by simpa using cQ c) hz λt' k=>(.QZ _,H,I.Wa k,(t',1),q)
def gJ:y' X (So .LtE) (λx y H Q=>∃i j,x=.QZ i/\y=.QZ j/\Q (.bl (!decide (j.Vu.Qx<i.Vu.Qx))) H):=by
 intro a s d H x y v u Q I c b h;let⟨i,j,ζ,ζ,q⟩:=h;let⟨t,ζ⟩:=c;let⟨t',ζ⟩:=b;show Ξ.P.le_str (.bl _,H,I,1,q)
def Lu:C7 X (.RJ "isinstance") (λxs H Q=>∃x t,xs=[x,.ty T]/\aZ X.K H x t/\kitOne X.K t (.QU T)=δ b/\Q QJS H):=by
 intro a s g H xs us Q I r h;let⟨x,t,ζ,ty,e,q⟩:=h;let⟨u,i,ζ,f,d⟩:=cL r;cases d;show rF I f ty e λc=>(.bl b,H,I.Wa c,1,q)
end
abbrev k_ QDn QEh QJt(cl:γ QBC)QFT(fp:γ θ)QB_ QAH:Cx where
 Ω:=X.Ω
 w:=X.w
 K:=X.K
 mg:=X.mg
 υ:=X.υ
 A:=X.A
 N:=x::X.N
 U0:=s
 H₀:=H
 QC:=Zl sc cl C X.QC
 KK:=X.RL
 RL:=X.RL
 ex:=fp
 fn:=λ_=>ν
 XV:=X.XV
 pn:=[]
 xe:=λ_ _=>Rk
abbrev FE QDn(Zh:γ SH)(t:TT):Prop:=
 ∀QAM QB_ QCC QAH QEA,f' X QE σ H s->t σ H Q->
  Fr QAB X.A (forIn Zh π λc r=>if r=π then do let ok <-isTrue c X.QC (Sc c X.QC);pure (Xq.yield ok)else pure (Xq.yield r)) (TP X QE σ Q) X.xe s
abbrev Yv:TT:=λ_ H Q=>Q π H
def hG{A B:Hp->Prop}(h:A H):Yv c H (λb a=>if b=π then A a else B a):=aG (A:=A H) (B:=B H) h
def Bl:FE X [] Yv:=λ_ _ _ H _ I h=>wpAny_tests_nil (H,I,h)
def iL(h:PT X c t):FE X [c] t:=λa s b H Q I hw=>wpAny_tests_one (h a s b H Q I hw)
abbrev Eu(wi:TI)(tt:TT)(te:TE):TE:=λσ H Q=>wi σ H λJ H1=>∀D,H1 D=ε->∃W:χ->χ->γ V->Hp->Prop,
 (∃m,W 0 m [] (QO H1 D (.QV [])))/\∀i m ys H2,W i m ys H2->H2 D=δ (.QV ys)/\((J.We i H2/\Q (.ξ D) H2)\/(J.go i H2/\ys.β<Φ/\∀x H3,J.yld i H2 x H3->
  tt (δ x::σ) H3 λb H4=>if b=π then te (δ x::σ) H4 λy H5=>H5 D=δ QBZ/\∃m',m'<m/\W (i+1) m' QBl (QO H5 D QAO)
   else ∃m',m'<m/\W (i+1) m' ys H4))
def Ko QAq(h:a≠b):(show θ from a)≠(show θ from b):=h
def fo(z:∀y∈sc.QH,y.2=.SB->∃c,QC.UI.ς y.1<*c):∃f,closureFor sc QC=pure f/\(∀y c,f.ς y<*c->QC.UI.ς y<*c)/\∀y∈sc.QH,y.2=.SB->∃c,f.ς y.1<*c:=by
 let B:∀(l:γ (QF×Ua))(b:γ QBC),(∀y∈l,y.2=.SB->∃c,QC.UI.ς y.1<*c)->(∀y c,b.ς y<*c->QC.UI.ς y<*c)->
   ∃f,(forIn l b λ(p:QF×Ua)r=>if (p.2==.SB)=π then do let a <-cellOf QC p.1;pure (Xq.yield ((p.1,a,)::r))else pure (Xq.yield r):Sem (γ QBC))=pure f/\
    (∀y c,f.ς y<*c->QC.UI.ς y<*c)/\(∀y c,b.ς y<*c->∃g,f.ς y<*g)/\∀y∈l,y.2=.SB->∃c,f.ς y.1<*c:=by
  intro l;induction l with
  |S5=>intro b _ o;show(b,1,o,λy c e=>(c,e),λy d=>by simp at d)
  |Rc p r w=>
   intro b t o;let⟨n,k⟩:=p;by_cases u:k=.SB
   .subst u;let⟨c,x⟩:=t (n,.SB,) Sk ζ;let C:cellOf QC n=pure c:=by unfold cellOf;rw[x]
    let v:∀y g,((n,c,)::b).ς y<*g->QC.UI.ς y<*g:=λy g e=>by
     by_cases d:(y==n)=π
     .rw [TU,d]at e;cases e;rw[XF d];show x
     .rw [TU,Ψ.Y7.Sz d]at e;show o y g e
    let⟨f,h1,h2,q,m⟩:=w ((n,c,)::b) (λy d=>t y (Q9 _ d)) v;let j:∀y g,b.ς y<*g->∃i,((n,c,)::b).ς y<*i:=λy g e=>by
     by_cases d:(y==n)=π
     .exact (c,by rw[TU,d])
     .exact (g,by rw[TU,Ψ.Y7.Sz d];show e)
    refine(f,3,h2,λy g e=>?_,λy d h=>?_)
    .rw [U9];simp only[VI,Z3,C,pure_bind];show h1
    .obtain ⟨i,e'⟩:=j y g e;show q y i e'
    .rcases QY.mp d with ζ|d
     .exact q n c (by rw[TU,VI])
     .exact m y d h
   .let A:(k==Ua.SB)=ν:=by simpa using u
    let⟨f,h1,h2,q,m⟩:=w b (λy d=>t y (Q9 _ d)) o;refine(f,3,h2,q,λy d h=>?_)
    .rw [U9];simp only[A,Ψ.Yb,X0,pure_bind];show h1
    .rcases QY.mp d with ζ|d
     .exact QL h u
     .exact m y d h
 let⟨f,h1,h2,_,m⟩:=B sc.QH [] z (λy c e=>by simp at e);refine(f,3,h2,m);change ((forIn sc.QH [] λ(p:QF×Ua)r=>if (p.2==.SB)=π then do let a <-cellOf QC p.1;pure (Xq.yield ((p.1,a,)::r))else pure (Xq.yield r):Sem (γ QBC))>>=λs=>pure s)=pure f;rw[bind_pure,h1]
def ry(h:(Yy sc QC).QH.ς y<*k):sc.QH.ς y<*k\/(k=.SF/\sc.QH.ς y=δ .SB/\QC.Sy y<*.SF):=by
 let f:∀(l:γ (QF×Ua)),(l.Q_ λ(n,k)=>if (k==.SB&&QC.RF.Ut==.UF&&QC.Sy n==δ .SF)then(n,Ua.SF,)else(n,k,)).ς y<*k->
   l.ς y<*k\/(k=.SF/\l.ς y=δ .SB/\QC.Sy y<*.SF):=by
  intro l;induction l with
  |S5=>intro h;simp at h
  |Rc p r d=>
   let⟨n,c⟩:=p;intro h;simp only[UY]at h;by_cases b:(c==Ua.SB&&QC.RF.Ut==.UF&&QC.Sy n==δ .SF)=π
   .rw [IO b]at h;rw[TU]at h⊢;cases a:y==n with
    |π=>
     rw[a]at h;let e:k=.SF:=(ψ.δ.Tp h).QI;let i:c=.SB:=by
      have:=(Ψ.and_eq_true_iff.mp (Ψ.and_eq_true_iff.mp b).1).1;simpa using this
     let g:QC.Sy n<*.SF:=by
      have:=(Ψ.and_eq_true_iff.mp b).2;simpa using this
     rw[XF a];show .Rh (e,by rw[i],g)
    |ν=>
     rw[a]at h;show d h
   .rw [Cl b]at h;rw[TU]at h⊢;cases a:y==n with
    |π=>rw[a]at h;show .RN h
    |ν=>rw[a]at h;show d h
 show f sc.QH h
section
variable{X:Cx}{ZG UC:SH}{x:QF}{px Ri:UL}{Zh:γ SH}{sc:TJ}{wi:TI}{tt:TT}{te:TE}
end
def k9.new QC7(h:k9 K H a xs)(n:H D=ε):k9 K (QO H D o) a xs:=by
 rcases h with(h|⟨u,h⟩)|h
 .exact .RN (.RN (by rw[a_ (f_ h n)];show h))
 .exact .RN (.Rh (u,by rw[a_ (f_ h n)];show h))
 .exact .Rh h
def rV QC7{l:TE}{h:St}{Q:VK}(f:V->V)(t:k9 K H a xs)QHO(u:∀QBB(x:V)QBW(R:VK),xs[i]?<*x->a' H H'->R (f x) H'->l (δ x::h) H' R)(s:∀D,H D=ε->Q QBI (QO H D (.QV (xs.Q_ f)))):∀D,H D=ε->∃W:χ->χ->γ V->Hp->Prop,
 (∃m,W 0 m [] (QO H D (.QV [])))/\∀i m ys c,W i m ys c->c D=δ (.QV ys)/\(((Fz K a).We i c/\Q (.ξ D) c)\/((Fz K a).go i c/\ys.β<Φ/\∀x k,(Fz K a).yld i c x k->
  Yv (δ x::h) k λb r=>if b=π then l (δ x::h) r λy p=>p D=δ QBZ/\∃d,d<m/\W (i+1) d QBl (QO p D QAO)
   else ∃d,d<m/\W (i+1) d ys r)):=by
 intro D j;refine(λi m ys c=>m=xs.β-i/\i≤xs.β/\ys=(xs.R0 i).Q_ f/\c=QO H D QBZ,(xs.β,!1,RO _,!1,1),3);rintro i m ys c⟨rfl,v,ζ,ζ⟩;let q:k9 K (QO H D (.QV ((xs.R0 i).Q_ f))) a xs:=t.new j;refine(hJ,3);by_cases g:i<xs.β
 .refine .Rh ((xs,xs[i],q,by simp[g]),by rw[j',Sn];lia,λx k y=>?_);let⟨e,y⟩:=y;subst e;let n:=y xs q;refine hG (u i x _ _ n (λb o e=>by rw[a_ (f_ e j)];show e) (hJ,xs.β-(i+1),EY g,1,g,3,3))
  .rw [VP,n,RU];rfl
  .rw [G7]
 .let e:i=xs.β:=Eg g v
  subst e;refine .RN ((xs,q,QA _),3);rw[Uz];show s D j
def oq{tt:TT}{h:St}{Q:VK}(p:χ->Ψ)(hz:x.β≤Φ)(o:∀QBB QHP QBW(R:Ψ->Hp->Prop),x.Vu[i]?<*c->R (p c) H'->tt (δ QGZ::h) H' R)(r:∀D,H D=ε->Q QBI QEW):∀D,H D=ε->∃W:χ->χ->γ V->Hp->Prop,
 (∃m,W 0 m [] (QO H D (.QV [])))/\∀i m ys a,W i m ys a->a D=δ (.QV ys)/\(((E_ x).We i a/\Q (.ξ D) a)\/((E_ x).go i a/\ys.β<Φ/\∀y j,(E_ x).yld i a y j->
  tt (δ y::h) j λb n=>if b=π then bu 0 (δ y::h) n λz l=>l D=δ QBZ/\∃f,f<m/\W (i+1) f (ys++[z]) (QO l D (.QV (ys++[z])))
   else ∃f,f<m/\W (i+1) f ys n)):=by
 intro D s;refine(λi m ys a=>m=x.β-i/\i≤x.β/\ys=((x.Vu.Qx.R0 i).VF p).Q_ (λc=>V.QZ ⟨#[c]⟩)/\a=QO H D QBZ,(x.β,!1,RO _,!1,1),3);rintro i m ys a⟨rfl,u,ζ,ζ⟩;refine(hJ,3);by_cases d:i<x.β
 .refine .Rh (d,3,λy j q=>?_)
  .rw [j'];have:=γ.length_filter_le p (x.Vu.Qx.R0 i);rw[Sn]at this;lia
  .obtain ⟨e,c,k,t⟩:=q;subst e t;let g:x.Vu.Qx[i]?<*c:=by simpa using k
   refine o i c _ _ k ?_;cases hp:p c with
   |π=>
    refine aG (0,hJ,x.β-(i+1),EY d,1,d,3,3)
    .rw [VP,g,γ.filter_append,RU];simp[hp]
    .rw [G7]
   |ν=>
    refine aE (x.β-(i+1),EY d,1,d,3,1);rw[VP,g,γ.filter_append,RU];simp[hp]
 .let e:i=x.β:=Eg d u
  subst e;refine .RN (QA _,3);rw[show x.β=x.Vu.Qx.β by simp[QF.β],Uz];show r D s
def oy QC7{b:St}(f:V->V)(e:b[j]?<*δ QAd)(c:k9 K H a xs)QHO(h:∀QBB(x:V)QBW(R:VK),xs[i]?<*x->a' H H'->R (f x) H'->d (δ x::b) H' R)(g:∀D,H D=ε->Q QBI (QO H D (.QV (xs.Q_ f)))):Eu (yI K (bu j)) Yv d b H Q:=
 (_,e,a,1,(_,c),rV f c hz h g)
def lL{a:St}(p:χ->Ψ)(b:a[j]?<*δ (.QZ x))(hz:x.β≤Φ)(d:∀QBB QHP QBW(R:Ψ->Hp->Prop),x.Vu[i]?<*c->R (p c) H'->tt (δ QGZ::a) H' R)(e:∀D,H D=ε->Q QBI QEW):Eu (z4 (bu j)) tt (bu 0) a H Q:=(_,b,x,1,oq p hz d e)
abbrev Df QKU QBP QBQ QAs(υ:RC)QEh QK4 QFx(sp:Sp):Prop:=
 ∃(f:θ)(fd:TY),mg x=δ QAg/\Vz K QAg=π/\yx K fd ps []/\aa P w K mg υ lb k f fd ps sp
def oh QGA(D:Df X.Ω X.w X.K X.mg X.υ x k ps d)(g:ak k X.A)(j:PA X (e::a) t)(h:Gl X x>>>4)(c:((x==("__debug__":QF))=ν)>>>0)(i:QEC>>>4)QHB:PE X (.T0 QCU (e::a) [] Ri) (BE d [] E0 t):=by
 let⟨f,m,h1,h2,l,F⟩:=D;show o8 F g h h1 h2 l .S5 Cs j c i b
def al QJL[Decidable c](a:c)(h:A):if decide c=π then A else B:=by
 rw[RI a];show aG h
def ac QJL[Decidable c](a:¬ c)(h:B):if decide c=π then A else B:=by
 rw[QJ a];show aE h
def kS{A B:Prop}(h1:c=π->A)(h2:c=ν->B):if c=π then A else B:=by
 cases c
 .exact aE (h2 ζ)
 .exact aG (h1 ζ)
def ay QJL[Decidable c](h1:c->A)(h2:¬ c->B):if decide c=π then A else B:=by
 by_cases h:c
 .exact al h (h1 h)
 .exact ac h (h2 h)
def a'.QO(n:H D=ε):a' H (QO H D o):=λb u e=>by rw[a_ (f_ e n)];show e
def n0(h:n≤16777216):n≤Φ:=by rw[S'];show h
def jA{xs:γ c}{i:Λ}(b:0≤i)(h1:i<xs.β):∃v,An xs i=δ v/\xs[i.Ru]?<*v:=by
 let⟨j,ζ⟩:=Λ.eq_ofNat_of_zero_le b;let a:j<xs.β:=IC h1
 show(xs[j],AS (by simp[a]),by simp[a])
abbrev Lv(t u:TS):TS:=λD σ H=>∃M:St->Hp->Prop,t {D with nx:=M} σ H/\∀σ' H',M σ' H'->u D σ' H'
def D7{st:Rb}(h1:PS X st t)(h2:Bd X Ww u):Bd X (st::Ww) (Lv t u):=by
 intro a s c H D I h;let⟨M,h,e⟩:=h;refine W6 (nb (h1 a s c H {D with nx:=M} I h) λf d q=>?_);cases f with
 |next=>
  let⟨b,H',g,q⟩:=q;show h2 a d b H' D g (e b H' q)
 |ret v=>show q
 |brk=>show q
 |YB=>show q
abbrev gj QE1 QKq:γ Λ:=(ns.Th (HT.Ws ns.β 0 lo)).R0 (HT.Ws ns.β ns.β hi-HT.Ws ns.β 0 lo)
def rQ QE1(lo a:ψ Λ):Ad QBU lo a=(gj ns lo a).Q_ V.QG:=by
 unfold Ad gj;rw[j',γ.map_take,γ.map_drop]
def NE QE1(lo a:ψ Λ):(gj ns lo a).β≤ns.β:=by
 unfold gj;rw[Sn,WP];show Np
section
variable{X:Cx}
def Lw:y' X (UK .FloorDiv) (rI (λ_ j=>0<j/\j<1073741824) λi j=>.QG (i/j)):=iZ
def dM:y' X (UK .Add) (DX λi j=>.QG (i+j)):=nj
def nh:y' X (UK .Sub) (DX λi j=>.QG (i-j)):=zH
def Lx:y' X (UK .Mult) (rI (λi j=>(-(2^64)<i/\i<2^64)\/(-(2^64)<j/\j<2^64)) λi j=>.QG (i*j)):=zI
end
section
variable{X:Cx}
def Gr:y' X (UK .Mod) (λx y H Q=>∃i j,x=.QG i/\y=.QG j/\0<j/\∀r,0≤r->r<j->Q (.QG r) H):=by
 intro a s c H x y v u Q I e d h;let⟨i,j,g,f,b,q⟩:=h;show dL a s c H x y v u Q I e d (i,j,g,f,b,q _ (Λ.YO _ (G1 b)) (Λ.X4 _ b))
end
def vr(h:H a<*o)(n:H b=ε):QO H b u a<*o:=by
 rw[a_ (f_ h n)];show h
def no(h:H a<*o)(n:H b<*v)(d:o≠v):QO H b u a<*o:=by
 rw[a_ (m_ h n d)];show h
def zS QBQ:kitOne K (.QU "int") (.QU "bool")<*ν:=by kernel_rfl
def zR QBQ:kitOne K (.QU "int") (.QU "int")<*π:=by with_unfolding_all rfl
section
variable{X:Cx}
end
end L2
namespace L2
inductive E2{a0 a1:Type}(p:a0->a1->Prop):Prop
 |mk (x0:a0) (x1:a1) (h:p x0 x1)
inductive E3{a0 a1 a2:Type}(p:a0->a1->a2->Prop):Prop
 |mk (x0:a0) (x1:a1) (x2:a2) (h:p x0 x1 x2)
inductive E4{a0 a1 a2 a3:Type}(p:a0->a1->a2->a3->Prop):Prop
 |mk (x0:a0) (x1:a1) (x2:a2) (x3:a3) (h:p x0 x1 x2 x3)
inductive E5{a0 a1 a2 a3 a4:Type}(p:a0->a1->a2->a3->a4->Prop):Prop
 |mk (x0:a0) (x1:a1) (x2:a2) (x3:a3) (x4:a4) (h:p x0 x1 x2 x3 x4)
inductive E6{a0 a1 a2 a3 a4 a5:Type}(p:a0->a1->a2->a3->a4->a5->Prop):Prop
 |mk (x0:a0) (x1:a1) (x2:a2) (x3:a3) (x4:a4) (x5:a5) (h:p x0 x1 x2 x3 x4 x5)
inductive A3(a0 a1 a2:Prop):Prop
 |mk (_:a0) (_:a1) (_:a2)
inductive A4(a0 a1 a2 a3:Prop):Prop
 |mk (_:a0) (_:a1) (_:a2) (_:a3)
inductive A5(a0 a1 a2 a3 a4:Prop):Prop
 |mk (_:a0) (_:a1) (_:a2) (_:a3) (_:a4)
inductive A6(a0 a1 a2 a3 a4 a5:Prop):Prop
 |mk (_:a0) (_:a1) (_:a2) (_:a3) (_:a4) (_:a5)
inductive A7(a0 a1 a2 a3 a4 a5 a6:Prop):Prop
 |mk (_:a0) (_:a1) (_:a2) (_:a3) (_:a4) (_:a5) (_:a6)
inductive A8(a0 a1 a2 a3 a4 a5 a6 a7:Prop):Prop
 |mk (_:a0) (_:a1) (_:a2) (_:a3) (_:a4) (_:a5) (_:a6) (_:a7)
inductive A9(a0 a1 a2 a3 a4 a5 a6 a7 a8:Prop):Prop
 |mk (_:a0) (_:a1) (_:a2) (_:a3) (_:a4) (_:a5) (_:a6) (_:a7) (_:a8)
def zX{n:χ}(a:0≤k)(h1:k<(n:Λ)):Dz n k<*k.Ru:=by
 unfold Dz;simp[a,h1]
end L2
namespace RA
end RA
namespace RA
open PySem.StrLaws Builtin Builtin.Str
abbrev tx QIT:QF:=⟨l.Θ⟩
def Ci QIT:(tx l).Vu.Qx=l:=by simp[tx]
def hF QIT:(tx l).β=l.β:=by simp[tx,QF.β]
def BO(a b:LN):tx a++tx b=tx (a++b):=by
 apply QF.ext';change a.Θ++b.Θ=(a++b).Θ;simp
def iq(h:tx a=tx b):a=b:=by
 have:=Qw (λs:QF=>s.Vu.Qx) h;simpa[tx]using this
def ir QIT QBB:(tx l).Vu[i]?=l[i]?:=by simp[tx]
def A_ QIT(c i:χ):At QEJ ⟨#[c]⟩ (tx l).β i↔l[i]?<*c:=by
 let h:=subAt_one QEJ c i;rw[Ci]at h;show h
def NF QIT QHP:U7.Qz QEJ ⟨#[c]⟩=decide (c∈l):=by
 let h:=found_one QEJ c;rw[Ci]at h;show h
def eM:∀{l:LN}{c i:χ},l[i]?<*c->l.QP c≤i
 |[],_,_,h=>by simp at h
 |a::l,c,0,h=>by
  let e:a=c:=by simpa using h
  subst e;simp
 |a::l,c,i+1,h=>by
  rw[Y4];cases e:a==c with
  |π=>simp
  |ν=>
   have:=eM (l:=l) (c:=c) (i:=i) QDr;simp;omega
def lq(h:c∈l):U7.find QEJ ⟨#[c]⟩=(l.QP c:χ):=by
 unfold U7.find;rcases occ_head QEJ ⟨#[c]⟩ 1 QA2 with⟨_,b⟩|⟨i,r,e,f,b⟩
 .obtain ⟨i,d⟩:=Rl.mp h;show QL ((A_ l c i).Sz d) (b i)
 .rw [e];let d:=(A_ l c i).mp f;let a:l.QP c<l.β:=QS h;let g:l[l.QP c]?<*c:=by
   rw[j_ a,TF a]
  let h1:¬ l.QP c<i:=λz=>b _ z QJV;let h2:l.QP c≤i:=by
   show eM d
  have:i=l.QP c:=by lia
  rw[this]
def j5 QEh(h:0≤j):U7.YF x ε (δ j)=tx (x.Vu.Qx.R0 j.Ru):=by
 let c:∀j:Λ,0≤j->j≤x.Vu.Qx.β->U7.YF x ε (δ j)=tx (x.Vu.Qx.R0 j.Ru):=λj g h1=>by
  let e:U7.YF x ε (δ j)=sliceText x ε (δ j):=ζ;rw[e,sliceText_to (g,h1)];simp[tx]
 by_cases f:j≤x.Vu.Qx.β
 .exact c j h f
 .let e:U7.YF x ε (δ j)=U7.YF x ε (δ (x.β:Λ)):=by
   let d:x.β=x.Vu.Qx.β:=by simp[QF.β]
   let k:strSliceIndices ε (δ j) 1 x.β=strSliceIndices ε (δ (x.β:Λ)) 1 x.β:=by
    let a:¬ (j<0):=G5 h
    let b:¬ ((x.β:Λ)<0):=GZ
    let m:min j (x.β:Λ)=(x.β:Λ):=by lia
    simp[strSliceIndices,a,b,m]
   unfold U7.YF;rw[k]
  rw[e,c _ FZ (by simp[QF.β])];let d:x.β=x.Vu.Qx.β:=by simp[QF.β]
  rw[RT (i:=j.Ru) (!6),RT (!6)]
def mO QEh{i:Λ}(h:0≤i)(h1:i≤x.Vu.Qx.β):U7.YF x (δ i) ε=tx (x.Vu.Qx.Th i.Ru):=by
 let e:U7.YF x (δ i) ε=sliceText x (δ i) ε:=ζ;rw[e,sliceText_from (h,h1)];let a:((x.Vu.Qx.β:Λ)-i).Ru=(x.Vu.Qx.Th i.Ru).β:=by rw[WP];lia
 rw[a,Uz];rfl
def em:∀d:LN,U7.join QF.Vd (d.Q_ λc=>(⟨#[c]⟩:QF))=tx d:=by
 intro d;unfold U7.join;rw[glued_eq_join];let f:∀(d:LN),QF.join QF.Vd (d.Q_ λc=>(⟨#[c]⟩:QF))=tx d:=by
  intro d;induction d with
  |S5=>rfl
  |Rc a r e=>
   cases r with
   |S5=>rfl
   |Rc b r=>
    change (⟨#[a]⟩:QF)++QF.Vd++QF.join QF.Vd ((b::r).Q_ λc=>(⟨#[c]⟩:QF))=tx (a::b::r);rw[e,QF.append_empty];show BO [a] (b::r)
 show f d
def uT(a b:χ):(!decide ((⟨#[b]⟩:QF).Vu.Qx<(⟨#[a]⟩:QF).Vu.Qx))=decide (a≤b):=by
 change (!decide ([b]<[a]))=decide (a≤b);rw[lt_cons_cons,lt_nil_nil,Ψ.and_false,Ψ.TQ];by_cases h:a≤b
 .rw [QJ (IL h),RI h];rfl
 .rw [RI (!6),QJ h];rfl
def lK QIT QHP:∀(b:LN)(a f:χ),ChainG QEJ ⟨#[c]⟩ (tx l).β a b f->(∀k,f≤k->¬ At QEJ ⟨#[c]⟩ (tx l).β k)->(l.Th a).count c=b.β:=by
 intro b;induction b with
 |S5=>
  intro a f h j;let e:f=a:=h;subst e;rw[WF,γ.count_eq_zero];intro m;let⟨i,g⟩:=Rl.mp m;rw[γ.getElem?_drop]at g;show j _ QIe QJV
 |Rc d r o=>
  intro a f h j;let⟨h1,h2,u,t⟩:=h;let s:=(A_ l c d).mp h2;let q:=o (d+1) f t j;let⟨n,v⟩:=l' s;let split:l.Th a=(l.Th a).R0 (d-a)++c::l.Th (d+1):=by
   conv=>lhs;rw[<-Vq (d-a) (l.Th a)]
   rw[γ.drop_drop,show a+(d-a)=d from Ii h1,γ.U4 n,v]
  rw[split,γ.count_append,γ.count_cons_self,q,RY];let z:((l.Th a).R0 (d-a)).count c=0:=by
   rw[γ.count_eq_zero];intro m;let⟨i,g⟩:=Rl.mp m;rw[γ.YZ]at g;split at g
   .rename_i p;rw[γ.getElem?_drop]at g;show u (a+i) QIe (!6) QJV
   .cases g
  lia
def DB QIT QHP:U7.count QEJ ⟨#[c]⟩=(l.count c:χ):=by
 unfold U7.count;let⟨f,h1,h2⟩:=occ_tight QEJ ⟨#[c]⟩ (by simp[QF.β]);let q:=lK l c _ 0 f h1 h2;rw[γ.drop_zero]at q;rw[q]
structure BG QA5:Prop where
 lo:1≤L.β
 hi:L.β≤3
 nd:L.R7
 az:∀c∈L,97≤c/\c≤122
def HF{L:LN}(b:L.R7)(h:i<L.β):L.QP L[i]=i:=by
 let h1:=eM (l:=L) (c:=L[i]) (i:=i) (by simp[h]);let a:L.QP L[i]<L.β:=Fk h h1
 let e:=TF a;by_cases d:L.QP L[i]<i
 .exact QL e (γ.pairwise_iff_getElem.mp b _ _ a h d)
 .exact Eg d h1
def vI{f l:LN}(b:i<l.β)(a:(f++l).R7):((f++[l[i]])++QEj).R7/\∀c,c∈(f++[l[i]])++QEj->c∈f++l:=by
 let e:l=l.R0 i++l[i]::l.Th (i+1):=by
  conv=>lhs;rw[<-Vq i l,γ.U4 b]
 let p:(f++l).Perm ((f++[l[i]])++QEj):=by
  conv=>lhs;rw[e]
  rw[SK];refine Perm.append_left f ?_;change (l.R0 i++l[i]::l.Th (i+1)).Perm (l[i]::QEj);show γ.perm_middle
 show(p.nodup_iff.mp a,λc d=>p.mem_iff.Sz d)
end RA
namespace RA
open L2
def OC:(QF.Rj "abcdefghijklmnopqrstuvwxyz")=tx (γ.range' 97 26):=by decide +kernel
def fh:(QF.Rj "")=tx []:=by decide +kernel
def ic:(QF.Rj "")=QF.Vd:=by decide +kernel
abbrev bH QA5(z:Λ):χ:=L.LT (z%(L.β:Λ)).Ru 0
abbrev tq QA5:V->V
 |.QG z=>.QZ ⟨#[bH L z]⟩
 |v=>v
def gF QA5(z:Λ):bH L z=(L[(z%(L.β:Λ)).Ru]?).LT 0:=by
 unfold bH;rw[nt]
def tj(h:BG L){ns:γ Λ}(b:c∈ns.Q_ (bH L)):c∈L:=by
 let⟨z,_,ζ⟩:=TZ.mp b;let hp:(0:Λ)<(L.β:Λ):=by have:=h.lo;show GX this
 let d:=Λ.YO z (show(L.β:Λ)≠0 from F4 hp);let h1:=Λ.X4 z hp;let a:(z%(L.β:Λ)).Ru<L.β:=by lia
 rw[gF,j_ a];show Rv a
end RA
namespace RA
open L2 Builtin Builtin.Str
def jU:∀a:LN,((a.Q_ λc=>(⟨#[c]⟩:QF)).Q_ (·.β)).sum=a.β
 |[]=>rfl
 |_::a=>by
  rw[UY,UY,γ.sum_cons,jU a,RY];change 1+_=_;lia
def gZ(a:LN)(h:a.β≤16777216):((a.Q_ λc=>(⟨#[c]⟩:QF)).Q_ (·.β)).sum+(a.Q_ λc=>(⟨#[c]⟩:QF)).β*(QF.Rj "").β≤16777216:=by
 rw[jU,show(QF.Rj "").β=0 by rw[ic];rfl];omega
def Ly:(QF.Rj "a")=⟨#[97]⟩:=by decide +kernel
def Lz:(QF.Rj "z")=⟨#[122]⟩:=by decide +kernel
end RA
namespace RA
open L2
structure g_ QA5 QC9 QAm:Prop where
 lt:BG L
 n1:1≤W.β
 n60:W.β≤2100
 bl:B.β=W.β
 Yc:∀ws∈W,ws.β=L.β/\∀x∈ws,x<W.β
abbrev zl QA5 QC9(r c:χ):χ:=(W.LT r []).LT QBS 0
abbrev Sl QA5 QC9(r:χ)QFP:χ:=w.foldl (zl L W) r
def g_.at QAt(b:r<W.β)(e:c∈L):∃ws x,W[r]?=δ ws/\ws[L.QP c]?=δ x/\zl L W r c=x/\x<W.β:=by
 let hw:W[r]?<*W[r]:=by simp[b]
 let⟨h1,h2⟩:=h.Yc W[r] (Rv b);let d:L.QP c<W[r].β:=by rw[h1];show QS e
 let a:W[r][L.QP c]?<*W[r][L.QP c]:=by simp[d]
 refine(W[r],W[r][L.QP c],hw,a,3,h2 _ (Rv d));unfold zl;let f:W.LT r []=W[r]:=by
  rw[nt,hw];rfl
 rw[f,nt,a];rfl
def Ev QA5 QC9(r:χ)QFP QHP:Sl L W r (w++[c])=zl L W (Sl L W r w) c:=by
 unfold Sl;rw[γ.Y6];rfl
def B6{L:LN}{W:LL}QHu QAt:∀{w:LN}{r:χ},r<W.β->QA7->Sl L W r w<W.β
 |[],_,a,_=>a
 |c::w,r,a,hw=>by
  let⟨ws,x,_,_,e,b⟩:=h.at a (hw c (!1));show B6 h (w:=w) (r:=zl L W r c) (by rw[e];show b) λd f=>hw d (by simp[f])
abbrev b_(ws:LN):γ V:=ws.Q_ λ(n:χ)=>V.QG (n:Λ)
abbrev Ew QAH QEk QC9:Prop:=∀QBB(r:θ),Td[i]?<*r->∃ws,W[i]?=δ ws/\H r<*.Rn QHv
inductive u0 QAH(m:θ)QA5 QC9 QAm:Prop
 |mk (wy mk:θ) QEk QHw (_:H wy<*.Rn QC4) (_:H mk<*.Rn QGI) (_:Td.β=W.β) (_:Ew H Td W)
def Ew.SO(h:Ew H a W)QBs:Ew H' a W:=λi r e=>by
 let⟨ws,h1,h2⟩:=h i r e;show(ws,h1,s _ _ h2)
def u0.SO(h:u0 H m L W B)QBs:u0 H' m L W B:=by
 let⟨b,mk,a,h1,h2,e,d,c⟩:=h;show(b,mk,a,s _ _ h1,s _ _ h2,s _ _ e,d,c.SO s)
def DC{a b:Type}{xs:γ a}(f:a->b){x:a}(h:xs[i]?<*x):An (xs.Q_ f) ((i:χ):Λ)<*f x:=AS (by rw[na,h];rfl)
end RA
namespace L2
namespace RV
section
variable{Ω:Id}{w:QW}{A:Qy}{E:η->ω->Prop}{s:ω}
end
end RV
namespace ZP
abbrev bZ(S:γ θ)(h h':RC):Prop:=h'.SN.Q'=h.SN.Q'/\∀c o,c∉S->h.Δ c<*o->h'.Δ c<*o
def bZ.UX(x:Tb a h h')(m:a∈S):bZ S h h':=(x.1,λc o b e=>(x.2 c λq=>b (q▸m)).ο e)
def bZ.ο(x:bZ S h h1)(y:bZ S h1 h2):bZ S h h2:=(y.1.ο x.1,λc o a e=>y.2 c o a (x.2 c o a e))
section
variable{Ω:Id}{w:QW}{A:Qy}{E:η->ω->Prop}{s:ω}{z TI TO i1 i2:θ}{f1 f2:γ θ}{n1 n2 k:χ}{P1 P2:χ->η->Prop}{S1 S2:χ->RC->Prop}{a b:η}
def Ju{Q:η->ω->Prop}(D1:Draws Ω w A i1 f1 n1 P1 S1)(Z:Draws Ω w A i2 f2 n2 P2 S2)(m1:∀c∈f1,c=i1\/c∉[z,TO,i1,i2])(m2:∀c∈f2,c=i2\/c∉[z,TO,i1,i2])(d:V_ z TI TO i1 i2 TI TI)(hz:YS s.ρ z TI TO .ε)(B:UM s.ρ TI (.ξ i1) (.ξ i2))(P:UM s.ρ TO a b)(h1:S1 k s.ρ)(h2:S2 k s.ρ)(l1:k<n1)(l2:k<n2)(hQ:∀x y h' tk,P1 k x->P2 k y->YS h' z TI TO (R6 s⁻¹)->UM h' TI (.ξ i1) (.ξ i2)->UM h' TO x y->S1 (k+1) h'->S2 (k+1) h'->UM h' s⁻¹ x y->
   (∀c o,c∉[z,TO,i1,i2]->s.ρ.Δ c<*o->h'.Δ c<*o)->Q (.ξ s⁻¹) {s with ρ:=h',QT:=tk}):Fr (LE Ω w) A (Builtin.«zip.__next__» ([.ξ z],[])) (λR s'=>∃v,R=.done (.ret v)/\Q v s') E s:=by
 unfold Builtin.«zip.__next__»;refine e_ (SR (a:=QIf) ζ (e_ (RP hz ζ (x:=.UV ν) ζ (e_ (RP hz ζ (x:=.ξ TI) ζ (e_ (Ts B ζ ?_)))))));refine Rz (!1) QDa;unfold Builtin.Ty.Yg;refine e_ (RP hz ζ (x:=.ε) ζ (h9 (Xr (!0) (e_ (W5 (e_ (RP hz ζ (x:=.ξ TO) ζ (e_ (VN hz (!1) λg1 z1 c1=>?_)))))))));let k1:bZ [z,TO,i1,i2] s.ρ g1:=.UX c1 (!1);let n:∀QIJ{g g':RC},QBJ->S1 j g->QJ2->S1 j g':=λk st e=>D1.Vx _ _ _ st λc h=>by
  rcases m1 c h with ζ|O
  .exact e
  .exact λo q=>k c o O q
 let l:∀QIJ{g g':RC},QBJ->S2 j g->QJ3->S2 j g':=λk st e=>Z.Vx _ _ _ st λc h=>by
  rcases m2 c h with ζ|O
  .exact e
  .exact λo q=>k c o O q
 simp only[γ.zipIdx_cons,γ.zipIdx_nil,U9,WU];refine e_ (e_ (e_ (wpAny_onRaise (e_ (m:=Builtin.Ty.ZZ QDs) (D1.Yi k _ _ _ l1 (n k1.2 h1 λo e=>(c1.2 i1 d.i1z).ο e) λx g2 t2 p1 d1 D=>h9 ?_)))));let W:UM g2 TO a b:=(D.2 TO d.TOi1).ο ((c1.2 TO d.TOz).ο P);refine e_ (Ts W ζ (e_ (wpAny_updateSeq_pair W λg3 o3 r=>e_ (wpAny_letGo (h9 (e_ (e_ (wpAny_onRaise (e_ (m:=Builtin.Ty.ZZ QEq) (Z.Yi k _ _ _ l2 (l ((k1.ο (.UX D (!1))).ο (.UX r (!1))).2 h2 λo e=>?_) λy g4 t4 p2 d2 C=>h9 ?_))))))))))
 .exact (r.2 i2 d.TOi2.QI).ο ((D.2 i2 d.i12.QI).ο ((c1.2 i2 d.i2z).ο e))
 let U:UM g4 TO x b:=(C.2 TO d.TOi2).ο o3;refine e_ (Ts U ζ (e_ (wpAny_updateSeq_pair U λf H p=>e_ (wpAny_letGo QHC))));replace H:UM f TO x y:=H;let k5:bZ [z,TO,i1,i2] s.ρ f:=(((k1.ο (.UX D (!1))).ο (.UX r (!1))).ο (.UX C (!1))).ο QJ4;let T:YS f z TI TO .ellipsis:=(p.2 z d.TOz.QI).ο ((C.2 z d.i2z.QI).ο ((r.2 z d.TOz.QI).ο ((D.2 z d.i1z.QI).ο z1)));let N:S1 (k+1) f:=n (((bZ.UX (S:=[z,TO,i1,i2]) r (!1)).ο (.UX C (!1))).ο QJ4).2 d1 λo e=>(p.2 i1 d.TOi1.QI).ο ((C.2 i1 d.i12).ο ((r.2 i1 d.TOi1.QI).ο e));let M:S2 (k+1) f:=l (bZ.UX (S:=[z,TO,i1,i2]) p (!1)).2 d2 λo e=>(p.2 i2 d.TOi2.QI).ο e;refine e_ (Ts H ζ (e_ (wpAny_newTuple ?_)));unfold Builtin.Ty.ownedTupleHandOut;let z6:YS (f.Rm {SS:=.QU "tuple",RH:=.WA #[x,y]}) z TI TO .ellipsis:=o9 _ T;refine e_ (e_ (VN z6 (!1) λg7 J Y=>?_));replace J:YS g7 z TI TO (R6 f.SN.Q'):=J;refine VN J (!1) λI F X=>h9 (0,3);replace F:YS I z TI TO (R6 f.SN.Q'):=F;let i:∀c o,c≠z->f.Δ c<*o->I.Δ c<*o:=λc o h e=>(X.2 c h).ο ((Y.2 c h).ο QIg);let t:f.SN.Q'≠z:=XT (lt_size T);let u:UM I f.SN.Q' x y:=(X.2 _ t).ο ((Y.2 _ t).ο (QN _ ζ));let sz:f.SN.Q'=s⁻¹:=k5.1;let L:UM f TI QDs QEq:=k5.2 TI _ (by simp[d.TIz,d.TITO,d.TIi1,d.TIi2]) B;change Q (.ξ f.SN.Q') _;rw[sz]at F u⊢;show hQ x y I t4 p1 p2 F (i _ _ d.TIz L) (i _ _ d.TOz H) (n (λc o h e=>i c o (λq=>h (by simp[q])) e) N λo e=>i _ o d.i1z e) (l (λc o h e=>i c o (λq=>h (by simp[q])) e) M λo e=>i _ o d.i2z e) u λc o h e=>i c o (λq=>h (by simp[q])) (k5.2 c o h e)
end
section
variable{Ω:Id}{w:QW}{A:Qy}{E:η->ω->Prop}{s:ω}{z TI TO i1 i2:θ}{n1 n2 k:χ}{P1 P2:χ->η->Prop}{S1 S2:χ->RC->Prop}{a b:η}
abbrev Ex QEh(t:Z5):UQ:={SS:=.QU (if x.Vu.UW QKa then "str_ascii_iterator" else "str_iterator"),RH:=.SD #[.QZ x t,.QG 0 0]}
def rE(h:Q QAX {s with ρ:=s.ρ.Rm (Ex x t)}):Fr QAU A (YX (.QZ x t)) Q E s:=by
 unfold Ex at h;cases e:x.Vu.UW QKa<;>rw[e]at h
 .exact wpAny_pyIter_wide e h
 .exact wpAny_pyIter_ascii e h
abbrev Dd QEh(t:Z5)(it:θ)QBB QKP:Prop:=h.IsStrIter it (if x.Vu.UW QKa then "str_ascii_iterator" else "str_iterator") x t i
def draws(d:A.SX=ε)(it:θ)QEh(t:Z5):Draws Ω w A it [it] x.Vu.Q' (λi v=>∃c u,x.Vu[i]?=δ c/\v=.QZ ⟨#[c]⟩ u) (Dd x t it):=by
 unfold Dd;cases x.Vu.UW QKa
 .exact Draws.strWide d it x t
 .exact Draws.strAscii d it x t
end
end ZP
end L2
namespace L2
open PySem.Spec PyProof.Rows
section
variable{X:Cx}{QE:γ QA_}{σ:St}{H:Hp}{s:ω}{h':RC}
def ol{S:γ θ}(f:∀b∈S,H b=ε)(e:H b<*u):b∉S:=λa=>by rw[f b a]at e;cases e
def f'.turnedL{S:γ θ}QAA QGw(f:∀b∈S,aL X QE H b):f' X QE σ H {s with ρ:=h',QT:=t'}:=by
 refine I.UZ (g':=s.WX) (d':=s.Wz) (ch:=S) (λb o e _ _ d=>k b o d e,λb o e _ _ d=>(o.XR,k b o d e),λ_ _ _ n _=>n,λb o e d=>(o,k b o d e),λ_ _ e=>e,λ_ _ _ e=>e,λ_ ps e=>(#[],by rw[e];simp))
  (λb u e=>(I.S8 b u e).Wv (λc v d q=>k c v ?_ q) QJQ λ_ _ q=>q) I.V9 λb a=>((f b a).2.2.2.1,(f b a).2.1,(f b a).2.2.2.2.1,(f b a).2.2.2.2.2)
 rcases d with z|z
 .rw [z];show ol QFW e
 .exact ol QFW z
def f'.turnedNew{S:γ θ}{t':χ}QH' QAA QGw(f:∀b∈S,aL X QE H b)(h:Ai X.Ω X.w (QO H s⁻¹ o) h' s⁻¹ o):f' X QE σ (QO H s⁻¹ o) {s with ρ:=h',QT:=t'}:=by
 let i:H s⁻¹=ε:=I.S8.SZ QA2;let g:∀b u,H b<*u->b≠s⁻¹:=λb u e=>f_ e i;refine I.UZ (g':=s.WX) (d':=s.Wz) (ch:=S) (λb o e _ _ d=>k b o d e,λb o e _ _ d=>(o.XR,k b o d e),λb o e n _=>?_,λb o e d=>(o,k b o d e),λb xs e=>by rw[a_ (g b _ e)];show e,λb o u e=>by rw[a_ (g b _ e)];show e,λb ps e=>(#[],by rw[a_ (g b _ e),e];simp))
  (λb u e=>?_) I.V9 λb a=>((f b a).2.2.2.1,(f b a).2.1,(f b a).2.2.2.2.1,(f b a).2.2.2.2.2)
 .rw [a_ QKn];show n
 .by_cases a:b=s⁻¹
  .subst a;rw[hJ]at e;cases e;show h
  .rw [a_ a]at e;refine(I.S8 b u e).Wv (λc v d q=>k c v ?_ q) (λc q=>by rw[a_ (g c _ q)];show q) λc xs q=>by rw[a_ (g c _ q)];show q
   rcases d with z|z
   .rw [z];show ol QFW e
   .exact ol QFW z
end
end L2
namespace L2
open PySem.Spec PyProof.Rows Builtin Builtin.Str
section
variable{X:Cx}{e:SH}{te:TE}
end
end L2
namespace L2
open PySem.Spec PyProof.Rows
abbrev mu(o:UQ):ψ θ×ψ η:=(o.Uk,match o.RH with|.SD vs=>vs[2]?|_=>ε,)
abbrev w_{α:Type}:Sem α->Prop
 |.pure _=>S9
 |.raise _=>S9
 |.unsupported _=>S9
 |.load _ _ k=>∀o,w_ (k o)
 |.Sq _ _ f k=>(∀o,mu (f o)=mu o)/\w_ (k ())
 |.alloc _ k=>∀a,w_ (k a)
 |.RL k=>∀a,w_ (k a)
 |.ask k=>∀a,w_ (k a)
 |.SX _ k=>∀a,w_ (k a)
 |_=>Rk
abbrev DK(h h':RC):Prop:=∀(b:θ)(o:UQ),h.SN[b]?<*o->∃o',h'.SN[b]?=δ o'/\mu o'=mu o
def DK.X9:DK h h:=λ_ o e=>(o,e,1)
def DK.ο(a:DK h h1)(b:DK h1 h2):DK h h2:=λx o e=>let⟨_,f,d1⟩:=a x o e;let⟨c,d,d2⟩:=b x _ f;(c,d,d2.ο d1)
def i_{f:c->Sem e}(d:∀a,w_ (f a)):∀{t:Sem c},w_ t->w_ (t>>=f):=by
 intro t;change w_ t->w_ (Sem.Zq t f);induction t with
 |pure a=>show λ_=>d a
 |raise=>show id
 |unsupported=>show id
 |load a p k b=>show λh o=>b o (h o)
 |Sq a p g k b=>show λh=>(h.1,b () h.2)
 |alloc o k b=>show λh a=>b a (h a)
 |RL k b=>show λh a=>b a (h a)
 |ask k b=>show λh a=>b a (h a)
 |SX o k b=>show λh a=>b a (h a)
 |_=>show λh=>h.SJ
def xS{Q:i->UL->ω->Prop}:∀(t:Sem i)(p:UL)QB_,w_ t->DK l s.ρ->Sem.wp M Γ t (λa p s'=>DK l s'.ρ->Q a p s') E p s->Sem.wp M Γ t Q E p s:=by
 intro t;induction t with
 |pure a=>show λp s _ d h=>h d
 |raise=>show λp s _ d h=>h
 |unsupported=>show λp s _ d h=>h
 |load a q k c=>show λp s g d⟨o,e,h⟩=>(o,e,c o p s (g o) d h)
 |Sq a q f k c=>
  refine λp s g d⟨e,h⟩=>(e,c () p _ g.2 (d.ο λb o z=>?_) h);change ∃j,(s.ρ.SN.modify a f)[b]?=δ j/\_;rw[R_.getElem?_modify];split
  .rw [z];show(f o,1,g.1 o)
  .exact (o,z,1)
 |alloc o k c=>
  refine λp s g d h=>c _ p _ (g _) (d.ο λb u z=>(u,3,1)) h;change (s.ρ.SN.Rm o)[b]?<*u;rw[R_.getElem?_push,Cl (RM (R_.TC.mp z).1)];show z
 |RL k c=>show λp s g d h=>c _ p s (g _) d h
 |ask k c=>show λp s g d h=>c _ p s (g _) d h
 |SX o k c=>show λp s g d h=>c _ p s (g _) d h
 |_=>show λp s g=>g.SJ
def Ao{t:Sem b}{Q:b->ω->Prop}(g:w_ t)(h:Fr M A t (λa s'=>DK s.ρ s'.ρ->Q a s') E s):Fr M A t Q E s:=
 λΓ p c=>xS t p s g .X9 (h Γ p c)
def lf(h:∀o,mu (f o)=mu o):w_ (Sq a f):=(h,S9.Sv)
def LA QCs:w_ (load a):=λ_=>S9.Sv
def AL:w_ RL:=λ_=>S9.Sv
def Ae(v:η)QBB:w_ (field v i):=by
 unfold field fieldsOf;refine i_ (λa=>by split<;>show S9.Sv) ?_;split
 .refine i_ (λo=>by split<;>show S9.Sv) (LA _)
 .exact S9.Sv
def Hc(a:i≠2)(o:UQ):mu (o.TX (·.Ra i x))=mu o:=by
 let⟨c,d,b,e⟩:=o;cases b with
 |SD vs=>change (d,(vs.Ra i x)[2]?,)=(d,vs[2]?,);rw[R_.getElem?_setIfInBounds_ne a]
 |_=>rfl
def eX(v:η)QBB(x:η)(a:(i≠2)>>>0):w_ (setField v i x):=by
 unfold setField updateField;split
 .refine i_ (λo=>?_) (LA _);split
  .split
   .exact (λo=>Hc a o,S9.Sv)
   .exact S9.Sv
  .exact S9.Sv
 .exact S9.Sv
def Ap(e:η)(f:ψ θ):w_ (W_ e f):=by
 unfold W_;show i_ (λa=>by split;show eX _ _ _;show S9.Sv) (Ae _ _)
def Bx:∀l:γ YT,w_ (readyFrames l)
 |[]=>S9.Sv
 |QC::r=>by
  unfold readyFrames;split
  .refine i_ (λo=>?_) (LA _);split
   .exact S9.Sv
   .refine i_ (λb=>i_ (λv=>i_ (λ_=>Bx r) ?_) ?_) ?_
    .exact lf λ_=>rfl
    .unfold keptBack;split
     .split
      .exact S9.Sv
      .refine i_ QIh ?_
       .exact S9.Sv
       unfold underTheClaimsCaller;show i_ (λ_=>by first|show S9.Sv|(split<;>show S9.Sv)) AL
     .exact S9.Sv
    .unfold behindIsImport;split
     .exact S9.Sv
     .split
      .exact S9.Sv
      .refine i_ QIh (Ae _ _);show S9.Sv
  .exact S9.Sv
def Ey(T:X5)(vs:γ η):w_ (newFields T vs):=by
 unfold newFields newObj newObjAsIs;dsimp only;split
 .exact S9.Sv
 .refine i_ (λa=>?_) ?_
  .exact S9.Sv
  .exact λ_=>S9.Sv
def BP(e:η)(QC:YT):w_ (Xp e QC):=by
 unfold Xp;split
 .refine i_ QDT (Ae _ _);let Ww:∀b:Ψ,w_ (do setField e 1 (<-EntryCells.newEntry h (<-Ξ.frameOf QC) .ε (R6 ‹θ›) .ε (<-entryPlaceOf ‹θ› b))):=λb=>by
   refine i_ (λc=>i_ (λpl=>i_ (λx=>eX _ _ _) ?_) ?_) ?_
   .exact Ey _ _
   .unfold entryPlaceOf;refine i_ (λa=>by split<;>show S9.Sv) AL
   .unfold Ξ.frameOf frameEnvs;refine i_ (λd=>i_ (λo=>by split<;>show S9.Sv) ?_) (i_ QIh AL)
    rotate_left
    .exact S9.Sv
    unfold frameObject;split
    .exact S9.Sv
    .refine i_ QIh (Bx _);show S9.Sv
  split
  .refine i_ (λx=>?_) (Ae _ _);split
   .exact S9.Sv
   .exact i_ (λ_=>Ww _) (eX _ _ _)
  .exact Ww _
 .exact S9.Sv
def AT(QC:YT)(e:η):w_ (Wn QC e):=i_ (λ_=>Ap _ _) (BP _ _)
inductive FF QKP(e T:θ)(SS a0:η)(d:ψ θ):Prop
 |mk (oe vs oT ts:_) (_:h.Δ e<*oe) (_:(oe.SS=SS/\vs[0]?<*a0)) (_:oe.RH=.SD vs) (_:vs[1]?<*.ξ T) (_:T≠e) (_:h.Δ T<*oT) (_:oT.RH=.SD ts) (_:ts[3]?<*.ε) (_:∀x,d<*x->mu oe=QFp)
def FF.traced(x:FF h e T SS a0 d)(n:υ.Δ T=ε):h.TracedW υ e SS a0:=by
 let⟨a,vs,b,ts,h1,h2,k,j,i,g,f,c,_⟩:=x;show(a,vs,T,b,ts,h1,h2,k,j,n,i,g,f,c)
def n8(x:h.TracedW υ e SS a0):∃T,υ.Δ T=ε/\FF h e T SS a0 ε:=by
 let⟨a,vs,T,b,ts,h1,h2,j,i,n,g,f,d,c⟩:=x;show(T,n,a,vs,b,ts,h1,h2,j,i,g,f,d,c,λ_ z=>nomatch z)
def cr{h:RC}(e:h.Δ a<*o):h.SN[a]?<*o:=by
 unfold RC.Δ at e;split at e
 .cases e
 .exact e
def FF.up(f:FF h' e T SS a0 ε)(k:DK h h')(g:h.Δ e<*o)(q:∀x,d<*x->mu o=QFp):FF h' e T SS a0 d:=by
 let⟨b,vs,c,ts,h1,h2,p,n,m,l,j,i,_⟩:=f;let⟨s,a,r⟩:=k e o (cr g);rw[cr h1]at a;cases a;show(b,vs,c,ts,h1,h2,p,n,m,l,j,i,λx z=>r.ο (q x z))
inductive z7 QKU QBP QE3 QAH QB_ QE0(ev:η)QKQ:Prop
 |mk (e T:θ) (C a0:η) (dd:ψ θ) QBW (_:ev=.ξ e) (_:s'.os=s.os) (_:Xo s'.WX) QJA (_:z_ P w H' s'.ρ) (_:s.ρ.Δ e=ε) (_:s.ρ.Δ T=ε) (_:H' e=ε) (_:H' T=ε) (_:FF s'.ρ e T C a0 dd) (_:E C dd H')
def Gs{h υ:RC}{a:γ θ}:∀{l:γ YT},h.S6 υ l->(∀b∈pu l,b∈a)->h.S6 (VS h a) l
 |[],_,_=>trivial
 |QC::r,i,c=>by
  let⟨j,⟨L,o,d,n,g,k⟩,f⟩:=i;let e:pu (QC::r)=L::pu r:=by unfold pu;rw[Wo,d]
  show(j,(L,o,d,Ta _ (c L (by rw[e];show Sk)),g,k),Gs f λb m=>c b (by rw[e];show Q9 _ m))
def Gu{h υ:RC}:∀{l:γ YT},h.S6 υ l->∀b∈pu l,∃o,h.Δ b=δ o/\∀vs,o.RH≠.SD vs
 |QC::r,f,b,a=>by
  let⟨k,⟨L,o,g,j,d,i⟩,c⟩:=f;let e:pu (QC::r)=L::pu r:=by unfold pu;rw[Wo,g]
  rw[e]at a;rcases QY.mp a with ζ|a
  .exact (o,d,i)
  .exact Gu c b a
section
variable{X:Cx}{QE:γ QA_}{σ:St}{H H':Hp}{s:ω}{h1 h2:RC}
def f'.flown{S:γ θ}QAA(un:Un QCT [] H H' s.ρ h1)(x:z_ X.Ω X.w H' h1)(t:∀b∈S,s.ρ.Δ b=ε)(m:∀b∈S,H' b=ε)(d:∀b o,h1.Δ b<*o->b∉S->b∉pu X.RL->h2.Δ b<*o)(D:h1.Yo h2)(M:Xo g'):f' X QE σ H' {s with ρ:=h2,WX:=g',Wz:=d',QT:=t'}/\Un QCT [] H H' s.ρ h2/\z_ X.Ω X.w H' h2:=by
 let g:∀b o,s.ρ.Δ b<*o->b∉S:=λb o e a=>by rw[t b a]at e;cases e
 let A:∀b∈pu X.RL,∃o,s.ρ.Δ b=δ o/\∀vs,o.RH≠.SD vs:=Gu I.RL;let r:∀b∈pu X.RL,H' b=ε:=λb a=>by
  let⟨o,L,_⟩:=A b a;show un.SB b o L (I.Xg b a) (!1)
 let k:Un QCT [] H H' s.ρ h2:=by
  refine(λb o e n a j=>d b o (un.UB b o e n a j) (g b o e) a,λb o e n a j=>?_,un.SB,λb o e j=>?_,un.Uh,un.ZO,un.ZJ)
  .obtain ⟨F,C⟩:=un.YW b o e n a j;let⟨J,f,y⟩:=A b a;rw[e]at f;cases f;let⟨l,B⟩:=D b _ C y;show(l,B)
  .obtain ⟨E,C⟩:=un.Uf b o e j;by_cases a:b∈pu X.RL
   .obtain ⟨J,f,y⟩:=A b a;rw[e]at f;cases f;let⟨F,B⟩:=un.YW b o e (I.Xg b a) a j;let⟨l,N⟩:=D b _ B y;show(_,N)
   .exact (E,d b E C (g b o e) a)
 let h:z_ X.Ω X.w H' h2:=λb u e=>(x b u e).Wv (λc v i q=>d c v q (λp=>?_) λp=>?_) QJQ λ_ _ q=>q
 .exact (I.UZ (g':=g') (d':=d') (t':=t') (ch:=[]) k h M QAD,k,h)
 .rcases i with ζ|i
  .rw [m c p]at e;cases e
  .rw [m c p]at i;cases i
 .rcases i with ζ|i
  .rw [r c p]at e;cases e
  .rw [r c p]at i;cases i
def AI QAA(a:X.ex=[])(d:s.ρ.Δ b=ε):X.U0.ρ.Δ b=ε:=by
 cases e:X.U0.ρ.Δ b with
 |ε=>rfl
 |δ o=>
  let⟨c,q⟩:=I.υ.Uf b o e (by rw[a];simp);rw[d]at q;cases q
def Kq(a:z_ P w H h)(d:h.Δ b=ε):H b=ε:=by
 cases e:H b with
 |ε=>rfl
 |δ u=>
  obtain⟨o,q⟩:∃o,h.Δ b<*o:=by
   let z:=a b u e;cases u with
   |QV=>let⟨_,R9,n,_,q⟩:=z;show(_,q)
   |Rn=>let⟨_,R9,_,o,q,_⟩:=z;show(_,q)
   |dK=>let⟨_,_,vs,_,o,c,f,q,_⟩:=z;show(_,q)
   |dT=>let⟨_,_,xs,_,o,c,f,q,_⟩:=z;show(_,q)
   |Uw=>let⟨o,c,f,t,q,_⟩:=z;show(o,q)
   |XE=>let⟨_,_,_,q,_⟩:=z;show(_,q)
   |own=>show z
   |xd=>let⟨g,⟨o,c,f,q,_⟩,_⟩:=z;show(o,q)
   |rng=>let⟨t,u,v,q⟩:=z;show(_,q)
   |frz=>show(_,z.1)
   |tbl=>show(_,z)
   |met=>show(_,z)
   |ext=>show z.2.1
  rw[d]at q;cases q
def LB(j:FF h e T SS a0 d)(f:h.S6 υ l):T∉pu l:=λc=>by
 let⟨k,vs,m,ts,_,_,_,_,_,i,a,_⟩:=j;let⟨o,b,g⟩:=Gu f T c;rw[i]at b;cases b;show g ts a
end
section
variable{X:Cx}{E:XK}
def uS(D:X.ex=[])QCa(F:X.QC.Vx<*X.QC.SU)(hE:∀C d H,E' C d H->E C d H){N:St}(I:f' X k N H s)(cx:z7 X.Ω X.w X.RL H s E' Y s'):Fr QAB X.A (Wn X.QC Y) (λ_ f=>z7 X.Ω X.w X.KK X.H₀ X.U0 E Y f) (λe' f=>z7 X.Ω X.w X.KK X.H₀ X.U0 E e' f) s':=by
 let⟨e,T,C,a0,dd,H',ζ,os,a,un,h,Z,dT,Q,R,W,q⟩:=cx;let⟨c,g,d,j,B⟩:=s';obtain ζ:B=s.os:=os;let I1:f' X k N H' {s with ρ:=c,WX:=g,Wz:=d,QT:=j}:=I.UZ (g':=g) (d':=d) (t':=j) (ch:=[]) un h a QAD;let x:c.S6 X.υ QBa:=Vw▸I1.RL;let fl:FlyingW (VS c QE5) QBa e C a0 c:=
  (λb o z=>XA _ z,Ta _ (!1),Gs x (by rw[<-Vw];show λb z=>Q9 _ (Q9 _ z)),W.traced (Ta _ (!1)))
 refine Ao (s:=(c,g,d,j,s.os)) (AT _ _) (wpAny_leaves_onW (s:=(c,g,d,j,s.os)) (by rw[<-Vw];show I.ok.Ud) F fl λh' u up dk=>?_);let l:∀b o,c.Δ b<*o->b∉[e,T]->b∉pu X.RL->h'.Δ b<*o:=λb o z U p=>u.1 b o (U3 _ z λn=>by
  rcases QY.mp n with y|n
  .exact U (by rw[y];simp)
  .rcases QY.mp n with y|n
   .exact U (by rw[y];simp)
   .exact p n)
 let⟨M,ab,m⟩:=I.flown (H':=H') (h1:=c) (h2:=h') (g':=g) (d':=d) (t':=j) (S:=[e,T]) un h (λb p=>by rcases QY.mp p with z|z;rw[z];show Z;rw[yl z];show dT)
  (λb p=>by rcases QY.mp p with z|z;rw[z];show Q;rw[yl z];show R) l up a
 let⟨T',P,i⟩:=n8 u.2.2.2;let v:s.ρ.Δ T'=ε/\H' T'=ε:=by
  cases z:c.Δ T' with
  |ε=>
   refine(3,Kq h z);cases y:s.ρ.Δ T' with
   |ε=>rfl
   |δ o=>
    let⟨o',r⟩:=un.Uf T' o y (!1);rw[z]at r;cases r
  |δ o=>
   by_cases t:T'=T
   .rw [t];show(dT,R)
   .let L:T'≠e:=by let⟨_,_,_,_,_,_,_,_,z,_⟩:=i;show z
    let J:=LB i M.RL;rw[U3 _ z (by simp[t,L,J])]at P;cases P
 let O:=M.υ;rw[D]at O;let⟨oe,_,_,_,g1,_,_,_,_,_,_,_,g2⟩:=W;show(e,T',C,a0,dd,H',1,M.os,a,O,m,AI I D Z,AI I D v.1,Q,v.2,i.up dk g1 g2,hE _ _ _ q)
end
section
variable{X:Cx}
end
abbrev OD QBQ QFT:Prop:=Ξ.W.excIn K C [.QU "ValueError",.QU "Exception",.QU "BaseException",.QU "object"] "ValueError.__new__"=π
section
variable{P:Id}{w:QW}{K:RG}{mg:QF->ψ η}{υ:RC}{N:γ QF}{RD:QF}{RF:TJ}{f:θ}{cd:η}{A:Qy}{KK:γ YT}{s:ω}{H:Hp}{E:XK}
def CG(b:∀C d H,e C d H->E C d H):D0 QB1 (aP QB1 P w K mg υ N RD RF f cd A KK s H E) e:=λa g j h i s' I c=>uS (X:=aP QB1 P w K mg υ N RD RF f cd A KK s H E) ζ ζ ζ b I c
end
def pd.okX{P:Id}{w:QW}{K:RG}{st:Rb}(F:pd K x RD st f h)(S:p_ N ps (hI st))(TL:∀vs H Q E,d vs H Q E->vs.β=ps.β)(a:∀(VA:η)(A:Qy)(KK:γ YT)(s:ω)(H:Hp)(vs:γ V)(Q:VK)(E:XK),ak k (A.VU (XG RD (hI st) s⁻¹ f VA))->d vs H Q E->
   ∃t,Bd (aP (z7 P w) P w K mg υ N RD (hI st) f VA A KK s H E) (n7 st) t/\t {nx:=λ_ H'=>Q .Uv H',rt:=Q} (WJ N vs) H):aa P w K mg υ (z7 P w) (k+1) f h ps d:=by
 let⟨j,i,kV,Tg,pm,an,VA,ct,e,ζ,lk,c⟩:=F.ex;show ll lk c S TL λA KK s H vs Q E g b=>a VA A KK s H vs Q E g b
abbrev A' QKU QBP QBQ QAs(υ:RC)QEh QK4 QFx(sp:Sp):Prop:=
 ∃(f:θ)(fd:TY),mg x=δ QAg/\Vz K QAg=π/\yx K fd ps []/\aa P w K mg υ QB1 k f fd ps sp
def Ct{X:Cx}QGA(D:A' X.Ω X.w X.K X.mg X.υ x k ps d)(g:ak k X.A)(hp:D0 (z7 X.Ω X.w) X E)(j:PA X (e::a) t)(h:Gl X x>>>4)(c:((x==("__debug__":QF))=ν)>>>0)(i:QEC>>>4)QHB:PE X (.T0 QCU (e::a) [] Ri) (BE d [] E t):=by
 let⟨f,m,h1,h2,l,F⟩:=D;show o8 F g h h1 h2 l .S5 hp j c i b
abbrev eZ(e:θ)(C:η)(d:ψ θ):HO:=.ext λh=>∃o,h.Δ e=δ o/\o.SS=C/\QHx/\∀x,d<*x->mu o=QFp
instance Cx.X_ QDn(v:η):Cx:={X with A:=X.A.mark QF1,XV:=ν,xe:=λ_ _=>Rk}
section
variable{X:Cx}{QE:γ QA_}{σ:St}{H:Hp}{s:ω}
def f'.X_ QAA(v:η):f' QHD QE σ H s:=
 ((I.ok.Zb,I.ok.Ut,I.ok.glob,I.ok.blt,I.ok.Zt,I.ok.Tp,I.ok.Vh,I.ok.cab,λz=>Ψ.noConfusion z,I.ok.Ud,I.ok.stk,I.ok.exf,I.ok.bs,I.ok.bsz,I.ok.noex,I.ok.exfs,I.ok.ZM,I.ok.frf),I.os,I.V9,I.υ,I.loc,I.SF,I.SB,I.X2,I.pin,I.S8,I.TL)
def f'.unheld(I:f' QHD QE σ H s)(ok:X.Ok):f' X QE σ H s:=(ok,I.os,I.V9,I.υ,I.loc,I.SF,I.SB,I.X2,I.pin,I.S8,I.TL)
def f'.track QAA(l:H e=ε)(m:X.U0.ρ.Δ e=ε)(i:X.QC.SU≠e)(j:∀x c,X.QC.UI.ς x<*c->c≠e)(h:∀p∈X.pn++QE,p.1≠e)(k:φ s.ρ)(a:∃o,s.ρ.Δ e<*o)(st:∀h1 h2:RC,φ h1->(∀o,h1.Δ e<*o->h2.Δ e<*o)->φ h2):f' X QE σ (QO H e (.ext φ)) s:=by
 let d:∀b u,H b<*u->b≠e:=λb u q=>f_ q l;let g:∀b o,X.U0.ρ.Δ b<*o->b≠e:=λb o q z=>by rw[z,m]at q;cases q
 refine(I.ok,I.os,I.V9,(I.υ.UB,I.υ.YW,λb o q n f=>?_,I.υ.Uf,λb xs q=>?_,λb o u q=>?_,λb ps q=>?_),I.loc,I.SF,3,λx c q=>?_,λp hp=>?_,λb u q=>?_,I.TL)
 .rw [a_ (g b o q)];show I.υ.SB b o q n f
 .let z:=I.υ.Uh b xs q;rw[a_ (d b _ z)];show z
 .let z:=I.υ.ZO b o u q;rw[a_ (d b _ z)];show z
 .obtain ⟨Xi,z⟩:=I.υ.ZJ b ps q;show(Xi,by rw[a_ (d b _ z)];show z)
 .rw [a_ i];show I.SB
 .rw [a_ (j x c q)];show I.X2 x c q
 .obtain ⟨w,v,t⟩:=I.pin p hp;show(w,by rw[a_ (h p hp)];show v,t)
 .by_cases f:b=e
  .subst f;rw[hJ]at q;cases q;show(k,a,st)
  .rw [a_ f]at q;show(I.S8 b u q).Wv (λ_ _ _ r=>r) (λc r=>by rw[a_ (d c _ r)];show r) λc xs r=>by rw[a_ (d c _ r)];show r
def f'.reframed{e:St}QAA(f:Tb X.QC.SU s.ρ h')(ns:h'.Ns X.QC.SU k)(lk:∀QBB QEh(v:V),X.N[i]?<*x->e[i]?<*δ v->HA X.QC.RF x->∃u,ae v u/\Nt X.QC h' k x u)(w:e.β=X.N.β):f' X QE e H {s with ρ:=h',QT:=t'}:=by
 let g:∀b o,X.U0.ρ.Δ b<*o->b≠X.QC.SU:=λb o q=>RM (QD (lt_size q) I.ok.Zt);let j:∀b u,H b<*u->b≠X.QC.SU:=λb u q=>f_ q I.SB;refine(I.ok,I.os,I.V9,(λb o q n h a=>(f.2 b (g b o q)).ο (I.υ.UB b o q n h a),λb o q n h a=>?_,I.υ.SB,λb o q a=>?_,I.υ.Uh,I.υ.ZO,I.υ.ZJ),(k,ns,lk),λx c q=>?_,I.SB,I.X2,λp hp=>?_,λb u q=>?_,w)
 .obtain ⟨m,z⟩:=I.υ.YW b o q n h a;show(m,(f.2 b (g b o q)).ο z)
 .obtain ⟨t,z⟩:=I.υ.Uf b o q a;show(t,(f.2 b (g b o q)).ο z)
 .obtain ⟨v,o,z,d⟩:=I.SF x c q;show(v,o,(f.2 c (I.cne x c q)).ο z,d)
 .obtain ⟨B,A,l,y⟩:=I.pin p hp;show((f.2 p.1 l).ο B,A,l,y)
 .refine (I.S8 b u q).Wv (λc v a r=>(f.2 c ?_).ο r) (λ_ r=>r) λ_ _ r=>r;rcases a with ζ|a
  .exact j c u q
  .exact j c _ a
def f'.goes2 QAA(g:X.N.R7)(B:X.N[i]?<*n)(y:X.QC.Sy n<*.local)(q:∀s',Tb X.QC.SU s.ρ s'.ρ->s'.WX=s.WX->f' X QE (σ.Uw i ε) H s'->Q () s'):Fr QAB A (do bindName X.QC n .ε;unbindBehindTheSuite X.QC n Ri) Q E s:=by
 let⟨m,p,t⟩:=id I.loc;refine wpAny_nameGoes_keeps y p (by rw[I.ok.Ut];rfl) λh' v ns b=>q _ b ζ (I.reframed b ns (λj x w f hw k=>?_) (by rw[γ.length_set];show I.TL));let a:j≠i:=λz=>by
  subst z;let e:j<σ.β:=by rw[I.TL];show(l' f).1
  rw[γ.getElem?_set_self e]at hw;cases hw
 rw[γ.getElem?_set_ne QIi]at hw;let d:x≠n:=λz=>a (AO g f (by rw[z];show B));let⟨u,r,l⟩:=t j x w f hw k;refine(u,r,3);rcases l with⟨k1,k2⟩|⟨k1,c,k2,o,k3,h⟩
 .exact .RN (k1,by change (if x=n then v else m x)<*u;rw[Cl d];show k2)
 .exact .Rh (k1,c,k2,o,(b.2 c (I.cne x c k2)).ο k3,h)
end
def oz{Ec:XK}{X:Cx}{l:γ QA_}{Y:St}QHV(hex:X.ex=[])QCa(as:X.QC.Vx<*X.QC.SU)(nd:X.N.R7)(hi:X.N[i]?<*n)QGp(hl:C6 X.QC.RF n)QHE(hg:Gl X x)(hm:X.mg x<*.ξ R)(go:∀e C d H' Z,Ec C d H'->H' e=ε->X.U0.ρ.Δ e=ε->f' X l (Y.Uw i (δ QA8)) (QO H' e (eZ e C d)) Z->Fr QAB QHy (execs QGJ X.QC) (λf s6=>Fr QAB X.A (do bindName X.QC n .ε;unbindBehindTheSuite X.QC n E) (λ_ s7=>Qf f s7) X.xe s6) (AsSuiteRaised QAB QHy X.QC n E (Xh QAB QHy X.QC (cameBackBy QAB X.A X.QC X.xe))) Z)(I:f' X l Y H s)(cx:z7 X.Ω X.w X.RL H s (λC d H'=>exmOne X.K C (.ξ R)=δ π/\Ec C d H') ev s')(hd:(x==("__debug__":QF))=ν):Fr QAB X.A (Xp ev X.QC) (λ_ s2=>Fr QAB X.A (W_ ev ε) (λ_ s3=>Fr QAB X.A (handleBy ev X.QC [.ExceptHandler QGx (δ n) QGJ E]) Qf X.xe s3) X.xe s2) X.xe s':=by
 let⟨e,T,C,a0,dd,H',ζ,os,F,un,P,de,dT,he,hT,fT,B,q⟩:=cx;let⟨D,g,d,u,an⟩:=s';obtain ζ:an=s.os:=os;let I1:f' X l Y H' {s with ρ:=D,WX:=g,Wz:=d,QT:=u}:=I.UZ (g':=g) (d':=d) (t':=u) (ch:=[]) un P F QAD;let ag:D.S6 X.υ QBa:=Vw▸I1.RL;let fl:FlyingW (VS D QE5) QBa e C a0 D:=
  (λb o z=>XA _ z,Ta _ (!1),Gs ag (by rw[<-Vw];show λb z=>Q9 _ (Q9 _ z)),fT.traced (Ta _ (!1)))
 let seen:∀QJu,(VS D QE5).StaysIn h'->D.Yo h'->f' X l Y H' {s with ρ:=h',WX:=g,Wz:=d,QT:=u}:=λh' fk up=>
  (I.flown (H':=H') (h1:=D) (h2:=h') (g':=g) (d':=d) (t':=u) (S:=[e,T]) un P (λb Q=>by rcases QY.mp Q with z|z;rw[z];show de;rw[yl z];show dT)
   (λb Q=>by rcases QY.mp Q with z|z;rw[z];show he;rw[yl z];show hT) (λb o z hS Q=>fk b o (U3 _ z λj=>by
    rcases QY.mp j with y|j
    .exact hS (by rw[y];simp)
    .rcases QY.mp j with y|j
     .exact hS (by rw[y];simp)
     .exact Q j)) up F).1
 refine Ao (s:=(D,g,d,u,s.os)) (BP _ _) (wpAny_looks_onW (s:=(D,g,d,u,s.os)) (by rw[<-Vw];show I.ok.Ud) as fl λh2 aM O aT=>Ao (s:=(h2,g,d,u,s.os)) (Ap _ _) (wpAny_landsW (s:=(h2,g,d,u,s.os)) aM λh3 L M aS=>?_));let I3:=seen h3 L.1 (O.ο M);let⟨oe,ar,aB⟩:=L.Uf;let ty:Looks QAB h3 (typeOf QA8) C:=aB▸(Looks.ld ar).andThen .now;refine wpAny_handleBy_cons QDl (!5);refine(Ξ.W.exm_one I3.Xb ty B).here ?_;refine codeAny_handlers_suite_as (Ao (s:=(h3,g,d,u,s.os)) (Ap _ _) (lands_againW (s:=(h3,g,d,u,s.os)) L λh4 U ab aN=>?_));let I4:=seen h4 U.1 ((O.ο M).ο ab);let⟨o4,v4,J,aC,az,_⟩:=U.first;let t:∀b o,s.ρ.Δ b<*o->b≠e:=λb o z y=>by rw[y,de]at z;cases z
 let aA:∀x,dd<*x->mu o4=QFp:=λx z=>by
  let⟨ap,_,_,_,g1,_,_,_,_,_,_,_,g2⟩:=fT;let⟨o',e1,e2⟩:=((aT.ο aS).ο aN) e ap (cr g1);rw[cr J]at e1;cases e1;show e2.ο (g2 x z)
 let I5:=I4.track (e:=e) (φ:=λh=>∃o,h.Δ e=δ o/\o.SS=C/\QHx/\∀x,dd<*x->mu o=QFp) he (AI I hex de) (by let⟨m,⟨o,es,ep,z,_⟩,_⟩:=I.loc;show t _ o z) (λy c z=>by let⟨v,o,r,_⟩:=I.SF y c z;show t c o r)
  (λp hp=>t p.1 p.2 (I.pin p hp).1) (o4,J,aC,(v4,az),aA) (o4,J) λa b aH k=>by let⟨o,y,z⟩:=aH;show(o,k o y,z)
 show Al I5 nd hi hl (v:=.ξ e) ζ (λZ I6=>go e C dd H' Z q he (AI I hex de) I6) hf
section
variable{X:Cx}{QE:γ QA_}{σ:St}{H:Hp}{s:ω}{x n y fx:QF}{R:θ}{i j k:χ}{np hpos Ri p cp yp ap:UL}{b0:Rb}{suite:γ Rb}{ts:TS}{D:ZA}{ps:γ QF}{sp:Sp}{e:SH}{es:γ SH}{t:TA}
end
section
variable{X:Cx}
end
end L2
namespace L2
open PySem.Spec PySem.W PyProof.Rows Builtin Builtin.ObjectAttr Builtin.Getset_descriptor
structure fE QBQ QFT:Prop where
 ga:TR K QAr "__getattribute__"<*δ (.RJ "BaseException.__getattribute__")
 noHook:TR K QAr "__getattr__"<*ε
 SS:TR K QAr "__class__"<*δ (.RJ "object.__class__")
 Yj:specialIn K (.RJ "object.__class__") "__get__"<*δ (.RJ "getset_descriptor.__get__")
 tk:takesIn K (.RJ "object.__class__")<*π
 Yd:mroIn K C (.QU "object")<*π
 exc:mroIn K C (.QU "BaseException")<*π
 isC:isClsIn K C=π
section
variable{Ω:Id}{w:QW}{A:Qy}{E:η->ω->Prop}{s:ω}{K:RG}{e C:θ}
end
end L2
namespace RA
abbrev am QA5:LN->LN->Ψ
 |c::a,d::b=>if c=d then am L a b else decide (L.QP c<L.QP d)
 |_,_=>ν
abbrev u6(L a b:LN):Ψ:=if a.β≠b.β then decide (a.β<b.β)else am L a b
def xL QA5{a b:LN}(f:a[i]?<*c)(e:b[i]?<*d):am L (a.Th i) (b.Th i)=if c=d then am L (a.Th (i+1)) (b.Th (i+1))else decide (L.QP c<L.QP d):=by
 let⟨h1,h⟩:=l' f;let⟨h2,g⟩:=l' e;rw[γ.U4 h1,γ.U4 h2,h,g];rfl
section
variable{κ:Type}[Sb κ]
abbrev aQ(acc:γ κ):γ κ->γ κ
 |[]=>acc
 |k::ks=>aQ (if k∈acc then acc else acc++[k]) ks
abbrev u5 QIA:γ κ:=aQ [] ks
abbrev ax QIA:LN:=ks.Q_ λk=>(u5 ks).QP k
def ig(k:κ):∀(ks a:γ κ),aQ a QGy=if k∈aQ a ks then aQ a ks else aQ a ks++[k]
 |[],_=>rfl
 |_::ks,_=>ig k ks _
def ly:∀QKs(k:κ),k∈b\/k∈ks↔k∈aQ b ks
 |[],b,k=>by simp[aQ]
 |a::ks,b,k=>by
  change _↔k∈aQ (if a∈b then b else b++[a]) ks;rw[<-ly ks];by_cases h:a∈b
  .rw [IO h,QY];constructor
   .rintro (x|rfl|x)
    .exact .RN x
    .exact .RN h
    .exact .Rh x
   .rintro (x|x)
    .exact .RN x
    .exact .Rh (.Rh x)
  .rw [Cl h,QY,Rp,To];constructor
   .rintro (x|x|x)
    .exact .RN (.RN x)
    .exact .RN (.Rh x)
    .exact .Rh x
   .rintro ((x|x)|x)
    .exact .RN x
    .exact .Rh (.RN x)
    .exact .Rh (.Rh x)
def Wi QGl{k:κ}:k∈u5 ks↔k∈ks:=by
 rw[u5,<-ly];simp
def Aq QIA(k:κ):u5 QGy=if k∈u5 ks then u5 ks else u5 ks++[k]:=ig k ks []
def lz:∀QKs,(aQ b ks).β≤b.β+ks.β
 |[],_=>by simp[aQ]
 |a::ks,b=>by
  let h:=lz ks (if a∈b then b else b++[a]);let h2:(if a∈b then b else b++[a]).β≤b.β+1:=by
   split
   .exact Ge
   .simp
  change (aQ (if a∈b then b else b++[a]) ks).β≤_;rw[RY];lia
def pR QIA:(u5 ks).β≤ks.β:=by
 have:=lz ks [];simpa[u5]using this
def De{l:γ κ}{a b:κ}(c:a∈l)(h:l.QP a=l.QP b):a=b:=by
 let h1:l.QP a<l.β:=QS c;let h2:l.QP b<l.β:=Iv h1 h
 let e:=TF h1;let d:=TF h2;rw[<-e,<-d];congr 1
def HG{l:γ κ}{c:κ}:∀QEH,l[i]?<*c->l.QP c≤i:=by
 induction l with
 |S5=>intro i e;simp at e
 |Rc a l d=>
  intro i e;by_cases b:a=c
  .subst b;rw[γ.idxOf_cons_self];show RO _
  .cases i with
   |Xe=>simp at e;show QL e b
   |Wu i=>
    let h1:=d (i:=i) QCu;let h2:(a::l).QP c=l.QP c+1:=by
     rw[Y4,RX.Sz b];rfl
    lia
def Jv QIA:(ax ks).β=ks.β:=by simp[ax]
def Jw QGl QEH{k:κ}(h:ks[i]?<*k):(ax ks).LT i 0=(u5 ks).QP k:=by
 rw[nt,ax,na,h];rfl
def NG QGl{x:χ}(h:x∈ax ks):x<ks.β:=by
 let⟨k,a,ζ⟩:=TZ.mp h;show QD (QS (Wi.Sz a)) (pR ks)
def HH QGl{i j:χ}{a b:κ}(c:ks[i]?<*a)(d:ks[j]?<*b):(ax ks).LT i 0=(ax ks).LT j 0↔a=b:=by
 rw[Jw c,Jw d];constructor
 .exact De (Wi.Sz (Ab c))
 .rintro ζ;rfl
def Bs{l m:γ κ}{a:κ}(h:a∈l):(l++m).QP a=l.QP a:=by
 rw[γ.idxOf_append,IO h]
def pG{l:γ κ}{a:κ}(h:a∉l):(l++[a]).QP a=l.β:=by
 rw[γ.idxOf_append,Cl h];simp
def q9{q:Type}[Sb q]:∀QCm QIA(c:γ q),ks.β=n->c.β=n->
  (∀(i j:χ)(a b:κ)(f x:q),ks[i]?<*a->ks[j]?<*b->c[i]?<*f->c[j]?<*x->(a=b↔f=x))->
  (u5 ks).β=(u5 c).β/\∀QBB(a:κ)(f:q),ks[i]?<*a->c[i]?<*f->(u5 ks).QP a=(u5 c).QP f:=by
 intro n;induction n with
 |Xe=>
  intro ks c h1 h2 _;rw[TB]at h1 h2;subst h1 h2;show(1,λi a f h=>by simp at h)
 |Wu n D=>
  intro ks c h1 h2 hp;obtain⟨k,l,ζ⟩:∃k l,ks=l++[k]:=(ks.getLast (by intro z;rw[z]at h1;cases h1),ks.VG,(γ.Te _).QI);obtain⟨k',r,ζ⟩:∃k l,c=l++[k]:=(c.getLast (by intro z;rw[z]at h2;cases h2),c.VG,(γ.Te _).QI);let l1:l.β=n:=by simpa using h1
  let l2:r.β=n:=by simpa using h2
  let s:∀{w:Type}{l:γ w}{k:w}QEH{a:w},l[i]?<*a->(l++[k])[i]?<*a:=λ{w l k i a}e=>by
   rw[QK (l' e).1];show e
  let p:(l++[k])[n]?<*k:=by rw[QM (GY l1),l1];simp
  let d:(r++[k'])[n]?<*k':=by rw[QM (GY l2),l2];simp
  let⟨A,y⟩:=D l r l1 l2 λi j a b f x m o F E=>hp i j a b f x (s m) (s o) (s F) (s E);let C:k∈u5 l↔k'∈u5 r:=by
   rw[Wi,Wi];constructor
   .intro t;let⟨i,v⟩:=Rl.mp t;let g:i<r.β:=by have:=(l' v).1;show IR this l1 l2
    let e:=(hp i n k k r[i] k' (s v) p (s (j_ g)) d).mp ζ;rw[<-e];show Rv g
   .intro t;let⟨i,v⟩:=Rl.mp t;let g:i<l.β:=by have:=(l' v).1;lia
    let e:=(hp i n l[i] k k' k' (s (j_ g)) p (s v) d).Sz ζ;rw[<-e];show Rv g
  let split:∀QEH{a:κ}{f:q},(l++[k])[i]?<*a->(r++[k'])[i]?<*f->(l[i]?=δ a/\r[i]?<*f)\/(i=n/\a=k/\f=k'):=λ{i a f}m o=>by
   by_cases v:i<n
   .rw [QK (!6)]at m o;show .RN (m,o)
   .have:i=n:=by
     have:=(l' m).1;simp at this;lia
    subst this;rw[p]at m;rw[d]at o;show .Rh (1,(ψ.δ.Tp m).QI,(ψ.δ.Tp o).QI)
  rw[Aq,Aq];by_cases t:k∈u5 l
  .let u:=C.mp t;rw[IO t,IO u];refine(A,λi a f m o=>?_);rcases split m o with⟨m,o⟩|⟨rfl,ζ,ζ⟩
   .exact y i a f m o
   .obtain ⟨j,B⟩:=Rl.mp (Wi.mp t);let g:j<r.β:=by have:=(l' B).1;show IR this l1 l2
    let e:=(hp j i a a r[j] f (s B) p (s (j_ g)) d).mp ζ;show y j a f B (by rw[<-e];show j_ g)
  .let u:k'∉u5 r:=λz=>t (C.Sz z);rw[Cl t,Cl u];refine(by simp[A],λi a f m o=>?_);rcases split m o with⟨m,o⟩|⟨rfl,ζ,ζ⟩
   .rw [Bs (Wi.Sz (Ab m)),Bs (Wi.Sz (Ab o))];show y i a f m o
   .rw [pG t,pG u,A]
def Kr{d:Type}[Sb d]QGl{c:γ d}(l:ks.β=c.β)(hp:∀(i j:χ)(a b:κ)(k g:d),ks[i]?<*a->ks[j]?<*b->c[i]?<*k->c[j]?<*g->(a=b↔k=g)):ax ks=ax c:=by
 let⟨_,h⟩:=q9 c.β ks c l ζ hp;refine Vt λi=>?_;by_cases m:i<ks.β
 .let f:ks[i]?<*ks[i]:=j_ m;let e:c[i]?<*(c[i]'(Fi m l)):=j_ (Fi m l);rw[ax,ax,na,na,f,e];show Qw δ (h i _ _ f e)
 .rw [T8 (by rw[Jv];show Ck m),T8 (by rw[Jv];show II l m)]
end
abbrev gY QC9(V7:LN)QBB:χ×LN:=(V7.LT i 0,(W.LT i []).Q_ λg=>V7.LT g 0,)
abbrev Fa QC9(V7:LN):γ (χ×LN):=(γ.Re W.β).Q_ (gY W V7)
abbrev Rd QC9 QAm:χ->LN
 |0=>ax B
 |k+1=>ax (Fa W QDe)
def LD(h:i<W.β):(Fa W a)[i]?<*gY W a i:=by
 rw[Fa,na,SY h];rfl
def Dg QC9(a:LN):(Fa W a).β=W.β:=by simp[Fa]
def Dh{L:LN}{W:LL}QHu QAt:∀k,(Rd W B k).β=W.β
 |0=>by rw[Rd,Jv,h.bl]
 |k+1=>by rw[Rd,Jv,Dg]
def ca QAt(a:x∈Rd W B k):x<W.β:=by
 cases k with
 |Xe=>rw[<-h.bl];show NG a
 |Wu k=>rw[<-Dg W QDe];show NG a
abbrev m8 QC9 QAm(k r:χ):χ:=(Rd W B k).LT r 0
def Ks QAt(d:r<W.β)(c:s<W.β):m8 W B 0 r=m8 W B 0 s↔B.LT r ν=B.LT s ν:=by
 let b:B[r]?<*(B[r]'(by rw[h.bl];show d)):=j_ _;let a:B[s]?<*(B[s]'(by rw[h.bl];show c)):=j_ _;rw[m8,m8,Rd,HH b a,nt,nt,b,a];rfl
def DE QAt(a:r<W.β):(W.LT r []).β=L.β/\∀x∈W.LT r [],x<W.β:=by
 let e:W.LT r []=W[r]:=by rw[nt,j_ a];rfl
 rw[e];show h.Yc _ (Rv a)
abbrev UU QC9(r i:χ):χ:=(W.LT r []).LT i 0
def Cj QAt(a:r<W.β)(b:i<L.β):UU W r i<W.β:=by
 let⟨h1,h2⟩:=DE h a;rw[UU,nt,j_ (BW b h1)];show h2 _ (Rv _)
def Gv QA5 QC9(r c:χ):zl L W r c=UU W r QBS:=ζ
def Fb QAt(b:r<W.β)(a:s<W.β):m8 W B (k+1) r=m8 W B (k+1) s↔m8 W B k r=m8 W B k s/\∀i<L.β,m8 W B k (UU W r i)=m8 W B k (UU W s i):=by
 rw[m8,m8,Rd,HH (LD b) (LD a),gY,gY,Yq.mk.injEq];let⟨f,_⟩:=DE h b;let⟨d,_⟩:=DE h a;refine and_congr Iff.rfl (λe i c=>?_,λe=>Vt λi=>?_)
 .have:=Qw (λl=>l[i]?) e;simp only[na]at this;rw[j_ (BW c f),j_ QJW]at this;rw[UU,UU,nt (l:=W.LT r []),nt (l:=W.LT s []),j_ (BW c f),j_ QJW];show ψ.δ.Tp this
 .by_cases c:i<L.β
  .have:=e i c;rw[UU,UU,nt (l:=W.LT r []),nt (l:=W.LT s []),j_ (BW c f),j_ QJW]at this;rw[na,na,j_ (BW c f),j_ QJW];show Qw δ this
  .rw [na,na,T8 (GP f c),T8 (GP d c)]
def d7 QAt(f:r<W.β)(d:s<W.β):∀QIJ,j≤k->m8 W B k r=m8 W B k s->m8 W B j r=m8 W B j s:=by
 induction k with
 |Xe=>intro j b e;rw[χ.le_zero.mp b];show e
 |Wu k c=>
  intro j b e;by_cases a:j=k+1
  .subst a;show e
  .exact c (!6) ((Fb h f d).mp e).1
def Kt{L:LN}{W:LL}QHu QAt:∀{k:χ}{w:LN}{r s:χ},r<W.β->s<W.β->w.β≤k->QA7->m8 W B k r=m8 W B k s->B.LT (Sl L W r w) ν=B.LT (Sl L W s w) ν
 |k,[],r,s,b,a,_,_,e=>(Ks h b a).mp (d7 h b a (RO k) e)
 |0,c::w,r,s,b,a,f,_,e=>by simp at f
 |k+1,c::w,r,s,b,a,f,hw,e=>by
  let g:L.QP c<L.β:=QS (hw c (!1));show Kt h (k:=k) (w:=w) (Cj h b g) (Cj h a g) (by simpa using f) (λd i=>hw d (by simp[i])) (((Fb h b a).mp e).2 _ g)
def qa{W:LL}QHu{k:χ}(e:Rd W B (k+1)=Rd W B k):∀j,Rd W B (k+j)=Rd W B k
 |0=>rfl
 |j+1=>by
  change ax (Fa W (Rd W B (k+j)))=_;rw[qa e j];show e
def pz QAt(e:Rd W B (k+1)=Rd W B k)(q:m8 W B k r=m8 W B k s)(b:r<W.β)(a:s<W.β)QHW:m8 W B j r=m8 W B j s:=by
 by_cases c:j≤k
 .exact d7 h b a c q
 .have:=qa e (j-k);rw[show k+(j-k)=j by lia]at this;rw[m8,m8,this];show q
abbrev jN QCm(V7:LN):χ:=(γ.Re n).countP λx=>decide (∃y,y<x/\V7.LT y 0=V7.LT x 0)
def LF{f:Type}{p q:f->Ψ}:∀{l:γ f},(∀x∈l,p x=π->q x=π)->(∃x∈l,q x=π/\p x=ν)->l.countP p<l.countP q
 |[],_,⟨x,b,_⟩=>by simp at b
 |a::l,e,⟨x,b,g,hp⟩=>by
  let h:l.countP p≤l.countP q:=γ.countP_mono_left λy c=>e y (by simp[c]);rw[γ.countP_cons,γ.countP_cons];rcases QY.mp b with ζ|b
  .rw [g,hp];simp;show Dx h
  .have:=LF (l:=l) (λy c=>e y (by simp[c])) (x,b,g,hp);let h1:=e a (!1);cases d:p a with
   |ν=>simp;lia
   |π=>rw[h1 d];simp;omega
def jM QAt(e:Rd W B (k+1)≠Rd W B k):jN W.β QFq<jN W.β QDe:=by
 refine LF (λx o hp=>?_) ?_
 .let o:=Rr.mp o;let⟨y,D,f⟩:=SW hp;show RI (y,D,((Fb h (U1 D o) o).mp f).1)
 .refine Z8.WC λF=>e ?_;let A:∀s,s<W.β->∀r,r<s->m8 W B k r=m8 W B k s->m8 W B (k+1) r=m8 W B (k+1) s:=by
   intro s;induction s using χ.strongRecOn with
   |_ s C=>
    intro d r g q;refine Z8.WC λp=>F (s,Rr.Sz d,RI (r,g,q),QJ ?_);rintro⟨z,hz,l⟩;let l:m8 W B (k+1) z=m8 W B (k+1) s:=l;let E:=((Fb h (U1 hz d) d).mp l).1;rcases V6 r z with c|c|c
    .exact p ((C z hz (U1 hz d) r c (q.ο E.QI)).ο l)
    .subst c;show p l
    .exact p ((C r g (U1 g d) z c (E.ο q.QI)).QI.ο l)
  let m:∀r s,r<W.β->s<W.β->(m8 W B (k+1) r=m8 W B (k+1) s↔m8 W B k r=m8 W B k s):=λr s g d=>by
   refine(λq=>((Fb h g d).mp q).1,λq=>?_);rcases V6 r s with c|c|c
   .exact A s d r c q
   .rw [c]
   .exact (A r g s c q.QI).QI
  cases k with
  |Xe=>
   change ax (Fa W (Rd W B 0))=ax B;refine Kr (by rw[Dg,h.bl]) λi j a b I H f n w v=>?_;let u:i<W.β:=by have:=(l' f).1;rwa [Dg]at this
   let t:j<W.β:=by have:=(l' n).1;rwa [Dg]at this
   rw[<-HH f n,<-HH w v];show m i j u t
  |Wu k=>
   change ax (Fa W QFq)=ax (Fa W QDe);refine Kr (by rw[Dg,Dg]) λi j a b I H f n w v=>?_;let u:i<W.β:=by have:=(l' f).1;rwa [Dg]at this
   let t:j<W.β:=by have:=(l' n).1;rwa [Dg]at this
   rw[<-HH f n,<-HH w v];show m i j u t
abbrev ba QC9 QAm(k r s:χ):γ Ψ:=((W.LT r []).X6 (W.LT s [])).Q_ λp=>decide (m8 W B k p.1=m8 W B k p.2)
abbrev T7 QC9 QAm(k r s:χ):χ:=(ba W B k r s).QP ν
abbrev pw QA5 QC9 QAm:χ->χ->χ->LN
 |0,_,_=>[]
 |k+1,r,s=>L.LT QAn 0::pw L W B k QJ5 QJ6
def Ku QAt(b:r<W.β)(a:s<W.β)(c:i<L.β):(ba W B k r s)[i]?<*decide (m8 W B k (UU W r i)=m8 W B k (UU W s i)):=by
 let⟨f,_⟩:=DE h b;let⟨d,_⟩:=DE h a;rw[ba,na,UU,UU,nt (l:=W.LT r []),nt (l:=W.LT s [])];let e:((W.LT r []).X6 (W.LT s []))[i]?<*((W.LT r [])[i]'(BW c f),(W.LT s [])[i]' QJW,):=by
  rw[γ.XU];show(j_ _,j_ _)
 rw[e,j_ (BW c f),j_ QJW];rfl
def LG QAt(b:r<W.β)(a:s<W.β):(ba W B k r s).β=L.β:=by
 let⟨d,_⟩:=DE h b;let⟨c,_⟩:=DE h a;rw[ba,j',γ.length_zip];lia
def kn QAt(d:r<W.β)(c:s<W.β)(l:m8 W B (k+1) r≠m8 W B (k+1) s)(n:m8 W B k r=m8 W B k s):T7 W B k r s<L.β/\m8 W B k QJ5≠m8 W B k QJ6/\∀i<T7 W B k r s,m8 W B k (UU W r i)=m8 W B k (UU W s i):=by
 let m:ν∈ba W B k r s:=by
  refine Z8.WC λj=>l ((Fb h d c).Sz (n,λi f=>Z8.WC λq=>j ?_));have:=Ku h (k:=k) d c f;rw[QJ q]at this;show Ab this
 let a:T7 W B k r s<(ba W B k r s).β:=QS m;let g:T7 W B k r s<L.β:=by rw[LG h d c]at a;show a
 refine(g,3,λi f=>?_)
 .let p:=TF a;let b:=Ku h (k:=k) d c g;rw[j_ a]at b;let o:decide (m8 W B k QJ5=m8 W B k QJ6)=ν:=by
   rw[<-ψ.δ.Tp b];show p
  show of_decide_eq_false o
 .let b:=Ku h (k:=k) d c (i:=i) (GQ f g);refine Z8.WC λq=>?_;rw[QJ q]at b;have:(ba W B k r s).QP ν≤i:=by
   let e:=(l' b);let⟨h1,h2⟩:=e;show HG b
  let t:T7 W B k r s≤i:=this;lia
def o6{L:LN}{W:LL}QHu QAt:∀{k r s:χ},r<W.β->s<W.β->m8 W B k r≠m8 W B k s->(∀j<k,m8 W B j r=m8 W B j s)->
  (pw L W B k r s).β=k/\(∀c∈pw L W B k r s,c∈L)/\B.LT (Sl L W r QGa) ν≠B.LT (Sl L W s QGa) ν/\
  ∀u:LN,QAL->B.LT QJ7 ν≠B.LT QJ8 ν->u6 L u QGa=ν
 |0,r,s,o,n,z,_=>by
  refine(1,λc l=>by simp[pw]at l,λe=>z ((Ks h o n).Sz e),λu _ _=>?_);change u6 L u []=ν;unfold u6;by_cases m:u.β=0
  .rw [TB.mp m];rfl
  .rw [IO (by simpa using m)];simp
 |k+1,r,s,o,n,z,F=>by
  let⟨q,A,f⟩:=kn h o n z (F k IZ);let O:=Cj h o q;let N:=Cj h n q;let D:∀j<k,m8 W B j QJ5=m8 W B j QJ6:=λj P=>((Fb h o n).mp (F (j+1) (Iz P))).2 _ q;let⟨i1,i2,J,I⟩:=o6 h O N A D;let i:L.LT QAn 0=L[T7 W B k r s]:=by rw[nt,j_ q];rfl
  let b:L.QP QGz=T7 W B k r s:=by rw[i];show HF h.lt.nd q
  let w:L.LT QAn 0∈L:=by rw[i];show Rv q
  let n1:zl L W r QGz=UU W r QAn:=by rw[Gv,b]
  let H:zl L W s QGz=UU W s QAn:=by rw[Gv,b]
  refine(by rw[pw,RY,i1],λc l=>?_,3,λu m v=>?_)
  .rw [pw,QY]at l;rcases l with ζ|l
   .exact w
   .exact i2 c l
  .change B.LT (Sl L W (zl L W r QGz) (pw L W B k _ _)) ν≠B.LT (Sl L W (zl L W s QGz) (pw L W B k _ _)) ν;rw[n1,H];show J
  .let g:k+1≤u.β:=χ.lt_of_not_le λa=>v (Kt h o n a m (F k IZ));let y:(pw L W B (k+1) r s).β=k+1:=by rw[pw,RY,i1]
   cases u with
   |S5=>simp at g
   |Rc c u=>
    let l:=m c (!1);let x:L.QP c<L.β:=QS l;by_cases a:(c::u).β=k+1
    .let hpu':B.LT (Sl L W QJ9 u) ν≠B.LT (Sl L W (zl L W s c) u) ν:=v;let t:u.β=k:=by simpa using a
     let M:T7 W B k r s≤L.QP c:=SQ λC=>hpu' (Kt h (Cj h o x) (Cj h n x) (Vc t) (λd E=>m d (by simp[E])) (f _ C));unfold u6;rw[Cl (by rw[y];simpa using a),pw,am];by_cases p:c=L.LT QAn 0
     .rw [IO p];have:=I u (λd E=>m d (by simp[E])) (by rw[p,n1,H]at hpu';show hpu');unfold u6 at this;rw[Cl (by rw[i1];simpa using t)]at this;show this
     .rw [Cl p,b];simp;omega
    .unfold u6;rw[IO (by rw[y];show a),y];simp;simp at g a;omega
abbrev fz QA5 QC9 QAm(r s:χ)(o:ψ LN):Prop:=
 (o=ε/\∀k,m8 W B k r=m8 W B k s)\/∃k,o=δ QGa/\m8 W B k r≠m8 W B k s/\∀j<k,m8 W B j r=m8 W B j s
def LH{L:LN}{W:LL}QHu QAt{k:χ}QJC:∀j≤k,jN W.β (Rd W B j)+j≤W.β
 |0,_=>by
  have:=γ.countP_le_length (p:=λx=>decide (∃y,y<x/\(Rd W B 0).LT y 0=(Rd W B 0).LT x 0)) (l:=γ.Re W.β);rw[Rx]at this;show this
 |j+1,a=>by
  let h1:=LH h e j (!6);let h2:=jM h (e j (!6));show Ix h2 h1
def n9 QAt QJC:k≤4410000:=by
 let h1:=LH h e k QA2;let h2:=h.n60;lia
def fz.spec(h:fz L W B r s o)(a:g_ L W B)(d:r<W.β)(b:s<W.β):(o=ε->∀u:LN,QAL->B.LT QJ7 ν=B.LT QJ8 ν)/\
  ∀w,o<*w->QA7/\w.β≤W.β/\B.LT (Sl L W r w) ν≠B.LT (Sl L W s w) ν/\∀u:LN,QAL->B.LT QJ7 ν≠B.LT QJ8 ν->u6 L u w=ν:=by
 rcases h with⟨f,h2⟩|⟨k,f,h2,e⟩<;>subst f
 .exact (λ_ u l=>Kt a d b QA2 l (h2 u.β),λw z=>by cases z)
 .refine (λz=>(by cases z),λw z=>?_);cases z;let⟨i1,i2,j,g⟩:=o6 a d b h2 e;refine(i2,3,j,g);rw[i1];let n:=LH a (k:=k) (λi m z=>h2 (pz a z (e i m) d b k)) k QA2;lia
end RA
namespace L2
open PySem.Spec PyProof.Rows
def vE:∀{x:V},bc x=π->Ep x x=π:=by
 intro x h;cases x with
 |Uv=>rfl
 |bl a=>show VI a
 |QG a=>show VI a
 |QZ a=>show VI a
 |_=>show QL (show ν=π from h) Ψ.RE
def a'.Uw QBs(n:H a=ε):a' H (L2.QO H' a o):=λb u e=>by
 rw[a_ (f_ e n)];show s b u e
def rT{J:It}{xs:γ V}{tt:TT}{s:TE}{p:St}{Q:VK}(n:θ->χ->γ V->Hp->Prop)(hz:xs.β≤Φ)(w:∀i d,a' H d->i<xs.β->J.go i d)(v:∀i d x j,a' H d->J.yld i d x j->j=d/\xs[i]?<*x)(u:∀d,a' H d->J.We xs.β d)(C:∀D,H D=ε->n D 0 [] (QO H D (.QV [])))(A:∀(D:θ)(i:χ)(x:V)(ys:γ V)(H':Hp)(t:VK)(R2:Hp->Prop),H D=ε->xs[i]?<*x->a' H H'->H' D<*.QV ys->n D i ys H'->
   (∀y h,h D<*.QV ys->a' H QDf->n D (i+1) QBl QDf->t y h)->(∀g,a' H g->g D<*.QV ys->n D (i+1) ys g->R2 g)->
   tt (δ x::p) H' λb g=>if b=π then s (δ x::p) g t else R2 g)(B:∀D ys H',H D=ε->a' H H'->H' D<*.QV ys->n D xs.β ys H'->Q (.ξ D) H'):∀D,H D=ε->∃W:χ->χ->γ V->Hp->Prop,
 (∃m,W 0 m [] (QO H D (.QV [])))/\∀i m ys d,W i m ys d->d D=δ (.QV ys)/\((J.We i d/\Q (.ξ D) d)\/(J.go i d/\ys.β<Φ/\∀x j,J.yld i d x j->
  tt (δ x::p) j λb g=>if b=π then s (δ x::p) g λy h=>h D=δ QBZ/\∃o,o<m/\W (i+1) o QBl QDf
   else ∃o,o<m/\W (i+1) o ys g)):=by
 intro D q;refine(λi m ys d=>m=xs.β-i/\i≤xs.β/\ys.β≤i/\a' H d/\d D=δ QBZ/\n D i ys d,(xs.β,!1,RO _,!1,a'.QO q,hJ,C D q),3);rintro i m ys d⟨rfl,F,E,f,l,hp⟩;refine(l,3);by_cases k:i<xs.β
 .refine .Rh (w i d f k,!6,λx j r=>?_);let⟨e,z⟩:=v i d x j f r;subst e;show A D i x ys j _ _ q z f l hp (λy h a b c=>(a,xs.β-(i+1),EY k,1,k,by rw[q4];change ys.β+1≤i+1;show G0 E,b,hJ,c)) (λg a b c=>(xs.β-(i+1),EY k,1,k,IN E,a,b,c))
 .let e:i=xs.β:=Eg k F
  subst e;show .RN (u d f,B D ys d q f l hp)
section
variable{K:RG}{tl:TE}{a:θ}{xs:γ V}{tt:TT}{te:TE}{σ:St}{H:Hp}{Q:VK}
end
section
variable{X:Cx}{ZG UC:SH}{x:QF}{px Ri:UL}{Zh:γ SH}{sc:TJ}{wi:TI}{tt:TT}{te:TE}
def BQ(f:W9 QBm (δ (.SG y d)) a.XC QC=pure π)(h:∀p,Fr M A (comprehension QBm sc QC p (newList []) ν (Sc UC QC) (δ (Y_ (.SG y d) QC))) (λ_ s'=>Q .next s') E s):Fr M A (exec (.Assign [.SG y d] QBm a) QC) Q E s:=by
 let b:Fr M A (evalThenUse QBm QC (Y_ (.SG y d) QC)) (λ_ s'=>Q .next s') E s:=
  e_ (RQ (h UC.Ri) (λ_ _ q=>h9 q) λ_ _ e=>e)
 let UX:=exec_Assign_Name_used (QC:=QC) y d QBm a f;show UX▸e_ (Tm (e_ (RQ b (λ_ _ q=>h9 q) λ_ _ e=>e)))
end
def LC QBQ QGB:C7 X (.QU "tuple") (λxs H Q=>∃p ys,xs=[.ξ p]/\((k9 K H p ys/\∀l,H l=ε->Q QGH (QO H l (.Rn ys)))\/(q5 K H p ys/\Q QAp H))):=by
 subst a;show FD
section
variable{X:Cx}{ZG UC:SH}{x:QF}{px Ri:UL}{Zh:γ SH}{sc:TJ}{wi:TI}{tt:TT}{te:TE}
end
section
variable{κ:Type}[Sb κ]
abbrev aK(RW:γ QJP)(k:κ):ψ V:=(RW.find? λkv=>decide (kv.1=k)).Q_ QBr
def jL{p:κ×V}{r:γ QJP}{k:κ}(e:p.1=k):aK (p::r) k<*p.2:=by simp[aK,U',e]
def AU{p:κ×V}{r:γ QJP}{k:κ}(e:¬ p.1=k):aK (p::r) k=aK r k:=by simp[aK,U',e]
def av.LT(r:av o u)(a:ae d d'):ae (o.LT d) (u.LT d'):=by
 cases o with
 |ε=>cases u with
  |ε=>show a
  |δ _=>show(show Rk from r).SJ
 |δ _=>cases u with
  |ε=>show(show Rk from r).SJ
  |δ _=>show r
def KV.val{RW:γ QJP}{vs:γ (κ×η)}(r:KV RW vs)(k:κ):av (aK RW k) (Vj vs k):=by
 unfold KV at r;induction r with
 |S5=>show S9.Sv
 |@Rc p q ps a h t c=>
  let⟨h1,h2⟩:=h;by_cases e:p.1=k
  .let e':q.1=k:=h1.QI.ο e;let b:Vj (q::a) k<*q.2:=by simp[Vj,U',e']
   rw[jL e,b];show h2
  .let e':¬ q.1=k:=λz=>e (h1.ο z);let b:Vj (q::a) k=Vj a k:=by simp[Vj,U',e']
   rw[AU e,b];show c
end
def yG(r:ae (kV k) u):(Ek P w).is k u=π:=by
 cases k with
 |RN i=>let⟨t,e⟩:=(show ∃t,u=η.QG i t from r);subst e;show Cn P w i t
 |Rh x=>let⟨t,e⟩:=(show ∃t,u=η.QZ x t from r);subst e;show Nr P w x t
structure mi QKU QBP QBQ(d:θ)(RW:γ QGs):Prop where
 at_:∀h:RC,K.In h->∃vs,KV RW vs/\h.DictOf (Ek P w) d vs
 ns:(d==Sx)=ν
section
variable{X:Cx}{d:θ}{RW:γ QGs}
inductive LI(d:θ)(RW:γ QGs)(x:V)(y:V)QAH QAR:Prop
 |mk (k v:_) (_:x=.ξ d) (_:y=kV k) (_:aK RW k<*v) QHn
def Ez(D:mi X.Ω X.w X.K d RW):D6 X (LI d RW):=by
 intro a b f s m H x y v u Q I i g h l;let⟨k,z,ζ,ζ,j,q⟩:=h;cases i;let⟨vs,e,dd⟩:=D.at_ _ I.Xb;let⟨n,hw,c⟩:=av.Zx (v:=z) (o:=Vj vs k) (by rw[<-j];show e.val k);show tail_any (ops:=[.ξ d,u]) dd.VO Ξ.F.YE.ς (Ye (yG g) dd.mapOf hw (z,H,I.Wa _,c,q)) l
abbrev OE(d:θ)(RW:γ QGs)(to:TE)QG9:TE:=λσ H Q=>to σ H λx H1=>x=.ξ d/\t σ H1 λxs H2=>∃k z,xs=[kV k,z]/\Q ((aK RW k).LT z) H2
def Di(D:mi X.Ω X.w X.K d RW){i b:UL}(W:PE X o to)(Y:PA X [e,f] t)(l:(UD o "get" X.QC (Sc o X.QC)=Sc o X.QC)>>>4)(n:(((ST b (BT [e,f] X.QC)).UW (λx=>!x.1)&&(Yn b (WR [] X.QC)).UW (λx=>x.1.VR)
   && decide (([e,f]:γ SH).β+([]:γ Xn).β+(if ([]:γ Xn).Vs then 0 else 1)<30))=π)>>>4)(j:((i.endLine==b.XC)=π)>>>4)(U:(BT [e,f] X.QC=(ν,Sc e X.QC,)::BT [f] X.QC)>>>4)(c:((ST b (BT [f] X.QC)).U6 (·.1)=ν)>>>4):PE X (.T0 (.S7 o "get" i) [e,f] [] b) (OE d RW to t):=by
 intro g s r H Q I h;refine Yt l n j ζ (nb (W g s r H _ I h) λv J q=>?_);let⟨x,H1,B,P,Z,S⟩:=q;subst Z;cases P;let⟨vs,N,dd⟩:=D.at_ _ B.Xb;let⟨T,es,ep,h1,h2,h3⟩:=id dd;refine("dict",_,Ξ.F.plainAttrs_dict,Ξ.F.slot_dict_get,Ξ.F.type_dict_get,dd.VO,λa e=>?_,3)
 .cases e;show(T,h1,h2.2.1)
 .let u:=Y b g J r H1 _ B S;rw[U]at u⊢;refine Vf.XI (by change (ν||(ST b (BT [f] X.QC)).U6 QBF)=ν;rw[c]<;>rfl) (Vf.Wq ?_);refine nb u λus s2 z=>?_;let⟨xs,H2,A,O,k,y,ζ,R⟩:=z;let⟨u1,E,ζ,M,L⟩:=cL O;let⟨C,m,p⟩:=D.at_ _ A.Xb;show call_meetsIn Ξ.F.slot_dict_get p.VO Ξ.F.entry_dict_get (Ξ.F.args_dict_get_3 _ _ _) (meets_dict_get_default (Ek X.Ω X.w) d (yG M) D.ns E) (_,p.mapOf,(_,H2,A.Wa _,(m.val k).LT L,R))
end
abbrev vd QK3:η->Ψ
 |.UV c=>c==b
 |_=>ν
def HI(h:vd b v=π):v=.UV b:=by
 cases v with
 |UV c=>rw[XF (show(c==b)=π from h)]
 |_=>show QL (show ν=π from h) Ψ.RE
abbrev EA QKU QBP:Ξ.KeyKind P w Ψ where
 is:=vd
 hash:=λb=>reduceHash (if b then 1 else 0)
 Tp:=λv a b ha hb=>by
  let e:=(HI ha).QI.ο (HI hb)
  cases e
  rfl
 byValue:=λk v h=>by rw[HI h];rfl
 YY:=λ{A E s k v Q}h q=>by
  cases HI h
  refine Ξ.W.pyHash_slot (T:="bool") ζ F.slot_bool_hash entry_int_hash (args_int_hash _) QHQ QAz ?_
  cases k
  .exact (show Fr _ _ (do ret (<-mkInt 0)) _ _ s from e_ (YD (h9 (9,q))))
  .exact (show Fr _ _ (do ret (<-mkInt 1)) _ _ s from e_ (YD (h9 (9,q))))
 eqBool:=λ{A E s a b u v Q}ha hb q=>by
  cases HI ha
  cases HI hb
  let e:(a==b)=decide (a=b):=by cases a<;>cases b<;>rfl
  show S4.VM.bool_bool a b _ _ _ _ (by rw[e];show q)
 «strs»:=λk x t v h=>QL (show ν=π from h) Ψ.RE
@[reducible]def NK:=Nat×LN
abbrev zs(ks:LN):γ Λ:=ks.Q_ λ(n:χ)=>(n:Λ)
def ip(h:zs a=zs b):a=b:=by
 induction a generalizing b with
 |S5=>cases b with
  |S5=>rfl
  |Rc y b=>cases h
 |Rc x a c=>cases b with
  |S5=>cases h
  |Rc y b=>
   let h:((x:Λ)::zs a)=((y:Λ)::zs b):=h;injection h with h1 h2;rw[c h2,Λ.ofNat.Tp h1]
section
variable(P:Id)(w:QW)
abbrev va QKP(k:NK)QCs:Prop:=∃(o:UQ)(n:χ)(t:Z5)(b:θ),h.Δ a=δ o/\o.SS=.QU "tuple"/\o.RH=.WA #[.QG (k.1:Λ) t,.ξ b] n/\Y' QCE h (zs k.2) b
abbrev dW(k:NK):Λ:=reduceHash (Builtin.Wr.tupleHashOf [hashInt (k.1:Λ),tupleKeyHash QCE (zs k.2)])
end
section
variable{P:Id}{w:QW}
def va.Tp(i:va P w h x a)(g:va P w h y a):x=y:=by
 let⟨o,n,t,b,h1,_,k,j⟩:=i;let⟨E,F,t',z,d,_,c,l⟩:=g;rw[h1]at d;cases d;rw[k]at c;injection c with v _;let u:[η.QG (x.1:Λ) t,.ξ b]=[η.QG (y.1:Λ) t',.ξ z]:=Qw R_.Qx v;injection u with s r;injection s with q _;injection r with p _;injection p with m;subst m;let f:=ip (j.Tp l);let e:x.1=y.1:=Λ.ofNat.Tp q;let⟨D,C⟩:=x;let⟨B,A⟩:=y;simp only at f e;rw[f,e]
def va.Ti{l m}(x:va P w h k a)(c:h.Δ d<*o)(e:o.RH=.Uk l m)(f:Tb d h h'):va P w h' k a:=by
 let⟨i,n,t,b,h1,h2,g,j⟩:=x;refine(i,n,t,b,(f.2 a ?_).ο h1,h2,g,j.Ti c e f);rintro ζ;rw[h1]at c;cases c;rw[g]at e;cases e
def va.Rn(x:va P w h k a):∃t b,h.Vv a #[.QG (k.1:Λ) t,.ξ b]/\Y' QCE h (zs k.2) b:=by
 let⟨o,n,t,b,h1,h2,d,c⟩:=x;show(t,b,(o,h1,h2,n,d),c)
def rf(c:A.S_+1<UJ)(x:va P w s.ρ k a)(q:Q (dW P w k) {s with QT:=s.QT+(k.2.β+3)}):Fr QA' A (YY QAd) Q E s:=by
 let⟨o,n,t,b,h1,h2,f,d⟩:=x;refine Ξ.W.pyHash_slot (T:="tuple") (o,h1,h2) F.slot_tuple_hash F.entry_tuple_hash (F.args_tuple_hash_1 _) QHQ (.Rh (Ig c)) ?_;refine e_ (m:=Builtin.Wr.tupleItemsOf QAd) (wpAny_tupleItemsOf h1 f QDa);rw[<-Y5];change Fr _ _ (forIn [η.QG (k.1:Λ) t,.ξ b] _ _) _ _ _;rw[U9];refine e_ (e_ (wpAny_pyHash_int (e_ QHC)));dsimp only;rw[U9];refine e_ (e_ (wpAny_pyHash_tuple (Y2:=SI P w) (by change A.Xz.S_<UJ;rw[Qy.WS];show c) d (e_ QHC)));dsimp only;rw[WU];refine h9 ?_;refine e_ (YD (h9 (9,3)));let e:s.QT+1+((zs k.2).β+1)+1=s.QT+(k.2.β+3):=by
  have:(zs k.2).β=k.2.β:=by simp[zs]
  lia
 simpa[e,dW]using q
def iw(x:Y' QCE h ks b):Y' (SI g f) h ks b:=by
 let⟨o,R9,n,h1,h2,e,c⟩:=x;refine(o,R9,n,h1,h2,e,3);generalize R9.Qx=l at c⊢;induction c with
 |S5=>show .S5
 |Rc a _ d=>show .Rc a d
def xD(D:A.S_+1<UJ)(v:va P w s.ρ x a)(r:va P w s.ρ y b)QBM(Q:Ψ->ω->Prop)(q:Q (decide (x=y)) s):Fr QA' A (eqBool QAd QEB) Q E s:=by
 by_cases g:a=b
 .subst g;let e:=v.Tp r;rw[RI e]at q;show S4.VM.SO QAd P w E Q q
 .obtain ⟨t,c,h1,h2⟩:=v.Rn;let⟨u,d,H,F⟩:=r.Rn;let i:A.Xz.S_<UJ:=by rw[Qy.WS];show D
  let f:S4.VM A.Xz s (.ξ c) (.ξ d) (decide (zs x.2=zs y.2)):=λI B L J C=>wpAny_eqBool_tuple (Y2:=SI I B) i (iw h2) (iw F) C;let UW:=S4.VM.of_refs (A:=A) g (S4.RcAt.tuples (s:=s) (e:=λj=>if j=0 then((x.1:Λ)==(y.1:Λ))else decide (zs x.2=zs y.2)) h1 H (Ig D) (λj l1 l2=>by
   match j,l1,l2 with
   |0,_,_=>show S4.VM.int_int _ t _ u
   |1,_,_=>show f
   | n+2,l1,_=>show QL l1 (by change ¬ (n+2<2);show Gi)))
  refine UW P w E Q ?_;let e:((γ.Re (min (#[η.QG (x.1:Λ) t,.ξ c]:R_ η).Q' (#[η.QG (y.1:Λ) u,.ξ d]:R_ η).Q')).UW (λj=>if j=0 then((x.1:Λ)==(y.1:Λ))else decide (zs x.2=zs y.2))&&(#[η.QG (x.1:Λ) t,.ξ c]:R_ η).Q'==(#[η.QG (y.1:Λ) u,.ξ d]:R_ η).Q')=decide (x=y):=by
   change (((x.1:Λ)==(y.1:Λ))&&(decide (zs x.2=zs y.2)&&π)&&π)=_;let⟨p,o⟩:=x;let⟨m,l⟩:=y;by_cases h:p=m
   .by_cases k:o=l
    .subst h k;simp
    .have:zs o≠zs l:=λz=>k (ip z);simp[h,k,this]
   .have:¬ ((p:Λ)=(m:Λ)):=λz=>h (Λ.ofNat.Tp z);simp[h,this]
  rw[e];show q
def Kv(x:s.ρ.Vv a b)(g:∀v∈b.Qx,∀(R:Ψ->ω->Prop),R π s->Fr QA' A (eqIsQuiet n v) R E s)(q:Q π s):Fr QA' A (eqIsQuiet (n+1) QAd) Q E s:=by
 let⟨o,h1,h2,m,h⟩:=x;let d:s.Vi QAd "tuple":=(o,h1,h2);unfold eqIsQuiet;refine e_ (VX d F.slot_tuple_eq.ς (e_ (m:=isInstance QAd (.QU "tuple")) (Vp d isSubtype_tuple_tuple ?_)));simp only[Ψ.not_true,Ψ.Yb,X0];refine e_ (Ts h1 h QDa);change Fr _ _ (forIn b _ _) _ _ _;rw[<-Y5];refine wpAny_forIn_list _ (λWw r s'=>r.1=ε/\s'=s/\∀v∈Ww,v∈b.Qx) _ ?_ ?_ _ _ (5,λv e=>e)
 .rintro v Ww r s'⟨c,ζ,UW⟩;refine e_ (g v (UW v Sk) _ ?_);simp only[Ψ.not_true,Ψ.Yb,X0];show h9 (5,λu f=>UW u (Q9 _ f))
 .rintro⟨j,i⟩s'⟨c,ζ,_⟩;simp only at c;subst c;show h9 q
def nB(x:va P w s.ρ k a)(q:Q π s):Fr QA' A (eqIsQuiet 8 QAd) Q E s:=by
 let⟨t,b,h1,h2⟩:=x.Rn;refine Kv (n:=7) h1 (λv c R r=>?_) q;let c:v∈[η.QG (k.1:Λ) t,.ξ b]:=c;rcases QY.mp c with ζ|c
 .rw [YN _ ζ];show h9 r
 .rw [yl c];let⟨o,R9,n,g,f,e,d⟩:=h2;refine Kv (n:=6) (o,g,f,n,e) (λv c R r=>?_) r;rw[YN _ (d.byValue v c)];show h9 r
end
abbrev uG QKU QBP:HeapKind P w NK where
 is:=va P w
 hash:=dW P w
 draws:=λk=>k.2.β+3
 room:=λA=>A.S_+1<UJ
 Tp:=λa b=>a.Tp b
 Ti:=λx ho hd hs=>x.Ti ho hd hs
 YY:=λhu hk h=>rf hu hk h
 eqBool:=λhu hx hy h=>xD hu hx hy _ _ h
 quiet:=λhk h=>nB hk h
section
variable{X:Cx}{ZG UC:SH}{x y:QF}{px py pt Ri:UL}{kt:χ}{sc:TJ}{wi:TI}{te:TE}
abbrev iz QBQ(wi:TI)(te:TE):TE:=λσ H Q=>wi σ H λJ H1=>∀D,H1 D=ε->∃W:χ->χ->γ V->Hp->Prop,
 (∃m,W 0 m [] (QO H1 D (.QV [])))/\∀i m ys H2,W i m ys H2->H2 D=δ (.QV ys)/\((J.We i H2/\Q (.ξ D) H2)\/(J.go i H2/\ys.β<Φ/\∀x H3,J.yld i H2 x H3->
  ∃p a b,x=.ξ p/\q5 K H3 p [a,b]/\te (δ a::δ b::σ) H3 λy H5=>H5 D=δ (.QV ys)/\∃m',m'<m/\W (i+1) m' (ys++[y]) (QO H5 D (.QV (ys++[y])))))
end
section
variable{Ω:Id}{w:QW}{A:Qy}{E:η->ω->Prop}{s:ω}{it t:θ}{i:χ}{items:R_ η}
def nA(a:s.ρ.XX it t i)(g:s.ρ.Vv t items)(f:items[i]?<*x)(j:∀h',h'.XX it t (i+1)->Tb it s.ρ h'->Q x {s with ρ:=h'}):Fr QAU A (Builtin.Ty.ZZ QCP) Q E s:=by
 let⟨o,c,h,b⟩:=id a;let⟨k,d,_,l,e⟩:=g;unfold Builtin.Ty.ZZ;refine e_ (Sg (Ss:=QF.Rj "__next__") a.VO F.V5 (SV F.V5 a.VO F.entry_tuple_iterator_next ?_ QJD));refine e_ (m:=field QCP 0) (RP c b (x:=.ξ t) ζ (Rz ζ (e_ (m:=field QCP 1) (RP c b (x:=.QG i 0) ζ (e_ (m:=seqItems? QB0) (Ts d e ?_))))));simp only[Tn,f];refine e_ (Uo c b (!1) (h9 (x,1,h9 (j _ (_,Rs _ c (TV (Sa b _)),(UQ.cls_mapFields ..).ο h,3) (Tb.Sq ..)))));rw[Sa b];simp[R6]
def re(h:A.SX=ε)(b:s.ρ.XX it t i)(k:s.ρ.Vv t items)(j:items[i]?=ε)(l:∀h' e,RC.ExtBut it s.ρ h'->(∃o,h'.Δ e=δ o/\o.SS=.QU "StopIteration")->E QA8 {s with ρ:=h'}):Fr QAU A (Builtin.Ty.ZZ QCP) Q E s:=by
 let⟨o,d,q,g⟩:=id b;let⟨n,c,_,p,f⟩:=k;unfold Builtin.Ty.ZZ;refine e_ (Sg (Ss:=QF.Rj "__next__") b.VO F.V5 (SV F.V5 b.VO F.entry_tuple_iterator_next ?_ QJD));refine e_ (m:=field QCP 0) (RP d g (x:=.ξ t) ζ (Rz ζ (e_ (m:=field QCP 1) (RP d g (x:=.QG i 0) ζ (e_ (m:=seqItems? QB0) (Ts c f ?_))))));simp only[Tn,j];refine e_ (W5 (e_ (Uo d g (!1) (e_ (m:=newExc (.QU "StopIteration") []) ?_))));simp only[newExc,newTuple];refine e_ (Si (e_ (m:=Zi _ _) (SR (a:=η.ε) (by first|rfl|(simp only[Zi];rfl)) QGh)) (by size_fits));simp only[raiseNew];refine e_ QFX;first|rw[show A.Xz.SX=ε from h]|rw[h]
 show e_ (h9 (YC (l _ _ (((Tb.Sq ..).Wp.Rm _).Rm _) QEr)))
end
def IsTup.Ti{h h':RC}(x:h.Vv t a)(k:∀o,h.Δ t<*o->h'.Δ t<*o):h'.Vv t a:=let⟨o,e,r⟩:=x;(o,k o e,r)
def OF(k:A.SX=ε)(it t:θ)(d:t≠it)(a:R_ η):Draws Ω w A it [it,t] a.Q' (λi v=>a[i]?<*v) (λi h=>h.XX it t i/\h.Vv t a)  where
 live:=λ_ _ st=>let⟨o,j,_⟩:=st.1;(o,j)
 Vx:=λ_ _ _ st f=>(st.1.at λo e=>f it (!1) o e,IsTup.Ti st.2 λo e=>f t (!1) o e)
 Yi:=λi s Q E g st l=>nA st.1 st.2 (x:=a[i]) (by simp[g]) λh' c b=>l _ h' s.QT (by simp[g]) (c,IsTup.Ti st.2 λo e=>(b.2 t d).ο e) b
 done:=λs Q E st m=>re k st.1 st.2 (!1) m
def qu:isSubtype (.QU "enumerate") (.QU "enumerate")=pure π:=by rw[UE];kernel_rfl
section
variable{X:Cx}{ZG UC:SH}{x:QF}{px Ri:UL}{Zh:γ SH}{sc:TJ}{wi:TI}{tt:TT}{te:TE}
end
structure EB QKU QBP(κ:Type)[Sb κ] where
 Y2:HeapKind P w κ
 ZL:Hp->κ->θ->Prop
 ok:∀QHV{h:RC}{k:κ}QHA,ZL H k a->z_ P w H h->Y2.is h k a
 room:∀{A:Qy},A.S_+64<UJ->Y2.room A.Xz/\Y2.room A
 Wv:∀{H H':Hp}{k:κ}QHA,(∀b xs,H b<*.Rn xs->H' b<*.Rn xs)->ZL H k a->ZL H' k a
abbrev FG QAH(k:γ Λ)QCs:Prop:=H a<*.Rn (k.Q_ V.QG)
abbrev Fc QAH(k:NK)QCs:Prop:=∃b,H a=δ (.Rn [.QG (k.1:Λ),.ξ b])/\H b<*.Rn ((zs k.2).Q_ V.QG)
def items_int{P:Id}QF3:∀{ks:γ Λ}QCH,ad (ks.Q_ V.QG) us->ItemsAre QCE ks us
 |[],_,r=>by rw[γ.map_nil]at r;cases r;show .S5
 |k::ks,_,r=>by
  rw[UY]at r;cases r with
  |Rc h t=>
   let⟨u,ζ⟩:=(show ∃t,_=η.QG k t from h);show .Rc (by change η.isInt k (.QG k u)=π;simp[η.isInt]) (items_int t)
def mG(e:FG H k a)QHr:Y' QCE h k a:=by
 let⟨_,R9,r,o,h1,h2,n,b⟩:=(show Ai P w H h a (.Rn (k.Q_ V.QG))from ok a _ e);show(o,R9.Θ,n,h1,h2,b,by simpa using items_int r)
abbrev bb QKU QBP:EB P w (γ Λ) where
 Y2:=tupleKind QCE
 ZL:=FG
 ok:=λe ok=>mG e ok
 room:=λ{A}hu=>(by change A.Xz.S_<UJ;rw[Qy.WS];show Fl hu,by change A.S_<UJ;show IB hu)
 Wv:=λs e=>s _ _ e
abbrev D8 QKU QBP:EB P w NK where
 Y2:=uG P w
 ZL:=Fc
 ok:=λ{H h k a}e ok=>by
  let⟨b,e1,e2⟩:=e
  let⟨_,R9,r,o,h1,h2,n,h3⟩:=(show Ai P w H h a (.Rn [.QG (k.1:Λ),.ξ b])from ok a _ e1)
  let⟨u1,u2,ζ,r1,r2⟩:=cL r
  let⟨t,ζ⟩:=(show ∃t,u1=η.QG (k.1:Λ) t from r1)
  cases(show u2=η.ξ b from r2)
  show(o,n,t,b,h1,h2,h3,mG e2 ok)
 room:=λ{A}hu=>(by change A.Xz.S_+1<UJ;rw[Qy.WS];show GS hu,by change A.S_+1<UJ;show Fl hu)
 Wv:=λs hZ2=>by let⟨b,e1,e2⟩:=hZ2;show(b,s _ _ e1,s _ _ e2)
abbrev BH{P:Id}QF3{κ:Type}[Sb κ](Y2:Ξ.KeyKind P w κ)(d:θ)(RW:γ QJP):HO:=.ext λh=>(d==Sx)=ν/\RW.β≤Φ/\∃vs,KV RW vs/\h.DictOf Y2 d vs
instance HJ(κ:Type):QGK->(κ×θ×η)->Prop:=λp q=>p.1=q.1/\p.2.1=q.2.1/\ae p.2.2 q.2.2
abbrev Ba{P:Id}QF3{κ:Type}[Sb κ](D:EB P w κ)(d:θ)(RW:γ QGK):HO:=.ext λh=>(d==Sx)=ν/\RW.β≤Φ/\∃xs,V0 (HJ κ) RW xs/\
 ∃o es ep,h.Δ d=δ o/\o.ExactDict/\o.RH=.Uk es ep/\es.Qx=xs.Q_ (entryOfKey D.Y2)/\(xs.Q_ QBF).R7
section
variable{P:Id}{w:QW}{κ:Type}[Sb κ]
def By{Y2:Ξ.KeyKind P w κ}QHV{h:RC}{d:θ}{RW:γ QJP}{vs:γ (κ×η)}QHz(c:RW.β≤Φ)(r:KV RW vs)(dd:h.DictOf Y2 d vs):Ai P w H h d (BH Y2 d RW):=by
 refine((ns,c,vs,r,dd),let⟨o,_,_,e,_⟩:=dd;(o,e),λh1 h2 a b=>?_);let⟨j,i,vs,r,o,f,g,e,q⟩:=a;show(j,i,vs,r,o,f,g,b o e,q)
def g9{D:EB P w κ}QHV{h:RC}{d:θ}{RW:γ QGK}{xs:γ (κ×θ×η)}QHz(l:RW.β≤Φ)(r:V0 (HJ κ) RW xs)(dd:h.Z7 D.Y2 d xs):Ai P w H h d (Ba D d RW):=by
 let⟨o,c,f,e,k,j,i,_,g⟩:=dd;refine((ns,l,xs,r,o,c,f,e,k,j,i,g),(o,e),λh1 h2 a b=>?_);let⟨n,m,vs,r,o,c,f,e,q⟩:=a;show(n,m,vs,r,o,c,f,b o e,q)
def D9{Y2:Ξ.KeyKind P w κ}QHV{h:RC}{d:θ}{RW:γ QJP}QHr(e:H d<*BH Y2 d RW):(d==Sx)=ν/\RW.β≤Φ/\∃vs,KV RW vs/\h.DictOf Y2 d vs:=(ok d _ e).1
def eR{D:EB P w κ}QHV{h:RC}{d:θ}{RW:γ QGK}QHr QES(f:∀x∈RW,D.ZL H x.1 x.2.1):(d==Sx)=ν/\RW.β≤Φ/\∃xs,V0 (HJ κ) RW xs/\h.Z7 D.Y2 d xs:=by
 let⟨u,g,xs,r,o,m,n,s,j,i,c,b⟩:=(ok d _ e).1;refine(u,g,xs,r,o,m,n,s,j,i,c,3,b);clear c b e g;induction r with
 |S5=>intro x a;simp at a
 |@Rc p q ps v h t k=>
  intro x a;rcases QY.mp a with ζ|a
  .have:=D.ok (f p (!1)) ok;rw[<-h.1,<-h.2.1];show this
  .exact k (λy l=>f y (by simp[l])) x a
abbrev aI(RW:γ QGK)(k:κ):ψ V:=(RW.find? λx=>decide (x.1=k)).Q_ (·.2.2)
def nK{RW:γ QGK}{xs:γ (κ×θ×η)}(r:V0 (HJ κ) RW xs)(k:κ):av (aI RW k) ((atKey xs k).Q_ QBr):=by
 induction r with
 |S5=>show S9.Sv
 |@Rc p q ps a h t d=>
  by_cases e:p.1=k
  .let e':q.1=k:=h.1.QI.ο e;let c:aI (p::ps) k<*p.2.2:=by simp[aI,U',e]
   let b:atKey (q::a) k<*q.2:=by simp[atKey,U',e']
   rw[c,b];show h.2.2
  .let e':¬ q.1=k:=λz=>e (h.1.ο z);let c:aI (p::ps) k=aI ps k:=by simp[aI,U',e]
   let b:atKey (q::a) k=atKey a k:=by simp[atKey,U',e']
   rw[c,b];show d
def iW{d c:Type}{F:d->c->Prop}{a:d}{b:c}(h:F a b){l:γ d}{m:γ c}(k:V0 F l m):V0 F (l++[a]) (m++[b]):=by
 induction k with
 |S5=>show .Rc h .S5
 |Rc r _ j=>show .Rc r j
def LJ(r:av o u):o.VR=u.VR:=by
 cases o<;>cases u<;>first|rfl|show(show Rk from r).SJ
end
section
variable{X:Cx}{QE:γ QA_}{σ:St}{H:Hp}{s:ω}{d:θ}
def f'.bigS QAA:Sx<s⁻¹:=by
 let h:RB<s⁻¹:=(I.Zb.glob.Ti I.bk).lt;show U1 (!0) h
abbrev yy QKU QBP QAH(d:θ)(y:V)(r:ψ V):Prop:=
 (∃RW k,H d=δ QFY/\y=.bl k/\r=aK RW k) \/
 (∃RW k b,H d=δ QFZ/\QFL/\y=.ξ b/\Fc H k b/\r=aI RW k) \/
 ∃RW k b,H d=δ (Ba (bb P w) d RW)/\(∀x∈RW,FG H x.1 x.2.1)/\y=.ξ b/\FG H k b/\r=aI RW k
abbrev NH QKU QBP QAH(d:θ)(y v:V)QBW:Prop:=
 (∃RW k,H d=δ QFY/\y=.bl k/\aK RW k=ε/\RW.β<Φ/\H'=QO H d (BH (EA P w) d (RW++[(k,v,)]))) \/
 (∃RW k b,H d=δ QFZ/\QFL/\y=.ξ b/\Fc H k b/\aI RW k=ε/\RW.β<Φ/\H'=QO H d (Ba (D8 P w) d QEX)) \/
 ∃RW k b,H d=δ (Ba (bb P w) d RW)/\(∀x∈RW,FG H x.1 x.2.1)/\y=.ξ b/\FG H k b/\aI RW k=ε/\RW.β<Φ/\H'=QO H d (Ba (bb P w) d QEX)
abbrev NI QKU QBP QAH(d:θ)QCm:Prop:=
 (∃RW,H d=δ QFY/\n=RW.β)\/∃RW,H d=δ QFZ/\n=RW.β
def vm QGk[Sb a]QKR QJM{k:a}QBA{v:V}{A:Qy}QDk{Q:η->ω->Prop}(m:A.S_+64<UJ)QAA QES(n:∀x∈RW,D.ZL H x.1 x.2.1)(j:D.ZL H k b)(l:δ v=aI RW k)(h:∀c s',f' X QE σ H s'->ae v c->Q c s'):Fr QAB A (getItem QDM QEB) Q E s:=by
 let⟨_,_,xs,g,dd⟩:=eR I.S8 e n;let⟨c,hw,f⟩:=av.Zx (v:=v) (o:=(atKey xs k).Q_ QBr) (by rw[l];show nK g k);let⟨p,hp,i⟩:=AE hw;refine wpAny_getItem_heap (D.room m).1 (D.ok j I.S8) dd hp ?_;rw[i];show h c _ (I.Wa _) f
def jn QGk[Sb a]QKR QJM{k:a}QBA{A:Qy}QDk{Q:η->ω->Prop}(g:A.S_+64<UJ)QAA QES(i:∀x∈RW,D.ZL H x.1 x.2.1)(f:D.ZL H k b)(h:∀s',f' X QE σ H s'->Q (.UV (!(aI RW k).VR)) s'):Fr QAB A (So .NotIn QEB QDM) Q E s:=by
 let⟨ns,_,xs,c,dd⟩:=eR I.S8 e i;refine wpAny_notIn_heap (D.room g).1 (D.ok f I.S8) ns dd ?_;let q:=LJ (nK c k);rw[ψ.isSome_map]at q;rw[<-q];show h _ (I.Wa _)
def Jx QAA(mu:Jk (H d))(f:Tb d s.ρ h')(g:∃q,h'.Δ d<*q)(a:Ai X.Ω X.w (QO H d c) h' d c):f' X QE σ (QO H d c) {s with ρ:=h',QT:=t'}:=
 I.ZR (x:=d) (e:=d) mu QAz (λb q h z=>(f.2 b h).ο z) g a
def yJ QGk[Sb a]QKR QJM{xs:γ (a×θ×η)}{k:a}QBA{v:V}{r:η}{h':RC}{t':χ}QAA QES QHz(i:RW.β<Φ)(c:V0 (HJ a) RW xs)(h:aI RW k=ε)(f:ae v r)(dd:h'.Z7 D.Y2 d (storedH xs k b r))(g:Tb d s.ρ h'):f' X QE σ (QO H d (Ba D d QEX)) {s with ρ:=h',QT:=t'}:=by
 let q:=av.YH (show av ε ((atKey xs k).Q_ QBr) by rw[<-h];show nK c k);rw[storedH_new (ψ.map_eq_none_iff.mp q)]at dd;show Jx I (by rw[e];show S9.Sv) g (by let⟨o,_,_,q,_⟩:=dd;show(o,q)) (g9 ns (by rw[q4];show i) (iW (F:=HJ a) (5,f) c) dd)
def vk{c:Type}[Sb c]{D:EB X.Ω X.w c}{RW:γ (c×θ×V)}{k:c}QBA{v:V}{r:η}{A:Qy}QDk{Q:Unit->ω->Prop}(j:A.S_+64<UJ)QAA QES(o:∀x∈RW,D.ZL H x.1 x.2.1)(i:D.ZL H k b)(m:aI RW k=ε)(n:RW.β<Φ)(g:ae v r)(h:∀s',f' X QE σ (QO H d (Ba D d QEX)) s'->Q () s'):Fr QAB A (setItem QDM QEB r) Q E s:=by
 let⟨ns,hz,xs,a,dd⟩:=eR I.S8 e o;show wpAny_setItem_heap (hsz:=by rw[<-V0.β a];show hz) (D.room j).1 (D.ok i I.S8) dd λh' f l=>h _ (yJ I e ns n a m g f l)
def cy{RW:γ (a×V)}{vs:γ (a×η)}{k:a}(b:KV RW vs)(c:ae v r):KV (RW++[(k,v,)]) (vs++[(k,r,)]):=iW (F:=λ(p:a×V)(q:a×η)=>p.1=q.1/\ae p.2 q.2) (1,c) b
def Kw QGk[Sb a]{vs:γ (a×η)}{k:a}{r:η}(h:Vj vs k=ε):stored vs k r=vs++[(k,r,)]:=by
 unfold stored;rw[Cl];intro q;rw[Zs]at q;let⟨x,b,e⟩:=q;unfold Vj at h;rw[ψ.map_eq_none_iff,γ.find?_eq_none]at h;show h x b e
def pA QHz(b:s.ρ.Δ d<*o)(f:o.ExactDict)(e:o.RH=.Uk a i)(hz:a.Q'≤Φ)(h:∀t t',Q (.QG (a.Q':χ) t) {s with QT:=t'}):Fr QAB A (UZ (.RJ "len") [.ξ d]) Q E s:=by
 let c:s.Vi QDM "dict":=(o,b,f.1);let g:(a.Q':Λ)<2^63:=by rw[S']at hz;lia
 refine Vf.call_function_entry kind_len plain_len entry_len (args_len1 _) ?_;unfold Builtin.«len»;refine e_ (m:=oneArg "len" _) (h9 (e_ (m:=callSpecial? QDM (QF.Rj "__len__")) (Sg (Ss:=QF.Rj "__len__") c F.slot_dict_len (SV F.slot_dict_len c F.entry_dict_len ?_ (F.args_dict_len_1 _)))));refine e_ (m:=dictSize d) ?_;unfold dictSize;refine e_ (wpAny_dictEntries b e (h9 (e_ (m:=Builtin.Dict.pendingCount d) (wpAny_pendingCount_other ns (e_ (YD (h9 (0,e_ (RZ (h9 (e_ (wpAny_letGo ?_))))))))))));refine Rz (!1) (Rz (by simp;lia) (e_ (YD (h9 (0,3)))));simpa using h _ _
end
section
variable{X:Cx}
inductive w5 QKU QBP(x:V)(y:V)QAH QAR:Prop
 |mk (d o:_) (_:y=.ξ d) (_:yy P w H d x o) (_:Q (.bl (!o.VR)) H)
def qQ(m:X.A.S_+64<UJ):y' X (So .NotIn) (w5 X.Ω X.w):=by
 intro l s p H x y v u Q I a n h;let⟨d,o,ζ,g,q⟩:=h;cases n;rcases g with⟨RW,k,e,ζ,ζ⟩|⟨RW,k,b,e,i,ζ,f,ζ⟩|⟨RW,k,b,e,i,ζ,f,ζ⟩
 .cases a;let⟨ns,_,vs,c,dd⟩:=D9 I.S8 e;refine wpAny_notIn_of (Y2:=EA X.Ω X.w) (k:=k) (show vd k (.UV k)=π by cases k<;>rfl) ns dd.mapOf ?_;rw[<-LJ (c.val k)];show(.bl _,H,I.Wa _,1,q)
 .cases a;show jn (D:=D8 X.Ω X.w) m I e i f λs' j=>(.bl _,H,j,1,q)
 .cases a;show jn (D:=bb X.Ω X.w) m I e i f λs' j=>(.bl _,H,j,1,q)
def x8{f:St}(I:f' X c f H s)(g:yy X.Ω X.w H d y o):s.Vi QDM "dict":=by
 rcases g with⟨RW,k,e,_⟩|⟨RW,k,b,e,a,_⟩|⟨RW,k,b,e,a,_⟩
 .obtain ⟨_,_,vs,_,dd⟩:=D9 I.S8 e;show dd.VO
 .obtain ⟨_,_,vs,_,dd⟩:=eR (D:=D8 X.Ω X.w) I.S8 e a;show dd.VO
 .obtain ⟨_,_,vs,_,dd⟩:=eR (D:=bb X.Ω X.w) I.S8 e a;show dd.VO
inductive NJ QKU QBP(x:V)(y:V)QAH QAR:Prop
 |mk (d v:_) (_:x=.ξ d) (_:yy P w H d y QF1) QHn
def uX(B:X.A.S_+64<UJ):D6 X (NJ X.Ω X.w):=by
 intro c f t s J H x y v u Q I C i h E;let⟨d,z,ζ,g,q⟩:=h;cases C;refine tail_any (ops:=[.ξ d,u]) (x8 I g) Ξ.F.YE.ς ?_ E;rcases g with⟨RW,k,e,ζ,l⟩|⟨RW,k,b,e,n,ζ,m,l⟩|⟨RW,k,b,e,n,ζ,m,l⟩
 .cases i;let⟨ns,_,vs,j,dd⟩:=D9 I.S8 e;let⟨r,hw,a⟩:=av.Zx (v:=z) (o:=Vj vs k) (by rw[l];show j.val k);show Ye (Y2:=EA X.Ω X.w) (k:=k) (show vd k (.UV k)=π by cases k<;>rfl) dd.mapOf hw (z,H,I.Wa _,a,q)
 .cases i;show vm (D:=D8 X.Ω X.w) B I e n m l λr s' p a=>(z,H,p,a,q)
 .cases i;show vm (D:=bb X.Ω X.w) B I e n m l λr s' p a=>(z,H,p,a,q)
inductive OG QKU QBP(o:V)(i:V)(v:V)QAH(Q:Hp->Prop):Prop
 |mk (d H':_) (_:o=.ξ d) (_:NH P w H d i v H') (_:Q H')
def DF(x:X.A.S_+64<UJ):yt X (OG X.Ω X.w):=by
 intro t s C H o i v E F u Q I y m l h;let⟨d,H',ζ,g,q⟩:=h;cases y;rcases g with⟨RW,k,e,ζ,f,j,ζ⟩|⟨RW,k,b,e,p,ζ,n,f,j,ζ⟩|⟨RW,k,b,e,p,ζ,n,f,j,ζ⟩
 .cases m;let⟨ns,hz,vs,a,dd⟩:=D9 I.S8 e;refine wpAny_setItem_pairs (Y2:=EA X.Ω X.w) (k:=k) (hsz:=by rw[<-a.β];show hz) (show vd k (.UV k)=π by cases k<;>rfl) dd λh' c B=>(_,3,q);let z:=av.YH (show av ε (Vj vs k) by rw[<-f];show a.val k);rw[Kw z]at c;show Jx I (by rw[e];show S9.Sv) B (let⟨o,_,_,q,_⟩:=c;(o,q)) (By ns (by rw[q4];show j) (cy a l) c)
 .cases m;show vk (D:=D8 X.Ω X.w) x I e p n f j l λs' r=>(_,r,q)
 .cases m;show vk (D:=bb X.Ω X.w) x I e p n f j l λs' r=>(_,r,q)
def DG:C7 X (.RJ "len") (λxs H Q=>∃d n,xs=[V.ξ d]/\NI X.Ω X.w H d n/\Q (.QG (n:χ)) H):=by
 intro i s m H xs us Q I r h;let⟨d,n,ζ,g,q⟩:=h;let⟨p,ζ,j⟩:=Ch r;cases j;rcases g with⟨RW,e,ζ⟩|⟨RW,e,ζ⟩
 .obtain ⟨ns,hz,vs,a,o,f,l,h1,h2,c,_,hp,_⟩:=D9 I.S8 e;let b:f.Q'=RW.β:=by rw[a.β,<-hp.β];simp
  refine pA (X:=X) ns h1 h2 c (Fp b hz) λt t'=>(.QG (RW.β:χ),H,I.Wa _,(t,by rw[b]),q)
 .obtain ⟨ns,hz,xs,a,o,f,l,h1,h2,c,k,_⟩:=(I.S8 d _ e).1;let b:f.Q'=RW.β:=by rw[V0.β a,<-UA,k,j']
  refine pA (X:=X) ns h1 h2 c (Fp b hz) λt t'=>(.QG (RW.β:χ),H,I.Wa _,(t,by rw[b]),q)
inductive NL where
 |bl|Wh|pair
abbrev xC QKU QBP(d:θ):NL->HO
 |.bl=>BH (EA P w) d []
 |.Wh=>Ba (D8 P w) d []
 |.pair=>Ba (bb P w) d []
def zL QKP(a:Sx<h.SN.Q')(k:NL):Ai P w H (h.Rm {SS:=.QU "dict",RH:=.Uk #[]}) h.SN.Q' (xC P w h.SN.Q' k):=by
 let ns:(h.SN.Q'==Sx)=ν:=RX.Sz (Ne.QI (RM a));cases k with
 |bl=>show By (Y2:=EA P w) ns QDt .S5 QJX
 |Wh=>show g9 (D:=D8 P w) ns QDt .S5 QJY
 |pair=>show g9 (D:=bb P w) ns QDt .S5 QJY
inductive OH QKU QBP(_0:St)QAH QAR:Prop
 |mk (k:_) (_:∀p,H p=ε->Q QAp (QO H p (xC P w p k)))
def xj:PE X (.Dict [] [] Ri) (OH X.Ω X.w):=λb s c H Q I⟨k,h⟩=>
 wpAny_Dict_empty (.ξ s⁻¹,_,I.Xy (a:=s⁻¹) (o:=xC X.Ω X.w s⁻¹ k) (t':=s.QT) (λ_ _ q=>o9 _ q) QA2 (zL s.ρ I.bigS k),1,h _ QDA)
end
namespace ZP
section
variable{Ω:Id}{w:QW}{A:Qy}{E:η->ω->Prop}{s:ω}{z TI TO i1 i2:θ}{f1 f2:γ θ}{n1 n2 k:χ}{P1 P2:χ->η->Prop}{S1 S2:χ->RC->Prop}{a b:η}
abbrev Gw QCs:UQ:={SS:=.QU "tuple_iterator",RH:=.SD #[.ξ a,.QG 0 0]}
def uY QHA(d:s.ρ.Vv a c)(h:Q QAX {s with ρ:=s.ρ.Rm (Gw a)}):Fr QAU A (YX QAd) Q E s:=wpAny_pyIter_tuple d h
end
end ZP
def kU:∀{ns:γ Λ}QCH,ad QBU us->XN us ns
 |[],_,r=>by rw[γ.map_nil]at r;cases r;show .S5
 |n::ns,_,r=>by
  rw[UY]at r;cases r with
  |Rc h t=>
   let⟨u,ζ⟩:=(show ∃t,_=η.QG n t from h);show .Rc n u (kU t)
section
variable{X:Cx}
inductive rIndexB(x:V)QAI QAH QAR:Prop
 |mk (l:θ) (bs:γ Ψ) QI8 (_:vs=[.bl ν]) (_:H l<*.QV (bs.Q_ V.bl)) (_:ν∈bs) (_:Q (.QG (bs.QP ν:χ)) H)
def gN:Kn X "list.index" rIndexB:=by
 intro B s S H x vs v us Q I E J h;let⟨l,bs,ζ,ζ,D,O,q⟩:=h;cases E;let⟨u,ζ,L⟩:=J.UX;cases L;let⟨z,R9,n,r,T,e⟩:=I.lstM D;let d:R9.β=bs.β:=by rw[<-r.β,j']
 let k:bs.QP ν<bs.β:=QS O;let g:∀QHW(p:j<R9.Θ.Q'),∃f:j<bs.β,R9.Θ[j]=.UV bs[j]:=λj p=>by
  let f:j<bs.β:=by simpa[d]using p
  refine(f,3);let⟨a,R,M⟩:=r.Yj (i:=j) (x:=.bl bs[j]) (by rw[na,j_ f];rfl);cases M;let⟨_,q⟩:=l' R;simpa using q
 let t:((bs.QP ν:χ):Λ)<2^63-1:=by
  let P:(bs.Q_ V.bl).β≤Φ:=(I.QV D).Zn.Zn.2.2;rw[j',S']at P;show ID k P
 refine call_meets F.XZ (_,e,1) F.entry_list_index (F.args_list_index_2 _ _) (S4.list_indexAt l R9.Θ n ε #[] (.UV ν) (λy=>match y with|.UV b=>b==ν|_=>ν) (bs.QP ν) (by simpa[d]using k) t ?_ ?_) (e,3,QD6)
 .obtain ⟨f,o⟩:=g (bs.QP ν) (by simpa[d]using k);rw[o];have:=TF f;rw[this];rfl
 .intro m w C;let⟨f,o⟩:=g m w;rw[o];change (bs[m]==ν)=ν;cases A:bs[m]with
  |π=>rfl
  |ν=>
   have:=RA.HG (l:=bs) (c:=ν) (i:=m) (by rw[j_ f,A]);lia
 .intro y N;let⟨j,p,ζ⟩:=R_.mem_iff_getElem.mp N;let⟨f,o⟩:=g j p;rw[o];show S4.VM.bool_bool _ _
inductive LK QBQ(x:V)(y:V)QAH QAR:Prop
 |mk (p q:θ) (xs ys:γ Λ) (_:x=.ξ p) (_:y=.ξ q) (_:H p<*.QV (xs.Q_ V.QG)) (_:H q<*.QV (ys.Q_ V.QG)) (_:xs.β=ys.β) (_:Q (.bl (decide (xs=ys))) H)
def zJ(J:X.A.S_<UJ):y' X (So .Eq) (LK X.K):=by
 intro o s T H x y v u Q I B w h;let⟨p,q,xs,ys,ζ,ζ,hp,M,U,k⟩:=h;cases B;cases w;let⟨R9,n,g,F⟩:=I.V8 QJZ;let⟨c,m,f,E⟩:=I.V8 (k9.of M);let l1:=n.β;let l2:=m.β;rw[j']at l1 l2;refine S4.eq_listAt (e:=λj=>decide QEK) g.VE f.VE (by simp;lia) J (λj h1 h2=>?_) QGv
 .let r:j<xs.β:=by simp at h1;show BW h1 l1
  let d:j<ys.β:=Fi r U
  let⟨a,O,D⟩:=n.Yj (i:=j) (x:=.QG xs[j]) (by rw[na,j_ r];rfl);let⟨b,N,C⟩:=m.Yj (i:=j) (x:=.QG ys[j]) (by rw[na,j_ d];rfl);let⟨t,ζ⟩:=D;let⟨t',ζ⟩:=C;let S:R9.Θ[j]=.QG xs[j] t:=by
   let⟨_,e⟩:=l' O;simpa using e
  let R:c.Θ[j]=.QG ys[j] t':=by
   let⟨_,e⟩:=l' N;simpa using e
  rw[S,R];let P:decide QEK=(xs[j]==ys[j]):=by
   rw[nt,nt,j_ r,j_ d];by_cases z:xs[j]=ys[j]<;>simp[z]
  change S4.VM _ _ _ _ (decide QEK);rw[P];show S4.VM.int_int _ t _ t'
 .let e:((γ.Re R9.Θ.Q').UW λj=>decide QEK)=decide (xs=ys):=by
   let L:R9.Θ.Q'=xs.β:=by simp;lia
   rw[L];by_cases z:xs=ys
   .subst z;simp
   .rw [QJ z,Ψ.Y7];intro UW;refine z (Vt λi=>?_);rw[Ro]at UW;by_cases l:i<xs.β
    .have:=SW (UW i (Rr.Sz l));rw[nt,nt,j_ l,j_ (Fi l U)]at this;rw[j_ l,j_ (Fi l U)];show Qw δ this
    .rw [T8 (Ck l),T8 (II U l)]
  rw[e];show k
end
abbrev Kx QCs QCm:It:=⟨λi H=>∃xs,H a=δ QFn/\xs.β=n/\i<n,λi H v H'=>H'=H/\∃xs,H a=δ QFn/\xs[n-1-i]?<*v,λi _=>i=n⟩
def sJ QC7(a it:θ)QCm:gm P w K tg (Kx a n) [it] it (λi h=>h.IsRevIter it a ((n:Λ)-1-(i:Λ)))  where
 mem:=by simp
 Yd:=λi h st b j=>by
  let e:b=it:=by simpa using j
  subst e;let⟨o,e,c,d⟩:=st;show(o,e,λv z=>by rw[d]at z;cases z)
 UB:=λi h h' st k=>st.at λo e=>k it (!1) o e
 Yi:=by
  intro X y hw A O i f s L H E I r st l;subst y hw A;let⟨xs,N,hl,hi⟩:=l;let J:(n:Λ)-1-(i:Λ)=((n-1-i:χ):Λ):=Ij hi
  rw[J]at st;let M:xs[n-1-i]?<*(xs[n-1-i]'(!2)):=j_ _;let⟨R9,Q,p,hz⟩:=I.V8 (k9.of N);let⟨u,S,R⟩:=Q.Yj M;let⟨m,F,W,D,C,B⟩:=r it (!1);refine wpAny_pyNext_rev_item st p.VE (x:=u) (by simpa using S) λh' g q=>?_;let Z:f' X f L H {s with ρ:=h'}:=I.Sr (t':=s.QT) (λb o j e=>(q.2 b j).ο e) m F D C B;let Y:((n-1-i:χ):Λ)-1=(n:Λ)-1-((i+1:χ):Λ):=by lia
  rw[Y]at g;let⟨o,T,t,U⟩:=id g;refine(u,1,eV (s:={s with ρ:=h'}) T t U (!0) (_,H,Z,R,(1,xs,N,M),g,λb j=>?_));let e:b=it:=by simpa using j
  subst e;show m
 done:=by
  intro X y hw A O i f s L H E I r st l;subst y hw A;let l:i=n:=l;let J:(n:Λ)-1-(i:Λ)=-1:=by lia
  rw[J]at st;let⟨m,F,W,D,C,B⟩:=r it (!1);show wpAny_pyNext_rev_end (I.ok.hd O) st λh' q=>(1,I.Sr (t':=s.QT) (λb o j e=>q b o j e) m F D C B)
 self:=λ_ _ _ _ _ st h=>wpAny_pyIter_revIter st h
inductive OI QB7 QAI QDz:Prop
 |mk (a xs:_) QEY (_:H1 a<*.QV xs) (_:R (Kx a xs.β) H1)
abbrev LM QG9:TI:=λσ H R=>t σ H (OI R)
def zA{l a:SH}QGA(x:Gl X "reversed")(w:X.mg "reversed"=ε)(A:PA X [a] ta)(u:QKb>>>4)(i:QCN>>>4):PI X l (.T0 (.SG "reversed" p) [a] [] Ri) (LM ta):=by
 intro f s k H R I h;refine Rg (u_ I x w boot_reversed (Su.WZ.Tw (nb (A Ri f s k H _ I h) λus d z=>?_) u i));let⟨vs,B,g,r,b,xs,ζ,v,q⟩:=z;let⟨C,ζ,n⟩:=Ch r;cases n;let⟨R9,m,t,hz⟩:=g.V8 (k9.of v);let hsz:R9.Θ.Q'=xs.β:=by rw[m.β];simp
 refine call_reversed_list t.VE ?_;let j:(d.ρ.Rm QKt).IsRevIter d⁻¹ b ((xs.β:Λ)-1-((0:χ):Λ)):=(_,QN _ ζ,1,by rw[hsz];simp[revObj]);refine wpAny_pyIter_revIter (s:={d with ρ:=d.ρ.Rm QKt}) j ?_;refine(_,[d⁻¹],_,Kx b xs.β,B,1,g.XD (t':=d.QT) λb o e=>o9 _ e,sJ b _ _,j,λc y=>?_,q);let e:c=d⁻¹:=by simpa using y
 subst e;show g.fpOk QA2 (g.S8.SZ QA2)
end L2
namespace RA
def gQ QA5(c d:χ):∀{a b:LN},am L a b=π->am L (a++[c]) (b++[d])=π
 |[],_,h=>by simp[am]at h
 |_::_,[],h=>by simp[am]at h
 |x::a,y::b,h=>by
  rw[Vo,Vo,am];rw[am]at h;by_cases e:x=y
  .rw [IO e]at h⊢;show gQ L c d h
  .rw [Cl e]at h⊢;show h
def NM QA5 QHP:∀{a b:LN},a.β=b.β->am L (a++[c]) (b++[c])=π->am L a b=π
 |[],[],_,h=>by simp[am]at h
 |[],_::_,e,_=>by simp at e
 |_::_,[],e,_=>by simp at e
 |x::a,y::b,e,h=>by
  rw[Vo,Vo,am]at h;rw[am];by_cases q:x=y
  .rw [IO q]at h⊢;show NM L c QCu h
  .rw [Cl q]at h⊢;show h
def gR QA5{c d:χ}(b:L.QP c<L.QP d):∀a:LN,am L (a++[c]) (a++[d])=π
 |[]=>by
  rw[γ.nil_append,γ.nil_append,am,Cl (λe=>by rw[e]at b;lia)];show RI b
 |x::a=>by
  rw[Vo,Vo,am,IO ζ];show gR L b a
def ef QA5:∀{a b:LN},am L a b=π->am L b a=ν
 |[],_,h=>by simp[am]at h
 |_::_,[],h=>by simp[am]at h
 |x::a,y::b,h=>by
  rw[am]at h⊢;by_cases e:x=y
  .rw [IO e]at h;rw[IO e.QI];show ef L h
  .rw [Cl e]at h;rw[Cl (Ne.QI e)];have:=SW h;show QJ (!6)
def d8 QA5:∀{a b c:LN},am L a b=π->am L b c=π->am L a c=π
 |[],_,_,h,_=>by simp[am]at h
 |_::_,[],_,h,_=>by simp[am]at h
 |_::_,_::_,[],_,h=>by simp[am]at h
 |x::a,y::b,z::c,h,k=>by
  rw[am]at h k⊢;by_cases e:x=y
  .subst e;rw[IO ζ]at h;by_cases f:x=z
   .rw [IO f]at k⊢;show d8 L h k
   .rw [Cl f]at k⊢;show k
  .rw [Cl e]at h;let h1:=SW h;by_cases f:y=z
   .subst f;rw[Cl e];show h
   .rw [Cl f]at k;let k1:=SW k;rw[Cl (λg=>by rw[g]at h1;lia)];show RI (!6)
def d9{L:LN}:∀{a b:LN},a.β=b.β->QKc->(∀c∈b,c∈L)->am L a b=π\/a=b\/am L b a=π
 |[],[],_,_,_=>.Rh QAz
 |[],_::_,e,_,_=>by simp at e
 |_::_,[],e,_,_=>by simp at e
 |x::a,y::b,e,f,g=>by
  rw[am,am];by_cases q:x=y
  .subst q;rw[IO ζ,IO ζ];rcases d9 (a:=a) (b:=b) QCu (λc d=>f c (by simp[d])) (λc d=>g c (by simp[d]))with h|h|h
   .exact .RN h
   .exact .Rh (.RN (by rw[h]))
   .exact .Rh (.Rh h)
  .rw [Cl q,Cl (Ne.QI q)];rcases V6 (L.QP x) (L.QP y)with h|h|h
   .exact .RN (RI h)
   .exact QL (De (f x (!1)) h) q
   .exact .Rh (.Rh (RI h))
section
variable{L a b c:LN}
def HK(h:a.β<b.β):u6 L a b=π:=by
 unfold u6;rw[IO (IW h)];show RI h
def EC(h:a.β=b.β):u6 L a b=am L a b:=by
 unfold u6;rw[Cl QDr]
def fi QIK:a.β≤b.β:=by
 by_cases e:a.β=b.β
 .exact GY e
 .unfold u6 at h;rw[IO e]at h;have:=SW h;show Eh this
def vG(x y:χ)QIK:u6 L (a++[x]) (b++[y])=π:=by
 let d:=fi h;by_cases e:a.β=b.β
 .rw [EC (by simp[e])];rw[EC e]at h;show gQ L x y h
 .exact HK (by simp;show zo35 e d)
def vH(h:L.QP x<L.QP y):u6 L (a++[x]) (a++[y])=π:=by
 rw[EC (!1)];show gR L h a
def Ky QIK:u6 L b a=ν:=by
 let d:=fi h;by_cases e:a.β=b.β
 .rw [EC e]at h;rw[EC e.QI];show ef L h
 .unfold u6;rw[IO (Ne.QI e)];show QJ (IL d)
def Bb QIK(k:u6 L b c=π):u6 L a c=π:=by
 let h1:=fi h;let h2:=fi k;by_cases e:a.β=c.β
 .rw [EC (!6)]at h k;rw[EC e];show d8 L h k
 .exact HK (!6)
def xZ:u6 L a []=ν:=by
 unfold u6;by_cases e:a.β=([]:LN).β
 .rw [Cl QCu];cases a<;>simp[am]
 .rw [IO e];simp
def ie(f:∀x∈a,x∈L)(d:∀x∈b,x∈L):u6 L a b=π\/a=b\/u6 L b a=π:=by
 by_cases e:a.β=b.β
 .rw [EC e,EC e.QI];show d9 e f d
 .by_cases h:a.β<b.β
  .exact .RN (HK h)
  .exact .Rh (.Rh (HK (!6)))
def jp(e:∀x∈a,x∈L)(d:∀x∈b,x∈L)(h:u6 L b a=ν)(k:u6 L c b=ν):u6 L c a=ν:=by
 cases q:u6 L c a with
 |ν=>rfl
 |π=>
  rcases ie e d with t|t|t
  .rw [Bb q t]at k;cases k
  .rw [<-t,q]at k;cases k
  .rw [t]at h;cases h
def lx(x:χ)(h:u6 L b a=ν):u6 L (b++[x]) (a++[x])=ν:=by
 cases q:u6 L (b++[x]) (a++[x])with
 |ν=>rfl
 |π=>
  let d:=fi q;by_cases e:b.β=a.β
  .rw [EC (by simp[e])]at q;rw[EC e,NM L x e q]at h;cases h
  .rw [HK (by simp at d;show zo35 e d)]at h;cases h
end
section
variable{κ:Type}[Sb κ]
abbrev aR(g:κ->χ->κ)QA5(s:κ)QFP:κ:=w.foldl (λt c=>g t QBS) s
def LO(g:κ->χ->κ)QA5(s:κ)QFP QHP:aR g L s (w++[c])=g (aR g L s w) QBS:=by
 unfold aR;rw[γ.Y6];rfl
structure Bf(g:κ->χ->κ)QA5(s:κ)(ts:γ κ)(ws:LL)(n k:χ):Prop where
 TL:ts.β=ws.β
 nd:ts.R7
 t0:ts[0]?<*s
 w0:ws[0]?<*[]
 srt:∀(i j:χ)(a b:LN),i<j->ws[i]?<*a->ws[j]?<*b->u6 L a b=π
 lead:∀QBB(t:κ)(a:LN),ts[i]?<*t->ws[i]?<*a->QKc/\aR g L s a=t
 par:∀QHW(b:LN),ws[j]?<*b->b=[]\/∃(p q:χ)(a:LN),ws[p]?=δ a/\q<L.β/\b=a++[L.LT q 0]/\(p<n\/(p=n/\q<k))
 fin:∀(r q:χ)(t:κ)(a:LN),(r<n\/(r=n/\q<k))->q<L.β->ts[r]?<*t->ws[r]?<*a->∃(j:χ)(b:LN),ts[j]?=δ (g t q)/\ws[j]?=δ b/\u6 L (a++[L.LT q 0]) b=ν
variable{g:κ->χ->κ}{L:LN}{s:κ}{ts:γ κ}{ws:LL}{n k:χ}
def Bf.WJ(g:κ->χ->κ)QA5(s:κ):Bf g L s [s] [[]] 0 0 where
 TL:=ζ
 nd:=by simp
 t0:=ζ
 w0:=ζ
 srt:=λi j a b l f d=>by
  have:=(l' d).1;simp at this;lia
 lead:=λi t a e f=>by
  match i,e,f with
  |0,e,f=>cases e;cases f;show(λc m=>by simp at m,1)
  |i+1,e,_=>simp at e
 par:=λj b d=>by
  match j,d with
  |0,d=>cases d;show .RN ζ
  |j+1,d=>simp at d
 fin:=λr q t a h=>by lia
def Bf.behind QHX(d:L.R7){a:LN}(i:ws[n]?<*a)(f:k<L.β)QIJ{b:LN}(l:ws[j]?<*b):u6 L b (a++[L.LT k 0])=π:=by
 rcases h.par j b l with ζ|⟨p,q,r,hp,e,ζ,c⟩
 .exact HK (!1)
 .rcases c with c|⟨rfl,c⟩
  .exact vG _ _ (h.srt p n r a c hp i)
  .rw [i]at hp;cases hp;refine vH ?_;let o:L.QP (L.LT q 0)=q:=by rw[nt,j_ e];show HF d e
   let m:L.QP (L.LT k 0)=k:=by rw[nt,j_ f];show HF d f
   rw[o,m];show c
def pq(h:r<n\/(r=n/\q<k+1)):(r<n\/(r=n/\q<k))\/(r=n/\q=k):=by lia
def Bf.old QHX(u:L.R7){t:κ}{a:LN}(v:ts[n]?<*t)(o:ws[n]?<*a)(y:k<L.β)(x:g t k∈ts):Bf g L s ts ws n (k+1):=
 {h with
  par:=λj b z=>by
   rcases h.par j b z with e|⟨p,q,i,h1,h2,A,B⟩
   .exact .RN e
   .exact .Rh (p,q,i,h1,h2,A,Iq B)
  fin:=λr q t' i f w c d=>by
   rcases pq f with f|⟨rfl,ζ⟩
   .exact h.fin r q t' i f w c d
   .rw [v]at c;rw[o]at d;cases c;cases d;let⟨j,m⟩:=Rl.mp x;let l:j<ws.β:=by rw[<-h.TL];show(l' m).1
    show(j,ws[j],m,j_ l,Ky (h.behind u o y (j_ l)))}
def Bf.new QHX(O:L.R7){t:κ}{a:LN}(F:ts[n]?<*t)(E:ws[n]?<*a)(C:k<L.β)(S:g t k∉ts):Bf g L s (ts++[g t k]) (ws++[a++[L.LT k 0]]) n (k+1):=by
 let P:L.LT k 0=L[k]:=by rw[nt,j_ C];rfl
 let w:∀{o:Type}{l:γ o}{x y:o}QEH,l[i]?<*y->QKu[i]?<*y:=λ{o l x y i}e=>by
  rw[QK (l' e).1];show e
 let split:∀{o:Type}{l:γ o}{x y:o}QEH,QKu[i]?<*y->l[i]?<*y\/(i=l.β/\y=x):=λ{o l x y i}e=>by
  by_cases T:i<l.β
  .rw [QK T]at e;show .RN e
  .rw [QM (Ck T)]at e;have:i-l.β=0:=by
    have:=(l' e).1;simp at this;omega
   rw[this]at e;show .Rh (GM this T,(ψ.δ.Tp e).QI)
 let A:(ts++[g t k])[ts.β]?<*g t k:=by rw[QM QA2,XO];rfl
 let u:(ws++[a++[L.LT k 0]])[ws.β]?<*(a++[L.LT k 0]):=by rw[QM QA2,XO];rfl
 let⟨I,B⟩:=h.lead n t a F E;refine(by simp[h.TL],3,w h.t0,w h.w0,λi j x y J d z=>?_,λi t' x f d=>?_,λj b M=>?_,λr q t' x H R f d=>?_)
 .rw [γ.Y0];show(h.nd,!1,λx d y z e=>S (by rw[yl z]at e;rw[<-e];show d))
 .rcases split z with z|⟨rfl,ζ⟩
  .rcases split d with d|⟨rfl,ζ⟩
   .exact h.srt i j x y J d z
   .have:=(l' z).1;lia
  .rcases split d with d|⟨rfl,ζ⟩
   .exact h.behind O E C d
   .lia
 .rcases split f with f|⟨rfl,ζ⟩
  .rcases split d with d|⟨rfl,ζ⟩
   .exact h.lead i t' x f d
   .have:=(l' f).1;rw[h.TL]at this;lia
  .rcases split d with d|⟨_,ζ⟩
   .have:=(l' d).1;rw[h.TL]at this;lia
   .refine (λc D=>?_,3)
    .rcases Rp.mp D with D|D
     .exact I c D
     .rw [yl D,P];show Rv C
    .rw [LO,B,P,HF O C]
 .rcases split M with M|⟨rfl,ζ⟩
  .rcases h.par j b M with e|⟨p,q,Z,h1,h2,U,h4⟩
   .exact .RN e
   .exact .Rh (p,q,Z,w h1,h2,U,Iq h4)
  .exact .Rh (n,k,a,w E,C,1,.Rh (1,R8 k))
 .let Q:r≤n:=by lia
  let hn:=(l' F).1;let m:ts[r]?<*t':=by rw[QK (Fk hn Q)]at f;show f
  let v:ws[r]?<*x:=by rw[QK (by rw[<-h.TL];show Fk hn Q)]at d;show d
  rcases pq H with H|⟨rfl,ζ⟩
  .obtain ⟨j,b,Y,X,W⟩:=h.fin r q t' x H R m v;show(j,b,w Y,w X,W)
  .rw [F]at m;rw[E]at v;cases m;cases v;refine(ts.β,_,A,by rw[h.TL];show u,3);cases N:u6 L (a++[L.LT q 0]) (a++[L.LT q 0])with
   |ν=>rfl
   |π=>show N.QI.ο (Ky N)
def Bf.next(h:Bf g L s ts ws n L.β):Bf g L s ts ws (n+1) 0:=
 {h with
  par:=λj b f=>by
   rcases h.par j b f with e|⟨p,q,m,h1,h2,l,u⟩
   .exact .RN e
   .exact .Rh (p,q,m,h1,h2,l,!6)
  fin:=λr q t a o d c i=>h.fin r q t a (!6) d c i}
def Bf.told(h:Bf g L s ts ws ts.β 0)(F:L.R7):∀QFP QK5,w.β=m->QA7->∃(j:χ)(b:LN),ts[j]?=δ (aR g L s w)/\ws[j]?=δ b/\u6 L w b=ν:=by
 intro w m;induction m generalizing w with
 |Xe=>
  intro e _;rw[TB.mp e];show((0),[],h.t0,h.w0,xZ)
 |Wu m u=>
  intro e hw;obtain⟨c,v,ζ⟩:∃c v,w=v++[c]:=(w.getLast (by intro z;rw[z]at e;cases e),w.VG,(γ.Te _).QI);let y:∀x∈v,x∈L:=λx d=>hw x (by simp[d]);let l:c∈L:=hw c (!1);let⟨r,a,i,t,E⟩:=u v QCu y;let A:=(l' i).1;let f:L.QP c<L.β:=QS l;let⟨j,b,q,p,o⟩:=h.fin r QBS _ a (.RN A) f i t;let D:L.LT QBS 0=c:=by rw[nt,j_ f];show TF f
  rw[D]at o;let⟨C,_⟩:=h.lead r _ a i t;refine(j,b,by rw[LO];show q,p,3);let⟨B,_⟩:=h.lead j _ b q p;refine jp (b:=a++[c]) B (λx d=>?_) o (lx c E);rcases Rp.mp d with d|d
  .exact C x d
  .rw [yl d];show l
abbrev Bz(U ts:γ κ):χ:=U.countP λx=>!decide (x∈ts)
def gU{U ts:γ κ}{x:κ}(b:x∈U)(a:x∉ts):Bz U (ts++[x])<Bz U ts:=by
 refine LF (λz hz h=>?_) (x,b,3,3)
 .simp only[Wg,decide_eq_false_iff_not]at h⊢;show λq=>h (Vb _ q)
 .simp only[Wg,decide_eq_false_iff_not];show a
 .simp only[Ψ.not_eq_false',S3];show Ry _ (To.Sz ζ)
end
end RA
namespace L2
open PySem.Spec PyProof.Rows
abbrev CS(J:It)QCs(o:HO)QCK:Prop:=∀H2:Hp,H2 a<*o->(∀i,i<xs.β->J.go i H2)/\(∀i x H3,i<xs.β->J.yld i H2 x H3->H3=H2/\xs[i]?<*x)/\J.We xs.β H2
def zG QC7:CS (Fz K a) a QFn xs:=λf e=>
 (λi h=>(xs,xs[i],k9.of e,j_ h),λi x d _ b=>by let⟨c,h⟩:=b;show(c,h xs (k9.of e)),(xs,k9.of e,QA _))
def zF QC7:CS (Nw K a) a QHM xs:=λf e=>
 (λi h=>(xs,xs[i],q5.of e,j_ h),λi x d _ b=>by let⟨c,h⟩:=b;show(c,h xs (q5.of e)),(xs,q5.of e,QA _))
inductive LP QB7(x:V)QDz:Prop
 |mk (a o xs:_) QET (_:(o=.QV xs\/o=.Rn xs)) (_:H1 a<*o) (_:∀J,CS J a o xs->R J H1)
abbrev LQ(tl:TE):TI:=λσ H R=>tl σ H (LP R)
def CH(y:PE X l n):PI X A l (LQ n):=by
 intro f s m H R I h;refine nb (y f s m H _ I h) λv c i=>?_;let⟨x,j,g,t,u⟩:=i;let⟨a,o,xs,e,w,k,q⟩:=u;subst e;cases t;let d:∀b∈[c⁻¹],aL X f j b:=λb z=>by
  let e:b=c⁻¹:=by simpa using z
  subst e;show g.fpOk QA2 (g.S8.SZ QA2)
 rcases w with ζ|rfl
 .obtain ⟨R9,r,p,hz⟩:=g.V8 (k9.of k);refine Wb p.VE ?_;show(c⁻¹,[c⁻¹],8,j,1,g.XD (t':=c.QT) λb o e=>o9 _ e,gu a _,QC',d,q _ zG)
 .obtain ⟨R9,r,p,hz⟩:=g.Uu (q5.of k);refine wpAny_pyIter_tuple (show c.ρ.Vv a R9.Θ from p) ?_;show(c⁻¹,[c⁻¹],8,j,1,g.XD (t':=c.QT) λb o e=>o9 _ e,mB a _,QC',d,q _ zF)
def lh{g:TG}{k:TS}{D:ZA}(u:CS J a o xs)(d:χ->St->Hp->Prop)(B:d 0 b H)(w:∀i b H,d i b H->H a<*o)(v:∀i x b H,xs[i]?<*x->d i b H->g x b H λf j=>k {D with nx:=d (i+1),ct:=d (i+1),bk:=D.nx} f j)(A:∀b H,d xs.β b H->D.nx b H):∃W:χ->χ->St->Hp->Prop,QKX/\∀i m b H,W i m b H->
   (J.We i H/\D.nx b H)\/(J.go i H/\∃N:St->Hp->Prop,(∀h H',N h H'->∃l,l<m/\W (i+1) l h H')/\∀x H',J.yld i H x H'->g x b H' λf j=>k {D with nx:=N,ct:=N,bk:=D.nx} f j):=by
 refine(λi m b H=>m=xs.β-i/\i≤xs.β/\d i b H,(xs.β,!1,RO _,B),3);rintro i m b H⟨rfl,z,p⟩;let⟨s,r,q⟩:=u H (w i b H p);by_cases c:i<xs.β
 .refine .Rh (s i c,d (i+1),λh H' t=>(xs.β-(i+1),Ui _ _ c,1,c,t),λx H' y=>?_);let⟨e,n⟩:=r i x H' c y;subst e;show v i x b _ n p
 .let e:i=xs.β:=WQ z (SQ c);subst e;show .RN (q,A b H p)
def LR{tt:TT}{u:TE}{q:St}{Q:VK}(B:CS J a o xs)(L:H a<*o)(l:θ->χ->γ V->Hp->Prop)(hz:xs.β≤Φ)(M:∀D,H D=ε->l D 0 [] (QO H D (.QV [])))(E:∀(D:θ)(i:χ)(x:V)(ys:γ V)(H':Hp)(v:VK)(R2:Hp->Prop),H D=ε->xs[i]?<*x->a' H H'->H' D<*.QV ys->l D i ys H'->
   (∀y h,h D<*.QV ys->a' H QDf->l D (i+1) QBl QDf->v y h)->(∀g,a' H g->g D<*.QV ys->l D (i+1) ys g->R2 g)->
   tt (δ x::q) H' λb g=>if b=π then u (δ x::q) g v else R2 g)(F:∀D ys H',H D=ε->a' H H'->H' D<*.QV ys->l D xs.β ys H'->Q (.ξ D) H'):∀D,H D=ε->∃W:χ->χ->γ V->Hp->Prop,
 (∃m,W 0 m [] (QO H D (.QV [])))/\∀i m ys f,W i m ys f->f D=δ (.QV ys)/\((J.We i f/\Q (.ξ D) f)\/(J.go i f/\ys.β<Φ/\∀x p,J.yld i f x p->
  tt (δ x::q) p λb g=>if b=π then u (δ x::q) g λy h=>h D=δ QBZ/\∃n,n<m/\W (i+1) n QBl QDf
   else ∃n,n<m/\W (i+1) n ys g)):=by
 intro D r;refine(λi m ys f=>m=xs.β-i/\i≤xs.β/\ys.β≤i/\a' H f/\f D=δ QBZ/\l D i ys f,(xs.β,!1,RO _,!1,a'.QO r,hJ,M D r),3);rintro i m ys f⟨rfl,I,t,j,k,hp⟩;refine(k,3);let⟨A,z,w⟩:=B f (j _ _ L);by_cases d:i<xs.β
 .refine .Rh (A i d,SA t (QD d hz),λx p s=>?_);let⟨e,C⟩:=z i x p d s;subst e;show E D i x ys p _ _ r C j k hp (λy h a b c=>(a,xs.β-(i+1),Ui _ _ d,1,d,by rw[q4];show Wc t,b,hJ,c)) (λg a b c=>(xs.β-(i+1),Ui _ _ d,1,d,χ.le_succ_of_le t,a,b,c))
 .let e:i=xs.β:=WQ I (SQ d);subst e;show .RN (w,F D ys f r j k hp)
def ED QBQ QGB:D6 X (w6 K):=by
 subst a;show jm
def HL QBQ QGB:D6 X (qI K):=by
 subst a;show jl
def rD{X:Cx}QKU QBP(a:X.A.S_+64<UJ)(b:(X.Ω=P)>>>4)(hw:(X.w=w)>>>4):D6 X (NJ P w):=by
 subst b hw;show uX a
def uk:CS (Kx a ys.β) a QBZ ys.Rt:=λj e=>by
 refine(λi h=>(ys,e,1,by simpa using h),λi x g c h=>?_,3)
 .obtain ⟨f,xs,b,d⟩:=h;rw[e]at b;cases b;refine(f,3);rw[γ.getElem?_reverse QIX];show d
 .change ys.Rt.β=ys.β;rw[Sh]
def ii QBy(h:t≤xs.β):Ad xs ε (δ (t:Λ))=xs.R0 t:=by
 unfold Ad;rw[HT.Cq,HT.Db,γ.drop_zero,χ.sub_zero,χ.min_eq_left h]
end L2
namespace RA
open L2
inductive KS where
 |RN QK3
 |Rh (k:NK)
instance:DecidableEq KS:=λa b=>match a,b with
 |.inl a,.inl b=>if h:a=b then isTrue (by rw[h])else isFalse λz=>h (KS.inl.inj z)
 |.inr a,.inr b=>if h:a=b then isTrue (by rw[h])else isFalse λz=>h (KS.inr.inj z)
 |.inl _,.inr _=>isFalse λz=>by cases z
 |.inr _,.inl _=>isFalse λz=>by cases z
abbrev Kz:KS->Ψ
 |.RN _=>ν
 |.Rh _=>π
abbrev mf QAH:KS->V->Prop
 |.RN b,x=>x=.bl b
 |.Rh k,x=>∃p,x=.ξ p/\Fc H k p
def Ar QA1(h:Fc H k a):Fc H' k a:=by
 let⟨b,d,c⟩:=h;show(b,s _ _ d,s _ _ c)
def mf.Wv QA1(h:mf H k x):mf H' k x:=by
 cases k with
 |RN b=>show h
 |Rh k=>
  let⟨p,e,h⟩:=h;show(p,e,Ar s h)
def Jy{g f:Type}[Sb f](b:g->f)(c:g->V)(k:f):∀(RW:γ g)QCm,(∀i x,RW[i]?<*x->c x=.QG ((n+i:χ):Λ))->
  (RW.find? λx=>decide (b x=k)).Q_ c=if k∈RW.Q_ b then δ (.QG ((n+(RW.Q_ b).QP k:χ):Λ))else ε
 |[],n,_=>by simp
 |a::RW,n,h=>by
  by_cases e:b a=k
  .let m:=h 0 a ζ;rw[IO (by simp[e])];subst e;simp[U',m]
  .let j:=Jy b c k RW (n+1) λi x l=>by
    have:=h (i+1) x (by simpa using l);rw[this];congr 2;show F6
   let o:(RW.Q_ b).QP k+1=((a::RW).Q_ b).QP k:=by
    rw[UY,Y4,RX.Sz e];rfl
   rw[U',QJ e];change (RW.find? λx=>decide (b x=k)).Q_ c=_;rw[j];by_cases d:k∈RW.Q_ b
   .rw [IO d,IO (by rw[UY];show Q9 _ d),<-o];congr 3;show Fq
   .rw [Cl d,Cl (by rw[UY,QY];rintro(z|z);show e z.QI;show d z)]
abbrev t5 QKU QBP QAH(d:θ)(Wh:Ψ)(ks:γ KS):Prop:=
 (Wh=ν/\∃RW:γ (Ψ×V),H d=δ QFY/\(RW.Q_ λx=>(KS.RN x.1:KS))=u5 ks/\∀QBB(x:Ψ×V),RW[i]?<*x->x.2=V.QG (i:Λ)) \/
 (Wh=π/\∃RW:γ (NK×θ×V),H d=δ QFZ/\QFL/\(RW.Q_ λx=>(KS.Rh x.1:KS))=u5 ks/\∀QBB(x:NK×θ×V),RW[i]?<*x->x.2.2=V.QG (i:Λ))
section
variable{P:Id}{w:QW}{H:Hp}{d:θ}{Wh:Ψ}{ks:γ KS}
abbrev jg(ks:γ KS)(k:KS):ψ V:=if k∈u5 ks then δ (.QG ((u5 ks).QP k:χ))else ε
def t5.Yj QCv(j:mf H k x)(g:Kz k=Wh):yy P w H d x (jg ks k):=by
 rcases h with⟨rfl,RW,e,f,c⟩|⟨rfl,RW,e,l,f,c⟩
 .cases k with
  |Rh k=>cases g
  |RN b=>
   refine .RN (RW,b,e,j,3);have:=Jy (λx:Ψ×V=>(KS.RN x.1:KS)) QBr (KS.RN b) RW 0 (λi x a=>by rw[c i x a,χ.Tq]);rw[f]at this;unfold jg aK;rw[χ.Tq]at this;rw[<-this];congr 2;funext x;show Yk.Sz (λz=>KS.RN.Tp z,λz=>by rw[z])
 .cases k with
  |RN k=>cases g
  |Rh b=>
   let⟨p,n,m⟩:=j;refine .Rh (.RN (RW,b,p,e,l,n,m,3));have:=Jy (λx:NK×θ×V=>(KS.Rh x.1:KS)) (·.2.2) (KS.Rh b) RW 0 (λi x a=>by rw[c i x a,χ.Tq]);rw[f]at this;unfold jg aI;rw[χ.Tq]at this;rw[<-this];congr 2;funext x;show Yk.Sz (λz=>KS.Rh.Tp z,λz=>by rw[z])
def t5.TL QCv:NI P w H d (u5 ks).β:=by
 rcases h with⟨_,RW,e,a,_⟩|⟨_,RW,e,_,a,_⟩
 .exact .RN (RW,e,by rw[<-a,j'])
 .exact .Rh (RW,e,by rw[<-a,j'])
def t5.SO QCv(a:k∈u5 ks):t5 P w H d Wh QGy:=by
 unfold t5 at h⊢;rw[Aq,IO a];show h
def t5.Tj QCv QBs:t5 P w H' d Wh ks:=by
 rcases h with⟨a,RW,e,c⟩|⟨a,RW,e,g,c⟩
 .exact .RN (a,RW,s _ _ e,c)
 .exact .Rh (a,RW,s _ _ e,λx f=>Ar (λb xs z=>s _ _ z) (g x f),c)
def t5.Uh QCv(e:H'=QO H d c):∀b xs,H b<*.Rn xs->H' b<*.Rn xs:=λb xs z=>by
 rw[e,a_ (λq=>?_)]
 .exact z
 .subst q;rcases h with⟨_,RW,a,_⟩|⟨_,RW,a,_⟩
  .rw [a]at z;cases z
  .rw [a]at z;cases z
def uz(h:¬ j<n)(h2:j-n<1):j=n:=Ik h2 h
def t5.put QCv(u:mf H k x)(t:Kz k=Wh)(c:k∉u5 ks)(A:(u5 ks).β<Φ):∃v,NH P w H d x (.QG ((u5 ks).β:χ)) (QO H d v)/\t5 P w (QO H d v) d Wh QGy:=by
 let l:jg ks k=ε:=Cl c;let q:=h.Yj u t;rw[l]at q;let D:=h;rcases h with⟨rfl,RW,e,m,o⟩|⟨rfl,RW,e,B,m,o⟩
 .cases k with
  |Rh k=>cases t
  |RN b=>
   let f:(u5 ks).β=RW.β:=by rw[<-m,j']
   let g:aK RW b=ε:=by
    have:=Jy (λx:Ψ×V=>(KS.RN x.1:KS)) QBr (KS.RN b) RW 0 (λi x s=>by rw[o i x s,χ.Tq]);rw[m,Cl c]at this;unfold aK;rw[<-this];congr 2;funext x;show Yk.Sz (λz=>by rw[z],λz=>KS.RN.Tp z)
   refine(_,.RN (RW,b,e,u,g,by rw[<-f];show A,1),.RN (1,RW++[(b,.QG ((u5 ks).β:χ),)],hJ,3,λi y a=>?_))
   .rw [Aq,Cl c,RU,m];rfl
   .by_cases n:i<RW.β
    .rw [QK n]at a;show o i y a
    .rw [QM (SQ n)]at a;let r:=uz n (l' a).1;rw[r,XO]at a;cases a;change V.QG ((u5 ks).β:χ)=_;rw[f,r]
 .cases k with
  |RN k=>cases t
  |Rh b=>
   let f:(u5 ks).β=RW.β:=by rw[<-m,j']
   let⟨p,E,C⟩:=u;let g:aI RW b=ε:=by
    have:=Jy (λx:NK×θ×V=>(KS.Rh x.1:KS)) (·.2.2) (KS.Rh b) RW 0 (λi x s=>by rw[o i x s,χ.Tq]);rw[m,Cl c]at this;unfold aI;rw[<-this];congr 2;funext x;show Yk.Sz (λz=>by rw[z],λz=>KS.Rh.Tp z)
   let j:=D.Uh (H':=QO H d (Ba (D8 P w) d (RW++[(b,p,.QG ((u5 ks).β:χ),)]))) ζ;refine(_,.Rh (.RN (RW,b,p,e,B,E,C,g,by rw[<-f];show A,1)),.Rh (1,RW++[(b,p,.QG ((u5 ks).β:χ),)],hJ,λy a=>?_,3,λi y a=>?_))
   .rcases Rp.mp a with a|a
    .exact Ar j (B y a)
    .rw [yl a];show Ar j C
   .rw [Aq,Cl c,RU,m];rfl
   .by_cases n:i<RW.β
    .rw [QK n]at a;show o i y a
    .rw [QM (SQ n)]at a;let r:=uz n (l' a).1;rw[r,XO]at a;cases a;change V.QG ((u5 ks).β:χ)=_;rw[f,r]
def t5.new QKU QBP QAH(p:θ)(Wh:Ψ):t5 P w (QO H p (xC P w p (if Wh=π then .Wh else .bl))) p Wh []:=by
 cases Wh with
 |ν=>show .RN (1,[],hJ,1,λi x h=>by simp at h)
 |π=>show .Rh (1,[],hJ,λx h=>by simp at h,1,λi x h=>by simp at h)
end
def uB(bs:γ Ψ):ax (bs.Q_ λb=>(KS.RN b:KS))=ax bs:=Kr (by rw[j']) λi j a b f e h1 h2 d c=>by
 rw[na,d]at h1;rw[na,c]at h2;cases h1;cases h2;show(λz=>KS.RN.Tp z,λz=>by rw[z])
def uA(bs:γ NK):ax (bs.Q_ λb=>(KS.Rh b:KS))=ax bs:=Kr (by rw[j']) λi j a b f e h1 h2 d c=>by
 rw[na,d]at h1;rw[na,c]at h2;cases h1;cases h2;show(λz=>KS.Rh.Tp z,λz=>by rw[z])
def jD{a b x:χ}(h:a=b)(c:x<b):x<a:=χ.lt_of_lt_of_eq c h.QI
def OJ(h:i<j+1)(n:¬ i=j):i<j:=χ.Wk (Ug h) n
def vV{n:χ}(h:n≤2100):-(2^62)≤(n:Λ)/\(n:Λ)<2^62:=by lia
def vU{r:Λ}{n:χ}(a:0≤r)(h1:r<n):r.Ru<n:=(Λ.toNat_lt a).Sz h1
def yN(h:¬ j<n)(h2:j-n<1):j=n:=Ik h2 h
def yj{n:χ}(h:1≤n):(0:Λ)<(n:Λ):=Λ.ofNat_lt.Sz h
def yh(h:i<t):t-1-i<t:=Ih h
def OL(h:i<t):∃u,t-i=u+1/\t-1-i=u/\t-(i+1)=u:=(t-i-1,!6,!6,!6)
def OM(h1:w=i)(h2:i<t)(b:t<k+1)(a:k≤4410000):w+1≤16777216:=by lia
def LS(h:k≤4410000):k+1<Φ:=by
 have:16777216≤Φ:=n0 (!0);lia
def yi(z:Λ)(b m:χ)(a:0<m):∃n:χ,(n:Λ)=(b:Λ)+z%(m:Λ)/\b≤n/\n<b+m:=by
 let c:=Λ.YO z (show(m:Λ)≠0 by lia);let h1:=Λ.X4 z (show(0:Λ)<(m:Λ) by lia);show(b+(z%(m:Λ)).Ru,!6,!6,!6)
def ON(h:l+i=26)(a:i≤3):1≤l/\l≤26:=by lia
def OO{n:χ}(h:n≤26):(n:Λ)<1073741824:=by lia
def OP(h1:a≤n)(h2:b≤n)(c:n≤26):a+b≤16777216:=by lia
def yg{x:Λ}(h:0≤x):(x+1).Ru=x.Ru+1:=by lia
def yk(h:k<l)(a:l+i=26):min k l+(l-(k+1))+(i+1)=26:=by lia
def Jz(ws:LN):b_ ws=(zs ws).Q_ V.QG:=by
 unfold b_ zs;rw[γ.map_map];rfl
def mj(ws:LN):(zs ws).β=ws.β:=by simp[zs]
def c_(ws:LN):(b_ ws).β=ws.β:=by simp[b_]
def B7(h:i<ws.β):QHv[i]?<*.QG ((ws.LT i 0:χ):Λ):=by
 unfold b_;rw[na,nt,j_ h];rfl
def Dj{ns:LN}(h:r<ns.β):An QJa (r:Λ)<*.QG ((ns.LT r 0:χ):Λ):=AS (B7 h)
def BI QGk QHl{x:a}(h:l[i]?<*x):l.R0 (i+1)=l.R0 i++[x]:=by
 rw[VP,h];rfl
def ju QAq:decide (V.QG (a:Λ)=V.QG (b:Λ))=decide (a=b):=by
 by_cases h:a=b
 .subst h;simp
 .have:¬ V.QG (a:Λ)=V.QG (b:Λ):=λz=>h (by injection z with z;show Λ.ofNat.Tp z);rw[QJ h,QJ this]
abbrev oV:ψ LN->V
 |ε=>.Uv
 |δ w=>.QZ (tx w)
abbrev br QAH(V7:γ θ)QC9 QAm:Prop:=∀QBB(r:θ),V7[i]?<*r->H r<*.QV (b_ (Rd W B i))
def br.SO(h:br H a W B)QBs:br H' a W B:=λi r e=>s _ _ (h i r e)
def lm(g:j<n)(k:f j=ν):ν∈(γ.Re n).Q_ f/\((γ.Re n).Q_ f).QP ν<n/\f (((γ.Re n).Q_ f).QP ν)=ν/\∀i<((γ.Re n).Q_ f).QP ν,f i=π:=by
 let Yj:∀i,i<n->((γ.Re n).Q_ f)[i]?<*f i:=λi d=>by rw[na,SY d];rfl
 let c:ν∈(γ.Re n).Q_ f:=TZ.Sz (j,Rr.Sz g,k);let b:=QS c;let a:((γ.Re n).Q_ f).QP ν<n:=by simpa using b
 refine(c,a,3,λi d=>?_)
 .let e:=Yj _ a;rw[j_ b,TF b]at e;show(ψ.δ.Tp e).QI
 .let e:=Yj i (GQ d a);cases h:f i with
  |π=>rfl
  |ν=>
   rw[h]at e;have:=HG e;lia
def u0.Yc(d:a.β=W.β)(h:Ew H a W)(c:r<W.β):∃b,a[r]?=δ b/\H b<*.Rn (b_ (W.LT r [])):=by
 let e:a[r]?<*(a[r]' QJW):=j_ _;let⟨ws,h1,h2⟩:=h r _ e;refine(_,e,3);rw[h2,nt,h1];rfl
def Hd QBs(h:H' p=ε):H p=ε:=by
 cases e:H p with
 |ε=>rfl
 |δ o=>rw[s _ _ e]at h;cases h
def ow{tt:TT}{u:TE}{p:St}{Q:VK}(k:θ->χ->γ V->Hp->Prop)(hz:n≤Φ)(C:∀D,H D=ε->k D 0 [] (L2.QO H D (.QV [])))(z:∀(D:θ)(i:χ)(ys:γ V)(H':Hp)(v:VK)(R2:Hp->Prop),H D=ε->i<n->a' H H'->H' D<*.QV ys->k D i ys H'->
   (∀y h,h D<*.QV ys->a' H (L2.QO h D QAO)->k D (i+1) QBl (L2.QO h D QAO)->v y h)->(∀g,a' H g->g D<*.QV ys->k D (i+1) ys g->R2 g)->
   tt (δ (.QG (lo+(i:Λ)))::p) H' λb g=>if b=π then u (δ (.QG (lo+(i:Λ)))::p) g v else R2 g)(A:∀D ys H',H D=ε->a' H H'->H' D<*.QV ys->k D n ys H'->Q (.ξ D) H'):∀D,H D=ε->∃W:χ->χ->γ V->Hp->Prop,
 (∃m,W 0 m [] (L2.QO H D (.QV [])))/\∀i m ys f,W i m ys f->f D=δ (.QV ys)/\(((E7 lo n).We i f/\Q (.ξ D) f)\/((E7 lo n).go i f/\ys.β<Φ/\∀x r,(E7 lo n).yld i f x r->
  tt (δ x::p) r λb g=>if b=π then u (δ x::p) g λy h=>h D=δ QBZ/\∃l,l<m/\W (i+1) l QBl (L2.QO h D QAO)
   else ∃l,l<m/\W (i+1) l ys g)):=by
 intro D q;refine(λi m ys f=>m=n-i/\i≤n/\ys.β≤i/\a' H f/\f D=δ QBZ/\k D i ys f,(n,!1,RO _,!1,a'.QO q,hJ,C D q),3);rintro i m ys f⟨rfl,B,t,o,j,hp⟩;refine(j,3);by_cases d:i<n
 .refine .Rh (d,SA t (QD d hz),λx r s=>?_);let⟨e,w⟩:=s;subst e w;show z D i ys r _ _ q d o j hp (λy h a b c=>(a,n-(i+1),Ui _ _ d,1,d,by rw[q4];show Wc t,b,hJ,c)) (λg a b c=>(n-(i+1),Ui _ _ d,1,d,χ.le_succ_of_le t,a,b,c))
 .let e:i=n:=WQ B (SQ d);subst e;show .RN (QA _,A D ys f q o j hp)
def KA{a:γ θ}(c:a.β=k+1)(h:a[k]?<*b):An (a.Q_ V.ξ) (-1)<*.ξ b:=by
 let e:a=a.R0 k++[b]:=by rw[<-BI h,RT (!6)]
 rw[e,RU];show Kl _ _
def KB{ws:LN}(h:j<ws.β):(ws.Q_ f).LT j 0=f (ws.LT j 0):=by
 rw[nt,nt,na,j_ h];rfl
def HM{ws:LN}(h:j<ws.β):ws.LT j 0∈ws:=by
 rw[nt,j_ h];show Rv h
def pr QHV(h1:H r<*.QV QJa)(h2:H p<*.QV (ls.Q_ V.ξ))(c:ls≠[]):r≠p:=by
 rintro ζ;rw[h1]at h2;injection h2 with h2;injection h2 with h2;cases ls with
 |S5=>show c ζ
 |Rc a l=>
  cases ns with
  |S5=>cases h2
  |Rc n ns=>
   rw[UY,b_,UY]at h2;injection h2 with b _;cases b
section
variable{K:RG}{te:TE}{tt:TT}{σ:St}{H:Hp}{Q:VK}{a c d:θ}{o:HO}{xs zs:γ V}
def D_(h:∀R:VK,R (.ξ a) H->l σ H R)(q:o=.QV xs\/o=.Rn xs)(j:H a<*o)(f:θ->χ->γ V->Hp->Prop)(hz:xs.β≤Φ)(r:∀D,H D=ε->f D 0 [] (L2.QO H D (.QV [])))(n:∀(D:θ)(i:χ)(x:V)(ys:γ V)(H':Hp)(k:VK)(R2:Hp->Prop),H D=ε->xs[i]?<*x->a' H H'->H' D<*.QV ys->f D i ys H'->
   (∀y g,g D<*.QV ys->a' H QCV->f D (i+1) QBl QCV->k y g)->QBK->
   tt (δ x::σ) H' λb e=>if b=π then te (δ x::σ) e k else R2 e)(p:∀D ys H',H D=ε->a' H H'->H' D<*.QV ys->f D xs.β ys H'->Q (.ξ D) H'):Eu (LQ l) tt te σ H Q:=
 h _ (a,o,xs,1,q,j,λJ m=>LR m j f hz r n p)
def JA{n:χ}(j:∀R:γ V->Hp->Prop,R [.QG (n:Λ)] H->t σ H R)(p:n≤2100)(f:θ->χ->γ V->Hp->Prop)(m:∀D,H D=ε->f D 0 [] (L2.QO H D (.QV [])))(k:∀(D:θ)(i:χ)(ys:γ V)(H':Hp)(h:VK)(R2:Hp->Prop),H D=ε->i<n->a' H H'->H' D<*.QV ys->f D i ys H'->
   (∀y g,g D<*.QV ys->a' H QCV->f D (i+1) QBl QCV->h y g)->QBK->
   tt (δ (.QG (0+(i:Λ)))::σ) H' λb e=>if b=π then te (δ (.QG (0+(i:Λ)))::σ) e h else R2 e)(l:∀D ys H',H D=ε->a' H H'->H' D<*.QV ys->f D n ys H'->Q (.ξ D) H'):Eu (yH t) tt te σ H Q:=
 j _ ((n:Λ),1,CM,!6,ow (n:=n) f (n0 (!6)) m k l)
end
def Cu QA5 QC9(r c:χ)(u:LN):Sl L W r (c::u)=Sl L W QJ9 u:=ζ
section
variable{P:Id}{w:QW}{H:Hp}{d q:θ}{ps:γ (χ×χ)}
end
def JB QHu(h:r<B.β):An QGI ((r:χ):Λ)<*.bl (B.LT r ν):=DC V.bl (by rw[nt,j_ h];rfl)
def LU{b:Type}{l:γ b}(h:l.β=1):∃a,l=[a]:=γ.Wm.mp h
def LV{c:Type}{l:γ c}(h:l.β=2):∃a b,l=[a,b]:=match l,h with|[a,b],_=>(a,b,1)
def NN{e:Type}{l:γ e}(h:l.β=4):∃a b c d,l=[a,b,c,d]:=match l,h with|[a,b,c,d],_=>(a,b,c,d,1)
end RA
namespace L2
open PySem.Spec PyProof.Rows
structure Cv(N ps fr:γ QF)QJt:Prop where
 Ut:sc.Ut=.UF
 co:sc.Zg=ν
 gen:sc.Zf=ν
 nd:N.R7
 pre:N.R0 ps.β=ps
 suf:N.Th QEL=fr
 fit:ps.β+fr.β≤N.β
 par:∀x∈ps,sc.QH.ς x<*.local
 nocell:∀y∈sc.QH,y.2≠.SF
structure AJ QKP QEZ QJt(fr:γ QF)(X7:γ V):Prop where
 Tp:∀y z c,SE.ς y<*c->SE.ς z<*c->y=z
 Vh:∀y∈sc.QH,y.2=.SB->∃c,SE.ς y.1<*c
 SF:∀y c,SE.ς y<*c->∃v,h.VW c v
 TL:X7.β=fr.β
 val:∀QBB(y:QF)(v:V),fr[i]?<*y->X7[i]?<*v->(sc.QH.ς y<*.SB)/\∃c u,SE.ς y=δ c/\h.VW c (δ u)/\ae v u
abbrev bA(CX:CXT)QKU QBP QBQ QAs(υ:RC)(N:γ QF)(RD:QF)(RF:TJ)QEx(cd:η)QEZ(A:Qy)QE3 QB_ QAH QE0:Cx where
 Ω:=P
 w:=w
 K:=K
 mg:=mg
 υ:=υ
 A:=A.VU QE6
 N:=N
 U0:=s
 H₀:=H
 QC:=envX RD RF s⁻¹ f cd SE
 KK:=KK
 RL:=envX RD RF s⁻¹ f cd SE::KK
 ex:=[]
 XV:=π
 fn:=λ_=>ν
 pn:=[]
 xe:=λe s'=>Fr QA' (A.VU QE6) (Wn QE6 e) QKp QJz s'
abbrev Dk(N:γ QF)(vs X7:γ V):St:=vs.Q_ δ++(γ.replicate (N.β-vs.β-X7.β) ε++X7.Q_ δ)
def wZ:∀{ps:γ QF}QCH QEH,ps.R7->ps[i]?<*x->us[i]?<*v->(ps.X6 us).Rt.ς x<*v:=by
 intro ps us i f h1 h2;let g:(x,v,)∈(ps.X6 us).Rt:=by
  rw[Zc];let hz:QF2[i]?<*(x,v,):=by rw[γ.XU];show(h1,h2)
  show Ab hz
 let b:∀a,(x,a,)∈(ps.X6 us).Rt->a=v:=λa c=>by
  rw[Zc]at c;let⟨j,d⟩:=Rl.mp c;rw[γ.XU]at d;let e:j=i:=AO f d.1 h1;subst e;have:=d.2;rw[h2]at this;show(ψ.δ.Tp this).QI
 cases e:(ps.X6 us).Rt.ς x with
 |ε=>
  have:=γ.lookup_eq_none_iff.mp e _ g;simp at this
 |δ a=>rw[b a (Ξ.Sj e)]
section
variable{CX:CXT}{P:Id}{w:QW}{K:RG}{mg:QF->ψ η}{υ:RC}{N ps fr:γ QF}{RD:QF}{RF:TJ}{f:θ}{cd:η}{SE:γ QBC}{A:Qy}{KK:γ YT}{s:ω}{H:Hp}{E:XK}{us:γ η}{vs X7:γ V}
abbrev yR(RF:TJ)QEZ(m:QF->ψ η)QJu(y:QF)(v:V):Prop:=∃u,ae v u/\((RF.QH.ς y=δ .local/\m y<*u)\/((RF.QH.ς y<*.SF\/RF.QH.ς y<*.SB)/\∃c,SE.ς y=δ c/\h'.VW c (δ u)))
def eG(l:RF.Ut=.UF)(I:vs.β+fr.β≤N.β)(r:N.Th QEL=fr)(D:X7.β=fr.β)(F:A.SX=ε)(d:bE P w K mg υ A KK s H)(u:h'.Ns s⁻¹ m)(C:∀b o,s.ρ.Δ b<*o->h'.Δ b<*o)(t:∀y z c,SE.ς y<*c->SE.ς z<*c->y=z)(Vh:∀y,RF.QH.ς y<*.SF\/RF.QH.ς y<*.SB->∃c,SE.ς y<*c)(g:∀y c,SE.ς y<*c->(∃v,h'.VW c v)/\H c=ε)(own:∀QBB y v,N[i]?<*y->vs[i]?<*v->yR RF SE m h' y v)(B:∀QBB y v,fr[i]?<*y->X7[i]?<*v->yR RF SE m h' y v):f' QFy [] QFa H {s with ρ:=h',QT:=J}:=by
 let j:∀b:θ,b∉(bA CX P w K mg υ N RD RF f cd SE A KK s H E).ex:=λb z=>QL (show b∈([]:γ θ)from z) (!1);refine((d.Zb,l,5,QA _,t,Vh,λy c h=>QL (show ν=π from h) Ψ.RE,λ_=>F,Qy.frames_deeper d.Ud,.Rh (1,1),λb z=>QL z (j b),d.bs,d.bsz,λb _ _=>j b,λb z=>QL z (j b),d.ZM,d.frf),
  rfl,d.V9,Un.XD C,(_,u,λi y v h1 h2 M=>?_),λy c h=>(g y c h).1,d.S8.SZ (QA _),λy c h=>(g y c h).2,λp hp=>QL (show p∈([]:γ (θ×UQ))from hp) (!1),d.S8.XD C,3)
 .let h1:N[i]?<*y:=h1;let L:i<N.β:=(l' h1).1;unfold Dk at h2;by_cases n:i<vs.β
  .rw [QK (by simpa using n),na]at h2;let⟨a,x,e⟩:=AE h2;cases e;show own i y v h1 x
  .rw [QM (by simpa using n),j']at h2;by_cases k:i-vs.β<N.β-vs.β-X7.β
   .rw [QK QFV,γ.getElem?_replicate,IO k]at h2;cases h2
   .rw [QM QFV,Uj,na,show i-vs.β-(N.β-vs.β-X7.β)=i-QEL by lia]at h2;let⟨a,x,e⟩:=AE h2;cases e;refine B _ y v ?_ x;let q:(N.Th QEL)[i-QEL]?<*y:=by
     rw[γ.getElem?_drop,show N.β-fr.β+(i-QEL)=i by lia];show h1
    rwa [r]at q
 .unfold Dk;change _=N.β;simp only[q4,j',Uj];lia
def eI(S:Cv N ps fr RF)(C:AJ υ SE RF fr X7)(k:A.SX=ε)(m:bE P w K mg υ A KK s H)(n:vs.β=ps.β)QF4(j:h'.Ns s⁻¹ (λx=>(ps.X6 us).Rt.ς x))(p:∀b o,s.ρ.Δ b<*o->h'.Δ b<*o):f' QFy [] QFa H {s with ρ:=h',QT:=D}:=by
 let a:∀c v,υ.VW c v->h'.VW c v:=λc v l=>by let⟨o,e,k⟩:=l;show(o,p c o (m.bs c o e).1,k)
 refine eG S.Ut (by rw[n];show S.fit) S.suf C.TL k m j p C.Tp (λy d=>?_) (λy c h=>?_) (λi y v h1 g=>?_) λi y v h1 g=>?_
 .rcases d with d|d
  .exact QL ζ (S.nocell _ (Ξ.Sj d))
  .exact C.Vh _ (Ξ.Sj d) ζ
 .obtain ⟨v,o,e,q⟩:=C.SF y c h;show((v,a c v (o,e,q)),(m.bs c o e).2)
 .obtain ⟨u,B,t⟩:=r.Yj g;let hp:ps[i]?<*y:=by
   rw[<-S.pre,γ.getElem?_take_of_lt (n▸(l' g).1)];show h1
  show(u,t,.RN (S.par y (Ab hp),wZ (by rw[<-S.pre];show S.nd.sublist (γ.take_sublist _ _)) hp B))
 .obtain ⟨k1,c,u,k2,k3,z⟩:=C.val _ _ _ h1 g;show(u,z,.Rh (.Rh k1,c,k2,a c _ k3))
def Gx(ho:υ.Δ f<*o)(hd:o.RH=.VL (Ξ.W.fnX Ss RD d g RF SE .ε .ε Tg pm ε (.ξ j) U))(R:υ.SL (.ξ j) RD)(S:Cv N ps fr RF)(C:AJ υ SE RF fr X7)(TL:∀vs H Q E,X vs H Q E->vs.β=ps.β)(i:∀(A:Qy)(KK:γ YT)(s:ω)(H:Hp)(vs:γ V)(Q:VK)(E:XK),ak k (A.VU (envX RD RF s⁻¹ f (.ξ j) SE))->X vs H Q E->
   ∃t,Bd (bA lb P w K mg υ N RD RF f (.ξ j) SE A KK s H E).nox g t/\t {nx:=λ_ H'=>Q .Uv H',rt:=Q} (Dk N vs X7) H):aa P w K mg υ lb (k+1) f (Ξ.W.fnX Ss RD d g RF SE .ε .ε Tg pm ε (.ξ j) U) ps X:=by
 refine(TL,λA KK s H ab us vs Q E M B hb r m=>?_);let Z:=TL _ _ _ _ m;let F:s.ρ.NoLimit:=B.Zb.Zz.Ti λb o e=>(B.bs b o e).1;let ag:us.β=ps.β:=by rw[<-r.β];show Z
 let h:∀y∈ps.X6 us,RF.QH.ς y.1<*.local:=λT hy=>by let⟨n,v⟩:=T;show S.par n (Yz hy).1
 let x:s.ρ.SL (.ξ j) RD:=by
  let⟨c,Y,ws,t,e1,e2,e3,e4⟩:=R;show(c,Y,ws,t,e1,(B.bs c Y e2).1,e3,e4)
 refine W3 M.depth (B.bs f o ho).1 hd S.co S.gen ζ x QE4;refine ZU (closure:=SE) (around:=ε) S.nocell h (λh' O L=>?_) S.Ut;let p:∀b o,s.ρ.Δ b<*o->h'.Δ b<*o:=λb o e=>L.Wp b o QKn QIg;refine(F.Ti p,codeAny_func ?_);let⟨t,ht,hq⟩:=i A KK s H vs Q E (M.VU _) m;let I:f' QE7 [] QFa H {s with ρ:=h',QT:=s.QT+(ps.X6 us).β}:=eI S C M.hd B Z r O p;refine RQ (ht.nox [] _ QFa H _ I hq) (λfl s' l=>?_) λe s' l=>l;let z:∀{a:St}QIG{v:V}{u:η},f' QE7 [] a H' s'->ae v u->Q v H'->CE KK P w H s Q u s':=
  λ{a H' v u}J D q=>(v,H',J.os,J.V9,J.υ,J.S8,D,q)
 cases fl with
 |ret u=>
  let⟨v,a,H',J,D,q⟩:=l;show z J D q
 |next=>
  let⟨a,H',J,q⟩:=l;show z (v:=V.Uv) (u:=η.ε) J ζ q
 |brk=>
  let⟨_,_,_,q⟩:=l;show Rk.SJ q
 |YB=>
  let⟨_,_,_,q⟩:=l;show Rk.SJ q
end
abbrev zj QBB QEx(sp:Sp)QG9:TE:=λσ H Q=>σ[i]?=δ (δ QAg)/\t σ H λvs H1=>sp vs H1 Q E0
def JC{X:Cx}{k i:χ}{f:θ}{u b:TY}{d:η}QGA(F:aa X.Ω X.w X.K X.mg X.υ lb k f u ps B)(J:ak k X.A)(o:X.υ.Δ f<*(d,n,.VL b,m))(N:yx X.K u ps [])(E:PE X QCU (bu i))(O:PA X (e::c) t)(M:(BT (e::c) X.QC=QAj::BT c X.QC)>>>4)(g:((ST Ri (BT c X.QC)).U6 QBF=ν)>>>4):PE X (.T0 QCU (e::c) [] Ri) (zj i f B t):=by
 intro a s l H Q I h;refine Rg (nb (E a s l H (λv j=>v=.ξ f/\j=H) I (_,h.1,5)) λP C L=>?_);let⟨v,j,z,D,ζ,ζ⟩:=L;obtain ζ:P=.ξ f:=D;refine Ξ.W.callWith_F (d,n,b,m,(z.bs f _ o).1) (nb (O Ri a C l j _ z h.2) λus s2⟨vs,R,y,r,q⟩=>((d,n,b,m,(y.bs f _ o).1),3)) M g;show mY F J N .S5 Cs y r (by rw[Tx];show q)
def sk(q:UL)(r:γ η)(l:γ η)(h:Vg l):VH q (l++r)=(VH q l).or (VH q r):=by
 induction l using Vg.induct with
 |case1=>simp[VH]
 |case2 a t b u c Ww d=>
  let h:Vg Ww:=h;simp only[Vo,VH];split
  .rfl
  .exact d h
 |case3 l h1 h2=>
  exfalso;unfold Vg at h;split at h
  .exact h1 ζ
  .exact h2 _ _ _ _ _ _ ζ
  .exact h
def jP(x y:Λ)(t u:Z5)(c:η)(l:γ η)(h:Vg l):Vg (l++[.QG x t,.QG y u,c]):=by
 induction l using Vg.induct with
 |case1=>show S9.Sv
 |case2 a t b u c Ww d=>show d h
 |case3 l h1 h2=>
  exfalso;unfold Vg at h;split at h
  .exact h1 ζ
  .exact h2 _ _ _ _ _ _ ζ
  .exact h
abbrev o5(c:θ)(q:QF):HO:=.ext λh=>h.SL QAa q
abbrev aY QEx(Ss RD:QF)(Sw:UR)(body:γ Rb)(RF:TJ)QEZ(c:θ):HO:=.ext λh=>∃Tg pm ZQ,h.Δ f<*Ya Ss RD Sw body RF SE Tg pm c ZQ
inductive AB QAH(P0:θ)QHZ:Prop
 |mk (ps:_) (_:H P0<*.tbl ps) (_:Vg ps.Qx) (_:∀q∈R5,VH q.1 ps.Qx=ε\/∃c,VH q.1 ps.Qx=δ QAa/\H c<*(o5 c q.2))
abbrev BR(P0:θ)QHL:Prop:=∀b o,b≠P0->H b<*o->H' b<*o
structure CI QKP QAs:Prop where
 ex:∃bm o,mg "__builtins__"=δ (.ξ bm)/\bm≠builtinsNs/\bm≠RB/\h.Δ bm=δ o/\o.SS=.QU "module"/\o.Uk=δ builtinsNs/\o.RH=.plain
abbrev OQ QDn(P0:θ)QHZ QBB(Ss RD:QF)(Sw:UR)(body:γ Rb)QJt:TS:=λD σ H=>AB H P0 R5/\
 ∀QEZ(f c:θ)QDz,QHa->QGi->H f=ε->f≠c->BR P0 H H1->AB H1 P0 R5->
  H1 c<*o5 c RD->H1 f<*aY f Ss RD Sw body sc SE c->D.nx (σ.Uw i (δ QAg)) H1
def rX(x:h.SL QAa q):Ai P w H h c (o5 c q):=by
 let⟨g,a,vs,t,e,b,f,d⟩:=id x;cases e;refine(x,(a,b),λh1 h2 y k=>?_);let⟨g,a,vs,t,e,b,f,d⟩:=y;cases e;show(_,a,vs,t,1,k _ b,f,d)
def xW{P:Id}QF3(x:h.Δ f<*Ya Ss RD a i b g Tg pm c l):Ai P w H h f (aY f Ss RD a i b g c):=
 ((Tg,pm,l,x),(_,x),λ_ _ j k=>by let⟨d,p,v,e⟩:=j;show(d,p,v,k _ e))
def BS{X:Cx}{r:γ (θ×UQ)}{s:ω}{σ:St}{Qv E:η->ω->Prop}{R:θ->Hp->Prop}(C:γ (QF×θ)->η->θ->η->UQ)(F:γ (QF×θ)->θ->θ->HO)(aH:∀{i:γ (QF×θ)}{H':Hp}{hh:RC}{f d:θ}{Tg g:η},hh.Δ f<*C i Tg d g->Ai X.Ω X.w H' hh f (F i f d))(T:∀{i:γ (QF×θ)}{d:θ}{Tg g:η},(C i Tg d g).isFreed=ν)(I:f' X r σ H s)(hC:UN X.υ c P0)(hB:CI X.υ X.mg)(ag:(Ri,RD,)∈R5)(O:∀q∈R5,q.1.XC=Ri.XC->q.1.Zm=Ri.Zm->q.2=RD)(as:(sc.QH.UW λy=>y.2 != .SB||X.QC.RF.QH.ς y.1==δ .SF)=π)(m1:∀{i:γ (QF×θ)}{ps:R_ η},closureFor sc X.QC=pure i->s.ρ.Ns RB X.mg->UN s.ρ c P0->s.ρ.Δ P0<*tabObj ps->Vg ps.Qx->VH Ri ps.Qx=ε->RB≠P0->s.ρ.BuiltinsAt X.mg P0->
   (∀d g Tg h' tk,RC.ExtBut P0 s.ρ h'->s⁻¹≤d->d<h'.SN.Q'->h'.SL (.ξ d) RD->h'.Δ P0<*tabObj (ps++#[R6 Ri.XC,R6 Ri.Zm,.ξ d])->Qv (.ξ h'.SN.Q') {s with ρ:=h'.Rm (C i Tg d g),QT:=tk})->Fr (LE X.Ω X.w) X.A mk Qv E s)(m2:∀{i:γ (QF×θ)}{ps:R_ η}{c0:θ},closureFor sc X.QC=pure i->s.ρ.Ns RB X.mg->UN s.ρ c P0->s.ρ.Δ P0<*tabObj ps->Vg ps.Qx->VH Ri ps.Qx<*.ξ c0->s.ρ.BuiltinsAt X.mg P0->
   (∀(g Tg:η)(h':RC)(tk:Z5),(∀b o,s.ρ.Δ b<*o->h'.Δ b<*o)->s⁻¹≤h'.SN.Q'->Qv (.ξ h'.SN.Q') {s with ρ:=h'.Rm (C i Tg c0 g),QT:=tk})->Fr (LE X.Ω X.w) X.A mk Qv E s)(a6:∀{f:θ}{s1:ω}{p:Hp},f' X r σ p s1->R f p->Qv (.ξ f) s1)(h:AB H P0 R5/\∀(N:γ (QF×θ))(f c:θ)(p:Hp),(∀y a,N.ς y<*a->X.QC.UI.ς y<*a)->(∀y∈sc.QH,y.2=.SB->∃a,N.ς y.1<*a)->H f=ε->f≠c->BR P0 H p->AB p P0 R5->p c<*o5 c RD->p f<*F N f c->R f p):Fr (LE X.Ω X.w) X.A mk Qv E s:=by
 let⟨⟨ps,Z,ht,J⟩,h⟩:=h;let bg:∀y∈sc.QH,y.2=.SB->X.QC.Sy y.1<*.SF:=λy hy e=>by
  let q:=Ro.mp as y hy;rw[e]at q;simpa[YT.Sy]using q
 let⟨i,D,U,W⟩:=fo (QC:=X.QC) (sc:=sc) λy hy e=>I.ok.Vh y.1 (.RN (bg y hy e));let aC:s.ρ.Δ P0<*tabObj ps:=I.S8 P0 _ Z;let Y:P0<s⁻¹:=I.S8.lt Z;let S:s.ρ.BuiltinsAt X.mg P0:=by
  let⟨bm,o,e1,e2,e3,e4,e5,e6,e7⟩:=hB.ex;refine(bm,o,e1,e2,e3,λz=>?_,(I.bs bm o e4).1,e5,e6,e7);let n:=(I.bs bm o e4).2;rw[z,Z]at n;cases n
 let ap:s.ρ.Ns RB X.mg:=I.Zb.glob.Ti I.bk;let bf:RB≠P0:=λz=>by
  let⟨o,es,ep,e,hd,_⟩:=ap;rw[z,aC]at e;cases e;cases hd
 let a5:=hC.Ti I.bk;let a7:∀QBA{u:HO},H b<*u->b<s⁻¹:=λe=>I.S8.lt e;rcases J _ ag with bd|⟨c0,a0,a1⟩
 .refine m1 D ap a5 aC ht bd bf S λd g Tg h' tk a8 ar aV aN a9=>?_;let bl:P0≠d:=RM (QD Y ar);let v:s⁻¹<h'.SN.Q':=SA ar aV;let a4:P0≠h'.SN.Q':=RM (U1 Y v);let aA:d≠h'.SN.Q':=RM aV;generalize bi:h'.SN.Q'=f at a4 aA v⊢;let kp:∀b o,b≠P0->s.ρ.Δ b<*o->(h'.Rm QG0).Δ b<*o:=λb o j e=>o9 _ (a8 b o j e);let aT:(h'.Rm QG0).Δ f<*C i Tg d g:=by rw[<-bi];show QN _ T
  let aU:(h'.Rm QG0).SL QDM RD:=by
   let⟨c2,oc,vs,t,e,e1,e2,e3⟩:=aN;show(c2,oc,vs,t,e,o9 _ e1,e2,e3)
  let Q:(h'.Rm QG0).Δ P0<*tabObj (ps++#[R6 Ri.XC,R6 Ri.Zm,.ξ d]):=o9 _ a9;generalize h'.Rm QG0=hh at kp aT aU Q⊢;generalize an:ps++#[R6 Ri.XC,R6 Ri.Zm,.ξ d]=ps' at Q;let aM:∀QBA,b<s⁻¹->b≠d/\b≠f:=λj=>(RM (QD j ar),RM (U1 j v));let M:∀QBA,b<s⁻¹->b≠P0->QO QAx f QIj b=H b:=λj S=>by
   rw[a_ (aM j).2,a_ (aM j).1,a_ S]
  let ab:∀QBA,b≠P0->b≠d->b≠f->QO QAx f QIj b=H b:=λh1 h2 h3=>by
   rw[a_ h3,a_ h2,a_ h1]
  let B:QO QAx f QIj P0<*.tbl ps':=by rw[a_ a4,a_ bl,hJ]
  let x:QO QAx f QIj d<*o5 d RD:=by rw[a_ aA,hJ]
  let L:QO QAx f QIj f<*F i f d:=hJ;generalize QO QAx f QIj=p at M ab B x L;let nP:∀QBA,H b=ε->b≠P0:=λn z=>by rw[z,Z]at n;cases n
  let m:∀QBA{u:HO},H b<*u->b≠P0->p b<*u:=λe j=>by rw[M (a7 e) j];show e
  let l:∀QBA{u:HO},H b<*u->(∀ps,u≠.tbl ps)->p b<*u:=λe hu=>m e λz=>by
   rw[z,Z]at e;cases e;show hu _ ζ
  let un:Un X.fs [] H p s.ρ hh:=by
   refine(λb o e n _ _=>kp b o (nP n) e,λb o e n _ _=>(o.XR,kp b o (nP n) e),λb o e n _=>by rw[M QBG (nP n)];show n,λb o e _=>?_,λb xs e=>l e QAD,λb o u e=>l e QAD,λb qs e=>?_)
   .by_cases j:b=P0
    .rw [j];show(_,Q)
    .exact (o,kp b o j e)
   .by_cases j:b=P0
    .rw [j,Z]at e;cases e;rw[j];show(_,by rw[B,an])
    .exact (#[],by rw[m e j];simp)
  let aS:z_ X.Ω X.w p hh:=λa o e=>by
   by_cases a2:a=f
   .rw [a2]at e⊢;rw[L]at e;cases e;show aH aT
   by_cases a3:a=d
   .rw [a3]at e⊢;rw[x]at e;cases e;show rX aU
   by_cases aB:a=P0
   .rw [aB]at e⊢;rw[B]at e;cases e;show Q
   rw[ab aB a3 a2]at e;refine(I.S8 a o e).Wv (λb u j q=>kp b u QId q) (λb q=>l q QAD) λb xs q=>l q QAD;rcases j with j|j
   .exact aB (j▸z)
   .rw [z,Z]at j;cases j
  let I1:f' X r σ p {s with ρ:=hh,QT:=tk}:=I.un un aS;refine a6 I1 (h i f d p U W (I.S8.SZ (Uq v)) (Ne.QI aA) (λb o j e=>m e j) (ps',B,3,λq P=>?_) x L)
  .rw [<-an,R_.toList_append];show jP _ _ _ _ _ _ ht
  .rw [<-an,R_.toList_append,sk _ _ _ ht];rcases J q P with hn|⟨c1,h1,h2⟩
   .rw [hn,ψ.none_or];by_cases k:q.1.XC=Ri.XC/\q.1.Zm=Ri.Zm
    .refine .Rh (d,3,3)
     .change VH q.1 [R6 Ri.XC,R6 Ri.Zm,.ξ d]=_;simp[VH,R6,k.1,k.2]
     .rw [O q P k.1 k.2];show x
    .refine .RN ?_;change VH q.1 [R6 Ri.XC,R6 Ri.Zm,.ξ d]=_;simp only[VH,R6];rw[Cl];intro z;simp at z;show k (!6,!6)
   .rw [h1,ψ.some_or];show .Rh (c1,1,l h2 QAD)
 .refine m2 D ap a5 aC ht a0 S λg Tg h' tk hk hsz=>?_;let I1:f' X r σ (QO H h'.SN.Q' (F i h'.SN.Q' c0)) {s with ρ:=h'.Rm (C i Tg c0 g),QT:=tk}:=
   I.Xy (λb u e=>o9 _ (hk b u e)) hsz (aH (QN _ T))
  let az:H h'.SN.Q'=ε:=I.S8.SZ hsz;let kH:∀QBA{u:HO},H b<*u->QO H h'.SN.Q' (F i h'.SN.Q' c0) b<*u:=λe=>by rw[a_ (f_ e az)];show e
  refine a6 I1 (h i _ c0 _ U W az (Ne.QI (f_ a1 az)) (λb o _ e=>kH e) (ps,kH Z,ht,λq P=>?_) (kH a1) hJ);rcases J q P with hn|⟨c1,h1,h2⟩
  .exact .RN hn
  .exact .Rh (c1,h1,kH h2)
def FH{X:Cx}{l:UR}{m:γ Rb}{sc:TJ}(L:X.N.R7)(E:X.N[i]?<*Ss)(B:C6 X.QC.RF Ss)(n:X.QC.code=.ξ c)(M:UN X.υ c P0)(O:CI X.υ X.mg)(p:(Ri,RD,)∈R5)(o:∀q∈R5,q.1.XC=Ri.XC->q.1.Zm=Ri.Zm->q.2=RD)(C:(qualnameIn X.QC Ss Ss=RD)>>>4)(u:(l.defaults=[])>>>4)(t:(l.kw_defaults=[])>>>4)(J:(annTrees l ε X.QC=[])>>>4)(r:QAV>>>4)(F:(X.fn Ss=π\/X.QC.RF.QH.ς Ss<*.local)>>>8):PS X (.Zv Ss l m [] ε [] sc ε Ss Ri) (OQ X P0 R5 i Ss RD l m sc):=by
 intro A s R H D I h;refine Ξ.W.nestDef_K u t J ?_;rw[C];show BS (λx Tg z w=>Ya Ss RD l m sc x Tg ((X.mg "__name__").LT .ε) z w) (λx f z=>aY f Ss RD l m sc x z) xW ζ I M O p o r (λa b d e f g i j k=>Ξ.W.makeFunction_K (mg:=X.mg) a I.ok.glob b n d e f g i j k) (λa b d e f g i k=>Ξ.W.makeFunction_hit (mg:=X.mg) a I.ok.glob b n d e f g i k)
  (λP q=>Al P L E B (v:=.ξ _) ζ (λs' Q=>(8,Q,q)) F) h
abbrev x_(U:γ θ)QAH:Hp:=λb=>if b∈U then ε else H b
abbrev X8(U:γ θ)QHL:Hp:=λb=>if b∈U then H b else H' b
def JD(h:b∈U):x_ U H b=ε:=IO h
def Bn(h:b∉U):x_ U H b=H b:=Cl h
def He(h:b∈U):X8 U H H' b=H b:=IO h
def DI(h:b∉U):X8 U H H' b=H' b:=Cl h
def Mod.Ti QC7(M:Mod K mg h)(k:∀b o,h.Δ b<*o->h'.Δ b<*o):Mod K mg h':=
 (M.ZL.Ti k,M.glob.Ti k,let⟨c,a,b⟩:=M.blt;(c,a.Ti k,b),M.Zz.Ti k)
section
variable{P:Id}{w:QW}{K:RG}{mg:QF->ψ η}{υ:RC}{A:Qy}{KK:γ YT}{s:ω}{H:Hp}{U:γ θ}
def jJ(f:bE P w K mg υ A KK s H)(l:∀u∈U,∃φ,H u<*.ext φ):∃c,bE P w K mg c A KK s (x_ U H)/\(∀b o,υ.Δ b<*o->c.Δ b<*o)/\∀b o,s.ρ.Δ b<*o->b∉pu KK->x_ U H b=ε->c.Δ b<*o:=by
 let h:∀b o,s.ρ.Δ b<*o->b∉pu KK->x_ U H b=ε->(VS s.ρ QFr).Δ b<*o:=λb o e r p=>U3 _ e λk=>by
  rcases Rp.mp k with z|z
  .let q:((x_ U H) b).VR=π:=(VQ.mp z).2;rw[p]at q;cases q
  .exact r z
 let g:∀b,H b=ε->b∉U:=λb n z=>by
  let⟨φ,e⟩:=l b z;rw[n]at e;cases e
 let Vk:∀b o,υ.Δ b<*o->(VS s.ρ QFr).Δ b<*o:=λb o e=>by
  let⟨j,n⟩:=f.bs b o e;refine h b o j QId (by rw[Bn (g b n)];show n);have:=(f.ZM.mem z).1;rw[e]at this;cases this
 let d:∀QBA{u:HO},H b<*u->(∀φ,u≠.ext φ)->x_ U H b<*u:=λ{b u}e m=>by
  rw[Bn λz=>?_]
  .exact e
  .obtain ⟨φ,e'⟩:=l b z;rw[e]at e';show m φ (ψ.δ.Tp e')
 refine(VS s.ρ QFr,(f.Ud,f.Zb.Ti Vk,λb o e=>?_,Vc (Ξ.W.hideAll_size _ _),Gs f.ZM λb i=>Ry _ i,λb i=>?_,λa o e=>?_,f.V9),Vk,h)
 .let j:=XA _ e;refine(j,3);cases q:x_ U H b with
  |ε=>rfl
  |δ u=>
   let k:b∈Gk s.ρ (x_ U H)++pu KK:=Vb _ (VQ.Sz (Rr.Sz (lt_size j),by simp[q]));rw[Ta _ k]at e;cases e
 .rw [Bn (g b (f.frf b i))];show f.frf b i
 .let t:a∉U:=λz=>by rw[JD z]at e;cases e
  rw[Bn t]at e;show(f.S8 a o e).Wv (λ_ _ _ q=>q) (λb q=>d q QAD) λb xs q=>d q QAD
def gr(C:bE P w K mg υ A KK s H)(y:∀u∈U,∃φ,H u<*.ext φ)(h:CE KK P w (x_ U H) s (λv E=>(∀u∈U,E u=ε)->Q v (X8 U H E)) u s'):CE KK P w H s Q u s':=by
 let⟨v,H',os,p,un,B,r,q⟩:=h;let d:∀b,H b=ε->b∉U:=λb n z=>by
  let⟨φ,e⟩:=y b z;rw[n]at e;cases e
 let k:∀b∈U,b∉pu KK:=λb c z=>d b (C.frf b z) c;let f:∀b∈U,∃o,s.ρ.Δ b=δ o/\s'.ρ.Δ b=δ o/\H' b=ε:=λb c=>by
  let⟨φ,e⟩:=y b c;let⟨_,⟨o,m⟩,_⟩:=C.S8 b _ e;show(o,m,un.UB b o m (JD c) (k b c) (!1),un.SB b o m (JD c) (!1))
 let g:∀QBA{x:HO},H b<*x->(∀φ,x≠.ext φ)->b∉U:=λ{b x}e j z=>by
  let⟨φ,e'⟩:=y b z;rw[e]at e';show j φ (ψ.δ.Tp e')
 let i:∀QBA{x:HO},H' b<*x->X8 U H H' b<*x:=λ{b x}e=>by
  rw[DI λz=>?_]
  .exact e
  .obtain ⟨_,_,_,n⟩:=f b z;rw[e]at n;cases n
 refine(v,X8 U H H',os,p,(λb o e n c j=>?_,λb o e n c j=>?_,λb o e n j=>?_,un.Uf,λb xs e=>?_,λb o x e=>?_,λb ps e=>?_),λa o e=>?_,r,q λb c=>(f b c).Zn.2.2)
 .exact un.UB b o e (by rw[Bn (d b n)];show n) c j
 .exact un.YW b o e (by rw[Bn (d b n)];show n) c j
 .rw [DI (d b n)];show un.SB b o e (by rw[Bn (d b n)];show n) j
 .let c:=g e QAD;rw[DI c];show un.Uh b xs (by rw[Bn c];show e)
 .let c:=g e QAD;rw[DI c];show un.ZO b o x (by rw[Bn c];show e)
 .let c:=g e QAD;rw[DI c];show un.ZJ b ps (by rw[Bn c];show e)
 .by_cases t:a∈U
  .rw [He t]at e;let⟨φ,e'⟩:=y a t;rw[e']at e;cases e;let⟨o,m,l,_⟩:=f a t;let⟨F,_,D⟩:=C.S8 a _ e';show(D _ _ F (λI z=>by rw[m]at z;cases z;show l),(o,l),D)
  .rw [DI t]at e;show(B a o e).Wv (λ_ _ _ z=>z) (λb z=>i z) λb xs z=>i z
end
structure bj QDn(U:γ θ)QCC QAH(YR:RC):Prop where
 Vk:∀b o,X.υ.Δ b<*o->YR.Δ b<*o
 Zb:Mod X.K X.mg YR
 ext:∀u φ,u∈U->H u<*.ext φ->φ YR
 Tp:∀y z c,X.QC.UI.ς y<*c->X.QC.UI.ς z<*c->y=z
 SF:∀y c,X.QC.UI.ς y<*c->∃v,YR.VW c v
 val:∀QBB(y:QF)(v:V),X.N[i]?<*y->σ[i]?<*δ v->X.QC.RF.QH.ς y<*.SF->∃c u,X.QC.UI.ς y=δ c/\YR.VW c (δ u)/\ae v u
abbrev OR QDn QEx(fd:TY)QFx(dvs:γ V)QG9:TE:=λσ H Q=>t σ H λvs H1=>∃U:γ θ,QJ_/\∀YR:RC,bj X U σ H1 YR->
 ∃(k:χ)(sp:Sp),ak k X.A/\aa X.Ω X.w X.K X.mg YR lb k f fd ps sp/\sp QEI (x_ U H1) QFz E0
def JE{X:Cx}{f:θ}QGA(hg:Gl X x)(hm:X.mg x<*.ξ f)(hk:Vz X.K QAg=π)(hb:yx X.K fd ps ds)(hd:ad dvs ds)(ha:PA X (e::C) t)(M:∀y,X.fn y=π)(O:((x==("__debug__":QF))=ν)>>>0)QG1(E:QJb>>>4):PE X (.T0 QCU (e::C) [] Ri) (OR X f fd ps dvs t):=by
 intro l s R H Q I h;refine Rg (sB I hg hm ?_ O);refine callWith_K (h₀:=X.υ) I.ok.Zb.ZL hk (nb (ha Ri l s R H _ I h) λus D⟨vs,H1,b,r,q⟩=>(b.Xb,3)) he E;let⟨U,Z,q⟩:=q;let⟨a,e0,n,j⟩:=jJ b.env0 Z;let d:∀y c v,X.QC.UI.ς y<*c->D.ρ.VW c v->a.VW c v:=λy c v g P=>by
  let⟨o,T,N⟩:=P;let Y:=b.X2 y c g;refine(o,j c o T QId ?_,N)
  .rcases QY.mp (b.stkSub c z)with z|z
   .exact b.cne y c g z
   .obtain ⟨_,o',J,_⟩:=b.ok.ZM.mem z;show QL (lt_size J) (not_lt.Sz (b.ok.cab y c (M y) g))
  .unfold x_;split
   .rfl
   .exact Y
 let W:bj X U R H1 a:=by
  refine(n,e0.Zb,λu φ hu e=>?_,b.ok.Tp,λy c g=>?_,λi y v e1 e2 e3=>?_)
  .obtain ⟨p1,⟨o,T⟩,p3⟩:=b.S8 u _ e;refine p3 _ _ p1 λo2 z=>j u o2 z (λy=>?_) (JD hu);rw[b.Xg u y]at e;cases e
  .obtain ⟨v,z⟩:=b.SF y c g;show(v,d y c v g z)
  .obtain ⟨m,Y,L⟩:=b.loc;let⟨u,ru,lk⟩:=L i y v e1 e2 (.Rh (.RN e3));rcases lk with⟨k1,_⟩|⟨_,c,g,z⟩
   .have:X.QC.RF.QH.ς y<*.local:=k1;rw[e3]at this;cases this
   .exact (c,u,g,d y c _ g z,ru)
 let⟨k,sp,hr,F,w⟩:=q a W;let S:ad QEI QKo:=r.append hd;let L:(us++ds).β=ps.β:=by rw[<-S.β];show F.TL _ _ _ _ w
 refine US (Tv (F.Sl X.A X.RL D (x_ U H1) (us,[]) QKo QEI _ E0 hr e0 (hb D us b.Xb L) S w) λr s' B=>?_);cases r with
 |WV e=>show Rk.SJ B
 |ok fl=>
  cases fl with
  |ret u=>show b.after (gr b.env0 Z B)
  |next=>show Rk.SJ B
  |brk=>show Rk.SJ B
  |YB=>show Rk.SJ B
abbrev BU(ts:γ θ)QBQ:RG:=K.VF λq=>!ts.Qz q.1
def FI{ts:γ θ}QHA(d:ts.Qz a=ν):∀QC7,(BU ts K).ς a=K.ς a
 |[]=>rfl
 |(b,x)::r=>by
  unfold BU;rw[γ.filter_cons];by_cases e:a=b
  .subst e;rw[IO QIk,TU,TU];simp
  .let c:(a==b)=ν:=RX.Sz e;split
   .rw [TU,TU,c];show FI (K:=r) d
   .rw [TU,c];show FI (K:=r) d
def cq{ts:γ θ}QHA{o:UQ}:∀QC7,(BU ts K).ς a<*o->ts.Qz a=ν
 |[],e=>by cases e
 |(b,x)::r,e=>by
  unfold BU at e;rw[γ.filter_cons]at e;split at e
  .rename_i d;rw[TU]at e;by_cases c:a=b
   .subst c;simpa using d
   .rw [RX.Sz c]at e;show cq (K:=r) e
  .exact cq (K:=r) e
def JF QC7(e:K.ς a<*o)(b:ts.Qz a=ν):(BU ts K).ς a<*o:=(FI b).ο e
def B8 QC7(e:Wx K a x=r)(b:ts.Qz a=ν):Wx (BU ts K) a x=r:=by
 unfold Wx at e⊢;rw[FI b];show e
def KC QC7(e:UH K QAa x=π)(a:ts.Qz c=ν):UH (BU ts K) QAa x=π:=by
 unfold UH at e⊢;dsimp only at e⊢;rw[FI a];show e
structure yO QBQ(q:θ×θ):Prop where
 code:∃o vs file tf flags tg inF text tt,K.ς q.1=δ o/\o.SS=.QU "code"/\o.RH=.SD vs/\vs[11]?=δ (.ξ q.2)/\vs.LT 11 .ε=.ξ q.2/\vs.LT 18 .ε=.QZ file tf/\vs.LT 7 .ε=.QG flags tg/\vs.LT 9 .ε=.UV inF/\vs.LT 10 .ε=.QG text tt/\q.1≠q.2
 tab:K.ς q.2<*(tabObj #[])
abbrev iC QBQ(VJ:γ (θ×θ)):Sp:=λvs H Q _=>∃(a:θ)(ns:γ Λ),vs=[.ξ a]/\k9 K H a QBU/\ns.β≤63/\(∀q∈VJ,H q.2<*QHb)/\∀H',Q QIV H'
def lO(x:UN h c P)(k:∀o,o.SS=.QU "code"->h.Δ c<*o->h'.Δ c<*o):UN h' c P:=by
 let⟨o,vs,d,j,a,i,f,b,tt,e,g,r⟩:=x;show(o,vs,d,j,a,i,f,b,tt,k o g e,g,r)
def rn{P:Id}QF3 QC7(KX:K.In i.ρ)(hT:∀q∈VJ,yO K q)(W:i.ρ.Ns RB mg)(hB:CI i.ρ mg)(t:i.ρ.Ns builtinsNs mb)(ar:∀x:QF,x≠"__name__"->mb x=Xl x)(Y:i.ρ.NoLimit)(hg:i.WX=#[])(Q:i.ρ.Δ a<*{SS:=.QU "list",RH:=.WA vs.Θ})(hi:XN vs ns)(hl:ns.β≤63)(hr:ak k callerA)(F:∀υ:RC,(BU QDc K).In υ->υ.Ns RB mg->CI υ mg->(∀q∈VJ,UN υ q.1 q.2)->aa P w QJc mg υ lb k fa fd [x] (iC QJc VJ))(O:∀QB_(u:η),BindsTo s fd ([u],[]) [(x,u,)]):VD QA' callerA (.UZ (.ξ fa) ([.ξ a],[])) QDR i:=by
 let rv:=d_I hi;let T:=hi.β;let X:ns.β≤Φ:=QB hl (by rw[S'];decide);let A:∀q∈VJ,i.ρ.Δ q.2<*(tabObj #[]):=λq p=>KX _ _ (hT q p).tab;let hd:∀q∈VJ,UN i.ρ q.1 q.2:=λq p=>by let⟨o,vs,a,b,c,d,e,f,g,l,r⟩:=(hT q p).code;show(o,vs,a,b,c,d,e,f,g,KX _ _ l,r)
 let inT:∀QBA,(VJ.Q_ QBr).Qz b=π->∃q∈VJ,q.2=b:=λ{b}t=>by
  rw[Ul]at t;let⟨q,p,e⟩:=TZ.mp t;show(q,p,e)
 let D:∀{q:θ×θ},q∈VJ->(VJ.Q_ QBr).Qz q.2=π:=λ{q}p=>by
  rw[Ul];show γ.mem_map_of_mem p
 let aT:(VJ.Q_ QBr).Qz a=ν:=by
  cases z:(VJ.Q_ QBr).Qz a with
  |ν=>rfl
  |π=>
   let⟨q,p,e⟩:=inT z;let C:=A q p;rw[e,Q]at C;cases C
 let M:∀H:Hp,k9 QJc H a QBU->z_ P w H i.ρ->(∀b,H b=ε\/(b=a/\K.ς a=ε/\H b<*.frz {SS:=.QU "list",RH:=.WA vs.Θ} (.QV QBU))\/((VJ.Q_ QBr).Qz b=π/\H b<*QHb))->
   (∀q∈VJ,H q.2<*QHb)->
   VD QA' callerA (.UZ (.ξ fa) ([.ξ a],[])) QDR i:=by
  intro H hS U hO az;let j:∀QBA{o:UQ},i.ρ.Δ b<*o->H b=ε->(eQ i.ρ H).Δ b<*o:=λe n=>vg e n;let freeOf:∀QBA{o:UQ},i.ρ.Δ b<*o->b≠a->o≠tabObj #[]->H b=ε:=λ{b o}e N ap=>by
   rcases hO b with z|⟨z,_⟩|⟨z,_⟩
   .exact z
   .exact QL z N
   .obtain ⟨q,p,L⟩:=inT z;let C:=A q p;rw[L,e]at C;show QL (ψ.δ.Tp C) ap
  let E:∀QBA QHJ,i.ρ.Ns b m->(eQ i.ρ H).Ns b m:=λ{b m}as=>by let⟨o,es,ep,e,d,r⟩:=as;show(o,es,ep,j e (freeOf e (λz=>by rw[z,Q]at e;cases e;cases d) (λz=>by rw[z]at d;cases d)),d,r)
  let ab:(BU QDc K).In QH0:=λb o e=>by
   let hn:=cq e;let C:=KX b o ((FI hn).QI.ο e);refine j C ?_;rcases hO b with z|⟨z,S,_⟩|⟨z,_⟩
   .exact z
   .rw [FI hn,z,S]at e;cases e
   .rw [hn]at z;cases z
  let aB:CI QH0 mg:=by
   let⟨bm,o,C,L,e3,R,e5,e6,e7⟩:=hB.ex;show(bm,o,C,L,e3,j R (freeOf R (λz=>by rw[z,Q]at R;cases R;cases e7) (λz=>by rw[z]at e7;cases e7)),e5,e6,e7)
  let aA:∀q∈VJ,UN QH0 q.1 q.2:=λq p=>lO (hd q p) λo Z e=>j e (freeOf e (λz=>by rw[z,Q]at e;cases e;injection Z with Z;show QL Z (!0)) (λz=>by rw[z]at Z;cases Z));let hM:Mod QJc mg QH0:=(ab,E W,(mb,E t,ar),let⟨mc,h1,h2⟩:=Y;(mc,E h1,h2));let e0:bE P w QJc mg QH0 callerA [] i H:=(1,hM,λb o e=>xu e,Vc (rH _ _),trivial,λb t=>QL (show b∈([]:γ θ)from t) (!1),U,.of_eq hg);refine Tv ((F _ ab (E W) aB aA).Sl callerA [] i H ([.ξ a],[]) [.ξ a] [.ξ a] (λv _=>v=.bl π) (λ_ _ _=>Rk) hr e0 (O i QAd) QDg (a,ns,1,hS,hl,az,λ_=>rfl)) λr s' h=>?_;cases r with
  |WV e=>show Rk.SJ h
  |ok fl=>
   cases fl with
   |next=>show Rk.SJ h
   |brk=>show Rk.SJ h
   |YB=>show Rk.SJ h
   |ret u=>
    let⟨v,H',os,ag,un,J,r',q⟩:=h;let q':v=.bl π:=q;subst q';obtain ζ:u=η.UV π:=r';refine(1,(λb o e=>?_,λb o e=>un.Uf b o e (!1)),os,ag);rcases hO b with z|⟨z1,_,z⟩|⟨z1,z⟩
    .exact .RN (un.UB b o e z (by intro y;show QL (show b∈([]:γ θ)from y) (!1)) (!1))
    .obtain ⟨C,_⟩:=U b _ z;let⟨L,_⟩:=J b _ (un.ZO b _ _ z);rw[e]at C;cases C;show .RN L
    .obtain ⟨q,p,L⟩:=inT z1;let⟨Xi,z3⟩:=un.ZJ b _ z;let e3:s'.ρ.Δ b<*{SS:=.ε,RH:=.SD (#[]++Xi)}:=J b _ z3;let R:=A q p;rw[L,e]at R;cases R;refine .Rh (.RN (3,1,#[],Xi,1,e3));have:=((hd q p).tab (A q p)).isCodeTable;rw[L]at this;show this
 let an:∀QHV QBA,(VJ.Q_ QBr).Qz b=π->Ai P w H i.ρ b QHb:=λ{H b}z=>by
  let⟨q,p,e⟩:=inT z;let C:=A q p;rw[e]at C;show C
 cases hk:K.ς a with
 |δ o=>
  let e:=KX a o hk;rw[Q]at e;cases e;refine M (λb=>if (VJ.Q_ QBr).Qz b=π then δ QHb else ε) (.Rh (_,vs.Θ,_,(FI aT).ο hk,5,1,by rw[Qu,T];show X,by simpa using rv)) (λb u z=>?_) (λb=>?_) (λq p=>IO (D p))
  .by_cases t:(VJ.Q_ QBr).Qz b=π
   .let I:=(IO t).QI.ο z;cases I;show an t
   .let I:=(Cl t).QI.ο z;cases I
  .by_cases t:(VJ.Q_ QBr).Qz b=π
   .exact .Rh (.Rh (t,IO t))
   .exact .RN (Cl t)
 |ε=>
  refine M (λb=>if b=a then δ (.frz {SS:=.QU "list",RH:=.WA vs.Θ} (.QV QBU))else if (VJ.Q_ QBr).Qz b=π then δ QHb else ε) (.RN (.Rh ({SS:=.QU "list",RH:=.WA vs.Θ},IO ζ))) (λb u z=>?_) (λb=>?_) (λq p=>?_)
  .by_cases t:b=a
   .let I:=(IO t).QI.ο z;cases I;subst t;show(Q,by rw[j'];show X,vs,_,rv,Q)
   .let I:=(Cl t).QI.ο z;by_cases B:(VJ.Q_ QBr).Qz b=π
    .let S:=(IO B).QI.ο I;cases S;show an B
    .let S:=(Cl B).QI.ο I;cases S
  .by_cases t:b=a
   .exact .Rh (.RN (t,hk,IO t))
   .by_cases B:(VJ.Q_ QBr).Qz b=π
    .exact .Rh (.Rh (B,(Cl t).ο (IO B)))
    .exact .RN ((Cl t).ο (Cl B))
  .let N:q.2≠a:=λz=>by
    have:=D p;rw[z,aT]at this;cases this
   show(Cl N).ο (IO (D p))
def FJ{l:Ξ.W.OpenLaw}{K:Params->RG}(I:l.most<*63)(r:d.Sw.defaults=[])(H:ak k callerA)(N:∀p,∀q∈VJ,yO (K p) q)(F:∀(w:QW)(mg:QF->ψ η)(fa:θ)(h:RC),(BU (VJ.Q_ (·.2)) (K w.Sw)).In h->h.Ns RB mg->mg d.Ss<*.ξ fa->
   ∃v:TY,(∀QB_(u:η),BindsTo s v ([u],[]) [(x,u,)])/\∀υ:RC,(BU QDc (K w.Sw)).In υ->υ.Ns RB mg->CI υ mg->(∀q∈VJ,UN υ q.1 q.2)->
    aa l.Ω w (BU (VJ.Q_ (·.2)) (K w.Sw)) mg υ lb k fa v [x] (iC (BU (VJ.Q_ (·.2)) (K w.Sw)) VJ)):Ξ.W.WalkO q loose XP (λw h=>(K w.Sw).In h) l.Yc.toRowW d [] (λf vs=>Ξ.UZ f vs):=by
 refine Att.Cr I r λw B c mg X fa o pm cd Tg a vs ns G Y Z C L n j i m J=>?_;let D:(K w.Sw).In c.ρ:=Y;let U:(BU QDc (K w.Sw)).In c.ρ:=λb o e=>D b o ((FI (cq e)).QI.ο e);let⟨v,M,O⟩:=F w mg fa _ U G.T.g n;let⟨bm,E,S,R,A,Q,P,y⟩:=G.T.bmain;let t:bm≠RB:=λz=>by
  let⟨o,es,ep,e,C,_⟩:=G.T.g;rw[z,e]at A;cases A;rw[C]at y;cases y
 show rn D (N w.Sw) G.T.g (bm,E,S,R,t,A,Q,P,y) G.T.b G.T.builtins G.T.Zz J j i m H O M
inductive Sd where
 |tx QEh (k:Z5)|tp (a:θ)|ls (a:θ)
namespace Sd
abbrev vl:Sd->V
 |.tx x _=>.QZ x
 |.tp a=>.ξ a
 |.ls a=>.ξ a
abbrev vu:Sd->η
 |.tx x t=>.QZ x t
 |.tp a=>.ξ a
 |.ls a=>.ξ a
abbrev pl:Sd->θ->χ->RC->Prop
 |.tx x t,it,i,h=>ZP.Dd x t it i h
 |.tp a,it,i,h=>h.XX it a i
 |.ls a,it,i,h=>h.IsListIter it a i
abbrev it0:Sd->UQ
 |.tx x t=>ZP.Ex x t
 |.tp a=>ZP.Gw a
 |.ls a=>{SS:=.QU "list_iterator",RH:=.SD #[.ξ a,.QG 0 0]}
abbrev hp:Sd->R_ η->RC->Prop
 |.tx _ _,_,_=>S9
 |.tp a,R9,h=>h.Vv a R9
 |.ls a,R9,h=>h.IsList a R9
abbrev Vh:Sd->Hp->γ V->Prop
 |.tx x _,_,xs=>xs=x.Vu.Qx.Q_ λc=>V.QZ ⟨#[c]⟩
 |.tp a,H,xs=>H a<*.Rn xs
 |.ls a,H,xs=>H a<*.QV xs
end Sd
def nN{d:Sd}(e:h.Δ it<*d.it0):d.pl it 0 h:=by
 cases d with
 |tx x t=>show(_,e,5)
 |tp a=>show(_,e,5)
 |ls a=>show(_,e,5)
def eF(d:Sd):d.it0.isFreed=ν:=by cases d<;>rfl
namespace ZP
abbrev uM QKP(o1 o2:UQ):RC:=
 ((((h.Rm o1).Rm o2).Rm {SS:=.QU "tuple",RH:=.WA #[.ξ h.SN.Q',.ξ (h.SN.Q'+1)]}).Rm {SS:=.QU "tuple",RH:=.WA #[.ε,.ε]}).Rm
  {SS:=.QU "zip",RH:=.SD #[.ε,.UV ν,.UV ν,.ξ (h.SN.Q'+2),.ξ (h.SN.Q'+3)]}
section
variable{Ω:Id}{w:QW}{A:Qy}{E:η->ω->Prop}{s:ω}
def uZ(c:s.ρ.IsList a b)(h:Q QAX {s with ρ:=s.ρ.Rm (Sd.ls a).it0}):Fr QAU A (YX QAd) Q E s:=Wb c h
def xO(h:Q QAX {s with ρ:=s.ρ.Rm (Sd.tx x t).it0}):Fr QAU A (YX (.QZ x t)) Q E s:=rE h
def xN(c:s.ρ.Vv a b)(h:Q QAX {s with ρ:=s.ρ.Rm (Sd.tp a).it0}):Fr QAU A (YX QAd) Q E s:=uY c h
end
instance OS(d1 d2:Sd):Prop:=∀xs ys:R_ η,Meets (Builtin.«zip.__new__» ([.QU "zip",d1.vu,d2.vu],[])) (λ_ R s=>d1.hp xs s.ρ/\d2.hp ys s.ρ/\R (.ok (.ret (.ξ (s⁻¹+4)))) {s with ρ:=uM s.ρ d1.it0 d2.it0})
def JG{d:Sd}(hp:d.hp R9 s.ρ)(h:Q QAX {s with ρ:=s.ρ.Rm d.it0}):Fr QAU A (YX d.vu) Q E s:=by
 cases d with
 |tx x t=>show xO h
 |tp a=>show xN hp h
 |ls a=>show uZ hp h
def xP{d:Sd}(h:d.hp R9 g):d.hp R9 (g.Rm o):=by
 cases d with
 |tx x t=>show h
 |tp a=>show IsTup.Ti h λo e=>o9 _ e
 |ls a=>show RC.IsList.Rm h _
def LW(d1 d2:Sd):OS d1 d2:=λxs ys=>.of_wp λΩ w A R s h=>by
 let⟨hp,g,d,e,os⟩:=s;let⟨c,a,h⟩:=h;let b:=sub_zip;let a:=xP (o:=d1.it0) a;change Fr _ _ (Builtin.«zip.__new__» ([.QU "zip",d1.vu,d2.vu],[])) _ _ _
 wp_walk using JG c,JG a
 refine(0,3);simp only[uM]at h;simpa[Tz,Builtin.Ty.ownedTupleFields,χ.add_assoc]using h
section
variable{Ω:Id}{w:QW}{A:Qy}{E:η->ω->Prop}{s:ω}
def Dl{d1 d2:Sd}(j:d1.hp xs s.ρ)(i:d2.hp ys s.ρ)(h:∀h',YS h' (s⁻¹+4) (s⁻¹+2) (s⁻¹+3) .ε->UM h' (s⁻¹+2) (.ξ s⁻¹) (.ξ (s⁻¹+1))->UM h' (s⁻¹+3) .ε .ε->
   d1.pl s⁻¹ 0 h'->d2.pl (s⁻¹+1) 0 h'->(∀c o,s.ρ.Δ c<*o->h'.Δ c<*o)->Q (.ξ (s⁻¹+4)) {s with ρ:=h'}):Fr (LE Ω w) A (UZ (.QU "zip") [d1.vu,d2.vu]) Q E s:=by
 refine callType_new F.called_zip (!0) (F.typeCall_zip_2 _ _) (F.newCall_zip_2 _ _) (λb=>F.args_object_init_3 b _ _) F.entry_zip_new (LW d1 d2 xs ys) (j,i,3);let a:∀(g:RC)(o:UQ)QCm,g.SN.Q'=n->o.isFreed=ν->(g.Rm o).Δ n<*o:=λg o n e f=>by rw[<-e];show QN g f
 let d:YS (uM s.ρ d1.it0 d2.it0) (s⁻¹+4) (s⁻¹+2) (s⁻¹+3) .ε:=a _ _ _ (by simp[Tz]) ζ;show((_,d,1),h _ d (o9 _ (o9 _ (a _ _ _ (by simp[Tz]) ζ))) (o9 _ (a _ _ _ (by simp[Tz]) ζ))
  (nN (o9 _ (o9 _ (o9 _ (o9 _ (a _ _ _ ζ (eF _))))))) (nN (o9 _ (o9 _ (o9 _ (a _ _ _ (by simp[Tz]) (eF _))))))
  λc o e=>o9 _ (o9 _ (o9 _ (o9 _ (o9 _ e)))))
end
end ZP
abbrev Gy(d1 d2:Sd):It:=⟨λi H=>∃xs ys a b,d1.Vh H xs/\d2.Vh H ys/\xs[i]?=δ a/\ys[i]?<*b,λi H v H'=>∃p xs ys a b,d1.Vh H xs/\d2.Vh H ys/\xs[i]?=δ a/\ys[i]?=δ b/\v=.ξ p/\H p=ε/\H'=QO H p (.Rn [a,b]),
 λi H=>∃xs ys,d1.Vh H xs/\d2.Vh H ys/\xs.β=ys.β/\i=xs.β⟩
def bL{d:Sd}(x:d.pl it i h):∃o,h.Δ it=δ o/\∀v,o.RH≠.SF v:=by
 cases d with
 |tx y t=>let⟨o,e,_,dd⟩:=x;show(o,e,λv q=>by rw[dd]at q;cases q)
 |tp a=>let⟨o,e,_,dd⟩:=x;show(o,e,λv q=>by rw[dd]at q;cases q)
 |ls a=>let⟨o,e,_,dd⟩:=x;show(o,e,λv q=>by rw[dd]at q;cases q)
def Gz{d:Sd}(x:d.pl it i h)(k:∀o,h.Δ it<*o->h'.Δ it<*o):d.pl it i h':=by
 cases d with
 |tx y t=>let⟨o,e,r⟩:=x;show(o,k o e,r)
 |tp a=>let⟨o,e,r⟩:=x;show(o,k o e,r)
 |ls a=>let⟨o,e,r⟩:=x;show(o,k o e,r)
def j8{f:St}{d:Sd}(I:f' X b f H s)QJd:∃R9,d.hp R9 s.ρ:=by
 cases d with
 |tx y t=>show(#[],S9.Sv)
 |tp a=>
  let⟨R9,_,p,_⟩:=I.Uu (q5.of (show H a=_ from h));show(_,p)
 |ls a=>
  let⟨R9,_,⟨o,n,e,c,_,dd⟩,_⟩:=I.V8 (k9.of (show H a=_ from h));show(R9.Θ,o,e,c,n,dd)
def GA{X:Cx}{J:St}{d:Sd}(I:f' X F J H s)(E:A.SX=ε)QJd(k:H it=ε)(hp:d.pl it i s.ρ):∃f P S,Draws X.Ω X.w A it f xs.β P S/\(∀c∈f,c=it\/∃u,H c<*u)/\S i s.ρ/\(∀j g,S j g->d.pl it j g)/\∀j v x,P j v->xs[j]?<*x->ae x v:=by
 cases d with
 |tx y t=>
  let h:xs=y.Vu.Qx.Q_ λc=>V.QZ ⟨#[c]⟩:=h;refine([it],λi v=>∃c u,y.Vu[i]?=δ c/\v=.QZ ⟨#[c]⟩ u,ZP.Dd y t it,?_,λc q=>.RN (yl q),hp,λj g z=>z,λj v x b m=>?_)
  .let e:xs.β=y.Vu.Q':=by rw[h];simp
   rw[e];show ZP.draws E it y t
  .obtain ⟨c,u,M,ζ⟩:=b;rw[h,na,Ux,M]at m;cases m;show(u,1)
 |tp a=>
  let⟨R9,r,p,_⟩:=I.Uu (q5.of (show H a=_ from h));let C:s.ρ.Vv a R9.Θ:=p;let l:a≠it:=λz=>by rw[<-z,show H a=_ from h]at k;cases k
  let e:xs.β=R9.Θ.Q':=by rw[r.β];simp
  refine([it,a],λi v=>R9.Θ[i]?<*v,λi h=>h.XX it a i/\h.Vv a R9.Θ,by rw[e];show OF E it a l R9.Θ,λc q=>?_,(hp,C),λj g z=>z.1,λj v x b m=>?_)
  .rcases QY.mp q with z|z
   .exact .RN z
   .rw [yl z];show .Rh (_,h)
  .obtain ⟨u,D,B⟩:=r.Yj m;let b:R9.Θ[j]?<*v:=b;rw[γ.getElem?_toArray,D]at b;cases b;show B
 |ls a=>
  let⟨R9,r,⟨o,n,L,N,_,dd⟩,_⟩:=I.V8 (k9.of (show H a=_ from h));let C:s.ρ.IsList a R9.Θ:=(o,L,N,n,dd);let l:a≠it:=λz=>by rw[<-z,show H a=_ from h]at k;cases k
  let e:xs.β=R9.Θ.Q':=by rw[r.β];simp
  refine([it,a],λi v=>R9.Θ[i]?<*v,λi h=>h.IsListIter it a i/\h.IsList a R9.Θ,by rw[e];show Draws.V8 E it a l R9.Θ,λc q=>?_,(hp,C),λj g z=>z.1,λj v x b m=>?_)
  .rcases QY.mp q with z|z
   .exact .RN z
   .rw [yl z];show .Rh (_,h)
  .obtain ⟨u,D,B⟩:=r.Yj m;let b:R9.Θ[j]?<*v:=b;rw[γ.getElem?_toArray,D]at b;cases b;show B
namespace ZP
section
variable{Ω:Id}{w:QW}{A:Qy}{E:η->ω->Prop}{s:ω}{z TI TO i1 i2:θ}{f1:γ θ}{n1:χ}{P1:χ->η->Prop}{S1:χ->RC->Prop}
def Vr(d:s.Vi QE8 "zip")(h:Fr QAU A.Xz (Builtin.«zip.__next__» ([.ξ z],[])) (λa s'=>∃v,a=.done (.ret v)/\Q QF1 s') (λe s'=>∃o e',e=.ξ e'/\s'.ρ.Δ e'=δ o/\o.SS=.QU "StopIteration"/\Q ε s') s):Fr QAU A (WE QE8) Q E s:=by
 unfold WE;refine e_ (V3 (Sg (Ss:=QF.Rj "__next__") d F.slot_zip_next (SV F.slot_zip_next d F.entry_zip_next (RQ h (λa s' c=>?_) λe s' c=>?_) (F.args_zip_next_1 _))))
 .obtain ⟨v,ζ,q⟩:=c;show(v,1,h9 q)
 .obtain ⟨o,e',ζ,f,g,q⟩:=c;show e_ (Vp (T:="StopIteration") (b:=π) (o,f,g) isSubtype_stop (h9 q))
def Hf(p:Draws Ω w A i1 f1 n1 P1 S1)(B:∀c∈f1,c=i1\/c∉[z,TO,i1,i2])(n:V_ z TI TO i1 i2 TI TI)QDm(g:UM s.ρ TI QDs QEq)(h1:S1 n1 s.ρ)(D:∀h' e u,QE9->(∃o,h'.Δ e=δ o/\o.SS=.QU "StopIteration")->E QA8 {s with ρ:=h',QT:=u}):Fr QAU A (Builtin.«zip.__next__» ([.ξ z],[])) Q E s:=by
 unfold Builtin.«zip.__next__»;refine e_ (SR (a:=QIf) ζ (e_ (RP hz ζ (x:=.UV ν) ζ (e_ (RP hz ζ (x:=.ξ TI) ζ (e_ (Ts g ζ (Rz (!1) QDa))))))));unfold Builtin.Ty.Yg;refine e_ (RP hz ζ (x:=.ε) ζ (h9 (Xr (!0) (e_ (W5 (e_ (RP hz ζ (x:=.ξ TO) ζ (e_ (VN hz (!1) λH t c1=>?_)))))))));simp only[γ.zipIdx_cons,γ.zipIdx_nil,U9,WU];let v:S1 n1 H:=p.Vx _ _ _ h1 λc b o e=>by
  rcases B c b with ζ|C
  .exact (c1.2 _ n.i1z).ο e
  .exact (c1.2 c λq=>C (by simp[q])).ο e
 refine e_ (e_ (e_ (wpAny_onRaise (e_ (m:=Builtin.Ty.ZZ QDs) (p.done _ _ _ v λj e i f=>?_)))));let⟨y,d,k⟩:=f;let h:YS j z TI TO .ellipsis:=i z _ n.i1z.QI t;refine VN (s:={s with ρ:=j,QT:=s.QT}) h (!1) λF _ l=>D F e s.QT (λc o b q=>?_) (y,(l.2 e λq=>?_).ο d,k)
 .exact (l.2 c λr=>b (by simp[r])).ο (i c o (λr=>b (by simp[r])) ((c1.2 c λr=>b (by simp[r])).ο q))
 .rw [q]at d;have:=Qw (ψ.Q_ UQ.SS) (d.QI.ο h);rw[ψ.map_some,ψ.map_some,k]at this;show QL (show η.QU "StopIteration"=η.QU "zip" from ψ.δ.Tp this) (!0)
end
end ZP
section
variable{X:Cx}{QE:γ QA_}{σ:St}{H:Hp}{s:ω}{z TI TO i1 i2:θ}{d1 d2:Sd}{k:χ}{A:Qy}{E:η->ω->Prop}{xs ys:γ V}{Q:ψ η->ω->Prop}
def iA(a:b∈[z,TO,i1,i2]):b∈[z,TI,TO,i1,i2]:=by simp at a⊢;rcases a with q|q|q|q<;>simp[q]
def JH(a:∀b∈[z,TI,TO,i1,i2],aL X QE H b)(h:c=i1\/∃u,H c<*u):c=i1\/c∉[z,TO,i1,i2]:=h.imp id λ⟨u,e⟩=>ol (λb d=>(a b (iA d)).1) e
def gq(B:A.SX=ε)(ap:V_ z TI TO i1 i2 TI TI)QAA QIL QDm(r:UM s.ρ TI QDs QEq)(q:UM s.ρ TO c d)(D:d1.pl i1 k s.ρ)(s2:d2.pl i2 k s.ρ)(P:d1.Vh H xs)(O:d2.Vh H ys)(C:xs[k]?<*a)(f:ys[k]?<*b)(R:∀h' i,f' X QE σ QFs {s with ρ:=h',QT:=i}->YS h' z TI TO (R6 s⁻¹)->UM h' TI QDs QEq->(∃a b,UM h' TO a b)->d1.pl i1 (k+1) h'->d2.pl i2 (k+1) h'->Q (δ QAX) {s with ρ:=h',QT:=i}):Fr QAB A (WE QE8) Q E s:=by
 let⟨f1,P1,S1,D1,N,l,b1,J⟩:=GA (A:=A.Xz) I B P (h i1 (!1)).1 D;let⟨f2,P2,S2,D2,m2,j,Z,F⟩:=GA (A:=A.Xz) I B O (h i2 (!1)).1 s2;refine ZP.Vr (_,hz,1) (ZP.Ju D1 D2 (λc n=>(N c n).imp id λo=>by let⟨u,e⟩:=o;show ol (λb f=>(h b (iA f)).1) e) (λc n=>(m2 c n).imp id λp=>by let⟨u,e⟩:=p;show ol (λb f=>(h b (iA f)).1) e) ap hz r q l j (l' C).1 (l' f).1 λy x g i M L T v t Y W m U=>?_);show R g i (I.turnedNew (S:=[z,TO,i1,i2]) U (λb f=>h b (iA f)) (n0 (by change 2≤16777216;decide),[y,x],.Rc (J k y a M C) (.Rc (F k x b L f) .S5),(_,m,1,(0),1))) T v (8,t) (b1 _ _ Y) (Z _ _ W)
def jI(q:A.SX=ε)(v:V_ z TI TO i1 i2 TI TI)QAA(f:∀b∈[z,TI,TO,i1,i2],aL X QE H b)QDm(j:UM s.ρ TI QDs QEq)(l:d1.pl i1 xs.β s.ρ)(n:d1.Vh H xs)(t:∀h' a,f' X QE σ H {s with ρ:=h',QT:=a}->Q ε {s with ρ:=h',QT:=a}):Fr QAB A (WE QE8) Q E s:=by
 let⟨B,P1,D,x,m,d,C,y⟩:=GA (A:=A.Xz) I q n (f i1 (!1)).1 l;show ZP.Vr (_,hz,1) (ZP.Hf x (λc h=>JH f (m c h)) v hz j d λg e a u i=>by let⟨o,p,h⟩:=i;show(o,e,1,p,h,t g a (I.turnedL (S:=[z,TO,i1,i2]) u λb r=>f b (iA r))))
end
def qk QC7(d1 d2:Sd)(z TI TO i1 i2:θ)(t:V_ z TI TO i1 i2 TI TI):gm P w K (.Wr es kt pt) (Gy d1 d2) [z,TI,TO,i1,i2] z (λi h=>YS h z TI TO .ε/\UM h TI QDs QEq/\(∃a b,UM h TO a b)/\d1.pl i1 i h/\d2.pl i2 i h)  where
 mem:=by simp
 Yd:=λi h D c r=>by
  let⟨hz,f,⟨a,b,j⟩,n,s2⟩:=D;simp only[QY,SM,TQ]at r;rcases r with ζ|rfl|rfl|rfl|rfl
  .exact (_,hz,λv q=>by cases q)
  .exact (_,f,λv q=>by cases q)
  .exact (_,j,λv q=>by cases q)
  .exact bL n
  .exact bL s2
 UB:=λi h h'⟨hz,f,⟨a,b,j⟩,n,s2⟩k=>
  (k z (!1) _ hz,k TI (!1) _ f,(a,b,k TO (!1) _ j),Gz n (k i1 (!1)),Gz s2 (k i2 (!1)))
 Yi:=by
  rintro X F hw J r i x s U H E I B⟨hz,f,⟨a,b,j⟩,n,s2⟩⟨xs,ys,R,Q,l,p,A,y⟩;subst F hw J;refine gq (I.ok.hd r) t I B hz f j n s2 l p A y λg C O Y N⟨c,d,M⟩g1 g2=>(0,wpAny_letOwnedTupleGo_zip (s:={s with ρ:=g,QT:=C}) Y λg' L Z=>?_);let T:∀b∈[z,TI,TO,i1,i2],QO H s⁻¹ (.Rn [R,Q]) b=ε:=λb m=>by
   let W:b<s⁻¹:=by
    let⟨o1,e1,_⟩:=bL n;let⟨o2,e2,_⟩:=bL s2;simp only[QY,SM,TQ]at m;rcases m with ζ|rfl|rfl|rfl|rfl
    .exact lt_size hz
    .exact lt_size f
    .exact lt_size j
    .exact lt_size e1
    .exact lt_size e2
   rw[a_ (RM W)];show(B b m).1
  let u:∀b o,b≠z->g.Δ b<*o->g'.Δ b<*o:=λb o m e=>(Z.2 b m).ο e;show(.ξ s⁻¹,_,O.turnedL (S:=[z]) (t':=C) (λb o m e=>u b o (λq=>m (by simp[q])) e) (λb m=>by rw[yl m];show(T z (!1),(B z (!1)).2)),1,
   (_,xs,ys,R,Q,l,p,A,y,1,I.S8.SZ (QA _),1),(L,u _ _ t.TIz N,(8,u _ _ t.TOz M),Gz g1 λo e=>u _ o t.i1z e,Gz g2 λo e=>u _ o t.i2z e),T)
 done:=by
  rintro X F hw J r i x s U H E I B⟨hz,f,_,n,s2⟩⟨xs,ys,l,p,hl,ζ⟩;subst F hw J;show jI (I.ok.hd r) t I B hz f n l λg C O=>(1,O)
 self:=λ_ _ _ _ _ st h=>wpAny_pyIter_zip st.1 h
def JI{d:Sd}QJd(s:∀b o,H b<*o->H' b<*o):d.Vh H' xs:=by
 cases d with
 |tx x k=>show h
 |tp a=>show s _ _ h
 |ls a=>show s _ _ h
abbrev Sd.Wa:Sd->Z5->Sd
 |.tx x _,k=>.tx x k
 |d,_=>d
def JJ{d:Sd}QJd:(d.Wa k).Vh H xs:=by cases d<;>show h
def sw{d:Sd}(e:ae d.vl u):∃k,u=(d.Wa k).vu:=by
 cases d with
 |tx x k=>show(show ∃t,u=η.QZ x t from e)
 |tp a=>cases e;show((0),1)
 |ls a=>cases e;show((0),1)
inductive vf QB7 QAI QDz:Prop
 |mk (d1 d2:Sd) (xs ys:γ V) (_:vs=[d1.vl,d2.vl]) (_:d1.Vh H1 xs) (_:d2.Vh H1 ys) (_:∀k1 k2,R (Gy (d1.Wa k1) (d2.Wa k2)) H1)
abbrev pH QG9:TI:=λσ H R=>t σ H (vf R)
def Hg{P:γ SH}{y:χ}{x:UL}QGA(F:Gl X "zip")(E:X.mg "zip"=ε)(J:PA X [a,b] ta)(D:QJE>>>4)(j:((ST Ri (BT [b] X.QC)).U6 QBF=ν)>>>4):PI X (.Wr P y x) (.T0 (.SG "zip" p) [a,b] [] Ri) (pH ta):=by
 intro e s v H R I h;refine Rg (u_ I F E boot_zip (Su.WZ.Tw (nb (J Ri e s v H _ I h) λus d l=>?_) D j));let⟨vs,U,i,w,d1,d2,xs,ys,O,C,B,q⟩:=l;subst O;let⟨Y,W,ζ,S,Q⟩:=cL w;let⟨k1,ζ⟩:=sw S;let⟨k2,ζ⟩:=sw Q;let q:=q k1 k2;let⟨A,r⟩:=j8 i (JJ (k:=k1) C);let⟨z,o⟩:=j8 i (JJ (k:=k2) B);generalize d1.Wa k1=d1 at q r;generalize d2.Wa k2=d2 at q o;refine ZP.Dl r o λg u n m N M L=>wpAny_pyIter_zip (s:={d with ρ:=g}) u ?_;let T:V_ (d⁻¹+4) (d⁻¹+2) (d⁻¹+3) d⁻¹ (d⁻¹+1) (d⁻¹+2) (d⁻¹+2):=by
  constructor<;>show Ko (!6)
 refine(_,[d⁻¹+4,d⁻¹+2,d⁻¹+3,d⁻¹,d⁻¹+1],_,Gy d1 d2,U,1,i.XD (t':=d.QT) L,qk d1 d2 _ _ _ _ _ T,
  (u,n,(8,m),N,M),λc t=>?_,q)
 let f:d⁻¹≤c:=by
  simp only[QY,SM,TQ]at t;rcases t with ζ|rfl|rfl|rfl|rfl<;>first|show Uc _ _|show QA _
 show i.fpOk f (i.S8.SZ f)
abbrev EE(fv:Ψ)(x:Λ)(v:η):Prop:=(fv=π/\∃b:Ψ,v=.UV b/\x=if b then 1 else 0)\/(fv=ν/\∃t,v=.QG x t)
abbrev NO QKU QBP(fv:Ψ)(x:Λ):Λ:=if fv=π then reduceHash x else(SI P w).hash x
section
variable{P:Id}{w:QW}{fv:Ψ}
def EE.Tp(a:EE fv x v)(b:EE fv y v):x=y:=by
 rcases a with⟨rfl,c,ζ,ζ⟩|⟨rfl,t,ζ⟩
 .rcases b with⟨_,d,e,ζ⟩|⟨e,_⟩
  .cases e;rfl
  .cases e
 .rcases b with⟨e,_⟩|⟨_,t',e⟩
  .cases e
  .cases e;rfl
def EE.YY(a:EE fv x v)(q:Q (NO P w fv x) {s with QT:=s.QT+1}):Fr QA' A (YY v) Q E s:=by
 rcases a with⟨rfl,b,ζ,ζ⟩|⟨rfl,t,ζ⟩
 .exact (EA P w).YY (k:=b) (by cases b<;>rfl) q
 .exact (SI P w).YY (k:=x) QHR q
def EE.eq(a:EE fv x u)(b:EE fv y v):S4.VM A s u v (decide (x=y)):=by
 rcases a with⟨rfl,c,ζ,ζ⟩|⟨rfl,t,ζ⟩
 .rcases b with⟨_,d,ζ,ζ⟩|⟨e,_⟩
  .let h:=S4.VM.bool_bool (A:=A) (s:=s) c d;rw[show(c==d)=decide ((if c then(1:Λ)else 0)=if d then 1 else 0) by cases c<;>cases d<;>rfl]at h;show h
  .cases e
 .rcases b with⟨e,_⟩|⟨_,t',ζ⟩
  .cases e
  .let h:=S4.VM.int_int (A:=A) (s:=s) x t y t';rw[show(x==y)=decide (x=y) by rw[Ψ.T9];simp]at h;show h
def EE.byValue(a:EE fv x v):carriedByValue v=π:=by
 rcases a with⟨rfl,c,ζ,ζ⟩|⟨rfl,t,ζ⟩<;>rfl
end
section
variable(P:Id)(w:QW)(fv:Ψ)
abbrev aX QKP(k:γ Λ)QCs:Prop:=∃(o:UQ)(n:χ)(v:η)(b:θ)(x:Λ)(ks:γ Λ),k=x::ks/\h.Δ a=δ o/\o.SS=.QU "tuple"/\o.RH=.WA #[v,.ξ b] n/\EE fv x v/\Y' QCE h ks b
abbrev iu:γ Λ->Λ
 |[]=>0
 |x::ks=>reduceHash (Builtin.Wr.tupleHashOf [NO P w fv x,tupleKeyHash QCE ks])
end
section
variable{P:Id}{w:QW}{fv:Ψ}
def aX.Tp(g:aX P w fv h x a)(f:aX P w fv h y a):x=y:=by
 let⟨o,n,v,b,A,xs,ζ,h1,_,k,j,i⟩:=g;let⟨B,C,e,u,z,ys,ζ,d,_,c,m,l⟩:=f;rw[h1]at d;cases d;rw[k]at c;injection c with t _;let s:[v,η.ξ b]=[e,.ξ u]:=Qw R_.Qx t;injection s with r q;injection q with p _;cases p;subst r;rw[j.Tp m,i.Tp l]
def aX.Ti{p q}(x:aX P w fv h k a)(c:h.Δ d<*o)(e:o.RH=.Uk p q)(f:Tb d h h'):aX P w fv h' k a:=by
 let⟨j,n,v,b,i,xs,ζ,h1,h2,g,m,l⟩:=x;refine(j,n,v,b,i,xs,1,(f.2 a ?_).ο h1,h2,g,m,l.Ti c e f);rintro ζ;rw[h1]at c;cases c;rw[g]at e;cases e
def EF(d:A.S_+1<UJ)(x:aX P w fv s.ρ k a)(q:Q (iu P w fv k) {s with QT:=s.QT+(k.β+2)}):Fr QA' A (YY QAd) Q E s:=by
 let⟨o,n,v,b,c,xs,ζ,h1,h2,h,g,f⟩:=x;refine Ξ.W.pyHash_slot (T:="tuple") (o,h1,h2) F.slot_tuple_hash F.entry_tuple_hash (F.args_tuple_hash_1 _) QHQ (.Rh (Ig d)) ?_;refine e_ (m:=Builtin.Wr.tupleItemsOf QAd) (wpAny_tupleItemsOf h1 h QDa);rw[<-Y5];change Fr _ _ (forIn [v,η.ξ b] _ _) _ _ _;rw[U9];refine e_ (e_ (g.YY (e_ QHC)));dsimp only;rw[U9];refine e_ (e_ (wpAny_pyHash_tuple (Y2:=SI P w) (by change A.Xz.S_<UJ;rw[Qy.WS];show d) f (e_ QHC)));dsimp only;rw[WU];refine h9 (e_ (YD (h9 (9,3))));let e:s.QT+1+(xs.β+1)+1=s.QT+((c::xs).β+2):=by rw[RY];lia
 simpa[e,iu]using q
def yW(B:A.S_+1<UJ)(p:aX P w fv s.ρ x a)(m:aX P w fv s.ρ y b)QBM(Q:Ψ->ω->Prop)(q:Q (decide (x=y)) s):Fr QA' A (eqBool QAd QEB) Q E s:=by
 by_cases h:a=b
 .subst h;rw[RI (p.Tp m)]at q;show S4.VM.SO QAd P w E Q q
 .obtain ⟨o,n,v,c,g,xs,ζ,h1,h2,F,D,C⟩:=p;let⟨u,z,l,k,f,ys,ζ,M,L,J,I,H⟩:=m;let i:A.Xz.S_<UJ:=by rw[Qy.WS];show B
  let d:S4.VM A.Xz s (.ξ c) (.ξ k) (decide (xs=ys)):=λR r T S t=>wpAny_eqBool_tuple (Y2:=SI R r) i (iw C) (iw H) t;let UW:=S4.VM.of_refs (A:=A) h (S4.RcAt.tuples (s:=s) (e:=λj=>if j=0 then decide (g=f)else decide (xs=ys)) (o,h1,h2,n,F) (u,M,L,z,J) (Ig B) (λj l1 l2=>by
   match j,l1,l2 with
   |0,_,_=>show D.eq I
   |1,_,_=>show d
   | n+2,l1,_=>show QL l1 (by change ¬ (n+2<2);show Gi)))
  refine UW P w E Q ?_;let e:((γ.Re (min (#[v,.ξ c]:R_ η).Q' (#[l,.ξ k]:R_ η).Q')).UW (λj=>if j=0 then decide (g=f)else decide (xs=ys))&&(#[v,.ξ c]:R_ η).Q'==(#[l,.ξ k]:R_ η).Q')=decide (g::xs=f::ys):=by
   change (decide (g=f)&&(decide (xs=ys)&&π)&&π)=_;by_cases O:g=f<;>by_cases N:xs=ys<;>simp[O,N]
  rw[e];show q
def qj(x:aX P w fv s.ρ k a)(q:Q π s):Fr QA' A (eqIsQuiet 8 QAd) Q E s:=by
 let⟨o,n,v,b,l,xs,ζ,h1,h2,f,e,d⟩:=x;refine Kv (n:=7) (o,h1,h2,n,f) (λu c R r=>?_) q;rcases QY.mp (show u∈[v,.ξ b]from c)with ζ|c
 .rw [YN _ e.byValue];show h9 r
 .rw [yl c];let⟨o,R9,n,j,i,h,g⟩:=d;refine Kv (n:=6) (o,j,i,n,h) (λv c R r=>?_) r;rw[YN _ (g.byValue v c)];show h9 r
end
abbrev wC QKU QBP(fv:Ψ):HeapKind P w (γ Λ) where
 is:=aX P w fv
 hash:=iu P w fv
 draws:=λk=>k.β+2
 room:=λA=>A.S_+1<UJ
 Tp:=λa b=>a.Tp b
 Ti:=λx ho hd hs=>x.Ti ho hd hs
 YY:=λhu hk h=>EF hu hk h
 eqBool:=λhu hx hy h=>yW hu hx hy _ _ h
 quiet:=λhk h=>qj hk h
abbrev vi(fv:Ψ)(x:Λ):V:=if fv=π then .bl (decide (x=1))else .QG x
abbrev LX(fv:Ψ)QAH(k:γ Λ)QCs:Prop:=∃(b:θ)(x:Λ)(ks:γ Λ),k=x::ks/\(fv=π->x=0\/x=1)/\H a=δ (.Rn [vi fv x,.ξ b])/\FG H ks b
abbrev NP QKU QBP(fv:Ψ):EB P w (γ Λ) where
 Y2:=wC P w fv
 ZL:=LX fv
 ok:=λ{H h k a}e ok=>by
  let⟨b,x,ks,ζ,e0,e1,e2⟩:=e
  let⟨_,R9,r,o,h1,h2,n,h3⟩:=(show Ai P w H h a (.Rn [vi fv x,.ξ b])from ok a _ e1)
  let⟨u1,u2,ζ,r1,r2⟩:=cL r
  cases(show u2=η.ξ b from r2)
  refine(o,n,u1,b,x,ks,1,h1,h2,h3,3,mG e2 ok)
  cases fv with
  |π=>
   cases(show u1=η.UV (decide (x=1))from r1)
   rcases e0 ζ with ζ|rfl
   .exact .RN (1,ν,5)
   .exact .RN (1,π,5)
  |ν=>
   let⟨t,ζ⟩:=(show ∃t,u1=η.QG x t from r1)
   show .Rh (1,t,1)
 room:=λ{A}hu=>(by change A.Xz.S_+1<UJ;rw[Qy.WS];show GS hu,by change A.S_+1<UJ;show Fl hu)
 Wv:=λs hZ2=>by let⟨b,x,ks,e,e0,e1,e2⟩:=hZ2;show(b,x,ks,e,e0,s _ _ e1,s _ _ e2)
inductive TK where
 |i|t|q|p
 deriving Sb
abbrev dK QKU QBP:TK->EB P w (γ Λ)
 |.q=>NP P w π
 |.p=>NP P w ν
 |_=>bb P w
def KD(k:Λ)(t:Z5):η.isInt k (.QG k t)=π:=by simp[η.isInt]
abbrev qc QKU QBP QAH(d:θ)(y:V)(r:ψ V):Prop:=
 (∃RW k,H d=δ (BH QCE d RW)/\y=.QG k/\r=aK RW k) \/
 ∃ti RW k b,H d=δ (Ba QGL d RW)/\QDB/\y=.ξ b/\(dK P w ti).ZL H k b/\r=aI RW k
abbrev yT QKU QBP QAH(d:θ)(y v:V)QBW:Prop:=
 (∃RW k,H d=δ (BH QCE d RW)/\y=.QG k/\aK RW k=ε/\RW.β<Φ/\H'=QO H d (BH QCE d (RW++[(k,v,)]))) \/
 ∃ti RW k b,H d=δ (Ba QGL d RW)/\QDB/\y=.ξ b/\(dK P w ti).ZL H k b/\aI RW k=ε/\RW.β<Φ/\H'=QO H d (Ba QGL d QEX)
section
variable{X:Cx}
inductive w4 QKU QBP(x:V)(y:V)QAH QAR:Prop
 |mk (d o:_) (_:y=.ξ d) (_:qc P w H d x o) (_:Q (.bl (!o.VR)) H)
def qP(m:X.A.S_+64<UJ):y' X (So .NotIn) (w4 X.Ω X.w):=by
 intro f s r H x y v u Q I c j h;let⟨d,o,ζ,g,q⟩:=h;cases j;rcases g with⟨RW,k,e,ζ,ζ⟩|⟨i,RW,k,b,e,n,ζ,l,ζ⟩
 .obtain ⟨t,ζ⟩:=(show ∃t,v=η.QG k t from c);let⟨ns,_,vs,a,dd⟩:=D9 I.S8 e;refine wpAny_notIn_of (Y2:=SI X.Ω X.w) (k:=k) (KD k t) ns dd.mapOf ?_;rw[<-LJ (a.val k)];show(.bl _,H,I.Wa _,1,q)
 .cases c;show jn (D:=dK X.Ω X.w i) m I e n l λs' p=>(.bl _,H,p,1,q)
def vK{c:St}(I:f' X a c H s)(g:qc X.Ω X.w H d y o):s.Vi QDM "dict":=by
 rcases g with⟨RW,k,e,_⟩|⟨f,RW,k,b,e,h,_⟩
 .obtain ⟨_,_,vs,_,dd⟩:=D9 I.S8 e;show dd.VO
 .obtain ⟨_,_,vs,_,dd⟩:=eR (D:=dK X.Ω X.w f) I.S8 e h;show dd.VO
inductive LY QKU QBP(x:V)(y:V)QAH QAR:Prop
 |mk (d v:_) (_:x=.ξ d) (_:qc P w H d y QF1) QHn
def uV(C:X.A.S_+64<UJ):D6 X (LY X.Ω X.w):=by
 intro c f m s M H x y v u Q I r j h E;let⟨d,z,ζ,g,q⟩:=h;cases r;refine tail_any (ops:=[.ξ d,u]) (vK I g) Ξ.F.YE.ς ?_ E;rcases g with⟨RW,k,e,ζ,l⟩|⟨p,RW,k,b,e,J,ζ,B,l⟩
 .obtain ⟨t,ζ⟩:=(show ∃t,u=η.QG k t from j);let⟨ns,_,vs,i,dd⟩:=D9 I.S8 e;let⟨n,hw,a⟩:=av.Zx (v:=z) (o:=Vj vs k) (by rw[l];show i.val k);show Ye (Y2:=SI X.Ω X.w) (k:=k) (KD k t) dd.mapOf hw (z,H,I.Wa _,a,q)
 .cases j;show vm (D:=dK X.Ω X.w p) C I e J B l λn s' L a=>(z,H,L,a,q)
inductive OT QKU QBP(o:V)(i:V)(v:V)QAH(Q:Hp->Prop):Prop
 |mk (d H':_) (_:o=.ξ d) (_:yT P w H d i v H') (_:Q H')
def qz(B:X.A.S_+64<UJ):yt X (OT X.Ω X.w):=by
 intro n s J H o i v L z u Q I r m l h;let⟨d,H',ζ,g,q⟩:=h;cases r;rcases g with⟨RW,k,e,ζ,f,j,ζ⟩|⟨p,RW,k,b,e,E,ζ,y,f,j,ζ⟩
 .obtain ⟨t,ζ⟩:=(show ∃t,z=η.QG k t from m);let⟨ns,hz,vs,a,dd⟩:=D9 I.S8 e;refine wpAny_setItem_pairs (Y2:=SI X.Ω X.w) (k:=k) (hsz:=by rw[<-a.β];show hz) (KD k t) dd λh' c C=>(_,3,q);let x:=av.YH (show av ε (Vj vs k) by rw[<-f];show a.val k);rw[Kw x]at c;show Jx I (by rw[e];show S9.Sv) C (let⟨o,_,_,q,_⟩:=c;(o,q)) (By ns (by rw[q4];show j) (cy a l) c)
 .cases m;show vk (D:=dK X.Ω X.w p) B I e E y f j l λs' F=>(_,F,q)
abbrev uF QKU QBP(d:θ):TK->HO
 |.i=>BH QCE d []
 |k=>Ba (dK P w k) d []
def xA QKP(a:Sx<h.SN.Q')(k:TK):Ai P w H (h.Rm {SS:=.QU "dict",RH:=.Uk #[]}) h.SN.Q' (uF P w h.SN.Q' k):=by
 let ns:(h.SN.Q'==Sx)=ν:=RX.Sz (Ne.QI (RM a));cases k with
 |i=>show By (Y2:=SI P w) ns QDt .S5 QJX
 |t=>show g9 (D:=dK P w .t) ns QDt .S5 QJY
 |q=>show g9 (D:=dK P w .q) ns QDt .S5 QJY
 |p=>show g9 (D:=dK P w .p) ns QDt .S5 QJY
def xB(h:k≠.i):uF P w d k=Ba (dK P w k) d []:=by
 cases k with
 |i=>show QL ζ h
 |_=>rfl
abbrev OU QKU QBP(tk tv:TE):TE:=λσ H Q=>∃ti:TK,∀p,H p=ε->tk σ (QO H p (uF P w p ti)) λx H1=>tv σ H1 λy H2=>H2 p=δ (uF P w p ti)/\
 ((ti=.i/\∃k,x=.QG k/\Q QAp (QO H2 p (BH QCE p [(k,y,)])))\/(ti≠.i/\∃b k,x=.ξ b/\(dK P w ti).ZL H2 k b/\Q QAp (QO H2 p (Ba QGL p [(k,b,y,)]))))
def xh(N:X.A.S_+64<UJ)(R:PE X k B)(M:PE X v tv):PE X (.Dict [δ k] [v] Ri) (OU X.Ω X.w B tv):=by
 intro e s m H Q I h;let⟨f,h⟩:=h;let P:=I.S8.SZ (QA s⁻¹);let T:=I.Xy (a:=s⁻¹) (o:=uF X.Ω X.w s⁻¹ f) (t':=s.QT) (λ_ _ q=>o9 {SS:=.QU "dict",RH:=.Uk #[]} q) QA2 (xA s.ρ I.bigS f);let j:=zip_pairTrees [δ k] [v] X.QC Ri ζ ζ;rw[arm_eval_Dict,j,dictDisplay_pairs (pairTrees [δ k] [v] X.QC Ri) (!5) (by change 1<17;decide)];refine e_ (Tm QDa);unfold subDict;refine e_ (ZV (e_ (RZ ?_)));rw[IO (show(pairTrees [δ k] [v] X.QC Ri).β≤15 by change 1≤15;decide)];refine e_ (pairTrees_cons_walk (nb (R e _ m _ _ T (h _ P)) λu C⟨x,U,S,p,F⟩=>nb (M e C m U _ S F) λr s2⟨y,W,i,n,hp,g⟩=>pairTrees_nil_walk (RZ QDa)));rw[U9];rcases g with⟨rfl,k,ζ,g⟩|⟨O,b,k,ζ,J,g⟩
 .obtain ⟨t,ζ⟩:=(show ∃t,u=η.QG k t from p);let⟨ns,hz,vs,c,dd⟩:=D9 (Y2:=SI X.Ω X.w) (RW:=[]) i.S8 hp;refine e_ (e_ (wpAny_dictSet_pairs (Y2:=SI X.Ω X.w) (k:=k) (hsz:=by rw[<-c.β];show hz) (KD k t) dd λh' d l=>h9 ?_));dsimp only;rw[WU];refine h9 QH1;let E:=av.YH (show av ε (Vj vs k)from c.val k);rw[Kw E]at d;show Jx i (by rw[hp];show S9.Sv) l (let⟨o,_,_,q,_⟩:=d;(o,q)) (By ns (n0 (by change 1≤16777216;decide)) (cy (RW:=[]) c n) d)
 .cases p;rw[xB O]at hp;let⟨ns,hz,xs,c,dd⟩:=eR (D:=dK X.Ω X.w f) (RW:=[]) i.S8 hp (λx L=>by simp at L);refine e_ (e_ (wpAny_dictSet_heap (Y2:=(dK X.Ω X.w f).Y2) (hsz:=by rw[<-V0.β c];show hz) ((dK X.Ω X.w f).room N).2 ((dK X.Ω X.w f).ok J i.S8) dd λh' d l=>h9 ?_));dsimp only;rw[WU];refine h9 QH1;show yJ (D:=dK X.Ω X.w f) (RW:=[]) i hp ns (n0 (by change 1≤16777216;decide)) c ζ n d l
end
end L2
namespace RA
open L2
abbrev bB:TK->Hp->LN->θ->Prop
 |.q,H,k,b=>∃(c:θ)(x:χ)(ks:LN),k=x::ks/\x≤1/\H b=δ (.Rn [.bl (decide (x=1)),.ξ c])/\H c<*.Rn (b_ ks)
 |.p,H,k,b=>∃(c:θ)(x:χ)(ks:LN),k=x::ks/\H b=δ (.Rn [.QG (x:Λ),.ξ c])/\H c<*.Rn (b_ ks)
 |_,H,k,b=>H b<*.Rn (b_ k)
abbrev z8(ti:TK)QAH QFb(v:V):Prop:=if ti=.i then ∃n:χ,k=[n]/\v=.QG (n:Λ)else ∃b,v=.ξ b/\bB ti H k b
def bB.SO(h:bB f H k b)QA1:bB f H' k b:=by
 cases f with
 |q=>
  let⟨c,x,ks,e,g,d,a⟩:=h;show(c,x,ks,e,g,s _ _ d,s _ _ a)
 |p=>
  let⟨c,x,ks,e,d,a⟩:=h;show(c,x,ks,e,s _ _ d,s _ _ a)
 |_=>show s _ _ h
def sq QFb:(zs k).Q_ V.QG=b_ k:=by rw[zs,b_,γ.map_map];rfl
def bB.ZL(h:bB g H k b):(dK P w g).ZL H (zs k) b:=by
 let a:∀{ks:LN}{c:θ},H c<*.Rn (b_ ks)->FG H (zs ks) c:=λe=>by unfold FG;rw[sq];show e
 cases g with
 |q=>
  let⟨c,x,ks,ζ,i,f,d⟩:=h;refine(c,(x:Λ),zs ks,1,λ_=>?_,3,a d)
  .lia
  .rw [f,show vi π (x:Λ)=.bl (decide ((x:Λ)=1))from ζ,show decide ((x:Λ)=1)=decide (x=1) by rw[Ψ.T9];simp;lia]
 |p=>
  let⟨c,x,ks,ζ,f,d⟩:=h;show(c,(x:Λ),zs ks,1,λz=>(by cases z),f,a d)
 |_=>show a h
def z8.SO(h:z8 a H k v)QA1:z8 a H' k v:=by
 unfold z8 at h⊢;split
 .rename_i c;rw[IO c]at h;show h
 .rename_i c;rw[Cl c]at h;let⟨b,e,d⟩:=h;show(b,e,d.SO s)
abbrev Ea:LL->χ->γ (Λ×V)
 |[],_=>[]
 |k::r,n=>(((k.headD 0:χ):Λ),.QG (n:Λ),)::Ea r (n+1)
def pC:∀(ts:LL)QCm,(Ea ts n).β=ts.β
 |[],_=>rfl
 |k::r,n=>by rw[Ea,RY,RY,pC r]
def kO QFb:∀(ts:LL)QCm,Ea (ts++[k]) n=Ea ts n++[(((k.headD 0:χ):Λ),.QG ((n+ts.β:χ):Λ),)]
 |[],n=>rfl
 |t::r,n=>by
  rw[Vo,Ea,kO k r (n+1),Ea,Vo,RY,show n+1+r.β=n+(r.β+1) from Fq]
abbrev DJ(ts:LL)QFb:ψ χ:=if k∈ts then δ (ts.QP k)else ε
def kQ(h:t≠k):DJ (t::r) k=(DJ r k).Q_ (·+1):=by
 unfold DJ;by_cases a:k∈r
 .rw [IO (Q9 _ a),IO a,Y4,show(t==k)=ν from RX.Sz h];rfl
 .rw [Cl (λz=>(QY.mp z).SJ (λy=>h y.QI) a),Cl a];rfl
def jk{m:χ}:∀{ts:LL}{n:χ},(∀t∈ts,∃a,t=[a])->aK (Ea ts n) (m:Λ)=(DJ ts [m]).Q_ λ(i:χ)=>V.QG ((n+i:χ):Λ)
 |[],_,_=>rfl
 |t::r,n,h=>by
  let⟨a,ζ⟩:=h t (!1);by_cases e:a=m
  .subst e;rw[Ea,jL (k:=(a:Λ)) (show((([a]:LN).headD 0:χ):Λ)=(a:Λ)from ζ),DJ,IO (!1),γ.idxOf_cons_self];rfl
  .rw [Ea,AU (λz=>e (Λ.ofNat.Tp z)),jk (n:=n+1) (λt b=>h t (by simp[b])),kQ (λz=>e (by injection z))];cases DJ r [m]with
   |ε=>rfl
   |δ i=>
    change δ (V.QG ((n+1+i:χ):Λ))<*V.QG ((n+(i+1):χ):Λ);rw[show n+1+i=n+(i+1) from Fq]
abbrev y_ QKU QBP QAH(d:θ)(ti:TK)(ts:LL):Prop:=
 if ti=.i then H d=δ (BH QCE d (Ea ts 0))/\∀t∈ts,∃a,t=[a]
 else ∃RW:γ (γ Λ×θ×V),H d=δ (Ba QGL d RW)/\QDB/\RW.β=ts.β/\∀QBB QFb(x:γ Λ×θ×V),ts[i]?<*k->RW[i]?<*x->x.1=zs k/\x.2.2=.QG (i:Λ)
def oK:∀{n:χ},RW.β=ts.β->(∀QBB QFb(x:γ Λ×θ×V),ts[i]?<*k->RW[i]?<*x->x.1=zs k/\x.2.2=.QG ((n+i:χ):Λ))->aI RW (zs k)=(DJ ts k).Q_ λ(i:χ)=>V.QG ((n+i:χ):Λ):=by
 induction RW generalizing ts with
 |S5=>
  intro n a h;cases ts with
  |S5=>rfl
  |Rc t r=>cases a
 |Rc x xs d=>
  intro n a h;cases ts with
  |S5=>cases a
  |Rc t r=>
   let⟨b,j⟩:=h 0 t x ζ ζ;by_cases e:t=k
   .subst e;rw[DJ,IO (!1),γ.idxOf_cons_self];simp[aI,U',b,j]
   .let e':¬ x.1=zs k:=λz=>e (ip (b.QI.ο z));let l:aI (x::xs) (zs k)=aI xs (zs k):=by simp[aI,U',e']
    rw[l,d (n:=n+1) (by simpa using a) (λi k' c h1 h2=>by
     let⟨g,f⟩:=h (i+1) k' c h1 h2;show(g,by rw[f,show n+(i+1)=n+1+i from F6])),kQ e]
    cases DJ r k with
    |ε=>rfl
    |δ i=>
     change δ (V.QG ((n+1+i:χ):Λ))<*V.QG ((n+(i+1):χ):Λ);rw[show n+1+i=n+(i+1) from Fq]
section
variable{P:Id}{w:QW}{H:Hp}{d:θ}{ti:TK}{ts:LL}{k:LN}{v:V}
def y_.Yj QI9(e:z8 ti H k v):qc P w H d v ((DJ ts k).Q_ λ(i:χ)=>V.QG (i:Λ)):=by
 unfold y_ at h;unfold z8 at e;by_cases c:ti=.i
 .subst c;rw[IO ζ]at h e;let⟨n,ζ,ζ⟩:=e;refine .RN (8,h.1,1,3);rw[jk h.2];simp
 .rw [Cl c]at h e;let⟨RW,h1,h2,j,g⟩:=h;let⟨b,ζ,f⟩:=e;refine .Rh (ti,RW,zs k,b,h1,h2,1,f.ZL,3);rw[oK (n:=0) j (λi k x a b=>by rw[χ.Tq];show g i k x a b)];simp
def y_.put QI9(m:z8 ti H k v)(y:k∉ts)(r:ts.β<Φ):∃f,yT P w H d v (.QG (ts.β:Λ)) (L2.QO H d f)/\y_ P w (L2.QO H d f) d ti (ts++[k]):=by
 let o:DJ ts k=ε:=Cl y;let A:∀b xs,H b<*.Rn xs->∀φ,H d<*.ext φ->∀f,L2.QO H d f b<*.Rn xs:=λb xs e φ C f=>by
  rw[a_ (m_ e C (!5))];show e
 unfold y_ at h;unfold z8 at m;by_cases c:ti=.i
 .subst c;rw[IO ζ]at h m;let⟨n,ζ,ζ⟩:=m;refine(BH QCE d (Ea (ts++[[n]]) 0),.RN (8,h.1,1,3,by rw[pC];show r,3),3)
  .rw [jk h.2,o];rfl
  .rw [kO,χ.Tq];rfl
  .unfold y_;rw[IO ζ];refine(hJ,λt u=>?_);rcases Rp.mp u with z|z
   .exact h.2 t z
   .exact (n,yl z)
 .rw [Cl c]at h m;let⟨RW,h1,h2,l,s⟩:=h;let⟨b,ζ,B⟩:=m;let p:(dK P w ti).ZL H (zs k) b:=B.ZL;let Vw:∀f b xs,H b<*.Rn xs->L2.QO H d f b<*.Rn xs:=λf b xs e=>A b xs e _ h1 f;refine(Ba QGL d (RW++[(zs k,b,.QG (ts.β:Λ),)]),.Rh (ti,RW,zs k,b,h1,h2,1,p,3,by rw[l];show r,1),3)
  .rw [oK (n:=0) l (λi k x a b=>by rw[χ.Tq];show s i k x a b),o];rfl
  .unfold y_;rw[Cl c];refine(_,hJ,λx g=>?_,by rw[q4,q4,l];rfl,λi k' x j g=>?_)
   .rcases Rp.mp g with z|z
    .exact (dK P w ti).Wv (Vw _) (h2 x z)
    .rw [yl z];show(dK P w ti).Wv (Vw _) p
   .by_cases q:i<ts.β
    .rw [QK q]at j;rw[QK (by rw[l];show q)]at g;show s i k' x j g
    .rw [QM (SQ q)]at j;rw[QM (by rw[l];show SQ q),l]at g;let hz:i-ts.β=0:=by
      have:=(l' j).1;simp at this;omega
     rw[hz]at j g;cases j;cases g;show(1,by rw[show i=ts.β from GM hz q])
def y_.SO QI9(s:∀b o,H b<*o->(b=d\/∃xs,o=.Rn xs)->H' b<*o):y_ P w H' d ti ts:=by
 unfold y_ at h⊢;by_cases c:ti=.i
 .subst c;rw[IO ζ]at h⊢;show(s _ _ h.1 QAz,h.2)
 .rw [Cl c]at h⊢;let⟨RW,h1,h2,g,f⟩:=h;show(RW,s _ _ h1 QAz,λx a=>(dK P w ti).Wv (λb xs e=>s _ _ e (.Rh QCI)) (h2 x a),g,f)
end
end RA
namespace L2
open PySem.Spec PyProof.Rows
namespace ZP
abbrev CT(T:θ)QK3(TI TO:θ):UQ:={SS:=.QU "zip",Uk:=ε,RH:=.SD #[R6 T,.UV b,.UV ν,.ξ TI,.ξ TO],XR:=#[]}
section
variable{Ω:Id}{w:QW}{A:Qy}{E:η->ω->Prop}{s:ω}{z TI TO i1 i2 T:θ}{f1 f2:γ θ}{n1 n2 k:χ}{P1 P2:χ->η->Prop}{S1 S2:χ->RC->Prop}{b1:Ψ}{oT:UQ}
def pj(hz:s.ρ.Δ z<*CT T b1 TI TO)(a:s.ρ.Δ T<*oT)(h:∀h',h'.Δ z<*CT T π TI TO->Tb z s.ρ h'->Q ν {s with ρ:=h'}):Fr QAU A (Builtin.Ty.Yg QE8) Q E s:=by
 unfold Builtin.Ty.Yg;refine e_ (RP hz ζ (x:=R6 T) ζ ?_);change Fr _ _ (loadIfAlive ((T:Λ).Ru)>>=_) _ _ _;rw[Tn];refine e_ (Ξ.W.kdx_alive a ?_);refine Rz (!1) (e_ (RP hz ζ (x:=.UV b1) ζ ?_));cases b1 with
 |π=>show Rz (!0) (h9 (h _ hz (1,λ_ _=>rfl)))
 |ν=>show Xr (!0) (e_ (VN hz (!1) λh' e c=>h9 (h h' e c)))
def JK{Q:η->ω->Prop}(F:Draws Ω w A i1 f1 n1 P1 S1)(D:Draws Ω w A i2 f2 n2 P2 S2)(P:∀c∈f1,c=i1\/c∉[z,TO,i1,i2])(m2:∀c∈f2,c=i2\/c∉[z,TO,i1,i2])(b:V_ z TI TO i1 i2 TI TI)(hz:s.ρ.Δ z<*CT T b1 TI TO)(R:s.ρ.Δ T<*oT)(i:UM s.ρ TI (.ξ i1) (.ξ i2))(h1:S1 k s.ρ)(h2:S2 k s.ρ)(l1:k<n1)(l2:k<n2)(U:∀x y h' J,P1 k x->P2 k y->h'.Δ z<*CT T π TI TO->UM h' TI (.ξ i1) (.ξ i2)->S1 (k+1) h'->S2 (k+1) h'->UM h' s⁻¹ x y->
   (∀c o,c∉[z,TO,i1,i2]->s.ρ.Δ c<*o->h'.Δ c<*o)->Q (.ξ s⁻¹) {s with ρ:=h',QT:=J}):Fr (LE Ω w) A (Builtin.«zip.__next__» ([.ξ z],[])) (λB s'=>∃v,B=.done (.ret v)/\Q v s') E s:=by
 unfold Builtin.«zip.__next__»;refine e_ (SR (a:=QIf) ζ (e_ (RP hz ζ (x:=.UV ν) ζ (e_ (RP hz ζ (x:=.ξ TI) ζ (e_ (Ts i ζ (Rz (!1) (e_ (pj hz R λW I c1=>Rz (!0) ?_))))))))));dsimp only;let k1:bZ [z,TO,i1,i2] s.ρ W:=.UX c1 (!1);let l:∀QIJ{g g':RC},QBJ->S1 j g->QJ2->S1 j g':=λk st e=>F.Vx _ _ _ st λc h=>by
  rcases P c h with ζ|u
  .exact e
  .exact λo q=>k c o u q
 let C:∀QIJ{g g':RC},QBJ->S2 j g->QJ3->S2 j g':=λk st e=>D.Vx _ _ _ st λc h=>by
  rcases m2 c h with ζ|u
  .exact e
  .exact λo q=>k c o u q
 rw[<-Y5];change Fr _ _ QIl _ _ _;simp only[U9,WU];refine e_ (e_ (e_ (RZ (e_ (m:=Builtin.Ty.ZZ QDs) (F.Yi k _ _ _ l1 (l k1.2 h1 λo e=>(c1.2 i1 b.i1z).ο e) λx Y X O d1 p=>h9 ?_)))));dsimp only;refine h9 (e_ (e_ (RZ (e_ (m:=Builtin.Ty.ZZ QEq) (D.Yi k _ _ _ l2 (C (k1.ο QJ4).2 h2 λo e=>(p.2 i2 b.i12.QI).ο ((c1.2 i2 b.i2z).ο e)) λy d L N d2 n=>h9 ?_)))));dsimp only;refine h9 (h9 (e_ (wpAny_newTuple (hsz:=n0 (by change 2≤16777216;decide)) (h9 (0,3)))));let k3:bZ [z,TO,i1,i2] s.ρ d:=(k1.ο QJ4).ο (.UX n (!1));let H:d.Δ z<*CT T π TI TO:=(n.2 z b.i2z.QI).ο ((p.2 z b.i1z.QI).ο I);let r:UM d TI QDs QEq:=k3.2 TI _ (by simp[b.TIz,b.TITO,b.TIi1,b.TIi2]) i;let M:d.SN.Q'=s⁻¹:=k3.1;let t:S1 (k+1) d:=l (bZ.UX (S:=[z,TO,i1,i2]) n (!1)).2 d1 λo e=>(n.2 i1 b.i12).ο e;let f:UM (d.Rm {SS:=.QU "tuple",RH:=.WA #[x,y]}) d.SN.Q' x y:=QN _ ζ;change Q (.ξ d.SN.Q') _;rw[M]at f⊢;show U x y _ L O N (o9 _ H) (o9 _ r) (F.Vx _ _ _ t λc _ o e=>o9 _ e) (D.Vx _ _ _ d2 λc _ o e=>o9 _ e) f λc o h e=>o9 _ (k3.2 c o h e)
def Hh(f:Draws Ω w A i1 f1 n1 P1 S1)(j:∀c∈f1,c=i1\/c∉[z,TO,i1,i2])(y:V_ z TI TO i1 i2 TI TI)(hz:s.ρ.Δ z<*CT T b1 TI TO)(p:s.ρ.Δ T<*oT)(d:UM s.ρ TI QDs QEq)(h1:S1 n1 s.ρ)(t:∀h' e h,QE9->(∃o,h'.Δ e=δ o/\o.SS=.QU "StopIteration")->E QA8 {s with ρ:=h',QT:=h}):Fr QAU A (Builtin.«zip.__next__» ([.ξ z],[])) Q E s:=by
 unfold Builtin.«zip.__next__»;refine e_ (SR (a:=QIf) ζ (e_ (RP hz ζ (x:=.UV ν) ζ (e_ (RP hz ζ (x:=.ξ TI) ζ (e_ (Ts d ζ (Rz (!1) (e_ (pj hz p λv B c1=>Rz (!0) ?_))))))))));dsimp only;rw[<-Y5];change Fr _ _ QIl _ _ _;simp only[U9,WU];let i:S1 n1 v:=f.Vx _ _ _ h1 λc b o e=>by
  rcases j c b with ζ|l
  .exact (c1.2 _ y.i1z).ο e
  .exact (c1.2 c λq=>l (by simp[q])).ο e
 refine e_ (e_ (e_ (RZ (e_ (m:=Builtin.Ty.ZZ QDs) (f.done _ _ _ i λu e g n=>?_)))));show t u e s.QT (λc o b q=>g c o (λr=>b (by simp[r])) ((c1.2 c λr=>b (by simp[r])).ο q)) n
end
def CU:Yu (.QU "zip") "__len__"=pure ε:=by rw[T6,Sf];kernel_rfl
def Cw:Yu (.QU "zip") "__length_hint__"=pure ε:=by rw[T6,Sf];kernel_rfl
end ZP
section
variable{X:Cx}{QE:γ QA_}{σ:St}{H:Hp}{s:ω}{z TI TO i1 i2 S:θ}{d1 d2:Sd}{k:χ}{A:Qy}{E:η->ω->Prop}{xs ys:γ V}
abbrev EG(z TI TO i1 i2:θ)(d1 d2:Sd)QK4 QAH QKP:Prop:=
 ((YS h z TI TO .ε/\∃a b,UM h TO a b)\/∃T b1 ws,h.Δ z=δ (ZP.CT T b1 TI TO)/\H T<*.Rn ws)/\UM h TI QDs QEq/\d1.pl i1 k h/\d2.pl i2 k h
def EG.UB(st:EG z TI TO i1 i2 d1 d2 k H h)(c:∀b∈[z,TI,TO,i1,i2],∀o,h.Δ b<*o->h'.Δ b<*o)(g:∀T ws,H T<*.Rn ws->H' T<*.Rn ws):EG z TI TO i1 i2 d1 d2 k H' h':=
 (st.1.imp (λd=>by let⟨e,a,b,q⟩:=d;show(c z (!1) _ e,a,b,c TO (!1) _ q)) λf=>by let⟨T,i,ws,e,q⟩:=f;show(T,i,ws,c z (!1) _ e,g T ws q),c TI (!1) _ st.2.1,Gz st.2.2.1 (c i1 (!1)),Gz st.2.2.2 (c i2 (!1)))
def EG.ty QIM:s.Vi QE8 "zip":=st.1.SJ (λe=>(_,e.1,1)) λ⟨_,_,_,e,_⟩=>(_,e,1)
def ss(q:A.SX=ε)(U:V_ z TI TO i1 i2 TI TI)QAA(j:∀b∈[z,TI,TO,i1,i2],aL X QE H b)QIM(O:d1.Vh H xs)(N:d2.Vh H ys)(t:xs[k]?<*a)(f:ys[k]?<*b)(P:∀h' i,f' X QE σ QFs {s with ρ:=h',QT:=i}->EG z TI TO i1 i2 d1 d2 (k+1) QFs h'->Q (δ QAX) {s with ρ:=h',QT:=i}):Fr QAB A (WE QE8) Q E s:=by
 obtain⟨⟨hz,c,d,y⟩|⟨T,R,ws,hz,B⟩,l,M,s2⟩:=id st
 .exact gq q U I j hz l y M s2 O N t f λh' i I' C h _ F D=>P h' i I' (.Rh (8,_,C,hJ),h,F,D)
 .obtain ⟨f1,P1,S1,D1,m1,n,R,Y⟩:=GA (A:=A.Xz) I q O (j i1 (!1)).1 M;let⟨f2,P2,S2,D2,m2,m,b2,W⟩:=GA (A:=A.Xz) I q N (j i2 (!1)).1 s2;obtain⟨oT,eT⟩:∃o,s.ρ.Δ T<*o:=by let⟨_,_,_,o,e,_⟩:=I.S8 T _ B;show(o,e)
  refine ZP.Vr st.ty (ZP.JK D1 D2 (λc r=>(m1 c r).imp id λx=>by let⟨u,e⟩:=x;show ol (λb f=>(j b (iA f)).1) e) (λc r=>(m2 c r).imp id λv=>by let⟨u,e⟩:=v;show ol (λb f=>(j b (iA f)).1) e) U hz eT l n m (l' t).1 (l' f).1 λL J g i p1 Z C h F D p gk=>?_);show P g i (I.turnedNew (S:=[z,TO,i1,i2]) gk (λb f=>j b (iA f)) (n0 (by change 2≤16777216;decide),[L,J],.Rc (Y k L a p1 t) (.Rc (W k J b Z f) .S5),(_,p,1,(0),1))) (.Rh (8,ws,C,(a_ (f_ B I.SZ)).ο B),h,R _ _ F,b2 _ _ D)
def wz(p:A.SX=ε)(r:V_ z TI TO i1 i2 TI TI)QAA QIL(st:EG z TI TO i1 i2 d1 d2 xs.β H s.ρ)(n:d1.Vh H xs)(q:∀h' f,f' X QE σ H {s with ρ:=h',QT:=f}->Q ε {s with ρ:=h',QT:=f}):Fr QAB A (WE QE8) Q E s:=by
 obtain⟨⟨hz,c,d,x⟩|⟨T,D,ws,hz,y⟩,a,m,s2⟩:=id st
 .exact jI p r I h hz a m n q
 .obtain ⟨M,P1,N,F,t,i,D,J⟩:=GA (A:=A.Xz) I p n (h i1 (!1)).1 m;obtain⟨L,C⟩:∃o,s.ρ.Δ T<*o:=by let⟨_,_,_,o,e,_⟩:=I.S8 T _ y;show(o,e)
  show ZP.Vr st.ty (ZP.Hh F (λc j=>JH h (t c j)) r hz C a i λg e f B l=>by let⟨o,u,j⟩:=l;show(o,e,1,u,j,q g f (I.turnedL (S:=[z,TO,i1,i2]) B λb v=>h b (iA v))))
structure LZ(H0:Hp)(S:θ)(xs ys:γ V)QAH(ts:γ θ):Prop where
 QV:H S<*.QV QFc
 R9:∀QBB(t:θ),ts[i]?<*t->∃x y,xs[i]?=δ x/\ys[i]?=δ y/\H t<*.Rn [x,y]
 nd:ts.R7
 new:H0 S=ε
 SO:a' H0 H
def jH{h:η}{R:Result->ω->Prop}{H0:Hp}(P:A.SX=ε)(Q:V_ z TI TO i1 i2 TI TI)(Y:xs.β=ys.β)(hn:xs.β≤1000000)(D:d1.Vh H0 xs)(W:d2.Vh H0 ys)(hR:∀H s ts,f' X QE σ H s->ts.β=xs.β->LZ H0 S xs ys H ts->R (.ok (.ret h)) s):∀QK5 QAH QB_(ts:γ θ),ts.β+m=xs.β->f' X QE σ H s->(∀b∈[z,TI,TO,i1,i2],aL X QE H b/\b<s⁻¹)->EG z TI TO i1 i2 d1 d2 ts.β H s.ρ->LZ H0 S xs ys H ts->
   VD QAB A (.RJ "list.extend.loop" ([.ξ S,.ξ z,h],[])) R s
 |0,H,s,ts,M,I,d,st,L=>by
  refine TH F.entry_extend_loop ?_;rw[Qy.Ue F.Vl _];rw[show ts.β=xs.β from M]at st;show e_ (wz (A:=A.Xz) P Q I (λb c=>(d b c).1) st (JI D L.SO) λh' v j=>h9 (hR H _ ts j M L))
 |m+1,H,s,ts,M,I,d,st,L=>by
  refine TH F.entry_extend_loop ?_;rw[Qy.Ue F.Vl _];let h1:ts.β<xs.β:=Iu M
  let h2:ts.β<ys.β:=Y▸h1;let fr:=I.SZ;refine e_ (ss (A:=A.Xz) P Q I (λb c=>(d b c).1) st (JI D L.SO) (JI W L.SO) (j_ h1) (j_ h2) λh' v j B=>?_);let p:∀QBA{u:HO},H b<*u->b≠s⁻¹:=λe=>f_ e fr;let C:=(a_ (H:=H) (o:=.Rn [xs[ts.β],ys[ts.β]]) (p L.QV)).ο L.QV;let lt:s⁻¹<h'.SN.Q':=j.S8.lt hJ;let⟨_,R9,n,r,el,e⟩:=j.lstM C;let Z:R9.Θ.Q'=ts.β:=by rw[Qu,<-el,j']
  let J:=j.lset (its':=R9++[.ξ s⁻¹]) (ys:=(ts++[s⁻¹]).Q_ V.ξ) (f:=(·.Rm QAX)) (t':=v) C e (!1) (by rw[RU];show r.append QDg) (by rw[j',q4,S'];simp only[γ.Yh];lia);let U:∀QBA{u:HO},b≠S->H b<*u->QO (QO H s⁻¹ (.Rn [xs[ts.β],ys[ts.β]])) S (.QV ((ts++[s⁻¹]).Q_ V.ξ)) b<*u:=λc e=>(a_ c).ο ((a_ (p e)).ο e);let nS:∀QBA{ws:γ V},H b<*.Rn ws->b≠S:=λe q=>by rw[q,L.QV]at e;cases e
  let sS:s⁻¹≠S:=λq=>p L.QV q.QI;let fS:∀b∈[z,TI,TO,i1,i2],b≠S:=λb c q=>by rw[q]at c;have:=(d S c).1.1;rw[L.QV]at this;cases this
  refine e_ (m:=Builtin.γ.listUpdate QG2 (·.Rm QAX)) (show Fr _ _ (Zw S _) _ _ _ from V' (s:={s with ρ:=h',QT:=v}) e ζ (h9 (U8 F.Vl _,jH P Q Y hn D W hR m _ _ (ts++[s⁻¹]) ?_ J (λb c=>((3,(d b c).1.2),3)) ?_ (hJ,λi t g=>?_,3,L.new,λb o q=>?_))) ?_ ?_)
  .rw [q4,γ.Yh];show IY M
  .rw [a_ (fS b c),a_ (RM (d b c).2)];show(d b c).1.1
  .rw [RC.size_update];show U1 (d b c).2 lt
  .rw [q4];refine B.UB (λb c o q=>(Rq _ _ (Ne.QI (fS b c))).ο q) λT ws q=>(a_ λy=>?_).ο q;rw[y,C]at q;cases q
  .by_cases O:i<ts.β
   .rw [QK O]at g;let⟨x,y,q1,q2,l⟩:=L.R9 i t g;show(x,y,q1,q2,U (nS l) l)
   .let N:=(l' g).1;rw[q4,γ.Yh]at N;obtain ζ:i=ts.β:=by lia
    rw[QM QA2,XO]at g;cases g;show(8,j_ h1,j_ h2,(a_ sS).ο hJ)
  .refine γ.Y0.Sz (L.nd,!1,λa ha b c q=>?_);let⟨i,g⟩:=Rl.mp ha;let⟨_,_,_,_,l⟩:=L.R9 i a g;show p l (q.ο (yl c))
  .exact U (λy=>by rw[y,L.new]at q;cases q) (L.SO b o q)
  .rw [Z,S'];lia
  .change (R9.Θ.Rm _).Q'≤_;rw[R_.Tz,Z,S'];lia
def uQ(hh:A.SX=ε)(ap:V_ z TI TO i1 i2 TI TI)QAA(D:∀b∈[z,TI,TO,i1,i2],aL X QE H b/\b<s⁻¹)QDm(st:EG z TI TO i1 i2 d1 d2 0 H s.ρ)(hl:xs.β=ys.β)(hn:xs.β≤1000000)(hx:d1.Vh H xs)(Z:d2.Vh H ys)(hQ:∀H' s' ts,f' X QE σ H' s'->ts.β=xs.β->LZ H s⁻¹ xs ys H' ts->Q QAX s'):Fr QAB A (UZ (.QU "list") [.ξ z]) Q E s:=by
 refine callType_codes (Q₁:=λv c=>v=.ξ s⁻¹/\c={s with ρ:=s.ρ.Rm {SS:=.QU "list",RH:=.WA #[]} }) F.called_list (F.typeCall_list_1 _) F.entry_list_init
  (code_list_new _ (1,1)) λv c C=>?_
 let⟨rfl,ζ⟩:=C;let N:(s.ρ.Rm {SS:=.QU "list",RH:=.WA #[]}).Δ s⁻¹<*{SS:=.QU "list",RH:=.WA #[]}:=QN _ ζ;refine((_,N,1),F.args_list_init_2 _ _,3);let O:=I.SZ;let P:=I.lnew (R9:=[]) (t':=s.QT) .S5 QDt;let B:∀b∈[z,TI,TO,i1,i2],b<(s.ρ.Rm {SS:=.QU "list",RH:=.WA #[]}).SN.Q':=λb a=>by rw[Tz];show χ.XL (D b a).2
 let u:EG z TI TO i1 i2 d1 d2 0 QJe (s.ρ.Rm {SS:=.QU "list",RH:=.WA #[]}):=st.UB (λb a o e=>o9 _ e) λT ws q=>(a_ (f_ q O)).ο q;let p:∀b∈[z,TI,TO,i1,i2],b≠s⁻¹:=λb a=>RM (D b a).2;let j:a' H QJe:=λb o e=>(a_ (f_ e O)).ο e;let U:∀b∈[z,TI,TO,i1,i2],aL X QE QJe b:=λb a=>((a_ (p b a)).ο (D b a).1.1,(D b a).1.2);let Y:∀b o,s.ρ.Δ b<*o->(s.ρ.Rm {SS:=.QU "list",RH:=.WA #[]}).Δ b<*o:=λb o e=>o9 _ e;generalize s.ρ.Rm {SS:=.QU "list",RH:=.WA #[]}=g at N P u B Y;generalize ab:s⁻¹=S at *;let P:f' X QE σ (QO H S QCF) {s with ρ:=g,QT:=s.QT}:=P;change Fr _ _ (do let R <-Builtin.γ.listItems QG2;Builtin.γ.listUpdate QG2 (λ_=>#[]);letGo R.Qx.Rt;Builtin.γ.Wl QG2 QE8 .ε) _ _ _;refine e_ ?_;unfold Builtin.γ.listItems;refine e_ (Ts N ζ QBv);change Fr _ _ (Zw S (λ_=>#[])>>=λ_=>letGo (#[]:R_ η).Qx.Rt>>=λ_=>Builtin.γ.Wl QG2 QE8 .ε) _ _ _;refine e_ (V' N ζ (e_ (wpAny_letGo ?_)));let m:=Rs QCg N ζ;let r:(g.Sq S QCg).SN.Q'=g.SN.Q':=RC.size_update ..;let f:=u.UB (h':=g.Sq S QCg) (λb a o e=>(Rq _ _ (Ne.QI (p b a))).ο e) λ_ _ q=>q;let l:∀b o,b≠S->g.Δ b<*o->(g.Sq S QCg).Δ b<*o:=λb o a e=>(Rq _ _ QIi).ο e;generalize g.Sq S QCg=n at m l r f;let W:=f.ty (s:={s with ρ:=n});unfold Builtin.γ.Wl;refine e_ (Xf W ?_);let e1:Builtin.γ.listSameRef QG2 QE8=ν:=by simp[Builtin.γ.listSameRef,Ne.QI (p z (!1))]
 let e2:(η.QU "zip"==η.QU "list")=ν:=by decide
 let e3:(η.QU "zip"==η.QU "tuple")=ν:=by decide
 simp only[e1,e2,e3,Ψ.TQ,Ψ.Yb,X0];refine e_ (wpAny_pyIter_zip (s:={s with ρ:=n}) (l z _ (p z (!1)) (Y z _ hz)) (e_ (RZ ?_)));unfold Builtin.γ.Xx;refine e_ (VX W ZP.CU ?_);change Fr _ _ (specialOf (η.ξ z) (QF.Rj "__length_hint__")>>=_) _ _ _;refine e_ (VX W ZP.Cw QBv);change Fr _ _ (Xt "list.extend.makes-room" >>= λ_=>Builtin.γ.listTouch QG2>>=λ_=>again (.RJ "list.extend.loop" ([.ξ S,.ξ z,.ε],[]))) _ _ _;refine e_ (W5 QDa);change Fr _ _ (Zw S (·.Rm .ε)>>=λ_=>Zw S (·.pop)) _ _ _;refine e_ (V' (s:={s with ρ:=n}) m ζ ?_);let M:=Rs QFd m ζ;refine V' (hz:=by seq_fits) M ζ ?_;let J:=Rs QIm M ζ;let d:∀b o,b≠S->n.Δ b<*o->((n.Sq S QFd).Sq S QIm).Δ b<*o:=λb o a e=>(Rq _ _ QIi).ο ((Rq _ _ QIi).ο e);refine h9 (U8 F.Vl _,jH (A:=A.Xz) (S:=S) (H0:=H) hh ap hl hn hx Z (λH' s' ts I' h1 L=>(1,hQ H' s' ts I' h1 L)) xs.β _ _ [] (χ.Tq _) (P.ZR (x:=S) (e:=S) (h':=(n.Sq S QFd).Sq S QIm) (t':=s.QT) (o:=.QV []) (by rw[hJ];trivial) QAz (λb o a e=>d b o a (l b o a e)) (_,J) (RO _,[],_,.S5,J)) (λb a=>(3,3)) (f.UB (λb a o e=>d b o (p b a) e) λT ws q=>?_) (hJ,λi t h=>by simp at h,γ.nodup_nil,O,λb o e=>(a_ (f_ e O)).ο (j b o e)))
 .exact ((a_ (p b a)).ο (U b a).1,(D b a).1.2)
 .change b<((n.Sq _ _).Sq _ _).SN.Q';rw[RC.size_update,RC.size_update,r];show B b a
 .exact (a_ λy=>by rw[y,hJ]at q;cases q).ο q
end
def HN{d:Sd}(a:d.Vh H xs)(b:d.Vh H ys):xs=ys:=by
 cases d with
 |tx x k=>show(show xs=_ from a).ο (show ys=_ from b).QI
 |tp c=>
  let a:H c=_:=a;let b:H c=_:=b;rw[a]at b;cases b;rfl
 |ls c=>
  let a:H c=_:=a;let b:H c=_:=b;rw[a]at b;cases b;rfl
def lg{g:TG}{n:TS}{D:ZA}(t:xs.β=ys.β)(c:χ->St->Hp->Prop)(z:c 0 b H)(u:∀i b H,c i b H->d1.Vh H xs/\d2.Vh H ys)(s:∀i x y p b H,xs[i]?<*x->ys[i]?<*y->H p=ε->c i b H->g QAp b (QO H p (.Rn [x,y])) λd l=>n {D with nx:=c (i+1),ct:=c (i+1),bk:=D.nx} d l)(w:∀b H,c xs.β b H->D.nx b H):∃W:χ->χ->St->Hp->Prop,QKX/\∀i m b H,W i m b H->
   ((Gy d1 d2).We i H/\D.nx b H)\/((Gy d1 d2).go i H/\∃N:St->Hp->Prop,(∀f H',N f H'->∃o,o<m/\W (i+1) o f H')/\∀v H',(Gy d1 d2).yld i H v H'->g v b H' λd l=>n {D with nx:=N,ct:=N,bk:=D.nx} d l):=by
 refine(λi m b H=>m=xs.β-i/\i≤xs.β/\c i b H,(xs.β,!1,RO _,z),3);rintro i m b H⟨rfl,I,p⟩;let⟨h1,h2⟩:=u i b H p;by_cases k:i<xs.β
 .refine .Rh ((xs,ys,xs[i],ys[i]'(Fi k t),h1,h2,j_ _,j_ _),c (i+1),λf H' r=>(xs.β-(i+1),EY k,1,k,r),λv H' q=>?_);let⟨a,j,h,x,y,F,E,C,B,ζ,A,ζ⟩:=q;have:=HN F h1;have:=HN E h2;subst j h;show s i x y a b H C B A p
 .let e:i=xs.β:=Eg k I
  subst e;show .RN ((xs,ys,h1,h2,t,1),w b H p)
def ww(h:H a<*.Rn xs\/H a<*.QV xs)(b:∀d2:Sd,(∀H':Hp,H' a=H a->d2.Vh H' xs)->∀k,R (Gy (.tx x k) d2) H):vf R [.QZ x,.ξ a] H:=by
 rcases h with h|h
 .exact (.tx x 0,.tp a,_,xs,5,h,λk _=>b (.tp a) (λH' e=>e.ο h) k)
 .exact (.tx x 0,.ls a,_,xs,5,h,λk _=>b (.ls a) (λH' e=>e.ο h) k)
structure mh QBQ(x RD:QF)(st:Rb)QEx(fd:TY):Prop where
 ex:∃(oc:η)(od:ψ θ)(dV kV Tg pm:η)(an:ψ θ)(VA ct:η)(osl:R_ (ψ η)),
  fd=U_ x RD (ri st) (n7 st) QHt dV kV Tg pm an VA ct/\K.ς f=δ (oc,od,.VL fd,osl)/\UH K VA RD=π
 kp:Vz K QAg=π
def mh.ok{P:Id}{w:QW}{K:RG}{st:Rb}(F:mh K x RD st f i)(S:p_ N ps (hI st))(TL:∀vs H Q E,d vs H Q E->vs.β=ps.β)(a:∀(VA:η)(A:Qy)(KK:γ YT)(s:ω)(H:Hp)(vs:γ V)(Q:VK)(E:XK),ak k (A.VU (XG RD (hI st) s⁻¹ f VA))->d vs H Q E->
   ∃t,Bd (aP lb P w K mg υ N RD (hI st) f VA A KK s H E).nox (n7 st) t/\t {nx:=λ_ H'=>Q .Uv H',rt:=Q} (WJ N vs) H):aa P w K mg υ lb (k+1) f i ps d:=by
 let⟨l,j,m,kV,Tg,pm,an,VA,ct,e,ζ,lk,c⟩:=F.ex;refine ll lk c S TL λA KK s H vs Q E g b=>?_;let⟨t,h,q⟩:=a VA A KK s H vs Q E g b;show(t,h.nox,q)
def pN{P:Id}{w:QW}{K:RG}{mg:QF->ψ η}{υ:RC}{st:Rb}{h e kV Tg pm ct:η}(lk:K.ς f<*(h,i,.VL (U_ x RD (ri st) (n7 st) (hI st) e kV Tg pm an (.ξ c) ct),g))(b:UH K (.ξ c) RD=π)(S:p_ N ps (hI st))(TL:∀vs H Q E,d vs H Q E->vs.β=ps.β)(a:∀(A:Qy)(KK:γ YT)(s:ω)(H:Hp)(vs:γ V)(Q:VK)(E:XK),ak k (A.VU (XG RD (hI st) s⁻¹ f (.ξ c)))->d vs H Q E->
   ∃t,Bd (aP lb P w K mg υ N RD (hI st) f (.ξ c) A KK s H E) (n7 st) t/\t {nx:=λ_ H'=>Q .Uv H',rt:=Q} (WJ N vs) H):aa P w K mg υ lb (k+1) f (U_ x RD (ri st) (n7 st) (hI st) e kV Tg pm an (.ξ c) ct) ps d:=ll lk b S TL a
end L2
namespace RA
open L2
structure GB QAH(cW wk:θ)QA5(t wd y m:θ):Prop where
 ex:∃dx,H wk<*.XE cW dx [("letters",.QZ QB',),("things",.ξ t,),("words",.ξ wd,),("ways",.ξ y,),("marks",.ξ m,)]
abbrev Dn(ws:LL):γ V:=ws.Q_ λw=>V.QZ (tx w)
abbrev bC(ti:TK)QAH(ks:LL)QAI:Prop:=vs.β=ks.β/\∀QBB QFb(v:V),ks[i]?<*k->vs[i]?<*v->z8 ti H k v
def bC.SO(h:bC c H ks vs)QA1:bC c H' ks vs:=(h.1,λi k v a b=>(h.2 i k v a b).SO s)
def bC.snoc(h:bC d H ks vs)(f:z8 d H k v):bC d H QGy (vs++[v]):=by
 refine(by rw[q4,q4,h.1];rfl,λi k' e a b=>?_);by_cases c:i<ks.β
 .rw [QK c]at a;rw[QK (by rw[h.1];show c)]at b;show h.2 i k' e a b
 .rw [QM (SQ c)]at a;rw[QM (by rw[h.1];show SQ c),h.1]at b;let hz:i-ks.β=0:=by
   have:=(l' a).1;simp at this;omega
  rw[hz]at a b;cases a;cases b;show f
abbrev Do QAH QEk(R:LL):Prop:=Td.β=R.β/\∀QBB QCs(r:LN),Td[i]?<*a->R[i]?<*r->H a<*.QV (b_ r)
structure CJ QGq(nL:χ)(ks:LL)(R:LL):Prop where
 Yc:∀(r:χ)(Yc:LN)QFb,R[r]?<*Yc->ks[r]?<*k->Yc.β=nL/\∀(q x:χ),Yc[q]?<*x->ks[x]?<*g k q
inductive HP(ti:TK)QA5 QGq(U:LL)QGC QAI QAH QAR QA9:Prop
 |mk (k v:_) (_:vs=[v]) (_:z8 ti H k v) (_:k∈U) (_:Rest H) (_:∀gs xs H',a' H H'->(H' gs<*.Rn xs\/(H gs=ε/\H' gs<*.QV xs))->xs.β=L.β->(∀(q:χ)(x:V),xs[q]?<*x->z8 ti H' (g k q) x)->Q (.ξ gs) H')
inductive bG(ti:TK)(mk:LN->Ψ)(U:LL)QGC QAI QAH QAR QA9:Prop
 |mk (k v:_) (_:vs=[v]) (_:z8 ti H k v) (_:k∈U) (_:Rest H) (_:∀H',a' H H'->Q (.bl (mk k)) H')
abbrev dY:ψ χ->V
 |ε=>.Uv
 |δ n=>.QG (n:Λ)
inductive sY(cW:θ)QAI QAH QAR QA9:Prop
 |mk (x dx L v:_) (_:vs=[.ξ x,.QZ QB',v]) (_:H x<*.XE cW dx []) (_:∀t wd y m H',t≠wd->t≠y->t≠m->wd≠y->wd≠m->y≠m->H t=ε->H wd=ε->H y=ε->H m=ε->(∀b o,b≠x->H b<*o->H' b<*o)->GB H' cW x L t wd y m->H' t<*.QV [v]->H' wd<*.QV [.QZ (tx [])]->H' y<*.QV []->H' m<*.QV []->Q .Uv H')
inductive HQ(cW:θ)(ti:TK)QA5 QGq(mk:LN->Ψ)(U:LL)QGC(fg fm:θ)QAI QAH QAR QA9:Prop
 | mk (s:LN) (sv:V) (most:ψ χ) (_:vs=[.QZ (tx L),sv,.ξ fg,.ξ fm,dY most]) (_:BG L) (_:z8 ti H s sv) (_:s∈U) (_:(∀k∈U,∀q,q<L.β->g k q∈U)) (_:U.β≤100000) (_:Rest H) (_:∀(wk t wd y m:θ)(ks:LL)(vks:γ V)(ws:LL)(Td:γ θ)(R:LL)(B:γ Ψ)(H':Hp),a' H H'->GB H' cW wk L t wd y m->H' t<*.QV vks->bC ti H' ks vks->H' wd<*.QV (Dn ws)->H' y<*.QV (Td.Q_ V.ξ)->Do H' Td R->H' m<*.QV (B.Q_ V.bl)->
  Bf g L s ks ws R.β 0->CJ g L.β ks R->B.β=R.β->(∀(r:χ)(k:LN)(b:Ψ),ks[r]?<*k->B[r]?<*b->b=mk k)->(∀k∈ks,k∈U)->ks.β≤U.β->(R.β=ks.β\/∃n,most=δ n/\n<ks.β)->Q (.ξ wk) H')
def jO:Vg (#[]:R_ η).Qx:=trivial
def GC(h:AB H P0 R5)QBs:AB H' P0 R5:=by
 let⟨ps,c,h2,d⟩:=h;show(ps,s _ _ c,h2,λx b=>(d x b).imp id λa=>by let⟨g,f,e⟩:=a;show(g,f,s _ _ e))
end RA
namespace L2
open PySem.Spec PyProof.Rows
namespace ZP
set_option maxHeartbeats 1000000 in
def uJ(d1:Sd)(R9:R_ η):Meets (Builtin.«enumerate.__new__» ([.QU "enumerate",d1.vu],[])) (λ_ R s=>d1.hp R9 s.ρ/\
   R (.ok (.ret (.ξ (s.ρ.Rm d1.it0).SN.Q'))) {s with ρ:=(s.ρ.Rm d1.it0).Rm {SS:=.QU "enumerate",RH:=.SD #[.ε,.UV ν,.ξ s⁻¹,R6 0,.ε,.ε]} }):=
 .of_wp λΩ w A R s h=>by
  let⟨hp,g,d,e,os⟩:=s;let⟨a,h⟩:=h;let b:=qu
  wp_walk using JG a
  refine wpAny_stack_any λst=>h9 ?_;split
  .rename_i c _ _ _ _ _;cases(c==η.QU "enumerate")<;>(wp_walk using JG a;show(0,h))
  .wp_walk using JG a
   show(0,h)
def FK{d:Sd}(f:d.hp R9 s.ρ)(h:∀h',IsEnum h' QBN s⁻¹ 0 .ε->d.pl s⁻¹ 0 h'->QBY->Q (.ξ QBN) {s with ρ:=h'}):Fr QAU A (UZ (.QU "enumerate") [d.vu]) Q E s:=by
 refine callType_new F.called_enumerate (!0) (F.typeCall_enumerate_1 _) (F.newCall_enumerate_1 _) QJf F.entry_enumerate_new (uJ d R9) (f,3);generalize c:s.ρ.Rm d.it0=G;let hz:G.SN.Q'=s⁻¹+1:=by rw[<-c];show Tz ..
 let e:IsEnum (G.Rm {SS:=.QU "enumerate",RH:=.SD #[.ε,.UV ν,.ξ s⁻¹,R6 0,.ε,.ε]}) QBN s⁻¹ 0 .ε:=by
  let q:=QN G (o:={SS:=.QU "enumerate",RH:=.SD #[.ε,.UV ν,.ξ s⁻¹,R6 0,.ε,.ε]}) ζ;rw[hz]at q;show q
 change _/\_;rw[hz];show((_,e,1),h _ e (nN (o9 _ (by rw[<-c];show QN _ (eF _)))) λb o x=>o9 _ (by rw[<-c];show o9 _ x))
end ZP
abbrev FL(d:Sd):It:=⟨λi H=>∃xs x,d.Vh H xs/\xs[i]?<*x,λi H v H'=>∃p x xs,d.Vh H xs/\xs[i]?=δ x/\v=.ξ p/\H p=ε/\H'=QO H p QEl,λi H=>∃xs,d.Vh H xs/\i=xs.β⟩
def wD QC7(d:Sd)(e it:θ)(n:e≠it):gm P w K (.Wr es kt pt) (FL d) [e,it] e (λi h=>(∃a,IsEnum h e it i a)/\d.pl it i h)  where
 mem:=by simp
 Yd:=λi h M c r=>by
  let⟨⟨a,f⟩,l⟩:=M;simp only[QY,SM,TQ]at r;rcases r with ζ|rfl
  .exact (_,f,λv q=>by cases q)
  .exact bL l
 UB:=λi h h' O k=>by let⟨⟨a,f⟩,l⟩:=O;show((a,k e (!1) _ f),Gz l λo q=>k it (!1) _ q)
 Yi:=by
  rintro X Q hw R r i t s σ H E I p⟨⟨a,f⟩,l⟩⟨xs,x,B,J⟩;subst Q hw R;let⟨Z,P1,S1,U,Y,m,b1,W⟩:=GA (A:=X.A.Xz) I (I.ok.hd r) B (p it (!1)).1 l;let L:e∉Z:=λz=>(Y e z).SJ n λ⟨u,y⟩=>by rw[(p e (!1)).1]at y;cases y
  refine wpAny_pyNext_enum_itemD U f m (l' J).1 n L λv g D pv ho st F hsz gk=>(0,3);refine wpAny_letOwnedTupleGo_enum (s:={s with ρ:=g,QT:=D+1}) ho λg' ge T=>?_;let C:∀b o,b≠e->g.Δ b<*o->g'.Δ b<*o:=λb o j q=>(T.2 b j).ο q;let ne:s⁻¹≠e:=XT (lt_size f);let Rn:Ai X.Ω X.w (QO H s⁻¹ QEl) g' s⁻¹ QEl:=
   (n0 (by change 2≤16777216;decide),[.QG i D,v],.Rc QCI (.Rc (W i v x pv J) .S5),(_,C _ _ ne F,1,(0),1))
  refine(.ξ s⁻¹,_,I.turnedNew (S:=[e,it]) (h':=g') (t':=D+1) (λb o j q=>C b o (λz=>j (by simp[z])) (gk b o (λz=>j (by simp[z])) (λz=>j (by simp[z])) q)) p Rn,1,
   (_,x,xs,B,J,1,I.S8.SZ (QA _),1),((_,by rw[Λ.natCast_succ];show ge),Gz (b1 _ _ st) λo q=>C _ o (λz=>n z.QI) q),λb j=>?_)
  let lt:b<s⁻¹:=by
   let⟨o1,e1,_⟩:=bL l;simp only[QY,SM,TQ]at j;rcases j with ζ|rfl
   .exact lt_size f
   .exact lt_size e1
  rw[a_ (RM lt)];show(p b j).1
 done:=by
  rintro X Q hw R r i t s σ H E I p⟨⟨a,f⟩,l⟩⟨xs,B,ζ⟩;subst Q hw R;let⟨Z,P1,S1,U,Y,m,b1,W⟩:=GA (A:=X.A.Xz) I (I.ok.hd r) B (p it (!1)).1 l;refine wpAny_pyNext_enum_endD U f m λg T=>(1,3);show I.turnedL (S:=[e,it]) (λb o j q=>T b o (λz=>j (by simp[z])) q) p
 self:=λ_ _ _ _ _ N h=>by let⟨⟨_,f⟩,_⟩:=N;show wpAny_pyIter_enum f h
inductive L0 QB7 QAI QDz:Prop
 |mk (d:Sd) QCK (_:vs=[d.vl]) (_:d.Vh H1 xs) (_:∀k,R (FL (d.Wa k)) H1)
abbrev L1 QG9:TI:=λσ H R=>t σ H (L0 R)
def ko{E:γ SH}{v:χ}{u:UL}QGA(A:Gl X "enumerate")(y:X.mg "enumerate"=ε)(B:PA X [a] ta)(w:QKb>>>4)(j:QCN>>>4):PI X (.Wr E v u) (.T0 (.SG "enumerate" p) [a] [] Ri) (L1 ta):=by
 intro e s o H R I h;refine Rg (u_ I A y Su.WZ.boot_enumerate (Su.WZ.Tw (nb (B Ri e s o H _ I h) λus b z=>?_) w j));let⟨vs,F,i,t,d,xs,ζ,x,q⟩:=z;let⟨J,ζ,r⟩:=Ch t;let⟨k,ζ⟩:=sw r;let q:=q k;let⟨R9,l⟩:=j8 i (JJ (k:=k) x);generalize d.Wa k=d at q l;refine ZP.FK l λg n D C=>wpAny_pyIter_enum (s:={b with ρ:=g}) n ?_;refine(_,[b⁻¹+1,b⁻¹],_,FL d,F,1,i.XD (t':=b.QT) C,wD d _ _ (Ko (!6)),((_,n),D),λc m=>?_,q);let f:b⁻¹≤c:=by
  simp only[QY,SM,TQ]at m;rcases m with ζ|rfl
  .exact Uc _ _
  .exact QA _
 show i.fpOk f (i.S8.SZ f)
def EH{g:TG}{k:TS}{D:ZA}(b:χ->St->Hp->Prop)(u:b 0 a H)(r:∀i a H,b i a H->d.Vh H xs)(o:∀i x p a H,xs[i]?<*x->H p=ε->b i a H->g QAp a (QO H p QEl) λc j=>k {D with nx:=b (i+1),ct:=b (i+1),bk:=D.nx} c j)(s:∀a H,b xs.β a H->D.nx a H):∃W:χ->χ->St->Hp->Prop,QEU/\∀i m a H,W i m a H->((FL d).We i H/\D.nx a H)\/((FL d).go i H/\∃N:St->Hp->Prop,(∀e H',N e H'->∃l,l<m/\W (i+1) l e H')/\∀v H',(FL d).yld i H v H'->g v a H' λc j=>k {D with nx:=N,ct:=N,bk:=D.nx} c j):=by
 refine(λi m a H=>m=xs.β-i/\i≤xs.β/\b i a H,(xs.β,!1,RO _,u),3);rintro i m a H⟨rfl,w,p⟩;let h:=r i a H p;by_cases f:i<xs.β
 .refine .Rh ((xs,xs[i],h,j_ f),b (i+1),λe H' n=>(xs.β-(i+1),EY f,1,f,n),3);rintro v H'⟨q,x,ys,h1,h2,ζ,t,ζ⟩;obtain ζ:=HN h1 h;show o i x q a H h2 t p
 .obtain ζ:i=xs.β:=Eg f w
  show .RN ((xs,h,1),s a H p)
def xV{g:TG}{h:TS}{D:ZA}(d:χ->St->Hp->Prop)(s:d 0 a H)(n:∀i c p a H,x.Vu[i]?<*c->H p=ε->d i a H->g QAp a (QO H p (.Rn [.QG (i:Λ),.QZ ⟨#[c]⟩])) λb f=>h {D with nx:=d (i+1),ct:=d (i+1),bk:=D.nx} b f)(o:∀a H,d x.β a H->D.nx a H):∃W:χ->χ->St->Hp->Prop,QEU/\∀i m a H,W i m a H->((FL (.tx x k)).We i H/\D.nx a H)\/((FL (.tx x k)).go i H/\∃N:St->Hp->Prop,(∀e H',N e H'->∃j,j<m/\W (i+1) j e H')/\∀v H',(FL (.tx x k)).yld i H v H'->g v a H' λb f=>h {D with nx:=N,ct:=N,bk:=D.nx} b f):=by
 refine EH (xs:=x.Vu.Qx.Q_ λc=>V.QZ ⟨#[c]⟩) d s (λ_ _ _ _=>rfl) (λi v p a H l hp q=>?_) λa H q=>o a H ?_
 .rw [na]at l;let⟨c,r,ζ⟩:=AE l;show n i c p a H (by rw[<-Ux];show r) hp q
 .rwa [j',UA]at q
end L2
namespace RA
open L2
def FM(h:n≤100000):n<Φ:=by rw[S'];lia
def OV{A B:Prop}(h:A):if (!decide (V.QG n=V.Uv))=π then A else B:=by
 rw[QJ (λz=>by cases z)];show aG h
structure WI QKU QBP(H0 H:Hp)(cW:θ)(ti:TK)QA5(wk t wd y m d:θ)(ks:LL)(vks:γ V)(ws:LL)QEk(R:LL)QAm:Prop where
 sm:a' H0 H
 Yd:GB H cW wk L t wd y m
 ht:H t<*.QV vks
 th:bC ti H ks vks
 hw:H wd<*.QV (Dn ws)
 hy:H y<*.QV QC4
 wr:Do H Td R
 hm:H m<*.QV QGI
 rm:y_ P w H d ti ks
 n1:H0 t=ε
 n2:H0 wd=ε
 n3:H0 y=ε
 n4:H0 m=ε
 n5:H0 d=ε
 d1:t≠wd
 d2:t≠y
 d3:t≠m
 d4:wd≠y
 d5:wd≠m
 d6:y≠m
 e1:d≠t
 e2:d≠wd
 e3:d≠y
 e4:d≠m
 e5:d≠wk
 nr:∀a∈Td,a≠t/\a≠wd/\a≠y/\a≠m/\a≠d
section
variable{P:Id}{w:QW}{H0 H:Hp}{cW:θ}{ti:TK}{L:LN}{wk t wd y m d:θ}{ks:LL}{vks:γ V}{ws:LL}{Td:γ θ}{R:LL}{B:γ Ψ}
def WI.U6 QAo QBs:WI P w H0 H' cW ti L wk t wd y m d ks vks ws Td R B:=
 {h with
  sm:=h.sm.ο s
  Yd:=let⟨dx,e⟩:=h.Yd.ex;(dx,s _ _ e)
  ht:=s _ _ h.ht
  th:=h.th.SO λb xs e=>s _ _ e
  hw:=s _ _ h.hw
  hy:=s _ _ h.hy
  wr:=(h.wr.1,λi a r h1 h2=>s _ _ (h.wr.2 i a r h1 h2))
  hm:=s _ _ h.hm
  rm:=h.rm.SO λb o e _=>s _ _ e}
def WI.beside QAo(j:H a<*.QV xs)(k:H0 a=ε)(v:a≠t)(s:a≠wd)(q:a≠y)(p:a≠m)(n:a≠d)(l:a∉Td):WI P w H0 QF0 cW ti L wk t wd y m d ks vks ws Td R B:=by
 let f:∀QBA{u:HO},H b<*u->b≠a->QO H a o b<*u:=λe g=>by rw[a_ g];show e
 let c:∀b zs,H b<*.Rn zs->QO H a o b<*.Rn zs:=λb zs e=>f e (m_ e j (!5));show {h with
  sm:=a'.Uw h.sm k
  Yd:=let⟨dx,e⟩:=h.Yd.ex;(dx,f e (m_ e j (!5)))
  ht:=f h.ht (Ne.QI v)
  th:=h.th.SO c
  hw:=f h.hw (Ne.QI s)
  hy:=f h.hy (Ne.QI q)
  wr:=(h.wr.1,λi b r h1 h2=>f (h.wr.2 i b r h1 h2) λz=>l (by rw[<-z];show Ab h1))
  hm:=f h.hm (Ne.QI p)
  rm:=h.rm.SO λb u e g=>by
   rcases g with ζ|⟨zs,ζ⟩
   .exact f e (Ne.QI n)
   .exact c b zs e}
def WI.new QAo(A:z8 ti H k v)(s:y_ P w (QO H d n) d ti QGy):WI P w H0 (QO QIN wd (.QV (Dn ws++[.QZ (tx a)]))) cW ti L wk t wd y m d QGy (vks++[v]) (ws++[a]) Td R B:=by
 let o:∃φ,H d<*.ext φ:=by
  let j:=h.rm;unfold y_ at j;by_cases c:ti=.i
  .rw [IO c]at j;show(_,j.1)
  .rw [Cl c]at j;let⟨RW,e,_⟩:=j;show(_,e)
 let⟨φ,o⟩:=o;let l:∀QBA{u:HO},H b<*u->b≠d->b≠t->b≠wd->QO QIN wd (.QV (Dn ws++[.QZ (tx a)])) b<*u:=λe h1 h2 D=>by rw[a_ D,a_ h2,a_ h1];show e
 let g:∀b zs,H b<*.Rn zs->QO (QO (QO H d n) t (.QV (vks++[v]))) wd (.QV (Dn ws++[.QZ (tx a)])) b<*.Rn zs:=λb zs e=>l e (m_ e o (!5)) (m_ e h.ht (!5)) (m_ e h.hw (!5));let E:=h.Yd.ex;let⟨dx,q⟩:=E;show {h with
  sm:=a'.Uw (a'.Uw (a'.Uw h.sm h.n5) h.n1) h.n2
  Yd:=(dx,l q (Ne.QI h.e5) (m_ q h.ht (!5)) (m_ q h.hw (!5)))
  ht:=by rw[a_ h.d1,hJ]
  th:=(h.th.SO g).snoc (A.SO g)
  hw:=by rw[hJ,Dn,Dn,RU];rfl
  hy:=l h.hy (Ne.QI h.e3) (Ne.QI h.d2) (Ne.QI h.d4)
  wr:=(h.wr.1,λi b r h1 h2=>l (h.wr.2 i b r h1 h2) (h.nr b (Ab h1)).2.2.2.2 (h.nr b (Ab h1)).1 (h.nr b (Ab h1)).2.1)
  hm:=l h.hm (Ne.QI h.e4) (Ne.QI h.d3) (Ne.QI h.d5)
  rm:=s.SO λb u e C=>by
   rcases C with ζ|⟨zs,ζ⟩
   .rw [a_ h.e2,a_ h.e1];show e
   .let p:b≠d:=λz=>by
     rw[z,hJ]at e;let f:=s;unfold y_ at f;by_cases c:ti=.i
     .rw [IO c,hJ]at f;rw[e]at f;cases f.1
     .rw [Cl c]at f;let⟨RW,x,_⟩:=f;rw[hJ,e]at x;cases x
    rw[a_ p]at e;show g b zs e}
def WI.Yc QAo(o:H a<*.QV (b_ r))(x:a≠t)(v:a≠wd)(l:a≠y)(s:a≠m)(q:a≠d):WI P w H0 (QO H y (.QV (Td.Q_ V.ξ++[.ξ a]))) cW ti L wk t wd y m d ks vks ws (Td++[a]) (R++[r]) B:=by
 let f:∀QBA{u:HO},H b<*u->b≠y->QO H y (.QV (Td.Q_ V.ξ++[.ξ a])) b<*u:=λe g=>by rw[a_ g];show e
 let c:∀b zs,H b<*.Rn zs->QO H y (.QV (Td.Q_ V.ξ++[.ξ a])) b<*.Rn zs:=λb zs e=>f e (m_ e h.hy (!5));let p:=h.Yd.ex;let⟨dx,k⟩:=p;show {h with
  sm:=a'.Uw h.sm h.n3
  Yd:=(dx,f k (m_ k h.hy (!5)))
  ht:=f h.ht h.d2
  th:=h.th.SO c
  hw:=f h.hw h.d4
  hy:=by rw[hJ,RU];rfl
  wr:=by
   refine(by rw[q4,q4,h.wr.1];rfl,λi b n h1 h2=>?_);by_cases j:i<Td.β
   .rw [QK j]at h1;rw[QK (by rw[<-h.wr.1];show j)]at h2;show f (h.wr.2 i b n h1 h2) (h.nr b (Ab h1)).2.2.1
   .rw [QM (SQ j)]at h1;rw[QM (by rw[<-h.wr.1];show SQ j),<-h.wr.1]at h2;let hz:i-Td.β=0:=by
     have:=(l' h1).1;simp at this;omega
    rw[hz]at h1 h2;cases h1;cases h2;show f o l
  hm:=f h.hm (Ne.QI h.d6)
  rm:=h.rm.SO λb u e g=>by
   rcases g with ζ|⟨zs,ζ⟩
   .exact f e h.e3
   .exact c b zs e
  nr:=λb g=>by
   rcases Rp.mp g with z|z
   .exact h.nr b z
   .rw [yl z];show(x,v,l,s,q)}
def WI.mark QAo:WI P w H0 (QO H m (.QV (B.Q_ V.bl++[.bl b]))) cW ti L wk t wd y m d ks vks ws Td R (B++[b]):=by
 let f:∀{c:θ}{u:HO},H c<*u->c≠m->QO H m (.QV (B.Q_ V.bl++[.bl b])) c<*u:=λe g=>by rw[a_ g];show e
 let a:∀c zs,H c<*.Rn zs->QO H m (.QV (B.Q_ V.bl++[.bl b])) c<*.Rn zs:=λc zs e=>f e (m_ e h.hm (!5));let k:=h.Yd.ex;let⟨dx,j⟩:=k;show {h with
  sm:=a'.Uw h.sm h.n4
  Yd:=(dx,f j (m_ j h.hm (!5)))
  ht:=f h.ht h.d3
  th:=h.th.SO a
  hw:=f h.hw h.d5
  hy:=f h.hy h.d6
  wr:=(h.wr.1,λi c r h1 h2=>f (h.wr.2 i c r h1 h2) (h.nr c (Ab h1)).2.2.2.1)
  hm:=by rw[hJ,RU];rfl
  rm:=h.rm.SO λc u e g=>by
   rcases g with ζ|⟨zs,ζ⟩
   .exact f e h.e4
   .exact a c zs e}
end
def KE QIT(x:χ):b_ QKu=b_ l++[V.QG (x:Λ)]:=by simp[b_]
def cz QGk QHl{x y:a}QEH(h:l[i]?<*y):QKu[i]?<*y:=by
 rw[QK (l' h).1];show h
def L3 QGk QHl{x y:a}(b:i<l.β)(h:QKu[i]?<*y):l[i]?<*y:=by
 rw[QK b]at h;show h
def EI QGk QHl{x y:a}(e:QKu[i]?<*y):l[i]?<*y\/(i=l.β/\y=x):=by
 by_cases b:i<l.β
 .rw [QK b]at e;show .RN e
 .rw [QM (Ck b)]at e;have:i-l.β=0:=by
   have:=(l' e).1;simp at this;omega
  rw[this]at e;show .Rh (GM this b,(ψ.δ.Tp e).QI)
def nM(h:k∈ts):DJ ts k=δ (ts.QP k)/\ts[ts.QP k]?<*k:=(IO h,by rw[j_ (QS h),TF])
structure Cy QGq(L s0:LN)(mk:LN->Ψ)(U ks ws R:LL)QAm(q:χ):Prop where
 bf:Bf g L s0 ks ws R.β q
 le:R.β≤ks.β
 ways:CJ g L.β ks R
 bl:B.β=R.β
 mks:∀(r:χ)QFb QK3,ks[r]?<*k->B[r]?<*b->b=mk k
 Vk:∀k∈ks,k∈U
 left:Bz U ks+ks.β≤U.β
 wl:∀a∈ws,a.β≤ks.β
abbrev Eb QGq(ks:LL)QCm(r:LN)(q:χ):Prop:=r.β=q/\∀(q' x:χ)QFb,ks[n]?<*k->r[q']?<*x->ks[x]?<*g k q'
section
variable{g:LN->χ->LN}{L s0:LN}{mk:LN->Ψ}{U ks ws R:LL}{B:γ Ψ}{q n:χ}{r a k0:LN}
def Cy.WJ(c:s0∈U):Cy g L s0 mk U [s0] [[]] [] [] 0 where
 bf:=Bf.WJ g L s0
 le:=RO _
 ways:=⟨λr d k h=>by simp at h⟩
 bl:=ζ
 mks:=λr k b _ h=>by simp at h
 Vk:=λk e=>by rw[yl e];show c
 left:=by
  let h1:=gU (U:=U) (ts:=[]) c (!1);let h2:Bz U ([]:LL)≤U.β:=γ.countP_le_length;simp at h1⊢;lia
 wl:=λa f=>by rw[yl f];show RO _
def Cy.old(h:Cy g L s0 mk U ks ws R B q)(b:L.R7)(e:ks[R.β]?<*k0)(f:ws[R.β]?<*a)(c:q<L.β)(d:g k0 q∈ks):Cy g L s0 mk U ks ws R B (q+1):=
 {h with bf:=h.bf.old b e f c d}
def Cy.new(h:Cy g L s0 mk U ks ws R B q)(j:L.R7)(d:ks[R.β]?<*k0)(f:ws[R.β]?<*a)(o:q<L.β)(e:g k0 q∉ks)(i:g k0 q∈U):Cy g L s0 mk U (ks++[g k0 q]) (ws++[a++[L.LT q 0]]) R B (q+1) where
 bf:=h.bf.new j d f o e
 le:=by rw[q4];show QB h.le QIe
 ways:=⟨λr c k h1 h2=>by
  let m:r<ks.β:=QD (l' h1).1 h.le;let⟨t,s⟩:=h.ways.Yc r c k h1 (L3 m h2);show(t,λq x l=>cz (s q x l))⟩
 bl:=h.bl
 mks:=λr k b h1 h2=>h.mks r k b (L3 (QD (by rw[<-h.bl];show(l' h2).1) h.le) h1) h2
 Vk:=λk d=>by
  rcases Rp.mp d with z|z
  .exact h.Vk k z
  .rw [yl z];show i
 left:=by
  let h1:=gU (U:=U) (ts:=ks) i e;let h2:=h.left;rw[q4];change Bz U (ks++[g k0 q])+(ks.β+1)≤U.β;show Ix h1 h2
 wl:=λb p=>by
  rw[q4];rcases Rp.mp p with z|z
  .exact QB (h.wl b z) QIe
  .rw [yl z,q4];show χ.add_le_add_right (h.wl a (Ab f)) 1
def Cy.next(h:Cy g L s0 mk U ks ws R B L.β)(e:ks[R.β]?<*k0)(d:Eb g ks R.β r L.β):Cy g L s0 mk U ks ws (R++[r]) (B++[mk k0]) 0 where
 bf:=by rw[q4];show h.bf.next
 le:=by rw[q4];show(l' e).1
 ways:=⟨λi c k h1 h2=>by
  rcases EI h1 with z|⟨rfl,ζ⟩
  .exact h.ways.Yc i c k z h2
  .exact (d.1,λq x f=>d.2 q x k h2 f)⟩
 bl:=by rw[q4,q4,h.bl];rfl
 mks:=λi k b h1 h2=>by
  rcases EI h2 with z|⟨rfl,ζ⟩
  .exact h.mks i k b h1 z
  .rw [h.bl,e]at h1;cases h1;rfl
 Vk:=h.Vk
 left:=h.left
 wl:=h.wl
def Eb.S5:Eb g ks n [] 0:=(1,λq x k _ h=>by simp at h)
def Eb.grow(h:Eb g ks n r q)(c:n<ks.β):Eb g (ks++[x]) n r q:=(h.1,λb y k h1 h2=>cz (h.2 b y k (L3 c h1) h2))
def Eb.snoc(h:Eb g ks n r q)(d:ks[n]?<*k0)(c:g k0 q∈ks):Eb g ks n (r++[ks.QP (g k0 q)]) (q+1):=by
 refine(by rw[q4,h.1];rfl,λb x k h1 h2=>?_);rcases EI h2 with z|⟨rfl,ζ⟩
 .exact h.2 b x k h1 z
 .rw [d]at h1;cases h1;rw[h.1];show(nM c).2
end
abbrev gW QC9 QFb(q:χ):LN:=[(W.LT (k.headD 0) []).LT q 0]
abbrev uW QC9:LL:=(γ.Re W.β).Q_ λn=>[n]
abbrev mkW QAm QFb:Ψ:=B.LT (k.headD 0) ν
def sy:[n]∈uW W↔n<W.β:=by
 unfold uW;rw[TZ];constructor
 .rintro⟨m,a,e⟩;injection e with e;rw[<-e];show Rr.mp a
 .exact λh=>(n,Rr.Sz h,1)
def sC QC9:(uW W).β=W.β:=by rw[uW,j',Rx]
def mr(h:k∈uW W):∃n,k=[n]/\n<W.β:=by
 unfold uW at h;let⟨n,a,e⟩:=TZ.mp h;show(n,e.QI,Rr.mp a)
def OW QI_:∀k∈uW W,∀q,q<L.β->gW W k q∈uW W:=λk c q a=>by
 let⟨n,ζ,b⟩:=mr c;refine sy.Sz ?_;change (W.LT n []).LT q 0<W.β;let e:W.LT n []=W[n]:=by rw[nt,j_ b];rfl
 rw[e];let⟨h1,h2⟩:=d.Yc W[n] (Rv b);let f:W[n].LT q 0=W[n][q]'(by rw[h1];show a):=by rw[nt,j_ (by rw[h1];show a)];rfl
 rw[f];show h2 _ (Rv _)
def dy(r:χ):∀QK5 QFP,w.β=m->aR QJ' L [r] w=[Sl L W r w]:=by
 intro m;induction m with
 |Xe=>
  intro w hw;rw[TB.mp hw];rfl
 |Wu m a=>
  intro w hw;obtain⟨c,v,ζ⟩:∃c v,w=v++[c]:=(w.getLast (by intro z;rw[z]at hw;cases hw),w.VG,(γ.Te _).QI);rw[LO,a v QCf,Ev];rfl
def u0.Uh(h:u0 H m L W B)QA1:u0 H' m L W B:=by
 let⟨d,mk,c,h1,h2,j,g,f⟩:=h;show(d,mk,c,s _ _ h1,s _ _ h2,s _ _ j,g,λi r e=>let⟨ws,a,b⟩:=f i r e;(ws,a,s _ _ b))
def FN(s:BR P0 H H')(a:AB H P0 R5):∀b xs,H b<*.Rn xs->H' b<*.Rn xs:=λb xs e=>s b _ (λz=>by
 let⟨ps,c,_⟩:=a;rw[z,c]at e;cases e) e
def JL(a:BR P0 H g)(b:BR P0 g f):BR P0 H f:=λc o d e=>b c o d (a c o d e)
def tT QBs:BR P0 H H':=λb o _ e=>s b o e
end RA
namespace L2
open PySem.Spec PyProof.Rows
section
variable{X:Cx}
def r9(w:X.XV=π):C7 X (.RJ "max") (λxs H Q=>∃(a:θ)(ns:γ Λ),xs=[V.ξ a]/\H a=δ (.QV QBU)/\0<ns.β/\∀M∈ns,(∀x∈ns,x≤M)->Q (.QG M) H):=by
 intro d s A H xs us Q I r h;let⟨a,ns,ζ,y,g,q⟩:=h;let⟨B,ζ,n⟩:=Ch r;cases n;let⟨R9,m,p,hz⟩:=I.V8 (k9.of y);let l:=kU m;let i:s.ρ.IsList a R9.Θ:=p.VE;let⟨xs,e⟩:=l.allInts.items;let b:ns=xs.Qx.Q_ QBF:=by rw[<-l.numsOf,<-nums_intItems,<-e]
 let hsz:0<xs.Q':=by
  rw[b,j',UA]at g;show g
 rw[e]at i;refine max_intList (I.ok.hd w) i hsz λv h' C o u=>?_;let⟨t,ζ⟩:=intItems_at o;let⟨h1,h2⟩:=argBest_gt (numAt xs) (xs.Q'-1);refine(.QG _,H,I.XD u,(t,1),q _ ?_ λx f=>?_)
 .rw [b,numAt_eq];show Ξ.getD_mem (by rw[j',UA];show K8 hsz h1)
 .rw [b]at f;let⟨j,k⟩:=Rl.mp f;let c:=(l' k).1;rw[j',UA]at c;have:=h2 j (!6);let z:numAt xs j=x:=by
   rw[numAt_eq,nt,k];rfl
  rw[<-z];show this
inductive rIndexI(x:V)QAI QAH QAR:Prop
 |mk (l:θ) QE1 (n:Λ) QI8 (_:vs=[.QG n]) (_:H l<*.QV QBU) (_:n∈ns) (_:Q (.QG (ns.QP n:χ)) H)
def rh:Kn X "list.index" rIndexI:=by
 intro D s W H x vs v us Q I M N h;let⟨l,bs,d,ζ,ζ,J,S,q⟩:=h;cases M;let⟨u,ζ,O⟩:=N.UX;let⟨L,ζ⟩:=(show ∃t,u=η.QG d t from O);let⟨z,R9,n,r,Y,e⟩:=I.lstM J;let f:R9.β=bs.β:=by rw[<-r.β,j']
 let o:bs.QP d<bs.β:=QS S;let k:∀QHW(A:j<R9.Θ.Q'),∃(g:j<bs.β)(t:Z5),R9.Θ[j]=.QG bs[j] t:=λj A=>by
  let g:j<bs.β:=by simpa[f]using A
  refine(g,3);let⟨a,U,P⟩:=r.Yj (i:=j) (x:=.QG bs[j]) (by rw[na,j_ g];rfl);let⟨t,ζ⟩:=(show ∃t,a=η.QG bs[j] t from P);let⟨_,q⟩:=l' U;show(t,by simpa using q)
 let B:((bs.QP d:χ):Λ)<2^63-1:=by
  let T:(bs.Q_ V.QG).β≤Φ:=(I.QV J).Zn.Zn.2.2;rw[j',S']at T;show ID o T
 refine call_meets F.XZ (_,e,1) F.entry_list_index (F.args_list_index_2 _ _) (S4.list_indexAt l R9.Θ n ε #[] (.QG d L) (λy=>match y with|.QG b _=>b==d|_=>ν) (bs.QP d) (by simpa[f]using o) B ?_ ?_) (e,3,QD6)
 .obtain ⟨g,t,w⟩:=k (bs.QP d) (by simpa[f]using o);rw[w];change (bs[bs.QP d]==d)=π;rw[TF g];show VI d
 .intro m C E;let⟨g,t,w⟩:=k m C;rw[w];change (bs[m]==d)=ν;by_cases p:bs[m]=d
  .have:=RA.HG (l:=bs) (c:=d) (i:=m) (by rw[j_ g,p]);lia
  .exact RX.Sz p
 .intro y R;let⟨j,A,ζ⟩:=R_.mem_iff_getElem.mp R;let⟨g,t,w⟩:=k j A;rw[w];show S4.VM.int_int _ _ _ _
def iR QBQ(a:PE X e ta)(b:UD e f X.QC QGE=Sc e X.QC)(c:(X.K=K)>>>4):PE X QGt (Nz K ta f):=by
 subst c;show Ac a b
def qM{c a:UL}(K:RG)(i:PE X o to)(j:PA X [e] t)(k:(X.K=K)>>>4)(f:(UD o "index" X.QC (Sc o X.QC)=Sc o X.QC)>>>4)(g:(((ST a (BT [e] X.QC)).UW (λx=>!x.1)&&(Yn a (WR [] X.QC)).UW (λx=>x.1.VR)
   && decide ([e].β+([]:γ Xn).β+(if ([]:γ Xn).Vs then 0 else 1)<30))=π)>>>4)(d:((c.endLine==a.XC)=π)>>>4)(h:(BT [e] X.QC=(ν,Sc e X.QC,)::BT [] X.QC)>>>4)(b:((ST a (BT [] X.QC)).U6 (·.1)=ν)>>>4):PE X (.T0 (.S7 o "index" c) [e] [] a) (BF K "list" rIndexI to t):=by
 subst k;show b7 UT Ξ.F.XZ Ξ.F.type_list_index rh i j f g d h b
end
end L2
namespace RA
open L2
abbrev wf QAH QEk QC9:Prop:=∀QBB(r:θ),Td[i]?<*r->∃ws,W[i]?=δ ws/\∃o,(o=.QV QHv\/o=.Rn QHv)/\H r<*o
def uK:∀{ns:LN},0<ns.β->∃M∈ns,∀x∈ns,x≤M
 |[],h=>by simp at h
 |[a],_=>(a,!1,λx c=>by rw[yl c];show QA _)
 |a::b::r,_=>by
  let⟨M,h1,h2⟩:=uK (ns:=b::r) (!1);by_cases h:a≤M
  .exact (M,Q9 _ h1,λx c=>by
    rcases QY.mp c with ζ|z
    .exact h
    .exact h2 x z)
  .exact (a,!1,λx c=>by
    rcases QY.mp c with ζ|z
    .exact QA _
    .have:=h2 x z;lia)
def sr QCm:∀QIT,(zs l).QP (n:Λ)=l.QP n
 |[]=>rfl
 |x::l=>by
  change ((x:Λ)::zs l).QP (n:Λ)=_;rw[Y4,Y4,sr n l];by_cases h:x=n
  .rw [h];simp
  .rw [RX.Sz h,RX.Sz (λe=>h (Λ.ofNat_inj.mp e))]
def tX(h:Ew H c W):wf H c W:=λi r e=>let⟨ws,a,b⟩:=h i r e;(ws,a,_,.Rh ζ,b)
end RA
namespace RA
section
variable{κ:Type}[Sb κ]
def KF:∀QKs,∃r,aQ b ks=b++r
 |[],b=>([],(Tx b).QI)
 |a::ks,b=>by
  change ∃r,aQ (if a∈b then b else b++[a]) ks=b++r;by_cases h:a∈b
  .rw [IO h];show KF ks b
  .rw [Cl h];let⟨r,e⟩:=KF ks (b++[a]);show([a]++r,by rw[e,SK])
def jt:∀QKs,b.R7->(aQ b ks).R7
 |[],_,h=>h
 |a::ks,b,h=>by
  change (aQ (if a∈b then b else b++[a]) ks).R7;by_cases c:a∈b
  .rw [IO c];show jt ks b h
  .rw [Cl c];refine jt ks _ ?_;rw[γ.Y0];refine(h,!1,λx d y f e=>?_);rw[yl f]at e;rw[e]at d;show c d
def vJ QIA:(u5 ks).R7:=jt ks [] γ.nodup_nil
def uC QGl(h:0<ks.β):(ax ks).LT 0 0=0:=by
 cases ks with
 |S5=>simp at h
 |Rc k ks=>
  rw[Jw (k:=k) ζ];let⟨r,e⟩:=KF ks [k];have:u5 (k::ks)=[k]++r:=by
   change aQ (if k∈[]then[]else[]++[k]) ks=_;rw[Cl (!1)];show e
  rw[this];simp
def gM QGl{M j:χ}(h:M∈ax ks)(e:j≤M):j∈ax ks:=by
 let⟨k,d,ζ⟩:=TZ.mp h;let a:j<(u5 ks).β:=SA e (QS (Wi.Sz d));let c:(u5 ks)[j]∈ks:=Wi.mp (Rv a);refine TZ.Sz ((u5 ks)[j],c,3);let b:=vJ ks;let h2:(u5 ks).QP (u5 ks)[j]<(u5 ks).β:=QS (Rv a);show(YL b).mp (TF h2)
end
section
variable{L:LN}{W:LL}{B:γ Ψ}{k:χ}
def L4 QAt:(Rd W B k).LT 0 0=0:=by
 cases k with
 |Xe=>show uC (by rw[h.bl];show h.n1)
 |Wu k=>show uC (by rw[Dg];show h.n1)
def qb(h:M∈Rd W B k)(a:j≤M):j∈Rd W B k:=by
 cases k with
 |Xe=>show gM h a
 |Wu k=>show gM h a
end
abbrev Aj(R:LL)(V7:LN)QK5:LL:=(γ.Re m).Q_ λj=>(R.LT (V7.QP j) []).Q_ λg=>V7.LT g 0
abbrev CK(Bm:γ Ψ)(V7:LN)QK5:γ Ψ:=(γ.Re m).Q_ λj=>Bm.LT (V7.QP j) ν
def ib(h:j<m):(Aj R a m).LT j []=(R.LT (a.QP j) []).Q_ λg=>a.LT g 0:=by
 rw[Aj,nt,na,SY h];rfl
def rK(h:j<m):(CK Bm a m).LT j ν=Bm.LT (a.QP j) ν:=by
 rw[CK,nt,na,SY h];rfl
structure bq(V7:LN)QK5:Prop where
 Ri:0<m
 lt:∀x∈V7,x<m
 Vh:∀j<m,j∈V7
section
variable{L:LN}{R:LL}{Bm:γ Ψ}{k m:χ}
def rJ{l:LN}(h:i<l.β):l.LT i 0∈l:=by
 rw[nt,j_ h];show Rv h
def B9(b:bq QAN m)QBi(c:j<m):(Rd R Bm k).QP j<R.β/\m8 R Bm k QIn=j:=by
 let h1:=QS (b.Vh j c);refine(by rw[Dh a]at h1;show h1,3);rw[m8,nt,j_ h1];show TF h1
def nG(c:bq QAN m)QBi(b:r<R.β):m8 R Bm k r<m:=c.lt _ (rJ (by rw[Dh a];show b))
def Hi(b:bq QAN m)QBi:g_ L QBn QIo where
 lt:=a.lt
 n1:=by rw[Aj,j',Rx];show b.Ri
 n60:=by
  rw[Aj,j',Rx];let h1:=ca a (b.Vh (m-1) (by have:=b.Ri;show Fj this));have:=a.n60;lia
 bl:=by rw[CK,Aj,j',j']
 Yc:=λws h=>by
  rw[Aj]at h;let⟨j,c,ζ⟩:=TZ.mp h;let c:=Rr.mp c;let⟨h1,h2⟩:=DE a (B9 b a c).1;refine(by rw[j'];show h1,λx d=>?_);let⟨g,e,ζ⟩:=TZ.mp d;rw[Aj,j',Rx];show nG b a (h2 g e)
def vz(b:bq QAN m)QBi:(Aj R QAN m).β≤R.β:=by
 rw[Aj,j',Rx];let h1:=ca a (b.Vh (m-1) (by have:=b.Ri;show Fj this));lia
def vy(d:bq QAN m)QBi QCB(b:r<R.β)(i:c∈L):zl L QBn QIp c=m8 R Bm k (zl L R r c):=by
 let g:L.QP c<L.β:=QS i;let f:=nG d a b;let⟨h,j⟩:=B9 d a f;let p:m8 R Bm (k+1) QCc=m8 R Bm (k+1) r:=by
  change (Rd R Bm (k+1)).LT _ 0=(Rd R Bm (k+1)).LT _ 0;rw[st];show j
 let o:=((Fb a h b).mp p).2 _ g;unfold zl;rw[ib f];let e:L.QP c<(R.LT QCc []).β:=by rw[(DE a h).1];show g
 rw[nt,na,j_ e];change (Rd R Bm k).LT _ 0=_;let n:UU R QCc QBS=(R.LT QCc [])[L.QP c]:=by
  rw[UU,nt (l:=R.LT _ []),j_ e];rfl
 rw[<-n];show o
def GE(e:bq QAN m)QBi QCB:∀{w:LN}{r:χ},r<R.β->QA7->Sl L QBn QIp w=m8 R Bm k (Sl L R r w)
 |[],_,_,_=>rfl
 |c::w,r,b,hw=>by
  let f:c∈L:=hw c (!1);change Sl L QBn (zl L QBn QIp c) w=m8 R Bm k (Sl L R (zl L R r c) w);rw[vy e a st b f];show GE e a st (Cj a b (QS f)) λd g=>hw d (by simp[g])
def JM(c:bq QAN m)QBi(b:r<R.β):(CK Bm QAN m).LT QIp ν=Bm.LT r ν:=by
 let d:=nG c a b;let⟨e,f⟩:=B9 c a d;rw[rK d];show(Ks a e b).mp (d7 a e b (RO k) f)
def HR(b:bq QAN m)QBi QCB QFe:(CK Bm QAN m).LT (Sl L QBn 0 w) ν=Bm.LT (Sl L R 0 w) ν:=by
 let e:m8 R Bm k 0=0:=L4 a;have:=GE b a st a.n1 hw;rw[e]at this;rw[this];show JM b a (B6 a a.n1 hw)
end
section
variable{L:LN}{W:LL}{B:γ Ψ}{ks ws R:LL}{Bm:γ Ψ}
def qi(b:g_ L W B)(k:Bf QJ' L [0] ks ws ks.β 0)QCq(c:R.β=ks.β)QHS(f:ks.β≤W.β):g_ L R Bm where
 lt:=b.lt
 n1:=by rw[c];show(l' k.t0).1
 n60:=by rw[c];show QB f b.n60
 bl:=bl
 Yc:=λr h=>by
  let⟨i,e⟩:=Rl.mp h;let d:i<ks.β:=by rw[<-c];show(l' e).1
  let⟨h1,h2⟩:=a.Yc i r _ e (j_ d);refine(h1,λx g=>?_);let⟨q,j⟩:=Rl.mp g;rw[c];show(l' (h2 q x j)).1
def cJ(j:g_ L W B)(p:Bf QJ' L [0] ks ws ks.β 0)QCq(i:R.β=ks.β):∀QCm QFP,w.β=n->QA7->ks[Sl L R 0 w]?<*[Sl L W 0 w]:=by
 intro n;induction n with
 |Xe=>
  intro w hw _;rw[TB.mp hw];show p.t0
 |Wu n g=>
  intro w hw f;obtain⟨c,v,ζ⟩:∃c v,w=v++[c]:=(w.getLast (by intro z;rw[z]at hw;cases hw),w.VG,(γ.Te _).QI);let h1:=g v QCf λx h=>f x (by simp[h]);let b:L.QP c<L.β:=QS (f c (!1));let e:Sl L R 0 v<R.β:=by rw[i];show(l' h1).1
  let⟨d,o⟩:=a.Yc _ _ _ (j_ e) h1;let m:=o QBS _ (j_ (by rw[d];show b));rw[Ev,Ev];let k:zl L R (Sl L R 0 v) c=R[Sl L R 0 v][L.QP c]'(by rw[d];show b):=by
   unfold zl;rw[nt (l:=R),j_ e];change (R[Sl L R 0 v]).LT _ 0=_;rw[nt,j_ (by rw[d];show b)];rfl
  rw[k];show m
def ml(e:g_ L W B)(h:Bf QJ' L [0] ks ws ks.β 0)QCq(g:R.β=ks.β)QHS(d:∀(r:χ)QFb QK3,ks[r]?<*k->Bm[r]?<*b->b=mkW B k)QFe:Bm.LT (Sl L R 0 w) ν=B.LT (Sl L W 0 w) ν:=by
 let h1:=cJ e h a g _ w ζ hw;let f:Sl L R 0 w<Bm.β:=by rw[bl,g];show(l' h1).1
 rw[nt,j_ f];show d _ _ _ h1 (j_ f)
end
inductive DM QA5 QC9 QAm(W':LL)QHo:Prop
 |mk (ks ws R:LL) (Bm:γ Ψ) (k m:χ) (_:Bf QJ' L [0] ks ws ks.β 0) (_:CJ QJ' L.β ks R) (_:R.β=ks.β) (_:Bm.β=R.β) (_:(∀(r:χ)QFb QK3,ks[r]?<*k->Bm[r]?<*b->b=mkW B k)) (_:(∀k∈ks,k∈uW W)) (_:ks.β≤W.β) QJg (_:Rd R Bm (k+1)=Rd R Bm k) (_:bq QAN m) (_:W'=Aj R QAN m) (_:B'=CK Bm QAN m)
def DM.Wj(h:DM L W B c d):g_ L c d:=by
 let⟨ks,ws,R,Bm,k,m,_,_,_,_,_,_,_,a,_,b,ζ,ζ⟩:=h;show Hi b a
def DM.TL(h:DM L W B c f):c.β≤W.β:=by
 let⟨ks,ws,R,Bm,k,m,_,_,e,_,_,_,d,a,_,b,ζ,ζ⟩:=h;have:=vz b a;lia
def DM.takes(h:DM L W B j l)(b:g_ L W B)QFe:l.LT (Sl L j 0 w) ν=B.LT (Sl L W 0 w) ν:=by
 let⟨ks,ws,R,Bm,k,m,i,a,g,bl,d,_,n,e,st,f,ζ,ζ⟩:=h;rw[HR f e st hw];show ml b i a g bl d hw
section
variable{κ:Type}[Sb κ]
def lE:∀(a b c:γ κ),aQ c (a++b)=aQ (aQ c a) b
 |[],_,_=>rfl
 |x::a,b,c=>lE a b _
def dU QGl{i j:χ}(o:i<ks.β)(e:j<(ax ks).LT i 0):∃i1,i1<i/\(ax ks).LT i1 0=j:=by
 let d:ks[i]?<*ks[i]:=j_ o;rw[Jw d]at e;let⟨r,l⟩:=KF (ks.Th (i+1)) (u5 QBh);let f:u5 ks=u5 QBh++r:=by
  have:=lE QBh (ks.Th (i+1)) [];rw[Vq]at this;show this.ο l
 let m:ks[i]∈ks.R0 (i+1):=by
  rw[Rl];show(i,by rw[γ.YZ,IO (R8 i)];show d)
 let b:ks[i]∈u5 QBh:=Wi.Sz m;rw[f,Bs b]at e;let n:=QS b;let a:j<(u5 QBh).β:=U1 e n;let⟨i1,c⟩:=Rl.mp (Wi.mp (Rv a));let h1:i1<i+1:=by
  have:=(l' c).1;rw[Sn]at this;lia
 rw[γ.YZ,IO h1]at c;let k:=vJ QBh;let g:(u5 QBh).QP (u5 QBh)[j]=j:=by
  let h2:(u5 QBh).QP (u5 QBh)[j]<(u5 QBh).β:=QS (Rv a);show(YL k).mp (TF h2)
 let q:(u5 ks).QP (u5 QBh)[j]=j:=by
  rw[f,Bs (Rv a)];show g
 refine(i1,3,by rw[Jw c];show q);by_cases h:i1=i
 .rw [h,d]at c;let p:=ψ.δ.Tp c;rw[<-p]at g;lia
 .exact Fn h1 h
end
section
variable{L:LN}{R:LL}{Bm:γ Ψ}{k m:χ}
def wg QBi(c:i<R.β)(b:j<m8 R Bm k i):∃i1,i1<i/\m8 R Bm k i1=j:=by
 cases k with
 |Xe=>show dU (by rw[a.bl];show c) b
 |Wu k=>show dU (by rw[Dg];show c) b
def pL(f:bq QAN m)(c:g_ L R Bm)(d:a<b)(g:b<m):(Rd R Bm k).QP a<(Rd R Bm k).QP b:=by
 let⟨j,h⟩:=B9 f c g;let⟨i1,h1,h2⟩:=wg c j (by rw[h];show d);refine SA (HG (i:=i1) ?_) h1;let e:i1<(Rd R Bm k).β:=by rw[Dh c];show GQ h1 j
 rw[j_ e];rw[m8,nt,j_ e]at h2;show Qw δ h2
def yK QBi(c:i<R.β):(Rd R Bm k).QP (m8 R Bm k i)≤i:=by
 let b:i<(Rd R Bm k).β:=by rw[Dh a];show c
 refine HG ?_;rw[m8,nt,j_ b];rfl
def KG QBi:∀QK4{r s:χ},r<R.β->s<R.β->(∀u:LN,QAL->Bm.LT (Sl L R r u) ν=Bm.LT (Sl L R s u) ν)->m8 R Bm k r=m8 R Bm k s
 |0,r,s,d,b,h=>(Ks a d b).Sz (h [] λc g=>by simp at g)
 | k+1,r,s,d,b,h=>(Fb a d b).Sz (KG a k d b h,λi f=>KG a k (Cj a d f) (Cj a b f) λu j=>by
   let e:=h (L[i]::u) λc g=>by
    rcases QY.mp g with ζ|z
    .exact Rv f
    .exact j c z
   rw[Cu,Cu,Gv,Gv,HF a.lt.nd f]at e;show e)
end
def DM.unlike(h:DM L W B f q)(o:r<f.β)(n:s<f.β)(e:∀u:LN,QAL->q.LT (Sl L f r u) ν=q.LT (Sl L f s u) ν):r=s:=by
 let⟨ks,ws,R,Bm,k,m,x,j,w,bl,t,_,v,a,st,b,ζ,ζ⟩:=h;rw[Aj,j',Rx]at o n;let⟨i,l⟩:=B9 b a o;let⟨g,s2⟩:=B9 b a n;have:=KG a k i g λu d=>by
  let p:=e u d;rw[<-l,<-s2,GE b a st i d,GE b a st g d,JM b a (B6 a i d),JM b a (B6 a g d)]at p;show p
 rw[l,s2]at this;show this
section
variable{L:LN}{W:LL}{B:γ Ψ}{ks ws R:LL}
def jh{b:Type}{l:γ b}(c:l.R7){i j:χ}{a:b}(e:l[i]?<*a)(d:l[j]?<*a):i=j:=by
 let⟨h1,g⟩:=l' e;let⟨h2,f⟩:=l' d;show(YL c).mp (g.ο f.QI)
def qh QI_(b:Bf QJ' L [0] ks ws ks.β 0)QCq(f:R.β=ks.β)QIO:QA7/\Sl L R 0 w=i:=by
 let e:i<ks.β:=by rw[b.TL];show(l' hw).1
 let⟨l1,l2⟩:=b.lead i ks[i] w (j_ e) hw;refine(l1,3);let h1:=cJ d b a f _ w ζ l1;rw[dy 0 _ w ζ]at l2;rw[l2]at h1;show jh b.nd h1 (j_ e)
def mo QI_(e:Bf QJ' L [0] ks ws ks.β 0)QCq(l:R.β=ks.β)QIO(f:∀c∈v,c∈L)(k:Sl L R 0 v=i):u6 L v w=ν:=by
 let⟨j,b,h,g,m⟩:=e.told d.lt.nd v _ ζ f;rw[dy 0 _ v ζ]at h;let h1:=cJ d e a l _ v ζ f;rw[k]at h1;have:j=i:=jh e.nd h h1;rw[this,hw]at g;cases g;show m
end
structure wo QA5(W':LL)(v:χ->LN):Prop where
 Xa:∀j,j<W'.β->(∀c∈v j,c∈L)/\Sl L W' 0 (v j)=j
 lt:∀i j,i<j->j<W'.β->u6 L (v i) (v j)=π
 least:∀u:LN,QAL->u6 L u (v (Sl L W' 0 u))=ν
def DM.firsts(h:DM L W B H J)(p:g_ L W B):∃v,wo L H v:=by
 let⟨ks,ws,R,Bm,k,m,q,d,x,bl,C,_,I,a,st,n,ζ,ζ⟩:=h;let f:(Aj R QAN m).β=m:=by rw[Aj,j',Rx]
 let s:ws.β=R.β:=by rw[x,q.TL]
 let b:∀QEH,i<R.β->ws[i]?<*ws.LT i []:=λ{i}D=>by
  rw[nt,j_ (by rw[s];show D)];rfl
 let l0:m8 R Bm k 0=0:=L4 a;let A:∀{u:LN},QAL->Sl L QBn 0 u=m8 R Bm k (Sl L R 0 u):=λ{u}l=>by
  have:=GE n a st a.n1 l;rw[l0]at this;show this
 refine(λj=>ws.LT QIn [],(λj g=>?_,λi j w g=>?_,λu l=>?_))
 .rw [f]at g;let⟨F,E⟩:=B9 n a g;let⟨y,w2⟩:=qh p q d x (b F);refine(y,3);rw[A y,w2];show E
 .rw [f]at g;let o:=pL n a w g;show q.srt _ _ _ _ o (b (U1 o (B9 n a g).1)) (b (B9 n a g).1)
 .rw [A l];let r:=B6 a a.n1 l;let t:=yK (k:=k) a r;let h1:=mo p q d x (b r) l ζ;rcases χ.lt_or_eq_of_le t with z|z
  .let h2:=q.srt _ _ _ _ z (b (U1 z r)) (b r);cases e:u6 L u QBD with
   |ν=>rfl
   |π=>rw[Bb e h2]at h1;cases h1
  .change u6 L u QBD=ν;rw[z];show h1
def mZ{rs:LN}(o:∀(i j a b:χ),i<j->rs[i]?<*a->rs[j]?<*b->a<b)(d:∀r∈rs,r<m)(c:∀j<m,j∈rs):rs.β=m/\∀(i r:χ),rs[i]?<*r->r=i:=by
 let l:∀(i r:χ),rs[i]?<*r->i≤r:=by
  intro i;induction i with
  |Xe=>show λr _=>RO r
  |Wu i f=>
   intro r e;let g:i<rs.β:=U1 (R8 i) (l' e).1;let h1:=f _ (j_ g);let h2:=o i (i+1) _ _ (R8 i) (j_ g) e;lia
 let k:∀(n i r:χ),i<n->rs[i]?<*r->r=i:=by
  intro n;induction n with
  |Xe=>show λi r h=>QL h (χ.not_lt_zero i)
  |Wu n f=>
   intro i r g e;let h1:=l i r e;let q:=d r (Ab e);let⟨p,hp⟩:=Rl.mp (c i (Fk q h1));let h2:=l p i hp;rcases V6 p i with z|z|z
   .have:=f p i (!6) hp;lia
   .rw [z,e]at hp;show ψ.δ.Tp hp
   .lia
 refine(3,λi r e=>k (i+1) i r (R8 i) e);rcases V6 rs.β m with z|z|z
 .obtain ⟨p,hp⟩:=Rl.mp (c rs.β z);let h1:=(l' hp).1;have:=k (p+1) p _ (R8 p) hp;lia
 .exact z
 .let e:=j_ z;have:=k (m+1) m _ (R8 m) e;let h2:=d _ (Rv z);lia
structure Bo QA5 QC9 QAm(v:χ->LN):Prop where
 Wj:g_ L W B
 fs:wo L W v
 un:∀{r s:χ},r<W.β->s<W.β->(∀u:LN,QAL->B.LT QJ7 ν=B.LT QJ8 ν)->r=s
def DM.canon(h:DM L W B d g)(c:g_ L W B):∃v,Bo L d g v:=by
 let⟨v,f⟩:=h.firsts c;show(v,h.Wj,f,λb a e=>h.unlike b a e)
def Bt QA5 QC9(r:χ)(a b:LN):Sl L W r (a++b)=Sl L W (Sl L W r a) b:=by
 unfold Sl;rw[γ.Y6]
section
variable{L:LN}{W1 W2:LL}{B1 B2:γ Ψ}{v1 v2:χ->LN}
def Bo.move QGb(d:Bo L W2 B2 v2)QAv(g:∀c∈a,c∈L)(f:∀c∈b,c∈L)(e:Sl L W1 0 a=Sl L W1 0 b):Sl L W2 0 a=Sl L W2 0 b:=by
 refine d.un (B6 d.Wj d.Wj.n1 g) (B6 d.Wj d.Wj.n1 f) λu j=>?_;let o:∀{x:LN},(∀c∈x,c∈L)->∀c∈x++u,c∈L:=λi c k=>by
  rcases Rp.mp k with z|z
  .exact i c z
  .exact j c z
 rw[<-Bt,<-Bt,<-h _ (o g),<-h _ (o f),Bt,Bt,e]
def Bo.word QGb(a:Bo L W2 B2 v2)QAv(f:j<W1.β):v2 QJF=v1 j:=by
 let⟨b,l⟩:=c1.fs.Xa j f;let g:=B6 a.Wj a.Wj.n1 b;let⟨d,k⟩:=a.fs.Xa _ g;let l2:=a.fs.least (v1 j) b;let i:Sl L W1 0 (v2 QJF)=j:=by
  rw[a.move c1 (λu e=>(h u e).QI) d b k];show l
 let l1:=c1.fs.least _ d;rw[i]at l1;rcases ie b d with z|z|z
 .rw [z]at l2;cases l2
 .exact z.QI
 .rw [z]at l1;cases l1
def Cz QGb(e:Bo L W2 B2 v2)QAv:W1.β=W2.β/\∀j<W1.β,Sl L W2 0 (v1 j)=j:=by
 let f:=mZ (rs:=(γ.Re W1.β).Q_ λj=>Sl L W2 0 (v1 j)) (m:=W2.β) (λi j a b k s o=>?_) (λr w=>?_) (λj d=>?_)
 .refine (by have:=f.1;rwa [j',Rx]at this,λj d=>?_);refine f.2 j _ ?_;rw[na,SY d];rfl
 .let d:j<W1.β:=by have:=(l' o).1;rwa [j',Rx]at this
  let l:i<W1.β:=U1 k d;rw[na,SY l]at s;rw[na,SY d]at o;cases s;cases o;let h1:=c1.fs.lt i j k d;let t:=B6 e.Wj e.Wj.n1 (c1.fs.Xa i l).1;rcases V6 (Sl L W2 0 (v1 i)) QJF with z|z|z
  .exact z
  .let n:=c1.word e h l;let p:=c1.word e h d;rw[z]at n;rw[<-n,p]at h1;rw[Ky h1]at h1;cases h1
  .let h2:=e.fs.lt _ _ z t;rw[c1.word e h l,c1.word e h d]at h2;rw[Ky h2]at h1;cases h1
 .obtain ⟨j,d,ζ⟩:=TZ.mp w;show B6 e.Wj e.Wj.n1 (c1.fs.Xa j (Rr.mp d)).1
 .obtain ⟨q,p⟩:=e.fs.Xa j d;let g:=B6 c1.Wj c1.Wj.n1 q;refine TZ.Sz (Sl L W1 0 (v2 j),Rr.Sz g,3);let⟨v,n⟩:=c1.fs.Xa _ g;change Sl L W2 0 (v1 (Sl L W1 0 (v2 j)))=j;rw[c1.move e h v q n];show p
def vO QGb(f:Bo L W2 B2 v2)QAv:W1=W2/\B1=B2:=by
 let⟨o,v⟩:=Cz c1 f h;let i:∀{u:LN},QAL->Sl L W2 0 u=Sl L W1 0 u:=λ{u}m=>by
  let d:=B6 c1.Wj c1.Wj.n1 m;let⟨a,b⟩:=c1.fs.Xa _ d;rw[<-v _ d];show(c1.move f h a m b).QI
 refine(YM o λj h1 h2=>?_,YM (by rw[c1.Wj.bl,f.Wj.bl,o]) λj h1 h2=>?_)
 .obtain ⟨a,b⟩:=c1.fs.Xa j h1;let⟨p,A⟩:=c1.Wj.Yc _ (Rv h1);let⟨x,y⟩:=f.Wj.Yc _ (Rv h2);refine YM (by rw[p,x]) λq k s=>?_;let n:q<L.β:=by rw[<-p];show k
  let g:∀c∈v1 j++[L[q]],c∈L:=λc w=>by
   rcases Rp.mp w with z|z
   .exact a c z
   .rw [yl z];show Rv n
  let e:=i g;let t:=HF c1.Wj.lt.nd n;rw[Ev,Ev,i a,b,Gv,Gv,t]at e;let r:UU W1 j q=W1[j][q]:=by
   rw[UU,nt (l:=W1),j_ h1];change (W1[j]).LT q 0=_;rw[nt,j_ k];rfl
  let w2:UU W2 j q=W2[j][q]:=by
   rw[UU,nt (l:=W2),j_ h2];change (W2[j]).LT q 0=_;rw[nt,j_ s];rfl
  rw[<-r,<-w2];show e.QI
 .let d:j<W1.β:=by rw[<-c1.Wj.bl];show h1
  let⟨a,b⟩:=c1.fs.Xa j d;let e:=h _ a;rw[i a,b,nt,nt,j_ h1,j_ h2]at e;show e
end
end RA
namespace L2
open PySem.Spec PyProof.Rows
def HS{b:Type}[Sb b](d:b)(xs ys:γ b):((γ.Re (min xs.β ys.β)).UW (λj=>decide (xs.LT j d=ys.LT j d))&&xs.β==ys.β)=decide (xs=ys):=by
 by_cases a:xs.β=ys.β
 .let c:(xs.β==ys.β)=π:=by simpa using a
  rw[c,Ψ.and_true];rw[Ψ.T9,Ro,decide_eq_true_iff];constructor
  .intro h;refine YM a λj h1 h2=>?_;have:=SW (h j (Rr.Sz (!6)));rw[nt,nt,j_ h1,j_ h2]at this;show this
  .rintro ζ j e;show RI ζ
 .let c:(xs.β==ys.β)=ν:=by simpa using a
  rw[c,Ψ.and_false];show(QJ λz=>a (by rw[z])).QI
section
variable{X:Cx}{QE:γ QA_}{σ:St}{H:Hp}{s:ω}
def L5(e:χ->Ψ)QAA(hp:q5 X.K H p xs)(F:q5 X.K H q ys)(J:xs.β=n)(L:ys.β=m)(E:A.S_<UJ)(d:p=q->QKA=π)(M:∀QHW(x y:V)(u v:η),xs[j]?<*x->ys[j]?<*y->ae x u->ae y v->S4.VM A.Xz s u v (e j)):S4.VM A s QAp (.ξ q) QKA:=by
 by_cases f:p=q
 .rw [d f,f];show S4.VM.SO _
 .refine S4.VM.of_refs f ?_;let⟨R9,r,l,D⟩:=I.Uu hp;let⟨c,o,k,C⟩:=I.Uu F;let l1:=r.β;let l2:=o.β;have:=S4.RcAt.tuples (A:=A) (e:=e) l k E (λj h1 h2=>by
   let h:j<xs.β:=by simp at h1;show BW h1 l1
   let g:j<ys.β:=by simp at h2;show BW h2 l2
   let⟨a,O,B⟩:=r.Yj (i:=j) (j_ h);let⟨b,N,w⟩:=o.Yj (i:=j) (j_ g);let Q:R9.Θ[j]=a:=by
    let⟨_,z⟩:=l' O;simpa using z
   let P:c.Θ[j]=b:=by
    let⟨_,z⟩:=l' N;simpa using z
   rw[Q,P];show M j _ _ _ _ (j_ h) (j_ g) B w)
  let t:R9.Θ.Q'=n:=by rw[Qu,<-J];show l1.QI
  let s2:c.Θ.Q'=m:=by rw[Qu,<-L];show l2.QI
  rw[t,s2]at this;show this
end
end L2
namespace RA
open L2
section
variable{X:Cx}{QE:γ QA_}{σ:St}{H:Hp}{s:ω}
def kX QIJ(h:QHv[j]?<*x):x=.QG ((ws.LT j 0:χ):Λ):=by
 let a:j<ws.β:=by have:=(l' h).1;rwa [c_]at this
 rw[B7 a]at h;show(ψ.δ.Tp h).QI
def rO QAA(hp:H p<*.Rn (b_ a))(g:H q<*.Rn (b_ b))(m:A.S_<UJ):S4.VM A s QAp (.ξ q) (decide (a=b)):=by
 rw[<-HS 0 a b];refine L5 (λj=>decide (a.LT j 0=b.LT j 0)) I QED (q5.of g) (c_ a) (c_ b) m QDT (λj x y u v k i f d=>?_)
 .rw [HS];rw[h,g]at hp;refine RI ?_;let e:b_ b=b_ a:=HO.Rn.Tp (ψ.δ.Tp hp);refine(Vt λj=>?_).QI;let c:=Qw (λl=>l[j]?) e;simp only[b_,na]at c;cases h1:b[j]? with
  |ε=>rw[h1]at c;cases h2:a[j]? with
   |ε=>rfl
   |δ z=>rw[h2]at c;cases c
  |δ z=>rw[h1]at c;cases h2:a[j]? with
   |ε=>rw[h2]at c;cases c
   |δ n=>rw[h2]at c;show Qw δ (Λ.ofNat_inj.mp (V.QG.Tp (ψ.δ.Tp c)))
 .rw [kX k]at f;rw[kX i]at d;let e:=B4 (A:=A.Xz) (s:=s) f d ζ ζ;let c:Ep (.QG ((a.LT j 0:χ):Λ)) (.QG ((b.LT j 0:χ):Λ))=decide (a.LT j 0=b.LT j 0):=by
   change (((a.LT j 0:χ):Λ)==((b.LT j 0:χ):Λ))=_;rw[Ψ.T9,Ur,decide_eq_true_iff];show Λ.ofNat_inj
  rw[c]at e;show e
def oi{a b:γ Ψ}QAA(hp:H p<*.Rn (a.Q_ V.bl))(g:H q<*.Rn (b.Q_ V.bl))(m:A.S_<UJ):S4.VM A s QAp (.ξ q) (decide (a=b)):=by
 rw[<-HS ν a b];refine L5 (λj=>decide (a.LT j ν=b.LT j ν)) I QED (q5.of g) (j' _) (j' _) m QDT (λj x y u v f d k i=>?_)
 .rw [HS];rw[h,g]at hp;refine RI ?_;let e:b.Q_ V.bl=a.Q_ V.bl:=HO.Rn.Tp (ψ.δ.Tp hp);refine(Vt λj=>?_).QI;let c:=Qw (λl=>l[j]?) e;simp only[na]at c;cases h1:b[j]? with
  |ε=>rw[h1]at c;cases h2:a[j]? with
   |ε=>rfl
   |δ z=>rw[h2]at c;cases c
  |δ z=>rw[h1]at c;cases h2:a[j]? with
   |ε=>rw[h2]at c;cases c
   |δ n=>rw[h2]at c;show Qw δ (V.bl.Tp (ψ.δ.Tp c))
 .rw [na]at f d;let⟨r,h1,ζ⟩:=AE f;let⟨o,h2,ζ⟩:=AE d;let e:=B4 (A:=A.Xz) (s:=s) k i ζ ζ;rw[nt,nt,h1,h2];show e
def rN QAA(hp:H p<*.Rn (f.Q_ V.ξ))(t:H q<*.Rn (d.Q_ V.ξ))(l1:f.β=g.β)(l2:d.β=c.β)(h1:Ew H f g)(h2:Ew H d c)(M:A.S_+1<UJ):S4.VM A s QAp (.ξ q) (decide (g=c)):=by
 rw[<-HS [] g c];refine L5 (λj=>decide (g.LT j []=c.LT j [])) I QED (q5.of t) (by rw[j',l1]) (by rw[j',l2]) (Ig M) QDT (λj x y u v r o L J=>?_)
 .rw [HS];rw[h,t]at hp;refine RI ?_;let e:d=f:=by
   let Q:d.Q_ V.ξ=f.Q_ V.ξ:=HO.Rn.Tp (ψ.δ.Tp hp);refine Vt λj=>?_;let a:=Qw (λl=>l[j]?) Q;simp only[na]at a;cases h1:d[j]? with
   |ε=>rw[h1]at a;cases h2:f[j]? with
    |ε=>rfl
    |δ z=>rw[h2]at a;cases a
   |δ z=>rw[h1]at a;cases h2:f[j]? with
    |ε=>rw[h2]at a;cases a
    |δ C=>rw[h2]at a;show Qw δ (V.ξ.Tp (ψ.δ.Tp a))
  subst e;refine YM (by rw[<-l1,l2]) λj R B=>?_;let w:j<d.β:=by rw[l2];show B
  let⟨F,m,n⟩:=h1 j _ (j_ w);let⟨w2,a,k⟩:=h2 j _ (j_ w);rw[j_ R]at m;rw[j_ B]at a;cases m;cases a;rw[n]at k;let P:b_ g[j]=b_ c[j]:=HO.Rn.Tp (ψ.δ.Tp k);refine Vt λi=>?_;let b:=Qw (λl=>l[i]?) P;simp only[b_,na]at b;cases h1:g[j][i]? with
  |ε=>rw[h1]at b;cases h2:c[j][i]? with
   |ε=>rfl
   |δ z=>rw[h2]at b;cases b
  |δ z=>rw[h1]at b;cases h2:c[j][i]? with
   |ε=>rw[h2]at b;cases b
   |δ C=>rw[h2]at b;show Qw δ (Λ.ofNat_inj.mp (V.QG.Tp (ψ.δ.Tp b)))
 .rw [na]at r o;let⟨E,n,ζ⟩:=AE r;let⟨D,k,ζ⟩:=AE o;cases L;cases J;let⟨F,m,O⟩:=h1 j E n;let⟨w2,a,N⟩:=h2 j D k;rw[nt,nt,m,a];show rO I O N (by rw[Qy.WS];show M)
inductive rEqM(x:V)(y:V)QAH QAR:Prop
 |mk (m1 m2:θ) QA5 QHp QD' (_:x=.ξ m1) (_:y=.ξ m2) (_:u0 H m1 L W1 B1) QDj (_:Q (.bl (decide (W1=W2)&&decide (B1=B2))) H)
def Hj(hu:X.A.S_+64<UJ):y' X (So .Eq) rEqM:=by
 intro QE s σ H x y v u Q I O N h;let⟨m1,m2,L,p,o,r,q,ζ,ζ,E,D,k⟩:=h;cases O;cases N;let⟨J,R,r1,a1,a2,a3,a4,a5⟩:=E;let⟨F,P,r2,b1,b2,Z,Y,W⟩:=D;let⟨R9,w,C,T⟩:=I.Uu (q5.of a1);let⟨a,t,B,S⟩:=I.Uu (q5.of b1);let l1:=w.β;let l2:=t.β;refine S4.eq_tupleAt (e:=λj=>if j=0 then π else if j=1 then decide (p=o)else decide (r=q)) C B (IB hu) (λj h1 h2=>?_) QGv
 .let U:j<3:=by
   simp at h1;have:R9.β=3:=l1.QI;lia
  match j,U with
  |0,_=>
   let⟨f,n,d⟩:=w.Yj (i:=0) ζ;let⟨c,m,b⟩:=t.Yj (i:=0) ζ;let l:R9.Θ[0]=f:=by
    let⟨_,z⟩:=l' n;simpa using z
   let g:a.Θ[0]=c:=by
    let⟨_,z⟩:=l' m;simpa using z
   rw[l,g];let e:=B4 (A:=X.A.Xz) (s:=s) d b ζ ζ;rw[vE ζ]at e;show e
  |1,_=>
   let⟨f,n,d⟩:=w.Yj (i:=1) ζ;let⟨c,m,b⟩:=t.Yj (i:=1) ζ;let l:R9.Θ[1]=f:=by
    let⟨_,z⟩:=l' n;simpa using z
   let g:a.Θ[1]=c:=by
    let⟨_,z⟩:=l' m;simpa using z
   rw[l,g];cases d;cases b;show rN I a2 b2 a4 Y a5 W (by rw[Qy.WS];show GS hu)
  |2,_=>
   let⟨f,n,d⟩:=w.Yj (i:=2) ζ;let⟨c,m,b⟩:=t.Yj (i:=2) ζ;let l:R9.Θ[2]=f:=by
    let⟨_,z⟩:=l' n;simpa using z
   let g:a.Θ[2]=c:=by
    let⟨_,z⟩:=l' m;simpa using z
   rw[l,g];cases d;cases b;show oi I a3 Z (by rw[Qy.WS];show Fl hu)
 .let M:R9.Θ.Q'=3:=by rw[Qu];show l1.QI
  let s2:a.Θ.Q'=3:=by rw[Qu];show l2.QI
  rw[M,s2];let e:(((γ.Re (min 3 3)).UW λj=>if j=0 then π else if j=1 then decide (p=o)else decide (r=q))&&3==3)=(decide (p=o)&&decide (r=q)):=by
   change ((π&&(decide (p=o)&&(decide (r=q)&&π)))&&π)=_;cases decide (p=o)<;>cases decide (r=q)<;>rfl
  rw[e];show k
end
def eJ QIT:(b_ l).UW bc=π:=by
 rw[b_,γ.all_map,Ro];show λ_ _=>rfl
end RA
namespace L2
open PySem.Spec PyProof.Rows
def rR QBy(h:t≤xs.β):Ad xs (δ (t:Λ)) ε=xs.Th t:=by
 unfold Ad;rw[HT.Cq,HT.Db,χ.min_eq_left h,RT (by rw[WP];show QA _)]
section
variable{X:Cx}{ZG UC:SH}{x y:QF}{px py pt Ri:UL}{kt:χ}{sc:TJ}{wi:TI}{te:TE}{tt:TT}{Zh:γ SH}
abbrev iy QBQ(wi:TI)(tt:TT)(te:TE):TE:=λσ H Q=>wi σ H λJ H1=>∀D,H1 D=ε->∃W:χ->χ->γ V->Hp->Prop,
 (∃m,W 0 m [] (QO H1 D (.QV [])))/\∀i m ys H2,W i m ys H2->H2 D=δ (.QV ys)/\((J.We i H2/\Q (.ξ D) H2)\/(J.go i H2/\ys.β<Φ/\∀x H3,J.yld i H2 x H3->
  ∃p a b,x=.ξ p/\q5 K H3 p [a,b]/\tt (δ a::δ b::σ) H3 λbo H4=>if bo=π then te (δ a::δ b::σ) H4 λy H5=>H5 D=δ (.QV ys)/\∃m',m'<m/\W (i+1) m' (ys++[y]) (QO H5 D (.QV (ys++[y])))else ∃m',m'<m/\W (i+1) m' ys H4))
def nH{st:ω}(Z:χ->ω->Prop)(J:∀k t,Z k t->Fr (LE pg d) B (WE p) (λr o=>match r with
   |ε=>Rf (.ok .next) o
   | δ u=>Fr (LE pg d) B (ZE m p u) (λ_ A=>Fr (LE pg d) B (Y_ m g u) (λ_ w=>
     Fr (LE pg d) B (forIn Zh π λc r=>if r=π then do let ok <-isTrue c g (Sc c g);pure (Xq.yield ok)else pure (Xq.yield r)) (λi n=>
      if i=π then Fr (LE pg d) B (Sc ZG g) (λz v=>Fr (LE pg d) B (UZ (.RJ "list.append") [C,z]) (λ_ s=>∃j,j<k/\Z j s) QGm v) QGm n
      else ∃j,j<k/\Z j n) (Xh (LE pg d) B g λe s'=>Rf (.WV e) s') w) (Xh (LE pg d) B g λe s'=>Rf (.WV e) s') A) (Xh (LE pg d) B g λe s'=>Rf (.WV e) s') o) (Xh (LE pg d) B g λe s'=>Rf (.WV e) s') t)(k:χ)(hz:Z k st):VD (LE pg d) B (.compLoop (.Ub ZG [(m,UC,Zh,(0))] sc Ri) 0 p C g) Rf st:=by
 let b:∀{q:Type}{x:Sem q}{Q1 D:q->ω->Prop}{N:η->ω->Prop}{t:ω},Fr (LE pg d) B x Q1 N t->(∀a t',Q1 a t'->D a t')->Fr (LE pg d) B x D N t:=λh f=>RQ h f λ_ _ z=>z;refine codeAny_loop ζ Z (λk t E=>?_) k hz;change Fr _ B ((compTurn (.Ub ZG [(m,UC,Zh,(0))] sc Ri) 0 p C g).onRaise λx=>do Xp x g;theTreesLotGoes x) _ _ t;refine wpAny_noted ?_;rw[compTurn_list];refine e_ (Tm (e_ (b (J k t E) λr o h1=>?_)));match r,h1 with
 |ε,h1=>show h9 h1
 |δ u,h1=>
  refine e_ (b h1 λ_ A h2=>e_ (b h2 λ_ w I=>e_ (b I λi n l=>?_)));match i,l with
  |ν,l=>show h9 (1,l)
  |π,l=>show e_ (e_ (b l λz v H=>e_ (b H λ_ s F=>h9 (h9 (1,F)))))
end
section
variable{X:Cx}{ZG UC tg:SH}{x y:QF}{px py pt Ri:UL}{kt:χ}{sc:TJ}{wi:TI}{te:TE}{tt:TT}{Zh:γ SH}
instance wn QJt(fnx:QF->Ψ):Prop:=∀{M:Model}{A:Qy}QDk{s:ω}{g:θ}{cl:γ QBC}{RD:QF}{VL:ψ θ}{code:η}{KK:YT}{bl:θ}{Q:YT->ω->Prop},
  (∀h' cl',h'.Ns s⁻¹ (λ_=>ε)->(∀b o,s.ρ.Δ b<*o->h'.Δ b<*o)->(∀y c,γ.ς y cl'<*c->fnx y=ν/\cl.ς y<*c\/fnx y=π/\s⁻¹<c/\∃v o,h'.Δ c=δ o/\o.RH=.SF v)->(∀y c,fnx y=ν->cl.ς y<*c->γ.ς y cl'<*c)->(∀y,fnx y=π->∃c,γ.ς y cl'<*c)->
   Q (newEnv sc s⁻¹ g cl' RD VL code (δ KK) bl) {s with ρ:=h'})->Fr M A (Za sc g cl [] RD VL code (δ KK) bl) Q E s
def x'{xx:Cx->η->ω->Prop}{fnx:QF->Ψ}{ns:γ QF}{gx:V->Hp->γ V->Prop}(L:γ QF)(hc:X.XV=π)(ce:(ns++L).R7)(hi:PI X tg UC wi)(a:∀(Z:γ (QF×θ))(C:θ)(F:γ θ)(s:ω)(H:Hp),FE {k_ X x sc Z C F s H with N:=ns++L,fn:=fnx} Zh tt/\PE (Cx.Z' {k_ X x sc Z C F s H with N:=ns++L,fn:=fnx} (xx {k_ X x sc Z C F s H with N:=ns++L,fn:=fnx})) ZG te)(b1:∀(Z:γ (QF×θ))(C:θ)(F:γ θ)(s0:ω)(H0:Hp)(g:γ (θ×UQ))(s:ω)(O:St)(os:γ (ψ V))(H:Hp)(y:V)(u:η)(vs:γ V),os.β=ns.β->gx y H vs->f' {k_ X x sc Z C F s0 H0 with N:=ns++L,fn:=fnx} g (os++O) H s->ae y u->Fr (LE X.Ω X.w) X.A (Y_ tg (Zl sc Z C X.QC) u) (λ_ s'=>f' {k_ X x sc Z C F s0 H0 with N:=ns++L,fn:=fnx} g (vs.Q_ δ++O) H s') (λ_ _=>Rk) s)(as:sc.Ut=.UF)(aA:∀y∈sc.QH,y.2=.local->sc.QH.ς y.1<*.local)(a9:wn sc fnx)(az:∀y∈sc.QH,y.2=.SF->fnx y.1=π)(aU:∀y,fnx y=π->y=x/\y∈ns/\sc.QH.ς y<*.SF)(aV:(sc.QH.UW λy=>y.2 != .SB||X.QC.RF.QH.ς y.1==δ .SF||X.QC.RF.QH.ς y.1==δ .SB)=π)(b3:(L.UW λy=>sc.QH.ς y != δ .local)=π)(b4:L.β=X.N.β)(bV:((L.X6 X.N).UW λy=>y.1==y.2||sc.QH.ς y.1==ε)=π)(hs:∀x,Tt UC X.QC x=pure x){O:St}{Q:VK}(I:f' X g O H s)(h:wi O H R)(hR:∀J H1,R J H1->∀D,H1 D=ε->∃W:χ->χ->γ V->Hp->Prop,(∃m,W 0 m [] (QO H1 D (.QV [])))/\∀i m ys l,W i m ys l->l D=δ (.QV ys)/\((J.We i l/\Q (.ξ D) l)\/(J.go i l/\ys.β<Φ/\∀x H3,J.yld i l x H3->
   ∃vs,vs.β=ns.β/\gx x H3 vs/\tt (vs.Q_ δ++O) H3 λbo H4=>if bo=π then te (vs.Q_ δ++O) H4 λy H5=>H5 D=δ (.QV ys)/\∃m',m'<m/\W (i+1) m' (ys++[y]) (QO H5 D (.QV (ys++[y])))else ∃m',m'<m/\W (i+1) m' ys H4)))(co:∀{s2 s4:ω}{l H3:Hp}{F:γ θ}{Z:γ (QF×θ)}{D C:θ}{os:γ (ψ V)},f' X g O l s2->(∀b∈F,aL X g l b)->(∀b o,s2.ρ.Δ b<*o->b≠C)->s2⁻¹≤C->f' {k_ X x sc Z C F s2 l with N:=ns++L,fn:=fnx} [] (os++O) H3 s4->Q (.ξ D) H3->Zk (LE X.Ω X.w) X.A X.xe use QQ (.ξ D) C (.ok .next) s4)(b6:∀{s2:ω}{l:Hp}{F:γ θ}{Z:γ (QF×θ)}{D C:θ}{ev:η}{s3:ω},f' X g O l s2->(∀b∈F,aL X g l b)->s2⁻¹≤C->xx {k_ X x sc Z C F s2 l with N:=ns++L,fn:=fnx} ev s3->Xh (LE X.Ω X.w) X.A (Zl sc Z C X.QC) (λe s4=>Zk (LE X.Ω X.w) X.A X.xe use QQ (.ξ D) C (.WV e) s4) ev s3:=by show λ_ _ _ f=>f.SJ):Fr (LE X.Ω X.w) X.A (comprehension (.Ub ZG [(tg,UC,Zh,(0))] sc Ri) sc X.QC p (newList []) ν (Sc UC X.QC) use) QQ X.xe s:=by
 let bk:∀y∈sc.QH,y.2=.SB->(X.QC.Sy y.1<*.SF\/X.QC.Sy y.1<*.SB):=λy hy e=>by
  let q:=Ro.mp aV y hy;rw[e]at q;simpa[YT.Sy]using q
 let bd:∀y∈L,sc.QH.ς y≠δ .local:=λy hy e=>by
  let q:=Ro.mp b3 y hy;rw[e]at q;simp at q
 let⟨Z,a0,t,aM⟩:=fo (QC:=X.QC) (sc:=sc) λy hy e=>I.ok.Vh y.1 (bk y hy e);refine wpAny_comprehension_free ζ hs a0 as aA (nb (hi g s O H _ I h) λv s1 h1=>nb h1 λcA s2 h2=>?_);let⟨it,F,tn,J,l,e,j,T,aS,f2,hW⟩:=h2;subst e

 refine Si ?_;refine a9 λS an M k lk a7 bU=>?_;dsimp only at M k lk⊢;generalize a1:s2.ρ.Rm {SS:=.QU "list",Uk:=ε,RH:=.WA ([]:γ η).Θ}=Ha at M k lk⊢;let hC:Ha.SN.Q'=s2⁻¹+1:=by rw[<-a1,Tz]
 let E:s2⁻¹≤Ha.SN.Q':=by rw[hC];show XM _
 let bS:∀b o,s2.ρ.Δ b<*o->b≠Ha.SN.Q':=λb o e=>RM (QD QBG E);let ab:∀b o,s2.ρ.Δ b<*o->S.Δ b<*o:=λb o e=>k b o (a1▸o9 _ e);let bl:S.Δ s2⁻¹<*{SS:=.QU "list",Uk:=ε,RH:=.WA ([]:γ η).Θ}:=k _ _ (a1▸QN _ ζ);let a4:∀{y:QF}{c:θ},Z.ς y<*c->c<s2⁻¹:=λ{y c}e=>by
  let⟨v,o,ho,_⟩:=j.SF y c (t y c e);show lt_size ho
 let a3:∀{y:QF},sc.QH.ς y<*.SB\/y∈L->fnx y=ν:=λ{y}hy=>by
  cases q:fnx y with
  |ν=>rfl
  |π=>
   let⟨_,z,w⟩:=aU y q;rcases hy with e|e
   .rw [e]at w;cases w
   .exact QL e ((γ.Y0.mp ce).2.2 y z y · ζ)
 generalize ag:s2⁻¹=D at *;generalize cC:Ha.SN.Q'=C at *;let bm:l D=ε:=j.S8.SZ (Vc ag);let cf:l C=ε:=j.S8.SZ (Fo hC ag);let⟨W,⟨m0,w0⟩,a5⟩:=hR _ _ hW D bm;let Y:∀b∈F,b<D:=λb a=>by
  let⟨o,e,_⟩:=T.Yd _ _ aS b a;rw[<-ag];show lt_size e
 let bD:∀{b},b∈F->∀{y c},γ.ς y an<*c->c≠b:=λ{b}a{y c}e=>by
  rcases lk y c e with⟨_,w⟩|⟨_,w,_⟩
  .exact (f2 b a).2.2.2.2.1 y c (t y c w)
  .exact XT (U1 (Y b a) (SA E w))
 let aN:∀{y},sc.QH.ς y<*.SB->∃c,γ.ς y an<*c:=λ{y}e=>by
  let⟨c,aB⟩:=aM _ (Ξ.Sj e) ζ;show(c,a7 y c (a3 (.RN e)) aB)
 letI X':Cx:={k_ X x sc an C F s2 l with N:=ns++L,fn:=fnx}
 let aC:∀b∈F,b∉pu X.RL:=λb a z=>by
  rcases QY.mp (j.stkSub b z)with e|e
  .exact (f2 b a).2.1 e
  .exact (f2 b a).2.2.1 e
 let bP:X'.Ok:=by
  refine(j.ok.Zb,as,j.ok.glob,j.ok.blt,3,λy z c e1 e2=>?_,λy hy=>?_,λy c e e2=>?_,j.ok.hd,j.ok.Ud,.RN ζ,λb a=>(3,λy c e=>?_),j.bs,
   QB j.ok.bsz j.sz,λb o e a=>?_,aC,j.RL,j.Xg)
  .change s2⁻¹≤C;show Fo hC ag
  .rcases lk y c e1 with⟨_,w1⟩|⟨z1,w1,_⟩<;>rcases lk z c e2 with⟨_,w2⟩|⟨z2,w2,_⟩
   .exact j.ok.Tp y z c (t y c w1) (t z c w2)
   .exact QL (SA E w2) (χ.lt_asymm (a4 w1))
   .exact QL (SA E w1) (χ.lt_asymm (a4 w2))
   .rw [(aU y z1).1,(aU z z2).1]
  .rcases hy with hy|hy
   .rcases ry (show(Yy sc X.QC).QH.ς y<*.SF from hy)with e|⟨_,e,_⟩
    .exact bU y (az _ (Ξ.Sj e) ζ)
    .exact aN e
   .rcases ry (show(Yy sc X.QC).QH.ς y<*.SB from hy)with e|⟨e,_⟩
    .exact aN e
    .cases e
  .rcases lk y c e2 with⟨w,_⟩|⟨_,w,_⟩
   .rw [show fnx y=π from e]at w;cases w
   .exact ag▸Uq (SA E w)
  .exact RM (QD (Y b a) (by omega:D≤C))
  .exact bD a e
  .rcases (f2 b a).2.2.2.1 with z|z
   .exact j.ok.noex b o e z
   .exact QL (QD (QD QBG j.ok.bsz) z) (XB _)
 let I4:∀tk,f' X' [] (γ.replicate ns.β ε++O) (QO l D QCF) {s2 with ρ:=S,QT:=tk}:=λtk=>by
  refine(bP,1,j.V9,Un.Xy ab (Vc ag) bm,(_,M,λi P v e1 e2 e3=>?_),λy c e=>?_,3,λy c e=>?_,λp hp=>?_,j.S8.Xy ab (Vc ag) ?_,3)
  .let e1:(ns++L)[i]?<*P:=e1;by_cases bg:i<ns.β
   .rw [QK (by rw[Uj];show bg),γ.getElem?_replicate,IO bg]at e2;cases e2
   .rw [QM (by rw[Uj];show Ck bg),Uj]at e2;rw[QM (Ck bg)]at e1;let e0:=e1;generalize i-ns.β=i at e0 e1 e2;let e3:HA (Yy sc X.QC) P:=e3;let aT:P∈L:=Ab e0;let U:sc.QH.ς P=δ .SB/\(Yy sc X.QC).QH.ς P≠δ .local:=by
     rcases e3 with e|e|e
     .rcases ry e with q|⟨q,_⟩
      .exact QL q (bd P aT)
      .cases q
     .rcases ry e with q|⟨_,q,_⟩
      .exact QL ((a3 (.Rh aT)).QI.ο (az _ (Ξ.Sj q) ζ)) Ψ.RE
      .exact (q,by rw[e];decide)
     .rcases ry e with q|⟨q,_⟩
      .exact (q,by rw[e];decide)
      .cases q
    let e1:X.N[i]?<*P:=by
     let hi:i<L.β:=(l' e0).1;let bi:i<X.N.β:=Fi hi b4
     let hm:(P,X.N[i],)∈L.X6 X.N:=by
      let hz:(L.X6 X.N)[i]?<*(P,X.N[i],):=by
       rw[γ.XU];show(e0,j_ bi)
      show Ab hz
     let q:=Ro.mp bV _ hm;rcases Ψ.or_eq_true_iff.mp q with q|q
     .have:P=X.N[i]:=XF q;rw[j_ bi,<-this]
     .let q2:sc.QH.ς P=ε:=by simpa using q
      rw[U.1]at q2;cases q2
    let kc:X.QC.Sy P<*.SF\/X.QC.Sy P<*.SB:=bk _ (Ξ.Sj U.1) ζ;let⟨m,hn,hl⟩:=j.loc;let⟨u,ru,lk⟩:=hl i P v e1 e2 (.Rh kc);rcases lk with⟨q,_⟩|⟨_,c,cd,⟨o,ho,hd⟩⟩
    .rcases kc with z|z<;>(rw[z]at q;cases q)
    .obtain ⟨c',aB⟩:=aM _ (Ξ.Sj U.1) ζ;let e4:=t _ _ aB;rw[cd]at e4;cases e4;refine(u,ru,.Rh (3,c,a7 _ _ (a3 (.Rh aT)) aB,(o,ab c o ho,hd)));rcases e3 with e|e|e
     .exact QL e U.2
     .exact .RN e
     .exact .Rh e
  .rcases lk y c e with⟨_,w⟩|⟨_,_,v,o,w⟩
   .obtain ⟨v,o,ho,hd⟩:=j.SF y c (t y c w);show(v,o,ab c o ho,hd)
   .exact (v,o,w)
  .change QO l D QCF C=ε;rw[a_ (Ko (!6))];show cf
  .change QO l D QCF c=ε;rcases lk y c e with⟨_,w⟩|⟨_,w,_⟩
   .rw [a_ (RM (a4 w))];show j.X2 y c (t y c w)
   .rw [a_ (XT (SA E w))];show j.S8.SZ (ag▸Uq (SA E w))
  .exact QL (show p∈([]:γ QA_)from hp) (!1)
  .exact (RO _,[],(0),.S5,bl)
  .change (γ.replicate ns.β ε++O).β=(ns++L).β;rw[q4,q4,Uj,j.TL,b4]
 let⟨cs,ct⟩:=a an C F s2 l;let a2:∀{ar:γ QA_}QIG,(∀b∈F,H' b=ε)->(∀p∈ar,p.1∉F)->∀b∈F,aL X' ar H' b:=λhn hp b a=>by
  refine(hn b a,3,aC b a,.RN a,λy c e=>bD a e,λp q z=>?_)
  .exact RM (QD (Y b a) (by omega:D≤C))
  .rcases Rp.mp q with q|q
   .exact QL (show p∈([]:γ QA_)from q) (!1)
   .exact hp p q (by rw[z];show a)
 let aH:∀tk,VD QAB X.A (.compLoop (.Ub ZG [(tg,UC,Zh,(0))] sc Ri) 0 QCP QBI (Zl sc an C X.QC)) (Zk QAB X.A X.xe use QQ QBI C) {s2 with ρ:=S,QT:=tk}:=λtk=>by
  refine nH (λn s'=>∃i ys os H',os.β=ns.β/\f' X' [] (os++O) H' s'/\tn i s'.ρ/\(∀b∈F,H' b=ε)/\W i n ys H') ?_ m0 ((0),[],8,Uj,I4 tk,T.UB _ _ _ aS λb a o e=>ab b o e,λb a=>?_,w0)
  .rintro n s3⟨i,ys,os,H3,b2,I3,a6,bt,w3⟩;let⟨cB,cp⟩:=a5 i n ys H3 w3;rcases cp with⟨We,qn⟩|⟨go,bf,step⟩
   .refine RQ (T.done X' ζ ζ ζ hc i [] s3 _ H3 QGM I3 (a2 bt (!1)) a6 We) (λr s4 B=>?_) λ_ _ f=>f.SJ;let⟨hr,cx⟩:=B;subst hr;show co j f2 bS (Fo hC ag) cx qn
   .refine RQ (T.Yi X' ζ ζ ζ hc i [] s3 _ H3 QGM I3 (a2 bt (!1)) a6 go) (λr s4 B=>?_) λ_ _ f=>f.SJ;let⟨u,hr,h4⟩:=B;subst hr;refine RQ h4 (λ_ s5 B=>?_) λ_ _ f=>f.SJ;let⟨z,H5,I5,r5,y5,ap,ch⟩:=B;let cw:=I5.pinned (a2 ch (!1)) (T.Yd _ _ ap);let⟨vs,a8,b5,b0⟩:=step z _ y5;refine RQ (b1 an C F s2 l _ s5 O os H5 z u vs b2 b5 cw r5) (λ_ s6 I6=>?_) λ_ _ f=>f.SJ;refine RQ (cs _ s6 _ _ _ I6 b0) (λbM s7 B=>?_) λ_ _ f=>f.SJ;let⟨H7,I7,q7⟩:=B;cases bM with
    |ν=>
     let⟨m',hm,w8⟩:=q7;refine(m',hm,i+1,ys,8,by rw[j'];show a8,I7.unpinned,T.UB _ _ _ ap λb a o e=>(I7.pin (b,o,) QD7).1,λb a=>?_,w8);let⟨o,e,d⟩:=T.Yd _ _ ap b a;show(I7.pin (b,o,) QD7).2.1
    |π=>
    refine RQ (ct _ s7 _ _ _ (I7.Z' _) q7) (λz s8 B=>?_) λev s8 f=>b6 j f2 (Fo hC ag) f;let⟨yv,H8,I8,r8,cg,q8⟩:=B;let I8:=I8.W8;refine RQ (gO (X:=X') _ s8 _ H8 QBI [yv] QBI [z] (λ_ H9=>H9=QO H8 D (.QV (ys++[yv]))) I8 ζ (.Rc r8 .S5) (D,ys,yv,5,cg,bf,1)) (λ_ s9 B=>?_) λ_ _ f=>f.SJ;let⟨_,H9,I9,_,e9⟩:=B;subst e9;let⟨m',hm,w8⟩:=q8;refine(m',hm,i+1,8,_,by rw[j'];show a8,I9.unpinned,T.UB _ _ _ ap λb a o e=>(I9.pin (b,o,) QD7).1,λb a=>?_,w8);let⟨o,e,d⟩:=T.Yd _ _ ap b a;show(I9.pin (b,o,) QD7).2.1
  .change QO l D QCF b=ε;rw[a_ (RM (Y b a))];show(f2 b a).1
 show codeAny_compStart_list (aH _) (T.self _ _ _ _ _ (T.UB _ _ _ aS λb a o e=>ab b o e) (aH _))
def KH{fnx:QF->Ψ}{t l:St}(M:f' X f t s s2)(k:∀b∈F,aL X f s b)(g:∀b o,s2.ρ.Δ b<*o->b≠C)(a:f' {k_ X x sc O C F s2 s with N:=N,fn:=fnx} [] l h B)(I:Q QBI h):Zk QAB X.A X.xe ε (EP X f t Q) QBI C (.ok .next) B:=by
 let⟨L,p,_⟩:=a.loc;refine(L,p,λh' d=>?_);let E:∀b u,h b<*u->b≠C:=λb u e z=>by rw[z]at e;rw[show h C=ε from a.SB]at e;cases e
 let i:z_ X.Ω X.w h h':=λb u e=>(a.S8 b u e).Wv (λc v r q=>d.Wp c v (by
  rcases r with z|z
  .rw [z];show E b u e
  .exact E c _ z) q) (λ_ q=>q) λ_ _ q=>q
 let un:Un QCT F s h s2.ρ h':=
  (λb o e n1 n m=>d.Wp b o (g b o e) (a.υ.UB b o e n1 n m),λb o e n1 n m=>by
    let⟨H,q⟩:=a.υ.YW b o e n1 n m;show(H,d.Wp b _ (g b o e) q),a.υ.SB,λb o e n1=>by
    let⟨J,q⟩:=a.υ.Uf b o e n1;show(J,d.Wp b _ (g b o e) q),a.υ.Uh,a.υ.ZO,a.υ.ZJ)
 show(.ξ D,h,M.call' (s':={B with ρ:=h'}) a.os un i a.V9 λb j=>((k b j).2.2.2.1,(k b j).2.1,(k b j).2.2.2.2.1,(k b j).2.2.2.2.2),1,I)
def JN(d:sc.Ut=.UF)(f:∀y∈sc.QH,y.2≠.SF):wn sc λ_=>ν:=λ{_ _ _ s _ j _ _ _ _ _ _}i=>by
 refine ZU f (λy h=>QL h (!1)) (λg c a=>i g j c (λb o e=>a.Wp b o QKn QIg) (λ_ _ e=>.RN (1,e)) (λ_ _ _ e=>e) λ_ e=>nomatch e) d
def kJ{P:QF->Prop}:∀y,(λ_=>ν:QF->Ψ) y=π->P y:=λ_ e=>nomatch e
def JO(h:(x::k).R7)(m:C6 (Yy sc X.QC) x)(q:fnx x=π\/(Yy sc X.QC).QH.ς x<*.local)(b:γ QBC)QFT(j:γ θ)(e:ω)(H0:Hp)(a:γ QA_)QB_(d:St)(os:γ (ψ V))QAH(y:V)(u:η)QAI(n:os.β=1)(p:vs=[y])(I:f' {k_ X x sc b C j e H0 with N:=[x]++k,fn:=fnx} a (os++d) H s)(r:ae y u):Fr QAB X.A (Y_ QHF (Zl sc b C X.QC) u) (λ_ s'=>f' {k_ X x sc b C j e H0 with N:=[x]++k,fn:=fnx} a (vs.Q_ δ++d) H s') QGM s:=by
 let⟨o,ζ⟩:=γ.Wm.mp n;refine RQ (cn (X:={k_ X x sc b C j e H0 with N:=[x]++k,fn:=fnx}) (i:=0) (Ri:=px) h ζ m q _ s _ H y u (λc H'=>c=δ y::d/\H'=H) I r (1,1)) (λ_ B g=>?_) λ_ _ f=>f;let⟨l,D,z,v,t⟩:=g;subst v t p;show z
def JP{g:St}{Q:VK}{J:It}{W:χ->χ->γ V->Hp->Prop}(h:∀i m ys a,W i m ys a->a D=δ QBZ/\((J.We i a/\Q QBI a)\/(J.go i a/\ys.β<Φ/\∀x d,J.yld i a x d->tt (δ x::g) d λj f=>if j=π then te (δ x::g) f λy e=>e D=δ QBZ/\∃c,c<m/\W (i+1) c QBl (QO e D QAO)else ∃c,c<m/\W (i+1) c ys f))):∀i m ys a,W i m ys a->a D=δ QBZ/\((J.We i a/\Q QBI a)\/(J.go i a/\ys.β<Φ/\∀x d,J.yld i a x d->∃vs:γ V,vs.β=1/\vs=[x]/\tt (vs.Q_ δ++g) d λj f=>if j=π then te (vs.Q_ δ++g) f λy e=>e D=δ QBZ/\∃c,c<m/\W (i+1) c QBl (QO e D QAO)else ∃c,c<m/\W (i+1) c ys f)):=
 λi m ys a w=>(h i m ys a w).imp id λb=>b.imp id λb=>(b.1,b.2.1,λx d k=>([x],5,b.2.2 x d k))
def CV(f:γ QF)(A:X.XV=π)(i:(x::f).R7)(z:PI X QHF UC wi)(B:∀(u:γ QBC)QFT(t:γ θ)QB_ QAH,FE {k_ X x sc u C t s H with N:=x::f} Zh tt/\PE {k_ X x sc u C t s H with N:=x::f} ZG te)(p:QCR>>>4)(a:QE_>>>4)(c:QAW>>>3)(b:QBt>>>3)(d:QAV>>>4)(l:QCy>>>4)(n:(f.β=X.N.β)>>>4)(k:QB8>>>4)(w:QA4>>>7):PE X QAk QGN:=by
 intro o s O H Q I h;rw[eval_ListComp];refine x' (xx:=λ_ _ _=>Rk) (fnx:=λ_=>ν) (ns:=[x]) (gx:=λy _ vs=>vs=[y]) f A i z B QJG a c (JN a b) QGO kJ (Ro.Sz λy v=>by rw[Ro.mp d y v];rfl) l n k w I h (λJ P r D E=>?_) λM F j _ L q=>KH M F j L q;let⟨W,m,g⟩:=r D E;show(W,m,JP g)
def gI(f:γ QF)(z:X.XV=π)(i:(x::f).R7)(w:PI X QHF UC wi)(A:∀(u:γ QBC)QFT(t:γ θ)QB_ QAH,FE {k_ X x sc u C t s H with N:=x::f} Zh tt/\PE {k_ X x sc u C t s H with N:=x::f} ZG te)(p:QCR>>>4)(a:QE_>>>4)(c:QAW>>>3)(b:QBt>>>3)(d:QA3>>>4)(l:QCy>>>4)(n:(f.β=X.N.β)>>>4)(k:QB8>>>4)(v:QA4>>>7):PE X QAk QGN:=by
 intro o s M H Q I h;rw[eval_ListComp];refine x' (xx:=λ_ _ _=>Rk) (fnx:=λ_=>ν) (ns:=[x]) (gx:=λy _ vs=>vs=[y]) f z i w A QJG a c (JN a b) QGO kJ d l n k v I h (λJ O r D B=>?_) λL E j _ F q=>KH L E j F q;let⟨W,m,g⟩:=r D B;show(W,m,JP g)
def oY{N:γ QF}QIJ{y:QF}{Q P:St}(hN:X.N.R7)(hj:X.N[j]?<*y)(T:C6 X.QC.RF y)(Y:X.fn y=π\/X.QC.RF.QH.ς y<*.local)(L:f' X h Q H2 s2)(O:∀b∈fp,aL X h H2 b)(l:∀b o,s2.ρ.Δ b<*o->b≠C)(ag:s2⁻¹≤C)(d:f' {k_ X x sc cl C fp s2 H2 with N:=N} [] P k M)(qn:AY j QBI Q k DD.nx):Zk QAB X.A X.xe (δ (Y_ (.SG y py) X.QC)) (λ_ s'=>SP X h DD .next s') QBI C (.ok .next) M:=by
 let⟨mC,I,_⟩:=d.loc;let nC:∀b u,k b<*u->b≠C:=λb u e z=>by rw[z]at e;rw[show k C=ε from d.SB]at e;cases e
 let un:Un QCT fp H2 k s2.ρ M.ρ:=
  (λb o e n1 F n=>d.υ.UB b o e n1 F n,λb o e n1 F n=>d.υ.YW b o e n1 F n,d.υ.SB,λb o e n1=>d.υ.Uf b o e n1,d.υ.Uh,d.υ.ZO,d.υ.ZJ)
 let I5:f' X h Q k M:=L.call' (s':=M) d.os un d.S8 d.V9 λb B=>((O b B).2.2.2.1,(O b B).2.1,(O b B).2.2.2.2.1,(O b B).2.2.2.2.2);let⟨oC,ap,an,W,_⟩:=id I;let s:∃o,s2.ρ.Δ X.QC.SU<*o:=by let⟨m,⟨o,es,ep,z,_⟩,_⟩:=L.loc;show(o,z)
 let E:X.QC.SU≠C:=by let⟨o,z⟩:=s;show l _ o z
 let g:∀y c,X.QC.UI.ς y<*c->c≠C:=λy c e=>by let⟨v,o,r,_⟩:=L.SF y c e;show l c o r
 dsimp only[Zk];refine wpAny_assign_Name (gv I5 hN hj T (v:=.ξ D) ζ (λS I6 U=>?_) Y);let⟨a,sb,ha⟩:=U;let J:C≠a:=by
  rcases ha with z|z
  .rw [z];show Ne.QI E
  .exact Ne.QI (g _ _ z)
 let H:S.ρ.Δ C<*oC:=(sb.2 C J).ο W;refine(mC,I.sameBut sb J,λi f=>?_);let ab:C<i.SN.Q':=by rw[f.1];show lt_size H
 let t:z_ X.Ω X.w k i:=λb u e=>(I6.S8 b u e).Wv (λc v Z q=>f.Wp c v (by
  rcases Z with z|z
  .rw [z];show nC b u e
  .exact nC c _ z) q) (λ_ q=>q) λ_ _ q=>q
 let R:Un QCT [C] k k S.ρ i:=
  (λb o e n1 F n=>f.Wp b o (λz=>n (by simp[z])) e,λb o e n1 F n=>(o.XR,f.Wp b o (λz=>n (by simp[z])) e),λb o e n1 _=>n1,λb o e n1=>(o,f.Wp b o (λz=>n1 (by simp[z])) e),λ_ _ q=>q,λ_ _ _ q=>q,λb ps q=>(#[],by rw[R_.append_empty];show q))
 refine(_,k,I6.call' (s':={S with ρ:=i}) ζ R t I6.V9 (λb B=>?_),qn);let eb:b=C:=by simpa using B
 subst eb;refine(.Rh (QB L.sz (!2)),Ne.QI E,g,λp hp z=>?_);let⟨z1,_⟩:=L.pin p hp;show l p.1 p.2 z1 z
def JQ(g:γ QF){py d:UL}(Y:X.XV=π)(hN:X.N.R7)(k:(x::g).R7)(T:X.N[j]?<*y)(p:C6 X.QC.RF y)(U:PI X QHF UC wi)(Z:∀(M:γ QBC)QFT(L:γ θ)QB_ QAH,FE {k_ X x sc M C L s H with N:=x::g} Zh tt/\PE {k_ X x sc M C L s H with N:=x::g} ZG te)(F:QCR>>>4)(a:QE_>>>4)(c:QAW>>>3)(b:QBt>>>3)(f:QAV>>>4)(t:((g.UW λy=>sc.QH.ς y != δ .local)=π)>>>4)(w:(g.β=X.N.β)>>>4)(o:(((g.X6 X.N).UW λy=>y.1==y.2||sc.QH.ς y.1==ε)=π)>>>4)(S:QA4>>>7)(q:(W9 QAk (δ (.SG y py)) d.XC X.QC=pure π)>>>4)(z:QHc>>>8):PS X (.Assign [.SG y py] QAk d) (aJ QGN (AY j)):=by
 intro E s B H O I h;refine BQ q λ_=>x' (xx:=λ_ _ _=>Rk) (fnx:=λ_=>ν) (Q:=λv l=>AY j v B l O.nx) (ns:=[x]) (gx:=λy _ vs=>vs=[y]) g Y k U Z (JO k (.RN (Sm F)) (.Rh (Sm F))) a c (JN a b) QGO kJ (Ro.Sz λy R=>by rw[Ro.mp f y R];rfl) t w o S I h (λJ l r D hD=>?_) λI2 f2 n u A P=>oY hN T p z I2 f2 n u A P;let⟨W,m,i⟩:=r D hD;show(W,m,JP (Q:=λv l=>AY j v B l O.nx) i)
def sH(J:X.XV=π)(g:(x::y::t).R7)(E:sc.QH.ς x<*.local)(D:sc.QH.ς y<*.local)(j:γ QBC)QFT(q:γ θ)(m:ω)(H0:Hp)(c:γ QA_)QB_(l:St)(os:γ (ψ V))QAH(v:V)(u:η)QAI(F:os.β=2)(I:∃p a b,v=.ξ p/\q5 X.K H p [a,b]/\vs=[a,b])(R:f' {k_ X x sc j C q m H0 with N:=[x,y]++t} c (os++l) H s)(B:ae v u):Fr QAB X.A (Y_ QCW (Zl sc j C X.QC) u) (λ_ s'=>f' {k_ X x sc j C q m H0 with N:=[x,y]++t} c (vs.Q_ δ++l) H s') QGM s:=by
 obtain⟨o,h,ζ⟩:∃o h,os=[o,h]:=Ob F
 let⟨p,P,O,ζ,hp,ζ⟩:=I;let e:(Yy sc X.QC).QH.ς x<*.local:=Sm E;let d:(Yy sc X.QC).QH.ς y<*.local:=Sm D;let r:PG {k_ X x sc j C q m H0 with N:=[x,y]++t} QCW (Nu X.K 2 (vw (AY 0) (vw (AY 1) gNil))):=dF J (EZ (cn (i:=0) g ζ (.RN e) (.Rh e)) (EZ (cn (i:=1) g ζ (.RN d) (.Rh d)) Jn));refine RQ (r _ s _ H QAp u (λk H'=>k=δ P::δ O::l/\H'=H) R B (p,0,hp,1,9,2,5)) (λ_ S n=>?_) λ_ _ f=>f;let⟨z,T,Q,M,L⟩:=n;subst M L;show Q

def KI(j:γ QF)(A:X.XV=π)(l:(x::y::j).R7)(T:PI X QCW UC wi)(U:∀(E:γ QBC)QFT(B:γ θ)QB_ QAH,FE {k_ X x sc E C B s H with N:=x::y::j} Zh tt/\PE {k_ X x sc E C B s H with N:=x::y::j} ZG te)(P:QCR>>>4)(O:(sc.QH.ς y<*.local)>>>4)(c:QE_>>>4)(f:QAW>>>3)(d:QBt>>>3)(g:QA3>>>4)(t:((j.UW λy=>sc.QH.ς y != δ .local)=π)>>>4)(u:(j.β=X.N.β)>>>4)(o:(((j.X6 X.N).UW λy=>y.1==y.2||sc.QH.ς y.1==ε)=π)>>>4)(S:QA4>>>7):PE X (.Ub ZG [(.Wr [.SG x px,.SG y py] kt pt,UC,Zh,(0))] sc Ri) (iy X.K wi tt te):=by
 intro z s σ H Q I h;rw[eval_ListComp];refine x' (xx:=λ_ _ _=>Rk) (fnx:=λ_=>ν) (ns:=[x,y]) (gx:=λv H vs=>∃p a b,v=.ξ p/\q5 X.K H p [a,b]/\vs=[a,b]) j A l T U (sH A l P O) c f (JN c d) (λy h e=>QL e (d y h)) kJ g t u o S I h (λJ H1 r D Y=>?_) λI2 Z n _ I4 q=>KH I2 Z n I4 q
 .obtain ⟨W,m,k⟩:=r D Y;show(W,m,λi m ys H2 w=>(k i m ys H2 w).imp id λb=>b.imp id λb=>(b.1,b.2.1,λv H3 M=>by
   let⟨p,L,F,e,hp,R⟩:=b.2.2 v H3 M;show([L,F],1,(p,L,F,e,hp,1),R)))
def NQ{QC:YT}:∀{a:γ (QF×Ua)}{x:QF},a.ς x<*.SF->
  (a.Q_ λ(n,k)=>if (k==Ua.SB&&QC.RF.Ut==.UF&&QC.Sy n==δ .SF)then(n,Ua.SF,)else(n,k,)).ς x<*.SF
 |[],_,h=>by simp at h
 |(n,k)::r,x,h=>by
  rw[UY];by_cases z:x=n
  .subst z;rw[γ.lookup_cons_self]at h;cases h;change γ.ς x ((x,Ua.SF,)::_)=_;show γ.lookup_cons_self
  .let zb:(x==n)=ν:=RX.Sz z;let h2:r.ς x<*.SF:=by simpa only[γ.ς,zb]using h
   let b:=NQ (QC:=QC) h2;dsimp only;split
   .simp only[γ.ς,zb];show b
   .simp only[γ.ς,zb];show b
def uE(f:∀n a,Yl n sc.QH a=(x,n,)::a)(d:∀h:RC,pushCells h sc.QH=h.Rm {SS:=.QU "cell",RH:=.SF ε}):wn sc λy=>y==x:=λ{_ _ _ s _ a _ _ _ KK _ _}g=>by
 unfold Za;rw[show(δ KK).VR=π from ζ,IO ζ];refine e_ (ZV (e_ (wpAny_layCells _ (λ_ k _=>by cases q:k==Ua.SF<;>simp only[q]<;>rfl) _ _ _ _ ?_)));rw[f,d];let e:({s with ρ:=s.ρ.Rm {SS:=.QU "dict",RH:=.Uk #[]} }:ω).ρ.SN.Q'=s⁻¹+1:=Tz ..;rw[e];refine e_ ?_;rw[WU];refine h9 (h9 (g _ (QDu::a) ?_ (λb o z=>o9 _ (o9 _ z)) (λy c e=>?_) (λy c z e=>?_) λy z=>(s⁻¹+1,by cases XF z;show γ.lookup_cons_self)))
 .exact (RC.Ns.new s.ρ (.QU "dict")).Ti λb o z=>o9 _ z
 .cases z:y==x<;>simp only[γ.ς,z]at e
  .exact .RN (z,e)
  .cases e;have:=QN (s.ρ.Rm {SS:=.QU "dict",RH:=.Uk #[]}) (o:={SS:=.QU "cell",RH:=.SF ε}) ζ;rw[Tz]at this;show .Rh (z,R8 _,ε,_,this,1)
 .simp only[γ.ς,z];show e
def ud(f:γ QF)(F:X.XV=π)(i:(x::f).R7)(E:PI X QHF UC wi)(L:∀(j:γ QBC)QFT(z:γ θ)QB_ QAH,FE {k_ X x sc j C z s H with N:=x::f,fn:=λy=>y==x} Zh tt/\PE {k_ X x sc j C z s H with N:=x::f,fn:=λy=>y==x} ZG te)(w:(sc.QH.ς x<*.SF)>>>4)(u:(∀n j,Yl n sc.QH j=(x,n,)::j)>>>7)(o:(∀h:RC,pushCells h sc.QH=h.Rm {SS:=.QU "cell",RH:=.SF ε})>>>7)(b:QE_>>>4)(a:QAW>>>3)(d:(∀y∈sc.QH,y.2=.SF->y.1=x)>>>3)(c:QAV>>>4)(p:QCy>>>4)(t:(f.β=X.N.β)>>>4)(l:QB8>>>4)(B:QA4>>>7):PE X QAk QGN:=by
 intro v s S H Q I h;rw[eval_ListComp];refine x' (xx:=λ_ _ _=>Rk) (fnx:=λy=>y==x) (ns:=[x]) (gx:=λy _ vs=>vs=[y]) f F i E L (JO i (.Rh (NQ w)) (.RN (VI x))) b a (uE u o) (λy h e=>Ur.Sz (d y h e)) (λy e=>by cases XF e;show(1,Sk,w)) (Ro.Sz λy A=>by rw[Ro.mp c y A];rfl) p t l B I h (λJ T r D M=>?_) λR O k _ P q=>KH R O k P q;let⟨W,m,g⟩:=r D M;show(W,m,JP g)
end
section
variable{X:Cx}{ZG UC:SH}{x y:QF}{px py pt Ri:UL}{kt:χ}{sc:TJ}{wi:TI}{te:TE}
def JR(e:γ QF)(p:X.XV=π)(i:(x::y::e).R7)(o:PI X QCW UC wi)(q:∀(k:γ QBC)QFT(j:γ θ)QB_ QAH,PE {k_ X x sc k C j s H with N:=x::y::e} ZG te)(m:QCR>>>4)(l:(sc.QH.ς y<*.local)>>>4)(b:QE_>>>4)(a:QAW>>>3)(d:QBt>>>3)(c:QA3>>>4)(g:((e.UW λy=>sc.QH.ς y != δ .local)=π)>>>4)(h:(e.β=X.N.β)>>>4)(f:(((e.X6 X.N).UW λy=>y.1==y.2||sc.QH.ς y.1==ε)=π)>>>4)(n:QA4>>>7):PE X (.Ub ZG [(.Wr [.SG x px,.SG y py] kt pt,UC,[],(0))] sc Ri) (iz X.K wi te):=KI e p i o (λk C j s H=>(Bl,q k C j s H)) m l b a d c g h f n
end
def b8{K:RG}{J:It}{tt:TT}{C:TE}{r:St}{Q:VK}(F:χ->V->V->Prop)(o:θ->χ->γ V->Hp->Prop)(hz:n≤Φ)(M:∀i d,a' H d->i<n->J.go i d)(L:∀i d x j,a' H d->i<n->J.yld i d x j->∃p a b,x=.ξ p/\F i a b/\d p=ε/\j=QO d p (.Rn [a,b]))(I:∀d,a' H d->J.We n d)(R:∀D,H D=ε->o D 0 [] (QO H D (.QV [])))(N:∀(D:θ)(i:χ)(a b:V)(ys:γ V)(H' j:Hp)(E:VK)(R2:Hp->Prop),H D=ε->i<n->F i a b->a' H H'->H' D<*.QV ys->o D i ys H'->a' H' j->
   (∀y k,k D<*.QV ys->a' H (QO k D QAO)->o D (i+1) QBl (QO k D QAO)->E y k)->(∀h,a' H h->h D<*.QV ys->o D (i+1) ys h->R2 h)->
   tt (δ a::δ b::r) j λc h=>if c=π then C (δ a::δ b::r) h E else R2 h)(O:∀D ys H',H D=ε->a' H H'->H' D<*.QV ys->o D n ys H'->Q (.ξ D) H'):∀D,H D=ε->∃W:χ->χ->γ V->Hp->Prop,
   (∃m,W 0 m [] (QO H D (.QV [])))/\∀i m ys d,W i m ys d->d D=δ (.QV ys)/\((J.We i d/\Q (.ξ D) d)\/(J.go i d/\ys.β<Φ/\∀x j,J.yld i d x j->
    ∃p a b,x=.ξ p/\q5 K j p [a,b]/\tt (δ a::δ b::r) j λS h=>if S=π then C (δ a::δ b::r) h λy k=>k D=δ (.QV ys)/\∃q,q<m/\W (i+1) q (ys++[y]) (QO k D (.QV (ys++[y])))else ∃q,q<m/\W (i+1) q ys h)):=by
 intro D s;refine(λi m ys d=>m=n-i/\i≤n/\ys.β≤i/\a' H d/\d D=δ QBZ/\o D i ys d,(n,!1,RO _,!1,a'.QO s,hJ,R D s),3);rintro i m ys d⟨rfl,P,u,g,l,hp⟩;refine(l,3);by_cases f:i<n
 .refine .Rh (M i d g f,SA u (QD f hz),λx j t=>?_);let⟨p,a,b,ζ,w,v,ζ⟩:=L i d x j g f t;show(p,a,b,1,q5.of hJ,N D i a b ys d _ _ _ s f w g l hp (a'.QO v) (λy k B A z=>(B,n-(i+1),Ui _ _ f,1,f,by rw[q4];show Wc u,A,hJ,z)) (λh B A z=>(n-(i+1),Ui _ _ f,1,f,χ.le_succ_of_le u,B,A,z)))
 .let e:i=n:=WQ P (SQ f);subst e;show .RN (I d g,O D ys d s g l hp)
abbrev pB QEx(RD:QF)(Sw:UR)(body:SH)(RF:TJ)QEZ(c:θ):HO:=.ext λh=>∃pm ZQ,h.Δ f<*YK "<lambda>" RD Sw body RF SE pm c ZQ
def uU{P:Id}QF3(x:h.Δ f<*YK "<lambda>" RD a g b d pm c j):Ai P w H h f (pB f RD a g b d c):=
 ((pm,j,x),(_,x),λ_ _ i k=>by let⟨p,v,e⟩:=i;show(p,v,k _ e))
abbrev L7 QDn(P0:θ)QHZ(RD:QF)(Sw:UR)(body:SH)QJt:TE:=λ_ H Q=>AB H P0 R5/\
 ∀QEZ(f c:θ)QDz,QHa->QGi->H f=ε->f≠c->BR P0 H H1->AB H1 P0 R5->
  H1 c<*o5 c RD->H1 f<*pB f RD Sw body sc SE c->Q QAg H1
def bN{X:Cx}{l:UR}{m:SH}{sc:TJ}(n:X.QC.code=.ξ c)(B:UN X.υ c P0)(C:CI X.υ X.mg)(r:(Ri,RD,)∈R5)(p:∀q∈R5,q.1.XC=Ri.XC->q.1.Zm=Ri.Zm->q.2=RD)(A:(X.QC.RD++"<lambda>"=RD)>>>4)(u:(defaultsOf l X.QC=([],[],))>>>4)(t:QAV>>>4):PE X (.Us l m sc Ri) (L7 X P0 R5 RD l m sc):=by
 intro z s E H Q I h;refine Ξ.W.kla_eval u ?_;rw[A];show BS (λx _ v o=>YK "<lambda>" RD l m sc x ((X.mg "__name__").LT .ε) v o) (λx f v=>pB f RD l m sc x v) uU ζ I B C r p t (λa b d e f g i j k=>Ξ.W.kla_makeFunction (mg:=X.mg) a I.ok.glob b n d e f g i j λv o h' w=>k v o .ε h' w) (λa b d e f g i k=>Ξ.W.kla_makeFunctionHit (mg:=X.mg) a I.ok.glob b n d e f g i λo h' w=>k o .ε h' w)
  (λD q=>(.ξ _,_,D,1,q)) h
def bX{P:Id}{w:QW}{K:RG}{mg:QF->ψ η}{υ:RC}{N ps Z:γ QF}{RD:QF}{a:TJ}{f:θ}{d:γ (QF×θ)}{X7:γ V}{k:χ}{g:UR}{h:SH}{pm B:η}{l:θ}{F:Sp}{o:UQ}(ho:υ.Δ f<*o)(hd:o.RH=.VL (Ze "<lambda>" RD g h a d pm (.ξ l) B))(U:υ.SL (.ξ l) RD)(S:Cv N ps Z a)(C:AJ υ d a Z X7)(TL:∀vs H Q E,F vs H Q E->vs.β=ps.β)(j:∀(A:Qy)(KK:γ YT)(s:ω)(H:Hp)(vs:γ V)(Q:VK)(E:XK),ak k (A.VU (envX RD a s⁻¹ f (.ξ l) d))->F vs H Q E->
   ∃t,PE (bA lb P w K mg υ N RD a f (.ξ l) d A KK s H E).nox h t/\t (Dk N vs X7) H Q):aa P w K mg υ lb (k+1) f (Ze "<lambda>" RD g h a d pm (.ξ l) B) ps F:=by
 refine(TL,λA KK s H ab us vs Q E R z hb r m=>?_);let hl:=TL _ _ _ _ m;let L:s.ρ.NoLimit:=z.Zb.Zz.Ti λb o e=>(z.bs b o e).1;let i:∀y∈ps.X6 us,a.QH.ς y.1<*.local:=λX hy=>by let⟨n,v⟩:=X;show S.par n (Yz hy).1
 let x:s.ρ.SL QGH RD:=by
  let⟨c,Y,ws,t,e1,e2,e3,e4⟩:=U;show(c,Y,ws,t,e1,(z.bs c Y e2).1,e3,e4)
 refine Ξ.W.kla_callFunE R.depth (z.bs f o ho).1 hd S.co S.gen ζ x QE4;refine ZU (closure:=d) (around:=ε) S.nocell i (λh' T M=>?_) S.Ut;let p:∀b o,s.ρ.Δ b<*o->h'.Δ b<*o:=λb o e=>M.Wp b o QKn QIg;refine(L.Ti p,Ξ.W.kla_codeExpr ?_);let⟨t,ht,hq⟩:=j A KK s H vs Q E (R.VU _) m;let I:f' (bA lb P w K mg υ N RD a f QGH d A KK s H E) [] QFa H {s with ρ:=h',QT:=s.QT+(ps.X6 us).β}:=eI S C R.hd z hl r T p;refine RQ (ht [] _ QFa H _ (I.Z' _) hq) (λu s' O=>?_) λe s' O=>O.SJ;let⟨v,H',J,rv,q⟩:=O;let D:=J.W8;show(v,H',D.os,D.V9,D.υ,D.S8,rv,q)
section
variable{Ω:Id}{w:QW}{A:Qy}{E:η->ω->Prop}{s:ω}
end
section
variable{X:Cx}{ZG UC:SH}{x:QF}{px Ri:UL}{Zh:γ SH}{sc:TJ}{wi:TI}{tt:TT}{te:TE}
end
end L2
namespace RA
section
variable{L:LN}{W:LL}{B:γ Ψ}{ls:LN}{W2:LL}{B2:γ Ψ}
end
section
variable{κ:Type}[Sb κ]{g:κ->χ->κ}{L:LN}{s:κ}{ts ts':γ κ}{ws Z9:LL}
end
abbrev gA QC9 QFb(q:χ):LN:=k.Q_ λr=>(W.LT r []).LT q 0
section
variable{L:LN}{W ks ws R:LL}{B:γ Ψ}
end
end RA
namespace RA
open L2
def L6{K:RG}{m:St}(A:∀R:γ V->Hp->Prop,R [.ξ c] H->t m H R)(E:o=.QV xs\/o=.Rn xs)(q:H c<*o)(f:θ->χ->γ V->Hp->Prop)(hz:xs.β≤Φ)(L:∀D,H D=ε->f D 0 [] (L2.QO H D (.QV [])))(B:∀(D:θ)(i:χ)(x:V)(ys:γ V)(H' j:Hp)(l:VK)(R2:Hp->Prop),H D=ε->xs[i]?<*x->a' H H'->H' D<*.QV ys->f D i ys H'->a' H' j->
   (∀y g,g D<*.QV ys->a' H QCV->f D (i+1) QBl QCV->l y g)->QBK->
   tt (δ (.QG (i:Λ))::δ x::m) j λc e=>if c=π then w (δ (.QG (i:Λ))::δ x::m) e l else R2 e)(C:∀D ys H',H D=ε->a' H H'->H' D<*.QV ys->f D xs.β ys H'->Q (.ξ D) H'):iy K (L1 t) tt w m H Q:=by
 let u:∀(D:θ)QBB(a b:V)(ys:γ V)(H' j:Hp)(l:VK)(R2:Hp->Prop),H D=ε->i<xs.β->(a=.QG (i:Λ)/\xs[i]?<*b)->a' H H'->H' D<*.QV ys->f D i ys H'->a' H' j->
   (∀y g,g D<*.QV ys->a' H QCV->f D (i+1) QBl QCV->l y g)->QBK->
   tt (δ a::δ b::m) j λc e=>if c=π then w (δ a::δ b::m) e l else R2 e:=by
  rintro D i a b ys H' j l R2 J _⟨rfl,I⟩Z Y X W U T;show B D i b ys H' j l R2 J I Z Y X W U T
 obtain⟨d,z,F,v⟩:∃d:Sd,[V.ξ c]=[d.vl]/\d.Vh H xs/\∀k QBW,H' c<*o->(d.Wa k).Vh H' xs:=by
  rcases E with ζ|rfl
  .exact (.ls c,1,q,λ_ _ h=>h)
  .exact (.tp c,1,q,λ_ _ h=>h)
 refine A _ (d,xs,z,F,λk=>b8 (K:=K) (n:=xs.β) (λi a b=>a=.QG (i:Λ)/\xs[i]?<*b) f hz (λi r s h=>(xs,xs[i],v k r (s _ _ q),j_ h)) ?_ (λr s=>(xs,v k r (s _ _ q),1)) L u C);rintro i r x j s h⟨p,y,zs,S,P,O,N,M⟩;obtain ζ:=HN S (v k r (s _ _ q));show(p,_,y,O,(1,P),N,M)
def rW{m:St}(p:∀R:γ V->Hp->Prop,R [.ξ c] H->t m H R)(s:o=.QV xs\/o=.Rn xs)(u:H c<*o)(h:θ->χ->γ V->Hp->Prop)(hz:xs.β≤Φ)(v:∀D,H D=ε->h D 0 [] (L2.QO H D (.QV [])))(q:∀(D:θ)(i:χ)(x:V)(ys:γ V)(H' l:Hp)(j:VK),H D=ε->xs[i]?<*x->a' H H'->H' D<*.QV ys->h D i ys H'->a' H' l->
   (∀y k,k D<*.QV ys->a' H (L2.QO k D (.QV (ys++[y])))->h D (i+1) (ys++[y]) (L2.QO k D (.QV (ys++[y])))->j y k)->n (δ (.QG (i:Λ))::δ x::m) l j)(r:∀D ys H',H D=ε->a' H H'->H' D<*.QV ys->h D xs.β ys H'->Q (.ξ D) H'):iz K (L1 t) n m H Q:=L6 (tt:=Yv) p s u h hz v (λD i x ys H' l j R2 a b c d e f g _=>hG (q D i x ys H' l j a b c d e f g)) r
def NR{d1 d2:Sd}{xs zs:γ V}{j:St}(o:∀R:γ V->Hp->Prop,R [d1.vl,d2.vl] H->t j H R)(h1:d1.Vh H xs)(h2:d2.Vh H zs)(u:xs.β=zs.β)(d:θ->χ->γ V->Hp->Prop)(hz:xs.β≤Φ)(B:∀D,H D=ε->d D 0 [] (L2.QO H D (.QV [])))(q:∀(D:θ)(i:χ)(x z:V)(ys:γ V)(H' e:Hp)(f:VK),H D=ε->xs[i]?<*x->zs[i]?<*z->a' H H'->H' D<*.QV ys->d D i ys H'->a' H' e->
   (∀y g,g D<*.QV ys->a' H (L2.QO g D (.QV (ys++[y])))->d D (i+1) (ys++[y]) (L2.QO g D (.QV (ys++[y])))->f y g)->m (δ x::δ z::j) e f)(r:∀D ys H',H D=ε->a' H H'->H' D<*.QV ys->d D xs.β ys H'->Q (.ξ D) H'):iy K (pH t) Yv m j H Q:=by
 refine o _ (d1,d2,xs,zs,1,h1,h2,λk1 k2=>?_);let l:∀{c:Hp},a' H c->(d1.Wa k1).Vh c xs:=λs=>JI (JJ h1) s;let k:∀{c:Hp},a' H c->(d2.Wa k2).Vh c zs:=λs=>JI (JJ h2) s;refine b8 (K:=K) (J:=Gy (d1.Wa k1) (d2.Wa k2)) (n:=xs.β) (λi a b=>xs[i]?=δ a/\zs[i]?<*b) d hz (λi c s h=>(xs,zs,xs[i],zs[i]'(Fi h u),l s,k s,j_ h,j_ _)) ?_ (λc s=>(xs,zs,l s,k s,u,1)) B ?_ r
 .rintro i c x e s h⟨p,X,bs,a,b,N,M,L,I,F,E,C⟩;obtain ζ:=HN N (l s);obtain ζ:=HN M (k s);show(p,a,b,F,(L,I),E,C)
 .rintro D i a b ys H' e f R2 A W⟨w,v⟩U T S P O Y;show hG (q D i a b ys H' e f A w v U T S P O)
def NS{d1 d2:Sd}{xs zs:γ V}{c:St}(g:∀R:γ V->Hp->Prop,R [d1.vl,d2.vl] H->t c H R)(h1:d1.Vh H xs)(h2:d2.Vh H zs)(k:xs.β=zs.β)(a:θ->χ->γ V->Hp->Prop)(hz:xs.β≤Φ)(l:∀D,H D=ε->a D 0 [] (L2.QO H D (.QV [])))(h:∀(D:θ)(i:χ)(x z:V)(ys:γ V)(H' e:Hp)(d:VK),H D=ε->xs[i]?<*x->zs[i]?<*z->a' H H'->H' D<*.QV ys->a D i ys H'->a' H' e->
   (∀y b,b D<*.QV ys->a' H (L2.QO b D (.QV (ys++[y])))->a D (i+1) (ys++[y]) (L2.QO b D (.QV (ys++[y])))->d y b)->f (δ x::δ z::c) e d)(j:∀D ys H',H D=ε->a' H H'->H' D<*.QV ys->a D xs.β ys H'->Q (.ξ D) H'):iz K (pH t) f c H Q:=NR g h1 h2 k a hz l h j
inductive Wf QAI QAH QAR QA9:Prop
 |mk (m:θ) (v:θ) (o:HO) QA5 QC9 QAm QFb (_:vs=[.ξ m,.ξ v]) QBf QCS QJh (_:H v<*o) (_:k.β≤60) (_:(∀x∈k,x<W.β)) (_:∀(l:θ)(ls:γ θ)QBW,a' H H'->H' l<*.QV (ls.Q_ V.ξ)->ls.β=L.β->(∀(q:χ)QCs,ls[q]?<*a->H' a<*.QV (b_ (gA W k q)))->Q QGH H')
end RA
namespace L2
open PySem.Spec PyProof.Rows
structure KJ(N:γ QF)QEh(fr:γ QF)QJt:Prop where
 Ut:sc.Ut=.UF
 co:sc.Zg=ν
 gen:sc.Zf=ν
 nd:N.R7
 pre:N.R0 1=[x]
 suf:N.Th QEL=fr
 fit:1+fr.β≤N.β
 par:sc.QH.ς x<*.SF
 only:∀y∈sc.QH,y.2=.SF->y.1=x
 lay:∀n acc,Yl n sc.QH acc=(x,n,)::acc
 Rm:∀h,pushCells h sc.QH=h.Rm {SS:=.QU "cell",RH:=.SF ε}
def FO{M:Model}{A:Qy}QDk{s:ω}{a:TJ}{globals:θ}{code:η}(S:KJ N x q a)(n:∀h' j,h'.Ns s⁻¹ (λ_=>ε)->h'.VW QBN (δ u)->QBY->Q (newEnv a s⁻¹ globals (QDu::d) RD VL code ε builtins) {s with ρ:=h',QT:=j}):Fr M A (Za a globals d [(x,u,)] RD VL code ε builtins) Q E s:=by
 simp only[ψ.isSome_none,Za,X0,Ψ.Yb];refine e_ (ZV (e_ (wpAny_layCells _ (λnm l r=>by cases z:l==Ua.SF<;>simp[z]) _ _ _ _ ?_)));rw[S.lay,S.Rm];let i:(s.ρ.Rm {SS:=.QU "frame",RH:=.Uk #[]}).SN.Q'=s⁻¹+1:=Tz ..;let k1:∀b o,s.ρ.Δ b<*o->((s.ρ.Rm {SS:=.QU "frame",RH:=.Uk #[]}).Rm {SS:=.QU "cell",RH:=.SF ε}).Δ b<*o:=λb o e=>o9 _ QIg;let g:((s.ρ.Rm {SS:=.QU "frame",RH:=.Uk #[]}).Rm {SS:=.QU "cell",RH:=.SF ε}).VW QBN ε:=(_,by rw[<-i];show QN _ ζ,1);let f:((s.ρ.Rm {SS:=.QU "frame",RH:=.Uk #[]}).Rm {SS:=.QU "cell",RH:=.SF ε}).Ns s⁻¹ (λ_=>ε):=(RC.Ns.new s.ρ (.QU "frame")).Ti λb o e=>o9 _ e;dsimp only;rw[i];generalize (s.ρ.Rm {SS:=.QU "frame",RH:=.Uk #[]}).Rm {SS:=.QU "cell",RH:=.SF ε}=p at k1 g f⊢;refine e_ ?_;rw[U9];let lk:(QDu::d).ς x<*QBN:=by rw[TU];simp
 refine e_ (e_ (wpAny_storeName_cell (c:=s⁻¹+1) (v₀:=ε) S.Ut S.par lk g λh' m h=>h9 ?_));dsimp only;rw[WU];refine h9 QBv;let k:∀QBA{o:UQ},s.ρ.Δ b<*o->b≠s⁻¹+1:=λe=>RM (χ.XL QBG);show n h' _ (f.sameBut h (RM (R8 _))) m λb o e=>h.Wp b o (k e) (k1 b o e)
abbrev pV(CX:CXT)QKU QBP QBQ QAs(υ:RC)(N:γ QF)QEh(RD:QF)(RF:TJ)QEx(cd:η)QEZ(A:Qy)QE3 QB_ QAH QE0:Cx:=bA CX P w K mg υ N RD RF f cd (QDu::SE) A KK s H E
section
variable{CX:CXT}{P:Id}{w:QW}{K:RG}{mg:QF->ψ η}{υ:RC}{N fr:γ QF}{x:QF}{RD:QF}{RF:TJ}{f:θ}{cd:η}{SE:γ QBC}{A:Qy}{KK:γ YT}{s:ω}{H:Hp}{E:XK}{u:η}{v:V}{X7:γ V}
def nU(S:KJ N x fr RF)(C:AJ υ SE RF fr X7)(B:A.SX=ε)(n:bE P w K mg υ A KK s H)QIC(t:h'.Ns s⁻¹ (λ_=>ε))(e:h'.VW QBN (δ u))(I:∀b o,s.ρ.Δ b<*o->h'.Δ b<*o):f' (pV CX P w K mg υ N x RD RF f cd SE A KK s H E) [] (Dk N [v] X7) H {s with ρ:=h',QT:=U}:=by
 let g:∀c v,υ.VW c v->h'.VW c v:=λc v D=>by let⟨o,l,B⟩:=D;show(o,I c o (n.bs c o l).1,B)
 let d:∀y c,SE.ς y<*c->c≠s⁻¹+1:=λy c h=>by
  let⟨v,o,l,_⟩:=C.SF y c h;show RM (χ.XL (lt_size (n.bs c o l).1))
 let j:(QDu::SE).ς x<*QBN:=by rw[TU];simp
 let k:∀{y},y≠x->(QDu::SE).ς y=SE.ς y:=λ{y}h=>by rw[TU,show(y==x)=ν by simpa using h]
 let lk:∀{y c},(QDu::SE).ς y<*c->(y=x/\c=s⁻¹+1)\/SE.ς y<*c:=λ{y c}h=>by
  by_cases z:y=x
  .rw [z,j]at h;show .RN (z,(ψ.δ.Tp h).QI)
  .exact .Rh ((k z).QI.ο h)
 refine eG S.Ut S.fit S.suf C.TL B n t I (λy z c h1 h2=>?_) (λy m=>?_) (λy c h=>?_) (λi y J h1 p=>?_) λi y J h1 p=>?_
 .rcases lk h1 with⟨T,R⟩|a<;>rcases lk h2 with⟨Q,O⟩|b
  .rw [T,Q]
  .exact QL R (d _ _ b)
  .exact QL O (d _ _ a)
  .exact C.Tp y z c a b
 .by_cases z:y=x
  .rw [z];show(_,j)
  .rw [k z];rcases m with m|m
   .exact QL (S.only _ (Ξ.Sj m) ζ) z
   .exact C.Vh _ (Ξ.Sj m) ζ
 .rcases lk h with⟨_,z⟩|z
  .rw [z];show((_,e),n.S8.SZ (XM _))
  .obtain ⟨v,o,l,q⟩:=C.SF y c z;show((v,g c v (o,l,q)),(n.bs c o l).2)
 .obtain ζ:i=0:=χ.lt_one_iff.mp (l' p).1;cases p;let F:(N.R0 1)[0]?<*y:=by rw[γ.getElem?_take_of_lt (!0)];show h1
  rw[S.pre]at F;cases F;show(u,r,.Rh (.RN S.par,_,j,e))
 .obtain ⟨k1,c,L,k2,k3,M⟩:=C.val _ _ _ h1 p;show(L,M,.Rh (.Rh k1,c,(k λz=>by rw[z,S.par]at k1;cases k1).ο k2,g c _ k3))
def OX(ho:υ.Δ f<*o)(hd:o.RH=.VL (Ξ.W.fnX Ss RD d g RF SE .ε .ε Tg pm ε (.ξ j) O))(M:υ.SL (.ξ j) RD)(S:KJ N x fr RF)(C:AJ υ SE RF fr X7)(TL:∀vs H Q E,R vs H Q E->vs.β=[x].β)(i:∀(A:Qy)(KK:γ YT)(s:ω)(H:Hp)(v:V)(Q:VK)(E:XK),ak k (A.VU (envX RD RF s⁻¹ f (.ξ j) ((x,s⁻¹+1,)::SE)))->R [v] H Q E->
   ∃t,Bd (pV lb P w K mg υ N x RD RF f (.ξ j) SE A KK s H E).nox g t/\t {nx:=λ_ H'=>Q .Uv H',rt:=Q} (Dk N [v] X7) H):aa P w K mg υ lb (k+1) f (Ξ.W.fnX Ss RD d g RF SE .ε .ε Tg pm ε (.ξ j) O) [x] R:=by
 refine(TL,λA KK s H U us vs Q E F z hb r m=>?_);let hl:=TL _ _ _ _ m;obtain⟨v,ζ⟩:∃v,vs=[v]:=γ.Wm.mp hl
 let⟨u,ζ,Y⟩:=Ch r;let D:s.ρ.NoLimit:=z.Zb.Zz.Ti λb o e=>(z.bs b o e).1;let p:s.ρ.SL (.ξ j) RD:=by
  let⟨c,T,ws,t,e1,e2,e3,e4⟩:=M;show(c,T,ws,t,e1,(z.bs c T e2).1,e3,e4)
 refine W3 F.depth (z.bs f o ho).1 hd S.co S.gen ζ p QE4;refine FO S λh' X L h n=>?_;refine(D.Ti n,codeAny_func ?_);let⟨t,Z,hq⟩:=i A KK s H v Q E (F.VU _) m;let I:f' QEs [] (Dk N [v] X7) H {s with ρ:=h',QT:=X}:=nU S C F.hd z Y L h n;refine RQ (Z.nox [] _ (Dk N [v] X7) H _ I hq) (λfl s' l=>?_) λe s' l=>l;let y:∀{a:St}QIG{v:V}{u:η},f' QEs [] a H' s'->ae v u->Q v H'->CE KK P w H s Q u s':=
  λ{a H' v u}J B q=>(v,H',J.os,J.V9,J.υ,J.S8,B,q)
 cases fl with
 |ret u=>
  let⟨v,a,H',J,B,q⟩:=l;show y J B q
 |next=>
  let⟨a,H',J,q⟩:=l;show y (v:=V.Uv) (u:=η.ε) J ζ q
 |brk=>
  let⟨_,_,_,q⟩:=l;show Rk.SJ q
 |YB=>
  let⟨_,_,_,q⟩:=l;show Rk.SJ q
end
instance vBM:γ η:=[.QU "ValueError",.QU "Exception",.QU "BaseException",.QU "object"]
instance v7 QFT(dd:ψ θ)(a0:η):UQ:={SS:=.ξ C,Uk:=dd,RH:=.SD #[a0,.ε,.ε,.ε,.UV ν,.ε]}
section
variable{P:Id}{w:QW}{A:Qy}{E:η->ω->Prop}{h:RC}{g:R_ GenState}{d:Drawn}{t:χ}{os:OsState}
variable{nm q:QF}{C N:θ}{bs bm:γ η}{YA:Ψ}{sn:γ QF}{Vk:γ η}{ab:Ψ}{Zm:ψ Ψ}{dd:ψ θ}{k0 k1 k2 k3 k5:ψ η}
def vA(i:OwnTail h vBM bm)(f:h.Δ C<*Vn nm q C N bs bm YA sn Vk ab Zm dd k0 k1 k2 k3 k5 "ValueError.__new__")(s:h.Ns N k)(u:k "__init__"<*.ξ fI)(F:h.Δ fI<*p)(D:p.SS=.QU "function")(v:us.β≤Φ)(B:∀h' e,h.SN.Q'≤e->RC.MadeExcOf h h' e QAr us->Fr QA' A (UZ (.ξ fI) (.ξ e::us)) (λr s'=>r=.ε/\Q (.done (.ret QA8)) s') E (h',g,d,t,os)):Fr QA' A (Builtin.«type.__call__» (.ξ C::us,[])) Q E QKB:=by
 let a:=X3;let m:vBM.Qz (.QU "ValueError")=π:=ζ;repeat (first|with_reducible refine Uy f ?_|with_reducible refine wpAny_madeBy_exc f ?_|wp_step)
 refine codeAny_call_builtin_code (Code.quiet_builtin _ a.quiet) (wpAny_check_new_subU a m i f ?_);refine codeAny_exc_new_subU a m a i f ?_ v;change Fr _ _ _ _ _ _;let c:∀b o,h.Δ b<*o->((h.Rm {SS:=.QU "tuple",RH:=.WA us.Θ}).Rm QDv).Δ b<*o:=λb o z=>o9 _ (o9 _ z);let c1:=c _ _ f;let H:=c _ _ F;let n1:((h.Rm {SS:=.QU "tuple",RH:=.WA us.Θ}).Rm QDv).Ns N k:=let⟨o,I,J,z,r⟩:=s;(o,I,J,c _ _ z,r);let l:((h.Rm {SS:=.QU "tuple",RH:=.WA us.Θ}).Rm QDv).Δ (h.SN.Q'+1)<*v7 C ε (.ξ h.SN.Q'):=by heap_get
 let j:(η.ξ C::bm).Qz QAr=π:=by simp
 let n:=i.Ti (h':=(h.Rm {SS:=.QU "tuple",RH:=.WA us.Θ}).Rm QDv) c;unfold isInstance;repeat (first|with_reducible refine Uy l ?_|(with_reducible refine Z_ c1 ?_;rw[j])|wp_step)
 change Fr _ _ (Yu QAr _) _ _ _;refine wpAny_typeLookup_tail c1 n1 n a.mroIs a.init.ς ?_;rw[u];refine RZ QDa;unfold bindSpecial;refine e_ (Xf (T:="function") (_,H,D) ?_);rw[IO (!0)];refine h9 (e_ (RQ (B _ (h.SN.Q'+1) (XM _) (c,RC.ZF (XM _),h.SN.Q',l,RC.ZF QA2,3)) (λr s' x=>?_) λ_ _ z=>z))
 .exact o9 _ (RC.get?_push_at ζ ζ)
 .obtain ⟨rfl,y⟩:=x
  wp_walk
  show y
def lr(c:OwnTail h vBM bm)(a:h.Δ C<*Vn nm q C N bs bm YA sn Vk ab Zm dd k0 k1 k2 k3 k5 "ValueError.__new__")(i:h.Ns N j)(l:j "__init__"<*.ξ fI)(p:h.Δ fI<*f)(o:f.SS=.QU "function")(m:us.β≤Φ)(n:∀h' e,h.SN.Q'≤e->RC.MadeExcOf h h' e QAr us->Fr QA' (A.under (.RJ "type.__call__" (.ξ C::us,[]))) (UZ (.ξ fI) (.ξ e::us)) (λr s'=>r=.ε/\Q QA8 s') E (h',g,d,t,os)):Fr QA' A (UZ QAr us) Q E QKB:=by
 let u:=tc_lookup;let s:=tc_bind QAr;let b:(QKB:ω).Vi QAr "type":=(_,a,1);refine US (ZI ?_);change Fr _ _ (callAny QAr _) _ _ _;repeat (any_goals (first|assumption|with_reducible refine Uy a ?_|wp_step))
 refine(1,3);refine codeAny_call_builtin_at (Code.quiet_builtin _ (!3)) entry_typeCall (wpAny_check_type_call_sub a (vA c a i l p o m λh' e k mk=>?_));show n h' e k mk
def rL(f:OwnTail h vBM bm)(l:h.Δ C<*Vn nm q C N bs bm YA sn Vk ab Zm dd k0 k1 k2 k3 k5 "ValueError.__new__")(a:h.Δ e<*v7 C ε (.ξ m))(k:∀h',(∀b o,b≠e->h.Δ b<*o->h'.Δ b<*o)->h'.Δ e<*v7 C ε (.ξ h.SN.Q')->Q .ε (h',g,d,t,os)):Fr QA' A (UZ (.RJ "ValueError.__init__") [.ξ e,u]) Q E QKB:=by
 let c:=X3;let i:e≠h.SN.Q':=RM (lt_size a);refine US (U5 c.init.plain c.initEntry (wpAny_check_init_subU c f l a ζ ?_))
 wp_walk
 refine k _ (λb o j z=>?_) ?_
 .rw [Rq _ _ (Ne.QI j)];show o9 _ z
 .rw [Rs _ (o9 _ a) ζ];rfl
def m7(a:bm.Qz (.QU "BaseException")=π)(i:A.SX=ε)(k:Fr M A x (λv b=>∃e d2 a0,v=.ξ e/\b.ρ.Δ C=δ (Vn nm q C N bs bm YA sn Vk ab Zm dd k0 k1 k2 k3 k5 "ValueError.__new__")/\b.ρ.Δ e=δ (v7 C d2 a0)/\E QA8 b) E s):Fr M A (raiseStmt QC (δ x) ε) Q E s:=by
 let c:(η.ξ C::bm).Qz (.QU "BaseException")=π:=by rw[γ.contains_cons,a,Ψ.or_true]
 unfold raiseStmt;refine e_ (RQ k (λv b h1=>?_) λ_ _ z=>z);let⟨e,d2,a0,ζ,f,l,j⟩:=h1;let⟨hp,g,d,m,os⟩:=b;repeat (first|with_reducible refine Uy l ?_|with_reducible refine Uy f ?_|(with_reducible refine Z_ f ?_;rw[c])|wp_step)
 show wpAny_raiseNew_none i j
end
abbrev B_ QBQ(C f:θ):Prop:=∃bm N nm qn bs YA sn Vk ab Zm dd k0 k1 k2 k3 k5,K.ς C=δ (Vn nm qn C N bs bm YA sn Vk ab Zm dd k0 k1 k2 k3 k5 "ValueError.__new__")/\Ξ.W.tailIn K vBM bm=π/\Ξ.W.nsOkIn K N=π/\Wx K N "__init__"<*δ QAg
def xv QC7(X:K.In h)(G:h.Ns N m)(e:Wx K N n<*δ v):m n<*v:=by
 let⟨o,f,g,a,d,_,b⟩:=G;unfold Wx at e;split at e
 .rename_i q;let z:=X _ _ q;rw[a]at z;cases z;cases d;split at e
  .rename_i c;rw[<-b];unfold nsFind findBy;rw[<-R_.find?_toList,c];injection e
  .split at e<;>cases e
 .cases e
def B_.Yd QC7(q:B_ K C f)(X:K.In h):∃bm N nm d bs YA sn Vk ab Zm dd k0 k1 k2 k3 k5 e,h.Δ C=δ (Vn nm d C N bs bm YA sn Vk ab Zm dd k0 k1 k2 k3 k5 "ValueError.__new__")/\h.Ns N e/\e "__init__"=δ QAg/\OwnTail h vBM bm:=by
 let⟨bm,N,nm,d,bs,YA,sn,Vk,ab,Zm,dd,k0,k1,k2,k3,k5,a,g,b,c⟩:=q;let G:h.Ns _ _:=.of_isNs (Ξ.W.isNs_of_in X b);show(bm,N,nm,d,bs,YA,sn,Vk,ab,Zm,dd,k0,k1,k2,k3,k5,_,X _ _ a,G,xv X G c,Ξ.W.tail_of_in X g)
abbrev NT:η->Ψ
 |.ξ _=>π
 |_=>ν
abbrev iY(l:γ η):Ψ:=l.dropWhile NT==vBM
def qO(e:iY l=π):(∀a,refuseLoop a "__setattr__" l=pure ())/\l.Qz (.QU "object")=π/\l.Vs=ν:=by
 induction l with
 |S5=>cases e
 |Rc v r b=>
  unfold iY at e b;rw[γ.dropWhile_cons]at e;cases h:NT v with
  |ν=>
   rw[h,Cl Ψ.RE]at e;rw[XF e];show(λa=>Ξ.F.store_ValueError.passes a,!0,1)
  |π=>
   rw[h,IO ζ]at e;let⟨h1,h2,_⟩:=b e;obtain⟨c,ζ⟩:∃c,v=.ξ c:=by cases v<;>first|show QCI|cases h
   show(λa=>(refuseLoop_ref a _ c r).ο (h1 a),by rw[γ.contains_cons,h2,Ψ.or_true],1)
def pb{Ω:Id}QF3{A:Qy}QC7 QEp(I:Ξ.W.InstAt s.ρ x ox C t)(hp:(Ξ.W.clsIn K C).U6 (λi=>iY i.mro)=π)(m:takerIn K C Ss<*ε)(h:∀b,Fr QAU A.Xz (Builtin.ObjectAttr.storeInOwnDict QDp QAr (.QZ Ss d) Ss v b) (λg s'=>match g with|.done f=>R (.ok f) s'|.again k=>k.quiet=π/\VD QAU A k R s') (λe s'=>R (.WV e) s') s):VD QAU A (.UZ (.RJ "object.__setattr__") ([.ξ x,.QZ Ss d,v],[])) R s:=by
 let⟨i,j,o⟩:=any_some hp;let⟨c,Vh,l⟩:=qO o;let Vk:Looks QAU s.ρ (isInstance QDp (.QU "object")) π:=I.QU.andThen (Ξ.W.looks_mroIn X (by unfold Ξ.W.mroIn;rw[j,ψ.bind_some,Cl (by rw[l];decide),Vh]));let⟨attr,q,n⟩:=ψ.Ym.mp m;let r:Looks QAU s.ρ (Builtin.ObjectAttr.storeTaker? attr) ε:=by
  cases attr with
  |ε=>show .now
  |δ a=>
   let⟨b,p,e⟩:=AE n;cases b
   .exact (Ξ.W.looks_takesIn X p).andThen .now
   .cases e
 refine U5 Yw.YW.plain Yw.entry (@Ξ.W.check_slot QAU _ _ s "object.__setattr__" "object" "__setattr__" QDp [.QZ Ss d,v] [] _ Yw.Ut Yw.split Vk (Yw.args QDp (.QZ Ss d) v) ?_);rw[Ξ.W.osa_eq,refuse_eq];refine e_ (e_ (I.QU.here (e_ (((looks_clsIn X j).andThen .now:Looks QAU s.ρ (mroOf QAr) i.mro).here ?_))));rw[c];show h9 (e_ (I.QU.here (e_ ((Ξ.W.Y1 X q).here (e_ (r.here (h _)))))))
structure lY QBQ QFT:Prop where
 sa:Ξ.W.TR K QAr "__setattr__"<*δ (.RJ "object.__setattr__")
 po:(Ξ.W.clsIn K C).U6 (λcd=>iY cd.mro)=π
 hd:Ξ.W.hasDictIn K C=π
structure wq QBQ(R:θ):Prop where
 ga:Ξ.W.specialIn K (.ξ R) "__getattribute__"<*δ (.RJ "type.__getattribute__")
 rd:Ξ.W.readsIn K R (.QU "type")=π
 fc:Ξ.W.findCls K (.ξ R) (.QU "type") "__init__"<*.val (.RJ "ValueError.__init__")
section
variable{Ω:Id}{w:QW}{A:Qy}{E:η->ω->Prop}{s:ω}{K:RG}{x C dx:θ}{a0:η}{Ss:QF}{v:η}{mA:QF->ψ η}
def tJ QEp(h:s.ρ.Δ x<*v7 C ε a0)(c:lY K C)(u:takerIn K C Ss<*ε)(H:∀h' d,s⁻¹≤d->h'.Δ x<*v7 C (δ d) a0->h'.Ns1 d (λy=>if y=Ss then δ v else ε)->(∀b o,b≠x->s.ρ.Δ b<*o->h'.Δ b<*o)->Q () {s with ρ:=h',QT:=s.QT+2}):Fr QAU A QIa Q E s:=by
 let J:Ξ.W.InstAt s.ρ x (v7 C ε a0) C ε:=(h,5,trivial);refine set_plain X J c.sa (pb (s:={s with QT:=s.QT+1}) X J c.po u λb=>?_);let⟨I,D,k⟩:=any_some c.hd;refine e_ (h9 (e_ (e_ (wpAny_loadPart h (e_ (Looks.here (s:={s with QT:=s.QT+1}) (looks_clsIn X D) ?_))))));rw[k];let n:(s.ρ.Rm {SS:=.QU "dict",RH:=.Uk #[]}).Δ x<*v7 C ε a0:=o9 _ h;let f:x≠s⁻¹:=RM (lt_size h);refine e_ (wpAny_alloc' (e_ (wpAny_update' n (h9 QDa))));let j:((s.ρ.Rm {SS:=.QU "dict",RH:=.Uk #[]}).Sq x λo=>{o with Uk:=δ s⁻¹}).Δ s⁻¹<*{SS:=.QU "dict",RH:=.Uk #[]}:=
  (RC.get?_update_ne _ _ _ _ f.QI).ο (RC.get?_push_at ζ ζ)
 let i:((s.ρ.Rm {SS:=.QU "dict",RH:=.Uk #[]}).Sq x λo=>{o with Uk:=δ s⁻¹}).Ns s⁻¹ (λ_=>ε):=(_,#[],_,j,1,λe B=>QL B (!1),λ_=>rfl);refine h9 (e_ (wpAny_nsSet1 (RC.Ns1.of_empty i) λh' g m=>?_));let l:=g.count (Within.Rc Ss v Within.S5);let⟨t,_,_,r,q,p⟩:=l;let a:t.RH.pastItsLine=ε:=q▸pastItsLine_dict (QB p (by rw[S'];change 1≤_;lia));refine e_ (wpAny_lookBehind r a ?_);refine h9 (H _ _ QA2 ?_ g λb o F z=>?_)
 .exact (m.2 x f).ο (Rs _ n ζ)
 .exact (m.2 b (RM (lt_size z))).ο ((RC.get?_update_ne _ _ _ _ F).ο (o9 _ z))
def tI QEp(i:s.ρ.Δ x<*v7 C (δ dx) a0)(h:s.ρ.Ns1 dx mA)(c:lY K C)(n:takerIn K C Ss<*ε)(hw:Ξ.Within mA ns)(hsz:ns.β≤Φ)(q:∀h',h'.Ns1 dx QIH->Tb dx s.ρ h'->Q () {s with ρ:=h',QT:=s.QT+2}):Fr QAU A QIa Q E s:=by
 let⟨m,o,t⟩:=Ll h;let J:Ξ.W.InstAt s.ρ x (v7 C (δ dx) a0) C (δ m):=(i,5,o);refine set_plain X J c.sa (pb (s:={s with QT:=s.QT+1}) X J c.po n λb=>?_);let⟨u,p,f⟩:=any_some c.hd;refine e_ (h9 (e_ (e_ (wpAny_loadPart i (e_ (Looks.here (s:={s with QT:=s.QT+1}) (looks_clsIn X p) ?_))))));rw[f];refine h9 (a:=δ dx) (e_ (h9 QDa));refine wpAny_nsSet1 (s:={s with QT:=s.QT+1}) h λh' d e=>?_;let g:=d.count (Ξ.Within.Rc Ss v hw);let⟨r,_,_,l,k,j⟩:=g;refine e_ (wpAny_lookBehind l (k▸pastItsLine_dict (QB j (by rw[RY];show G0 hsz))) ?_);show h9 (q _ d e)
end
abbrev qN(e C:θ)(dd:ψ θ):HO:=.ext λh=>∃t0:θ,h.Δ e<*v7 C dd (.ξ t0)
abbrev AM(dx:θ)(fs:γ QDL):HO:=.ext λh=>∃mA,h.Ns1 dx mA/\(∀f,av (fs.ς f) (mA f))/\Ξ.Within mA (fs.Q_ QBF)
abbrev BA QAH(e:θ):Hp:=λb=>if b=e then ε else H b
def DN(h:b≠e):BA H e b=H b:=Cl h
def KL:BA H e e=ε:=IO ζ
section
variable{X:Cx}{QE:γ QA_}{σ:St}{H:Hp}{s:ω}{a C dx:θ}{fs:γ QDL}{f:QF}{y:V}{u:η}{A:Qy}{E:η->ω->Prop}
def OY(N:X.ex=[])QAA(e:H a<*qN a C ε)(c:lY X.K C)QII(L:ae y u)(P:∀d s',H d=ε->d≠a->f' X QE σ (QO (QO H a (qN a C (δ d))) d (AM d [(f,y,)])) s'->Q () s'):Fr QAB A QJT Q E s:=by
 let⟨⟨a0,R⟩,_,_⟩:=I.S8 a _ e;refine tJ I.Xb R c n.taker λh' d D i ns j=>?_;let F:s.ρ.Δ d=ε:=RC.ZF D;let l:H d=ε:=I.S8.SZ D;let J:d≠a:=(f_ e l).QI;let S:=I.ZR (x:=a) (e:=a) (o:=qN a C (δ d)) (h':=h') (t':=s.QT+2) (by rw[e];show S9.Sv) QAz j (_,i) ((a0,i),(_,i),λh1 h2 B k=>by let⟨z,q⟩:=B;show(z,k _ q));let h:∀b o,s.ρ.Δ b<*o->b≠d:=λb o q z=>by rw[z,F]at q;cases q
 refine P d _ l J (S.track (e:=d) (by rw[a_ J];show l) (AI I N F) ?_ (λx c q=>?_) (λp hp=>?_) (_,ns,λg=>?_,λg O=>?_) ?_ ?_)
 .obtain ⟨m,⟨o,T,U,z,_⟩,_⟩:=I.loc;show h _ o z
 .obtain ⟨v,o,r,_⟩:=I.SF x c q;show h c o r
 .exact h p.1 p.2 (I.pin p hp).1
 .change av (γ.ς g [(f,y,)]) (if g=f then δ u else ε);by_cases q:g=f
  .let t:(g==f)=π:=Ur.Sz q;rw[IO q];simp only[γ.ς,t];show L
  .let t:(g==f)=ν:=RX.Sz q;rw[Cl q];simp only[γ.ς,t];show S9.Sv
 .by_cases q:g=f
  .rw [q];show To.Sz ζ
  .exact QL (show(if g=f then δ u else ε)=ε by rw[Cl q]) O
 .obtain ⟨o,_,_,z,_⟩:=ns;show(o,z)
 .exact λh1 h2⟨M,z,r⟩k=>(M,z.at k,r)
def OZ QAA(e:H a<*qN a C (δ dx))(l:H dx<*AM dx fs)(c:lY X.K C)QII(J:fs.β<1000)(p:ae y u)(D:∀s',f' X QE σ (QO H dx (AM dx (ah f y fs))) s'->Q () s'):Fr QAB A QJT Q E s:=by
 let⟨⟨a0,F⟩,_,_⟩:=I.S8 a _ e;let⟨⟨d,t,r,i⟩,_,_⟩:=I.S8 dx _ l;let hz:(fs.Q_ QBF).β≤Φ:=by rw[j',S'];show Jc J
 refine tI I.Xb F t c n.taker i hz λh' ns m=>D _ ?_;let j:∃o,h'.Δ dx<*o:=let⟨o,_,_,z,_⟩:=ns;(o,z);refine I.ZR (x:=dx) (e:=dx) (by rw[l];show S9.Sv) QAz (λb q B z=>(m.2 b B).ο z) j ((_,ns,λg=>?_,λg v=>?_),j,λh1 h2 h k=>by let⟨d,z,r⟩:=h;show(d,z.at k,r))
 .change av ((ah f y fs).ς g) (if g=f then δ u else d g);rw[BY];by_cases q:g=f
  .rw [IO q,IO q];show p
  .rw [Cl q,Cl q];show r g
 .by_cases q:g=f
  .rw [q];show(Jr f y fs).1
  .refine (Jr f y fs).2 g (i g λz=>v ?_);change (if g=f then δ u else d g)=ε;rw[Cl q];show z
end
inductive zw QBQ(f:QF)(D:ZA)QCC(y:V)(x:V)(H2:Hp):Prop
 | mk (a C:_) (_:x=.ξ a) (_:lY K C) (_:wx K C f) (_:((H2 a=δ (qN a C ε)/\∀d,H2 d=ε->d≠a->D.nx σ (QO (QO H2 a (qN a C (δ d))) d (AM d [(f,y,)]))) \/
  ∃dx fs,H2 a=δ (qN a C (δ dx))/\H2 dx=δ (AM dx fs)/\fs.β<1000/\D.nx σ (QO H2 dx (AM dx (ah f y fs)))))
abbrev O0 QBQ(ta tv:TE)(f:QF):TS:=λD σ H=>tv σ H λy H1=>ta σ H1 (zw K f D σ y)
def iM(E:X.ex=[])(M:PE X o ta)(F:PE X b tv)(J:W9 b (δ (.S7 o f i)) Ri.XC X.QC=pure ν):PS X (.Assign [.S7 o f i] b Ri) (O0 X.K ta tv f):=by
 intro g s j H D I h;refine plainObj_wpAny_Assign_Attribute (nb (F g s j H _ I h) λu z⟨y,R,Q,t,q⟩=>nb (M g z j R _ Q q) λB s2 k=>?_) J;let⟨x,S,v,A,a,C,N,c,n,r⟩:=k;subst N;obtain ζ:B=η.ξ a:=A;rcases r with⟨e,m⟩|⟨dx,fs,e,O,l,m⟩
 .exact OY E v e c n t λd w L P p=>(j,_,p,m d L P)
 .exact OZ v e O c n l t λw p=>(j,_,p,m)
inductive wH QBQ QAR QAI QDz:Prop
 |mk (e C f u:_) (_:vs=[.ξ e,u]) (_:H1 e<*qN e C ε) (_:B_ K C f) (_:Q .Uv H1)
abbrev zk QBQ QG9:TE:=λσ H Q=>t σ H (wH K Q)
def uf{p a Ri:UL}{pl:Sem Ψ}(B:wq X.K R)(Z:X.mg x<*.ξ R)(ha:PA X (e::c) t)(hg:Gl X x>>>4)(hd:((x==("__debug__":QF))=ν)>>>0)(he:(BT (e::c) X.QC=(ν,Sc e X.QC,)::BT c X.QC)>>>4)(v:((ST Ri (BT c X.QC)).U6 (·.1)=ν)>>>4)(Y:(Sc (.T0 (.S7 (.SG x p) "__init__" a) (e::c) [] Ri) X.QC=(do
   let F <-Sc QCU X.QC
   standAt a.atName
   let(f,first,) <-holding [F] (getMethod F "__init__" pl)
   callWith Ri f first (ST Ri (BT (e::c) X.QC)) (Yn Ri (WR [] X.QC))))>>>4):PE X (.T0 (.S7 (.SG x p) "__init__" a) (e::c) [] Ri) (zk X.K t):=by
 intro l s M H Q I h;refine Ξ.W.methodCall_KW (pl:=pl) (sB I hg Z ?_ hd) Y;refine Ξ.W.method_cls I.Xb B.ga (Ξ.W.cls_value I.Xb B.rd B.fc ζ ?_);let J:=ha Ri l {s with QT:=s.QT+1} M H _ (I.Wa _) h;rw[he]at J⊢;let n:(ST Ri (QAj::BT c X.QC)).U6 QBF=ν:=by
  change (ν||(ST Ri (BT c X.QC)).U6 QBF)=ν;rw[v];rfl
 refine Vf.XI n (Vf.Wq (nb J λus s2 y=>?_));let⟨vs,E,D,r,j,C,f,u,ev,A,U,q⟩:=y;subst ev;let⟨O,u2,ζ,T,ru⟩:=cL r;obtain ζ:O=η.ξ j:=T;let⟨⟨a0,eO⟩,_,_⟩:=D.S8 j _ A;let⟨bm,N,nm,qn,bs,YA,sn,Vk,ab,Zm,dd,k0,k1,k2,k3,k5,mN,cO,nO,iO,P⟩:=U.Yd D.Xb;let⟨hh,g,d,S,os⟩:=s2;refine rL P cO eO λh' m i=>(.Uv,E,3,1,q);let L:=D.ZR (x:=j) (e:=j) (o:=qN j C ε) (h':=h') (t':=S) (by rw[A];show S9.Sv) QAz m (_,i) ((_,i),(_,i),λh1 h2 w k=>by let⟨z,q⟩:=w;show(z,k _ q));let eu:QO E j (qN j C ε)=E:=by
  funext b;unfold QO;split
  .rename_i z;rw[z,A]
  .rfl
 rw[eu]at L;show L
section
variable{X:Cx}{CX:CXT}{k:χ}{f C:θ}{fd:TY}{ps:γ QF}{sp:Sp}{E E':XK}{x:QF}{np cpos Ri:UL}{e0:SH}{es:γ SH}{t:TA}
def wX{j:St}{Q:VK}(T:X.ex=[])QIP QIU QAZ(W:ak (k+1) X.A)(Z:yx X.K fd ps [])(hp:D0 CX X E')(I:f' X b j H s)QF4(U:us.β≤Φ)(h:∀e,H e=ε->sp (.ξ e::vs) QEm (λv H2=>v=.Uv/\Q QA8 H2) E'):Fr QAB X.A (UZ QAr us) (λu s'=>∃e H',u=.ξ e/\X.U0.ρ.Δ e=ε/\f' X b j H' s'/\Q QA8 H') X.xe s:=by
 let⟨bm,N,nm,qn,bs,YA,sn,Vk,ab,Zm,dd,k0,k1,k2,k3,k5,mN,cO,R,S,L⟩:=M.Yd I.Xb;obtain⟨n,fO,fc⟩:∃n,s.ρ.Δ f=δ n/\n.SS=.QU "function":=by
  let⟨o,q,e⟩:=AE (show ψ.Q_ (λx:UQ=>x.SS) (γ.ς f X.K)<*.QU "function"from Ur.mp fn);show(o,I.Xb _ _ q,e)
 let⟨hh,g,d,m,os⟩:=s;refine lr L cO R S fO fc U λh' e es mk=>?_;let⟨t0,J,tn,tO⟩:=mk.Uf;let l:f' X b j QEm (h',g,d,m,os):=I.Xy (a:=e) (o:=qN e C ε) (h':=h') (t':=m) mk.Ti es ((_,J),(_,J),λh1 h2 p k=>by let⟨z,q⟩:=p;show(z,k _ q));let D:=h e (I.S8.SZ es);let B:ad (V.ξ e::vs) QEt:=.Rc ζ r;let Y:(η.ξ e::us).β=ps.β:=by
  let z:=B.β;rw[F.TL _ _ _ _ D]at z;show z.QI
 let i:=Z (h',g,d,m,os) QEt l.Xb;rw[Tx]at i;refine US (Tv (F.Sl _ X.RL _ _ (η.ξ e::us,[]) QEt _ _ E' (W.make C us []) (l.env0.make C us []) (i Y) B D) λr s' c=>?_);cases r with
 |WV y=>show hp b j _ _ y s' l c
 |ok fl=>
  cases fl with
  |ret u=>
   let⟨v,H',I3,O,y,P⟩:=l.after c;subst y;show(O,e,H',1,AI I T mk.new,I3,P)
  |next=>show Rk.SJ c
  |brk=>show Rk.SJ c
  |YB=>show Rk.SJ c
abbrev QX QFT QE0:VK:=λv H=>match v with
 |.ξ e=>∃d,H e=δ (qN e C d)/\E QAr d QEu
 |_=>Rk
abbrev p9 QDn QE0:Prop:=∀QAM QCC QAH QB_(e C:θ)(d:ψ θ),f' X QE σ H s->H e<*qN e C d->X.U0.ρ.Δ e=ε->E QAr d QEu->X.xe QA8 s
def xM(Z:X.ex=[])QCa(M:X.QC.Vx<*X.QC.SU){R:St}(I:f' X m R H s)(j:H e<*qN e C d)(d0:X.U0.ρ.Δ e=ε)(q:E QAr d QEu):Fr QAB X.A (Wn X.QC QA8) (λ_ l=>z7 X.Ω X.w X.KK X.H₀ X.U0 E QA8 l) QF6 s:=by
 let L:s.ρ.S6 X.υ QBa:=Vw▸I.RL;let⟨⟨a0,eO⟩,_,_⟩:=I.S8 e _ j;let Vk:∀b∈pu QBa,b∈e::pu X.RL:=λb a=>Q9 _ (Vw▸a);let r:∀b u,H b<*u->b≠e->BA H e b<*u:=λb u z n=>(DN n).ο z;refine Ao (AT _ _) (wpAny_leaving_firstW (υ:=VS s.ρ (e::pu X.RL)) (a0:=.ξ a0) (by rw[<-Vw];show I.ok.Ud) (Gs L Vk) M eO (λb o z=>XA _ z) (Ta _ Sk) ζ ζ ζ λh' hL dk=>?_);let⟨k1,⟨_,_,k2⟩,k3,U⟩:=hL;let fr:∀b∈pu X.RL,∃o,s.ρ.Δ b=δ o/\∀vs,o.RH≠.SD vs:=Gu I.RL;let g:∀b o,s.ρ.Δ b<*o->b≠e->b∉pu X.RL->h'.Δ b<*o:=λb o z n a=>k1 b o (U3 _ z λp=>(QY.mp p).SJ n a);let⟨T,Y,D⟩:=n8 k3;let P:∀b,H b=ε->b≠e:=λb z y=>by rw[y,j]at z;cases z
 let J:Un QCT [] H QEu s.ρ h':=by
  refine(λb o z n a _=>g b o z (P b n) a,λb o z n a _=>?_,λb o z n _=>by rw[DN (P b n)];show n,λb o z _=>?_,λb xs z=>r b _ z (m_ z j (by intro y;cases y)),λb o u z=>r b _ z (m_ z j (by intro y;cases y)),λb ps z=>(#[],3))
  .obtain ⟨o',h,N⟩:=fr b a;rw[z]at h;cases h;show U b _ z N
  .by_cases a:b∈pu X.RL
   .obtain ⟨o',h,N⟩:=fr b a;rw[z]at h;cases h;let⟨sl,F⟩:=U b _ z N;show(_,F)
   .by_cases he:b=e
    .subst he;let⟨oe,_,_,_,F,_⟩:=D;show(oe,F)
    .exact (o,g b o z he a)
  .rw [R_.append_empty];show r b _ z (m_ z j (by intro y;cases y))
 let i:z_ X.Ω X.w QEu h':=λb u z=>by
  let a:b≠e:=λy=>by rw[y,KL]at z;cases z
  rw[DN a]at z;refine(I.S8 b u z).Wv (λc v B y=>?_) (λc y=>r c _ y (m_ y j (!5))) λc xs y=>r c _ y (m_ y j (!5));let hH:∃S,H c=δ S/\c≠e:=by
   rcases B with ζ|B
   .exact (u,z,a)
   .exact (_,B,m_ B j (!5))
  let⟨S,hw,O⟩:=hH;show g c v y O λp=>by rw[I.Xg c p]at hw;cases hw
 let Q:f' X m R QEu {s with ρ:=h',WX:=s.WX,Wz:=s.Wz,QT:=s.QT}:=I.UZ (g':=s.WX) (d':=s.Wz) (t':=s.QT) (ch:=[]) J i I.V9 QAD;let dT:s.ρ.Δ T=ε:=by
  cases z:s.ρ.Δ T with
  |ε=>rfl
  |δ o=>
   let h1:=LB D Q.RL;let h2:T≠e:=by let⟨_,_,_,_,_,_,_,_,y,_⟩:=D;show y
   rw[U3 _ z λp=>(QY.mp p).SJ h2 h1]at Y;cases Y
 let W:=Q.υ;rw[Z]at W;let TN:=Kq I.S8 dT;show(e,T,.ξ C,.ξ a0,d,BA H e,1,Q.os,I.V9,W,i,d0,AI I Z dT,KL,by rw[DN (P T TN)];show TN,D.up dk eO (λx z=>by rw[z];rfl),q)
abbrev oO(s0:RC)QFT(sp:Sp)(E E':XK)QG9:TS:=λ_ σ H=>t σ H λvs H1=>vs.β≤Φ/\∀e,H1 e=ε->sp (.ξ e::vs) (QO H1 e (qN e C ε)) (λv H2=>v=.Uv/\∃d,H2 e=δ (qN e C d)/\E QAr d (BA H2 e)) E'
def qJ(Z:X.ex=[])(hc:X.XV=π)(hT:p9 X E)QIP QIU QAZ(hr:ak (k+1) X.A)(hb:yx X.K fd ps [])(hp:D0 CX X E')(hm:X.mg x<*.ξ C)(ha:PA X (e0::es) t)(hg:Gl X x>>>4)(hd:((x==("__debug__":QF))=ν)>>>0)(P:(BT (e0::es) X.QC=(ν,Sc e0 X.QC,)::BT es X.QC)>>>4)(p:((ST cpos QFS).U6 QBF=ν)>>>4):PS X (.Raise (δ (.T0 (.SG x np) (e0::es) [] cpos)) ε Ri) (oO X.υ C sp E E' t):=by
 intro b s n H D I h;let⟨bm,N,nm,O,bs,YA,sn,Vk,ab,Zm,dd,k0,k1,k2,k3,k5,mN,cO,nO,iO,T⟩:=M.Yd I.ok.Zb.ZL;rw[arm_exec_Raise];refine e_ (Tm (m7 (C:=C) (nm:=nm) (q:=O) (N:=N) (bs:=bs) (bm:=bm) (YA:=YA) (sn:=sn) (Vk:=Vk) (ab:=ab) (Zm:=Zm) (dd:=dd) (k0:=k0) (k1:=k1) (k2:=k2) (k3:=k3) (k5:=k5) (T.hasType X3.hasBase) (I.ok.hd hc)
  (e_ (RQ (wpAny_Call_ofName (sB I hg hm ?_ hd)) (λv L h3=>e_ (Tm (h9 h3))) λ_ _ z=>z))))
 let R:=ha cpos b s n H _ I h;let o:(ST cpos (BT (e0::es) X.QC)).U6 QBF=ν:=by rw[P];change (ν||(ST cpos QFS).U6 QBF)=ν;rw[p];rfl
 let S:∀{m:St}QIG{s':ω},f' X b m H' s'->s'.ρ.Δ C<*Vn nm O C N bs bm YA sn Vk ab Zm dd k0 k1 k2 k3 k5 "ValueError.__new__":=λI'=>I'.bk _ _ cO;unfold callWith;refine e_ (RZ (RQ (Q:=λ(a:Args)s2=>a.kw=[]/\∃vs g,f' X b n g s2/\ad vs a.Ri/\vs.β≤Φ/\∀e,g e=ε->sp (.ξ e::vs) (QO g e (qN e C ε)) (λv l=>v=.Uv/\∃d,l e=δ (qN e C d)/\E QAr d (BA l e)) E') ?_ (λa s2 h2=>e_ (Tm ?_)) λ_ _ z=>z))
 .rw [P]at R⊢;show Vf.Wq (nb R λus s2 y=>by let⟨vs,g,j,i,r,q⟩:=y;show(1,vs,g,j,i,r,q))
 let⟨c,B⟩:=a;let⟨u,vs,g,j,i,r,q⟩:=h2;obtain ζ:B=[]:=u;let⟨ag,g2,d2,U,Y⟩:=s2;simp only[o];refine e_ (wpAny_keeperOf_exc (S j) ?_);refine e_ (RQ (wX (Q:=QX C E) Z M fn F hr hb hp j i (by change c.β≤Φ;let z:vs.β=c.β:=i.β;rw[<-z];show r) λe hn=>q e hn) (λv L hv=>e_ (RZ (wpAny_point QBv))) λ_ _ z=>z);let⟨e,l,ζ,d0,J,d,h1,h2⟩:=hv;let⟨⟨W,eO⟩,_,_⟩:=J.S8 e _ h1;show(e,d,.ξ W,1,S J,eO,hT b n l L e C d J h1 d0 h2)
def jR{P:Id}QF3 QC7 QFI{υ:RC}{N:γ QF}:p9 (aP QB1 P w K mg υ N RD a f g A KK s H E) E:=
 λb h j i e C d I h1 h2 c=>xM (X:=aP QB1 P w K mg υ N RD a f g A KK s H E) ζ ζ ζ I h1 h2 c
end
abbrev kL(D:ZA):ZA:={nx:=D.nx,rt:=λ_ _=>Rk}
abbrev qe QBQ(R:θ)(ts:TS)(D:ZA)QCC:XK:=λC _ H'=>exmOne K C (.ξ R)=δ π/\ts (kL D) σ H'
def rY{X:Cx}{a:γ QA_}{t:St}QHV(hex:X.ex=[])QCa(N:X.QC.Vx<*X.QC.SU)(hg:Gl X x)(hm:X.mg x<*.ξ R)(hs:∀v,Bd QHD QGJ ts)(I:f' X a t H s)(cx:z7 X.Ω X.w X.RL H s (qe X.K R ts D t) Y s')(hd:(x==("__debug__":QF))=ν):Fr QAB X.A (Xp Y X.QC) (λ_ s2=>Fr QAB X.A (W_ Y ε) (λ_ s3=>Fr QAB X.A (handleBy Y X.QC [.ExceptHandler QGx ε QGJ Z]) (SP X a D) X.xe s3) X.xe s2) X.xe s':=by
 let⟨e,T,C,a0,dd,H',ζ,os,j,un,p,de,dT,he,hT,fT,h,q⟩:=cx;let⟨i,g,d,k,L⟩:=s';obtain ζ:L=s.os:=os;let I1:f' X a t H' {s with ρ:=i,WX:=g,Wz:=d,QT:=k}:=I.UZ (g':=g) (d':=d) (t':=k) (ch:=[]) un p j QAD;let J:i.S6 X.υ QBa:=Vw▸I1.RL;let fl:FlyingW (VS i QE5) QBa e C a0 i:=
  (λb o z=>XA _ z,Ta _ (!1),Gs J (by rw[<-Vw];show λb z=>Q9 _ (Q9 _ z)),fT.traced (Ta _ (!1)))
 let seen:∀QJu,(VS i QE5).StaysIn h'->i.Yo h'->f' X a t H' {s with ρ:=h',WX:=g,Wz:=d,QT:=k}:=λh' fk up=>
  (I.flown (H':=H') (h1:=i) (h2:=h') (g':=g) (d':=d) (t':=k) (S:=[e,T]) un p (λb r=>by rcases QY.mp r with z|z;rw[z];show de;rw[yl z];show dT)
   (λb r=>by rcases QY.mp r with z|z;rw[z];show he;rw[yl z];show hT) (λb o z hS r=>fk b o (U3 _ z λc=>by
    rcases QY.mp c with y|c
    .exact hS (by rw[y];simp)
    .rcases QY.mp c with y|c
     .exact hS (by rw[y];simp)
     .exact r c)) up j).1
 refine wpAny_looks_onW (s:=(i,g,d,k,s.os)) (by rw[<-Vw];show I.ok.Ud) N fl λh2 U n=>wpAny_landsW (s:=(h2,g,d,k,s.os)) U λP l m=>?_;let I3:=seen P l.1 (n.ο m);let⟨oe,M,O⟩:=l.Uf;let ty:Looks QAB P (typeOf QA8) C:=O▸(Looks.ld M).andThen .now;refine wpAny_handleBy_cons QDl (!5);refine(Ξ.W.exm_one I3.Xb ty h).here ?_;refine codeAny_handlers_suite (lands_againW (s:=(P,g,d,k,s.os)) l λh4 Q F=>?_);let I4:=seen h4 Q.1 ((n.ο m).ο F);refine RQ (hs QA8 a _ _ _ (kL D) (I4.X_ _) q) (λf s6 B=>?_) λ_ _ z=>z.SJ;cases f with
 |next=>
  let⟨E,H7,I7,q7⟩:=B;show(E,H7,I7.unheld I.ok,q7)
 |ret u=>
  let⟨_,_,_,_,_,z⟩:=B;show z.SJ
 |brk=>
  let⟨_,_,_,z⟩:=B;show z.SJ
 |YB=>
  let⟨_,_,_,z⟩:=B;show z.SJ
section
variable{X:Cx}{QE:γ QA_}{σ:St}{H:Hp}{s:ω}{x y fx:QF}{R:θ}{j k:χ}{np hpos Ri p cp yp ap:UL}{b0:Rb}{suite:γ Rb}{ts:TS}{D:ZA}{ps:γ QF}{sp:Sp}{e:SH}{es:γ SH}{t:TA}
structure L8 QDn QEh(R:θ)(b0:Rb)(suite:γ Rb)(ts:TS):Prop where
 hex:X.ex=[]
 Vw:X.RL=X.QC::X.KK
 hfr:X.QC.Vx<*X.QC.SU
 hg:Gl X x
 hm:X.mg x<*.ξ R
 hs:∀v,Bd QHD QGJ ts
 hd:(x==("__debug__":QF))=ν
end
end L2
namespace RA
open L2
inductive yP QAH(wy mk p:θ)QC9 QAm(most:χ)QK5 QCC QBW:Prop
 |mk QK4 (V7:γ θ) (s4 s5:ψ V) (_:m=jN W.β QDe) (_:σ=[δ (.ξ wy),δ (.ξ mk),δ (.QG (most:Λ)),δ QAp,s4,s5]) (_:a' H H') (_:H' p<*.QV QKC) (_:V7.β=k+1) (_:br H' V7 W B) (_:∀i<k,Rd W B (i+1)≠Rd W B i)
def Do.sameL(h:Do H b R)QBs:Do H' b R:=(h.1,λi a r d c=>s _ _ (h.2 i a r d c))
def Do.toQ(h:Do H a R):wf H a R:=λi r e=>by
 let b:i<R.β:=by rw[<-h.1];show(l' e).1
 show(R[i],j_ b,_,.RN ζ,h.2 i r _ e (j_ b))
abbrev fG:χ->LL
 |0=>[[]]
 |n+1=>fG n++(fG n).Q_ (·++[n])
def jW:∀n,(fG n).β=2^n
 |0=>rfl
 |n+1=>by
  rw[fG,q4,j',jW n,χ.pow_succ];lia
def jX(h:n≤8):(fG n).β≤256:=by
 rw[jW];show χ.pow_le_pow_right (!0) h
def KM(p:χ->Ψ):∀n,(γ.Re n).VF p∈fG n
 |0=>by simp[fG]
 |n+1=>by
  rw[γ.range_succ,γ.filter_append,fG];cases h:p n with
  |ν=>
   rw[γ.filter_cons_of_neg (by simp[h]),γ.filter_nil,Tx];show Vb _ (KM p n)
  |π=>
   rw[γ.filter_cons_of_pos h,γ.filter_nil];show Ry _ (TZ.Sz (_,KM p n,1))
abbrev bz QC9(S:LN)QHW:LN:=(γ.Re W.β).VF λr=>S.Qz (UU W r j)
abbrev Bj QC9 QAm:LN:=(γ.Re W.β).VF λr=>B.LT r ν
abbrev vj(S:LN):Ψ:=S.Qz 0
section
variable{L:LN}{W:LL}{B:γ Ψ}{g:LN->χ->LN}{s:LN}{mk:LN->Ψ}{ks ws R:LL}{Bm:γ Ψ}
def JS(k:BG L)(l:Bf g L s ks ws ks.β 0)QD5(b:R.β=ks.β)QHS(e:ks.β≤2100):g_ L R Bm where
 lt:=k
 n1:=by rw[b];show(l' l.t0).1
 n60:=by rw[b];show e
 bl:=bl
 Yc:=λr h=>by
  let⟨i,d⟩:=Rl.mp h;let c:i<ks.β:=by rw[<-b];show(l' d).1
  let⟨h1,h2⟩:=a.Yc i r _ d (j_ c);refine(h1,λx f=>?_);let⟨q,j⟩:=Rl.mp f;rw[b];show(l' (h2 q x j)).1
def KN(v:LN)QHP:aR g L s (v++[c])=g (aR g L s v) QBS:=by
 unfold aR;rw[γ.Y6];rfl
def L9(p:Bf g L s ks ws ks.β 0)QD5(j:R.β=ks.β):∀QCm QFP,w.β=n->QA7->ks[Sl L R 0 w]?<*aR g L s w:=by
 intro n;induction n with
 |Xe=>
  intro w hw _;rw[TB.mp hw];show p.t0
 |Wu n h=>
  intro w hw f;obtain⟨c,v,ζ⟩:∃c v,w=v++[c]:=(w.getLast (by intro z;rw[z]at hw;cases hw),w.VG,(γ.Te _).QI);let h1:=h v QCf λx i=>f x (by simp[i]);let b:L.QP c<L.β:=QS (f c (!1));let e:Sl L R 0 v<R.β:=by rw[j];show(l' h1).1
  let⟨d,o⟩:=a.Yc _ _ _ (j_ e) h1;let m:=o QBS _ (j_ (by rw[d];show b));rw[Ev,KN];let k:zl L R (Sl L R 0 v) c=R[Sl L R 0 v][L.QP c]'(by rw[d];show b):=by
   unfold zl;rw[nt (l:=R),j_ e];change (R[Sl L R 0 v]).LT _ 0=_;rw[nt,j_ (by rw[d];show b)];rfl
  rw[k];show m
def JT(h:Bf g L s ks ws ks.β 0)QD5(f:R.β=ks.β)QHS(d:∀(r:χ)QFb QK3,ks[r]?<*k->Bm[r]?<*b->b=mk k)QFe:Bm.LT (Sl L R 0 w) ν=mk (aR g L s w):=by
 let h1:=L9 h a f _ w ζ hw;let e:Sl L R 0 w<Bm.β:=by rw[bl,f];show(l' h1).1
 rw[nt,j_ e];show d _ _ _ h1 (j_ e)
def sI(e:g_ L W B):∀(u:LN),QAL->∀r,r<W.β->((aR (bz W) L (Bj W B) u).Qz r=B.LT (Sl L W r u.Rt) ν):=by
 intro u f;obtain⟨n,b⟩:∃n,u.β=n:=QCI;induction n generalizing u with
 |Xe=>
  intro r a;rw[TB.mp b];change (Bj W B).Qz r=_;unfold Bj;rw[Ψ.T9,Ul,VQ,Rr];show(λz=>z.2,λz=>(a,z))
 |Wu n h=>
  intro r a;obtain⟨c,v,ζ⟩:∃c v,u=v++[c]:=(u.getLast (by intro z;rw[z]at b;cases b),u.VG,(γ.Te _).QI);let j:c∈L:=f c (!1);let d:UU W r QBS<W.β:=Cj e a (QS j);rw[KN,γ.reverse_append];change _=B.LT (Sl L W QJ9 v.Rt) ν;rw[<-h v (λx i=>f x (by simp[i])) (by simpa using b) _ (by rw[Gv];show d),Gv];unfold bz;rw[Ψ.T9,Ul,VQ,Rr];show(λz=>z.2,λz=>(a,z))
def mD(a:g_ L W B)(b:∀c∈u,c∈L):vj (aR (bz W) L (Bj W B) u)=B.LT (Sl L W 0 u.Rt) ν:=sI a u b 0 a.n1
end
def eK(a:χ):∀S:LN,Es (.QG (a:Λ)) (b_ S)=S.Qz a
 |[]=>rfl
 |x::S=>by
  let e:Es (.QG (a:Λ)) (b_ (x::S))=(((x:Λ)==(a:Λ))||Es (.QG (a:Λ)) (b_ S)):=ζ;rw[e,eK a S,γ.contains_cons];congr 1;rw[Ψ.T9,Ur,Ur];constructor
  .intro z;show(Λ.ofNat_inj.mp z).QI
  .intro z;rw[z]
def zg:(γ.Re (i+1)).VF p=(γ.Re i).VF p++(if p i then[i]else[]):=by
 rw[γ.range_succ,γ.filter_append];cases h:p i with
 |ν=>rw[γ.filter_cons_of_neg (by simp[h]),γ.filter_nil];rfl
 |π=>rw[γ.filter_cons_of_pos h,γ.filter_nil];rfl
end RA
namespace L2
open PySem.Spec PyProof.Rows
section
variable{X:Cx}{ZG UC:SH}{x:QF}{px Ri:UL}{Zh:γ SH}{sc:TJ}{wi:TI}{tt:TT}{te:TE}
end
def ni QBQ QGB:y' X (So .In) (NB K ν):=by
 subst a;show Km
inductive mH QAR QAI QDz:Prop
 |mk (a b xs ys:_) (_:vs=[.ξ a,.ξ b]) (_:H1 a<*.Rn xs) (_:H1 b<*.Rn ys) (_:xs.β=ys.β) (_:xs.β≤1000000) (_:∀(l:θ)(ts:γ θ)(H2:Hp),ts.β=xs.β->ts.R7->H1 l=ε->a' H1 H2->H2 l<*.QV QFc->(∀QBB(t:θ)(x y:V),ts[i]?<*t->xs[i]?<*x->ys[i]?<*y->H2 t<*.Rn [x,y])->Q QGH H2)
abbrev qr(ta:TA):TE:=λσ H Q=>ta σ H (mH Q)
def kr{p m Ri f:UL}(w:X.XV=π)(F:Gl X "list")(D:X.mg "list"=ε)(E:Gl X "zip")(C:X.mg "zip"=ε)(ha:PA X [a,b] ta)(T:(BT [.T0 (.SG "zip" m) [a,b] [] f] X.QC=[(ν,Sc (.T0 (.SG "zip" m) [a,b] [] f) X.QC,)])>>>4)(B:QJE>>>4)(r:((ST f (BT [b] X.QC)).U6 QBF=ν)>>>4):PE X (.T0 (.SG "list" p) [.T0 (.SG "zip" m) [a,b] [] f] [] Ri) (qr ta):=by
 intro l s W H Q I h;refine Rg (u_ I F D boot_list ?_);refine Su.WZ.Tw (e:=.T0 (.SG "zip" m) [a,b] [] f) (Ww:=[]) ?_ T ζ;rw[T];change Fr _ _ (spliced ((ν,Sc (.T0 (.SG "zip" m) [a,b] [] f) X.QC,)::ST Ri [])) _ _ s;refine Vf.spliced_cons (Rg (u_ I E C boot_zip (Su.WZ.Tw (nb (ha f l s W H _ I h) λus v J=>?_) B r)));let⟨vs,H1,k,Z,A,z,xs,ys,ev,o,n,hl,u,q⟩:=J;subst ev;let⟨u1,u2,ζ,e1,e2⟩:=cL Z;cases e1;cases e2;let⟨ag,px⟩:=j8 (d:=.tp A) k o;let⟨ab,py⟩:=j8 (d:=.tp z) k n;refine ZP.Dl (d1:=.tp A) (d2:=.tp z) px py λg M P O g1 g2 gk=>Vf.spliced_nil ?_;let N:v⁻¹+5≤g.SN.Q':=lt_size M;refine uQ (d1:=.tp A) (d2:=.tp z) (s:={v with ρ:=g}) (k.ok.hd w) (by constructor<;>show Ko (!6)) (k.XD (t':=v.QT) gk) (λc w=>?_) M (.RN (M,8,O),P,g1,g2) hl u o n λU s2 ts I2 Y L=>(.ξ g.SN.Q',U,I2,1,q g.SN.Q' ts U Y L.nd L.new L.SO L.QV λi t x y h1 h2 h3=>?_)
 .let j:v⁻¹≤c/\c<g.SN.Q':=by
   simp only[QY,SM,TQ]at w;rcases w with ζ|rfl|rfl|rfl|rfl<;>show(by first|show Uc _ _|show QA _,QD (by first|show χ.lt_add_of_pos_right (!0)|show χ.add_lt_add_left (!0) _) N)
  show(k.fpOk j.1 (k.S8.SZ j.1),j.2)
 .obtain ⟨_,_,S,R,q3⟩:=L.R9 i t h1;rw[h2]at S;rw[h3]at R;cases S;cases R;show q3
def GF(Wd:bj X U l H d)QDX QCn(m:X7.β=f.β)(n:∀QBB(y:QF)(v:V),f[i]?<*y->X7[i]?<*v->(∃j:χ,X.N[j]?=δ y/\l[j]?<*δ v)/\X.QC.RF.QH.ς y=δ .SF/\sc.QH.ς y<*.SB):AJ d b sc f X7:=by
 refine(λy z c h1 h2=>Wd.Tp y z c (Vk y c h1) (Vk z c h2),Vh,λy c h=>Wd.SF y c (Vk y c h),m,λi y v h1 h2=>?_);let⟨⟨j,t,s⟩,r,k⟩:=n i y v h1 h2;let⟨a,e⟩:=Vh (y,.SB,) (Ξ.Sj k) ζ;let⟨c,u,q,p,o⟩:=Wd.val j y v t s r;let g:=Vk _ _ e;rw[q]at g;cases g;show(k,_,u,e,p,o)
def jw(b:∀y,a.ς y=ε)(f:∀y∈sc.QH,y.2≠.SB):AJ h a sc [] []:=by
 refine(λy z c h1 _=>?_,λy d e=>QL e (f y d),λy c e=>?_,1,λi y v h1 _=>by simp at h1)
 .rw [b]at h1;cases h1
 .rw [b]at e;cases e
def HU{P:Id}{w:QW}{K:RG}{mg:QF->ψ η}{υ:RC}{st:Rb}{h e kV Tg pm ct:η}(lk:K.ς f<*(h,i,.VL (U_ x RD (ri st) (n7 st) (hI st) e kV Tg pm an (.ξ c) ct),g))(b:UH K (.ξ c) RD=π)(S:p_ N ps (hI st))(TL:∀vs H Q E,d vs H Q E->vs.β=ps.β)(a:∀(A:Qy)(KK:γ YT)(s:ω)(H:Hp)(vs:γ V)(Q:VK)(E:XK),ak k (A.VU (XG RD (hI st) s⁻¹ f (.ξ c)))->d vs H Q E->
   ∃t,Bd (aP (z7 P w) P w K mg υ N RD (hI st) f (.ξ c) A KK s H E) (n7 st) t/\t {nx:=λ_ H'=>Q .Uv H',rt:=Q} (WJ N vs) H):aa P w K mg υ (z7 P w) (k+1) f (U_ x RD (ri st) (n7 st) (hI st) e kV Tg pm an (.ξ c) ct) ps d:=ll lk b S TL a
abbrev BV QHL:Prop:=∀b o,(∀ps,o≠.tbl ps)->H b<*o->H' b<*o
def BV.of QBs:BV H H':=λb o _ e=>s b o e
def BV.ο(a:BV H d)(b:BV d H'):BV H H':=λx o c e=>b x o c (a x o c e)
def BV.ofX(s:BR P0 H H')(c:AB H P0 R5):BV H H':=λb o a e=>s b o (λz=>by
 let⟨ps,d,_⟩:=c;rw[z,d]at e;cases e;show a _ ζ) e
def BV.Rn(s:BV H H'):∀b xs,H b<*.Rn xs->H' b<*.Rn xs:=λb xs e=>s b _ QAD e
def BV.QV(s:BV H H')(e:H b<*.QV xs):H' b<*.QV xs:=s b _ QAD e
abbrev DO QAH QCs QCK:Prop:=H a<*.Rn xs\/H a<*.QV xs
def DO.SO(h:DO H a xs)QHd QHe:DO H' a xs:=h.imp (t _ _) (l _ _)
inductive rIxV(x:V)(y:V)QAH QAR:Prop
 |mk (p:θ) QCK (i:Λ) (z:V) (_:x=.ξ p) (_:y=.QG i) (_:DO H p xs) (_:An xs i<*z) (_:Q z H)
def Hk:D6 X rIxV:=by
 intro a b c s e H x y v u Q I g f h j;obtain⟨p,xs,i,z,m,l,d|d,k,q⟩:=h
 .exact jl a b c s e H x y v u Q I g f (p,xs,i,z,m,l,q5.of d,k,q) j
 .exact jm a b c s e H x y v u Q I g f (p,xs,i,z,m,l,k9.of d,k,q) j
end L2
namespace RA
open L2
inductive CW QAH(m:θ)QA5 QC9 QAm:Prop
 |mk (wy mk:θ) QEk QHw (_:H wy<*.Rn QC4) (_:DO H mk QGI) (_:Td.β=W.β) (_:∀QBB QCs,Td[i]?<*a->∃ws,W[i]?=δ ws/\H a<*.Rn QHv)
def CW.UB(h:CW H m L W B)QHd QHe:CW H' m L W B:=by
 let⟨d,mk,c,h1,h2,j,g,f⟩:=h;refine(d,mk,c,t _ _ h1,t _ _ h2,j.SO t l,g,λi a e=>?_);let⟨ws,n,k⟩:=f i a e;show(ws,n,t _ _ k)
def u0.l:u0 H m L W B->CW H m L W B:=λ⟨b,c,a,h1,h2,f,e,d⟩=>(b,c,a,h1,h2,.RN f,e,d)
def CW.SO(h:CW H m L W B)QBs:CW H' m L W B:=h.UB (λb xs e=>s b _ e) λb xs e=>s b _ e
def CW.ofT(h:CW H m L W B)(s:BV H H'):CW H' m L W B:=h.UB s.Rn λb xs e=>s.QV e
def O1(s:BV H H')(h:k9 K H a xs):k9 K H' a xs:=by
 rcases h with(h|⟨o,h⟩)|h
 .exact .RN (.RN (s.QV h))
 .exact .RN (.Rh (o,s _ _ QAD h))
 .exact .Rh h
inductive KO(cW P0:θ)QHZ QAI QAH QAR QA9:Prop
 | mk (m:θ) (L:LN) (W:LL) (B:γ Ψ) (_:vs=[.ξ m]) (_:CW H m L W B) (_:g_ L W B) (_:AB H P0 R5) (_:∀(wk t wd y md:θ)(ks:LL)(vks:γ V)(ws:LL)(Td:γ θ)(R:LL)(Bm:γ Ψ)(H':Hp),BR P0 H H'->AB H' P0 R5->GB H' cW wk L t wd y md->H' t<*.QV vks->bC .i H' ks vks->H' wd<*.QV (Dn ws)->H' y<*.QV (Td.Q_ V.ξ)->Do H' Td R->H' md<*.QV (Bm.Q_ V.bl)->
  Bf (gW W) L [0] ks ws ks.β 0->CJ (gW W) L.β ks R->R.β=ks.β->Bm.β=R.β->(∀(r:χ)(k:LN)(b:Ψ),ks[r]?<*k->Bm[r]?<*b->b=mkW B k)->(∀k∈ks,k∈uW W)->ks.β≤W.β->Q (.ξ wk) H')
abbrev gP QHp QFb QHW:LN:=[UU W1 (k.LT 0 0) j,UU W2 (k.LT 1 0) j]
abbrev uP(n1 n2:χ):LL:=(γ.Re n1).flatMap λa=>(γ.Re n2).Q_ λb=>[a,b]
abbrev NU QIq QD' QFb:Ψ:=Xt (B1.LT (k.LT 0 0) ν) (B2.LT (k.LT 1 0) ν)
def sD(e:a<n1)(d:b<c):[a,b]∈uP n1 c:=by
 unfold uP;rw[YJ];show(a,Rr.Sz e,TZ.Sz (b,Rr.Sz d,1))
def my(h:k∈uP n1 c):∃a b,k=[a,b]/\a<n1/\b<c:=by
 unfold uP at h;let⟨a,e,h⟩:=YJ.mp h;let⟨b,d,ζ⟩:=TZ.mp h;show(a,b,1,Rr.mp e,Rr.mp d)
def yV(n1 a:χ):(uP n1 a).β=n1*a:=by
 unfold uP;rw[γ.length_flatMap];simp[γ.map_const',γ.sum_replicate_nat]
def yz(h1:n1≤8)(h2:a≤8):(uP n1 a).β≤64:=by
 rw[yV];show χ.mul_le_mul h1 h2
def O2(h1:g_ L d j)(h2:g_ L c i):∀k∈uP d.β c.β,∀q,q<L.β->gP d c k q∈uP d.β c.β:=λk f q e=>by
 let⟨a,b,ζ,h,g⟩:=my f;show sD (Cj h1 h e) (Cj h2 g e)
def NV{L:LN}{e d:LL}:∀(u:LN)(a b:χ),aR (gP e d) L [a,b] u=[Sl L e a u,Sl L d b u]
 |[],_,_=>rfl
 |c::u,a,b=>NV u (UU e a QBS) (UU d b QBS)
inductive cR QIq QAI QAH QAR QA9:Prop
 |mk (a b:Ψ) (_:vs=[.bl a,.bl b]) (_:Q (.bl (Xt a b)) H)
structure O3 QKU QBP QBQ QAs QAH(g cg:θ)QIq:Prop where
 ex:∃(RD:QF)(Sw:UR)(body:SH)(sc:TJ)(SE:γ QBC),H g=δ (pB g RD Sw body sc SE cg)/\H cg=δ (o5 cg RD)/\
  (∀(YR:RC)(pm ZQ:η),YR.Δ g<*YK "<lambda>" RD Sw body sc SE pm cg ZQ->YR.SL (.ξ cg) RD->aa P w K mg YR lb 1 g (Ze "<lambda>" RD Sw body sc SE pm (.ξ cg) ZQ) ["one","two"] (cR Xt))/\
  ∀pm ZQ:η,yx K (Ze "<lambda>" RD Sw body sc SE pm (.ξ cg) ZQ) ["one","two"] []
end RA
namespace L2
open PySem.Spec PyProof.Rows
section
variable{X:Cx}{ZG UC:SH}{x y:QF}{px py pt Ri:UL}{kt:χ}{sc:TJ}{wi:TI}{te:TE}
end
def sj(bs:γ Ψ):(γ.Re bs.β).U6 (λi=>bs.LT i ν)=bs.U6 id:=by
 rw[Ψ.T9,Zs,Zs];constructor
 .rintro⟨i,a,h⟩;let a:=Rr.mp a;rw[nt,j_ a]at h;show(bs[i],Rv a,h)
 .rintro⟨b,c,h⟩;let⟨i,a,ζ⟩:=γ.mem_iff_getElem.mp c;refine(i,Rr.Sz a,3);rw[nt,j_ a];show h
def se(E:X.XV=π):C7 X (.RJ "any") (λxs H Q=>∃(a:θ)(bs:γ Ψ),xs=[V.ξ a]/\H a=δ (.QV (bs.Q_ V.bl))/\Q (.bl (bs.U6 id)) H):=by
 intro j s L H xs us Q I r h;let⟨a,bs,ζ,t,q⟩:=h;let⟨M,ζ,C⟩:=Ch r;cases C;let⟨R9,g,p,hz⟩:=I.V8 (k9.of t);let m:s.ρ.IsList a R9.Θ:=p.VE;let f:a<s⁻¹:=I.S8.lt t;let l:R9.Θ.Q'=bs.β:=by
  let h2:=g.β;rw[j']at h2;simp;lia
 refine call_any_walk (Wb m ?_);refine(s⁻¹,8,8,_,λi=>bs.LT i ν,1,Walks.V8 (Ω:=X.Ω) (w:=X.w) (A:=X.A.Xz) (I.ok.hd E) s⁻¹ a (RM f) R9.Θ,(QC',m.at λo e=>o9 _ e),3,λh' z D=>?_)
 .intro i v s' J N k d;let n:i<bs.β:=by rw[<-l];show(R_.TC.mp k).1
  let⟨y,F,B⟩:=g.Yj (i:=i) (x:=.bl bs[i]) (by rw[na,j_ n];rfl);have:v=y:=by
   let c:R9.Θ[i]?<*v:=k;rw[γ.getElem?_toArray,F]at c;show(ψ.δ.Tp c).QI
  subst this;cases B;let e:bs.LT i ν=bs[i]:=by rw[nt,j_ n];rfl
  let d:J (bs.LT i ν) s':=d;rw[e]at d;show Tr d
 .rw [l,sj];show(.bl (bs.U6 id),H,I.XD (t':=z) λb o u=>D b o (by simp;show RM (lt_size u)) (o9 _ u),1,q)
abbrev d_ QK5:LN:=(γ.Re 8).VF λk=>m.VB k
abbrev ao(led:Ψ)(ks:LN):Ve:=(if ks.β<5 then 7 else 31,ks.Θ,#[],(0),led,if ks.β<5 then 0 else 1,π)
abbrev AG(ks:LN)QK4:χ:=(ks.VF (· < k)).β
abbrev t6(ks:LN)QK4:LN:=ks.R0 (AG ks k)++k::ks.Th (AG ks k)
abbrev DP(t:Ve)(ks:LN):Ve:={t with T7:=ks.Θ}
abbrev jF(led:Ψ)(m k:χ):Ψ:=
 letI ks:=d_ m
 letI t:=ao led ks
 letI ks':=t6 ks k
 ks.Qz k||(decide (t.freeSlot (k:Λ)<*(k,ν,))&&decide (t.put k=(DP t ks',AG ks k,))&&(DP t ks').fits ks'.β &&
  (if (DP t ks').tooFull then decide ((DP t ks').relaid (ks'.Q_ λ(n:χ)=>(n:Λ)).Θ (Ve.grown ks'.β)<*(ao led ks',(γ.Re ks'.β).Θ,))&&coversAll (γ.Re ks'.β).Θ ks'.β&&(ao led ks').fits ks'.β
   else decide (DP t ks'=ao led ks'))&&decide (ks'=d_ (m ||| 2^k)))
def vX(h:∀j,j<8->(γ.Re 32).UW (λm=>p (32*j+m))=π):(γ.Re 256).UW p=π:=by
 rw[Ro];intro m a;let a:=Rr.mp a;have:=Ro.mp (h (m/32) (!6)) (m%32) (Rr.Sz (χ.mod_lt _ (!0)))
 rwa [χ.div_add_mod]at this
def O4:(γ.Re 256).UW (λm=>(γ.Re 8).UW λk=>jF π m k&&jF ν m k)=π:=vX fun
 |0,_=>by decide +kernel
 |1,_=>by decide +kernel
 |2,_=>by decide +kernel
 |3,_=>by decide +kernel
 |4,_=>by decide +kernel
 |5,_=>by decide +kernel
 |6,_=>by decide +kernel
 |7,_=>by decide +kernel
 |n+8,h=>QL h Gc
abbrev yE(m k:χ):Ψ:=(!(d_ m).Qz k||decide (m ||| 2^k=m))&&decide (m ||| 2^k<256)&&decide ((d_ m).β≤8)&&(d_ m).UW (· < 8)
set_option maxRecDepth 100000 in
def O5:(γ.Re 256).UW (λm=>(γ.Re 8).UW λk=>yE m k)=π:=by decide +kernel
def iD(b:m<256)(c:k<8):(k∈d_ m->m ||| 2^k=m)/\m ||| 2^k<256/\(d_ m).β≤8/\∀x∈d_ m,x<8:=by
 let h:=Ro.mp (Ro.mp O5 m (Rr.Sz b)) k (Rr.Sz c);simp only[yE,TW,Xv,Wg,S3]at h;let⟨⟨⟨h1,h2⟩,e⟩,d⟩:=h;refine(λz=>h1.SJ (λy=>?_) id,h2,e,λx a=>SW (Ro.mp d x a));rw[Ul.Sz z]at y;cases y
def O6(a:Ψ)(e:m<256)(f:k<8)(d:k∉d_ m):(ao a QAY).freeSlot (k:Λ)=δ (k,ν,)/\(ao a QAY).put k=(DP (ao a QAY) QDC,AG QAY k,)/\(DP (ao a QAY) QDC).fits (t6 QAY k).β=π/\t6 QAY k=d_ (m ||| 2^k)/\
  (if (DP (ao a (d_ m)) (t6 (d_ m) k)).tooFull=π then(DP (ao a (d_ m)) (t6 (d_ m) k)).relaid ((t6 (d_ m) k).Q_ λ(n:χ)=>(n:Λ)).Θ (Ve.grown (t6 (d_ m) k).β)=δ (ao a (t6 (d_ m) k),(γ.Re (t6 (d_ m) k).β).Θ,)/\coversAll (γ.Re (t6 (d_ m) k).β).Θ (t6 (d_ m) k).β=π/\(ao a (t6 (d_ m) k)).fits (t6 (d_ m) k).β=π
   else DP (ao a (d_ m)) (t6 (d_ m) k)=ao a (t6 (d_ m) k)):=by
 let h:=Ro.mp (Ro.mp O4 m (Rr.Sz e)) k (Rr.Sz f);let h:jF a m k=π:=by
  rw[TW]at h;cases a
  .exact h.2
  .exact h.1
 unfold jF at h;try dsimp only at h
 rw[Xv]at h;rcases h with h|h
 .exact QL (Ul.mp h) d
 .simp only[TW,S3]at h;let⟨⟨⟨⟨h1,h2⟩,i⟩,b⟩,g⟩:=h;refine(h1,h2,i,g,3);split at b
  .rename_i c;rw[IO c];simpa[and_assoc]using b
  .rename_i c;rw[Cl c];simpa using b
abbrev UG(ks:LN)(ts:γ Z5):γ (Λ×η):=γ.zipWith (λ(k:χ)t=>((k:Λ),η.QG (k:Λ) t,)) ks ts
def CY(h:ts.β=ks.β):(UG ks ts).β=ks.β:=by simp[UG,h]
def lu:∀{ks:LN}{ts:γ Z5},ts.β=ks.β->(UG ks ts).Q_ Yq.fst=ks.Q_ λ(n:χ)=>(n:Λ)
 |[],[],_=>rfl
 |k::ks,t::ts,h=>by
  have:=lu (ks:=ks) (ts:=ts) QDr;change (k:Λ)::(UG ks ts).Q_ Yq.fst=_;rw[this];rfl
def vC{ks:LN}(h:ts.β=ks.β):UG (ks.R0 p++k::ks.Th p) (ts.R0 p++t::ts.Th p)=(UG ks ts).R0 p++QF7::(UG ks ts).Th p:=by
 unfold UG;rw[γ.zipWith_append (by simp[h]),γ.zipWith_cons_cons,γ.take_zipWith,γ.drop_zipWith]
def L_(l:γ a)(p:χ)(x:a):Ve.insertAt l.Θ p x=(l.R0 p++x::l.Th p).Θ:=by
 unfold Ve.insertAt;simp only[γ.extract_toArray,γ.push_toArray,γ.append_toArray];congr 1;simp[RT]
def gH QGk(l:γ a):∀n,(γ.Re n).filterMap (λi=>l[i]?)=l.R0 n
 |0=>rfl
 |n+1=>by
  rw[γ.range_succ,γ.filterMap_append,gH l n,VP];cases q:l[n]?<;>simp[q]
def t8 QGk(l:γ a):(γ.Re l.β).Θ.filterMap (λi=>l.Θ[i]?)=l.Θ:=by
 rw[γ.filterMap_toArray];congr 1;let h:=gH l l.β;rw[Uz]at h;simpa using h
abbrev aw QBP:Ψ:=!w.Sw.WG "set-order"
abbrev bp QBP QKP QCs QK5:Prop:=∃(o:UQ)(ts:γ Z5)(ep:χ),h.Δ a=δ o/\o.ExactSet/\ts.β=(d_ m).β/\o.RH=.Uw (UG QAY ts).Θ ep QB9
abbrev cu(led:Ψ)(m i:χ):Ψ:=
 letI ks:=d_ m
 !(decide (i≤ks.β))||decide (Ve.below ks.Θ (if i=0 then 0 else ks.LT (i-1) 0+1)=i)&&(ao led ks).fits ks.β
def xw:(γ.Re 256).UW (λm=>(γ.Re 9).UW λi=>cu π m i&&cu ν m i)=π:=vX fun
 |0,_=>by decide +kernel
 |1,_=>by decide +kernel
 |2,_=>by decide +kernel
 |3,_=>by decide +kernel
 |4,_=>by decide +kernel
 |5,_=>by decide +kernel
 |6,_=>by decide +kernel
 |7,_=>by decide +kernel
 |n+8,h=>QL h Gc
def bR(a:Ψ)(b:m<256)(c:i≤(d_ m).β):Ve.below (d_ m).Θ (if i=0 then 0 else(d_ m).LT (i-1) 0+1)=i/\(ao a QAY).fits (d_ m).β=π:=by
 let d:=(iD (k:=0) b (!0)).2.2.1;let h:=Ro.mp (Ro.mp xw m (Rr.Sz b)) i (Rr.Sz (!6));let h:cu a m i=π:=by
  rw[TW]at h;cases a
  .exact h.2
  .exact h.1
 unfold cu at h;try dsimp only at h
 rw[RI c]at h;simpa using h
section
variable{P:Id}{w:QW}{A:Qy}{E:η->ω->Prop}{s:ω}{a:θ}{m k:χ}
def eU(h:k<8):(SI P w).hash (k:Λ)=(k:Λ):=by
 rcases k with _|_|_|_|_|_|_|_|k;any_goals rfl
 lia
def EJ:∀{ks:LN}{ts:γ Z5}{e:Λ×η},e∈UG ks ts->∃k∈ks,∃t,e=QF7
 |[],_,e,h=>by simp[UG]at h
 |_::_,[],e,h=>by simp[UG]at h
 |k::ks,t::ts,e,h=>by
  rcases QY.mp (show e∈QF7::UG ks ts from h)with ζ|h
  .exact (k,!1,t,1)
  .obtain ⟨k',b,t',e'⟩:=EJ h;show(k',by simp[b],t',e')
def vB(h:∀x∈ks,x<8):ElemsOf QCE (UG ks ts):=λe c=>by
 let⟨k,b,t,ζ⟩:=EJ c;show(((k:Λ),intKind_is _ _ _ _,(eU (h k b)).QI),1)
def pQ:∀{ks:LN}{ts:γ Z5},ts.β=ks.β->((UG ks ts).findIdx? QEa).VR=decide (k∈ks)
 |[],_,_=>by simp[UG]
 |k'::ks,t::ts,h=>by
  let b:=pQ (ks:=ks) (ts:=ts) QDr;let e:(SI P w).is (k:Λ) (η.QG (k':Λ) t)=decide (k'=k):=by
   change η.isInt (k:Λ) (η.QG (k':Λ) t)=_;by_cases c:k'=k
   .subst c;simp[η.isInt]
   .rw [QJ c];simp[η.isInt,show ¬ (k':Λ)=(k:Λ)from λz=>c (Λ.ofNat.Tp z)]
  rw[show UG (k'::ks) (t::ts)=((k':Λ),η.QG (k':Λ) t,)::UG ks ts from ζ,γ.findIdx?_cons];dsimp only;rw[e];by_cases c:k'=k
  .subst c;simp
  .rw [Cl QIX,ψ.isSome_map,b];simp[show ¬ k=k' from λz=>c z.QI]
def Ma(S:m<256)(M:k<8)(hS:bp w s.ρ a m)(h:∀b h',Tb a s.ρ h'->bp w h' a (m ||| 2^k)->Q b {s with ρ:=h'}):Fr QA' A (setAddHashed a (.QG (k:Λ) t) ((SI P w).hash (k:Λ))) Q E s:=by
 let⟨o,ts,ep,C,R,D,H⟩:=hS;let⟨s1,s2,s3,s4⟩:=iD S M;let hz:(UG QAY ts).Θ.Q'=(d_ m).β:=by rw[Qu,CY D]
 let hf:(ao QKd QAY).fits (UG QAY ts).Θ.Q'=π:=by rw[hz];show(bR _ S QDt).2
 let F:ElemsOf QCE (UG QAY ts).Θ.Qx:=vB s4;let hs:(UG QAY ts).Θ.Q'<scanBound:=by rw[hz];show SA s3 (!0)
 unfold setAddHashed setAddHashedIn;refine RZ (e_ (UO C H hf ?_));dsimp only;rw[byScan_of (Y2:=SI P w) (x:=.QG (k:Λ) t) ζ hs F,IO ζ];unfold setAddByScan;refine e_ (e_ (W5 (e_ (wpAny_setScan_of (Y2:=SI P w) QHR C H hf F ?_))));let g:=pQ (P:=P) (w:=w) (k:=k) D;by_cases i:k∈d_ m
 .rw [RI i]at g;let⟨j,U⟩:=ψ.isSome_iff_exists.mp g;rw[show γ.findIdx? _ (UG QAY ts).Θ.Qx<*j from U];dsimp only;refine h9 QBv;have:=h ν s.ρ (Tb.X9 a s.ρ) (by rw[s1 i];show(o,ts,ep,C,R,D,H));show this
 .rw [QJ i]at g;let U:γ.findIdx? QEa (UG QAY ts)=ε:=by
   cases q:γ.findIdx? QEa (UG QAY ts)with
   |ε=>rfl
   |δ j=>rw[q]at g;cases g
  rw[show γ.findIdx? _ (UG QAY ts).Θ.Qx=ε from U];dsimp only;let⟨c1,c2,X,c4,J⟩:=O6 QKd S M i;let f:(ts.R0 (AG QAY k)++t::ts.Th (AG QAY k)).β=(t6 QAY k).β:=by simp[t6,D]
  let hL:layNew QB9 (UG QAY ts).Θ ((SI P w).hash (k:Λ)) (.QG (k:Λ) t)=((UG QDC QBo).Θ,DP QB9 QDC,ν,ν,):=by
   unfold layNew;rw[eU M,c1];dsimp only;rw[c2];dsimp only;rw[L_,<-vC D];let N:(UG ((d_ m).R0 (AG QAY k)++k::(d_ m).Th (AG QAY k)) QBo).Θ.Q'=(t6 QAY k).β:=by rw[Qu];show CY f
   rw[N,Ve.orStandIn,IO X,X];rfl
  rw[hL];dsimp only;let B:(DP QB9 QDC).plain=π:=ζ;let l:=lu f;let d:=CY f;generalize hT:DP QB9 QDC=T at B c2 X J⊢;let p:∀QJu(v:UQ)(r:χ)(T':Ve),Tb a s.ρ h'->h'.Δ a<*v->v.ExactSet->v.RH=.Uw (UG QDC QBo).Θ r T'->T'=ao QKd QDC->Q π {s with ρ:=h'}:=by
   rintro h' v r T' I W g3 g4 ζ;rw[c4]at g4 f;show h π h' I (v,_,r,W,g3,f,g4)
  generalize UG QDC QBo=c at l d p⊢;let y:c.Θ.Q'≤Φ:=by
   rw[Qu,d,c4,S'];have:=(iD s2 M).2.2.1;show Ft this
  let u:∀(h1:RC)(L:UQ)(N:R_ (Λ×η))(n1:χ)(Z O:Ve),h1.Δ a<*L->L.RH=.Uw N n1 Z->(h1.Sq a (UQ.putSet c.Θ O)).Δ a<*{L with RH:=.Uw c.Θ (n1+1) O}:=by
   intro h1 L N n1 Z O z1 Y;let z:=Rs (UQ.putSet c.Θ O) z1 (by rw[putSet_of _ _ Y];rfl);rw[putSet_of _ _ Y]at z;show z
  refine e_ QBv;rw[IO B,hashByValue_scannable 8 (x:=.QG (k:Λ) t) ζ];refine e_ QBv;rw[show plainKind (.QG (k:Λ) t)=π from ζ];simp only[Z3,Ψ.not_false,Ψ.true_and];refine e_ (wpAny_storeSet_of C H ?_ y);let I:=u _ _ _ _ _ T C H;let sb:=Tb.Sq s.ρ a (UQ.putSet c.Θ T);by_cases ct:T.tooFull=π
  .rw [IO ct]at J⊢;let⟨d1,d2,d3⟩:=J;let hR:relayAll T c.Θ (Ve.grown c.Θ.Q')=(c.Θ,ao QKd QDC,ν,):=by
    unfold relayAll;rw[show c.Θ.Q_ QBF=((t6 QAY k).Q_ λ(n:χ)=>(n:Λ)).Θ by rw[γ.map_toArray,<-l],Qu,d,d1];dsimp only;rw[<-d,t8,Qu,d,d2,d3];rfl
   rw[hR];refine e_ (h9 (e_ (wpAny_storeSet_of I ζ ?_ y)));let W:=u _ _ _ _ _ (ao QKd QDC) I ζ;show h9 (h9 (p _ _ _ _ (sb.ο (Tb.Sq _ a _)) W R ζ ζ))
  .rw [Cl ct]at J⊢;show h9 (h9 (p _ _ _ _ sb I R ζ J))
def cE{ns:LN}(h:i<ns.β):ns.LT i 0=ns[i]:=by rw[nt,j_ h];rfl
abbrev Dp(ns:LN):χ:=ns.foldl (λm k=>m ||| 2^k) 0
def rj(ns:LN)QK4:Dp (ns++[k])=Dp ns ||| 2^k:=by simp[Dp,γ.Y6]
def cv(h:∀x∈ns,x<8):Dp ns<256:=by
 have:∀(ns:LN)QK5,(∀x∈ns,x<8)->m<256->ns.foldl (λm k=>m ||| 2^k) m<256:=by
  intro ns;induction ns with
  |S5=>show λm _ b=>b
  |Rc k r d=>show λm c b=>d _ (λx e=>c x (by simp[e])) (iD b (c k (!1))).2.1
 show this ns 0 h (!0)
def bp.UB(x:bp w h a m)(e:∀o,h.Δ a<*o->h'.Δ a<*o):bp w h' a m:=by
 let⟨o,ts,c,b,r⟩:=x;show(o,ts,c,e o b,r)
def O7{St:χ->RC->Prop}(W:Walks P w A.Xz I Y wr n Z St)(l:S∉Y)(O:ns.β=n)(D:∀x∈ns,x<8)(N:∀i v,Z i v->∃t,v=.QG ((ns.LT i 0:χ):Λ) t):∀(j i:χ)QB_,n-i=j->i≤n->St i s.ρ->bp w s.ρ S (Dp (ns.R0 i))->
   (∀QJu(f:χ),(∀b o,b∉S::wr->s.ρ.Δ b<*o->h'.Δ b<*o)->bp w h' S (Dp ns)->R (.ok (.ret .ε)) {s with ρ:=h',QT:=f})->VD QA' A (.RJ "set.update.loop" ([.ξ S,.ξ I],[])) R s:=by
 let hw:S∉wr:=λz=>l (W.Vk _ z);intro j;induction j with
 |Xe=>
  intro i s T U st x q;cases(show i=n by lia);refine TH Su.WZ.F.entry_set_update_loop ?_;rw[Qy.Ue Su.WZ.F.ZK _];change Fr _ A.Xz (WE QE'>>=_) _ _ s;refine e_ (W.done s _ _ st λh' f g=>?_);rw[<-O,Uz]at x;show h9 (q h' f (λb o d e=>g b o (λz=>d (by simp[z])) e) (x.UB λo e=>g S o hw e))
 |Wu j L=>
  intro i s T U st x q;let h:i<n:=by lia
  refine TH Su.WZ.F.entry_set_update_loop ?_;rw[Qy.Ue Su.WZ.F.ZK _];change Fr _ A.Xz (WE QE'>>=_) _ _ s;refine e_ (W.Yi i s _ _ h st λv h' f pv r g=>?_);let⟨t,ζ⟩:=N i v pv;let c:i<ns.β:=BW h O
  let Q:ns.LT i 0<8:=by rw[cE c];show D _ (Rv c)
  let J:=x.UB (h':=h') λo e=>g S o hw e;change Fr _ A.Xz (holding [η.QG ((ns.LT i 0:χ):Λ) t] (setAdd S (.QG ((ns.LT i 0:χ):Λ) t))>>=_) _ _ _;refine e_ (RZ ?_);unfold setAdd;refine RZ (e_ ((SI P w).YY (k:=((ns.LT i 0:χ):Λ)) QHR ?_));refine Ma (cv λy M=>D y (γ.mem_of_mem_take M)) Q (s:={s with ρ:=h',QT:=f+1}) J λb h2 C B=>?_;rw[<-rj,cE c,γ.take_append_getElem c]at B;refine h9 (U8 Su.WZ.F.ZK _,L (i+1) _ (!6) h (W.Vx _ _ _ r λb d o e=>?_) B λX p u H=>?_)
  .exact (C.2 b (λz=>l (z▸d))).ο e
  .refine q X p (λb o d e=>u b o d ?_) H;show(C.2 b (λz=>d (by simp[z]))).ο (g b o (λz=>d (by simp[z])) e)
def Mb(u:η)(q:Q1 QAX {s with ρ:=s.ρ.Rm {SS:=.QU "set",Uk:=ε,RH:=.Uw #[] 0 QBb} }):VD QA' A (.UZ (.RJ "set.__new__") ([.QU "set",u],[])) (wants Q1 E) s:=by
 refine ZI (show Fr _ A.Xz (do checkBuiltinCall "set.__new__" ([.QU "set",u],[]);again (.RJ "set.__new__" ([.QU "set",u],[]))) _ _ s from ?_);refine e_ (SR (Ξ.F.newCall_set_1 u) (h9 (U8 Ξ.F.plain_set_new _,TH Ξ.F.entry_set_new ?_)));rw[Qy.Ue Ξ.F.plain_set_new _];unfold Builtin.«set.__new__» Builtin.Frozenset.newClass;let z:=sub_set_self;let⟨hp,g,d,b,os⟩:=s;dsimp only
 wp_walk
 refine W7 QBv;dsimp only;simp only[newObj];show e_ (ZV (h9 (h9 q)))
def xU(b:h.Δ a<*{SS:=.QU "set",Uk:=ε,RH:=.Uw #[] 0 QBb}):bp w h a 0:=(_,[],(0),b,(5,1),5)
def O8{R9:γ η}(Z:A.SX=ε)(y:s.ρ.IsList l R9.Θ)(Y:ns.β=R9.β)(h8:∀x∈ns,x<8)(X:∀QBB(v:η),R9[i]?<*v->∃t,v=.QG ((ns.LT i 0:χ):Λ) t)(q:∀QJu(f:χ),bp w h' s⁻¹ (Dp ns)->QBY->Q QAX {s with ρ:=h',QT:=f}):Fr QA' A (UZ (.QU "set") [.ξ l]) Q E s:=by
 let⟨c,tl,U⟩:=XH.mro;let H:=XH.made;let Vk:=XH.Vk;refine US (ZI (show Fr _ _ (callAny (.QU "set") _) _ _ _ from ?_));refine h9 (Code.quiet_builtin _ (!3),TH Ξ.F.entry_type_call ?_);rw[Qy.under_plain (weight_type_call_type "set" [.ξ l] []) ζ];let k1:=XH.notType;let k2:=XH.canCreate;let k3:=Ξ.F.typeCall_set_1 QGH;repeat (any_goals (first|assumption|wp_step))
 refine Tv (Mb QGH (E:=E) (Q1:=λD C=>D=.ξ s⁻¹/\C={s with ρ:=s.ρ.Rm {SS:=.QU "set",Uk:=ε,RH:=.Uw #[] 0 QBb} }) (1,1)) λr C p=>?_;cases r with
 |WV e=>show p
 |ok fl=>
  cases fl with
  |ret D=>
   let⟨rfl,ζ⟩:=p;let L:(s.ρ.Rm {SS:=.QU "set",Uk:=ε,RH:=.Uw #[] 0 QBb}).Δ s⁻¹<*{SS:=.QU "set",Uk:=ε,RH:=.Uw #[] 0 QBb}:=QN _ ζ;let tS:ω.Vi {s with ρ:=s.ρ.Rm {SS:=.QU "set",Uk:=ε,RH:=.Uw #[] 0 QBb} } QAX "set":=(_,L,1);let k4:=XH.init.ς;let k5:=XH.init.Zq QAX;repeat (any_goals (first|assumption|wp_step))
   refine Tv (U5 (R:=wants (λr s2=>r=.ε/\∃h' f,s2={s with ρ:=h',QT:=f}/\bp w h' s⁻¹ (Dp ns)/\∀b o,s.ρ.Δ b<*o->h'.Δ b<*o) E) XH.init.plain Ξ.F.entry_set_init (check_set_init_1 tS ?_)) λM s2 d=>?_
   .let hlS:l<s⁻¹:=let⟨_,z,_⟩:=y;lt_size z;let g:=y.Rm {SS:=.QU "set",Uk:=ε,RH:=.Uw #[] 0 QBb};let⟨N,u,j,S,h⟩:=y;let⟨oc,O,oD,os⟩:=N;simp only at j h;subst j;subst h;let I:(s.ρ.Rm {SS:=.QU "set",Uk:=ε,RH:=.Uw #[] 0 QBb}).Δ l<*{SS:=.QU "list",Uk:=O,RH:=.WA R9.Θ S,XR:=os}:=o9 _ u;let k6:=Ξ.F.sub_list_set;let k7:=Ξ.F.sub_list_frozenset;let k8:(η.QU "list"==η.QU "dict")=ν:=by decide
    unfold Builtin.«set.__init__» noKeywords Builtin.Frozenset.updateFrom;generalize B:YX=PI
    wp_walk
    subst B;refine Wb g (e_ (ZS ?_));let W:A.Xz.Xz.Xz.SX=ε:=by simp[Z]
    let n1:l≠(s.ρ.Rm {SS:=.QU "set",Uk:=ε,RH:=.Uw #[] 0 QBb}).SN.Q':=by rw[Tz];show RM (χ.XL hlS)
    let T:s⁻¹∉[(s.ρ.Rm {SS:=.QU "set",Uk:=ε,RH:=.Uw #[] 0 QBb}).SN.Q',l]:=by
     rw[Tz];simp only[QY,SM,TQ,not_or];show(RM (R8 _),XT hlS)
    refine O7 (Walks.V8 W _ l n1 R9.Θ) T (by rw[Y,Qu]) h8 (λi v z=>X i v (by simpa using z)) _ 0 _ ζ QDt (QC',g.Rm _) (xU (o9 _ L)) λh' f n x=>?_;refine h9 (h9 (1,h',f,1,x,λb o e=>n b o ?_ (o9 _ QIg)));let J:=lt_size e;simp only[QY,SM,TQ,not_or];refine(RM J,3);rw[Tz];show RM (χ.XL J)
   .cases M with
    |WV e=>show d
    |ok f2=>
     cases f2 with
     |ret r=>
      let⟨rfl,h',f,ζ,x,n⟩:=d;repeat (any_goals (first|assumption|wp_step))
      show q _ _ x n
     |_=>show d.SJ
  |_=>show p.SJ
end
def b_z:Slot "set_iterator" "__next__" "set_iterator.__next__":=.of (owner:="set_iterator") (n:="__next__") (by rw[T6,Sf];kernel_rfl) (!3) (!3) (!3) (by first|show .RN (!3)|show .Rh (!3)) (by rw[UE];kernel_rfl)
def NW:Slot "set_iterator" "__iter__" "set_iterator.__iter__":=.of (owner:="set_iterator") (n:="__iter__") (by rw[T6,Sf];kernel_rfl) (!3) (!3) (!3) (by first|show .RN (!3)|show .Rh (!3)) (by rw[UE];kernel_rfl)
def NX:Zj table "set_iterator.__next__"<*Builtin.«set_iterator.__next__»:=entryFor_of_fast QBH
def gg:Zj table "set_iterator.__iter__"<*Builtin.«dict_keyiterator.__iter__»:=entryFor_alias (id':="dict_keyiterator.__iter__") QBH ζ (!3) QBH
def jo:Zj table "set.__iter__"<*Builtin.«frozenset.__iter__»:=entryFor_alias (id':="frozenset.__iter__") QBH ζ (!3) QBH
def NY(a:η):Zr "set_iterator.__next__" QKv:=by unfold Zr;kernel_rfl
def jC(a:η):Zr "set_iterator.__iter__" QKv:=by unfold Zr;kernel_rfl
def vD QGk:∀QHl QEH(h:i<l.β),(l[i]::l.eraseIdx i).Perm l
 |x::l,0,_=>.X9 _
 |x::l,i+1,h=>by
  let h':i<l.β:=by simpa using h
  change (l[i]::x::l.eraseIdx i).Perm (x::l);show(Perm.swap _ _ _).ο ((vD h').Rc x)
def t9{b:Type}(next:χ->χ):∀(n k:χ)(l:γ b)(YG:R_ b),l.β=n->(WM.go next n k l YG).Qx.Perm (YG.Qx++l)
 |0,k,l,YG,h=>by
  cases TB.mp h;simp[WM.go]
 |n+1,k,l,YG,h=>by
  let a:next k%l.β<l.β:=χ.mod_lt _ (!6);unfold WM.go;rw[j_ a];dsimp only;refine(t9 next n (k+1) _ _ (by rw[γ.length_eraseIdx_of_lt a];lia)).ο ?_;rw[R_.toList_push,SK];refine Perm.append_left _ ?_;show vD a
def qL(next:χ->χ)(l:γ a):(WM next l.Θ).Qx.Perm l:=by
 unfold WM;have:=t9 next l.Θ.Q' 0 l.Θ.Qx #[] ζ;simpa using this
abbrev dw QBP QCs QK5(ts:γ Z5)(ep:χ):γ η:=
 if w.Sw.WG "set-order"=π then(WM QDN (UG QAY ts).Θ).Qx.Q_ QBr else(UG QAY ts).Q_ QBr
def f_h:(dw w a m ts b).Perm ((UG QAY ts).Q_ QBr):=by
 unfold dw;split
 .exact (qL _ _).Q_ _
 .exact .X9 _
abbrev Wy QBP(m i:χ):χ:=if w.Sw.WG "set-order"=π then 0 else if i=0 then 0 else(d_ m).LT (i-1) 0+1
section
variable{P:Id}{w:QW}{A:Qy}{E:η->ω->Prop}{s:ω}{a I:θ}{m i ep:χ}{oS:UQ}{ts:γ Z5}
def j7(n:m<256)(f:ts.β=(d_ m).β)(l:s.ρ.Δ a<*oS)(p:oS.RH=.Uw (UG QAY ts).Θ ep QB9)(q:i≤(d_ m).β)(h1:∀v,(dw w a m ts ep)[i]?<*v->Q (δ (v,Wy w m (i+1),)) s)(h2:i=(d_ m).β->Q ε s):Fr QA' A (setNext a (Wy w m i) i ep) Q E s:=by
 let hz:(UG QAY ts).Θ.Q'=(d_ m).β:=by rw[Qu,CY f]
 let o:(ao QKd QAY).fits (UG QAY ts).Θ.Q'=π:=by rw[hz];show(bR _ n QDt).2
 let h:(dw w a m ts ep).β=(d_ m).β:=by rw[f_h.length_eq,j',CY f]
 unfold setNext;refine e_ (UO l p o ?_);dsimp only;unfold setsByText;refine e_ (e_ (W7 QBv));dsimp only;by_cases c:w.Sw.WG "set-order"=π
 .rw [show(LE P w).w.Sw.WG "set-order"=π from c,IO ζ];rw[Cl (!1)];let k:Wy w m i=0:=by unfold Wy;rw[IO c]
  let j:Wy w m (i+1)=0:=by unfold Wy;rw[IO c]
  rw[k];unfold setWalk;refine e_ (e_ (UO l p o ?_));dsimp only;unfold setsByText;refine e_ (e_ (W7 QBv));dsimp only;rw[show(LE P w).w.Sw.WG "set-order"=π from c,IO ζ];refine e_ (W7 QHC);let e:dw w a m ts ep=(WM QDN (UG QAY ts).Θ).Qx.Q_ QBr:=IO c;rw[j,e]at h1;rw[e,j']at h;by_cases b:i<(d_ m).β
  .let hlt':i<(WM QDN (UG QAY ts).Θ).Qx.β:=BW b h
   let g:=h1 _ (by rw[na,j_ hlt'];rfl);change Q QHf s;rw[<-Ux,j_ hlt'];show g
  .change Q QHf s;rw[<-Ux,T8 (GP h b)];show h2 (Eg b q)
 .let cf:w.Sw.WG "set-order"=ν:=by simpa using c
  rw[show(LE P w).w.Sw.WG "set-order"=ν from cf];rw[Cl Ψ.RE];refine VZ (λz=>QL z λy=>Ψ.RE y) λ_=>?_;let d:aw w=π:=by unfold aw;rw[cf];rfl
  refine e_ (show Fr _ _ (if (! QKd&&!(UG QAY ts).Θ.Vs)=π then _ else _) _ _ _ from ?_);rw[d];refine VZ (λz=>QL z λy=>Ψ.RE y) λ_=>h9 ?_;let k:Wy w m i=if i=0 then 0 else(d_ m).LT (i-1) 0+1:=by unfold Wy;rw[Cl c]
  let j:Wy w m (i+1)=(d_ m).LT i 0+1:=by unfold Wy;rw[Cl c,Cl (!6)];rfl
  let r:Ve.below (ao π QAY).T7 (Wy w m i)=i:=by rw[k];show(bR π n q).1
  let e:dw w a m ts ep=(UG QAY ts).Q_ QBr:=Cl c;rw[j,e]at h1;refine h9 ?_;rw[r];by_cases b:i<(d_ m).β
  .let hlt':i<(UG QAY ts).β:=by rw[CY f];show b
   let g:=h1 _ (by rw[na,j_ hlt'];rfl);rw[show(UG QAY ts).Θ[i]?<*(UG QAY ts)[i] by simp[hlt'],show(ao π QAY).T7[i]?<*QAY[i] by simp[ao,b]];rw[cE b]at g;show g
  .rw [show(UG QAY ts).Θ[i]?=ε by simp[CY f];show Ck b];show h2 (Eg b q)
abbrev Md QBP QKP(I a:θ)(m i ep:χ):Prop:=∃o,h.Δ I=δ o/\o.SS=.QU "set_iterator"/\o.RH=.SD #[R6 (Wy w m i),R6 i,.ξ a,R6 (d_ m).β,R6 ep]
def Md.QU(x:Md w s.ρ I a m i ep):s.Vi QE' "set_iterator":=let⟨o,b,c,_⟩:=x;(o,b,c)
def O9(J:A.SX=ε)(p:m<256)(j:ts.β=(d_ m).β)(t:oS.RH=.Uw (UG QAY ts).Θ ep QB9)(u:a≠I):Walks P w A I [I,a] [I] (d_ m).β QJH (λi h=>Md w h I a m i ep/\h.Δ a<*oS) where
 Vk:=λb l=>by simp at l;simp[l]
 Vx:=λi h h' st k=>by
  let⟨⟨o,f,r⟩,g⟩:=st;show((o,k I (!1) o f,r),k a (!1) _ g)
 Yi:=λi s Q E D st q=>by
  let⟨x,g⟩:=st;let d:=x.QU;let⟨o,f,F,c⟩:=x;let y:(ao QKd QAY).fits (UG QAY ts).Θ.Q'=π:=by rw[Qu,CY j];show(bR _ p QDt).2
  unfold WE;refine e_ (V3 (Sg (Ss:=QF.Rj "__next__") d b_z (SV b_z d NX ?_ (NY _))));refine e_ QIr;change Fr _ _ (setEntries a>>=_) _ _ s;unfold setEntries;refine e_ (e_ (UO g t y QBv));rw[Qu,CY j];refine VZ (λz=>QL z (!1)) λ_=>?_;refine e_ (j7 (i:=i) p j g t (Uq D) (λv n=>?_) λz=>QL z (RM D));change Fr _ _ (setField QE' 0 (R6 (Wy w m (i+1)))>>=_) _ _ s;let H:=Rs (TX QEb) f (TV (Sa c _));let d1:=Sa c QEb;refine e_ (Uo f c (!1) (e_ (Uo H d1 (!1) ?_)));let L:=Rs (TX QFt) H (TV (Sa d1 _));let d2:=Sa d1 QFt;let B:=(Tb.Sq s.ρ I (TX QEb)).ο (Tb.Sq _ I (TX QFt));refine h9 (0,h9 (q v _ s.QT n ((_,L,3,3),(B.2 a u).ο g) λb C l e=>(B.2 b (λz=>l (by simp[z]))).ο e))
  .rw [UQ.cls_mapFields,UQ.cls_mapFields];show F
  .rw [d2];simp[R6]
 done:=λs Q E st q=>by
  let⟨x,g⟩:=st;let d:=x.QU;let⟨o,f,F,c⟩:=x;let y:(ao QKd QAY).fits (UG QAY ts).Θ.Q'=π:=by rw[Qu,CY j];show(bR _ p QDt).2
  unfold WE;refine e_ (V3 (Sg (Ss:=QF.Rj "__next__") d b_z (SV b_z d NX ?_ (NY _))));refine e_ QIr;change Fr _ _ (setEntries a>>=_) _ _ s;unfold setEntries;refine e_ (e_ (UO g t y QBv));rw[Qu,CY j];refine VZ (λz=>QL z (!1)) λ_=>?_;refine e_ (j7 (i:=(d_ m).β) p j g t QA2 (λv n=>?_) λ_=>?_)
  .rw [T8 (by rw[f_h.length_eq,j',CY j];show QA _)]at n;cases n
  .change Fr _ _ (setField QE' 2 .ε>>=_) _ _ s;refine e_ (Uo f c (!1) QDa);simp only[newExc,newTuple];refine e_ QGh;refine e_ (m:=Zi _ _) (SR (a:=η.ε) (by first|rfl|(simp only[Zi];rfl)) QGh);simp only[raiseNew];refine e_ QFX;rw[show A.Xz.SX=ε from J];refine e_ (h9 (YC ?_));refine e_ (Vp (T:="StopIteration") (b:=π) QEr isSubtype_stop (h9 (q _ s.QT λb C l e=>?_)));show((Tb.Sq s.ρ I (TX (·.Ra 2 .ε))).Wp.Rm _).Rm _ b C (λz=>l (by simp[z])) e
 self:=λi s Q E st q=>by
  let d:=st.1.QU;refine wpAny_pyIter_slot d NW (SV NW d gg (show Fr _ _ (ret QE') _ _ s from ?_) (jC _));show h9 (0,"set_iterator",_,d,b_z.ς,q)
def O_(j:m<256)(f:ts.β=(d_ m).β)(b:s.ρ.Δ a<*oS)(h:oS.ExactSet)(d:oS.RH=.Uw (UG QAY ts).Θ ep QB9)(q:Q QAX {s with ρ:=s.ρ.Rm {SS:=.QU "set_iterator",RH:=.SD #[R6 (Wy w m 0),R6 (0:χ),.ξ a,R6 (d_ m).β,R6 ep]} }):Fr QA' A (YX QAd) Q E s:=by
 let g:s.Vi QAd "set":=(oS,b,h.1);let c:(ao QKd QAY).fits (UG QAY ts).Θ.Q'=π:=by rw[Qu,CY f];show(bR _ j QDt).2
 refine wpAny_pyIter_slot g Ξ.F.slot_set_iter (SV Ξ.F.slot_set_iter g jo ?_ (Ξ.F.args_set_iter_1 _));unfold Builtin.«frozenset.__iter__»;refine e_ (show Fr _ _ (pure a) _ _ s from h9 ?_);unfold Builtin.Frozenset.sizeOf setEntries;refine e_ (e_ (e_ (UO b d c QHC)));unfold setDrawn;refine e_ (e_ (UO b d c ?_));unfold setsByText;refine e_ (e_ (W7 QHC));let e:(!(LE P w).w.Sw.WG "set-order"&&ν)=ν:=by simp
 refine VZ (λz=>QL (e.QI.ο z) Ψ.RE) λ_=>e_ QBv;unfold setEpoch;refine e_ (e_ (UO b d c QBv));refine e_ (Si (h9 (0,"set_iterator",_,QEr,b_z.ς,3)));let k:(Wy w m 0:Λ)=0:=by unfold Wy;split<;>rfl
 rw[k]at q;simpa[R6,CY f]using q
def O'(d:s.Vi QAd "set")(h:Q ν s):Fr QA' A (Builtin.γ.Xx QAd) Q E s:=by
 unfold Builtin.γ.Xx;refine e_ (VX d Ξ.F.slot_set_len.ς ?_);generalize c:("set.__len__":X5)=e
 wp_delta
 rw[show splitId e<*("set","__len__",)from by subst c;decide +kernel];subst c;refine e_ (Vp (T:="set") (b:=π) d (by rw[UE];kernel_rfl) (VZ QKe λ_=>?_));show VZ (λ_=>e_ (Xf d (h9 h))) λz=>QL (!3) z
def Me(d:m<256)(e:ts.β=(d_ m).β)(c:oS.ExactSet)(f:oS.RH=.Uw (UG QAY ts).Θ ep QB9):Ξ.W.KdlSrc P w "set" a a (d_ m).β QJH (λh=>h.Δ a<*oS) where
 QU:=λ_ b=>(oS,b,c.1)
 Uf:=λ_ b=>(lt_size b,lt_size b)
 UB:=λ_ _ b k=>k a QAz _ b
 notList:=by decide
 notTuple:=by decide
 hint:=λ_ _ _ _ b q=>O' (oS,b,c.1) q
 UC:=λ_ _ g b=>(8,(λ_ _ q=>O_ d e b c f q),O9 g d e f (RM (lt_size b)),(QC',o9 _ b))
def pP:∀{ks:LN}{ts:γ Z5},ts.β=ks.β->XN ((UG ks ts).Q_ QBr) (ks.Q_ λ(n:χ)=>(n:Λ))
 |[],_,_=>.S5
 |k::ks,t::ts,h=>.Rc (k:Λ) t (pP QDr)
def rG(p:g.Perm l):∀{ns:γ Λ},XN l ns->∃b,XN g b/\b.Perm ns:=by
 induction p with
 |S5=>show λh=>(_,h,.X9 _)
 |Rc x p j=>
  intro ns h;cases h with
  |Rc n t h=>
   let⟨b,d,c⟩:=j h;show(n::b,.Rc n t d,c.Rc n)
 |swap x y l=>
  intro ns h;cases h with
  |Rc n t h=>cases h with
   |Rc f t' h=>show(_,.Rc f t' (.Rc n t h),.swap _ _ _)
 |ο r q i1 i2=>
  intro ns h;let⟨n1,d,c⟩:=i2 h;let⟨e,o,k⟩:=i1 d;show(e,o,k.ο c)
def yf QK5:((d_ m).Q_ λ(n:χ)=>(n:Λ)).Pairwise (·≤·):=by
 rw[γ.pairwise_map];show((γ.pairwise_lt_range (n:=8)).VF _).imp λh=>by lia
def Pa(K:Ξ.W.KdlSrc P w T a a n u OK)(B:A.SX=ε)(j:OK s.ρ)(v:n≤Φ)(q:∀QJu(h:χ)(d:R_ η),s⁻¹≤h'.SN.Q'->QBY->ItemsOf u d n->R d.Qx {s with ρ:=h',QT:=h}):Fr QA' A (collect QAd) R E s:=by
 let t:=(K.Uf _ j).1;unfold collect;refine e_ (ZS (TH entry_proto_collect' ?_));rw[Qy.Ue Ξ.F.plain_proto_collect _];refine(show Fr _ A.Xz (newList []>>=λl=>again (.RJ "list.__iadd__" ([l,.ξ a],[]))) _ _ s from e_ (Si (h9 (U8 Ξ.F.ZD _,TH entry_list_iadd' ?_))));rw[Qy.Ue Ξ.F.ZD _];let C:(s.ρ.Rm {SS:=.QU "list",RH:=.WA ([]:γ η).Θ}).Δ s⁻¹<*{SS:=.QU "list",RH:=.WA #[]}:=QN _ ζ;let p:=Ξ.W.kdl_extend (A:=A) (s:={s with ρ:=s.ρ.Rm {SS:=.QU "list",RH:=.WA ([]:γ η).Θ} })
  (R:=λ(r:Result)(s':ω)=>∃(h':RC)(h:χ)(d:R_ η)(c:χ),r=.ok (.ret (.ξ s⁻¹))/\s'={s with ρ:=h',QT:=h}/\(∀b o,s.ρ.Δ b<*o->h'.Δ b<*o)/\
   h'.Δ s⁻¹=δ {SS:=.QU "list",Uk:=ε,RH:=.WA d c,XR:=#[]}/\ItemsOf u d n)
  K B (K.UB _ _ j λb _ o e=>o9 _ e) s⁻¹ (XT t) (XT t) QAX 0 C
  (λh' h d c k g z=>(h',h,d,c,5,λb o e=>k b o QKn QIg,g,z)) v
 refine(show Fr _ A.Xz (Builtin.γ.Wl QAX QAd QAX) _ _ _ from RQ p (λf s' x=>?_) λe s' x=>?_)
 .cases f with
  |done f=>
   let⟨h',h,d,c,e,ζ,k,g,z⟩:=x;cases e;show(show Fr _ A (load s⁻¹>>=_) _ _ _ from e_ QGP)
  |again c1=>
   refine(x.1,Tv x.2 λr s2 y=>?_);let⟨h',h,d,c,ζ,ζ,k,g,z⟩:=y;show(show Fr _ A (load s⁻¹>>=_) _ _ _ from e_ QGP)
 .obtain ⟨_,_,_,_,e',_⟩:=x;cases e'
def Pb(N:A.SX=ε)(t:m<256)(S:bp w s.ρ a m)(q:∀(p:θ)QJu(h n:χ)(vs:γ η),s⁻¹≤p->QBY->XN vs QKw->h'.Δ p<*{SS:=.QU "list",RH:=.WA vs.Θ n}->Q QAp {s with ρ:=h',QT:=h}):Fr QA' A (UZ (.RJ "sorted") [.ξ a]) Q E s:=by
 let⟨oS,ts,ep,M,L,u,R⟩:=S;refine Ξ.Vf.call_function_entry kind_sorted plain_sorted entry_sorted (args_sorted1 _) ?_;unfold Builtin.«sorted»;refine e_ (m:=checkCount "sorted" 1 1 _) (h9 (e_ (Pa (A:=A.Xz) (Me (P:=P) t u L R) N M (by rw[S'];have:=(iD (k:=0) t (!0)).2.2.1;show Ft this) λh' h c hsz C f=>?_)));let d:c.Qx.β=(d_ m).β:=by rw[UA];show f.1
 let U:=(iD (k:=0) t (!0)).2.2.1;let r:(dw w a m ts ep).β=(d_ m).β:=by rw[f_h.length_eq,j',CY u]
 let g:c.Qx=dw w a m ts ep:=by
  refine YM (by rw[d,r]) λj H F=>?_;have:(dw w a m ts ep)[j]?<*c.Qx[j]:=f.2 j c.Qx[j] (by rw[<-Ux];show j_ H);rw[j_ F]at this;show(ψ.δ.Tp this).QI
 refine e_ (wpAny_newList ?_ (by rw[d,S'];show Ft U));let v:(h'.Rm {SS:=.QU "list",RH:=.WA c.Qx.Θ}).Δ h'.SN.Q'<*seqObj "list" c.Qx.Θ 0:=QN _ ζ;let B:∃ns,XN c.Qx ns/\ns.Perm QKw:=by
  rw[g];show rG f_h (pP u)
 let⟨ns,B,hp⟩:=B;refine e_ (RZ ?_);refine SV slot_list_sort (_,v,1) entry_list_sort (list_sort_tree v B (by rw[d];lia) λYG l i1 i2 J=>?_) (args_list_sort _);let T:l=(d_ m).Q_ λ(n:χ)=>(n:Λ):=Perm.eq_of_pairwise (λx y _ _ h1 h2=>Λ.WQ h1 h2) J (yf m) (i2.ο hp);subst T;refine(0,h9 (0,3));let⟨e,O⟩:=sortedHeap_at (YG:=YG) v;refine q h'.SN.Q' _ h e YG.Qx ?_ (λb o z=>?_) i1 (by simpa using O)
 .exact hsz
 .let D:=lt_size (C b o z);show(sortedHeap_old (RM D) (by rw[size_push'];show χ.XL D)).ο (o9 _ (C b o z))
end
end L2
namespace RA
open PyProof.Rows L2
abbrev zq QBP QCs QK5:HO:=.ext λh=>bp w h a m
def wT(x:bp w h a m):Ai P w H h a (zq w a m):=(x,let⟨o,_,_,e,_⟩:=x;(o,e),λh1 h2 z k=>bp.UB z λo e=>k o e)
def pF:∀{ns:LN}QCH,ad QJa us->∀QBB(v:η),us[i]?<*v->∃t,v=.QG ((ns.LT i 0:χ):Λ) t
 |[],_,r,i,v,e=>by cases r;simp at e
 |n::ns,_,r,i,v,e=>by
  cases r with
  |Rc q a=>
   let⟨t,ζ⟩:=q;cases i with
   |Xe=>cases e;show(t,1)
   |Wu i=>show pF a i v e
def d_I:∀{ns:LN}{vs:γ η},XN vs (ns.Q_ λ(n:χ)=>(n:Λ))->ad QJa vs
 |[],_,h=>by cases h;show .S5
 |n::ns,_,h=>by cases h with|Rc _ t h=>show .Rc (t,1) (d_I h)
section
variable{X:Cx}
def rZ(i:X.XV=π):C7 X (.QU "set") (λxs H Q=>∃(p:θ)(ns:LN),xs=[.ξ p]/\k9 X.K H p QJa/\(∀n∈ns,n<8)/\∀a,H a=ε->Q QAd (QO H a (zq X.w a (Dp ns)))):=by
 intro c s k H xs us Q I r h;let⟨p,ns,ζ,g,j,q⟩:=h;let⟨u,ζ,e⟩:=Ch r;cases e;let⟨R9,b,pl,hz⟩:=I.V8 g;refine O8 (ns:=ns) (I.ok.hd i) pl.VE (by rw[<-b.β];simp[b_]) j (pF b) λh' d x f=>?_;show(.ξ s⁻¹,_,I.Xy (t':=d) f QA2 (wT x),1,q _ QDA)
def oA(i:X.XV=π):C7 X (.RJ "sorted") (λxs H Q=>∃(a:θ)(m:χ),xs=[.ξ a]/\m<256/\H a=δ (zq X.w a m)/\∀p,H p=ε->Q QAp (QO H p (.QV (b_ QAY)))):=by
 intro b s t H xs us Q I r h;let⟨a,m,ζ,c,j,q⟩:=h;let⟨u,ζ,e⟩:=Ch r;cases e;refine Pb (I.ok.hd i) c (show bp X.w s.ρ a m from(I.S8 a _ j).1) λp h' d n vs hp f l g=>?_;refine(.ξ p,_,I.Xy (t':=d) (o:=.QV (b_ QAY)) f hp (3,vs,n,d_I l,g),1,q _ (I.S8.SZ hp));have:=(iD (k:=0) c (!0)).2.2.1;rw[b_,j',S'];show Ft this
end
end RA
namespace RA
section
variable{g:LN->χ->LN}{s:LN}{L:LN}{ks ws R:LL}{Bm:γ Ψ}{k m:χ}
def mn(b:Bf g L s ks ws ks.β 0)QD5(e:R.β=ks.β)QIO:QA7/\Sl L R 0 w=i:=by
 let d:i<ks.β:=by rw[b.TL];show(l' hw).1
 let⟨l1,l2⟩:=b.lead i ks[i] w (j_ d) hw;refine(l1,3);let h1:=L9 b a e _ w ζ l1;rw[l2]at h1;show jh b.nd h1 (j_ d)
def jK(n:BG L)(d:Bf g L s ks ws ks.β 0)QD5(l:R.β=ks.β)QIO(e:∀c∈v,c∈L)(h:Sl L R 0 v=i):u6 L v w=ν:=by
 let⟨j,b,p,f,o⟩:=d.told n.nd v _ ζ e;let h1:=L9 d a l _ v ζ e;rw[h]at h1;have:j=i:=jh d.nd p h1;rw[this,hw]at f;cases f;show o
def lj QBi QCB(b:bq QAN m)(l:r<(Aj R QAN m).β)(j:t<(Aj R QAN m).β)(e:∀u:LN,QAL->(CK Bm QAN m).LT (Sl L QBn r u) ν=(CK Bm QAN m).LT (Sl L QBn t u) ν):r=t:=by
 rw[Aj,j',Rx]at l j;let⟨h,i⟩:=B9 b a l;let⟨f,s2⟩:=B9 b a j;have:=KG a k h f λu d=>by
  let n:=e u d;rw[<-i,<-s2,GE b a st h d,GE b a st f d,JM b a (B6 a h d),JM b a (B6 a f d)]at n;show n
 rw[i,s2]at this;show this
def JU(q:Bf g L s ks ws ks.β 0)(d:CJ g L.β ks R)(x:R.β=ks.β)QBi QCB(h:bq QAN m):∃v,Bo L QBn QIo v:=by
 let f:(Aj R QAN m).β=m:=by rw[Aj,j',Rx]
 let r:ws.β=R.β:=by rw[x,q.TL]
 let b:∀QEH,i<R.β->ws[i]?<*ws.LT i []:=λ{i}C=>by
  rw[nt,j_ (by rw[r];show C)];rfl
 let l0:m8 R Bm k 0=0:=L4 a;let A:∀{u:LN},QAL->Sl L QBn 0 u=m8 R Bm k (Sl L R 0 u):=λ{u}o=>by
  have:=GE h a st a.n1 o;rw[l0]at this;show this
 refine(λj=>ws.LT QIn [],Hi h a,(λj l=>?_,λi j w l=>?_,λu o=>?_),λn B e=>lj a st h n B e)
 .rw [f]at l;let⟨E,D⟩:=B9 h a l;let⟨y,w2⟩:=mn q d x (b E);refine(y,3);rw[A y,w2];show D
 .rw [f]at l;let p:=pL h a w l;show q.srt _ _ _ _ p (b (U1 p (B9 h a l).1)) (b (B9 h a l).1)
 .rw [A o];let n:=B6 a a.n1 o;let t:=yK (k:=k) a n;let h1:=jK a.lt q d x (b n) o ζ;rcases χ.lt_or_eq_of_le t with z|z
  .let h2:=q.srt _ _ _ _ z (b (U1 z n)) (b n);cases e:u6 L u QBD with
   |ν=>rfl
   |π=>rw[Bb e h2]at h1;cases h1
  .change u6 L u QBD=ν;rw[z];show h1
end
end RA
namespace L2
open RA
abbrev cj QDJ QAH:Prop:=∀p∈ts,AB H p.1 p.2
structure KT QDJ QHL:Prop where
 sm:BV H H'
 tb:cj ts H->cj ts H'
section
variable{ts:γ QAc}{H H1 H':Hp}
def KT.of QBs:KT ts H H':=(BV.of s,λh p hp=>GC (h p hp) s)
def KT.ο(a:KT ts H H1)(b:KT ts H1 H'):KT ts H H':=(a.sm.ο b.sm,λh=>b.tb (a.tb h))
def Mf(s:BR P0 H H')(j:AB H P0 R5)(i:P1≠P0)(h:AB H P1 a):AB H' P1 a:=by
 let⟨e,c,_⟩:=j;let⟨ps,k,g,b⟩:=h;refine QBE;rw[z,c]at d;cases d
def KT.ofX(c:(ts.Q_ Yq.fst).R7)(d:(P,R5,)∈ts)(s:BR P H H')(h:AB H P R5)(h':AB H' P R5):KT ts H H':=by
 refine(BV.ofX s h,λa p hp=>?_);by_cases e:p.1=P
 .have:p=(P,R5,):=by
   let⟨i,g,ζ⟩:=γ.getElem_of_mem hp;let⟨j,f,b⟩:=γ.getElem_of_mem d;let k:(ts.Q_ Yq.fst)[i]'(by rw[j'];show g)=(ts.Q_ Yq.fst)[j]'(by rw[j'];show f):=by
    rw[γ.getElem_map,γ.getElem_map,b];show e
   have:=(YL c).mp k;subst this;show b
  rw[this];show h'
 .exact Mf s h e (a p hp)
def KT.Wj QGD(h:u0 H m L W B):u0 H' m L W B:=h.Uh k.sm.Rn
end
abbrev AC QA5 QC9 QAm(u:LN):Ψ:=B.LT (Sl L W 0 u) ν
abbrev P8 QAH(d:θ):Prop:=∃(l l2:θ)(part:V)(xs ys:γ V),H d=δ (AM d [("words",.ξ l,),("tails",.ξ l2,),("part",part,)])/\H l=δ QFn/\H l2<*.QV ys
inductive mK(Xc:θ)QDJ(op:(LN->Ψ)->LN->Prop)QAI QAH QAR QE0:Prop
 |mk (m:θ) QA5 QC9 QAm (_:vs=[.ξ m]) QBf QCS (_:W.β≤8) QEc QBx (_:∀QEx(W':LL)QHo QBW,KT ts H H'->u0 H' f L W' B'->g_ L W' B'->W'.β≤8->QH2->(∀u:LN,QAL->(AC L W' B' u=π↔op (AC L W B) u))->Q QAg H')
inductive cb(Xc:θ)QDJ(op:(LN->Ψ)->(LN->Ψ)->LN->Prop)QAI QAH QAR QE0:Prop
 |mk (m m2:θ) QA5 QHp QD' QEd QJN (_:g_ L W1 B1) QDj (_:g_ L W2 B2) (_:W1.β≤8) (_:W2.β≤8) QEc QBx (_:∀QEx(W':LL)QHo QBW,KT ts H H'->u0 H' f L W' B'->g_ L W' B'->W'.β≤8->QH2->(∀u:LN,QAL->(AC L W' B' u=π↔op QCd QFf u))->Q QAg H')
abbrev dN(P Q:LN->Ψ)(u:LN):Prop:=∃x v,u=x++v/\P x=π/\Q v=π
abbrev i8(P:LN->Ψ)(u:LN):Prop:=P u.Rt=π
abbrev ph(P:LN->Ψ)(u:LN):Prop:=P u=ν
abbrev Dq(r:Ψ->Ψ->Ψ)(P Q:LN->Ψ)(u:LN):Prop:=r (P u) (Q u)=π
def JV(h:m≤8):(Aj R l m).β≤8:=by rw[Aj,j',Rx];show h
end L2
namespace L2
open PySem.Spec PyProof.Rows
def ij{f:St}(o:f[j]?<*δ (.QZ x))(d:θ->χ->γ V->Hp->Prop)(hz:x.β≤Φ)(r:∀D,H D=ε->d D 0 [] (QO H D (.QV [])))(p:∀(D:θ)(i:χ)(v:V)(ys:γ V)(H':Hp)(l:VK)(R2:Hp->Prop),H D=ε->(x.Vu.Qx.Q_ λc=>V.QZ ⟨#[c]⟩)[i]?<*v->a' H H'->H' D<*.QV ys->d D i ys H'->
   (∀y h,h D<*.QV ys->a' H QDf->d D (i+1) QBl QDf->l y h)->(∀a,a' H a->a D<*.QV ys->d D (i+1) ys a->R2 a)->
   tt (δ v::f) H' λb a=>if b=π then n (δ v::f) a l else R2 a)(q:∀D ys H',H D=ε->a' H H'->H' D<*.QV ys->d D x.β ys H'->Q (.ξ D) H'):Eu (z4 (bu j)) tt n f H Q:=by
 let g:(x.Vu.Qx.Q_ λc=>V.QZ ⟨#[c]⟩).β=x.β:=by rw[j',UA];rfl
 refine(_,o,x,1,rT (J:=E_ x) (xs:=x.Vu.Qx.Q_ λc=>V.QZ ⟨#[c]⟩) d (by rw[g];show hz) ?_ ?_ ?_ r p (by rw[g];show q))
 .intro i m _ k;rw[g]at k;show k
 .rintro i m v t _⟨e,c,s,ζ⟩;show(e,by rw[na,Ux,s];rfl)
 .intro m _;rw[g];first|show QA _|rfl|show XB _
end L2
namespace RA
open L2
abbrev BJ QIT:LN:=d_ (Dp l)
def kM{x:χ}:∀{l:LN}{m:χ},(l.foldl (λm k=>m ||| 2^k) m).VB x=(m.VB x||decide (x∈l))
 |[],m=>by simp
 |k::r,m=>by
  rw[γ.foldl_cons,kM (l:=r),χ.testBit_or,χ.testBit_two_pow];by_cases e:k=x
  .subst e;simp
  .simp [e,show ¬ x=k from λz=>e z.QI]
def t_(a:∀x∈l,x<8):x∈BJ l↔x∈l:=by
 unfold BJ d_;rw[VQ,Rr,Dp,kM];simp;show λh=>a x h
abbrev EK QCm:LL:=((γ.Re 256).flatMap λm=>[0::d_ m,1::d_ m]).VF λk=>k.tail.UW (· < n)
def oM QCm:(EK n).β≤512:=by
 unfold EK;refine QB (γ.length_filter_le _ _) ?_;rw[γ.length_flatMap];simp only[RY,WF];decide +kernel
def Ca(a:∀x∈l,x<8)(e:b≤1)(d:∀x∈l,x<n):b::BJ l∈EK n:=by
 unfold EK;rw[VQ,YJ];refine((Dp l,Rr.Sz (cv a),3),3)
 .have:b=0\/b=1:=by lia
  rcases this with ζ|rfl
  .exact Sk
  .exact Q9 _ Sk
 .rw [Ro];show λx c=>RI (d x ((t_ a).mp c))
def sF(h:k∈EK n):∃b S,k=b::S/\b≤1/\(∀x∈S,x<n)/\S.β≤8:=by
 unfold EK at h;rw[VQ,YJ]at h;let⟨⟨m,f,d⟩,c⟩:=h;let e:=(iD (k:=0) (Rr.mp f) (!0)).2.2.1;simp only[QY,SM,TQ]at d;rcases d with ζ|rfl
 .exact ((0),0,!0,λx a=>SW (Ro.mp c x a),e)
 .exact ((1),0,!0,λx a=>SW (Ro.mp c x a),e)
abbrev oo QAm QIT:LN:=if l.U6 QGj=π then 1::BJ (l++[0])else 0::BJ l
abbrev HV QC9 QAm QFb(q:χ):LN:=oo B (gA W k.tail q)
abbrev zO QFb:Ψ:=decide (k.headD 0=1)
section
variable{L:LN}{W:LL}{B:γ Ψ}
def ia(f:g_ L W B)(e:∀x∈S,x<W.β)(d:q<L.β):∀x∈gA W S q,x<W.β:=by
 intro x b;let⟨r,c,ζ⟩:=TZ.mp b;let hw:=DE f (e r c);let a:q<(W.LT r []).β:=by rw[hw.1];show d
 rw[nt,j_ a];show hw.2 _ (Rv a)
def vF(d:W.β≤8)(h1:1≤W.β)(b:∀x∈l,x<W.β):oo B l∈EK W.β:=by
 let c:∀x∈l,x<8:=λx a=>QD (b x a) d;unfold oo;split
 .refine Ca (λx a=>?_) (!0) (λx a=>?_)
  .rcases Rp.mp a with z|z
   .exact c x z
   .rw [yl z];decide
  .rcases Rp.mp a with z|z
   .exact b x z
   .rw [yl z];show h1
 .exact Ca c (!0) b
def FP(a:g_ L W B)(f:W.β≤8):∀k∈EK W.β,∀q,q<L.β->HV W B k q∈EK W.β:=by
 intro k d q c;let⟨b,S,ζ,_,e,_⟩:=sF d;show vF f a.n1 (ia a e c)
inductive Ag(T:LN->Ψ):LN->Prop
 |S5:Ag T []
 |Xi {x v:LN}:Ag T x->v≠[]->T v=π->Ag T (x++v)
def Ag.last(h:Ag T u)(a:u≠[]):∃x v,u=x++v/\v≠[]/\Ag T x/\T v=π:=by
 cases h with
 |S5=>show QL ζ a
 |@Xi x v h1 h2 b=>show(x,v,1,h2,h1,b)
def cT{u x v:LN}(h:u++[c]=x++v)(b:v≠[]):∃a,v=a++[c]/\u=x++a:=by
 rcases γ.eq_nil_or_concat v with ζ|⟨a,d,ζ⟩
 .exact QL ζ b
 .rw [γ.concat_eq_append,<-SK]at h;let⟨h1,h2⟩:=γ.append_inj' h ζ;cases h2;show(a,!1,h1)
def Pc(l:g_ L W B)(E:W.β≤8):∀QCm(u:LN),u.β=n->QAL->
  ∃b S,aR (HV W B) L [1,0] u=b::S/\(b=1↔Ag QAy u)/\(∀x∈S,x<W.β)/\∀r,r∈S↔∃x v,u=x++v/\Ag QAy x/\r=Sl L W 0 v:=by
 intro n;induction n with
 |Xe=>
  intro u i _;cases TB.mp i;refine((1),[0],1,(λ_=>.S5,λ_=>rfl),λx d=>by rw[yl d];show l.n1,λr=>?_);rw[To];constructor
  .rintro ζ;show([],[],1,.S5,1)
  .rintro⟨x,v,e,_,ζ⟩;let⟨_,ζ⟩:=γ.append_eq_nil_iff.mp e.QI;rfl
 |Wu n w=>
  intro u i m;rcases γ.eq_nil_or_concat u with ζ|⟨u,c,ζ⟩
  .cases i
  rw[γ.concat_eq_append]at i m⊢;let⟨b,S,J,O,I,q⟩:=w u (by simpa using i) λx d=>m x (by simp[d]);let C:c∈L:=m c (!1);let A:L.QP c<L.β:=γ.idxOf_lt_length_iff.Sz C;let f:=ia l I A;let o:∀x∈gA W S QBS,x<8:=λx d=>QD (f x d) E;let j:∀r,r∈gA W S QBS↔∃x v,u=x++v/\Ag QAy x/\r=Sl L W 0 (v++[c]):=by
   intro r;unfold gA;rw[TZ];constructor
   .rintro⟨t,hr',ζ⟩;let⟨x,v,h1,h2,ζ⟩:=(q t).mp hr';show(x,v,h1,h2,by rw[Ev];rfl)
   .rintro⟨x,v,h1,h2,ζ⟩;show(Sl L W 0 v,(q _).Sz (x,v,h1,h2,1),by rw[Ev];rfl)
  let a:(gA W S QBS).U6 QGj=π↔Ag QAy (u++[c]):=by
   rw[Zs];constructor
   .rintro⟨r,y,D⟩;let⟨x,v,ζ,h2,ζ⟩:=(j r).mp y;rw[SK];show .Xi h2 (!1) D
   .intro h;let⟨x,v,h1,h2,H,F⟩:=h.last (!1);let⟨k,ζ,ζ⟩:=cT h1 h2;show(_,(j _).Sz (x,k,1,H,1),F)
  let Vw:∀r,(∃x v,u++[c]=x++v/\Ag QAy x/\r=Sl L W 0 v)↔r∈gA W S QBS\/(Ag QAy (u++[c])/\r=0):=by
   intro r;constructor
   .rintro⟨x,v,h1,h2,ζ⟩;by_cases p:v=[]
    .subst p;rw[Tx]at h1;subst h1;show .Rh (h2,1)
    .obtain ⟨k,ζ,ζ⟩:=cT h1 p;show .RN ((j _).Sz (x,k,1,h2,1))
   .rintro (h|⟨h,ζ⟩)
    .obtain ⟨x,v,ζ,h2,ζ⟩:=(j r).mp h;show(x,v++[c],by rw[SK],h2,1)
    .exact (u++[c],[],!1,h,1)
  rw[KN,J];change ∃M N,oo B (gA W S QBS)=M::N/\_;unfold oo;by_cases g:(gA W S QBS).U6 QGj=π
  .rw [IO g];let s:∀x∈gA W S QBS++[0],x<8:=λx d=>by
    rcases Rp.mp d with z|z
    .exact o x z
    .rw [yl z];decide
   refine((1),0,(λ_=>a.mp g,λ_=>rfl),λx d=>?_,λr=>?_)
   .rcases Rp.mp ((t_ s).mp d)with z|z
    .exact f x z
    .rw [yl z];show l.n1
   .rw [t_ s,Vw,Rp,To];constructor
    .rintro (z|z)
     .exact .RN z
     .exact .Rh (a.mp g,z)
    .rintro (z|⟨_,z⟩)
     .exact .RN z
     .exact .Rh z
  .rw [Cl g];refine((0),0,(λz=>(by cases z),λz=>QL (a.Sz z) g),λx d=>f x ((t_ o).mp d),λr=>?_);rw[t_ o,Vw];constructor
   .exact .RN
   .rintro (z|⟨z,_⟩)
    .exact z
    .exact QL (a.Sz z) g
def vZ QI_(e:W.β≤8)QKS:zO (aR (HV W B) L [1,0] u)=π↔Ag QAy u:=by
 let⟨b,S,g,f,_⟩:=Pc d e _ u ζ a;rw[g];change decide (b=1)=π↔_;rw[decide_eq_true_iff];show f
def Ag.congr(h:Ag T u):(∀v,(∀c∈v,c∈u)->T v=T' v)->Ag T' u:=by
 induction h with
 |S5=>show λ_=>.S5
 |@Xi x v h1 h2 d b=>
  intro k;refine .Xi (b λw hw=>k w λc a=>by simp[hw c a]) h2 ?_;rw[<-k v λc a=>by simp[a]];show d
end
section
variable{T:LN->Ψ}{w:LN}{i k:χ}{gl:γ Ψ}
end
abbrev Ed(n1 n2:χ):LL:=((γ.Re n1).flatMap λr=>(γ.Re 256).Q_ λm=>r::d_ m).VF λk=>k.tail.UW (· < n2)
def wB(a:χ)(h:n1≤8):(Ed n1 a).β≤2048:=by
 unfold Ed;refine QB (γ.length_filter_le _ _) ?_;rw[γ.length_flatMap];simp only[j',Rx,γ.map_const',γ.sum_replicate_nat];lia
def FQ(a:∀x∈l,x<8)(d:r<n1)(e:∀x∈l,x<b):r::BJ l∈Ed n1 b:=by
 unfold Ed;rw[VQ,YJ];refine((r,Rr.Sz d,TZ.Sz (Dp l,Rr.Sz (cv a),1)),3);rw[Ro];show λx c=>RI (e x ((t_ a).mp c))
def mv(h:k∈Ed n1 a):∃r S,k=r::S/\r<n1/\(∀x∈S,x<a)/\S.β≤8:=by
 unfold Ed at h;rw[VQ,YJ]at h;let⟨⟨r,d,f⟩,c⟩:=h;let⟨m,e,ζ⟩:=TZ.mp f;show(r,0,Rr.mp d,λx b=>SW (Ro.mp c x b),(iD (k:=0) (Rr.mp e) (!0)).2.2.1)
abbrev inT(B1:γ Ψ)(r:χ)QIT:LN:=if B1.LT r ν=π then l++[0]else l
abbrev gh(B1:γ Ψ)(r:χ)QIT:LN:=r::BJ (inT B1 r l)
abbrev HW(W1:LL)(B1:γ Ψ)(W2:LL)QFb(q:χ):LN:=gh B1 (UU W1 (k.headD 0) q) (gA W2 k.tail q)
abbrev zN(B2:γ Ψ)QFb:Ψ:=k.tail.U6 λr=>B2.LT r ν
section
variable{L:LN}{W1 W2:LL}{B1 B2:γ Ψ}
def ji:x∈inT B1 r l↔x∈l\/(B1.LT r ν=π/\x=0):=by
 unfold inT;split
 .rename_i c;rw[Rp,To];show(λz=>z.imp id λy=>(c,y),λz=>z.imp id λy=>y.2)
 .rename_i c;show(.RN,λz=>z.SJ id λy=>QL y.1 c)
def eL(b:∀x∈l,x<n)(h1:1≤n):∀x∈inT B1 r l,x<n:=λx a=>by
 rcases ji.mp a with z|⟨_,ζ⟩
 .exact b x z
 .exact h1
def lv(d:W2.β≤8)(h1:1≤W2.β)(c:r<W1.β)(a:∀x∈l,x<W2.β):gh B1 r l∈Ed W1.β W2.β:=
 FQ (λx b=>QD (eL a h1 x b) d) c (eL a h1)
def xT(b:g_ L W1 B1)(a:g_ L W2 B2)(g:W2.β≤8):∀k∈Ed W1.β W2.β,∀q,q<L.β->HW W1 B1 W2 k q∈Ed W1.β W2.β:=by
 intro k e q c;let⟨r,S,ζ,d,f,_⟩:=mv e;show lv g a.n1 (Cj b d c) (ia a f c)
def yY(w:g_ L W1 B1)(b:g_ L W2 B2)(i:W2.β≤8):∀QCm(u:LN),u.β=n->QAL->
  ∃S,aR (HW W1 B1 W2) L QKD u=Sl L W1 0 u::S/\(∀x∈S,x<W2.β)/\∀r,r∈S↔∃x v,u=x++v/\B1.LT QIs ν=π/\r=Sl L W2 0 v:=by
 intro n;induction n with
 |Xe=>
  intro u d _;cases TB.mp d;let a0:∀x∈inT B1 0 [],x<W2.β:=eL (!1) b.n1;refine(BJ (inT B1 0 []),1,λx a=>a0 x ((t_ λx a=>QD (a0 x a) i).mp a),λr=>?_);rw[t_ λx a=>QD (a0 x a) i,ji];constructor
  .rintro (z|⟨z,ζ⟩)
   .simp at z
   .exact ([],[],1,z,1)
  .rintro⟨x,v,e,h,ζ⟩;let⟨rfl,ζ⟩:=γ.append_eq_nil_iff.mp e.QI;show .Rh (h,1)
 |Wu n p=>
  intro u d g;rcases γ.eq_nil_or_concat u with ζ|⟨u,c,ζ⟩
  .cases d
  rw[γ.concat_eq_append]at d g⊢;let⟨S,B,A,l⟩:=p u QIk λx a=>g x (by simp[a]);let t:c∈L:=g c (!1);let q:L.QP c<L.β:=γ.idxOf_lt_length_iff.Sz t;let f:=ia b A q;let s:∀r,r∈gA W2 S QBS↔∃x v,u=x++v/\B1.LT QIs ν=π/\r=Sl L W2 0 (v++[c]):=by
   intro r;unfold gA;rw[TZ];constructor
   .rintro⟨o,hr',ζ⟩;let⟨x,v,h1,h2,ζ⟩:=(l o).mp hr';show(x,v,h1,h2,by rw[Ev];rfl)
   .rintro⟨x,v,h1,h2,ζ⟩;show(Sl L W2 0 v,(l _).Sz (x,v,h1,h2,1),by rw[Ev];rfl)
  rw[KN,B];let y:UU W1 (Sl L W1 0 u) QBS=Sl L W1 0 (u++[c]):=by rw[Ev];rfl
  let a0:∀x∈inT B1 (Sl L W1 0 (u++[c])) (gA W2 S QBS),x<W2.β:=eL f b.n1;let j:=λ{x:χ}=>t_ (x:=x) λx a=>QD (a0 x a) i;refine(BJ (inT B1 (Sl L W1 0 (u++[c])) (gA W2 S QBS)),3,λx a=>a0 x (j.mp a),λr=>?_)
  .change gh B1 (UU W1 (Sl L W1 0 u) QBS) (gA W2 S QBS)=_;rw[y];rfl
  .rw [j,ji,s];constructor
   .rintro (⟨x,v,ζ,h2,ζ⟩|⟨h,ζ⟩)
    .exact (x,v++[c],by rw[SK],h2,1)
    .exact (u++[c],[],!1,h,1)
   .rintro⟨x,v,h1,h2,ζ⟩;by_cases k:v=[]
    .subst k;rw[Tx]at h1;subst h1;show .Rh (h2,1)
    .obtain ⟨m,ζ,ζ⟩:=cT h1 k;show .RN (x,m,1,h2,1)
def sO(b:g_ L W1 B1)(a:g_ L W2 B2)(h:W2.β≤8)(e:∀c∈u,c∈L):zN B2 (aR (HW W1 B1 W2) L QKD u)=π↔∃x v,u=x++v/\B1.LT QIs ν=π/\B2.LT (Sl L W2 0 v) ν=π:=by
 let⟨S,j,_,d⟩:=yY b a h _ u ζ e;rw[j];change (S.U6 λr=>B2.LT r ν)=π↔_;rw[Zs];constructor
 .rintro⟨r,f,g⟩;let⟨x,v,h1,h2,ζ⟩:=(d r).mp f;show(x,v,h1,h2,g)
 .rintro⟨x,v,h1,h2,i⟩;show(_,(d _).Sz (x,v,h1,h2,1),i)
end
section
variable{T1 T2:LN->Ψ}{w:LN}{i k:χ}{gl:γ Ψ}
end
end RA
namespace L2
open PySem.Spec PyProof.Rows
abbrev za QDn QBB QFx QG9:TE:=λσ H Q=>∃f,σ[i]?=δ (δ QAg)/\(∃nm RD ar bd sc cl c,H f<*aY f nm RD ar bd sc cl c)/\t σ H λvs H1=>(∃nm RD ar bd sc cl c,H1 f<*aY f nm RD ar bd sc cl c)/\∃U:γ θ,QJ_/\∀YR:RC,bj X U σ H1 YR->
 ∃(k:χ)(sp:Sp)(fd:TY),ak k X.A/\yx X.K fd ps []/\aa X.Ω X.w X.K X.mg YR lb k f fd ps sp/\sp vs (x_ U H1) QFz E0
def pO{j:St}(I:f' X a j H s)(h:∃nm RD i d sc b c,H f<*aY f nm RD i d sc b c):∃m l n k,s.ρ.Δ f<*(m,l,.VL n,k):=by
 let⟨nm,RD,i,d,sc,b,c,e⟩:=h;let⟨⟨Tg,pm,o,g⟩,_⟩:=I.S8 f _ e;show(8,8,g)
def ua QFx QGA(hv:PE X QCU (bu i))(ha:PA X (e::C) t)(O:∀y,X.fn y=π)QG1(L:QJb>>>4):PE X (.T0 QCU (e::C) [] Ri) (za X i ps t):=by
 intro j s E H Q I h;let⟨f,h0,hf,h⟩:=h;refine Rg (nb (hv j s E H (λv D=>v=.ξ f/\D=H) I (_,h0,5)) λfv s0 n=>?_);let⟨v,H0,I0,rv,ζ,ζ⟩:=n;obtain ζ:fv=.ξ f:=rv;refine Ξ.W.callWith_F (pO I0 hf) (nb (ha Ri j s0 E H0 _ I0 h) λus J⟨vs,D,b,r,P,q⟩=>(pO b P,3)) he L;let⟨U,Z,q⟩:=q;let⟨a,e0,w,l⟩:=jJ b.env0 Z;let d:∀y c v,X.QC.UI.ς y<*c->J.ρ.VW c v->a.VW c v:=λy c v g S=>by
  let⟨o,T,R⟩:=S;let Y:=b.X2 y c g;refine(o,l c o T QId ?_,R)
  .rcases QY.mp (b.stkSub c z)with z|z
   .exact b.cne y c g z
   .obtain ⟨_,o',M,_⟩:=b.ok.ZM.mem z;show QL (lt_size M) (not_lt.Sz (b.ok.cab y c (O y) g))
  .unfold x_;split
   .rfl
   .exact Y
 let W:bj X U E D a:=by
  refine(w,e0.Zb,λu φ hu e=>?_,b.ok.Tp,λy c g=>?_,λi y v e1 e2 e3=>?_)
  .obtain ⟨p1,⟨o,T⟩,p3⟩:=b.S8 u _ e;refine p3 _ _ p1 λo2 z=>l u o2 z (λy=>?_) (JD hu);rw[b.Xg u y]at e;cases e
  .obtain ⟨v,z⟩:=b.SF y c g;show(v,d y c v g z)
  .obtain ⟨m,Y,N⟩:=b.loc;let⟨u,ru,lk⟩:=N i y v e1 e2 (.Rh (.RN e3));rcases lk with⟨k1,_⟩|⟨_,c,g,z⟩
   .have:X.QC.RF.QH.ς y<*.local:=k1;rw[e3]at this;cases this
   .exact (c,u,g,d y c _ g z,ru)
 let⟨k,sp,fd,hr,hb,F,B⟩:=q a W;let N:us.β=ps.β:=by rw[<-r.β];show F.TL _ _ _ _ B
 refine US (Tv (F.Sl X.A X.RL J (x_ U D) (us,[]) us vs _ E0 hr e0 (by have:=hb J us b.Xb (by rw[Tx];show N);rwa [Tx]at this) r B) λr s' n=>?_);cases r with
 |WV e=>show Rk.SJ n
 |ok fl=>
  cases fl with
  |ret u=>show b.after (gr b.env0 Z n)
  |next=>show Rk.SJ n
  |brk=>show Rk.SJ n
  |YB=>show Rk.SJ n
end L2
namespace L2
section
variable{X:Cx}{a b e e1 e2 e3 e4:SH}{ta tb te t1 t2 t3 t4:TE}{Ri p:UL}{o:SH}{x:QF}
def l_ QG_(c:QCo>>>4):PA X [e] QKE:=AN h B3 c
def oI(h1:PE X e1 t1)(h2:PE X e2 t2)(c:(BT [e1,e2] X.QC=(ν,Sc e1 X.QC,)::BT [e2] X.QC)>>>4)(s2:(BT [e2] X.QC=(ν,Sc e2 X.QC,)::BT [] X.QC)>>>4):PA X [e1,e2] (AA t1 (AA t2 tNil)):=AN h1 (l_ h2 s2) c
def Aa(h1:PE X e1 t1)(h2:PE X e2 t2)(f:PE X e3 t3)(d:(BT [e1,e2,e3] X.QC=(ν,Sc e1 X.QC,)::BT [e2,e3] X.QC)>>>4)(s2:(BT [e2,e3] X.QC=(ν,Sc e2 X.QC,)::BT [e3] X.QC)>>>4)(c:(BT [e3] X.QC=(ν,Sc e3 X.QC,)::BT [] X.QC)>>>4):PA X [e1,e2,e3] (AA t1 (AA t2 (AA t3 tNil))):=AN h1 (oI h2 f s2 c) d
def Hl(f:PE X a ta)(d:PE X b tb)(c:jG b>>>7):PE X (.Yp a b Ri) (Em (qI X.K) ta tb):=Af jl f d c
def As(f:PE X a ta)(d:PE X b tb)(c:jG b>>>7):PE X (.Yp a b Ri) (Em (w6 X.K) ta tb):=Af jm f d c
def sT QBB{k:Λ}{j}{c:UL}(h:QJ1>>>4)(f:HA X.QC.RF x>>>8)(g:((x==("__debug__":QF))=ν)>>>0)(d:((x==("__classdict__":QF))=ν)>>>0):PE X (.Yp QCU (.Constant (.QG k) j c) Ri) (Em (qI X.K) (bu i) (tC (.QG k))):=Af jl (pv i h f g d) b' QAQ
def BK(f:X.mg "len"=ε)QG_(g:(Gl X "len")>>>4)(d:QCo>>>4)(c:QCN>>>4):PE X (.T0 (.SG "len" p) [e] [] Ri) (Br QCt QKE):=CF G' g f XW (l_ h d) (!0) (!0) d c
def CZ(f:X.mg "len"=ε)QG_(g:(Gl X "len")>>>4)(d:QCo>>>4)(c:QCN>>>4):PE X (.T0 (.SG "len" p) [e] [] Ri) (Br QEi QKE):=CF NC g f XW (l_ h d) (!0) (!0) d c
def HX(d:PE X a ta)(c:PE X b tb):PT X (.Compare a [.NotEq] [b] Ri) (oN (Em rNe ta tb)):=AF Oq d c QCA
def wm(d:PE X a ta)(c:PE X b tb):PT X (.Compare a [.Eq] [b] Ri) (oN (Em rEq ta tb)):=AF gK d c QCA
def nq QBB{c:UL}(k:X.N.R7)(j:PE X e te)(g:QJ1>>>4)(d:C6 X.QC.RF x>>>8)(f:(W9 e (δ (.SG x c)) Ri.XC X.QC=pure ν)>>>4)(h:QA0>>>8):PS X (.Assign [.SG x c] e Ri) (aJ te (AY i)):=zy k g d j f h
def Bp QBB(g:X.N.R7)(d:QJ1>>>4)(c:C6 X.QC.RF x>>>8)(f:QA0>>>8):PG X QEz (AY i):=cn g d c f
def Cb{d c:UL}(g:PE X o t1)QG_(k:(UD o "append" X.QC (Sc o X.QC)=Sc o X.QC)>>>4)(j:(((ST c (BT [e] X.QC)).UW (λx=>!x.1)&&(Yn c (WR [] X.QC)).UW (λx=>x.1.VR)&&decide ([e].β+([]:γ Xn).β+(if ([]:γ Xn).Vs then 0 else 1)<30))=π)>>>4)(i:((d.endLine==c.XC)=π)>>>4)(f:QCo>>>4)(hp:((ST c (BT [] X.QC)).U6 QBF=ν)>>>4):PE X (.T0 (.S7 o "append" d) [e] [] c) (BF X.K "list" rAppend t1 QKE):=b7 UT Ξ.F.slot_list_append Ξ.F.type_list_append gO g (l_ h f) k j i f hp
section
variable{K:RG}{H:Hp}{Q:VK}{c:θ}{xs:γ V}{v x0 x1 x2 x3:V}{i:Λ}{l:γ V}
def EL(d:H c<*.Rn xs)(f:An xs i<*v)(q:Q v H):qI K QAa QJR H Q:=(c,_,2,q5.of d,f,q)
def Ak(d:H c<*.QV xs)(f:An xs i<*v)(q:Q v H):w6 K QAa QJR H Q:=(c,_,2,k9.of d,f,q)
def n_(g:H c<*.Rn xs)(h:An xs i<*v)(q:Q v H)(f:(d[n]?<*δ QAa)>>>4):Em (qI K) (bu n) (tC QJR) d H Q:=(_,f,c,_,2,q5.of g,h,q)
def ai:An (x0::l) 0<*x0:=AS (j:=0) ζ
def aF:An (x0::x1::l) 1<*x1:=AS (j:=1) ζ
def cc:An (x0::x1::x2::l) 2<*x2:=AS (j:=2) ζ
end
end
abbrev NZ(N P:γ QF)QJt:Ψ:=(match sc.Ut with|.UF=>π|_=>ν)&&!sc.Zg&&!sc.Zf&&decide N.R7&&decide (N.R0 P.β=P)&&P.UW (λx=>match sc.QH.ς x with|δ .local=>π|δ .SF=>π|_=>ν)&&sc.QH.UW λy=>match y.2 with|.SB=>ν|_=>π
def r_(h:NZ N P sc=π:=by kernel_rfl):p_ N P sc:=by
 unfold NZ at h;simp only[TW,S3,Wg,Ro]at h;let⟨⟨⟨⟨⟨⟨a,b⟩,c⟩,d⟩,e⟩,f⟩,g⟩:=h;refine(3,b,c,d,e,λx j=>?_,λy i z=>?_)
 .revert a;cases sc.Ut<;>intro a<;>first|rfl|cases a
 .have:=f x j;revert this;cases sc.QH.ς x with
  |ε=>intro a;cases a
  |δ k=>cases k<;>intro a<;>first|show .RN ζ|show .Rh ζ|cases a
 .have:=g y i;rw[z]at this;cases this
abbrev Mg QBQ QEh(st:Rb)QEx:Prop:=∃fd,pd K x x st f fd
def Bk(e:K.ς f<*(c,b,.VL d,a)):Vz K QAg=π:=by
 unfold Vz;dsimp only;rw[show γ.ς f K=_ from e]
def JW{kV Tg pm ct:η}(l:K.ς f<*(e,d,.VL (U_ x x (ri st) (n7 st) QHt .ε kV Tg pm an QEB ct),a))(c:UH K QEB x=π):Mg K x st f:=(_,DA l c (Bk l))
def DQ{b:Type}{l:γ b}(h:l.β=1):∃a,l=[a]:=γ.Wm.mp h
def Hm{c:Type}{l:γ c}(h:l.β=2):∃a b,l=[a,b]:=by
 cases l with
 |S5=>cases h
 |Rc a t=>let⟨b,ζ⟩:=DQ QFR;show(a,b,1)
def Mh{d:Type}{l:γ d}(h:l.β=3):∃a b c,l=[a,b,c]:=by
 cases l with
 |S5=>cases h
 |Rc a t=>let⟨b,c,ζ⟩:=Hm QFR;show(a,b,c,1)
def Mi{e:Type}{l:γ e}(h:l.β=4):∃a b c d,l=[a,b,c,d]:=by
 cases l with
 |S5=>cases h
 |Rc a t=>let⟨b,c,d,ζ⟩:=Mh QFR;show(a,b,c,d,1)
def Pd{f:Type}{l:γ f}(h:l.β=5):∃a b c d e,l=[a,b,c,d,e]:=by
 cases l with
 |S5=>cases h
 |Rc a t=>let⟨b,c,d,e,ζ⟩:=Mi QFR;show(a,b,c,d,e,1)
def Au(F:pd K x q st f c)(h:∀QFJ QKZ(VA ct a:η),Zp QAl QKv=pure ([q0].X6 [a]):=by intros;rfl):yx K c [q0] []:=F.binds λ_ _ _ _ _ _ us b=>by let⟨_,ζ⟩:=DQ b;show h _ _ _ _ _ _ _
def Av(F:pd K x q st f e)(h:∀QFJ QKZ(VA ct b a:η),Zp QAl ([b,a],[])=pure ([q0,c].X6 [b,a]):=by intros;rfl):yx K e [q0,c] []:=F.binds λ_ _ _ _ _ _ us d=>by let⟨_,_,ζ⟩:=Hm d;show h _ _ _ _ _ _ _ _
def EM(F:pd K x q st f i)(h:∀QFJ QKZ(VA ct c b a:η),Zp QAl ([c,b,a],[])=pure ([q0,e,d].X6 [c,b,a]):=by intros;rfl):yx K i [q0,e,d] []:=F.binds λ_ _ _ _ _ _ us g=>by let⟨_,_,_,ζ⟩:=Mh g;show h _ _ _ _ _ _ _ _ _
def N0(F:pd K x q st f k)(h:∀QFJ QKZ(VA ct d c b a:η),Zp QAl ([d,c,b,a],[])=pure ([q0,i,g,e].X6 [d,c,b,a]):=by intros;rfl):yx K k [q0,i,g,e] []:=F.binds λ_ _ _ _ _ _ us j=>by let⟨_,_,_,_,ζ⟩:=Mi j;show h _ _ _ _ _ _ _ _ _ _
def N1(F:pd K x q st f m)(h:∀QFJ QKZ(VA ct e d c b a:η),Zp QAl ([e,d,c,b,a],[])=pure ([q0,k,j,i,g].X6 [e,d,c,b,a]):=by intros;rfl):yx K m [q0,k,j,i,g] []:=F.binds λ_ _ _ _ _ _ us l=>by let⟨_,_,_,_,_,ζ⟩:=Pd l;show h _ _ _ _ _ _ _ _ _ _ _
end L2
namespace L2
open PySem.Spec PyProof.Rows
def pd.Xw{P:Id}{w:QW}{K:RG}{st:Rb}(F:pd K x RD st f c)(S:p_ N ps (hI st))(a:∀(VA:η)(A:Qy)(KK:γ YT)(s:ω)(H:Hp)(vs:γ V)(Q:VK)(E:XK),ak k (A.VU (XG RD (hI st) s⁻¹ f VA))->b vs H Q E->
   ∃t,Bd (aP lb P w K mg υ N RD (hI st) f VA A KK s H E).nox (n7 st) t/\t {nx:=λ_ H'=>Q .Uv H',rt:=Q} (WJ N vs) H)(TL:∀vs H Q E,b vs H Q E->vs.β=ps.β:=by intro _ _ _ _ h;first|(cases h;subst_vars;rfl)|((repeat let⟨_,h⟩:=h);subst_vars;rfl)):aa P w K mg υ lb (k+1) f c ps b:=F.ok S TL a
def JX{e:CXT}{P:Id}QF3 QC7 QFI{υ h:RC}(X:K.In h)(G:h.Ns RB mg){x:QF}{k:χ}{ps:γ QF}{d:Sp}{st:Rb}(l:∃f,Wx K RB x=δ (δ QAg)/\Mg K x st f)(o:∀f c,mg x<*.ξ f->pd K x x st f c->yx K c ps []/\aa P w K mg υ e k f c ps d):∃f c,mg x=δ QAg/\Vz K QAg=π/\yx K c ps []/\aa P w K mg υ e k f c ps d:=by
 let⟨f,a,c,F⟩:=l;let⟨b,o⟩:=o f c (T_ X G a) F;show(f,c,T_ X G a,F.kp,b,o)
inductive FR QBQ QEh(st:Rb)(dv:η)(cd:θ):Prop
 |mk QEx (oc:η) (od an:ψ θ) (sl:R_ (ψ η)) (kV dc pm ct:η) (_:Wx K RB x<*δ QAg) (_:K.ς f<*(oc,od,.VL (U_ x x (ri st) (n7 st) QHt dv kV dc pm an (.ξ cd) ct),sl)) (_:UH K (.ξ cd) x=π)
abbrev N2 QBQ:γ QF->Prop
 |[]=>S9
 |x::l=>Wx K RB x=δ ε/\N2 K l
abbrev vh QBQ QEh(st:Rb):Prop:=∃f,Wx K RB x=δ (δ QAg)/\Mg K x st f
abbrev fq QDn QAM(F:St->XK):η->ω->Prop:=λev s'=>∃σ' H' s1,f' X QE σ' H' s1/\z7 X.Ω X.w X.RL H' s1 (F σ') ev s'
abbrev PX QDn(st:Rb)(t:QIt->TS):Prop:=
 ∀QAM QB_ QCC QAH(D:ZA)(F:St->XK),f' X QE σ H s->t F D σ H->Fr QAB X.A (exec st X.QC) (SP X QE D) (fq X QE F) s
section
variable{X:Cx}{QE:γ QA_}{σ:St}{H:Hp}{s:ω}{x n y fx:QF}{R:θ}{i j k:χ}{np hpos Ri p cp yp ap:UL}{st a b b0:Rb}{suite:γ Rb}{ts:TS}{D:ZA}{ps:γ QF}{sp:Sp}{e c:SH}{es:γ SH}{t:TA}{tc:TT}{τ τ':QIt->TS}
def FS(F:A' X.Ω X.w X.K X.mg X.υ fx k ps sp)(E:ak k X.A)(N:PA X.nox QJU t)(L:Gl X fx)(o:(fx==("__debug__":QF))=ν)(M:BT QJU X.QC=QAj::BT es X.QC)(m:(ST cp QFS).U6 QBF=ν)QAA(h:t σ H λvs g=>sp vs g C (G σ)):Fr QAB X.A (Sc (.T0 (.SG fx p) QJU [] cp) X.QC) (EP X QE σ C) (fq X QE G) s:=by
 let⟨f,S,h1,h2,O,F⟩:=F;refine Rg (sB I L h1 (callWith_K (h₀:=X.υ) I.ok.Zb.ZL h2 (RQ (N cp QE s σ H _ (I.Z' _) h) (λus l v=>?_) λ_ _ z=>z.SJ) M m) o);let⟨vs,g,Q,r,q⟩:=v;let J:f' X QE σ g l:=Q.W8;refine(J.Xb,US (Tv (F.Sl X.A X.RL l g (us,[]) us vs C _ E J.env0 ?_ r q) λr s' d=>?_))
 .let B:=O l us J.Xb;rw[Tx]at B;show B (by rw[<-r.β];show F.TL _ _ _ _ q)
 .cases r with
  |WV T=>show(σ,g,l,J,d)
  |ok P=>
   cases P with
   |ret u=>show J.after d
   |next=>show Rk.SJ d
   |brk=>show Rk.SJ d
   |YB=>show Rk.SJ d
def EN(h:PX X st τ)QAA(q:τ G D σ H):Fr QAB X.A (execs [st] X.QC) (SP X QE D) (fq X QE G) s:=by
 refine W6 (nb (h QE s σ H D G I q) λf d q=>?_);cases f with
 |next=>show Va q
 |ret v=>show q
 |brk=>show q
 |YB=>show q
end
end L2
namespace L2
open PySem.Spec PySem.W PyProof.Rows Builtin Builtin.ObjectAttr
def rM{Ω:Id}QF3{A:Qy}QC7(F:fE K C)QEp(J:InstAt s.ρ e o C (δ p))(x:hasDictIn K C=π)(q:wx K C f)(u:lookIn f p<*δ v)(j:handedIn v=π)(h:Q v {s with QT:=s.QT+1}):Fr QAU A (getAttr QA8 f m) Q E s:=by
 let⟨hp,g,d,t,os⟩:=s;let b:=J.QU (M:=LE Ω w);let y:=Y1 (M:=LE Ω w) X F.ga;let c:=Y1 (M:=LE Ω w) X F.noHook;let isB:=looks_mroIn (M:=LE Ω w) X F.exc;let k:=looks_find (M:=LE Ω w) X J (findObj_own x q ζ u);let l:=Ξ.F.attrBase_ValueError.ga.Zq QA8;unfold getAttr getAttrBy;refine e_ (wpAny_mkText (RZ (e_ (b.at (e_ (y.at ?_))))));let a:(onTheHeap QAr&&η.RJ "BaseException.__getattribute__"==η.RJ "object.__getattribute__")=ν:=by
  rw[show(η.RJ "BaseException.__getattribute__"==η.RJ "object.__getattribute__")=ν by decide +kernel,Ψ.and_false]
 refine Rz (by rw[a];decide) ?_;unfold getAttrByItsOwn hookBefore callGetattribute boundAndCalled;let i:(m&&onTheHeap (η.RJ "BaseException.__getattribute__"))=ν:=by cases m<;>rfl
 refine e_ (Xr (!4) (c.at (e_ (V3 (RZ (Rz (by rw[i];decide) (e_ (SR l (US ?_)))))))));refine U5 Ξ.F.attrBase_ValueError.ga.plain Ξ.F.entry_bexc_ga ?_;let r:builtinKind "BaseException.__getattribute__"<*.YW:=by decide +kernel
 let n:splitId "BaseException.__getattribute__"<*("BaseException","__getattribute__",):=by decide +kernel
 let z:=Ξ.F.args_bexc_ga QA8 (.QZ f t);simp only[checkBuiltinCall,r,n];refine e_ ?_;unfold isInstance;refine e_ (b.at (isB.at ?_));refine Rz (!0) (SR z ?_);refine e_ (h9 (e_ (h9 (e_ (b.at (e_ (k.at ?_)))))));refine h9 ?_;change Fr _ _ (handedOut v) _ _ _;rw[handedOut_of j];show h9 h
inductive zi QBQ(f:QF)QAR(x:V)QDz:Prop
 |mk (e C d fs v:_) (_:x=.ξ e) (_:H1 e<*eZ e QAr (δ d)) (_:H1 d<*AM d fs) (_:fE K C) (_:lY K C) (_:wx K C f) (_:fs.ς f<*v) (_:Q v H1)
abbrev oP QBQ(ta:TE)(f:QF):TE:=λσ H Q=>ta σ H (zi K f Q)
def xi(y:PE X e ta)(z:(UD e f X.QC QGE=Sc e X.QC)>>>4):PE X QGt (oP X.K ta f):=by
 intro c s j H Q I h;refine C_ z (nb (y c s j H _ I h) λu P i=>?_);let⟨x,N,g,k,a,C,d,fs,v,J,L,M,F,xc,n,l,q⟩:=i;subst J;obtain ζ:u=η.ξ a:=k;let⟨⟨o,E,D,⟨vs,B⟩,A⟩,_⟩:=g.S8 a _ L;let⟨⟨p,m,r,_⟩,_⟩:=g.S8 d _ M;let⟨R,t,w⟩:=Ll m;let⟨O,hw,b⟩:=av.Zx (v:=v) (o:=p f) (by rw[<-l];show r f);show rM F g.Xb (E,D,by unfold notCls;rw[B],by rw[show o.Uk<*d from Qw Yq.fst (A d ζ)];show t) xc.hd n (by rw[w,hw]) (hV b) (v,N,g.Wa _,b,q)
end L2
namespace L2
open PySem.Spec PyProof.Rows
section
variable{X:Cx}{x:QF}{R:θ}{np hpos Ri:UL}{st b0:Rb}{suite:γ Rb}{ts:TS}{τ:QIt->TS}
abbrev zc QBQ(R:θ)(τ:QIt->TS)(ts:TS):TS:=λD σ H=>τ (λσ'=>qe K R ts D σ') D σ H
def tZ(G:L8 X x R b0 suite ts)(h:PX X st τ):PS X (.Try [st] [.ExceptHandler QGx ε QGJ hpos] [] [] Ri) (zc X.K R τ ts):=by
 intro b s g H D I q;refine wpAny_Try_except (RQ (EN h I q) (λf d q=>?_) λi s' a=>by let⟨c,H',d,J,e⟩:=a;show rY G.hex G.Vw G.hfr G.hg G.hm G.hs J e G.hd);cases f with
 |next=>show Va q
 |ret v=>show q
 |brk=>show q
 |YB=>show q
end
abbrev yw QKP QCs(x:η):Prop:=∃o vs,h.Δ a=δ o/\o.RH=.SD vs/\vs[2]?<*x
def gf:Zj table "proto.unchain"<*Builtin.«proto.unchain»:=entryFor_of_tree QBH
section
variable{Ω:Id}{w:QW}{A:Qy}{s:ω}{R:Except η Ξ.Flow->ω->Prop}{e:θ}
def kh{Q:b->ω->Prop}(g:A.SX<*.ξ h)(m:s.ρ.Δ h<*d)(l:d.RH=.SD c)(k:c[2]?<*.ε)(f:h≠e)(a:s.ρ.Δ e<*o)(i:o.RH=.SD vs)(hz:2<vs.Q')(j:E QA8 {s with ρ:=s.ρ.Sq e (TX (·.Ra 2 (.ξ h)))}):Fr QAU A (raiseNew QA8:Sem b) Q E s:=by
 unfold raiseNew;refine e_ QFX;rw[g];dsimp only;rw[IO (by simpa using f)];refine e_ (RZ (ZS (TH gf ?_)));unfold Builtin.«proto.unchain»;dsimp only;refine e_ (RP m l k ?_);rw[IO (show(η.ε==η.ε)=π by decide)];refine h9 ?_;unfold updateField;refine e_ (e_ (Ys a ?_));rw[i];dsimp only;rw[IO hz];show wpAny_update a (YC j)
end
section
variable{X:Cx}{QE:γ QA_}{σ:St}{H:Hp}{s:ω}
def f'.sink QAA(i:H e<*qN e C d)(a:∀b o,s.ρ.Δ b<*o->b≠e->b∉pu X.RL->h'.Δ b<*o)(t:s.ρ.Yo h')(h:∃E,h'.Δ e<*E):f' X QE σ QEu {s with ρ:=h'}:=by
 let k:∀b u,H b<*u->b≠e->BA H e b<*u:=λb u z n=>(DN n).ο z;let A:∀b∈pu X.RL,∃o,s.ρ.Δ b=δ o/\∀vs,o.RH≠.SD vs:=Gu I.RL;let B:∀b,H b=ε->b≠e:=λb z y=>by rw[y,i]at z;cases z
 let m:Un QCT [] H QEu s.ρ h':=by
  refine(λb o z n g _=>a b o z (B b n) g,λb o z n g _=>?_,λb o z n _=>by rw[DN (B b n)];show n,λb o z _=>?_,λb xs z=>k b _ z (m_ z i (by intro y;cases y)),λb o u z=>k b _ z (m_ z i (by intro y;cases y)),λb ps z=>(#[],3))
  .obtain ⟨F,f,p⟩:=A b g;rw[z]at f;cases f;show t b _ z p
  .by_cases g:b∈pu X.RL
   .obtain ⟨F,f,p⟩:=A b g;rw[z]at f;cases f;let⟨M,D⟩:=t b _ z p;show(_,D)
   .by_cases x:b=e
    .subst x;show h
    .exact (o,a b o z x g)
  .rw [R_.append_empty];show k b _ z (m_ z i (by intro y;cases y))
 let j:z_ X.Ω X.w QEu h':=λb u z=>by
  let g:b≠e:=λy=>by rw[y,KL]at z;cases z
  rw[DN g]at z;refine(I.S8 b u z).Wv (λc v l y=>?_) (λc y=>k c _ y (m_ y i (!5))) λc xs y=>k c _ y (m_ y i (!5));let L:∃r,H c=δ r/\c≠e:=by
   rcases l with ζ|l
   .exact (u,z,g)
   .exact (_,l,m_ l i (!5))
  let⟨r,hw,q⟩:=L;show a c v y q λJ=>by rw[I.Xg c J]at hw;cases hw
 show I.UZ (g':=s.WX) (d':=s.Wz) (t':=s.QT) (ch:=[]) m j I.V9 QAD
def yU(un:Un fs g H0 H f h)(dT:f.Δ T=ε)(c:∀b,b≠T->h'.Δ b=h.Δ b):Un fs g H0 H f h':=by
 let d:∀b o,f.Δ b<*o->b≠T:=λb o z y=>by rw[y,dT]at z;cases z
 show(λb o z n e a=>(c b (d b o z)).ο (un.UB b o z n e a),λb o z n e a=>by rw[c b (d b o z)];show un.YW b o z n e a,un.SB,λb o z a=>by rw[c b (d b o z)];show un.Uf b o z a,un.Uh,un.ZO,un.ZJ)
def xQ(d:z_ P w H h)(f:H T=ε)(g:∀b,b≠T->h'.Δ b=h.Δ b):z_ P w H h':=λb u z=>by
 refine(d b u z).Wv (λc v a y=>?_) (λ_ r=>r) λ_ _ r=>r;rw[g c (λe=>?_)]
 .exact y
 .rcases a with ζ|a
  .rw [e,f]at z;cases z
  .rw [e,f]at a;cases a
def qH{E:XK}QEH(hx:X.ex=[])QCa(g:X.QC.Vx<*X.QC.SU)(nd:X.N.R7)(hi:X.N[i]?<*n)QGp(p:X.xe=λev s'=>Fr QAB X.A (Wn X.QC ev) (λ_ l=>z7 X.Ω X.w X.KK X.H₀ X.U0 E ev l) QF6 s')QAA(eH:H e<*qN e C d)(d0:X.U0.ρ.Δ e=ε)(q:E QAr ε QEu)(e1:h1.Δ e<*o1)(c1:o1.SS=.ξ C)(P:o1.RH=.SD vs)(f0:vs[0]?<*a0)(f1:vs[1]?<*.ε)(a:∀b,b≠e->h1.Δ b=s.ρ.Δ b):AsSuiteRaised QAB (X.A.mark QF1) X.QC n Ri QD0 QA8 {s with ρ:=h1}:=by
 let⟨⟨t0,eO⟩,_,_⟩:=I.S8 e _ eH;let fr:∀b∈pu X.RL,∃o,s.ρ.Δ b=δ o/\∀vs,o.RH≠.SD vs:=Gu I.RL;let L:∀b o,s.ρ.Δ b<*o->(∀vs,o.RH≠.SD vs)->b≠e:=λb o z u y=>by
  rw[y,eO]at z;cases z;show u _ ζ
 let Z:h1.S6 X.υ QBa:=Vw▸I.RL.of_keeps λb o z u=>(o,(a b (L b o z u)).ο z,1);let Vk:∀b∈pu QBa,b∈e::pu X.RL:=λb k=>Q9 _ (Vw▸k);unfold AsSuiteRaised Xp;simp only[g];refine e_ (RP e1 P f1 ?_);rw[Cl (!0)];refine wpAny_entryW (s:={s with ρ:=h1}) (υ:=VS h1 (e::pu X.RL)) (KK:=X.KK) (by change X.A.Ud=_;rw[<-Vw];show I.ok.Ud) (Gs Z Vk) g e1 (λb o z=>XA _ z) (Ta _ Sk) P (R_.TC.mp f1).1 f0 λh2 hN=>?_;let⟨n1,_,⟨F,ws,T,oT,ts,g1,⟨g2,S⟩,B,R,nT,t,gT,dT,h3⟩,n4⟩:=hN;let up:s.ρ.Yo h2:=λb o z u=>n4 b o ((a b (L b o z u)).ο z) u;let J:f' X QE σ QEu {s with ρ:=h2}:=I.sink eH (λb o z n k=>n1 b o (U3 _ ((a b n).ο z) λO=>(QY.mp O).SJ n k)) up (F,g1);let ag:T∉pu X.RL:=λO=>by
  let⟨o,z,hd⟩:=fr T O;let⟨sl,z2⟩:=up T o z hd;rw[gT]at z2;cases z2;show hd ts dT
 let r:s.ρ.Δ T=ε:=by
  cases z:s.ρ.Δ T with
  |ε=>rfl
  |δ o=>
   rw[U3 _ ((a T t).ο z) λO=>(QY.mp O).SJ t ag]at nT;cases nT
 let nl:∀b o,h2.Δ b<*o->QHx->b≠X.QC.SU:=λb o z ab y=>by
  let⟨vs,hv⟩:=ab;let⟨m,⟨o',es,ep,W,Q,_⟩,_⟩:=J.loc;rw[y]at z;let W:h2.Δ X.QC.SU<*o':=W;rw[z]at W;cases W;rw[hv]at Q;cases Q
 refine J.goes2 nd hi hk λj sb _ K=>?_;let e3:j.ρ.Δ e<*F:=(sb.2 e (nl e F g1 (_,B))).ο g1;let T3:j.ρ.Δ T<*oT:=(sb.2 T (nl T oT gT (_,dT))).ο gT;let f:3<ts.Q':=(R_.TC.mp h3).1;let c:∀QKP(x:η)b,b≠T->(h.Sq T (TX (·.Ra 3 x))).Δ b=h.Δ b:=λh x b k=>Rq _ _ (Ne.QI k);let T4:=Rs (TX QD8) T3 (TV (Sa dT _));let Y:=Sa dT QD8;let T5:=Rs QDO T4 (TV (Sa Y _));let d5:=Sa Y (·.Ra 3 η.ε);let e4:=(c j.ρ (R6 X.QC.SU) e (Ne.QI t)).ο e3;let e5:=(c _ η.ε e (Ne.QI t)).ο e4;let U:X.xe QA8 {j with ρ:=j.ρ.Sq T (TX QD8)}:=by
  rw[p];unfold Wn;refine e_ (wpAny_noteFrame_againW (υ:=VS h1 (e::pu X.RL)) g (F,ws,T,8,e4,(g2,S),B,R,nT,t,T4,Y,by simp[f]) ?_);unfold W_;refine e_ (RP e4 B R ?_);rw[IO (show(η.ξ T != η.ε)=π from by simp)];refine Uo T4 Y (by simp[f]) ?_;let D:∀b,b≠T->((j.ρ.Sq T (TX QD8)).Sq T QDO).Δ b=j.ρ.Δ b:=λb k=>(c _ _ b k).ο (c _ _ b k);let M:BA H e T=ε:=by rw[DN t];show Kq I.S8 r
  let ub:=K.υ;rw[hx]at ub;show(e,T,.ξ C,a0,ε,BA H e,1,K.os,K.V9,yU ub (AI I hx r) D,xQ K.S8 M D,d0,AI I hx r,KL,M,(F,ws,8,e5,(g2.ο c1,S),B,R,t,T5,d5,by simp[f],λ_ z=>nomatch z),q)
 unfold Ξ.passOn;refine e_ (RP e3 B R ?_);rw[Cl (show ¬ ((η.ξ T==η.ε)=π)from by simp)];let step:Fr QAB (X.A.mark QF1) (do W_ QA8 X.QC.Vx;throw (η.ξ e):Sem Flow) QGM QD0 j:=by
  unfold W_;rw[g];refine e_ (e_ (RP e3 B R ?_));rw[IO (show(η.ξ T != η.ε)=π from by simp)];refine Uo T3 dT f (YC ?_);rw[p];rw[p]at U;show PassesOwnAt.Wn _ _ U
 first
  |show e_ (h9 step)
  |show step
end
section
variable{P:Id}{w:QW}{A:Qy}{E:η->ω->Prop}
variable{nm q:QF}{C N:θ}{bs bm:γ η}{YA:Ψ}{sn:γ QF}{Vk:γ η}{ab:Ψ}{Zm:ψ Ψ}{dd:ψ θ}{k0 k1 k2 k3 k5:ψ η}
def m9(f:bm.Qz (.QU "BaseException")=π)(r:A.SX<*.ξ h)(t:∀(R:η->ω->Prop)a,R .ε a->Fr (LE P w) A c R E a)(y:Fr (LE P w) A x (λv a=>∃e d2 a0,v=.ξ e/\a.ρ.Δ C=δ (Vn nm q C N bs bm YA sn Vk ab Zm dd k0 k1 k2 k3 k5 "ValueError.__new__")/\a.ρ.Δ e=δ (v7 C d2 a0)/\yw a.ρ h .ε/\e≠h/\e≠C/\
   ∀h1:RC,h1.Δ e<*{v7 C d2 a0 with RH:=.SD #[a0,.ε,.ξ h,.ε,.UV π,.ε]}->(∀b,b≠e->h1.Δ b=a.ρ.Δ b)->E (.ξ e) {a with ρ:=h1}) E s):Fr (LE P w) A (raiseStmt QC (δ x) (δ c)) Q E s:=by
 let j:(η.ξ C::bm).Qz (.QU "BaseException")=π:=by rw[γ.contains_cons,f,Ψ.or_true]
 unfold raiseStmt;refine e_ (RQ y (λv a h1=>?_) λ_ _ z=>z);let⟨e,d2,a0,ζ,o,m,B,l,p,u⟩:=h1;let⟨hp,g,d,M,os⟩:=a;refine e_ (RZ (t _ _ (e_ QBv)));repeat (first|with_reducible refine Uy m ?_|with_reducible refine Uy o ?_|(with_reducible refine Z_ o ?_;rw[j])|wp_step)
 let F:=Rs QDO m QHg;let n:=Rs (TX (·.Ra 4 (η.UV π))) F QHg;let k:∀b,b≠e->((hp.Sq e QDO).Sq e (TX (·.Ra 4 (η.UV π)))).Δ b=hp.Δ b:=λb i=>(Rq _ _ QG3).ο (Rq _ _ QG3);let⟨O,L,J,I,H⟩:=B;let D:=Rs (TX (·.Ra 2 (.ξ h))) n QHg;refine kh r ((k h (Ne.QI l)).ο J) I H (Ne.QI l) n ζ (!1) ?_;show u _ D λb i=>(Rq _ _ QG3).ο (k b i)
end
abbrev KP QKU QBP QBQ QAs(υ:RC)QEx(fd:TY)QFx(sp:Sp):Prop:=
 ∀(A:Qy)(v:η)QE3 QB_ QAH(args:Args)QD_ QAI QAR QE0,A.SX<*v->A.depth<recursionLimit->bE P w K mg υ A KK s H->BindsTo s fd args QF2->ad vs us->sp vs H Q E->
  VD QA' A (.UZ QAg args) (CR lb KK P w H s Q E) s
section
variable{P:Id}{w:QW}{K:RG}{mg:QF->ψ η}{υ:RC}
def pd.okH{st:Rb}(F:pd K x RD st f fd)(S:p_ N ps (hI st))(TL:∀vs H Q E,M vs H Q E->vs.β=ps.β)(i:∀(VA:η)(A:Qy)(KK:γ YT)(s:ω)(H:Hp)(vs:γ V)(Q:VK)(E:XK)(v:η),M vs H Q E->
   ∃t,Bd ((aP lb P w K mg υ N RD (hI st) f VA A KK s H E).X_ v) (n7 st) t/\t {nx:=λ_ H'=>Q .Uv H',rt:=Q} (WJ N vs) H):KP P w K mg υ f fd ps M:=by
 let⟨oc,od,kV,Tg,pm,an,VA,ct,X,ζ,lk,C⟩:=F.ex;intro A v KK s H T us vs Q E L B a hb r k;let hl:=TL _ _ _ _ k;let U:K.In s.ρ:=a.Zb.ZL.Ti λb o e=>(a.bs b o e).1;let p:s.ρ.NoLimit:=a.Zb.Zz.Ti λb o e=>(a.bs b o e).1;let g:∀y∈ps.X6 us,(hI st).QH.ς y.1<*.local\/((hI st).QH.ς y.1=δ .SF/\((Yl QBN (hI st).QH []).ς y.1).VR=π):=λD Y=>by
  let⟨n,v⟩:=D;rcases S.par n (Yz Y).1 with q|q
  .exact .RN q
  .exact .Rh QHN
 refine W3 B (U _ _ lk) ζ S.co S.gen ζ (Ξ.W.codeRec_of U C) QE4;refine wpAny_newFunctionEnv_cells S.Ut g λQC he O x=>?_;subst he;refine(p.Ti x.toInCall.UB,codeAny_func ?_);let⟨t,Z,hq⟩:=i VA ({A with SX:=ε}:Qy) KK s H vs Q E v k;let I0:f' (aP lb P w K mg υ N RD QHt f VA ({A with SX:=ε}:Qy) KK s H E) [] (WJ N vs) H O:=g6 S ζ (a.Ud,a.Zb,a.bs,a.bsz,a.ZM,a.frf,a.S8,a.V9) hl r x;let I:=I0.X_ v;let eA:((aP lb P w K mg υ N RD QHt f VA ({A with SX:=ε}:Qy) KK s H E).X_ v).A=A.VU (XG RD QHt s⁻¹ f VA):=by
  let⟨h,d,fr,gd,un⟩:=A;let L:h<*v:=L;subst L;rfl
 let R:=Z [] O (WJ N vs) H _ I hq;rw[eA]at R;refine RQ R (λfl s' j=>?_) λe s' j=>j.SJ;let l:∀{c:St}QIG{z:V}{u:η},f' ((aP lb P w K mg υ N RD QHt f VA ({A with SX:=ε}:Qy) KK s H E).X_ v) [] c H' s'->ae z u->Q z H'->CE KK P w H s Q u s':=
  λ{c H' z u}J m q=>(z,H',J.os,J.V9,J.υ,J.S8,m,q)
 cases fl with
 |ret u=>
  let⟨v,c,H',J,m,q⟩:=j;show l J m q
 |next=>
  let⟨c,H',J,q⟩:=j;show l (z:=V.Uv) (u:=η.ε) J ζ q
 |brk=>
  let⟨_,_,_,q⟩:=j;show Rk.SJ q
 |YB=>
  let⟨_,_,_,q⟩:=j;show Rk.SJ q
end
section
variable{X:Cx}{QE:γ QA_}{σ:St}{H:Hp}{s:ω}{f C:θ}{fd:TY}{ps:γ QF}{sp:Sp}{k:χ}{t ta:TA}{E:XK}
def tW{Q:VK}(S:X.ex=[])QIP(Z:isFn X.K QAg=π)QG4 QGn(U:ak k X.A)(Y:yx X.K fd ps [])(I:f' QHD QE σ H s)QF4(T:us.β≤Φ)(h:∀e,H e=ε->sp (.ξ e::vs) QEm (λv H2=>v=.Uv/\Q QA8 H2) E0):Fr QAB (X.A.mark QF1) (UZ QAr us) (λu s'=>∃e H',u=.ξ e/\X.U0.ρ.Δ e=ε/\f' QHD QE σ H' s'/\Q QA8 H') QGM s:=by
 let⟨bm,N,nm,qn,bs,YA,sn,Vk,ab,Zm,dd,k0,k1,k2,k3,k5,mN,cO,P,R,J⟩:=M.Yd (show X.K.In s.ρ from I.Xb);obtain⟨j,fO,fc⟩:∃j,s.ρ.Δ f=δ j/\j.SS=.QU "function":=by
  let⟨o,q,e⟩:=AE (show ψ.Q_ (λx:UQ=>x.SS) (γ.ς f X.K)<*.QU "function"from Ur.mp Z);show(o,(show X.K.In s.ρ from I.Xb) _ _ q,e)
 let⟨hh,g,d,i,os⟩:=s;refine lr J cO P R fO fc T λh' e B mk=>?_;let⟨t0,D,tn,tO⟩:=mk.Uf;let m:f' QHD QE σ QEm (h',g,d,i,os):=I.Xy (a:=e) (o:=qN e C ε) (h':=h') (t':=i) mk.Ti B ((_,D),(_,D),λh1 h2 l k=>by let⟨z,q⟩:=l;show(z,k _ q));let p:=h e (I.S8.SZ B);let n:ad (V.ξ e::vs) QEt:=.Rc ζ r;let W:(η.ξ e::us).β=ps.β:=by
  let z:=n.β;rw[TL _ _ _ _ p]at z;show z.QI
 let c:=Y (h',g,d,i,os) QEt (show X.K.In h' from m.Xb);rw[Tx]at c;refine US (Tv (F _ v X.RL _ _ (η.ξ e::us,[]) QEt _ _ E0 ζ ?_ (m.env0.make C us []) (c W) n p) λr s' b=>?_)
 .rw [dZ];have:=U.dp;change X.A.depth+1<_;lia
 cases r with
 |WV y=>show b.SJ
 |ok fl=>
  cases fl with
  |ret u=>
   let⟨z,H',I3,L,y,O⟩:=m.after b;subst y;show(L,e,H',1,AI (X:=X.X_ v) I S mk.new,I3,O)
  |next=>show Rk.SJ b
  |brk=>show Rk.SJ b
  |YB=>show Rk.SJ b
abbrev Pe(sp:Sp)QG9:QIt->TS:=λG D σ H=>t σ H λvs H1=>sp vs H1 (λv H2=>D.rt v H2) (G σ)
def zx{p i Ri:UL}(F:A' X.Ω X.w X.K X.mg X.υ g k ps sp)(m:ak k X.A)(q:PA X.nox (e::a) t)(n:Gl X g>>>4)(c:((g==("__debug__":QF))=ν)>>>0)(o:QEC>>>4)(b:((ST i (BT a X.QC)).U6 QBF=ν)>>>4):PX X (.Return (δ (.T0 (.SG g p) (e::a) [] i)) Ri) (Pe sp t):=by
 intro QE s σ H D G I h;refine wpAny_Return_some (RQ (FS F m q n c o b I h) (λv x d=>?_) λ_ _ z=>z);let⟨w,u,r,j,l⟩:=d;show(w,σ,u,r,j,l)
abbrev QR(C e:θ)(C':η)(x0:θ)QE0:VK:=λv H=>match v with
 |.ξ e1=>∃d',e1≠e/\H e1=δ (qN e1 C d')/\H e=δ (eZ e C' (δ x0))/\E QAr ε (BA H e1)
 |_=>Rk
abbrev qd QBQ QFT QBB(spx:Sp)(ta:TA)QE0 QCC:XK:=λC' d H2=>exmOne K C' QAr=δ π/\∃x,d=δ x/\∀e,H2 e=ε->ta (σ.Uw i (δ QA8)) (QO H2 e (eZ e C' d)) λws H3=>ws.β≤Φ/\∀e1,H3 e1=ε->
 spx (.ξ e1::ws) (QO H3 e1 (qN e1 C ε)) (λv H4=>v=.Uv/\∃d',e1≠e/\H4 e1=δ (qN e1 C d')/\H4 e=δ (eZ e C' d)/\E QAr ε (BA H4 e1)) E0
abbrev Pf QBQ QFT QBB(spx:Sp)(ta:TA)QE0(τ:QIt->TS):TS:=λD σ H=>τ (qd K C i spx ta E) D σ H
def xa{st:Rb}{np Y b r u Ri cp:UL}QIJ(hx:X.ex=[])QCa(y:X.QC.Vx<*X.QC.SU)(Z:X.xe=λev s'=>Fr QAB X.A (Wn X.QC ev) (λ_ m=>z7 X.Ω X.w X.KK X.H₀ X.U0 E ev m) (λe' m=>z7 X.Ω X.w X.KK X.H₀ X.U0 E e' m) s')(nd:X.N.R7)(hi:X.N[i]?<*n)QGp(hl:C6 X.QC.RF n)QHE(hg:Gl X x)(hm:X.mg x<*.ξ C)(hd:(x==("__debug__":QF))=ν)QIP QIU QG4 QGn(hr:ak k X.A)(hb:yx X.K fd ps [])(ha:∀v,PA QHD (L::p) ta)(h:PX X st τ)(he:(BT (L::p) X.QC=(ν,Sc L X.QC,)::BT p X.QC)>>>4)(ag:((ST b (BT p X.QC)).U6 QBF=ν)>>>4):PS X (.Try [st] [.ExceptHandler QGx (δ n) [.Raise (δ (.T0 (.SG x Y) (L::p) [] b)) (δ (.Constant .ε j cp)) r] u] [] [] Ri) (Pf X.K C i sp ta E τ):=by
 intro QE s σ H D I q;refine wpAny_Try_except (RQ (EN h I q) (λf s1 q=>?_) λev s'⟨l,H',s1,J,cx⟩=>oz hx Vw y nd hi hk hl hf hg hm (λe C' d H2 s5 U hn d0 I5=>?_) J cx hd)
 .cases f with
  |next=>show Va q
  |ret v=>show q
  |brk=>show q
  |YB=>show q
 let⟨S,ζ,U⟩:=U;let h0:=U e hn;let IH:=I5.X_ (.ξ e);let⟨bm,N,nm,qn,bs,YA,sn,Vk,ab,Zm,dd,k0,k1,k2,k3,k5,mN,cO,nO,iO,tl⟩:=M.Yd I5.ok.Zb.ZL;let cK:∀{l:St}{H':Hp}{s':ω},f' (X.X_ (.ξ e)) QE l H' s'->s'.ρ.Δ C<*Vn nm qn C N bs bm YA sn Vk ab Zm dd k0 k1 k2 k3 k5 "ValueError.__new__":=λI'=>I'.bk _ _ cO;refine W6 ?_;rw[arm_exec_Raise];refine e_ (Tm (m9 (C:=C) (nm:=nm) (q:=qn) (N:=N) (bs:=bs) (bm:=bm) (YA:=YA) (sn:=sn) (Vk:=Vk) (ab:=ab) (Zm:=Zm) (dd:=dd) (k0:=k0) (k1:=k1) (k2:=k2) (k3:=k3) (k5:=k5) (h:=e) (tl.hasType X3.hasBase) ζ ?_
  (e_ (RQ (E:=λ_ _=>Rk) (wpAny_Call_ofName (sB (X:=X.X_ (.ξ e)) IH hg hm ?_ hd)) (λv s3 h3=>e_ (Tm (h9 h3))) λ_ _ z=>z.SJ))))
 .intro R s1 hR;show e_ (Constant_none (e_ (Tm (h9 hR))))
 let hA:=ha QA8 b QE s5 _ _ _ IH h0;let W:(ST b (BT (L::p) X.QC)).U6 QBF=ν:=by rw[he];change (ν||(ST b (BT p X.QC)).U6 QBF)=ν;rw[ag];rfl
 unfold callWith;refine e_ (RZ (RQ (Q:=λ(a:Args)s2=>a.kw=[]/\∃vs P,f' (X.X_ QA8) QE (l.Uw i (δ (V.ξ e))) P s2/\ad vs a.Ri/\vs.β≤Φ/\∀c,P c=ε->sp (.ξ c::vs) (QO P c (qN c C ε)) (λv O=>v=.Uv/\∃d',c≠e/\O c=δ (qN c C d')/\O e=δ (eZ e C' (δ S))/\E QAr ε (BA O c)) E0) ?_ (λa s2 h2=>e_ (Tm ?_)) λ_ _ z=>z))
 .rw [he]at hA⊢;show Vf.Wq (nb hA λus s2 as=>by let⟨vs,H2,I2,r2,hl,q⟩:=as;show(1,vs,H2,I2,r2,hl,q))
 let⟨g,aA⟩:=a;let⟨ar,vs,P,I3,r3,ap,q3⟩:=h2;obtain ζ:aA=[]:=ar;let⟨aH,g2,d2,aB,aC⟩:=s2;simp only[W];refine e_ (wpAny_keeperOf_exc (cK I3) ?_);refine e_ (RQ (tW (Q:=QR C e C' S E) hx M fn F TL hr hb I3 r3 (by change g.β≤Φ;let z:vs.β=g.β:=r3.β;rw[<-z];show ap) λc an=>q3 c an) (λv s3 hv=>e_ (RZ (wpAny_point QBv))) λ_ _ z=>z);let⟨c,O,ζ,az,B,d',ne,h1,h2,qE⟩:=hv;let⟨⟨t0,eO⟩,_,_⟩:=B.S8 c _ h1;let⟨⟨oe,g1,g2,⟨T,g3⟩,g4⟩,_⟩:=B.S8 e _ h2;let o:=Qw Yq.snd (g4 S ζ);refine(c,d',.ξ t0,1,cK B,eO,(oe,T,g1,g3,3),ne,λz=>?_,λaM ho hs=>?_)
 .unfold mu at o;rw[g3]at o;show o
 .rw [z]at eO;have:=(cK B).QI.ο eO;cases this
 show qH hx Vw y nd hi hk Z (B.unheld I.ok) h1 az qE ho ζ ζ ζ ζ hs
end
section
variable{M:Model}{A:Qy}{E:η->ω->Prop}{s:ω}{υ:RC}{QC:YT}{KK l:γ YT}{L e:θ}{SS a0 fl:η}
def nJ(m:A.Ud<*(QC::KK))(n:QC.Vx<*L)(i:υ.StaysIn s.ρ)(f:υ.Δ e=ε)(r:s.ρ.S6 υ (QC::KK))(k:s.ρ.TracedAtW υ e SS a0 fl)(v:∀h',FlyingW υ KK e SS a0 h'->s.ρ.Yo h'->Q () {s with ρ:=h'}):Fr M A (Wn QC QA8) Q E s:=by
 by_cases d:fl=R6 L
 .subst d;unfold Wn;refine e_ (wpAny_noteFrame_againW n k ?_);refine wpAny_landsW (l:=QC::KK) (i,f,r,k) λh' d x=>?_;let⟨k1,k2,⟨_,_,k3⟩,j⟩:=d;show v h' (k1,k2,k3,j) x
 .obtain ⟨D,vs,T,F,ts,t,⟨a,C⟩,u,h1,y,p,q,dT,w⟩:=k;subst a;unfold Wn Xp;simp only[n];refine e_ (e_ (RP t u h1 ?_));rw[IO (!1)];refine e_ (RP q dT w ?_);rw[Cl QIk];refine e_ (Uo q dT (R_.TC.mp w).1 ?_);let b:∀c,c≠T->(s.ρ.Sq T QDO).Δ c=s.ρ.Δ c:=λc a=>Rq _ _ QIi;let h:∀c o,s.ρ.Δ c<*o->(∀ws,o.RH≠.SD ws)->c≠T:=λc o a g z=>by
   rw[z,q]at a;cases a;show g ts dT
  refine wpAny_newEntryW (υ:=υ) m (r.of_keeps λc o a g=>(o,(b c (h c o a g)).ο a,1)) n ((b e (Ne.QI p)).ο t) (λc o a=>(b c λz=>by rw[z,y]at a;cases a).ο (i c o a)) f u
   (R_.TC.mp h1).1 C λh' B=>?_
  let⟨k1,⟨_,_,k2⟩,k3,j⟩:=B;show v h' (k1,f,k2,k3) λc o a g=>j c o ((b c (h c o a g)).ο a) g
def ug{Q:r->ω->Prop}(i:υ.StaysIn s.ρ)(B:s.ρ.S6 υ l)(y:s.ρ.TracedAtW υ e SS a0 fl)(C:∀h' p,υ.StaysIn h'->h'.S6 υ l->h'.TracedAtW υ e SS a0 p->s.ρ.Yo h'->E QA8 {s with ρ:=h'}):Fr M A (Ξ.passOn what QA8 w:Sem r) Q E s:=by
 let⟨x,vs,T,F,ts,j,a,k,h1,t,h,m,dT,D⟩:=y;let b:∀v c,c≠T->(s.ρ.Sq T (TX (·.Ra 3 v))).Δ c=s.ρ.Δ c:=λv c a=>Rq _ _ QIi;let d:∀c o,s.ρ.Δ c<*o->(∀ws,o.RH≠.SD ws)->c≠T:=λc o a g z=>by
  rw[z,m]at a;cases a;show g ts dT
 let l3:=(R_.TC.mp D).1;unfold Ξ.passOn;refine e_ (RP j k h1 ?_);rw[Cl (!1)];let n:∀v,Fr M A (setField (.ξ T) 3 v) (λ_ s'=>E QA8 s') E s:=λv=>by
  refine Uo m dT l3 (C _ v (λc o a=>(b v c λz=>by rw[z,t]at a;cases a).ο (i c o a)) (B.of_keeps λc o a g=>(o,(b v c (d c o a g)).ο a,1)) ?_ λc o a g=>(o.XR,(b v c (d c o a g)).ο a));show(x,vs,T,8,(b v e (Ne.QI h)).ο j,a,k,h1,t,h,Rs _ m (TV (Sa dT _)),Sa dT _,by simp[l3])
 let u:∀f,Fr M A (W_ QA8 f) (λ_ s'=>Fr M A (throw QA8:Sem r) Q E s') E s:=λf=>by
  unfold W_;refine e_ (RP j k h1 ?_);rw[IO (!1)];show RQ (n _) (λ_ _ q=>YC q) λ_ _ q=>q
 first
  |show e_ (h9 (e_ (u _)))
  |show e_ (u _)
end
def eY{h h' υ:RC}:∀{l:γ YT},h.S6 υ l->(∀b∈pu l,h'.Δ b=h.Δ b)->h'.S6 υ l
 |[],_,_=>trivial
 |QC::r,i,a=>by
  let⟨j,⟨L,o,c,g,f,k⟩,d⟩:=i;let e:pu (QC::r)=L::pu r:=by unfold pu;rw[Wo,c]
  show(j,(L,o,c,g,(a L (by rw[e];show Sk)).ο f,k),eY d λb m=>a b (by rw[e];show Q9 _ m))
section
variable{X:Cx}{E:XK}
abbrev jy(X X':Cx)QE0:η->ω->Prop:=λev s'=>∃QE σ H s,f' X' QE σ H s/\z7 X.Ω X.w X.RL H s (λC _ H'=>E C ε H') ev s'
def iX{Y b:Cx}(d:Y=b.Z' (jy X b E))(h1:(b.Ω=X.Ω)>>>4)(h2:(b.w=X.w)>>>4)(e:(b.RL=X.RL)>>>4):D0 (z7 Y.Ω Y.w) Y (λC _ H=>E C ε H):=λa c H s _ _ I f=>by
 subst d;refine(a,c,H,s,I.W8,3);rw[<-h1,<-h2,<-e];show f
abbrev wj QDn QE0:Prop:=X.ex=[]/\X.RL=X.QC::X.KK/\X.QC.Vx=δ X.QC.SU/\
 ∀ev s',Fr QAB X.A (Wn X.QC ev) (λ_ s''=>z7 X.Ω X.w X.KK X.H₀ X.U0 E ev s'') (λe' s''=>z7 X.Ω X.w X.KK X.H₀ X.U0 E e' s'') s'->X.xe ev s'
def lQ{k:γ QA_}{σ:St}{H2:Hp}{s2:ω}{fp:γ θ}{C:θ}(O:wj X E)(Z:f' X k σ H2 s2)(f2:∀b∈fp,QCL/\b≠X.QC.SU/\QBe/\∀p∈X.pn++k,p.1≠b)(hC:s2⁻¹≤C)(h:jy X {k_ X x sc cl C fp s2 H2 with N:=N'} E ev s'):Xh QAB X.A (Zl sc cl C X.QC) (λe aV=>Zk QAB X.A X.xe us Q b2 C (.WV e) aV) ev s':=by
 let⟨hx,Vw,aA,a8⟩:=O;let⟨a5,bP,H1,s1,I1,e,T,Cc,a0,dd,H',ζ,os,L,un,F,de,dT,he,hT,fT,q⟩:=h;let ab:Un QCT fp H2 H1 s2.ρ s1.ρ:=I1.υ;let a:Un QCT fp H2 H' s2.ρ s'.ρ:=ab.ο (un.Tj (λ_ z=>z) QAD);let a6:s1.os=s2.os:=I1.os;let P:s'.os=s2.os:=os.ο a6;let I3:f' X k σ H' s':=Z.call' P a F L f2;let nC:C∉pu X.RL:=λhm=>by
  let⟨o,ho,_⟩:=Gu Z.RL C hm;show QL (lt_size ho) (not_lt.Sz hC)
 let bt:∀b∈pu X.RL,H' b=ε:=I3.Xg;let⟨m,⟨oC,es,ep,H,bg,rC⟩,_⟩:=I1.loc;let H:s1.ρ.Δ C<*oC:=H;let fC:H1 C=ε:=I1.SB;let an:s'.ρ.Δ C<*oC:=un.UB C oC H fC nC (!1);let HC:H' C=ε:=un.SB C oC H fC (!1);let eC:e≠C:=λz=>by rw[z,H]at de;cases de
 let⟨j,g,d,tk,ag⟩:=s';let P:ag=s2.os:=P;let a:Un QCT fp H2 H' s2.ρ j:=a;let F:z_ X.Ω X.w H' j:=F;let un:Un QCT [] H1 H' s1.ρ j:=un;let fT:FF j e T Cc a0 dd:=fT;let an:j.Δ C<*oC:=an;let aT:j.S6 X.υ QBa:=Vw▸I3.RL;let aB:X.A.Ud<*QBa:=by rw[<-Vw];show Z.ok.Ud
 let fl:FlyingW (VS j QFg) QBa e Cc a0 j:=
  (λb o z=>XA _ z,Ta _ (!1),Gs aT (by rw[<-Vw];show λb z=>Q9 _ (Q9 _ (Q9 _ z))),fT.traced (Ta _ (!1)))
 let W:(VS j QFg).Δ C=ε:=Ta _ (!1);let I:∀b o,j.Δ b<*o->b≠e->b≠T->b≠C->b∉pu X.RL->(VS j QFg).Δ b<*o:=λb o z h1 h2 h3 M=>U3 _ z (by simp[h1,h2,h3,M]);generalize hB:VS j QFg=B at fl W I;let bl:∀b,B.Δ b=ε->b≠e->b≠T->b≠C->b∉pu X.RL->j.Δ b=ε:=λb z h1 h2 h3 M=>by
  cases y:j.Δ b with
  |ε=>rfl
  |δ o=>rw[I b o y h1 h2 h3 M]at z;cases z
 change Fr QAB X.A (Xp QA8 X.QC) _ _ _;refine wpAny_looks_onW (υ:=B) aB aA fl λh1 bd up1=>?_;let az:h1.Ns C m:=up1.ns (oC,es,ep,an,bg,rC);refine(m,az,λh2 sb bM _=>?_);let⟨k1,k2,k3,k4⟩:=bd;let g1:B.StaysIn h2:=λb o z=>(sb.2 b λy=>by rw[y,W]at z;cases z).ο (k1 b o z);let g3:h2.S6 B QBa:=eY k3 λb s=>sb.2 b λy=>nC (by rw[<-y,Vw];show s);let g4:h2.TracedAtW B e Cc a0 (R6 X.QC.SU):=by
  let⟨oe,vs,T1,oT,ts,y1,y2,y3,y4,y5,y6,y7,y8,y9⟩:=k4;let bD:T1≠C:=λz=>by
   let⟨o',b0,b1,a9,bi,_⟩:=az;rw[z,a9]at y7;cases y7;rw[bi]at y8;cases y8
  show(oe,vs,T1,oT,ts,(sb.2 e eC).ο y1,y2,y3,y4,y5,y6,(sb.2 T1 bD).ο y7,y8,y9)
 refine ug (υ:=B) (l:=X.QC::X.KK) g1 g3 g4 λh3 bV j1 j2 j3 aN=>a8 _ _ (nJ (υ:=B) aB aA j1 k2 j2 j3 λM bf aM=>?_);let⟨i1,i2,i3,i4⟩:=bf;let D:∀b o,j.Δ b<*o->b≠e->b≠T->b≠C->b∉pu X.RL->M.Δ b<*o:=λb o z a1 a2 Y a4=>i1 b o (I b o z a1 a2 Y a4);let ar:∀b o,b≠C->j.Δ b<*o->(∀vs,o.RH≠.SD vs)->∃sl,M.Δ b<*{o with XR:=sl}:=λb o bm z hd=>by
  let⟨bU,e1⟩:=up1 b o z hd;let⟨bS,e3⟩:=aN b _ ((sb.2 b bm).ο e1) hd;let⟨aU,e4⟩:=aM b _ e3 hd;show(aU,e4)
 let t:∀b o,s2.ρ.Δ b<*o->b∉fp->b≠e/\b≠T/\b≠C:=λb o z J=>by
  let⟨o1,R⟩:=ab.Uf b o z J;refine(λy=>?_,λy=>?_,λy=>?_)
  .rw [y,de]at R;cases R
  .rw [y,dT]at R;cases R
  .exact QL (lt_size z) (not_lt.Sz (by rw[y];show hC))
 let aC:∀b∈pu X.RL,∀o,s2.ρ.Δ b<*o->∀vs,o.RH≠.SD vs:=λb s o z=>by
  let⟨o',z',hd⟩:=Gu Z.RL b s;rw[z]at z';cases z';show hd
 let aS:Un QCT fp H2 H' s2.ρ M:=by
  refine(λb o z n s J=>?_,λb o z n s J=>?_,a.SB,λb o z J=>?_,a.Uh,a.ZO,a.ZJ)
  .obtain ⟨a1,a2,Y⟩:=t b o z J;show D b o (a.UB b o z n s J) a1 a2 Y s
  .obtain ⟨a1,a2,Y⟩:=t b o z J;let⟨sl,R⟩:=a.YW b o z n s J;let⟨as,z2⟩:=ar b _ Y R (aC b s o z);show(as,z2)
  .obtain ⟨a1,a2,Y⟩:=t b o z J;let⟨o1,R⟩:=a.Uf b o z J;by_cases s:b∈pu X.RL
   .obtain ⟨sl,z3⟩:=a.YW b o z (Z.Xg b s) s J;let⟨as,z2⟩:=ar b _ Y z3 (aC b s o z);show(_,z2)
   .exact (o1,D b o1 R a1 a2 Y s)
 let U:z_ X.Ω X.w H' M:=λb u z=>(F b u z).Wv (λc v hc y=>by
  let bk:∃u',H' c<*u':=by
   rcases hc with f|f
   .exact (u,by rw[f];show z)
   .exact (_,f)
  let⟨u',S⟩:=bk;refine D c v y (λf=>?_) (λf=>?_) (λf=>?_) (λf=>?_)
  .rw [f,he]at S;cases S
  .rw [f,hT]at S;cases S
  .rw [f,HC]at S;cases S
  .rw [bt c f]at S;cases S) (λ_ y=>y) λ_ _ y=>y
 let IF:f' X k σ H' (M,g,d,tk,ag):=Z.call' (s':=(M,g,d,tk,ag)) P aS U L f2;let i:∀b,s1.ρ.Δ b=ε->X.U0.ρ.Δ b=ε:=λb z=>by
  cases y:X.U0.ρ.Δ b with
  |ε=>rfl
  |δ o=>
   let⟨o2,r2⟩:=Z.υ.Uf b o y (by rw[hx];simp);let⟨o1,r1⟩:=ab.Uf b o2 r2 λhm=>by
    rcases(f2 b hm).1 with f|f
    .rw [hx]at f;cases f
    .exact QL (lt_size y) (not_lt.Sz f)
   rw[z]at r1;cases r1
 let⟨T2,a7,ap⟩:=n8 i4;let aH:X.U0.ρ.Δ T2=ε/\H' T2=ε:=by
  let bs:T2≠e:=by let⟨_,_,_,_,_,_,_,_,z,_⟩:=ap;show z
  by_cases f:T2=T
  .rw [f];show(i T dT,hT)
  by_cases w2:T2=C
  .rw [w2];refine(3,HC);cases y:X.U0.ρ.Δ C with
   |ε=>rfl
   |δ o=>show QL (lt_size y) (not_lt.Sz (QB Z.sz hC))
  let bo:=LB ap IF.RL;let z:=bl T2 a7 bs f w2 bo;refine(i T2 ?_,Kq F z);cases y:s1.ρ.Δ T2 with
  |ε=>rfl
  |δ o=>
   let⟨o',r⟩:=un.Uf T2 o y (!1);rw[z]at r;cases r
 let ub:=IF.υ;rw[hx]at ub;show(e,T2,Cc,a0,ε,H',1,IF.os,L,ub,U,i e de,aH.1,he,aH.2,ap,q)
end
section
variable{X:Cx}{ZG UC:SH}{x:QF}{px Ri:UL}{Zh:γ SH}{sc:TJ}{wi:TI}{tt:TT}{te:TE}
end
def zE{P:Id}QF3 QC7 QFI{υ:RC}{N:γ QF}:wj (aP QB1 P w K mg υ N RD a f b A KK s H E) E:=(5,1,λ_ _ h=>h)
section
variable{X:Cx}{ZG UC:SH}{x:QF}{px Ri:UL}{Zh:γ SH}{sc:TJ}{wi:TI}{tt:TT}{te:TE}
def kl(i:γ QF){U g:UL}(O:wj X E)(hc:X.XV=π)(hN:X.N.R7)(q:(x::i).R7)(hj:X.N[j]?<*y)(z:C6 X.QC.RF y)(hi:PI X QHF UC wi)(n:∀(P:γ QBC)QFT(M:γ θ)QB_ QAH,FE {k_ X x sc P C M s H with N:=x::i} Zh tt/\PE (({k_ X x sc P C M s H with N:=x::i}:Cx).Z' (jy X {k_ X x sc P C M s H with N:=x::i} E)) ZG te)(hx:QCR>>>4)(a:QE_>>>4)(d:QAW>>>3)(c:QBt>>>3)(l:QAV>>>4)(B:((i.UW λy=>sc.QH.ς y != δ .local)=π)>>>4)(F:(i.β=X.N.β)>>>4)(w:(((i.X6 X.N).UW λy=>y.1==y.2||sc.QH.ς y.1==ε)=π)>>>4)(hs:QA4>>>7)(A:(W9 QAk (δ (.SG y U)) g.XC X.QC=pure π)>>>4)(L:QHc>>>8):PS X (.Assign [.SG y U] QAk g) (aJ QGN (AY j)):=by
 intro Z s T H DD I h;refine BQ A λ_=>x' (xx:=λY=>jy X Y E) (fnx:=λ_=>ν) (Q:=λv t=>AY j v T t DD.nx) (ns:=[x]) (gx:=λy _ vs=>vs=[y]) i hc q hi n (JO q (.RN (Sm hx)) (.Rh (Sm hx))) a d (JN a c) (λy h e=>QL e (c y h)) kJ (Ro.Sz λy hy=>by rw[Ro.mp l y hy];rfl) B F w hs I h (λJ t r D hD=>?_) (λS o u k R qn=>oY hN hj z L S o u k R qn) λS o k f=>lQ O S (λb n=>((o b n).2.2.2.1,(o b n).2.1,(o b n).2.2.2.2.1,(o b n).2.2.2.2.2)) k f;let⟨W,m,p⟩:=r D hD;show(W,m,JP (Q:=λv t=>AY j v T t DD.nx) p)
end
inductive wG(C:ι->θ)(m:QF)(sp:ι->Sp)QE0 QAR(x:V)QDz:Prop
 |mk (i a dx fs:_) QET (_:H1 a<*.XE (C i) dx fs) (_:fs.ς m=ε) (_:sp i [x] H1 Q E)
abbrev sQ{ι:Type}(C:ι->θ)(m:QF)(sp:ι->Sp)QE0(ta:TE):TE:=λσ H Q=>ta σ H (wG C m sp E Q)
section
variable{X:Cx}{CX:CXT}{k:χ}{ps:γ QF}{E:XK}{m x:QF}{p Ri apos:UL}{o e:SH}{ta te:TE}{ι:Type}{C f:ι->θ}{fd:ι->TY}{sp:ι->Sp}
def KQ(D:PE X o ta)(c:∀i,BZ X.K (C i))(j:∀i,gn X.K (C i) m (f i))(F:∀i,aa X.Ω X.w X.K X.mg X.υ CX k (f i) (fd i) ps (sp i))(B:ak k X.A)(J:∀i,yx X.K (fd i) ps [])(t:D0 CX X E)(v:(Sc (.T0 (.S7 o m apos) [] [] Ri) X.QC=(do
   let g <-Sc o X.QC
   standAt apos.atName
   let(f,first,) <-holding [g] (getMethod g m pl)
   callWith Ri f first (ST Ri (BT [] X.QC)) (Yn Ri (WR [] X.QC))))>>>4):PE X (.T0 (.S7 o m apos) [] [] Ri) (sQ C m sp E ta):=by
 intro b s n H Q I h;refine Ξ.W.methodCall_KW (pl:=pl) (nb (D b s n H _ I h) λu M z=>?_) v;let⟨y,N,d,r,i,a,dx,fs,ζ,L,l,q⟩:=z;cases r;refine eW d L (c i) (j i) l (Ξ.W.callWith_K0 (first:=[.ξ a]) d.Xb (j i).kp ?_);show mY (us:=[.ξ a]) (vs:=[.ξ a]) (F i) B (J i) .S5 t d QDg q
structure JY QBQ QFT:Prop where
 makes:makesIn K C=π
 init:Ξ.W.TR K QAr "__init__"<*δ (.RJ "object.__init__")
 kp:Vz K QAr=π
 mro:Ξ.W.mroIn K C (.QU "object")<*π
abbrev zh QFT:TE:=λ_ H Q=>∀x dx,H x=ε->H dx=ε->dx≠x->Q QDp (QO QFU x (.XE C dx []))
def Mj{C:θ}(M:JY X.K C)(j:Gl X x)(i:X.mg x<*.ξ C)(c:((x==("__debug__":QF))=ν)>>>0):PE X (.T0 QCU [] [] Ri) (zh C):=by
 intro g s l H Q I h;let d:=f'.made (C:=C) I;let⟨q,O,_⟩:=Js (a:=s⁻¹+1) (C:=C) (dx:=s⁻¹) (fs:=[]) d.S8 hJ;let⟨n,J,_⟩:=O.look;refine Rg (sB I j i (Ξ.W.callWith_K0 I.Xb M.kp (US ?_)) c);refine rk I.Xb M.makes M.init (λb=>.of_pure (Ξ.W.oi_bind b)) ?_;refine U5 Ξ.W.oi_plain Ξ.W.entry_oi ?_;refine Ξ.W.check_slot (Ww:=[]) (kw:=[]) Ξ.W.oi_kind Ξ.W.oi_split (J.QU.andThen (Ξ.W.looks_mroIn d.Xb M.mro)) (Ξ.W.oi_args _) ?_;rw[Ξ.W.oi_run];show h9 (1,V.ξ _,_,d,1,h _ _ (I.S8.SZ (XM _)) QDA (RM (R8 _)))
end
end L2
namespace RA
open L2
inductive K0 where
 |Tc|Vd|U6
inductive K1 where
 |Tf|Sr|again
inductive K2 where
 |VT|Zd|Zo|Vm
inductive Pt where
 |S0 (k:K0)
 |Up QHP
 |UX (k:K1) (x:Pt)
 |WD (k:K2) (x y:Pt)
inductive Kd where
 |S0 (k:K0)
 |Up
 |UX (k:K1)
 |WD (k:K2)
abbrev Pt.kd:Pt->Kd
 |.S0 k=>.S0 k
 |.Up _=>.Up
 |.UX k _=>.UX k
 |.WD k _ _=>.WD k
abbrev Pt.Xk:Pt->χ
 |.S0 _=>1
 |.Up _=>1
 |.UX _ x=>x.Xk+1
 |.WD _ x y=>max x.Xk y.Xk+1
def Pt.YQ QEM:1≤t.Xk:=by
 cases t<;>simp only[Pt.Xk]<;>lia
abbrev JZ:K0->QF
 |.Tc=>"never"
 |.Vd=>"empty"
 |.U6=>"any"
abbrev Ee:K1->QF
 |.Tf=>"outside"
 |.Sr=>"turned"
 |.again=>"again"
abbrev C0:K2->QF
 |.VT=>"either"
 |.Zd=>"less"
 |.Zo=>"both"
 |.Vm=>"then"
abbrev Pg:Kd->QF
 |.S0 .Tc=>"Never"
 |.S0 .Vd=>"Empty"
 |.S0 .U6=>"AnySign"
 |.Up=>"Sign"
 |.UX .Tf=>"Outside"
 |.UX .Sr=>"Turned"
 |.UX .again=>"Again"
 |.WD .VT=>"Either"
 |.WD .Zd=>"Less"
 |.WD .Zo=>"Both"
 |.WD .Vm=>"Then"
abbrev Ef{α:Type}(a1 a2 a3 a4 a5 a6 a7 a8 a9 a10 a11:α):Kd->α
 |.S0 .Tc=>a1
 |.S0 .Vd=>a2
 |.S0 .U6=>a3
 |.Up=>a4
 |.UX .Tf=>a5
 |.UX .Sr=>a6
 |.UX .again=>a7
 |.WD .VT=>a8
 |.WD .Zd=>a9
 |.WD .Zo=>a10
 |.WD .Vm=>a11
def bW{p:Kd->Prop}(h1:p (.S0 .Tc))(h2:p (.S0 .Vd))(i:p (.S0 .U6))(h:p .Up)(g:p (.UX .Tf))(f:p (.UX .Sr))(e:p (.UX .again))(d:p (.WD .VT))(c:p (.WD .Zd))(b:p (.WD .Zo))(a:p (.WD .Vm)):∀k,p k
 |.S0 .Tc=>h1
 |.S0 .Vd=>h2
 |.S0 .U6=>i
 |.Up=>h
 |.UX .Tf=>g
 |.UX .Sr=>f
 |.UX .again=>e
 |.WD .VT=>d
 |.WD .Zd=>c
 |.WD .Zo=>b
 |.WD .Vm=>a
abbrev BB QC_ QAH:Pt->V->Prop
 |.S0 k,v=>∃a dx,v=.ξ a/\H a<*.XE (c QJi) dx []
 |.Up z,v=>∃a dx,v=.ξ a/\H a<*.XE (c .Up) dx (ah "sign" (.QZ (tx [z])) [])
 |.UX k x,v=>∃a dx u,v=.ξ a/\H a=δ (.XE (c (.UX k)) dx (ah "inner" u []))/\BB c H x u
 |.WD k x y,v=>∃a dx u w,v=.ξ a/\H a=δ (.XE (c (.WD k)) dx (ah "right" w (ah "left" u [])))/\BB c H x u/\BB c H y w
abbrev aj QAH:Pt->V->Prop
 |.S0 k,v=>∃a,v=.ξ a/\H a<*.Rn [.QZ (JZ k)]
 |.Up z,v=>∃a,v=.ξ a/\H a<*.Rn [.QZ "sign",.QZ (tx [z])]
 |.UX k x,v=>∃a u,v=.ξ a/\H a=δ (.Rn [.QZ (Ee k),u])/\aj H x u
 |.WD k x y,v=>∃a u w,v=.ξ a/\H a=δ (.Rn [.QZ QIu,u,w])/\aj H x u/\aj H y w
abbrev Kp QHL:Prop:=∀b o,H b<*o->(∀xs,o≠.QV xs)->H' b<*o
def a'.kp(h:a' H H'):Kp H H':=λb o e _=>h b o e
def Kp.QV(h:H p<*.QV xs):Kp H (QO H p o):=λb a e n=>by
 rw[a_ (m_ e h (λz=>n xs z))];show e
def BB.kp{c:Kd->θ}{H H':Hp}(h:Kp H H'){t:Pt}{v:V}(i:BB c H t v):BB c H' t v:=by
 induction t generalizing v with
 |S0=>let⟨a,dx,e,b⟩:=i;show(a,dx,e,h _ _ b QAD)
 |Up=>let⟨a,dx,e,b⟩:=i;show(a,dx,e,h _ _ b QAD)
 |UX _ _ k=>let⟨a,dx,u,e,b,d⟩:=i;show(a,dx,u,e,h _ _ b QAD,k d)
 |WD _ _ _ k l=>let⟨a,dx,u,w,e,b,d,f⟩:=i;show(a,dx,u,w,e,h _ _ b QAD,k d,l f)
def aj.kp{H H':Hp}(h:Kp H H'){t:Pt}{v:V}(i:aj H t v):aj H' t v:=by
 induction t generalizing v with
 |S0=>let⟨a,e,b⟩:=i;show(a,e,h _ _ b QAD)
 |Up=>let⟨a,e,b⟩:=i;show(a,e,h _ _ b QAD)
 |UX _ _ k=>let⟨a,u,e,b,d⟩:=i;show(a,u,e,h _ _ b QAD,k d)
 |WD _ _ _ k l=>let⟨a,u,w,e,b,d,f⟩:=i;show(a,u,w,e,h _ _ b QAD,k d,l f)
def BB.XE{c:Kd->θ}QHV:∀{t:Pt}{v:V},BB c H t v->∃a dx fs,v=.ξ a/\H a=δ (.XE (c t.kd) dx fs)/\fs.ς ("shape":QF)=ε
 |.S0 _,_,⟨a,dx,e,b⟩=>(a,dx,_,e,b,1)
 |.Up _,_,⟨a,dx,e,b⟩=>(a,dx,_,e,b,by rw[BY,Cl (!3)];rfl)
 |.UX _ x,_,⟨a,dx,u,e,b,d⟩=>(a,dx,_,e,b,by rw[BY,Cl (!3)];rfl)
 |.WD _ x y,_,⟨a,dx,u,w,e,b,d,f⟩=>(a,dx,_,e,b,by rw[BY,Cl (!3),BY,Cl (!3)];rfl)
def xF(u:V):(ah "sign" u []).ς ("sign":QF)<*u:=by rw[BY,IO ζ]
def uO(u:V):(ah "inner" u []).ς ("inner":QF)<*u:=by rw[BY,IO ζ]
def xG(u w:V):(ah "right" w (ah "left" u [])).ς ("left":QF)<*u:=by rw[BY,Cl (!3),BY,IO ζ]
def uN(u w:V):(ah "right" w (ah "left" u [])).ς ("right":QF)<*w:=by rw[BY,IO ζ]
structure yu QBQ(C cP:θ):Prop where
 cl:BZ K C
 ha:Ξ.W.TR K QAr "__class__"<*δ (.RJ "object.__class__")
 hn:Ξ.W.specialIn K (.RJ "object.__class__") "__get__"<*δ (.RJ "getset_descriptor.__get__")
 htk:Ξ.W.takesIn K (.RJ "object.__class__")<*π
 hm:Ξ.W.mroIn K C (.QU "object")<*π
 ki:kitOne K QAr (.ξ cP)<*π
 nS:wx K C "sign"
 nL:wx K C "left"
 nR:wx K C "right"
 nI:wx K C "inner"
inductive wP QBQ QEh QAI QAH QAR QA9:Prop
 |mk (p v C dx:_) (_:vs=[.ξ p,v]) (_:H p<*.XE C dx []) QKl (_:wx K C x) (_:∀H',QJj->H' p<*.XE C dx (ah x v [])->Q .Uv H')
inductive N3 QBQ(x y:QF)QAI QAH QAR QA9:Prop
 |mk (p v u C dx:_) (_:vs=[.ξ p,v,u]) (_:H p<*.XE C dx []) QKl (_:wx K C x) (_:wx K C y) (_:∀H',QJj->H' p<*.XE C dx (ah y u (ah x v []))->Q .Uv H')
def Cd(c:H x=ε)(a:H dx=ε)(h:∀b o,(QO QFU x o0) b<*o->b≠x->H' b<*o):a' H H':=λb o e=>
 h b o (by rw[a_ (f_ e c),a_ (f_ e a)];show e) (f_ e c)
inductive iB QC_ QCm(k:Kd)QAI QAH QAR QA9:Prop
 |mk QCs QEM QEY (_:BB c H t QAd) (_:t.kd=k) QF8 (_:∀v H',a' H H'->aj H' t v->Q v H')
structure FT QKU QBP QBQ QAs(υ:RC)QC_(cP:θ):Prop where
 kP:mg "Pattern"<*.ξ cP
 kc:∀k,mg (Pg k)<*.ξ (c k)
 pc:∀k,yu K (c k) cP
 mk0:∀k,JY K (c QJi)
 iS:∃f fd,Mk K (c .Up) f/\aa P w K mg υ lb 1 f fd ["self","sign"] (wP K "sign")/\yx K fd ["self","sign"] []
 iU:∃f fd,(∀k,Mk K (c (.UX k)) f)/\aa P w K mg υ lb 1 f fd ["self","inner"] (wP K "inner")/\yx K fd ["self","inner"] []
 iP:∃f fd,(∀k,Mk K (c (.WD k)) f)/\aa P w K mg υ lb 1 f fd ["self","left","right"] (N3 K "left" "right")/\yx K fd ["self","left","right"] []
 sh:∃(f:Kd->θ)(fd:Kd->TY),(∀k,gn K (c k) "shape" (f k))/\(∀k,yx K (fd k) ["self"] [])/\∀n k,aa P w K mg υ lb n (f k) (fd k) ["self"] (iB c n k)
abbrev bh(ts:γ Pt):χ:=(ts.Q_ Pt.Xk).sum
def J0(ts:γ Pt)QEM:bh (ts++[t])=bh ts+t.Xk:=by
 unfold bh;rw[RU,γ.sum_append];simp
def HY{ys:γ V}:(ys++[v])[(ys++[v]).β-1]?<*v:=by simp
inductive U2 where
 |Tf|Sr
abbrev U2.k1:U2->K1
 |.Tf=>.Tf
 |.Sr=>.Sr
inductive Wt where
 |lp
 |un (k:U2)
 |Xm (k:K2)
abbrev lvl:K2->χ
 |.VT=>0
 |.Zd=>0
 |.Zo=>1
 |.Vm=>2
abbrev Wt.QZ:Wt->χ
 |.lp=>0
 |.un _=>4
 |.Xm k=>lvl k+1
inductive Tk where
 |lp
 |rp
 |star
 |un (k:U2)
 |Xm (k:K2)
 |WL QEM
abbrev Bu(s:χ):γ Pt->γ Wt->ψ QHh
 |_,[]=>ε
 |ps,w::ws=>if s≤w.QZ then
   match w,ps with
   |.un k,x::qs=>Bu s (.UX k.k1 x::qs) ws
   |.Xm k,y::x::qs=>Bu s (.WD k x y::qs) ws
   |_,_=>ε
  else δ (ps,w::ws,)
abbrev N4:γ Pt×γ Wt->ψ QHh
 |(ps,_::ws)=>δ QIv
 |(_,[])=>ε
abbrev Ph:γ Pt->ψ (γ Pt)
 |x::qs=>δ (.UX .again x::qs)
 |[]=>ε
abbrev dC(ps:γ Pt)(ws:γ Wt):Tk->ψ QHh
 |.lp=>δ (ps,.lp::ws,)
 |.un k=>δ (ps,.un k::ws,)
 |.Xm k=>(Bu (lvl k+1) ps ws).Q_ λr=>(r.1,.Xm k::r.2,)
 |.rp=>(Bu 1 ps ws).Zq N4
 |.star=>(Ph ps).Q_ λqs=>(qs,ws,)
 |.WL t=>δ (t::ps,ws,)
abbrev Bc:γ Tk->γ Pt×γ Wt->ψ QHh
 |[],r=>δ r
 |t::ts,r=>(dC r.1 r.2 t).Zq (Bc ts)
def HZ:∀(a b:γ Tk)(r:γ Pt×γ Wt),Bc (a++b) r=(Bc a r).Zq (Bc b)
 |[],_,_=>rfl
 |t::a,b,r=>by
  change (dC r.1 r.2 t).Zq (Bc (a++b))=((dC r.1 r.2 t).Zq (Bc a)).Zq (Bc b);cases dC r.1 r.2 t with
  |ε=>rfl
  |δ c=>show HZ a b c
abbrev BL QHP:Ψ:=[33,60,40,38,124,45].Qz c
abbrev isB QHP:Ψ:=[42,38,124,45,41].Qz c
abbrev Wa QHP:Tk:=
 if c=40 then .lp else if c=41 then .rp else if c=42 then .star else if c=33 then .un .Tf else if c=60 then .un .Sr
 else if c=124 then .Xm .VT else if c=45 then .Xm .Zd else if c=38 then .Xm .Zo
 else if c=48 then .WL (.S0 .Tc)else if c=49 then .WL (.S0 .Vd)else if c=46 then .WL (.S0 .U6)else .WL (.Up c)
abbrev QT:Ψ->LN->γ Tk
 |_,[]=>[]
 |w,c::cs=>(if (!w&&!isB c)=π then[.Xm .Vm]else[])++Wa c::QT (BL c) cs
abbrev CA QK3:LN->Ψ
 |[]=>b
 |c::cs=>CA (BL c) cs
def KR:∀(u v:LN)QK3,QT b (u++v)=QT b u++QT (CA b u) v
 |[],_,_=>rfl
 |c::u,v,b=>by
  change _++Wa c::QT (BL c) (u++v)=(_++Wa c::QT (BL c) u)++_;rw[KR u v];simp[CA]
def AV:∀(u v:LN)QK3,CA b (u++v)=CA (CA b u) v
 |[],_,_=>rfl
 |c::u,v,b=>AV u v _
abbrev c0:K0->χ
 |.Tc=>48
 |.Vd=>49
 |.U6=>46
abbrev c1:U2->χ
 |.Tf=>33
 |.Sr=>60
abbrev m2:K2->LN
 |.VT=>[124]
 |.Zd=>[45]
 |.Zo=>[38]
 |.Vm=>[]
inductive G QA5:χ->Pt->LN->Prop where
 |S0 (k:K0):G L 4 QJi [c0 k]
 |Up {c:χ} (h:c∈L):G L 4 (.Up c) [c]
 |par {l:χ} {t:Pt} {w:LN} QDU:G L 4 t (40::(w++[41]))
 |again {t:Pt} {w:LN} (h:G L 4 t w):G L 4 (.UX .again t) (w++[42])
 |pre {l:χ} {t:Pt} {w:LN} (k:U2) QDU (hl:3≤l):G L 3 (.UX k.k1 t) (c1 k::w)
 |Xm QAq {x y:Pt} {u v:LN} (k:K2) (hx:G L a x u) (hy:G L b y v) (ha:lvl k≤a) (hb:lvl k+1≤b):G L (lvl k) (.WD k x y) (u++m2 k++v)
abbrev lZ QA5:Prop:=∀c∈L,97≤c/\c≤122
def vb(h:97≤c/\c≤122):BL c=ν/\isB c=ν/\Wa c=.WL (.Up c):=by
 let⟨h1,h2⟩:=h;refine(3,3,3)
 .unfold BL;simp;lia
 .unfold isB;simp;lia
 .unfold Wa;repeat rw[Cl (!6)]
def G.first(b:lZ L)QDU:∃c r,w=c::r/\isB c=ν:=by
 induction h with
 |S0 k=>show(_,0,by cases k<;>rfl)
 |Up h=>show(9,(vb (b _ h)).2.1)
 |par h a=>show(_,0,1)
 |again h a=>let⟨c,r,ζ,e⟩:=a;show(c,0,e)
 |pre k h g a=>show(_,0,by cases k<;>rfl)
 |Xm k f d j i ih1 ih2=>let⟨c,r,ζ,e⟩:=ih1;show(c,0,e)
def G.last(c:lZ L)QDU:∀b,CA b w=ν:=by
 induction h with
 |S0 k=>intro b;cases k<;>rfl
 |Up h=>show λb=>(vb (c _ h)).1
 |par h a=>intro b;change CA _ (_++[41])=ν;rw[AV];rfl
 |again h a=>intro b;rw[AV];rfl
 |pre k h f a=>show λb=>a _
 |Xm k e d i g ih1 ih2=>intro b;rw[AV];show ih2 _
def DS(h:isB c=ν):QT ν (c::r)=.Xm .Vm::QT π (c::r):=by
 unfold QT;rw[h];rfl
abbrev yS(os:γ Wt)(qs:γ Pt)QEM:Prop:=∀s ps ws,(∀o∈os,s≤o.QZ)->Bu s (qs++ps) (os++ws)=Bu s (t::ps) ws
def J1(h:w.QZ<s):Bu s ps (w::ws)<*(ps,w::ws,):=by
 unfold Bu;rw[Cl (!6)]
def mQ(h:s≤4):Bu s (x::ps) (.un k::ws)=Bu s (.UX k.k1 x::ps) ws:=by
 rw[Bu,IO (show s≤(Wt.un k).QZ from h)]
def j6(h:s≤lvl k+1):Bu s (y::x::ps) (.Xm k::ws)=Bu s (.WD k x y::ps) ws:=by
 rw[Bu,IO (show s≤(Wt.Xm k).QZ from h)]
def jj(k:K2):lvl k≤2:=by cases k<;>decide
def zn(o:Wt):o.QZ≤4:=by
 cases o with
 |lp=>show RO _
 |un k=>show QA _
 |Xm k=>have:=jj k;change lvl k+1≤4;lia
def yX(k:K0):Wa (c0 k)=.WL QJi:=by cases k<;>rfl
def mF(k:U2):Wa (c1 k)=.un k/\BL (c1 k)=π:=by
 cases k<;>show(1,1)
def YH{os:γ Wt}(h:∀o∈os,5≤o.QZ):os=[]:=by
 cases os with
 |S5=>rfl
 |Rc o r=>have:=h o (!1);have:=zn o;lia
def um(f:yS [] a t):a=[t]:=by
 let e:=f 1 [] [.lp] (!1);rw[Tx]at e;rw[show([]:γ Wt)++[Wt.lp]=[.lp]from ζ,J1 (!0),J1 (!0)]at e;simpa using e
def G.Sl(C:lZ L)QDU:∀ps ws,(l≤2->∃a r,ws=a::r/\a.QZ<l+1)->
  ∃j os,Bc (QT π w) QIv=δ (j++ps,os++ws,)/\yS os j t/\∀o∈os,l+1≤o.QZ:=by
 induction h with
 |S0 k=>
  intro ps ws _;refine([.S0 k],[],3,λs ps ws _=>rfl,!1);change Bc (Wa (c0 k)::[]) QIv=_;rw[yX];rfl
 |Up h=>
  rename_i c;intro ps ws _;refine([.Up c],[],3,λs ps ws _=>rfl,!1);change Bc (Wa c::[]) QIv=_;rw[(vb (C _ h)).2.2];rfl
 |par h p=>
  rename_i l t w;intro ps ws _;let⟨j,os,e,f,A⟩:=p ps (.lp::ws) (λ_=>(.lp,ws,1,χ.succ_pos _));refine([t],[],3,λs ps ws _=>rfl,!1);change Bc (.lp::QT π (w++[41])) QIv=_;rw[KR,h.last C];change Bc (QT π w++[.rp]) (ps,.lp::ws,)=_;rw[HZ,e];change ((Bu 1 (j++ps) (os++.lp::ws)).Zq N4).Zq (Bc [])=_;rw[f 1 ps _ (λo g=>by have:=A o g;lia),J1 (!0)];rfl
 |again h p=>
  rename_i t w;intro ps ws _;let⟨j,os,e,f,A⟩:=p ps ws QKe;obtain ζ:=YH A;obtain ζ:=um f;refine([.UX .again t],[],3,λs ps ws _=>rfl,!1);rw[KR,h.last C,HZ,e];rfl
 |pre k h R p=>
  rename_i l t w;intro ps ws _;let⟨j,os,e,f,A⟩:=p ps (.un k::ws) (λz=>QL z (!6));refine(j,os++[.un k],3,λs ps ws i=>?_,λo g=>?_)
  .change Bc (Wa (c1 k)::QT (BL (c1 k)) w) QIv=_;rw[(mF k).1,(mF k).2,SK];show e
  .rw [SK];rw[f s ps _ (λo g=>i o (by simp[g]))];show mQ (i (.un k) (!1))
  .rcases Rp.mp g with g|g
   .have:=A o g;lia
   .obtain ζ:o=.un k:=by simpa using g
    show QA _
 |Xm k J I T S ih1 ih2=>
  rename_i a b x y u v;intro ps ws E;let⟨Um,r,ζ,q⟩:=E (jj k);let⟨m,n,Q,O,h1⟩:=ih1 ps (Um::r) (λ_=>(Um,r,1,!6));let⟨D,H,P,N,h2⟩:=ih2 (x::ps) (.Xm k::Um::r) (λ_=>(.Xm k,0,by change lvl k+1<_;lia));let B:dC (m++ps) (n++Um::r) (.Xm k)<*QG5:=by
   change (Bu (lvl k+1) (m++ps) (n++Um::r)).Q_ _=_;rw[O _ _ _ (λo g=>by have:=h1 o g;lia),J1 q];rfl
  refine(D++[x],H++[.Xm k],3,λs ps ws i=>?_,λo g=>?_)
  .let hmid:Bc (QT ν (m2 k++v)) QJk=Bc (QT π v) QG5:=by
    let d:Bc (.Xm k::QT π v) QJk=Bc (QT π v) QG5:=by
     change (dC (m++ps) (n++Um::r) (.Xm k)).Zq _=_;rw[B];rfl
    cases k with
    |Vm=>
     let⟨c,F,ζ,M⟩:=I.first C;change Bc (QT ν (c::F)) _=_;rw[DS M];show d
    |VT=>show d
    |Zd=>show d
    |Zo=>show d
   rw[SK,KR,J.last C,HZ,Q];change Bc (QT ν (m2 k++v)) QJk=_;rw[hmid,P,SK,SK];rfl
  .rw [SK,SK];rw[show D++([x]++ps)=D++(x::ps)from ζ,N s (x::ps) _ (λo g=>i o (by simp[g]))];show j6 (i (.Xm k) (!1))
  .rcases Rp.mp g with g|g
   .have:=h2 o g;lia
   .obtain ζ:o=.Xm k:=by simpa using g
    show QA _
def G.read(b:lZ L)QDU:Bc (QT π (40::(w++[41]))) ([],[],)<*([t],[],):=by
 let⟨c,os,e,f,a⟩:=(G.par h).Sl b [] [] QKe;obtain ζ:=YH a;obtain ζ:=um f;show e
abbrev v_ QA5 QHP(w:Ψ)(d:χ):Ψ:=
 if L.Qz c||[48,49,46,33,60,40].Qz c then π
 else if c=41 then decide (0<d)&&!w
 else[42,38,124,45].Qz c&&!w
abbrev FU(c d:χ):χ:=if c=41 then(if c=40 then d+1 else d)-1 else if c=40 then d+1 else d
abbrev Yx QA5:χ->Ψ->LN->ψ (χ×Ψ)
 |d,w,[]=>δ (d,w,)
 |d,w,c::cs=>if v_ L c w d=π then Yx L (FU c d) (BL c) cs else ε
def AW QA5:∀(u v:LN)(d:χ)(w:Ψ),Yx L d w (u++v)=(Yx L d w u).Zq λr=>Yx L r.1 r.2 v
 |[],_,_,_=>rfl
 |c::u,v,d,w=>by
  change (if v_ L c w d=π then Yx L (FU c d) (BL c) (u++v)else ε)=(if v_ L c w d=π then Yx L (FU c d) (BL c) u else ε).Zq _;by_cases h:v_ L c w d=π
  .rw [IO h,IO h];show AW L u v _ _
  .rw [Cl h,Cl h];rfl
def yd(h:c∈L):v_ L c w d=π:=by
 unfold v_;rw[IO (by simp[h])]
def fu(h:[48,49,46,33,60,40].Qz c=π):v_ L c w d=π:=by
 unfold v_;rw[IO (by rw[h];simp)]
def cF(h:[42,38,124,45].Qz c=π)(h2:c≠41):v_ L c ν d=π:=by
 unfold v_;rw[Cl h2,h];split<;>rfl
def yc:v_ L 41 ν (d+1)=π:=by
 unfold v_;rw[IO ζ,RI (χ.succ_pos d)];split<;>rfl
def Ml(h1:c≠40)(h2:c≠41):FU c d=d:=by
 unfold FU;rw[Cl h2,Cl h1]
def G.Yx(f:lZ L)QDU:∀d b,Yx L d b w<*(d,ν,):=by
 induction h with
 |S0 k=>
  intro d b;change (if v_ L (c0 k) b d=π then δ (FU (c0 k) d,BL (c0 k),)else ε)=_;rw[IO (fu (by cases k<;>rfl))];cases k<;>rfl
 |Up h=>
  rename_i c;intro d b;have:=f _ h;change (if v_ L c b d=π then δ (FU c d,BL c,)else ε)=_;rw[IO (yd h),Ml (!6) (!6),(vb (f _ h)).1]
 |par h e=>
  rename_i l t w;intro d b;change (if v_ L 40 b d=π then RA.Yx L (d+1) π (w++[41])else ε)=_;rw[IO (fu ζ),AW,e];change (if v_ L 41 ν (d+1)=π then δ (d+1-1,ν,)else ε)=_;rw[IO yc];rfl
 |again h e=>
  intro d b;rw[AW,e];change (if v_ L 42 ν d=π then δ (d,ν,)else ε)=_;rw[IO QKF]
 |pre k h j e=>
  rename_i l t w;intro d b;change (if v_ L (c1 k) b d=π then RA.Yx L (FU (c1 k) d) (BL (c1 k)) w else ε)=_;rw[IO (fu (by cases k<;>rfl)),(mF k).2,e,Ml (by cases k<;>decide) (by cases k<;>decide)]
 |Xm k i g n m ih1 ih2=>
  rename_i a b x y u v;intro d b;rw[SK,AW,ih1];change RA.Yx L d ν (m2 k++v)=_;cases k with
  |Vm=>show ih2 d ν
  |VT=>
   change (if v_ L 124 ν d=π then RA.Yx L d π v else ε)=_;rw[IO QKF];show ih2 _ _
  |Zd=>
   change (if v_ L 45 ν d=π then RA.Yx L d π v else ε)=_;rw[IO QKF];show ih2 _ _
  |Zo=>
   change (if v_ L 38 ν d=π then RA.Yx L d π v else ε)=_;rw[IO QKF];show ih2 _ _
abbrev Pt.sz:Pt->χ
 |.S0 _=>1
 |.Up _=>1
 |.UX _ x=>x.sz+1
 |.WD _ x y=>x.sz+y.sz+1
abbrev Pt.Xa QA5:Pt->Prop
 |.S0 _=>S9
 |.Up c=>c∈L
 |.UX _ x=>x.Xa L
 |.WD _ x y=>x.Xa L/\y.Xa L
def J2{s:χ}:∀{ws:γ Wt}{ps ps':γ Pt}{Z9:γ Wt},Bu s ps ws<*(ps',Z9,)->ps'.β≤ps.β/\Z9.β≤ws.β
 |[],ps,ps',Z9,h=>by simp[Bu]at h
 |w::ws,ps,ps',Z9,h=>by
  unfold Bu at h;by_cases a:s≤w.QZ
  .rw [IO a]at h;match w,ps,h with
   |.un k,x::b,h=>
    have:=J2 h;simp only[RY]at this⊢;lia
   |.Xm k,y::x::b,h=>
    have:=J2 h;simp only[RY]at this⊢;lia
  .rw [Cl a]at h;cases h;show(QA _,QA _)
def tY(h:dC ps ws t<*(ps',Z9,)):ps'.β≤ps.β+1/\Z9.β≤ws.β+1:=by
 cases t with
 |lp=>cases h;show(XM _,QA _)
 |un k=>cases h;show(XM _,QA _)
 |WL t=>cases h;show(QA _,XM _)
 |star=>
  cases ps with
  |S5=>cases h
  |Rc x d=>cases h;show(XM _,XM _)
 |Xm k=>
  let⟨r,c,e⟩:=AE h;cases e;have:=J2 (ps':=r.1) (Z9:=r.2) c;simp only[RY];lia
 |rp=>
  let⟨r,c,e⟩:=ψ.Ym.mp h;let h1:=J2 (ps':=r.1) (Z9:=r.2) c;let⟨a,b⟩:=r;cases b with
  |S5=>cases e
  |Rc x b=>cases e;simp only[RY]at h1;lia
def jQ:∀QFP QK3,(QT b w).β≤2*w.β
 |[],_=>QA _
 |c::a,b=>by
  have:=jQ a (BL c);unfold QT;rw[q4,RY,RY];split
  .rw [RY,WF];lia
  .rw [WF];lia
def nc(h:Bc ts r<*b)QBB:∃a,Bc (ts.R0 i) r=δ a/\Bc (ts.Th i) a<*b:=by
 rw[<-Vq i ts,HZ]at h;show ψ.Ym.mp h
abbrev oJ:Wt->QF
 |.lp=>tx [40]
 |.un .Tf=>"outside"
 |.un .Sr=>"turned"
 |.Xm k=>C0 k
abbrev wv(w:Wt):V:=.QZ (oJ w)
abbrev Pi:Tk->QF
 |.lp=>tx [40]
 |.rp=>tx [41]
 |.star=>"again"
 |.un k=>oJ (.un k)
 |.Xm k=>C0 k
 |.WL QJi=>JZ k
 |.WL (.Up c)=>tx [c]
 |.WL _=>tx []
abbrev tv(t:Tk):V:=.QZ (Pi t)
abbrev Tk.ok:Tk->Prop
 |.WL (.S0 _)=>S9
 |.WL (.Up c)=>97≤c/\c≤122
 |.WL _=>Rk
 |_=>S9
abbrev dKINDS:γ QGs:=[(.Rh (tx [48]),.QZ "never",),(.Rh (tx [49]),.QZ "empty",),(.Rh (tx [46]),.QZ "any",),(.Rh (tx [124]),.QZ "either",),(.Rh (tx [45]),.QZ "less",),(.Rh (tx [38]),.QZ "both",),(.Rh (tx [33]),.QZ "outside",),(.Rh (tx [60]),.QZ "turned",),(.Rh (tx [42]),.QZ "again",)]
abbrev vM:γ QGs:=[(.Rh "either",.QG 1,),(.Rh "less",.QG 1,),(.Rh "both",.QG 2,),(.Rh "then",.QG 3,),(.Rh "outside",.QG 4,),(.Rh "turned",.QG 4,),(.Rh "again",.QG 5,),(.Rh "never",.QG 5,),(.Rh "empty",.QG 5,),(.Rh "sign",.QG 5,),(.Rh "any",.QG 5,)]
def Pk(w:Wt):(aK vM (.Rh (oJ w))).LT (.QG 0)=.QG (w.QZ:χ):=by
 cases w with
 |lp=>decide +kernel
 |un k=>cases k<;>decide +kernel
 |Xm k=>cases k<;>decide +kernel
def wI(k:K2):aK vM (.Rh QIu)<*.QG ((lvl k:χ)+1):=by cases k<;>decide +kernel
abbrev oG QHP:Prop:=(97≤c/\c≤122)\/c∈[40,41,42,33,60,124,45,38,48,49,46]
def Hn(h:oG c):(Wa c).ok:=by
 rcases h with h|h
 .rw [(vb h).2.2];show h
 .simp only[QY,SM,TQ]at h;rcases h with ζ|rfl|rfl|rfl|rfl|rfl|rfl|rfl|rfl|rfl|rfl<;>show S9.Sv
def J3(h:a≠b):¬ ((Sum.Rh (tx [a]):A1)=Sum.Rh (tx [b])):=λe=>h (by have:=iq (Sum.Rh.Tp e);simpa using this)
def rq(h:oG c):(aK dKINDS (.Rh (tx [c]))).LT (.QZ (tx [c]))=tv (Wa c):=by
 rcases h with h|h
 .rw [(vb h).2.2];unfold dKINDS;repeat rw[AU (J3 (!6))]
  rfl
 .simp only[QY,SM,TQ]at h;rcases h with ζ|rfl|rfl|rfl|rfl|rfl|rfl|rfl|rfl|rfl|rfl<;>decide +kernel
abbrev Ce QC_ QAH:γ V->γ Pt->Prop
 |[],[]=>S9
 |v::vs,t::ts=>BB c H t v/\Ce c H vs ts
 |_,_=>Rk
def Ce.kp{c:Kd->θ}{H H':Hp}(k:Kp H H'):∀QBy QIB,Ce c H xs ts->Ce c H' xs ts
 |[],[],_=>trivial
 |_::_,_::_,h=>(h.1.kp k,Ce.kp k h.2)
def Ce.TL{c:Kd->θ}QHV:∀QBy QIB,Ce c H xs ts->xs.β=ts.β
 |[],[],_=>rfl
 |_::_,_::_,h=>by rw[RY,RY,Ce.TL h.2]
abbrev lG(pa wa:θ):γ QDL:=ah "waiting" (.ξ wa) (ah "patterns" (.ξ pa) [])
def Fd(pa wa:θ):(lG pa wa).ς ("patterns":QF)<*.ξ pa:=by
 unfold lG;rw[BY,Cl (!3),BY,IO ζ]
def J4(pa wa:θ):(lG pa wa).ς ("waiting":QF)<*.ξ wa:=by
 unfold lG;rw[BY,IO ζ]
structure AX QC_(cD:θ)QAH(d dx pa wa:θ)(us:γ V)(ps:γ Pt)(ws:γ Wt):Prop where
 ob:H d<*.XE cD dx (lG pa wa)
 pl:H pa<*.QV us.Rt
 pt:Ce c H us ps
 wl:H wa<*.QV (ws.Rt.Q_ wv)
 ne:pa≠wa
abbrev AZ(pa wa:θ)QHL:Prop:=∀b o,H b<*o->b≠pa->b≠wa->H' b<*o
def AZ.X9(pa wa:θ)QAH:AZ pa wa H H:=λ_ _ e _ _=>e
def AZ.ο(a:AZ pa wa H f)(b:AZ pa wa f d):AZ pa wa H d:=λc o e h1 h2=>b c o (a c o e h1 h2) h1 h2
def AZ.p:AZ pa wa H (QO H pa o):=λb a e h1 _=>by rw[a_ h1];show e
def AZ.w:AZ pa wa H (QO H wa o):=λb a e _ h2=>by rw[a_ h2];show e
def a'.off QBs:AZ pa wa H H':=λb o e _ _=>s b o e
section
variable{c:Kd->θ}{cD:θ}{H H':Hp}{d dx pa wa:θ}{us:γ V}{ps:γ Pt}{ws:γ Wt}
def AX.SO QCZ QBs:AX c cD H' d dx pa wa us ps ws:=(s _ _ D.ob,s _ _ D.pl,D.pt.kp (a'.kp s),s _ _ D.wl,D.ne)
def AX.pushP QCZ(a:BB c H t v):AX c cD (QO H pa (.QV (us.Rt++[v]))) d dx pa wa (v::us) (t::ps) ws:=by
 let k:=Kp.QV (o:=.QV (us.Rt++[v])) D.pl;show(k _ _ D.ob QAD,by rw[hJ,γ.reverse_cons],(a.kp k,D.pt.kp k),by rw[a_ (Ne.QI D.ne)];show D.wl,D.ne)
def AX.popP(D:AX c cD H d dx pa wa (u::us) (t::ps) ws):AX c cD (QO H pa (.QV us.Rt)) d dx pa wa us ps ws/\BB c (QO H pa (.QV us.Rt)) t u:=by
 let k:=Kp.QV (o:=.QV us.Rt) D.pl;show((k _ _ D.ob QAD,hJ,D.pt.2.kp k,by rw[a_ (Ne.QI D.ne)];show D.wl,D.ne),D.pt.1.kp k)
def AX.pushW QCZ(w:Wt):AX c cD (QO H wa (.QV QG6)) d dx pa wa us ps (w::ws):=by
 let k:=Kp.QV (o:=.QV QG6) D.wl;show(k _ _ D.ob QAD,by rw[a_ D.ne];show D.pl,D.pt.kp k,by rw[hJ,γ.reverse_cons,RU];rfl,D.ne)
def AX.popW QH3:AX c cD (QO H wa (.QV (ws.Rt.Q_ wv))) d dx pa wa us ps ws:=by
 let k:=Kp.QV (o:=.QV (ws.Rt.Q_ wv)) D.wl;show(k _ _ D.ob QAD,by rw[a_ D.ne];show D.pl,D.pt.kp k,hJ,D.ne)
def AX.wtop QH3:H wa<*.QV QG6:=by
 have:=D.wl;rw[γ.reverse_cons,RU]at this;show this
def AX.ptop(D:AX c cD H d dx pa wa (u::us) ps ws):H pa<*.QV (us.Rt++[u]):=by
 have:=D.pl;rw[γ.reverse_cons]at this;show this
def AX.UX QCZ(e:ps=t::a):∃u vs,us=u::vs:=by
 subst e;cases us with
 |S5=>show D.pt.SJ
 |Rc u vs=>show(u,vs,1)
end
def x9 QHP QIT:decide (c∈l)=l.Qz c:=by
 by_cases h:c∈l
 .rw [RI h];simp[h]
 .rw [QJ h];simp[h]
def H_ QIT QHP:(!(Builtin.QF.WO QEJ ⟨#[c]⟩ 0 (tx l).β 1).Vs)=l.Qz c:=by
 let e:=NF l c;unfold U7.Qz at e;rw[<-x9];show e
def Ho(a:s=tx [x]):(V.QZ (tx [ch])=V.QZ s)↔ch=x:=by
 subst a;constructor
 .intro h;have:=iq (V.QZ.Tp h);simpa using this
 .intro h;rw[h]
def Ah(b:s=tx l)(a:l≠[c]):tx [c]≠s:=λe=>a (iq (e.ο b)).QI
abbrev vc:Tk->Ψ
 |.lp=>π
 |.un _=>π
 |_=>ν
abbrev ve:Tk->Ψ
 |.Xm _=>π
 |_=>ν
abbrev zY:Tk->Ψ
 |.rp=>π
 |_=>ν
abbrev nQ:Tk->Ψ
 |.star=>π
 |_=>ν
def xY(a b:QF):Ep (.QZ a) (.QZ b)=decide (a=b):=by
 change (a==b)=_;by_cases h:a=b
 .rw [RI h];show Ur.Sz h
 .rw [QJ h];show RX.Sz h
def kY(h:∀x∈xs,∃s,x=.QZ s/\tx [c]≠s):Es (.QZ (tx [c])) xs=ν:=by
 unfold Es;rw[γ.any_eq_false];intro x b;let⟨s,ζ,a⟩:=h x b;simp only[xY,S3];first|show a|show λe=>a e.QI|(intro e;show a e)|(intro e;show a e.QI)
def Hq(h:t.ok):Es (tv t) [.QZ (QF.Rj "("),.QZ (QF.Rj "outside"),.QZ (QF.Rj "turned")]=vc t:=by
 cases t with
 |lp=>decide +kernel
 |rp=>decide +kernel
 |star=>decide +kernel
 |un k=>cases k<;>decide +kernel
 |Xm k=>cases k<;>decide +kernel
 |WL p=>
  cases p with
  |S0 k=>cases k<;>decide +kernel
  |Up c=>
   refine kY λx a=>?_;let h:97≤c/\c≤122:=h;simp only[QY,SM,TQ]at a;rcases a with ζ|rfl|rfl
   .exact (0,Ah (l:=[40]) (!3) (by intro e;simp at e;lia))
   .exact (0,Ah (l:=[111,117,116,115,105,100,101]) (!3) (by intro e;simp at e))
   .exact (0,Ah (l:=[116,117,114,110,101,100]) (!3) (by intro e;simp at e))
  |UX _ _=>show(show Rk from h).SJ
  |WD _ _ _=>show(show Rk from h).SJ
def zZ(h:t.ok):Es (tv t) [.QZ (QF.Rj "either"),.QZ (QF.Rj "less"),.QZ (QF.Rj "both"),.QZ (QF.Rj "then")]=ve t:=by
 cases t with
 |lp=>decide +kernel
 |rp=>decide +kernel
 |star=>decide +kernel
 |un k=>cases k<;>decide +kernel
 |Xm k=>cases k<;>decide +kernel
 |WL p=>
  cases p with
  |S0 k=>cases k<;>decide +kernel
  |Up c=>
   refine kY λx a=>?_;simp only[QY,SM,TQ]at a;rcases a with ζ|rfl|rfl|rfl
   .exact (0,Ah (l:=[101,105,116,104,101,114]) (!3) (by intro e;simp at e))
   .exact (0,Ah (l:=[108,101,115,115]) (!3) (by intro e;simp at e))
   .exact (0,Ah (l:=[98,111,116,104]) (!3) (by intro e;simp at e))
   .exact (0,Ah (l:=[116,104,101,110]) (!3) (by intro e;simp at e))
  |UX _ _=>show(show Rk from h).SJ
  |WD _ _ _=>show(show Rk from h).SJ
def Pl(h:t.ok):decide (tv t=V.QZ (QF.Rj ")"))=zY t:=by
 cases t with
 |lp=>decide +kernel
 |rp=>decide +kernel
 |star=>decide +kernel
 |un k=>cases k<;>decide +kernel
 |Xm k=>cases k<;>decide +kernel
 |WL p=>
  cases p with
  |S0 k=>cases k<;>decide +kernel
  |Up c=>
   let h:97≤c/\c≤122:=h;show QJ (λe=>Ah (l:=[41]) (!3) (by intro e;simp at e;lia) QH4)
  |UX _ _=>show(show Rk from h).SJ
  |WD _ _ _=>show(show Rk from h).SJ
def xX(h:t.ok):decide (tv t=V.QZ (QF.Rj "again"))=nQ t:=by
 cases t with
 |lp=>decide +kernel
 |rp=>decide +kernel
 |star=>decide +kernel
 |un k=>cases k<;>decide +kernel
 |Xm k=>cases k<;>decide +kernel
 |WL p=>
  cases p with
  |S0 k=>cases k<;>decide +kernel
  |Up c=>show QJ (λe=>Ah (l:=[97,103,97,105,110]) (!3) (by intro e;simp at e) QH4)
  |UX _ _=>show(show Rk from h).SJ
  |WD _ _ _=>show(show Rk from h).SJ
def Dr:∀{w:LN}QK3,(∀c∈w,oG c)->∀t∈QT b w,t.ok
 |[],_,_,t,a=>by simp[QT]at a
 |c::f,b,h,t,a=>by
  unfold QT at a;rcases Rp.mp a with a|a
  .split at a
   .obtain ζ:t=.Xm .Vm:=by simpa using a
    show S9.Sv
   .simp at a
  .rcases QY.mp a with ζ|a
   .exact Hn (h c (!1))
   .exact Dr _ (λd e=>h d (by simp[e])) t a
def G.sgs(d:lZ L)QDU:∀ch∈w,oG ch:=by
 induction h with
 |S0 k=>
  intro ch a;obtain ζ:ch=c0 k:=by simpa using a
  show .Rh (by cases k<;>decide)
 |Up h=>
  intro ch a;rename_i c;obtain ζ:ch=c:=by simpa using a
  show .RN (d _ h)
 |par h b=>
  intro ch a;rcases QY.mp a with ζ|a
  .exact .Rh (!0)
  .rcases Rp.mp a with a|a
   .exact b ch a
   .obtain ζ:ch=41:=by simpa using a
    show .Rh (!0)
 |again h b=>
  intro ch a;rcases Rp.mp a with a|a
  .exact b ch a
  .obtain ζ:ch=42:=by simpa using a
   show .Rh (!0)
 |pre k h g b=>
  intro ch a;rcases QY.mp a with ζ|a
  .exact .Rh (by cases k<;>decide)
  .exact b ch a
 |Xm k f e j i ih1 ih2=>
  intro ch a;rcases Rp.mp a with a|a
  .rcases Rp.mp a with a|a
   .exact ih1 ch a
   .exact .Rh (by cases k<;>(simp[m2]at a)<;>(subst a;decide))
  .exact ih2 ch a
inductive EO QBQ QC_ QAI QAH QAR QA9:Prop
 |mk (d dx C:_) (_:vs=[.ξ d]) (_:H d<*.XE C dx []) QKl (_:wx K C "patterns") (_:wx K C "waiting") (_:∀pa wa H',(∀b o,H b<*o->b≠d->H' b<*o)->AX c C H' d dx pa wa [] [] []->H pa=ε->H wa=ε->Q .Uv H')
structure io QKU QBP QBQ QAs(υ:RC)QC_(cD d1 d2 d3:θ):Prop where
 kK:mg "KINDS"<*.ξ d2
 kT:mg "STRENGTHS"<*.ξ d3
 dK:mi P w K d2 dKINDS
 dT:mi P w K d3 vM
 kD:mg "Desk"<*.ξ cD
 cl:BZ K cD
 nP:wx K cD "patterns"
 nW:wx K cD "waiting"
 ini:∃f fd,Mk K cD f/\aa P w K mg υ lb 1 f fd ["self"] (EO K c)/\yx K fd ["self"] []
abbrev gp QBP:γ DictEntry->γ QGs->Prop
 |[],[]=>S9
 |e::es,kv::RW=>(∃x t,e.key=.QZ x t/\kv.1=.Rh x/\e.hash=PyData.keyHash w.Sw x)/\ae kv.2 e.val/\gp w es RW
 |_,_=>Rk
def gp.UW{P:Id}QF3:∀{b:γ DictEntry}{RW:γ QGs},gp w b RW->(∀e∈b,∃k,(Ek P w).is k e.key=π/\e.hash=(Ek P w).hash k)/\∃vs,KV RW vs/\Pairs (Ek P w) b vs
 |[],[],_=>(λe a=>by simp at a,[],.S5,.S5)
 |e::b,(k,v)::RW,⟨⟨x,t,j,c,i⟩,g,h⟩=>by
  let⟨i1,vs,i2,f⟩:=gp.UW (P:=P) h;let c:k=.Rh x:=c;subst c;let d:(Ek P w).is (Sum.Rh x) e.key=π:=by rw[j];show Nr P w x t
  refine(λe' a=>?_,(Sum.Rh x,e.val,)::vs,.Rc (1,g) i2,.Rc d ζ f);rcases QY.mp a with ζ|a
  .exact (Sum.Rh x,d,i)
  .exact i1 e' a
def lF(l:K.ς d<*{SS:=.QU "dict",RH:=.Uk c n})(h:gp w c.Qx RW)(b:(RW.Q_ QBF).R7)(g:(d==Sx)=ν):mi P w K d RW:=by
 let⟨i1,vs,i2,a⟩:=h.UW (P:=P);refine(λj X=>(vs,i2,_,c,n,X _ _ l,(5,1),1,λe i=>i1 e (R_.mem_toList_iff.Sz i),a,3),g);have:RW.Q_ QBF=vs.Q_ QBF:=by
  clear b h l i1 a;induction i2 with
  |S5=>rfl
  |Rc h t f=>rw[UY,UY,f,h.1]
 rw[<-this];show b
def uH:(dKINDS.Q_ QBF).R7:=by decide +kernel
def zM:(vM.Q_ QBF).R7:=by decide +kernel
abbrev Bv(R:Pt->V->Prop):γ V->γ Pt->Prop
 |[],[]=>S9
 |v::vs,t::ts=>R t v/\Bv R vs ts
 |_,_=>Rk
section
variable{R R':Pt->V->Prop}
def Bv.TL:∀QBy QIB,Bv R xs ts->xs.β=ts.β
 |[],[],_=>rfl
 |_::_,_::_,h=>by rw[RY,RY,Bv.TL h.2]
def Bv.imp(k:∀t v,R t v->R' t v):∀QBy QIB,Bv R xs ts->Bv R' xs ts
 |[],[],_=>trivial
 |_::_,_::_,h=>(k _ _ h.1,Bv.imp k h.2)
def Bv.snoc{v:V}{t:Pt}(a:R t v):∀QBy QIB,Bv R xs ts->Bv R (xs++[v]) (ts++[t])
 |[],[],_=>(a,trivial)
 |_::_,_::_,h=>(h.1,Bv.snoc a h.2)
def Bv.last:∀QBy QIB,Bv R xs ts->0<xs.β->∃ys v us t,xs=ys++[v]/\ts=us++[t]/\Bv R ys us/\R t v
 |[],[],_,h=>QL h (XB 0)
 |[v],[t],h,_=>([],v,[],t,5,trivial,h.1)
 |[_],_::_::_,h,_=>h.2.SJ
 |_::_::_,[_],h,_=>h.2.SJ
 |x::y::xs,t::u::ts,h,_=>by
  let⟨ys,v,us,t',b,a,h1,h2⟩:=Bv.last (xs:=y::xs) (ts:=u::ts) h.2 (!1);show(x::ys,v,t::us,t',by rw[b];rfl,by rw[a];rfl,(h.1,h1),h2)
end
abbrev be(ts:γ Pt):χ:=(ts.Q_ Pt.sz).sum
def J5(ts:γ Pt)QEM:be (ts++[t])=be ts+t.sz:=by
 unfold be;rw[RU,γ.sum_append];simp
def BB.ins'{c:Kd->θ}QHV(m:QF)(d:m≠"sign"/\m≠"inner"/\m≠"left"/\m≠"right"):∀{t:Pt}{v:V},BB c H t v->∃a dx fs,v=.ξ a/\H a=δ (.XE (c t.kd) dx fs)/\fs.ς m=ε
 |.S0 _,_,⟨a,dx,e,b⟩=>(a,dx,_,e,b,1)
 |.Up _,_,⟨a,dx,e,b⟩=>(a,dx,_,e,b,by rw[BY,Cl d.1];rfl)
 |.UX _ x,_,⟨a,dx,u,e,b,f⟩=>(a,dx,_,e,b,by rw[BY,Cl d.2.1];rfl)
 |.WD _ x y,_,⟨a,dx,u,w,e,b,f,g⟩=>(a,dx,_,e,b,by rw[BY,Cl d.2.2.2,BY,Cl d.2.2.1];rfl)
def EQ:gp w [] []:=trivial
def DU(h1:e.key=.QZ x t)(h2:kv.1=.Rh x)(b:e.hash=PyData.keyHash w.Sw x)(a:ae kv.2 e.val)(r:gp w c RW):gp w (e::c) (kv::RW):=((x,t,h1,h2,b),a,r)
def Pm(h:y=x):ae (.QZ x) (.QZ y t):=(t,by rw[h])
section
variable{α:Type}{R R':α->V->Prop}
end
end RA
namespace L2
open PySem.Spec PyProof.Rows
section
variable{X:Cx}
instance sK QKU QBP:Ξ.KeyKind P w QF:=Ξ.strKind P w
inductive Mm QKU QBP(x:V)(y:V)QAH QAR:Prop
 |mk (d k RW v:_) (_:x=.ξ d) (_:y=.QZ k) (_:H d<*BH (sK P w) d RW) (_:aK RW k<*v) QHn
def eE:D6 X (Mm X.Ω X.w):=by
 intro a b g s n H x y v u Q I j i h m;let⟨d,k,RW,z,ζ,ζ,e,l,q⟩:=h;cases j;let⟨t,ζ⟩:=(show ∃t,u=η.QZ k t from i);let⟨ns,_,vs,f,dd⟩:=D9 I.S8 e;refine tail_any (ops:=[.ξ d,_]) dd.VO Ξ.F.YE.ς ?_ m;let⟨p,hw,c⟩:=av.Zx (v:=z) (o:=Vj vs k) (by rw[<-l];show f.val k);show Ye (Y2:=sK X.Ω X.w) (k:=k) (strKind_is _ _ k t) dd.mapOf hw (z,H,I.Wa _,c,q)
def xz QKP(a:Sx<h.SN.Q'):Ai P w H (h.Rm {SS:=.QU "dict",RH:=.Uk #[]}) h.SN.Q' (BH (sK P w) h.SN.Q' []):=
 By (Y2:=sK P w) (RX.Sz (Ne.QI (RM a))) QDt .S5 QJX
inductive CB QDn:γ (ψ SH)->γ SH->γ QDL->Prop where
 |S5:CB X [] [] []
 |Rc {k v:SH} {ks:γ (ψ SH)} {vs:γ SH} {a:QF} {y:V} {RW:γ QDL}:PE X k (tC (.QZ a))->PE X v (tC y)->CB X ks vs RW->CB X (δ k::ks) (v::vs) ((a,y,)::RW)
abbrev Mn(p:QF×V)(q:η×η):Prop:=(∃t,q.1=.QZ p.1 t)/\ae p.2 q.2
abbrev J6(RW:γ QDL)(r:γ (η×η)):Prop:=r.β=RW.β/\∀QBB(p:QF×V)(q:η×η),RW[i]?<*p->r[i]?<*q->Mn p q
def J6.Rc(h:Mn p q)(c:J6 RW r):J6 (p::RW) (q::r):=(by rw[RY,RY,c.1],λi a b e d=>by
 cases i with
 |Xe=>cases e;cases d;show h
 | Wu i=>show c.2 i a b e d)
def ER{c:St}(h:CB X ks vs RW):∀{s:ω}{Q:γ (η×η)->ω->Prop},f' X b c H s->(∀r s',f' X b c H s'->J6 RW r->Q r s')->Fr QAB X.A (evalPairs (pairTrees ks vs X.QC Ri)) Q X.xe s:=by
 induction h with
 |S5=>show λI q=>pairTrees_nil_walk (q [] _ I (rfl,λi p q e _=>by cases e))
 |@Rc k v ks vs a y RW z o _ n=>
  intro s Q I q;refine pairTrees_cons_walk (nb (z b s c H (λx H'=>x=.QZ a/\H'=H) I (1,1)) λu l f=>?_);let⟨x,j,L,m,E,D⟩:=f;subst E D;refine nb (o b l c j (λx H'=>x=y/\H'=j) L (1,1)) λN s2 g=>?_;let⟨M,P,J,d,C,B⟩:=g;subst C B;show n J λr O F t=>q _ _ F (J6.Rc (m,d) t)
def wA{RW:γ QDL}(h:k∉RW.Q_ Yq.fst):aK RW k=ε:=by
 induction RW with
 |S5=>rfl
 |Rc p r a=>
  rw[UY,QY,not_or]at h;rw[AU λz=>h.1 z.QI];show a h.2
abbrev yZ QKU QBP(RW:γ QDL):TE:=λ_ H Q=>∀p H',H p=ε->a' H H'->H' p<*BH (sK P w) p RW->Q QAp H'
def dG(M:CB X ks vs RW)(Z:(RW.Q_ Yq.fst).R7)(h1:0<RW.β)(O:RW.β≤15)(x:((pairTrees ks vs X.QC Ri).β=RW.β)>>>4)(hz:(ks.β=vs.β)>>>4)(ha:(ks.UW (·.VR)=π)>>>4):PE X (.Dict ks vs Ri) (yZ X.Ω X.w RW):=by
 intro m s T H Q I h;let f:=I.S8.SZ (QA s⁻¹);let I1:=I.Xy (a:=s⁻¹) (o:=BH (sK X.Ω X.w) s⁻¹ []) (t':=s.QT) (λ_ _ q=>o9 {SS:=.QU "dict",RH:=.Uk #[]} q) QA2 (xz s.ρ I.bigS);let E:=zip_pairTrees ks vs X.QC Ri ha hz;rw[arm_eval_Dict,E,dictDisplay_pairs (pairTrees ks vs X.QC Ri) (by intro z;rw[z]at x;rw[<-x]at h1;show QL h1 (XB _)) (by rw[x];lia)];refine e_ (Tm QDa);unfold subDict;refine e_ (ZV (e_ (RZ ?_)));rw[IO (by rw[x];show O)];refine e_ (ER M I1 λr s1 I2 R=>RZ QDa);let F:=R.1.QI;refine wpAny_forIn_list _ (λWw _ s'=>∃(i:χ)(H':Hp),i+Ww.β=RW.β/\Ww=r.Th i/\f' X m T H' s'/\H' s⁻¹=δ (BH (sK X.Ω X.w) s⁻¹ (RW.R0 i))/\a' H H') _ ?_ ?_ r _ ((0),_,by rw[χ.Tq];show F.QI,1,I2,hJ,a'.QO f)
 .rintro⟨u,v⟩Ww _ s2⟨i,H',A,S,B,hp,C⟩;let J:r[i]?<*(u,v,):=by
   have:=Qw (λl=>l[0]?) S;simpa using this.QI
  let n:i<RW.β:=by rw[RY]at A;show Iu A
  obtain⟨⟨a,y⟩,d⟩:∃p,RW[i]?<*p:=(_,j_ n);let hR:Mn (a,y,) (u,v,):=R.2 i _ _ d J;let⟨⟨t,P⟩,U⟩:=hR;let P:u=.QZ a t:=P;subst P;let⟨ns,D,ws,c,dd⟩:=D9 (Y2:=sK X.Ω X.w) B.S8 hp;refine e_ (wpAny_dictSet_pairs (Y2:=sK X.Ω X.w) (k:=a) (hsz:=by rw[<-c.β];show D) (strKind_is _ _ a t) dd λh' g Y=>h9 ?_);let L:aK (RW.R0 i) a=ε:=wA λz=>by
   rw[γ.map_take]at z;let⟨j,hj,e⟩:=γ.mem_take_iff_getElem.mp z;let N:j<i:=QD hj (χ.min_le_left _ _);let e2:(RW.Q_ Yq.fst)[i]'(by rw[j'];show n)=a:=by
    rw[γ.getElem_map];have:=(l' d).2;rw[this]
   show QL ((YL Z).mp (e.ο e2.QI)) (RM N)
  let W:=av.YH (show av ε (Vj ws a) by rw[<-L];show c.val a);rw[Kw W]at g;let et:RW.R0 (i+1)=RW.R0 i++[(a,y,)]:=by rw[VP,d];rfl
  refine(i+1,QO H' s⁻¹ (BH (sK X.Ω X.w) s⁻¹ (RW.R0 (i+1))),by rw[RY]at A;show IY A,3,3,hJ,λb o e=>?_)
  .have:=Qw γ.tail S;rw[γ.tail_cons,γ.tail_drop]at this;show this
  .rw [et];show Jx B (by rw[hp];show S9.Sv) Y (let⟨o,_,_,q,_⟩:=g;(o,q)) (By ns (n0 (by rw[q4,Sn];change _≤16777216;simp;lia)) (cy c U) g)
  .rw [a_ λz=>by rw[z,f]at e;cases e];show C _ _ e
 .rintro _ s2⟨i,H',A,_,B,hp,C⟩;have:i=RW.β:=by rw[WF]at A;omega
  rw[this,Uz]at hp;show h9 (h9 (h9 (.ξ s⁻¹,H',B,1,h _ _ f C hp)))
end
namespace RR
abbrev KW QCm:UQ:={SS:=.QU "range_iterator",RH:=.SD #[R6 ((n:Λ)-1),R6 (n:Λ),R6 (-1)]}
abbrev Mx(a b c:Λ):Ψ:=Builtin.W4.TD a&&Builtin.W4.TD b&&Builtin.W4.TD c&&Builtin.W4.TD (-c)&&Builtin.W4.TD (a-c)&&Builtin.W4.TD (Builtin.W4.Zy a b c)
def qG(r:θ)(a b c:Λ)(t u v:Z5)(i:¬ (!(Builtin.W4.TD a&&Builtin.W4.TD b&&Builtin.W4.TD c&&Builtin.W4.TD (-c)&&Builtin.W4.TD (a-c)&&Builtin.W4.TD (Builtin.W4.Zy a b c)))=π):Meets (Builtin.«range.__reversed__» ([.ξ r],[])) (λ_ R s=>s.ρ.Δ r=δ {SS:=.QU "range",Uk:=ε,RH:=.SD #[.QG a t,.QG b u,.QG c v],XR:=#[]}/\
   R (.ok (.ret (.ξ s⁻¹))) {s with ρ:=s.ρ.Rm {SS:=.QU (if Mx a b c then "range_iterator" else "longrange_iterator"),RH:=.SD #[R6 (a+(Builtin.W4.Zy a b c-1)*c),R6 (Builtin.W4.Zy a b c),R6 (-c)]} }):=
 .of_wp λΩ w A R s h=>by let⟨hp,g,d,e,os⟩:=s;let⟨f,h⟩:=h;wp_walk;show(0,h)
section
variable{Ω:Id}{w:QW}{A:Qy}{E:η->ω->Prop}{s:ω}{r:θ}{n:χ}
def Pu{m a:Sem b}{Q:b->ω->Prop}(e:m=a)(h:Fr M A a Q E s):Fr M A m Q E s:=e▸h
def ET(e:s.ρ.Δ r<*{SS:=.QU "range",RH:=.SD #[.QG 0 t,.QG (n:Λ) u,.QG 1 v]})(f:n<2^60)(h:Q QAX {s with ρ:=s.ρ.Rm (KW n)}):Fr QAU A (UZ (.QU "reversed") [.ξ r]) Q E s:=by
 let ty:s.Vi (.ξ r) "range":=(_,e,1);let hsz:Builtin.W4.Zy 0 (n:Λ) 1=(n:Λ):=by rw[rangeSize_one];split<;>lia
 let d:∀z:Λ,-(2^62)≤z->z<2^62->Builtin.W4.TD z=π:=λz h1 h2=>by
  unfold Builtin.W4.TD;simp only[TW,S3];lia
 let ok:Mx 0 n 1=π:=by
  unfold Mx;rw[hsz,d _ Gg F_,d _ CM (!6),d _ (!6) (!6),d _ (!6) (!6),d _ (!6) (!6)];rfl
 refine callType_other (U:="range_iterator") (Q₁:=λc b=>c=.ξ s⁻¹/\b={s with ρ:=s.ρ.Rm (KW n)}) (!3) F.create_reversed (8,F.mro_reversed) F.made_reversed (by rw[UE];kernel_rfl) (F.typeCall_reversed_1 _) ?_ ?_
 .refine ZI ?_;refine e_ (SR (F.newCall_reversed_1 _) (h9 (U8 F.plain_reversed_new _,TH F.entry_reversed_new ?_)));rw[Qy.Ue F.plain_reversed_new _];let h1:=newClass_reversed (.ξ r);unfold Builtin.«reversed.__new__»;refine e_ (SR h1 ?_);refine e_ (SR (a:=()) (by first|rfl|kernel_rfl) ?_);refine e_ (SR (a:=()) (by first|rfl|kernel_rfl) ?_);refine e_ (VX ty F.slot_range_reversed.ς ?_);refine e_ (SR (F.slot_range_reversed.Zq _) ?_);refine Pu (show _=(do Xt "reversed.__new__.own-method";ret (<-runValue (.UZ (.RJ "range.__reversed__") ([.ξ r],[]))))from ζ) ?_;refine e_ (W5 ?_);refine e_ (m:=runValue (.UZ (.RJ "range.__reversed__") ([.ξ r],[]))) (show Fr _ _ (UZ (.RJ "range.__reversed__") [.ξ r]) _ _ _ from call_meets F.slot_range_reversed ty F.entry_range_reversed (F.args_range_reversed_1 _) (qG r 0 n 1 t u v (by change ¬ (!Mx 0 n 1)=π;rw[ok];decide)) (e,3));rw[ok,hsz,IO ζ];refine e_ (h9 (h9 (1,3)));unfold KW;rw[show(0:Λ)+((n:Λ)-1)*1=(n:Λ)-1 by lia]
 .rintro c b⟨rfl,ζ⟩;show(QEr,h)
end
end RR
abbrev Ia QCm:It:=(λi _=>i<n,λi H v H'=>H'=H/\v=.QG ((n:Λ)-1-i),λi _=>n≤i)
def qo QC7(it:θ)QCm:gm P w K J (Ia n) [it] it (λi h=>IsRangeIter h it ((n:Λ)-1+(i:χ)*(-1)) ((n:Λ)-(i:χ)) (-1))  where
 mem:=To.Sz ζ
 Yd:=λi h st b a=>by
  obtain ζ:=yl a;show(_,st,λv(z:Data.SD _=Data.SF v)=>by cases z)
 UB:=λi h h' st k=>k it (To.Sz ζ) _ st
 Yi:=by
  intro X l hw m j i d s y H E I f st g;subst l hw m;let⟨x,u,D,r,q,p⟩:=f it (To.Sz ζ);refine(Walks.Re (Ω:=X.Ω) (w:=X.w) (I.ok.hd j) it ((n:Λ)-1) (-1) n).Yi i s _ _ g st λv h' A C c B=>?_;let⟨t,ζ⟩:=C;refine(0,eV (s:={s with ρ:=h',QT:=A}) (n:="range_iterator") c ζ ζ (!0) (.QG ((n:Λ)-1-i),H,I.Sr (λb o a e=>B b o (λz=>a (yl z)) e) x u r q p,(t,3),(1,1),c,λb a=>(f b a).1));rw[Λ.mul_neg,Λ.mul_one];rfl
 done:=by
  intro X l hw m j i d s y H E I f st g;subst l hw m;let⟨x,u,D,r,q,p⟩:=f it (To.Sz ζ);show wpAny_pyNext_range_end (I.ok.hd j) st (by have:n≤i:=g;show F3 this) λh' F=>(1,I.Sr (t':=s.QT) (λb o a e=>F b o a e) x u r q p)
 self:=λ_ _ _ _ _ st h=>Yr st h
abbrev Pv(ta:TA):TI:=λσ H R=>ta σ H λvs H1=>∃n:χ,vs=[.QG (n:Λ)]/\n<2^60/\R (Ia n) H1
def xg{z a:SH}{p g Ri c:UL}(E:Gl X "reversed")(D:X.mg "reversed"=ε)(k:Gl X "range")(j:X.mg "range"=ε)(J:PA X [a] ta)(u:(BT [.T0 (.SG "range" g) [a] [] c] X.QC=[(ν,Sc (.T0 (.SG "range" g) [a] [] c) X.QC,)])>>>4)(i:(BT [a] X.QC=[QC2])>>>4):PI X z (.T0 (.SG "reversed" p) [.T0 (.SG "range" g) [a] [] c] [] Ri) (Pv ta):=by
 intro d s m H R I h;refine Rg (u_ I E D boot_reversed (Su.WZ.Tw (e:=.T0 (.SG "range" g) [a] [] c) (Ww:=[]) ?_ u ζ));rw[u];refine Vf.spliced_cons (Rg (u_ I k j Su.WZ.boot_range (Su.WZ.Tw (nb (J c d s m H _ I h) λus f l=>?_) i ζ)));let⟨vs,y,x,A,n,L,C,q⟩:=l;subst L;let⟨M,ζ,t,ζ⟩:=Ch A;refine call_range_1 (Vf.spliced_nil (RR.ET (n:=n) (QN _ ζ) C ?_));generalize v:f.ρ.Rm _=B;let r:∀b o,f.ρ.Δ b<*o->B.Δ b<*o:=λb o e=>v▸o9 _ e;let N:f⁻¹≤B.SN.Q':=by rw[<-v,Tz];show XM _
 let st:IsRangeIter (B.Rm (RR.KW n)) B.SN.Q' ((n:Λ)-1+((0:χ):Λ)*(-1)) ((n:Λ)-((0:χ):Λ)) (-1):=by
  rw[show(n:Λ)-1+((0:χ):Λ)*(-1)=(n:Λ)-1 by lia,show(n:Λ)-((0:χ):Λ)=n by lia];show QN _ ζ
 refine Yr st (_,[B.SN.Q'],_,Ia n,y,1,x.XD λb o e=>o9 _ (r b o e),qo _ n,st,λb F=>?_,q);obtain ζ:=yl F;let w:f' X d m y {f with ρ:=B}:=x.XD (t':=f.QT) r;show w.fpOk QA2 (w.S8.SZ QA2)
def vx{g:TG}{j:TS}{D:ZA}(J:χ->St->Hp->Prop)(o:J 0 a H)(step:∀i a H,i<n->J i a H->g (.QG ((n:Λ)-1-i)) a H λb f=>j {D with nx:=J (i+1),ct:=J (i+1),bk:=D.nx} b f)(d:∀a H,J n a H->D.nx a H):∃W:χ->χ->St->Hp->Prop,QEU/\∀i m a H,W i m a H->((Ia n).We i H/\D.nx a H)\/((Ia n).go i H/\∃N:St->Hp->Prop,QGY/\∀x H',(Ia n).yld i H x H'->g x a H' λb f=>j {D with nx:=N,ct:=N,bk:=D.nx} b f):=by
 refine(λi m a H=>m=n-i/\i≤n/\J i a H,(n,!6,RO _,o),3);rintro i m a H⟨rfl,p,l⟩;by_cases e:i=n
 .subst e;show .RN (QA _,d _ _ l)
 .refine .Rh ((zo35 e p:i<n),J (i+1),λc H' h=>(n-(i+1),!6,1,!6,h),3);rintro x H'⟨rfl,ζ⟩;show step i a _ (zo35 e p) l
end L2
namespace RA
open L2
abbrev Wd QA5(u:LN):Prop:=∀c∈u,c∈L
abbrev Lg QA5 QC9 QAm:LN->Prop:=λu=>Wd L u/\AC L W B u=π
abbrev vN QFK:LN->Prop:=λu=>∃x v,u=x++v/\A x/\C v
abbrev m3 QCb:LN->Prop:=λu=>A u.Rt
abbrev Mo QFK:LN->Prop:=λu=>A u\/C u
abbrev Mp QFK:LN->Prop:=λu=>A u/\C u
abbrev oQ QFK:LN->Prop:=λu=>A u/\¬ C u
abbrev ul QA5 QCb:LN->Prop:=λu=>Wd L u/\¬ A u
inductive au QCb:LN->Prop
 |S5:au A []
 |Xi {x v:LN}:au A x->A v->au A (x++v)
section
variable{A C D:LN->Prop}{L:LN}{W W1 W2:LL}{B B1 B2:γ Ψ}
def bx(h:∀u,A u↔C u):A=C:=funext λu=>propext (h u)
def g_i:Wd L (x++v)↔Wd L x/\Wd L v:=(λh=>(λc a=>h c (Vb _ a),λc a=>h c (Ry _ a)),λh c a=>(Rp.mp a).SJ (h.1 c) (h.2 c))
def cG:Wd L u.Rt↔Wd L u:=(λh c a=>h c (Zc.Sz a),λh c a=>h c (Zc.mp a))
def au.UX(h:A v):au A v:=by
 have:=au.S5.Xi h
 rwa [γ.nil_append]at this
def au.app(c:au A x)(b:au A y):au A (x++y):=by
 induction b with
 |S5=>rw[Tx];show c
 |Xi _ h a=>rw[<-SK];show a.Xi h
def au.Tj(h:∀u,A u->au C u)(s:au A u):au C u:=by
 induction s with
 |S5=>show .S5
 |Xi _ h1 a=>show a.app (h _ h1)
def xI(h:∀u:LN,QAL->(AC L W B u=π↔dN QCd QFf u)):Lg L W B=vN QEN QKG:=bx λu=>by
 constructor
 .rintro⟨a,e⟩;let⟨x,v,ζ,d,b⟩:=(h u a).mp e;show(x,v,1,((g_i.mp a).1,d),(g_i.mp a).2,b)
 .rintro⟨x,v,ζ,⟨h1,d⟩,h2,b⟩;let a:=g_i.Sz (h1,h2);show(a,(h _ a).Sz (x,v,1,d,b))
def uR(h:∀u:LN,QAL->(AC L W B u=π↔Ag QCd u)):Lg L W B=au QEN:=bx λu=>by
 constructor
 .rintro⟨d,f⟩;let e:=(h u d).mp f;clear h f;induction e with
  |S5=>show .S5
  |Xi _ _ i b=>show(b (g_i.mp d).1).Xi ((g_i.mp d).2,i)
 .intro s;let a:Wd L u/\Ag QCd u:=by
   induction s with
   |S5=>show(λc g=>(nomatch g),.S5)
   |@Xi x v _ h1 b=>
    refine(g_i.Sz (b.1,h1.1),3);by_cases e:v=[]
    .rw [e,Tx];show b.2
    .exact b.2.Xi e h1.2
  show(a.1,(h u a.1).Sz a.2)
def xH(h:∀u:LN,QAL->(AC L W B u=π↔i8 QCd u)):Lg L W B=m3 QEN:=bx λu=>(λ⟨a,e⟩=>(cG.Sz a,(h u a).mp e),λ⟨a,e⟩=>(cG.mp a,(h u (cG.mp a)).Sz e))
def zP(h:∀u:LN,QAL->(AC L W B u=π↔ph QCd u)):Lg L W B=ul L QEN:=bx λu=>by
 constructor
 .rintro⟨a,e⟩;show(a,λz=>by let b:=z.2;rw[show AC L W1 B1 u=ν from(h u a).mp e]at b;cases b)
 .rintro⟨a,e⟩;show(a,(h u a).Sz (Ψ.Y7.Sz λz=>e (a,z)))
def Pn(h:∀u:LN,QAL->(AC L W B u=π↔Dq QEv QCd QFf u)):Lg L W B=Mo QEN QKG:=bx λu=>by
 constructor
 .rintro⟨d,e⟩;show((Xv _ _).mp ((h u d).mp e)).imp (⟨d,·⟩) (⟨d,·⟩)
 .rintro (⟨d,e⟩|⟨d,e⟩)
  .exact (d,(h u d).Sz ((Xv _ _).Sz (.RN e)))
  .exact (d,(h u d).Sz ((Xv _ _).Sz (.Rh e)))
def zQ(h:∀u:LN,QAL->(AC L W B u=π↔Dq QEw QCd QFf u)):Lg L W B=Mp QEN QKG:=bx λu=>by
 constructor
 .rintro⟨d,e⟩;have:=(TW _ _).mp ((h u d).mp e);show((d,this.1),d,this.2)
 .rintro⟨⟨d,g⟩,_,f⟩;show(d,(h u d).Sz ((TW _ _).Sz (g,f)))
def xK(h:∀u:LN,QAL->(AC L W B u=π↔Dq QEG QCd QFf u)):Lg L W B=oQ QEN QKG:=bx λu=>by
 constructor
 .rintro⟨d,e⟩;have:=(TW _ _).mp ((h u d).mp e);show((d,this.1),λz=>by rw[z.2]at this;cases this.2)
 .rintro⟨⟨d,g⟩,f⟩;show(d,(h u d).Sz ((TW _ _).Sz (g,by rw[Wg];show Ψ.Y7.Sz λz=>f (d,z))))
def xJ(c1:Bo L W1 B1 d)(b:Bo L W2 B2 c)(h:Lg L W1 B1=Lg L W2 B2):W1=W2/\B1=B2:=vO c1 b λu a=>by
 have:=congrFun h u;rw[Ψ.T9];show(λe=>(this▸((a,e):Lg L W1 B1 u):Lg L W2 B2 u).2,λe=>(this.QI▸((a,e):Lg L W2 B2 u):Lg L W1 B1 u).2)
def w2:au QKH=au A:=bx λ_=>(au.Tj λ_ h=>h,au.UX)
end
abbrev N5 QA5:K1->(LN->Prop)->LN->Prop
 |.Tf=>ul L
 |.Sr=>m3
 |.again=>au
abbrev N6:K2->(LN->Prop)->(LN->Prop)->LN->Prop
 |.VT=>Mo
 |.Zd=>oQ
 |.Zo=>Mp
 |.Vm=>vN
abbrev Ds QA5(we:Ψ)(S:LN):LN->Prop:=λu=>(u=[]/\we=π)\/∃c∈L,c∈S/\u=[c]
abbrev af QA5:Pt->LN->Prop
 |.S0 .Tc=>Ds L ν []
 |.S0 .Vd=>Ds L π []
 |.S0 .U6=>Ds L ν L
 |.Up c=>Ds L ν [c]
 |.UX k x=>N5 L k (af L x)
 |.WD k x y=>N6 k (af L x) (af L y)
abbrev CL(L S:LN):LL:=[L.Q_ λc=>if S.Qz c then 1 else 2,L.Q_ λ_=>2,L.Q_ λ_=>2]
section
variable{L S:LN}{we:Ψ}
def ck(d:BG L):g_ L QDD [we,π,ν]:=by
 refine(d,by change 1≤3;decide,by change 3≤2100;decide,1,λws h=>?_);let a:ws.β=L.β/\∀x∈ws,x<3:=by
  rcases QY.mp h with ζ|h
  .refine (j' ..,λx b=>?_);let⟨c,_,ζ⟩:=TZ.mp b;split<;>decide
  .have:ws=L.Q_ λ_=>2:=by
    rcases QY.mp h with ζ|h
    .rfl
    .exact yl h
   subst this;refine(j' ..,λx b=>?_);let⟨c,_,ζ⟩:=TZ.mp b;decide
 show a
def c6(b:c∈L):zl L QDD 0 c=(if S.Qz c then 1 else 2)/\zl L QDD 1 c=2/\zl L QDD 2 c=2:=by
 let a:=QS b;let e:∀f:χ->χ,(L.Q_ f).LT QBS 0=f c:=λf=>by
  rw[nt,na,j_ a,TF];rfl
 show(e _,e _,e _)
def tF:∀{u:LN},Wd L u->Sl L QDD 2 u=2
 |[],_=>rfl
 |c::u,h=>by
  change Sl L QDD (zl L QDD 2 c) u=2;rw[(c6 (h c Sk)).2.2];show tF λx a=>h x (Q9 _ a)
def Po:Lg L QDD [we,π,ν]=Ds L we S:=bx λu=>by
 match u with
 |[]=>show(λh=>.RN (1,h.2),λh=>(λc a=>(nomatch a),h.SJ And.right λ⟨_,_,_,z⟩=>(nomatch z)))
 |[c]=>
  constructor
  .rintro⟨b,e⟩;let a:=b c Sk;let e:[we,π,ν].LT QHi ν=π:=e;rw[(c6 a).1]at e;by_cases d:S.Qz c=π
   .exact .Rh (c,a,Ul.mp d,1)
   .rw [Cl d]at e;cases e
  .rintro (⟨z,_⟩|⟨i,a,d,z⟩)
   .cases z
   .cases z;refine(λx f=>by rw[yl f];show a,3);show[we,π,ν].LT QHi ν=π;rw[(c6 a).1,IO (Ul.Sz d)];rfl
 |c::g::u=>
  constructor
  .rintro⟨b,e⟩;let h1:=c6 (S:=S) (b c Sk);let h2:=c6 (S:=S) (b g (Q9 _ Sk));let e:[we,π,ν].LT (Sl L QDD (zl L QDD QHi g) u) ν=π:=e;let z:zl L QDD QHi g=2:=by
    rw[h1.1];split
    .exact h2.2.1
    .exact h2.2.2
   rw[z,tF λx f=>b x (Q9 _ (Q9 _ f))]at e;cases e
  .rintro (⟨z,_⟩|⟨_,_,_,z⟩)<;>cases z
end
structure Mc QAH(m:θ)QA5 QC9 QAm:Prop where
 mt:u0 H m L W B
 ma:g_ L W B
 le:W.β≤8
def Mc.kt(h:Mc H m L W B)QGD:Mc H' m L W B:=(k.Wj h.mt,h.ma,h.le)
def aj.kt{ts:γ QAc}{H H':Hp}QGD:∀{t:Pt}{v:V},aj H t v->aj H' t v
 |.S0 _,_,⟨a,e,b⟩=>(a,e,k.sm.Rn _ _ b)
 |.Up _,_,⟨a,e,b⟩=>(a,e,k.sm.Rn _ _ b)
 |.UX _ x,_,⟨a,u,e,b,c⟩=>(a,u,e,k.sm.Rn _ _ b,aj.kt k (t:=x) c)
 |.WD _ x y,_,⟨a,u,w,e,b,c,d⟩=>(a,u,w,e,k.sm.Rn _ _ b,aj.kt k (t:=x) c,aj.kt k (t:=y) d)
def tE(h:aj H t v)(a:t.Xk≤n+1):(∃k,t=.S0 k)\/(∃c,t=.Up c)\/∃(p:θ)(nm:QF)(us:γ V)(ps:γ Pt),v=.ξ p/\H p=δ (.Rn (.QZ nm::us))/\us.β=ps.β/\1≤us.β/\us.β≤2/\nm≠"sign"/\
  (∀QHW(u:V),us[j]?<*u->∃x,ps[j]?=δ x/\aj H x u/\x.Xk≤n)/\((∃k x,t=.UX k x/\nm=Ee k/\ps=[x])\/∃k x y,t=.WD k x y/\nm=C0 k/\ps=[x,y]):=by
 cases t with
 |S0 k=>show .RN (k,1)
 |Up c=>show .Rh (.RN (c,1))
 |UX k x=>
  let⟨p,u,e,hp,b⟩:=h;let a:x.Xk+1≤n+1:=a;refine .Rh (.Rh (p,_,[u],[x],e,hp,1,QA _,by change 1≤2;decide,by cases k<;>decide +kernel,λj d e=>?_,.RN (k,x,5,1)));match j with
  |0=>cases e;show(x,1,b,χ.le_of_succ_le_succ a)
  |j+1=>simp at e
 |WD k x y=>
  let⟨p,u,w,e,hp,b,f⟩:=h;let a:max x.Xk y.Xk+1≤n+1:=a;refine .Rh (.Rh (p,_,[u,w],[x,y],e,hp,1,by change 1≤2;decide,QA _,by cases k<;>decide +kernel,λj d e=>?_,.Rh (k,x,y,5,1)));match j with
  |0=>cases e;show(x,1,b,Ip a)
  |1=>cases e;show(y,1,f,GN a)
  |j+2=>simp at e
def _root_.L2.KT.Uw{ys zs:γ V}QGD(l:H D=ε)(c:H' D<*.QV ys):KT ts H (QO H' D (.QV zs)):=by
 refine(λb o j e=>by rw[a_ (f_ e l)];show k.sm b o j e,λh p hp=>?_);let⟨ps,d,i,a⟩:=k.tb h p hp;refine(ps,by rw[a_ (m_ d c (!5))];show d,i,λx g=>(a x g).imp id λ⟨n,m,f⟩=>(n,m,3));rw[a_ (m_ f c (!5))];show f
def Mc.Uw{ys zs:γ V}(h:Mc H m L W B)(a:H D<*.QV ys):Mc (QO H D (.QV zs)) m L W B:=by
 refine(h.mt.Uh λb xs e=>?_,h.ma,h.le);rw[a_ (m_ e a (!5))];show e
end RA
namespace L2
open PySem.Spec PyProof.Rows RA
def C4{p:TE}{k:St}{Q:VK}(v:CS J a QHM xs)(g:θ->χ->γ V->Hp->Prop)QHO(w:∀D i ys H',g D i ys H'->H' a=δ QHM/\H' D=δ QBZ/\ys.β=i)(I:∀D,H D=ε->g D 0 [] (QO H D QCF))(B:∀(D:θ)QBB(x:V)(ys:γ V)QBW(q:VK),H D=ε->xs[i]?<*x->g D i ys H'->(∀y f,f D<*.QV ys->g D (i+1) QBl (QO f D QAO)->q y f)->p (δ x::k) H' q)(C:∀D ys H',H D=ε->g D xs.β ys H'->Q QBI H'):∀D,H D=ε->∃W:χ->χ->γ V->Hp->Prop,
 (∃m,W 0 m [] (QO H D (.QV [])))/\∀i m ys d,W i m ys d->d D=δ (.QV ys)/\((J.We i d/\Q (.ξ D) d)\/(J.go i d/\ys.β<Φ/\∀x j,J.yld i d x j->
  Yv (δ x::k) j λb r=>if b=π then p (δ x::k) r λy f=>f D=δ QBZ/\∃h,h<m/\W (i+1) h QBl (QO f D QAO)
   else ∃h,h<m/\W (i+1) h ys r)):=by
 intro D o;refine(λi m ys d=>m=xs.β-i/\i≤xs.β/\g D i ys d,(xs.β,!1,RO _,I D o),3);rintro i m ys d⟨rfl,E,hp⟩;let⟨F,n,z⟩:=w D i ys d hp;refine(n,3);let⟨u,t,s⟩:=v d F;by_cases c:i<xs.β
 .refine .Rh (u i c,SA (Vc z) (QD c hz),λx j l=>?_);let⟨e,A⟩:=t i x j c l;subst e;show hG (B D i x ys j _ o A hp λy f a b=>(a,xs.β-(i+1),Ui _ _ c,1,c,b))
 .let e:i=xs.β:=WQ E (SQ c);subst e;show .RN (s,C D ys d o hp)
def rS{P1:θ->Hp->Prop}(e:∀R:VK,(∀a b,P1 a b->b a<*.Rn xs->R QAd b)->k g H R)(c:Hp->θ->χ->γ V->Hp->Prop)QHO(n:∀b a D i ys H',b a<*.Rn xs->c b D i ys H'->H' a=δ QHM/\H' D=δ QBZ/\ys.β=i)(q:∀b D,b D=ε->c b D 0 [] (QO b D QCF))(o:∀QCs(b:Hp)(D:θ)QBB(x:V)(ys:γ V)QBW(d:VK),P1 a b->b D=ε->xs[i]?<*x->c b D i ys H'->(∀y f,f D<*.QV ys->c b D (i+1) QBl (QO f D QAO)->d y f)->l (δ x::g) H' d)(p:∀a b D ys H',P1 a b->b D=ε->c b D xs.β ys H'->Q QBI H'):Eu (LQ k) Yv l g H Q:=
 e _ λa b h j=>(a,_,xs,1,.Rh ζ,j,λ_ m=>C4 m (c b) hz (λD i ys H'=>n b a D i ys H' j) (q b) (λD i x ys H' d=>o a b D i x ys H' d h) λD ys H'=>p a b D ys H' h)
def kx{f:QF}{Ri:UL}QBQ(a:PE X e ta)(c:(X.K=K)>>>4)(b:(UD e f X.QC QGE=Sc e X.QC)>>>4):PE X QGt (oP K ta f):=by
 subst c;show xi a b
section
variable{X:Cx}{k j:χ}{ps:γ QF}{sp:Sp}{m y:QF}{p Ri apos cp yp ap:UL}{o e c e1 e2:SH}{es:γ SH}{ta:TE}{t:TA}{ι:Type}{C:ι->θ}{f:θ}{fd:TY}
abbrev y0(C:ι->θ)(m:QF)QHW(sp:Sp)(ta:TE)QG9:QIt->TS:=λG D σ H=>ta σ H λx H0=>∃i a dx fs,x=.ξ a/\H0 a=δ (.XE (C i) dx fs)/\fs.ς m=ε/\t σ H0 λvs H1=>sp (x::vs) H1 (λv H2=>D.nx (σ.Uw j QF1) H2) (G σ)
def w9{pl:Sem Ψ}(nd:X.N.R7)(he:PE X.nox o ta)(cl:∀i,BZ X.K (C i))(Z:∀i,gn X.K (C i) m f)(F:aa X.Ω X.w X.K X.mg X.υ (z7 X.Ω X.w) k f fd ps sp)(hr:ak k X.A)(B:yx X.K fd ps [])(ha:PA X.nox (e::es) t)(hj:X.N[j]?<*y)(hy:C6 X.QC.RF y)(Vw:(BT (e::es) X.QC=(ν,Sc e X.QC,)::BT es X.QC)>>>4)(M:((ST cp (BT es X.QC)).U6 (·.1)=ν)>>>4)(ht:(Sc (.T0 (.S7 o m apos) (e::es) [] cp) X.QC=(do
   let Y <-Sc o X.QC
   standAt apos.atName
   let(f,first,) <-holding [Y] (getMethod Y m pl)
   callWith cp f first (ST cp (BT (e::es) X.QC)) (Yn cp (WR [] X.QC))))>>>4)(hs:(W9 (.T0 (.S7 o m apos) (e::es) [] cp) (δ (.SG y yp)) ap.XC X.QC=pure ν)>>>4)(hf:(X.fn y=π\/X.QC.RF.QH.ς y<*.local)>>>8):PX X (.Assign [.SG y yp] (.T0 (.S7 o m apos) (e::es) [] cp) ap) (y0 C m j sp ta t):=by
 intro b s d H D G I h;refine wpAny_Assign_Name (RQ (Q:=EP X b d λv n=>D.nx (d.Uw j QF1) n) ?_ (λv S P=>by let⟨w,R,L,r1,q1⟩:=P;show Al L nd hj hy r1 (λs2 E=>(_,R,E,q1)) hf) λ_ _ z=>z) hs;refine Ξ.W.methodCall_KW (pl:=pl) (RQ (he b s d H _ (I.Z' _) h) (λu S O=>?_) λ_ _ z=>z.SJ) ht;let⟨x,R,L,rx,i,a,dx,fs,ex,ea,l,q⟩:=O;subst ex;obtain ζ:u=η.ξ a:=rx;refine eW L.W8 ea (cl i) (Z i) l ?_;refine callWith_K (first:=[.ξ a]) (h₀:=X.υ) I.ok.Zb.ZL (Z i).kp (RQ (ha cp b S d R _ L q) (λus s2⟨vs,n,E,r,U⟩=>(E.Xb,3)) λ_ _ z=>z.SJ) Vw M;let J:f' X b d n s2:=E.W8;let T:ad (V.ξ a::vs) (η.ξ a::us):=.Rc ζ r;refine US (Tv (F.Sl X.A X.RL s2 n (η.ξ a::us,[]) (η.ξ a::us) (V.ξ a::vs) _ _ hr J.env0 ?_ T U) λr s' g=>?_)
 .let B:=B s2 (η.ξ a::us) J.Xb;rw[Tx]at B;show B (by rw[<-T.β];show F.TL _ _ _ _ U)
 .cases r with
  |WV ev=>show(d,n,s2,J,g)
  |ok fl=>
   cases fl with
   |ret u=>show J.after g
   |next=>show Rk.SJ g
   |brk=>show Rk.SJ g
   |YB=>show Rk.SJ g
variable{V:LN}{T T1 T2:(χ->Pt)->Pt}{x1:ExprCtx}
end
def lJ(h:ys.β=n+1):Ad (xs++ys) ε (δ (-((n+1:χ):Λ)))=xs:=by
 unfold Ad HT.Ws;dsimp only;rw[IO (!2),q4,h,show(-((n+1:χ):Λ)+((xs.β+(n+1):χ):Λ)).Ru=xs.β by lia];simp
def sf QCK(a b:V):An (xs++[a]++[b]) (-2)<*a:=by
 let e:Dz (xs++[a]++[b]).β (-2)<*xs.β:=by
  unfold Dz;rw[Cl (!0)];simp;lia
 unfold An;rw[e];simp
def pY(d:0≤a)(c:0≤b){n:χ}(h:b≤a+(n:Λ)):(gj ns (δ a) (δ b)).β≤n:=by
 unfold gj HT.Ws;dsimp only;rw[Cl (G5 c),Cl (G5 d),Sn,WP];show Jj h
abbrev CC QBQ(x q:QF)(st:Rb)QEx:Prop:=∃fd,pd K x q st f fd
section
variable{K:RG}{x q:QF}{st:Rb}{f:θ}{fd:TY}{q0 q1 q2:QF}
def Hr{kV Tg pm ct:η}(l:K.ς f<*(e,d,.VL (U_ x q (ri st) (n7 st) QHt .ε kV Tg pm an QEB ct),a))(c:UH K QEB q=π):CC K x q st f:=(_,DA l c (Bk l))
end
structure fF QBQ(C cP f fM:θ):Prop where
 pc:yu K C cP
 me:gn K C "shape" f
 mm:gn K C "machine" fM
end L2
namespace RA
open L2
section
variable{A C D:LN->Prop}{L:LN}{x y z:Pt}
def KU{b:Ψ}{S:LN}{u:LN}:Ds L b S u->Wd L u
 |.RN ⟨e,_⟩=>by rw[e];show λc a=>(nomatch a)
 |.Rh ⟨c,a,_,e⟩=>by rw[e];show λd f=>by rw[yl f];show a
def wJ(h:∀u,A u->Wd L u)(s:au A u):Wd L u:=by
 induction s with
 |S5=>show λc b=>(nomatch b)
 |Xi _ h1 a=>show g_i.Sz (a,h _ h1)
def FV:∀QEM(u:LN),af L t u->Wd L u
 |.S0 .Tc,_,h=>KU h
 |.S0 .Vd,_,h=>KU h
 |.S0 .U6,_,h=>KU h
 |.Up _,_,h=>KU h
 |.UX .Tf _,_,h=>h.1
 |.UX .Sr x,u,h=>cG.mp (FV x _ h)
 |.UX .again x,u,h=>wJ (FV x) h
 |.WD .VT x y,u,h=>h.SJ (FV x u) (FV y u)
 |.WD .Zd x y,u,h=>FV x u h.1
 |.WD .Zo x y,u,h=>FV x u h.1
 |.WD .Vm x y,_,⟨_,_,e,h1,h2⟩=>by rw[e];show g_i.Sz (FV x _ h1,FV y _ h2)
section
variable{t s:Pt}{n d c i e c' i':χ}
end
end
section
def Mq(h:5<r)(h':r<10):∃k:K2,An [V.QZ "either",.QZ "less",.QZ "both",.QZ "then"] (r-6)<*.QZ QIu:=by
 rcases(by lia:r=6\/r=7\/r=8\/r=9)with ζ|rfl|rfl|rfl
 .exact (.VT,1)
 .exact (.Zd,1)
 .exact (.Zo,1)
 .exact (.Vm,1)
def Mr(h:0≤r)(h':r<4):∃k:K1,An [V.QZ "again",.QZ "outside",.QZ "turned",.QZ "again"] r<*.QZ (Ee k):=by
 rcases(by lia:r=0\/r=1\/r=2\/r=3)with ζ|rfl|rfl|rfl
 .exact (.again,1)
 .exact (.Tf,1)
 .exact (.Sr,1)
 .exact (.again,1)
def Ms(h:0≤r)(h':r<2):∃k:K0,An [V.QZ "never",.QZ "empty"] r<*.QZ (JZ k):=by
 rcases(by lia:r=0\/r=1)with ζ|rfl
 .exact (.Tc,1)
 .exact (.Vd,1)
def Mt(h:0≤r)(h':r<3):∃k:K2,An [V.QZ "then",.QZ "either",.QZ "then"] r<*.QZ QIu:=by
 rcases(by lia:r=0\/r=1\/r=2)with ζ|rfl|rfl
 .exact (.Vm,1)
 .exact (.VT,1)
 .exact (.Vm,1)
def Bv.kp(k:Kp H H')(h:Bv (aj H) xs ts):Bv (aj H') xs ts:=h.imp λ_ _ z=>z.kp k
end
def o7{R:Pt->V->Prop}:∀QBy QIB QIJ,Bv R xs ts->j<xs.β->∃v t,xs[j]?=δ v/\ts[j]?=δ t/\R t v
 |x::_,t::_,0,h,_=>(x,t,5,h.1)
 |_::xs,_::ts,j+1,h,a=>o7 (xs:=xs) (ts:=ts) h.2 (χ.lt_of_succ_lt_succ a)
def take_one{b:Type}{xs:γ b}{x:b}(h:xs[0]?<*x):xs.R0 (0+1)=[x]:=by
 cases xs with
 |S5=>cases h
 |Rc a l=>cases h;rfl
def rP(ts:γ Pt)QCm:bh (ts.R0 n)≤bh ts:=by
 let h:bh ts=bh (ts.R0 n)+bh (ts.Th n):=by
  unfold bh;rw[<-γ.sum_append,<-RU,Vq]
 show IK h
def qg(ts:γ Pt)QCm:be (ts.R0 n)≤be ts:=by
 let h:be ts=be (ts.R0 n)+be (ts.Th n):=by
  unfold be;rw[<-γ.sum_append,<-RU,Vq]
 show IK h
abbrev Tl QA5 QAH QEM(v:V):Prop:=v=.Uv\/∃(f:θ)(W:LL)(B:γ Ψ),v=.ξ f/\Mc H f L W B/\(∃c,Bo L W B c)/\Lg L W B=af L t
def Tl.kt(h:Tl L H t v)QGD:Tl L H' t v:=h.imp id λ⟨f,W,B,e,a,r⟩=>(f,W,B,e,a.kt k,r)
abbrev Cf QCm(W2:LL):LL:=W2.Q_ λr=>r.Q_ (·+n)
section
variable{L:LN}{W W2:LL}{B B2:γ Ψ}
def J7 QCm(W2:LL):(Cf n W2).β=W2.β:=j' _
def jV QAt QGr(f:W.β+W2.β≤2100):g_ L QBp (B++B2) where
 lt:=h.lt
 n1:=by rw[q4];show QB h.n1 QIe
 n60:=by rw[q4,J7];show f
 bl:=by rw[q4,q4,J7,h.bl,g.bl]
 Yc:=λws hw=>by
  rw[q4,J7];rcases Rp.mp hw with z|z
  .obtain ⟨a,b⟩:=h.Yc ws z;show(a,λx c=>QD (b x c) QIe)
  .obtain ⟨r,e,ζ⟩:=TZ.mp z;let⟨a,b⟩:=g.Yc r e;refine(by rw[j'];show a,λx c=>?_);let⟨y,d,ζ⟩:=TZ.mp c;have:=b y d;lia
def sV(a:r<W.β):zl L QBp r c=zl L W r c:=by
 let e:(W++Cf W.β W2).LT r []=W.LT r []:=by rw[nt,QK a,<-nt]
 unfold zl;rw[e]
def sU QGr(a:r<W2.β)(d:c∈L):zl L QBp (W.β+r) c=W.β+zl L W2 r c:=by
 unfold zl;let⟨h1,h2⟩:=g.Yc W2[r] (Rv a);let b:L.QP c<W2[r].β:=by rw[h1];show QS d
 let f:(W++Cf W.β W2).LT (W.β+r) []=W2[r].Q_ (·+W.β):=by
  rw[nt,QM QIe,χ.add_sub_cancel_left,Cf,na,j_ a];rfl
 let e:W2.LT r []=W2[r]:=by rw[nt,j_ a];rfl
 rw[f,e,nt,na,j_ b,nt,j_ b];show χ.add_comm _ _
def jT QAt:∀QFP{r:χ},r<W.β->QA7->Sl L QBp r w=Sl L W r w
 |[],_,_,_=>rfl
 |c::w,r,b,hw=>by
  change Sl L _ (zl L QBp r c) w=Sl L W QJ9 w;rw[sV b];show jT h w (B6 h (w:=[c]) b (λd a=>by rw[yl a];show hw c (!1))) λd a=>hw d (by simp[a])
def jS QGr:∀QFP{r:χ},r<W2.β->QA7->Sl L QBp (W.β+r) w=W.β+Sl L W2 r w
 |[],_,_,_=>rfl
 |c::w,r,b,hw=>by
  change Sl L _ (zl L QBp (W.β+r) c) w=W.β+Sl L W2 (zl L W2 r c) w;rw[sU g b (hw c (!1))];show jS g w (B6 g (w:=[c]) b (λd a=>by rw[yl a];show hw c (!1))) λd a=>hw d (by simp[a])
abbrev mk0 QA5 QC9 QAm(u:LN):Ψ:=B.LT (Sl L W 0 u) ν
def Mu QAt QKS:(B++B2).LT (Sl L QBp 0 u) ν=mk0 L W B u:=by
 rw[jT h u h.n1 a,nt,QK (by rw[h.bl];show B6 h h.n1 a),<-nt];rfl
def Mv QAt QGr QKS:(B++B2).LT (Sl L QBp W.β u) ν=mk0 L W2 B2 u:=by
 let e:=jS (W:=W) g u g.n1 a;rw[χ.add_zero]at e;rw[e,nt,QM (by rw[h.bl];show Uc _ _),h.bl,χ.add_sub_cancel_left,<-nt];rfl
abbrev qf QA5 QC9 QAm(W2:LL)(B2:γ Ψ)(o:ψ LN):Prop:=
 (o=ε->∀u:LN,QAL->mk0 L W B u=mk0 L W2 B2 u)/\
 ∀v,o<*v->(∀c∈v,c∈L)/\v.β≤W.β+W2.β/\mk0 L W B v≠mk0 L W2 B2 v/\∀u:LN,QAL->mk0 L W B u≠mk0 L W2 B2 u->u6 L u v=ν
def vW QAt QGr(h1:W.β≤60)(l:W2.β≤60)(p:fz L QBp (B++B2) 0 W.β o):qf L W B W2 B2 o:=by
 let k:=jV h g (I_ l h1);let d:(W++Cf W.β W2).β=W.β+W2.β:=by rw[q4,J7]
 let a0:=h.n1;let m:=g.n1;let⟨j,s2⟩:=p.spec k (by rw[d];show IG m) (by rw[d];show IS m);refine(λz u a=>?_,λv z=>?_)
 .have:=j z u a;rw[Mu h a,Mv h g a]at this;show this
 .obtain ⟨b,i,e,f⟩:=s2 v z;rw[Mu h b,Mv h g b]at e;refine(b,3,e,λu a c=>f u a ?_)
  .rw [d]at i;omega
  .rw [Mu h a,Mv h g a];show c
end
end RA
namespace L2
namespace RS
def dJ:Manifest.owners.ς (X5.ofList (GJ [100,101,115,114,101,118,101,114]).Rt)<*Manifest.sig_reversed:=by kernel_rfl
def Vr:Slot "reversed" "__next__" "reversed.__next__":=
 .of (owner:="reversed") (n:="__next__") (by rw[T6,Sf];kernel_rfl) (!3) (!3) (!3)
  (by first|show .RN (!3)|show .Rh (!3)) (by rw[UE];kernel_rfl)
def fb:Zj table "reversed.__next__"<*Builtin.«reversed.__next__»:=entryFor_of_tree QBH
def im(a:η):Zr "reversed.__next__" QKv:=by
 unfold Zr;rw[signature?_of (id:="reversed.__next__") (n:=(GJ [95,95,116,120,101,110,95,95])) (o:=QDE) QBH dJ];kernel_rfl
def gE:Slot "reversed" "__iter__" "reversed.__iter__":=
 .of (owner:="reversed") (n:="__iter__") (by rw[T6,Sf];kernel_rfl) (!3) (!3) (!3)
  (by first|show .RN (!3)|show .Rh (!3)) (by rw[UE];kernel_rfl)
def sg(a:η):Zr "reversed.__iter__" QKv:=by
 unfold Zr;rw[signature?_of (id:="reversed.__iter__") (n:=(GJ [95,95,114,101,116,105,95,95])) (o:=QDE) QBH dJ];kernel_rfl
def oj:Zj table "reversed.__iter__"<*Builtin.«dict_keyiterator.__iter__»:=
 entryFor_alias (id':="dict_keyiterator.__iter__") QBH (by first|rfl|decide +kernel|(unfold X5.splitOn;simp +decide [X5.splitOnAux])) (!3) QBH
def Pp:Yu (.QU "str") "__reversed__"=pure ε:=by rw[T6,Sf];kernel_rfl
def qx:Slot "reversed" "__init__" "object.__init__":=
 .of (owner:="object") (n:="__init__") (by rw[T6,Sf];kernel_rfl) (!3) (!3) (!3)
  (by first|show .RN (!3)|show .Rh (!3)) (by rw[UE];kernel_rfl)
def Pq:TypeCalled "reversed" "reversed.__new__" "object.__init__":=
 (!3,F.create_reversed,(8,F.mro_reversed),F.made_reversed,F.plain_reversed_new,F.sub_reversed_self,qx)
abbrev Aw QEh(t:Z5)(i:Λ):UQ:={SS:=.QU "reversed",RH:=.SD #[.QZ x t,R6 i]}
def xy QEh(t:Z5):Meets (Builtin.«reversed.__new__» ([.QU "reversed",.QZ x t],[])) (λ_ R s=>¬ (x.β:Λ)≥2^63/\∀k,R (.ok (.ret QAX)) {s with ρ:=s.ρ.Rm (Aw x t QDF),QT:=k}):=
 .of_wp λΩ w A R s h=>by
  let⟨b,h⟩:=h;let h1:=newClass_reversed (.QZ x t);let h2:=Pp;let d:isSubtype (.QU "str") (.QU "dict")=pure ν:=by rw[UE];kernel_rfl
  let c:=F.Yf.ς;unfold Builtin.«reversed.__new__»;refine e_ (SR h1 ?_);refine e_ (SR (a:=()) (by first|rfl|kernel_rfl) ?_);refine e_ (SR (a:=()) (by first|rfl|kernel_rfl) ?_)
  wp_walk using Su.WZ.len_str b
  show(0,h _)
section
variable{Ω:Id}{w:QW}{A:Qy}{E:η->ω->Prop}{s:ω}{x:QF}{t:Z5}{it:θ}
def ES(b:¬ (x.β:Λ)≥2^63)(h:∀k,Q QAX {s with ρ:=s.ρ.Rm (Aw x t QDF),QT:=k}):Fr QAU A (UZ (.QU "reversed") [.QZ x t]) Q E s:=
 callType_new Pq (!0) (F.typeCall_reversed_1 _) (F.newCall_reversed_1 _) QJf F.entry_reversed_new (xy x t) (b,λk=>(QEr,h k))
def rc QEH(b:s.ρ.Δ it<*Aw x t (i:Λ))(j:¬ (x.β:Λ)≥2^63)(e:x.Vu[i]?<*c)(h:∀h' k u,h'.Δ it<*Aw x t ((i:Λ)-1)->Tb it s.ρ h'->Q (δ (.QZ ⟨#[c]⟩ u)) {s with ρ:=h',QT:=k}):Fr QAU A (WE QCP) Q E s:=by
 let ty:s.Vi QCP "reversed":=(_,b,1);unfold WE;refine e_ (V3 (Sg (Ss:=QF.Rj "__next__") ty Vr (SV Vr ty fb ?_ (im _))));unfold Builtin.«reversed.__next__»;refine e_ QKI;try dsimp only
 refine e_ QKx;refine e_ (RP b ζ (x:=R6 (i:Λ)) ζ ?_);change Fr _ _ (if (i:Λ)<0 then _ else _) _ _ s;rw[Cl GZ];let l:=F.Yf.ς;let g:i<x.β:=(R_.TC.mp e).1;let f:(decide ((i:Λ) < -(2^63:Λ))||decide ((i:Λ)≥2^63))=ν:=by
  rw[QJ (!6),QJ (!6)];rfl
 let d:(seqIndex? (i:Λ) x.β).Zq (x.Vu[·]?)<*c:=by
  rw[Ξ.StrLaws.seqIndex_nonneg FZ (GO g)];show e
 wp_walk using Su.WZ.getItem_str f d
 refine(0,h9 (h _ _ _ ?_ (Tb.Sq ..)));rw[Rs _ b QHg];rfl
def uD(d:A.SX=ε)(c:s.ρ.Δ it<*Aw x t (-1))(e:∀h',RC.ExtBut it s.ρ h'->Q ε {s with ρ:=h'}):Fr QAU A (WE QCP) Q E s:=by
 let ty:s.Vi QCP "reversed":=(_,c,1);unfold WE;refine e_ (V3 (Sg (Ss:=QF.Rj "__next__") ty Vr (SV Vr ty fb ?_ (im _))));unfold Builtin.«reversed.__next__»;refine e_ QKI;try dsimp only
 refine e_ (RP c ζ (x:=.QZ x t) ζ ?_);refine e_ (RP c ζ (x:=R6 (-1)) ζ ?_);change Fr _ _ (if (-1:Λ)<0 then _ else _) _ _ s;rw[IO (!0)]
 wp_walk
 simp only[raiseNew];refine e_ QFX;first|rw[show A.Xz.SX=ε from d]|rw[d]
 refine e_ (h9 (YC ?_));refine e_ (Vp (T:="StopIteration") (b:=π) QEr isSubtype_stop ?_);show h9 (e _ ((((Tb.Sq ..).ο (Tb.Sq ..)).Wp.Rm _).Rm _))
def Mw(a:s.ρ.Δ it<*Aw x t i)(h:Q QCP s):Fr QAU A (YX QCP) Q E s:=by
 let ty:s.Vi QCP "reversed":=(_,a,1);refine wpAny_pyIter_slot ty gE (SV gE ty oj ?_ (sg _));show h9 (0,"reversed",_,ty,Vr.ς,h)
end
def J8(r:A.SX=ε)(I:θ)(n:¬ (x.β:Λ)≥2^63):Walks Ω w A I [I] [I] x.β (λi v=>∃c u,x.Vu[x.β-1-i]?=δ c/\v=.QZ ⟨#[c]⟩ u) QBz  where
 Vk:=λb e=>e
 Vx:=λ_ _ _ y p=>(y.1,p I (!1) _ y.2)
 Yi:=λi s Q E q y f=>by
  let a:=y.2;rw[show(x.β:Λ)-1-(i:Λ)=((x.β-1-i:χ):Λ) from Ij q]at a;let m:x.Vu[x.β-1-i]?<*(x.Vu[x.β-1-i]'(by change _<x.β;show Ih q)):=R_.getElem?_eq_getElem _;refine rc a n m λh' k u d g=>?_;rw[show((x.β-1-i:χ):Λ)-1=(x.β:Λ)-1-((i+1:χ):Λ) by omega]at d;show f _ h' k (_,u,m,1) (q,d) λb o e l=>g.Wp b o (λh=>e (by simp[h])) l
 done:=λs Q E y f=>by
  let a:=y.2;rw[show(x.β:Λ)-1-(x.β:Λ)=-1 by lia]at a;show uD r a λh' j=>f h' s.QT λb o e l=>j b o (λh=>e (by simp[h])) l
 self:=λ_ _ _ _ y f=>Mw y.2 f
def h_f:Slot "reversed" "__length_hint__" "reversed.__length_hint__":=
 .of (owner:="reversed") (n:="__length_hint__") (by rw[T6,Sf];kernel_rfl) (!3) (!3) (!3)
  (by first|show .RN (!3)|show .Rh (!3)) (by rw[UE];kernel_rfl)
def on:Zj table "reversed.__length_hint__"<*Builtin.«reversed.__length_hint__»:=entryFor_of_tree QBH
def si(a:η):Zr "reversed.__length_hint__" QKv:=by
 unfold Zr;rw[signature?_of (id:="reversed.__length_hint__") (n:=(GJ [95,95,116,110,105,104,95,104,116,103,110,101,108,95,95])) (o:=QDE) QBH dJ];kernel_rfl
def Pr:Yu (.QU "reversed") "__len__"=pure ε:=by
 rw[T6,Sf];kernel_rfl
def Ps:splitId "reversed.__length_hint__"<*("reversed","__length_hint__",):=by decide +kernel
section
variable{Ω:Id}{w:QW}{A:Qy}{E:η->ω->Prop}{s:ω}{x:QF}{t:Z5}{I:θ}
def lP(b:s.ρ.Δ I<*Aw x t QDF)(c:¬ (x.β:Λ)≥2^63)(h:∀k u,s.QT≤k->Q (.QG x.β u) {s with QT:=k}):Fr QAU A (UZ (.RJ "reversed.__length_hint__") [.ξ I]) Q E s:=by
 let ty:s.Vi QE' "reversed":=(_,b,1);refine SV h_f ty on ?_ (si _);unfold Builtin.«reversed.__length_hint__»;refine e_ (SR (a:=η.ξ I) ζ ?_);refine e_ QKx
 wp_walk using Su.WZ.len_str c
 rw[show(x.β:Λ)-1+1=x.β by lia];show(0,h _ _ (by change s.QT≤s.QT+1+1+1;lia))
def hint(c:s.ρ.Δ I<*Aw x t QDF)(d:x.β≤16777216)(h:∀b k,s.QT≤k->Q b {s with QT:=k}):Fr QAU A (Builtin.γ.Xx QE') Q E s:=by
 let ty:s.Vi QE' "reversed":=(_,c,1);unfold Builtin.γ.Xx;refine e_ (VX ty Pr ?_);dsimp only
 repeat' rw[Cl (!0)]
 refine e_ (VX ty h_f.ς ?_);dsimp only;rw[Ps];dsimp only;refine e_ (Vp ty F.sub_reversed_self ?_);rw[Cl (!0)];refine Rz (!3) ?_;refine e_ (W5 (e_ (SR (h_f.Zq _) ?_)));dsimp only;refine e_ (V3 (lP c (F8 d) λk u f=>?_));generalize e:(x.β:Λ)=n at *;change Fr _ _ (asInt? (.QG n u)>>=_) _ _ _;refine e_ (SR (a:=δ n) ζ ?_);try dsimp only
 let h1:Builtin.γ.listFitsIndex n=π:=by
  unfold Builtin.γ.listFitsIndex;rw[RI (!6),RI (!6)];rfl
 let h2:Builtin.γ.listTooLong n.Ru=ν:=QJ (not_lt.Sz (by rw[<-e,Tn];show n0 d));rw[h1,Cl (!0),Cl (!6),h2,Cl (!0)];show h9 (h _ _ f)
def vv(W:Walks Ω w A.Xz I [I] [I] x.β P QBz)(u:s.ρ.Δ I<*Aw x t QDF)(D:x.β≤16777216)(J:∀s' d,Moved [I] QFh s s'->ItemsOf P d x.β->Q d.Qx s'):Fr QAU A (collect QE') Q E s:=by
 let M:=lt_size u;let B:s⁻¹≠I:=XT M;let q:Builtin.γ.listSameRef QAX QE'=ν:=by simp[Builtin.γ.listSameRef,B]
 let g:(s.ρ.Rm {SS:=.QU "list",RH:=.WA ([]:γ η).Θ}).Δ s⁻¹<*{SS:=.QU "list",RH:=.WA ([]:γ η).Θ}:=QN _ ζ;let l:∀(R:Result->ω->Prop)(r:ω)QHP,(∀s' d c,Moved [I] QFh s s'->s'.ρ.Δ s⁻¹<*{SS:=.QU "list",RH:=.WA d c}->ItemsOf P d x.β->R (.ok (.ret QAX)) s')->
   r.ρ.Δ I<*Aw x t QDF->r.ρ.Δ s⁻¹<*{SS:=.QU "list",RH:=.WA #[] c}->Moved [s⁻¹] QFh s r->
   VD QAU A (.RJ "list.extend.loop" ([.ξ s⁻¹,.ξ I,.ξ s⁻¹],[])) R r:=λR r c L h1 h2 p=>by
  refine codeAny_extend_loopS W.toS (n0 D) _ (by simpa using B) _ x.β 0 r #[] c ζ QDt (RO _,by rw[h1];simp) h2 (ItemsOf.S5 P) λs' d N j y f=>?_;refine L s' d N (λb o n e=>?_,j.WX.ο p.WX,j.Wz.ο p.Wz,j.os.ο p.os,QB p.QT j.QT) y f;let v:b≠s⁻¹:=RM QBG;refine j.ρ b o QId (p.ρ b o (by simpa using v) e);rcases QY.mp z with z|z
  .exact v z
  .exact n z
 unfold collect;refine e_ (ZS (TH F.entry_proto_collect ?_));rw[Qy.Ue F.plain_proto_collect _];refine e_ (m:=newList []) (Si (h9 (U8 F.ZD _,TH F.entry_list_iadd ?_)));rw[Qy.Ue F.ZD _];let h1:(s.ρ.Rm {SS:=.QU "list",RH:=.WA ([]:γ η).Θ}).Δ I<*Aw x t QDF:=o9 _ u;let C:Moved [s⁻¹] QFh s {s with ρ:=s.ρ.Rm {SS:=.QU "list",RH:=.WA ([]:γ η).Θ} }:=(λb o n e=>o9 _ e,5,1,QA _);change Fr _ A.Xz (Builtin.γ.Wl QAX QE' QAX) _ _ _;unfold Builtin.γ.Wl;refine e_ (Xf (_,h1,1) (Rz (by rw[q];decide) (e_ (Mw h1 (e_ (RZ (hint h1 D λb k H=>?_)))))));cases b with
 |ν=>
  refine Rz (!3) (h9 (U8 F.Vl _,l _ _ 0 (λs' d c j y f=>?_) h1 g (C.ρ,5,1,H)))
  .exact e_ (Ys y (h9 (J s' d j f)))
 |π=>
  refine Xr (!3) (e_ (W5 QDa));change Fr _ _ (Zw _ (·.Rm .ε)>>=λ_=>Zw _ (·.pop)) _ _ _;refine e_ (V' g ζ ?_);let p:=Rs QFd g ζ;refine V' p ζ (h9 (U8 F.Vl _,l _ _ _ (λs' d c j y f=>?_) ?_ (Rs QIm p ζ) (λb o n e=>?_,5,1,H)))
  .exact e_ (Ys y (h9 (J s' d j f)))
  .exact (Rq _ _ B).ο ((Rq _ _ B).ο h1)
  .let n:s⁻¹≠b:=λz=>n (by simp[z]);show(Rq _ _ n).ο ((Rq _ _ n).ο (C.ρ b o (λz=>n (yl z).QI) e))
def Hs(W:Walks Ω w A.Xz.Xz I [I] [I] x.β P QBz)(m:s.ρ.Δ I<*Aw x t QDF)(y:x.β≤16777216)(q:∀c:R_ η,ItemsOf P c x.β->∃l:γ (QF×Z5),strValues l=c.Qx/\l.Q_ QBF=ys)(p:JoinOk z ys=π)(B:∀s',Moved [I] QFh s s'->∀t' k,Q (.QZ (U7.join z ys) t') {s' with QT:=k}):Fr QAU A (UZ (.RJ "str.join") [.QZ z tz,.ξ I]) Q E s:=by
 let j:Builtin.QF.tooLong (ys.Θ.foldl (·+·.β+z.β) 0)=ν:=by
  unfold JoinOk at p;simpa using p
 let o:∀(c:R_ η)QKQ,Moved [I] QFh s s'->ItemsOf P c x.β->Fr QAU A.Xz (joinTail z c.Qx) (λu s'=>match u with|.done f=>wants Q E (.ok f) s'|.again v=>v.quiet=π/\VD QAU A v (wants Q E) s') (λe s'=>wants Q E (.WV e) s') s':=λc s' r d=>by
  let⟨l,D,C⟩:=q c d;subst C;rw[<-D];let n:Gives (joinTail z (strValues l)) (joinMade z l):=by
   let g:=gives_joinTail z l j;rcases l with _|⟨_,_|_⟩<;>show g
  show n Ω w A (wants Q E) s' (post_join l (joinFit_length j,B s' r))
 refine US (U5 F.slot_str_join.plain F.entry_str_join (F.slot_str_join.check _ _ _ _ _ _ _ _ (typeIs_str _ _ _) (F.args_str_join_2 _ _) ?_));rw[join_tree_other];refine e_ (Xf (_,m,1) (Rz (!0) (e_ (wpAny_tryCatch (Mw m QDa)))));show vv W m y λs' c r d=>o c s' r d
end
end RS
end L2
namespace L2
open PySem.Spec PyProof.Rows RA
section
variable{X:Cx}
inductive mI QAR QAI(H2:Hp):Prop
 |mk (v:LN) (_:vs=[.QZ (tx v)]) (_:v.β≤16777216) (_:Q (.QZ (tx v.Rt)) H2)
abbrev qt(to:TE)QG9:TE:=λσ H Q=>to σ H λx H1=>x=.QZ (QF.Rj "")/\t σ H1 (mI Q)
def oR:∀(b:LN)(d:γ η),d.β=b.β->(∀QBB(a:η)QHP,d[i]?<*a->b[i]?<*c->∃u,a=.QZ ⟨#[c]⟩ u)->∃l:γ (QF×Z5),strValues l=d/\l.Q_ QBF=b.Q_ λc=>(⟨#[c]⟩:QF):=by
 intro b;induction b with
 |S5=>intro d h k;cases d with|S5=>show([],5)|Rc _ _=>cases h
 |Rc c b j=>intro d h k;cases d with|S5=>cases h|Rc a d=>let⟨u,ζ⟩:=k 0 a c ζ ζ;let⟨l,ζ,e⟩:=j d QFR λi a c x y=>k (i+1) a c x y;show((⟨#[c]⟩,u,)::l,1,by rw[UY,e];rfl)
def ku{n d p Ri:UL}(D:X.XV=π)(ho:PE X o to)(E:PA X [e] t)(hg:Gl X "reversed")(z:X.mg "reversed"=ε)(y:(UD o "join" X.QC (Sc o X.QC)=Sc o X.QC)>>>4)(C:(((ST d (BT [SH.T0 (.SG "reversed" p) [e] [] Ri] X.QC)).UW (λx=>!x.1)&&(Yn d (WR [] X.QC)).UW (λx=>x.1.VR)
   && decide (([SH.T0 (.SG "reversed" p) [e] [] Ri]:γ SH).β+([]:γ Xn).β+(if ([]:γ Xn).Vs then 0 else 1)<30))=π)>>>4)(r:((n.endLine==d.XC)=π)>>>4)(hs:(BT [SH.T0 (.SG "reversed" p) [e] [] Ri] X.QC=(ν,Sc (.T0 (.SG "reversed" p) [e] [] Ri) X.QC,)::BT [] X.QC)>>>4)(l:((ST d (BT [] X.QC)).U6 (·.1)=ν)>>>4)(P:(BT [e] X.QC=(ν,Sc e X.QC,)::BT [] X.QC)>>>4)(B:((ST Ri (BT [] X.QC)).U6 (·.1)=ν)>>>4):PE X (.T0 (.S7 o "join" n) [.T0 (.SG "reversed" p) [e] [] Ri] [] d) (qt to t):=by
 intro f s N H Q I h;refine Yt y C r ζ (nb (ho f s N H _ I h) λv O S=>?_);let⟨x,H1,U,r1,ex,q1⟩:=S;subst ex;let⟨Y,ζ⟩:=r1;refine("str","str.join",Xu,Ξ.F.slot_str_join,Ξ.F.type_str_join,typeIs_str O _ Y,(λ_ e=>nomatch e),3);rw[hs];refine Vf.XI (by change (ν||(ST d (BT [] X.QC)).U6 QBF)=ν;rw[l];rfl) (Vf.Wq ?_);change Fr _ _ (spliced ((ν,Sc (SH.T0 (.SG "reversed" p) [e] [] Ri) X.QC,)::ST d (BT [] X.QC))) _ _ O;refine Vf.spliced_cons (Rg (u_ U hg z boot_reversed (Su.WZ.Tw (nb (E Ri f O N H1 _ U q1) λus s2 R=>?_) P B)));let⟨vs,M,L,r2,v,ev,hz,q⟩:=R;subst ev;let⟨u,ζ,Z⟩:=Ch r2;let⟨tv,ζ⟩:=Z;let j:(tx v).β=v.β:=hF v;let T:¬ ((tx v).β:Λ)≥2^63:=by rw[j];show F8 hz
 refine RS.ES T λk0=>Vf.spliced_nil ?_;let W:∀b u,s2.ρ.Δ b<*u->(s2.ρ.Rm QHj).Δ b<*u:=λb u e=>o9 _ e;let I3:f' X f N M {s2 with ρ:=s2.ρ.Rm QHj,QT:=k0}:=L.XD (t':=k0) W;let⟨f0,f1,f2,f3,f4,f5⟩:=L.fpOk (H':=M) QA2 (L.S8.SZ QA2);refine RS.Hs (ys:=v.Rt.Q_ λc=>(⟨#[c]⟩:QF)) (RS.J8 (Ω:=X.Ω) (w:=X.w) (A:=X.A.Xz.Xz) (L.ok.hd D) s2⁻¹ T) (QN _ ζ) (by rw[j];show hz) (λab m=>?_) ?_ (λs' z t' k=>?_)
 .refine oR _ _ (by rw[Sh,<-j];show m.1) λi a c E D=>?_;rw[Ux]at E;let⟨c',u,J,ζ⟩:=m.2 i a E;let hi:i<v.β:=by
   have:=(l' D).1
   rwa [Sh]at this
  rw[γ.getElem?_reverse hi]at D;rw[j,ir,D]at J;cases J;show(u,1)
 .exact joinOk_of (gZ v.Rt (by rw[Sh];show hz))
 .obtain ⟨hh,g,dr,tt,os⟩:=s';let J:g=s2.WX:=z.WX;let e2:dr=s2.Wz:=z.Wz;let e3:os=s2.os:=z.os;subst J e2 e3;refine(.QZ _,M,I3.Sr (h':=hh) (t':=k) (λb o hb e=>z.ρ b o (by simpa using hb) e) f0 f1 f3 f4 f5,(t',1),3);change Q (.QZ (U7.join QF.Vd _)) M;rw[em];show q
end
end L2
namespace RA
open L2
section
open Classical
abbrev bn(p:χ->Prop):χ->χ
 |0=>0
 |n+1=>bn p n+if p n then 2^n else 0
def yL(p:χ->Prop):∀n,bn p n<2^n
 |0=>χ.one_pos
 |n+1=>by
  let h:=yL p n;change bn p n+_<2^(n+1);rw[χ.pow_succ];split<;>lia
def FW(p:χ->Prop)QHW:∀n,(bn p n).VB j=π↔j<n/\p j
 |0=>by
  change χ.VB 0 j=π↔_;rw[χ.zero_testBit];show(λh=>(nomatch h),λh=>QL h.1 (χ.not_lt_zero _))
 |n+1=>by
  let a:=FW p j n;let b:=yL p n;change (bn p n+_).VB j=π↔_;by_cases hp:p n
  .rw [IO hp,χ.add_comm];rcases V6 j n with h|h|h
   .rw [χ.testBit_two_pow_add_gt h,a];show(λz=>(GK h,z.2),λz=>(h,z.2))
   .subst h;rw[χ.testBit_two_pow_add_eq,χ.testBit_lt_two_pow b];show(λ_=>(R8 _,hp),λ_=>rfl)
   .have:2^n+bn p n<2^j:=QD (by rw[χ.pow_succ];lia:_<2^(n+1)) (χ.pow_le_pow_right (!0) h);rw[χ.testBit_lt_two_pow this];show(λh=>(nomatch h),λz=>!6)
  .rw [Cl hp,χ.add_zero,a];show(λz=>(!6,z.2),λz=>(χ.Wk (!6) λe=>hp (e▸z.2),z.2))
def rz(h:∀j,j<n->(p j↔q j)):bn p n=bn q n:=χ.eq_of_testBit_eq λj=>by
 rw[Ψ.T9,FW,FW];show(λz=>(z.1,(h j z.1).mp z.2),λz=>(z.1,(h j z.1).Sz z.2))
def p6(h:∀j,x.VB j=π↔j<n/\p j):x=bn p n:=χ.eq_of_testBit_eq λj=>by
 rw[Ψ.T9,FW];show h j
def p5:bn p n ||| bn q n=bn (λj=>p j\/q j) n:=p6 λj=>by
 rw[χ.testBit_or,Xv,FW,FW];show⟨λh=>h.SJ (λz=>(z.1,.RN z.2)) λz=>(z.1,.Rh z.2),λz=>z.2.imp (⟨z.1,·⟩) (⟨z.1,·⟩)⟩
def vP:bn p n &&& bn q n=bn (λj=>p j/\q j) n:=p6 λj=>by
 rw[χ.testBit_and,TW,FW,FW];show(λz=>(z.1.1,z.1.2,z.2.2),λz=>((z.1,z.2.1),z.1,z.2.2))
def Cg(h:k<n):2^k=bn (λj=>j=k) n:=p6 λj=>by
 rw[χ.testBit_two_pow,S3];show(λz=>(Iv h z,z.QI),λz=>z.2.QI)
def AD(h:∀j,j<n->¬ p j):bn p n=0:=(p6 λj=>by
 rw[χ.zero_testBit];show(λz=>(nomatch z),λz=>QL z.2 (h j z.1))).QI
def oB{p q:χ->Prop}:∀n,(bn (λj=>p j/\q j) n:Λ)+bn (λj=>p j/\¬ q j) n=bn p n
 |0=>rfl
 |n+1=>by
  let h:=oB (p:=p) (q:=q) n;change ((bn _ n+_:χ):Λ)+((bn _ n+_:χ):Λ)=((bn _ n+_:χ):Λ);by_cases hp:p n<;>by_cases a:q n<;>simp only[hp,a,and_true,true_and,and_false,false_and,not_true,not_false_iff,Z3,X0]<;>omega
def Pw(h:i≤n):bn QKJ n+2^i=2^n:=by
 induction n with
 |Xe=>obtain ζ:i=0:=(!6);rfl
 |Wu n a=>
  by_cases e:i=n+1
  .subst e;rw[AD λj b=>!2];show χ.Tq _
  .have:=a (!2);let e:bn QKJ (n+1)=bn QKJ n+2^n:=by
    change bn _ n+_=_;rw[IO (by omega:i≤n)]
   rw[e,χ.pow_succ];omega
def jz{x j:χ}:Builtin.bitAnd ((x:Λ)/2^j) 1=((x/2^j%2:χ):Λ):=by
 let e:((x:Λ)/2^j)=((x/2^j:χ):Λ):=by rw[Λ.natCast_ediv,Λ.YI];rfl
 rw[e];change ((_ &&& 1:χ):Λ)=_;rw[χ.and_one_is_mod];rfl
def vQ{x j:χ}:(Builtin.bitAnd ((x:Λ)/2^j) 1=1)↔x.VB j=π:=by
 rw[jz,χ.XY,S3];omega
def vR{x y:χ}:Builtin.bitOr (x:Λ) (y:Λ)=((x ||| y:χ):Λ):=by
 let n1:∀z:χ,decide (0≤Builtin.Y8 (z:Λ))=ν:=λz=>QJ (by unfold Builtin.Y8;lia);let a:∀z:χ,Builtin.Y8 (Builtin.Y8 (z:Λ))=(z:Λ):=λz=>by unfold Builtin.Y8;lia
 unfold Builtin.bitOr Builtin.bitAnd;rw[n1,n1];change Builtin.Y8 (Builtin.Y8 ((Builtin.Y8 (Builtin.Y8 (x:Λ))).Ru ||| (Builtin.Y8 (Builtin.Y8 (y:Λ))).Ru:χ))=_;rw[a,a,a];rfl
def p8{x y:χ}:Builtin.bitAnd (x:Λ) (y:Λ)=((x &&& y:χ):Λ):=ζ
end
end RA
namespace RA
open L2
abbrev aq QFP(i j:χ):LN:=(w.Th i).R0 (j-i)
abbrev XQ QCb QFP QBB:χ:=bn (λj=>i≤j/\A QCD) QB2
abbrev AK QCb QFP:LN:=(γ.Re QB2).Q_ (XQ A w)
section
variable{A C:LN->Prop}{w:LN}{i j m:χ}{L:LN}
def fj:aq w i i=[]:=by unfold aq;rw[XO];rfl
def yb:aq w 0 w.β=w:=by unfold aq;rw[γ.drop_zero,χ.sub_zero,Uz]
def jv(h1:i≤j)(h2:j≤m):aq w i m=aq w i j++aq w j m:=by
 unfold aq;rw[show m-i=(j-i)+(m-j) by lia,γ.take_add,γ.drop_drop,show i+(j-i)=j from Ii h1]
def Px(h:Wd L w):Wd L QCD:=λc a=>h c (γ.mem_of_mem_drop (γ.mem_of_mem_take a))
def Ht(h1:i≤j)(h2:j≤w.β):(aq w i j).β=j-i:=by
 unfold aq;rw[Sn,WP];lia
def pX(h:w[i]?<*c):aq w i (i+1)=[c]:=by
 unfold aq;rw[χ.add_sub_cancel_left,γ.take_one,γ.head?_drop,h];rfl
def pW(h1:i≤m)(h2:m≤w.β)(e:aq w i m=x++v):∃j,i≤j/\j≤m/\x=aq w i j/\v=aq w j m:=by
 let b:=Ht h1 h2;rw[e,q4]at b;refine(i+x.β,Dy,Im b h1,3);let a:=jv (w:=w) (i:=i) (j:=i+x.β) (m:=m) Dy (Im b h1);rw[e]at a;show γ.append_inj a (by rw[Ht Dy (!6)];lia)
def ya(h1:i≤j)(h2:j≤w.β):aq w.Rt (w.β-j) (w.β-i)=(aq w i j).Rt:=by
 unfold aq;rw[γ.drop_reverse,show w.β-(w.β-j)=j by lia,γ.take_reverse,Sn];rw[show min j w.β-(w.β-i-(w.β-j))=i by lia,γ.drop_take]
def ym:(XQ A w i).VB j=π↔j≤w.β/\i≤j/\A QCD:=by
 unfold XQ;rw[FW,χ.lt_succ_iff]
def wM:(XQ A w 0).VB w.β=π↔A w:=by
 rw[ym,yb];show(λh=>h.2.2,λh=>(QA _,RO _,h))
def Dt:(AK A w).β=w.β+1:=by unfold AK;rw[j',Rx]
def Hu(h:i≤w.β):QDY[i]?<*XQ A w i:=by
 unfold AK;rw[na,SY (Dx h)];rfl
def zo:XQ A w i ||| XQ C w i=XQ (Mo A C) w i:=p5.ο (rz λj _=>⟨λh=>h.SJ (λz=>(z.1,.RN z.2)) λz=>(z.1,.Rh z.2),λh=>h.2.imp (⟨h.1,·⟩) (⟨h.1,·⟩)⟩)
def wO:XQ A w i &&& XQ C w i=XQ (Mp A C) w i:=vP.ο (rz λj _=>(λh=>(h.1.1,h.1.2,h.2.2),λh=>((h.1,h.2.1),h.1,h.2.2)))
def sX:(XQ A w i:Λ)-(XQ A w i &&& XQ C w i:χ)=(XQ (oQ A C) w i:χ):=by
 let h:=oB (p:=λj=>i≤j/\A QCD) (q:=λj=>i≤j/\C QCD) QB2;rw[show XQ A w i &&& XQ C w i=_ from vP];let e:XQ (oQ A C) w i=bn (λj=>(i≤j/\A QCD)/\¬ (i≤j/\C QCD)) QB2:=rz λj _=>(λz=>((z.1,z.2.1),λy=>z.2.2 y.2),λz=>(z.1.1,z.1.2,λy=>z.2 (z.1.1,y)));rw[e];unfold XQ;lia
def wK(hw:Wd L w)(a:i≤w.β):(2:Λ)^QB2-2^i-(XQ A w i:χ)=(XQ (ul L A) w i:χ):=by
 let h:=oB (p:=λj=>i≤j) (q:=λj=>A QCD) QB2;let g:=Pw (n:=w.β+1) (i:=i) (IN a);let e:XQ (ul L A) w i=bn (λj=>i≤j/\¬ A QCD) QB2:=rz λj _=>(λz=>(z.1,z.2.2),λz=>(z.1,Px hw,z.2));rw[e];let g':((bn QKJ QB2:χ):Λ)+2^i=2^QB2:=by
  have:=Qw (χ.cast (R:=Λ)) g;rw[Λ.natCast_add,Λ.YI,Λ.YI]at this;show this
 unfold XQ;show Ji h g'
def qw(b:i≤w.β):2^i=XQ (Ds L π []) w i:=(Cg (Dx b)).ο (rz λj a=>by
 constructor
 .rintro ζ;show(QA _,.RN (fj,1))
 .rintro⟨h1,⟨h2,_⟩|⟨c,_,h,_⟩⟩
  .have:=Ht h1 (Ug a);rw[h2]at this;have:(0:χ)=j-i:=this;show Io this h1
  .exact QL h SM)
def qv:XQ (Ds L ν []) w i=0:=AD λj _=>by
 rintro⟨_,⟨_,h⟩|⟨c,_,h,_⟩⟩
 .cases h
 .exact QL h SM
def wL(hw:Wd L w)(h:w[i]?<*c):XQ (Ds L ν S) w i=if c∈S then 2^(i+1)else 0:=by
 let k:=(l' h).1;let a:∀j,j<w.β+1->((i≤j/\Ds L ν S QCD)↔j=i+1/\c∈S):=λj f=>by
  constructor
  .rintro⟨h1,⟨_,z⟩|⟨d,_,g,e⟩⟩
   .cases z
   .let l:=Ht h1 (Ug f);rw[e]at l;let l:1=j-i:=l;obtain ζ:j=i+1:=by lia
    rw[pX h]at e;cases e;show(1,g)
  .rintro⟨rfl,b⟩;show(Ge,.Rh (c,hw c (Ab h),b,pX h))
 split
 .rename_i b;show(rz a).ο ((rz λj _=>(λz=>z.1,λz=>(z,b))).ο (Cg (Iz k)).QI)
 .rename_i b;show AD λj f z=>b ((a j f).mp z).2
def wN:XQ (Ds L ν S) w w.β=0:=AD λj a=>by
 rintro⟨h1,⟨_,z⟩|⟨c,_,h,e⟩⟩
 .cases z
 .let l:=Ht h1 (Ug a);rw[e]at l;let l:1=j-w.β:=l;lia
def Hv{x j:χ}(e:z=(j:Λ)):(V.QG QIQ=V.QG 1)↔x.VB j=π:=by
 rw[e,Tn,<-vQ];show(V.QG.Tp,Qw _)
def p7{x y j:χ}(e:z=(j:Λ)):(V.QG QIQ=V.QG (Builtin.bitAnd ((y:Λ)/2^z.Ru) 1))↔(x.VB j=π↔y.VB j=π):=by
 rw[e,Tn,jz,jz,χ.XY,χ.XY,S3,S3];show(λh=>by have:=V.QG.Tp h;omega,λh=>Qw V.QG (!6))
def Py:aq w 0 j=w.R0 j:=ζ
def nV{x y:χ}:V.QG (Builtin.bitOr (x:Λ) (y:Λ))=V.QG ((x ||| y:χ):Λ):=Qw V.QG vR
def GG(e:z=(i:Λ))(h:i≤w.β):An QKy z<*.QG (XQ A w i:χ):=by
 rw[e];refine AS ?_;unfold b_;rw[na,Hu h];rfl
abbrev qq QFK QFP(i k:χ):χ:=bn (λm=>∃j,i≤j/\j<k/\j≤m/\A QCD/\C (aq w j m)) QB2
def Pz:qq A C w i i=0:=AD λm _⟨j,h1,h2,_⟩=>by lia
def sN(g:i≤j)(l:j≤w.β):qq A C w i (j+1)=if (XQ A w i).VB j=π then qq A C w i j ||| XQ C w j else qq A C w i j:=by
 split
 .rename_i h;rw[ym]at h;refine(rz λm _=>?_).ο p5.QI;constructor
  .rintro⟨k,h1,h2,a,c,b⟩;by_cases e:k=j
   .subst e;show .Rh (a,b)
   .exact .RN (k,h1,Fn h2 e,a,c,b)
  .rintro (⟨k,h1,h2,a⟩|⟨h1,h2⟩)
   .exact QIR
   .exact (j,g,R8 _,h1,h.2.2,h2)
 .rename_i h;rw[ym]at h;refine rz λm _=>(λd=>by let⟨k,h1,h2,a,c,b⟩:=d;show(k,h1,χ.Wk (GL h2) λe=>h (l,g,e▸c),a,c,b),λf=>by let⟨k,h1,h2,a⟩:=f;show QIR)
def wF(k:i≤w.β):qq A C w i QB2=XQ (vN A C) w i:=rz λm g=>by
 constructor
 .rintro⟨j,h1,h2,c,b,a⟩;show(!6,8,jv h1 c,b,a)
 .rintro⟨h,x,v,e,h1,h2⟩;let⟨j,f,d,ζ,ζ⟩:=pW h (GL g) e;show(j,f,IJ g d,d,h1,h2)
def mJ:au A u↔u=[]\/∃x v,u=x++v/\x≠[]/\A x/\au A v:=by
 constructor
 .intro h;induction h with
  |S5=>show .RN ζ
  |@Xi x v h1 h2 a=>
   by_cases e:v=[]
   .subst e;rwa [Tx]
   rcases a with ζ|⟨y,z,ζ,d,c,b⟩
   .exact .Rh (v,[],!1,e,h2,.S5)
   .exact .Rh (y,z++v,SK _ _ _,d,c,b.Xi h2)
 .rintro (rfl|⟨x,v,ζ,_,h1,h2⟩)
  .exact .S5
  .exact (au.UX h1).app h2
abbrev ci QCb QFP(i k:χ):χ:=bn (λm=>m=i\/∃j,i<j/\j<k/\j≤m/\A QCD/\au A (aq w j m)) QB2
def PB(a:i≤w.β):ci A w i (i+1)=2^i:=((Cg (Dx a)).ο (rz λm _=>(.RN,λh=>h.SJ id λ⟨j,h1,h2,_⟩=>!6))).QI
def vY(g:i<j)(l:j≤w.β):ci A w i (j+1)=if (XQ A w i).VB j=π then ci A w i j ||| XQ QKH w j else ci A w i j:=by
 split
 .rename_i h;rw[ym]at h;refine(rz λm _=>?_).ο p5.QI;constructor
  .rintro (h|⟨k,h1,h2,a,c,b⟩)
   .exact .RN (.RN h)
   by_cases e:k=j
   .subst e;show .Rh (a,b)
   .exact .RN (.Rh (k,h1,Fn h2 e,a,c,b))
  .rintro ((h|⟨k,h1,h2,a⟩)|⟨h1,h2⟩)
   .exact .RN h
   .exact .Rh QIR
   .exact .Rh (j,g,R8 _,h1,h.2.2,h2)
 .rename_i h;rw[ym]at h;show rz λm _=>(λz=>z.imp_right λf=>by let⟨k,h1,h2,a,c,b⟩:=f;show(k,h1,χ.Wk (GL h2) λe=>h (l,Eh g,e▸c),a,c,b),λz=>z.imp_right λd=>by let⟨k,h1,h2,a⟩:=d;show QIR)
def yn(l:i≤w.β):ci A w i QB2=XQ QKH w i:=rz λm b=>by
 rw[mJ];constructor
 .rintro (rfl|⟨j,h1,h2,f,d,c⟩)
  .exact (QA _,.RN fj)
  .refine (!6,.Rh (8,jv (Eh h1) f,λz=>?_,d,c));have:=Ht (w:=w) (i:=i) (j:=j) (Eh h1) (GL h2);rw[z]at this;have:0=j-i:=this;lia
 .rintro⟨h,a|⟨x,v,e,a,h1,h2⟩⟩
  .have:=Ht h (Ug b);rw[a]at this;have:0=m-i:=this;show .RN (Io this h)
  .obtain ⟨j,k,g,ζ,ζ⟩:=pW h (GL b) e;refine .Rh (j,χ.Wk k λz=>a (by rw[<-z,fj]),IJ b g,g,h1,h2)
open Classical in
abbrev agF QCb QFP(i m x:χ):χ:=if x=i then ci A w i m else if i<x then XQ QKH w x else 2^x
abbrev EU QCb QFP(i m:χ):LN:=(γ.Re QB2).Q_ (agF A w i m)
abbrev Hw QCb QFP QK4:LN:=(γ.Re QB2).Q_ λx=>if k≤x then XQ QKH w x else 2^x
def J9{f g:χ->χ}(h:∀x,x<N->f x=g x):(γ.Re N).Q_ f=(γ.Re N).Q_ g:=γ.map_congr_left λx a=>h x (Rr.mp a)
def wY{N v:χ}(h:∀x,x<N->g x=if x=i then v else f x):(b_ ((γ.Re N).Q_ f)).Uw i (.QG (v:Λ))=b_ ((γ.Re N).Q_ g):=by
 refine Vt λx=>?_;rw[γ.getElem?_set];unfold b_;rw[j',j',Rx];by_cases a:x<N
 .rw [na,na,na,na,SY a];change _<*V.QG ((g x:χ):Λ);rw[h x a];by_cases e:x=i
  .subst e;rw[IO ζ,IO a,IO ζ]
  .rw [Cl (Ne.QI e),Cl e];rfl
 .let z:∀f:χ->χ,(((γ.Re N).Q_ f).Q_ λ(n:χ)=>V.QG (n:Λ))[x]?=ε:=λf=>T8 (by rw[j',j',Rx];show Ck a);rw[z,z];split
  .rename_i e;rw[Cl (!6)]
  .rfl
def FX:Hw A w QB2=(γ.Re QB2).Q_ λx=>2^x:=J9 λx a=>Cl (!6)
def PD:Hw A w 0=AK QKH w:=J9 λx _=>IO QDt
def PF(a:i≤w.β):Hw A w (i+1)=EU A w i (i+1):=J9 λx _=>by
 unfold agF;by_cases e:x=i
 .rw [Cl (!6),IO e,PB a,e]
 .rw [Cl e];rfl
def yr(a:i≤w.β):EU A w i QB2=Hw A w i:=J9 λx _=>by
 unfold agF;by_cases e:x=i
 .rw [IO e,yn a,IO (!6),e]
 .rw [Cl e];by_cases h:i<x
  .rw [IO h,IO (Eh h)]
  .rw [Cl h,Cl (!6)]
def yq:(EU A w i m).β=w.β+1:=by unfold EU;rw[j',Rx]
def v9{x:χ}(e:z=(x:Λ))(h:x≤w.β):An (b_ (EU A w i m)) z<*.QG (agF A w i m x:χ):=by
 rw[e];refine AS ?_;unfold b_ EU;rw[na,na,SY (Dx h)];rfl
def PH:agF A w i m i=ci A w i m:=IO ζ
def PJ(h:i<m):agF A w i j m=XQ QKH w m:=by unfold agF;rw[Cl (!6),IO h]
def yo(h:ci A w i (m+1)=ci A w i m ||| XQ QKH w m):(b_ (EU A w i m)).Uw i (.QG ((ci A w i m ||| XQ QKH w m:χ):Λ))=b_ (EU A w i (m+1)):=wY λx _=>by
 unfold agF;by_cases e:x=i
 .rw [IO e,IO e,h]
 .rw [Cl e,Cl e,Cl e]
def v8(h:ci A w i (m+1)=ci A w i m):EU A w i m=EU A w i (m+1):=J9 λx _=>by unfold agF;rw[h]
abbrev qp QCb QFP(i k:χ):χ:=bn (λj=>i≤j/\j<k/\m3 A QCD) QB2
def PL:qp A w i i=0:=AD λm _⟨h1,h2,_⟩=>by lia
def sL(d:i≤j)(f:j≤w.β):qp A w i (j+1)=if (XQ A w.Rt (w.β-j)).VB (w.β-i)=π then qp A w i j ||| 2^j else qp A w i j:=by
 let e:(XQ A w.Rt (w.β-j)).VB (w.β-i)=π↔m3 A QCD:=by
  rw[ym,ya d f,Sh];show(λh=>h.2.2,λh=>(K7,!2,h))
 split
 .rename_i h;rw[Cg (show j<w.β+1 from Dx f)];refine(rz λm _=>?_).ο p5.QI;constructor
  .rintro⟨h1,h2,a⟩;by_cases z:m=j
   .exact .Rh z
   .exact .RN (h1,Fn h2 z,a)
  .rintro (⟨h1,h2,a⟩|rfl)
   .exact (h1,GK h2,a)
   .exact (d,R8 _,e.mp h)
 .rename_i h;show rz λm _=>(λb=>by let⟨h1,h2,a⟩:=b;show(h1,χ.Wk (GL h2) λz=>h (e.Sz (z▸a)),a),λc=>by let⟨h1,h2,a⟩:=c;show(h1,GK h2,a))
def wE:qp A w i QB2=XQ (m3 A) w i:=rz λm a=>(λh=>(h.1,h.2.2),λh=>(h.1,a,h.2))
end
abbrev oF QCb QFP QAH QAR:Prop:=∀(p:θ)QBW,a' H H'->H' p<*.QV QKy->Q QAp H'
def bY{A C G:LN->Prop}{k:St}(s:∀R:γ V->Hp->Prop,R [.ξ c,.ξ d] H->t k H R)(y:H c<*.QV QKy)(v:H d<*.QV (b_ (AK C w)))(B:w.β≤2000)(u:∀QBB(g:Hp)(j:VK),i≤w.β->j (.QG (XQ G w i:χ)) g->o (δ (.QG (XQ A w i:χ))::δ (.QG (XQ C w i:χ))::k) g j)(p:a' H0 H)(q:oF G w H0 Q):iz K (pH t) o k H Q:=by
 let n:∀{A:LN->Prop}QEH{x:V},QKy[i]?<*x->i≤w.β/\x=.QG (XQ A w i:χ):=λ{A i x}e=>by
  let h:=(l' e).1;rw[c_,Dt]at h;unfold b_ at e;rw[na,Hu (Ug h)]at e;show(Ug h,(ψ.δ.Tp e).QI)
 refine NS (d1:=.ls c) (d2:=.ls d) s y v (by rw[c_,c_,Dt,Dt]) (λD i ys H'=>ys=(b_ (AK G w)).R0 i) (by rw[c_,Dt];show n0 (!6)) (λD l=>!1) ?_ ?_
 .rintro D i x z ys H' g j l r hz f a ζ b k1;let⟨m,ζ⟩:=n r;let⟨_,ζ⟩:=n hz;refine u i g j m (k1 _ g (b _ _ a) (a'.Uw (f.ο b) l) (BI ?_).QI);unfold b_;rw[na,Hu m];rfl
 .rintro D ys H' l f a ζ;rw[c_,Dt,RT (by rw[c_,Dt];show QA _)]at a;show q D H' (p.ο f) a
end RA
namespace L2
def pE QJL[Decidable c](a:¬ c)(h:A):if (!decide c)=π then A else B:=by
 rw[QJ a];show h
def sd QBQ QGB:C7 X (.RJ "len") (λxs H Q=>∃p ys,xs=[.ξ p]/\(k9 K H p ys\/q5 K H p ys)/\Q (.QG ys.β) H):=by
 subst a;show G'
end L2
namespace L2
open PySem.Spec PyProof.Rows
abbrev J_:Ψ->γ V->HO
 |π,xs=>.Rn xs
 |ν,xs=>.QV xs
abbrev KY:Ψ->θ->Sd
 |π,a=>.tp a
 |ν,a=>.ls a
def yB QHA:∀{b:Ψ},(KY b a).vl=.ξ a
 |π=>rfl
 |ν=>rfl
def sW QHV QHA QBy:∀{b:Ψ},H a<*J_ b xs->(KY b a).Vh H xs
 |π,h=>h
 |ν,h=>h
def DO.o QHV QHA QBy:∀{b:Ψ},H a<*J_ b xs->DO H a xs
 |π,h=>.RN h
 |ν,h=>.Rh h
end L2
namespace RA
open L2
abbrev b9(tu:Ψ)QAH QEk QC9:Prop:=Td.β=W.β/\∀QBB(r:θ)(ws:LN),Td[i]?<*r->W[i]?<*ws->H r<*J_ tu QHv
def b9.SO(h:b9 b H a W)QBs:b9 b H' a W:=(h.1,λi r ws d c=>s _ _ (h.2 i r ws d c))
def b9.Yc(h:b9 d H b W)(c:r<W.β):∃a,b[r]?=δ a/\H a<*J_ d (b_ (W.LT r [])):=by
 let h1:b[r]?<*(b[r]'(by rw[h.1];show c)):=j_ _;refine(_,h1,h.2 r _ _ h1 ?_);rw[nt,j_ c];rfl
def Do.u(h:Do H a W):b9 ν H a W:=h
def Ew.u(h:Ew H c W)(d:c.β=W.β):b9 π H c W:=(d,λi r ws f e=>by
 let⟨v,a,b⟩:=h i r f;rw[e]at a;cases a;show b)
end RA
section
seal L2.PE L2.PS L2.Bd L2.PA L2.PI L2.PG L2.PT L2.FE L2.Kj L2.PW L2.PX
namespace K72
open L2 RA
abbrev Um QBB:Rb:=Ξ.Challenge.pw_roomalgebra_k72_whole_two_patterns.main.body.LT i QBV
instance Q0:QF:="machine"
instance Q3:QF:="letters"
instance Q4:QF:="rooms"
instance Q5:QF:="things"
instance Q6:QF:="words"
instance Q7:QF:="is_marked"
instance Q8:QF:="walk"
instance Z0:QF:="goals_of"
instance Z1:QF:="ways"
instance Z2:QF:="marks"
instance Z4:QF:="room"
instance A0:Rb:=Um 24
instance EV:Rb:=Um 25
instance wu:Rb:=Um 0
instance zu:Rb:=Um 23
instance Ib:Rb:=B5 zu 0
structure GH QBQ QAs(cW fI:θ)(fdI:TY):Prop where
 kW:mg "Walk"<*.ξ cW
 SS:BZ K cW
 mkW:Mk K cW fI
 na1:wx K cW Q3
 na2:wx K cW Q5
 na3:wx K cW Q6
 na4:wx K cW Z1
 na5:wx K cW Z2
 ini:pd K "__init__" "Walk.__init__" Ib fI fdI
def tQ:p_ ["self",Q3,"start"] ["self",Q3,"start"] (hI Ib):=r_
def uu(p:GH K mg l fI fdI):aa P w K mg υ lb 1 fI fdI ["self",Q3,"start"] (sY l):=by
 refine p.ini.ok tQ QAE (λVA A KK s H vs Q E Z h=>?_)
 .obtain ⟨x,dx,L,v,ζ,_⟩:=h;rfl
 .obtain ⟨x,dx,L,v,ζ,T,q⟩:=h;refine(_,(h_ (En (f:=Q3) QAF QAJ ζ) (h_ (En (f:=Q5) QAF (Bi QFi) ζ) (h_ (En (f:=Q6) QAF (Bi (l_ ms)) ζ) (h_ (En (f:=Z1) QAF QFu ζ) (hY (En (f:=Z2) QAF QFu ζ)))))),3);refine(4,x,l,dx,0,T,p.SS,p.na1,!0,3);refine(0,n0 (by change 1≤16777216;decide),λt D=>(0,x,l,dx,0,vr hJ D,p.SS,p.na2,SA (Vc (show _=1 from ζ)) (!0),3));let c:t≠x:=λz=>by rw[z,hJ]at D;cases D
  refine(n0 (by change 1≤16777216;decide),λi d=>(0,x,l,dx,0,vr hJ d,p.SS,p.na3,SA (Vc (show _=2 from ζ)) (!0),3));let u:i≠x:=λz=>by rw[z,hJ]at d;cases d
  refine(RO _,λy r=>(0,x,l,dx,0,vr hJ r,p.SS,p.na4,SA (Vc (show _=3 from ζ)) (!0),3));let B:y≠x:=λz=>by rw[z,hJ]at r;cases r
  refine(RO _,λm k=>(0,x,l,dx,0,vr hJ k,p.SS,p.na5,SA (Vc (show _=4 from ζ)) (!0),3));let C:m≠x:=λz=>by rw[z,hJ]at k;cases k
  let j:t≠i:=λz=>by rw[<-z,a_ c,hJ]at d;cases d
  let ty:t≠y:=λz=>by rw[<-z,a_ c,a_ j,a_ c,hJ]at r;cases r
  let M:t≠m:=λz=>by rw[<-z,a_ c,a_ ty,a_ c,a_ j,a_ c,hJ]at k;cases k
  let F:i≠y:=λz=>by rw[<-z,a_ u,hJ]at r;cases r
  let J:i≠m:=λz=>by rw[<-z,a_ u,a_ F,a_ u,hJ]at k;cases k
  let I:y≠m:=λz=>by rw[<-z,a_ B,hJ]at k;cases k
  let N:∀b,b≠x->b≠m->b≠y->b≠i->b≠t->H b=QO (QO (QO (QO (QO (QO (QO (QO (QO H x (.XE l dx (ah Q3 QAb []))) t (.QV [v])) x (.XE l dx (ah Q5 QB0 (ah Q3 QAb [])))) i (.QV [.QZ (tx [])])) x (.XE l dx QCp)) y QCF) x (.XE l dx (ah Z1 (.ξ y) QCp))) m QCF) x (.XE l dx (ah Z2 (.ξ m) (ah Z1 (.ξ y) QCp)))  b:=λb h1 h2 Y X W=>by
   rw[a_ h1,a_ h2,a_ h1,a_ Y,a_ h1,a_ X,a_ h1,a_ W,a_ h1]
  let g:∀QBA QH',H b<*o->∀QHA,H a=ε->b≠a:=λ{b o}e{a}n=>f_ e n;let S:H t=ε:=by rw[a_ c]at D;show D
  let R:H i=ε:=by rw[a_ u,a_ (Ne.QI j),a_ u]at d;show d
  let O:H y=ε:=by rw[a_ B,a_ (Ne.QI F),a_ B,a_ (Ne.QI ty),a_ B]at r;show r
  let fm:H m=ε:=by rw[a_ C,a_ (Ne.QI I),a_ C,a_ (Ne.QI J),a_ C,a_ (Ne.QI M),a_ C]at k;show k
  refine q t i y m _ j ty M F J I S R O fm (λb o U e=>?_) ⟨(dx,hJ)⟩ ?_ ?_ ?_ ?_
  .rw [<-e];show(N b U (g e fm) (g e O) (g e R) (g e S)).QI
  .rw [a_ c,a_ M,a_ c,a_ ty,a_ c,a_ j,a_ c,hJ]
  .rw [a_ u,a_ J,a_ u,a_ F,a_ u,hJ,<-fh]
  .rw [a_ B,a_ I,a_ B,hJ]
  .rw [a_ C,hJ]
def c_c:p_ [Q3,"start",Z0,Q7,"most",Q8,Q4,Z4,"goals","row","letter","goal"] [Q3,"start",Z0,Q7,"most"] QJl:=r_
def J'{P:Id}QF3 QC7 QFI{υ:RC}{X fI f fg fm:θ}(F:mh K "walked" "walked" A0 f fd)(N:GH K mg X fI fdI)(ap:mg "len"=ε)(cB:mg "zip"=ε)(Fg:aa P w K mg υ lb 4 fg fdg [gx] (HP Y L g U aH))(Fm:aa P w K mg υ lb 4 fm ek [mx] (bG Y mk U aH))(dp:υ.Δ fg<*og)(dn:∃b2,og.RH=.VL b2)(dm:υ.Δ fm<*om)(dk:∃b2,om.RH=.VL b2)(bg:yx K fdg [gx] [])(bm:yx K ek [mx] [])(bk:∀H H':Hp,a' H H'->aH H->aH H'):aa P w K mg υ lb 5 f fd [Q3,"start",Z0,Q7,"most"] (HQ X Y L g mk U aH fg fm):=by
 let⟨oc,od,ez,sl⟩:=og;let⟨b2,ζ⟩:=dn;let⟨eu,et,ep,es⟩:=om;let⟨eo,ζ⟩:=dk;refine F.ok c_c QAE QBg
 .obtain ⟨s,sv,I,ζ,_⟩:=h;rfl
 .obtain ⟨s0,sv,I,ζ,hL,hsv,hsU,d6,hU,hR0,q⟩:=h;let dz:=hr.Tj (j:=2) (!0);refine(_,(h_ (nq 5 c_c.nd (FA N.mkW (uu N) dz ζ N.kW (N.ini.binds (ps:=["self",Q3,"start"]) (λ_ _ _ _ _ _ us hl=>by let⟨_,_,_,ζ⟩:=Mh hl;rfl)) .S5 Cs QCG)) (D7 (nq 6 c_c.nd (xh hr.S_ QAJ b')) (h_ (dD Se.Tc (AF Be QGQ QFA QCA) (D7 (q_ ((Gm (AF Bq QBd El QCA) (HD (AF Bg QFA QBd QCA))).pt) (hY (km)) (so)) (h_ (nq 7 c_c.nd QGQ) (h_ (nq 8 c_c.nd (JC Fg hr dp bg QAT (l_ (As QCh QEn)))) (h_ (nq 9 c_c.nd QFu) (h_ (BD Se.Tc ζ (Hg ζ cB (oI QAF (pv 8))) (dF ζ (EZ (Bp 10 c_c.nd) (EZ (Bp 11 c_c.nd) Jn))) (D7 (q_ (AF (qP hr.S_) (pv 11) QEo QAS) (h_ (CP QFA (CO QEo (pv 11) (qz hr.S_))) (h_ (AH (Cb QCh (pv 11))) (hY (AH (Cb (Ac (f:=Q6) QB4 ζ) (o_ C9 (As (Ac (f:=Q6) QB4 ζ) QEn) (pv 10))))))) (so)) (hY (AH (Cb (pv 9) (Af (uV hr.S_) QEo (pv 11) QAQ)))))) (h_ (AH (Cb (Ac (f:=Z1) QB4 ζ) (pv 9))) (hY (AH (Cb (Ac (f:=Z2) QB4 ζ) (JC Fm hr dm bm QAi (l_ (As QCh QEn))))))))))))) (hY (mq QB4))))),3);let tn:∀QBA QH',H b<*o->∀{c:θ},H c=ε->b≠c:=λ{b o}e{c}n=>f_ e n;refine(4,λD dx ch c5 ey=>(D,dx,L,sv,1,hJ,λt wd y md H1 a1 a2 a3 a4 a5 a6 ft fw fy ej kp hW ht cK hy cV=>(1,3)));let fr:∀QBA,QO (QO H dx (.own D)) D (.XE X dx []) b=ε->H b=ε:=λ{b}e=>by
   by_cases h1:b=D
   .rw [h1];show ch
   .rw [a_ h1]at e;by_cases h2:b=dx
    .rw [h2];show c5
    .rw [a_ h2]at e;show e
  let s1:a' H H1:=λb o e=>kp b o (tn e ch) (by rw[a_ (tn e ch),a_ (tn e c5)];show e);let ab:z8 Y H1 s0 sv:=hsv.SO λb xs e=>s1 _ _ e;let aA:∀(d:θ)(H2:Hp),H1 d=ε->y_ P w H2 d Y [s0]->(∀b o,H1 b<*o->H2 b<*o)->WI P w H H2 X Y L D t wd y md d [s0] [sv] [[]] [] [] []:=λd H2 hd dv s2=>by
   let ne:∀QBA QH',H1 b<*o->d≠b:=λ{b o}e z=>by rw[<-z,hd]at e;cases e
   let⟨J,ew⟩:=hW.ex;show(s1.ο s2,(J,s2 _ _ ew),s2 _ _ ht,(rfl,λi k v h1 h2=>by
    match i,h1,h2 with
    |0,h1,h2=>cases h1;cases h2;show ab.SO λb xs e=>s2 _ _ e
    | i+1,h1,_=>simp at h1),s2 _ _ cK,s2 _ _ hy,(1,λi a r h1=>by simp at h1),s2 _ _ cV,dv,fr ft,fr fw,fr fy,fr ej,Hd s1 hd,a1,a2,a3,a4,a5,a6,ne ht,ne cK,ne hy,ne cV,ne ew,λa ha=>by simp at ha)
  refine⟨λbM H'=>∃d,bM=[δ QAb,δ sv,δ (.ξ fg),δ (.ξ fm),δ (dY I),δ QBI,δ QDM,ε,ε,ε,ε,ε]/\WI P w H H' X Y L D t wd y md d [s0] [sv] [[]] [] [] [],?_,?_⟩
  .refine (Y,λd hd=>(0,hJ,3));let up:∀{ob cC:HO}(b:θ)(o:HO),H1 b<*o->QO (QO H1 d ob) d cC b<*o:=λ{ob cC}b o e=>by
    rw[G7];show vr e hd
   by_cases bV:Y=.i
   .rw [bV]at ab aA⊢;unfold z8 at ab;rw[IO ζ]at ab;let⟨n,ζ,ζ⟩:=ab;refine .RN (1,0,d,1,aA d _ hd ?_ up);unfold y_;rw[IO ζ];show(hJ,λt ht=>(n,yl ht))
   .let hsv2:=ab;unfold z8 at hsv2;rw[Cl bV]at hsv2;let⟨b,ζ,hb⟩:=hsv2;let hT:∀{ob:HO},(dK P w Y).ZL (QO H1 d ob) (zs s0) b:=λ{ob}=>(hb.SO λb xs e=>vr e hd).ZL;refine .Rh (bV,b,zs s0,1,hT,d,1,aA d _ hd ?_ up);unfold y_;rw[Cl bV];refine(_,hJ,λx hx=>?_,1,λi k x h1 h2=>?_)
    .rw [yl hx,G7];show hT
    .match i,h1,h2 with
     |0,h1,h2=>cases h1;cases h2;show(1,1)
     |i+1,h1,_=>simp at h1
  rintro er H2⟨d,ζ,ee⟩;let da:∀QIG{ks:LL}{T:γ V}{ws:LL}{C:γ θ}{R:LL}QHu,WI P w H H' X Y L D t wd y md d ks T ws C R B->Cy g L s0 mk U ks ws R B 0->(R.β=ks.β\/∃n,I=δ n/\n<ks.β)->Q QBI H':=λO hP he=>
   q D t wd y md _ _ _ _ _ _ _ O.sm O.Yd O.ht O.th O.hw O.hy O.wr O.hm hP.bf hP.ways hP.bl hP.mks hP.Vk (QB QHT hP.left) he
  refine⟨λn bM H'=>∃ks T ws C R B s7 s8 s9 aN aM,n=U.β-γ.β R/\bM=[δ QAb,δ sv,δ (.ξ fg),δ (.ξ fm),δ (dY I),δ QBI,δ QDM,s7,s8,s9,aN,aM]/\WI P w H H' X Y L D t wd y md d ks T ws C R B/\Cy g L s0 mk U ks ws R B 0,(_,[s0],[sv],[[]],[],[],[],ε,ε,ε,ε,ε,5,ee,Cy.WJ hsU),?_⟩;rintro n bM H3⟨ks,T,ws,C,R,B,s7,s8,s9,aN,aM,ζ,ζ,O,hP⟩;let⟨J,ew⟩:=O.Yd.ex;let cp:(C.Q_ V.ξ).β=R.β:=by rw[j',O.wr.1]
  let bU:T.β=ks.β:=O.th.1;let en:ks.β≤U.β:=QB QHT hP.left;refine(0,D,X,J,9,ew,N.SS,N.na4,1,y,0,.RN (k9.of O.hy),0,D,X,J,9,ew,N.SS,N.na2,1,t,0,.RN (k9.of O.ht),2,0,ay (λag=>?_) (λag=>?_));case _=>
   rw[cp,bU]at ag;let ag:R.β<ks.β:=Λ.ofNat_lt.mp ag;refine⟨λaT H4=>∃ks T ws C R' B s7 s8 s9 aN aM,R'.β=R.β+1/\aT=[δ QAb,δ sv,δ (.ξ fg),δ (.ξ fm),δ (dY I),δ QBI,δ QDM,s7,s8,s9,aN,aM]/\WI P w H H4 X Y L D t wd y md d ks T ws C R' B/\Cy g L s0 mk U ks ws R' B 0,?_,?_⟩
   .rintro aT H4⟨m,l,Z9,cg,R',B',u7,u8,u9,u10,u11,hR',dr,hI',hP'⟩;show(U.β-R'.β,by rw[hR'];lia,m,l,Z9,cg,R',B',u7,u8,u9,u10,u11,1,dr,hI',hP')
   obtain⟨k0,ct⟩:∃k0,ks[R.β]?<*k0:=(ks[R.β],j_ ag);obtain⟨v0,cN⟩:∃v0,T[R.β]?<*v0:=(T[R.β]'(by rw[bU];show ag),j_ _);obtain⟨a0,ed⟩:∃a0,ws[R.β]?<*a0:=(ws[R.β]'(by rw[<-hP.bf.TL];show ag),j_ _);let a9:k0∈U:=hP.Vk k0 (Ab ct);refine(λaT H4=>aT=[δ QAb,δ sv,δ (.ξ fg),δ (.ξ fm),δ (dY I),δ QBI,δ QDM,s7,s8,s9,aN,aM]/\H4=H3,3,3)
   .cases I with
    |ε=>show(6,Et ζ (aE (1,1)))
    |δ M=>
     refine(6,OV (0,D,X,J,9,ew,N.SS,N.na2,1,t,0,.RN (k9.of O.ht),0,2,0,3));rw[bU];show ay (λd0=>(0,da O hP (.Rh (M,1,Λ.ofNat_lt.mp d0)))) (λ_=>(1,1))
   rintro aT H4⟨rfl,ζ⟩;refine(0,D,X,J,9,ew,N.SS,N.na4,1,y,0,.RN (k9.of O.hy),3);rw[cp];let eb:An T ((R.β:χ):Λ)<*v0:=AS cN;refine(1,0,D,X,J,9,ew,N.SS,N.na2,1,0,Ak O.ht eb (k0,v0,1,O.th.2 _ _ _ ct cN,a9,bk _ _ O.sm hR0,λgs xs H5 s5 c4 cI ds=>?_));let az:=O.U6 s5;let bi:H5 gs<*.Rn xs\/H5 gs<*.QV xs:=c4.imp id λz=>z.2;let bs:∀QBA QH',H4 b<*o->(∀zs,o≠.Rn zs)->gs≠b:=λ{b o}e ho z=>by
    rcases c4 with h1|⟨h1,_⟩
    .rw [z,s5 _ _ e]at h1;cases h1;show ho _ ζ
    .rw [z,e]at h1;cases h1
   obtain⟨eq,cH⟩:∃φ,H4 d<*.ext φ:=by
    let W:=O.rm;unfold y_ at W;by_cases c:Y=.i
    .rw [IO c]at W;show(_,W.1)
    .rw [Cl c]at W;let⟨RW,e,_⟩:=W;show(_,e)
   let g1:gs≠t:=bs O.ht (by intro zs z;cases z);let g2:gs≠wd:=bs O.hw (by intro zs z;cases z);let g3:gs≠y:=bs O.hy (by intro zs z;cases z);let g4:gs≠md:=bs O.hm (by intro zs z;cases z);let g5:gs≠d:=bs cH (by intro zs z;cases z);refine(RO _,λrw S=>?_);let r1:rw≠t:=Ne.QI (f_ az.ht S);let r2:rw≠wd:=Ne.QI (f_ az.hw S);let r3:rw≠y:=Ne.QI (f_ az.hy S);let r4:rw≠md:=Ne.QI (f_ az.hm S);let r5:rw≠d:=Ne.QI (f_ (s5 _ _ cH) S);let r6:rw∉C:=λhm=>by
    let⟨i,hi⟩:=Rl.mp hm;let dV:i<R.β:=by rw[<-az.wr.1];show(l' hi).1
    rw[az.wr.2 i rw _ hi (j_ dV)]at S;cases S
   let rg:gs≠rw:=λz=>by
    rw[<-z]at S;rcases bi with h1|h1<;>rw[S]at h1<;>cases h1
   let r0:H rw=ε:=Hd az.sm S;let ei:=az.U6 (a'.QO (o:=.QV []) S);let c3:QO H5 rw QCF gs<*.Rn xs\/QO H5 rw QCF gs<*.QV xs:=by rw[a_ rg];show bi
   refine(4,ww c3 λd2 d5 tk=>?_);let a7:((tx L).Vu.Qx.Q_ λc=>V.QZ ⟨#[c]⟩).β=xs.β:=by rw[j',Ci,cI]
   refine lg (xs:=(tx L).Vu.Qx.Q_ λc=>V.QZ ⟨#[c]⟩) (ys:=xs) a7 (λq bD H6=>E6 λm l Z9 r bS bP=>A9 (bD=[δ QAb,δ sv,δ (.ξ fg),δ (.ξ fm),δ (dY I),δ QBI,δ QDM,δ (.QG ((R.β:χ):Λ)),δ (.ξ gs),δ (.ξ rw),bS,bP]) (WI P w H H6 X Y L D t wd y md d m l Z9 C R B) (Cy g L s0 mk U m Z9 R B q) (Eb g m R.β r q) (H6 rw<*.QV (b_ r)) (H6 gs=H5 gs) (∀QHW(x:V),xs[j]?<*x->z8 Y H6 (g k0 j) x) (m[R.β]?<*k0) (Z9[R.β]?<*a0)) ?_ ?_ ?_ ?_
   .exact (ks,T,ws,[],aN,aM,1,ei,hP,Eb.S5,hJ,a_ rg,λj x hx=>(ds j x hx).SO λb zs e=>vr e S,ct,ed)
   .rintro q bD H6⟨m,l,Z9,r,bS,bP,ζ,hI',hP',aS,hrw',hgk,b0,hk',as⟩;show(1,d5 H6 (by rw[hgk,a_ rg]))
   .rintro q cx gx' p bD H6 hc hg hp⟨m,l,Z9,r,bS,bP,ζ,hI',hP',aS,hrw',hgk,b0,hk',as⟩;rw[Ci,na]at hc;cases hcq:L[q]? with
    |ε=>rw[hcq]at hc;cases hc
    |δ c=>
    rw[hcq]at hc;cases hc;let b1:q<L.β:=(l' hcq).1;let ea:L.LT q 0=c:=by rw[nt,hcq];rfl
    let d3:g k0 q∈U:=d6 k0 a9 q b1;let u:=hI'.U6 (a'.QO (o:=.Rn [.QZ ⟨#[c]⟩,gx']) hp);let cO:z8 Y H6 (g k0 q) gx':=b0 q gx' hg;let aB:z8 Y (QO H6 p QFM) (g k0 q) gx':=cO.SO λb zs e=>vr e hp;let co:QO H6 p QFM rw<*.QV (b_ r):=vr hrw' hp;let bd:QO H6 p QFM gs=H5 gs:=by
     have:gs≠p:=λz=>by
      rw[<-z,hgk]at hp;rcases bi with h1|h1<;>rw[hp]at h1<;>cases h1
     rw[a_ this];show hgk
    let a8:∀(j:χ)(x:V),xs[j]?<*x->z8 Y (QO H6 p (.Rn [.QZ ⟨#[c]⟩,gx'])) (g k0 j) x:=λj x hx=>(b0 j x hx).SO λb zs e=>vr e hp;let cU:QO H6 p (.Rn [.QZ ⟨#[c]⟩,gx']) p<*.Rn [.QZ ⟨#[c]⟩,gx']:=hJ;generalize QO H6 p (.Rn [.QZ ⟨#[c]⟩,gx'])=H7 at u aB co bd a8 cU;let cs:m.β≤U.β:=QB (χ.le_add_left _ _) hP'.left;let an:m.β≤100000:=QB cs hU;let b3:l.β=m.β:=u.th.1;refine(p,0,q5.of cU,1,9,2,3);refine⟨λcA H8=>∃ar aV aU,cA=[δ (.QZ (tx L)),δ sv,δ (.ξ fg),δ (.ξ fm),δ (dY I),δ (.ξ D),δ (.ξ d),δ (.QG ((R.β:χ):Λ)),δ (.ξ gs),δ (.ξ rw),δ (.QZ ⟨#[c]⟩),δ gx']/\WI P w H H8 X Y L D t wd y md d ar aV aU C R B/\Cy g L s0 mk U ar aU R B (q+1)/\Eb g ar R.β r q/\
     H8 rw=δ (.QV (b_ r))/\H8 gs=H5 gs/\(∀(j:χ)(x:V),xs[j]?<*x->z8 Y H8 (g k0 j) x)/\ar[R.β]?=δ k0/\aU[R.β]?=δ a0/\g k0 q∈ar,?_,?_⟩
    .refine (4,d,0,u.rm.Yj aB,0,3);by_cases hm:g k0 q∈m
     .rw [(nM hm).1];show aE (m,l,Z9,1,u,hP'.old hL.nd hk' as b1 hm,aS,co,bd,a8,hk',as,hm)
     .rw [show DJ m (g k0 q)=ε from Cl hm];let⟨ob,b6,cS⟩:=u.rm.put aB hm (FM an);let⟨J,cw⟩:=u.Yd.ex;let bt:QO H7 d ob D=_:=(a_ (Ne.QI u.e5)).ο cw;let cP:QO H7 d ob t=_:=(a_ (Ne.QI u.e1)).ο u.ht;let dt:QO H7 d ob wd=_:=(a_ (Ne.QI u.e2)).ο u.hw;let de:D≠t:=m_ cw u.ht (!5);let dc:QO (QO H7 d ob) t QKf D=_:=(a_ de).ο bt;let cl:QO (QO H7 d ob) t QKf wd=_:=(a_ (Ne.QI u.d1)).ο dt;let c8:An (Dn Z9) ((R.β:χ):Λ)<*.QZ (tx a0):=AS (by rw[Dn,na,as];rfl);let ev:a0.β≤100000:=QB (hP'.wl a0 (Ab as)) an;rw[<-b3]at b6;refine aG (0,D,X,J,9,cw,N.SS,N.na2,1,t,0,.RN (k9.of u.ht),4,d,0,b6,3);refine(0,D,X,J,9,bt,N.SS,N.na2,1,.RN (1,_,k9.of cP),0,t,2,cP,FM (by rw[b3];show an),3);refine(0,D,X,J,9,dc,N.SS,N.na3,1,.RN (1,_,k9.of cl),0,D,X,J,9,dc,N.SS,N.na3,1,0,Ak cl c8 (0,2,3,wd,2,cl,FM (by rw[Dn,j',<-hP'.bf.TL];show an),3))
      .change (tx a0).β+1≤Φ;rw[hF];show n0 (!6)
      let c7:tx a0++(⟨#[c]⟩:QF)=tx (a0++[c]):=by rw[<-BO];rfl
      let cf:=u.new (a:=a0++[c]) aB cS;let ce:=hP'.new hL.nd hk' as b1 hm d3;rw[ea]at ce;let kt:∀b zs,H7 b<*.Rn zs->QO (QO (QO H7 d ob) t QKf) wd (.QV (Dn Z9++[.QZ (tx (a0++[c]))])) b<*.Rn zs:=λb zs e=>by
       obtain⟨φ,cD⟩:∃φ,H7 d<*.ext φ:=by
        let W:=u.rm;unfold y_ at W;by_cases c:Y=.i
        .rw [IO c]at W;show(_,W.1)
        .rw [Cl c]at W;let⟨RW,e,_⟩:=W;show(_,e)
       rw[a_ (m_ e u.hw (!5)),a_ (m_ e u.ht (!5)),a_ (m_ e cD (!5))];show e
      refine(m++[g k0 q],l++[gx'],Z9++[a0++[c]],1,3,ce,aS.grow (l' hk').1,3,3,λj x hx=>?_,cz hk',cz as,!1)
      .rw [<-c7]at cf;show cf
      .rw [a_ r2,a_ r1,a_ r5];show co
      .rw [a_ g2,a_ g1,a_ g5];show bd
      .refine (a8 j x hx).SO λb zs e=>?_;have:=kt b zs e;rw[<-c7]at this;show this
    rintro cA H8⟨ar,aV,aU,ζ,Z,eg,b5,aC,d4,b4,c2,ec,cX⟩;let cd:=Z.rm.Yj (b4 q gx' hg);rw[(nM cX).1]at cd;let dT:r.β≤100:=by rw[b5.1];show QB (Uq b1) (QB hL.hi (!0))
    refine(0,.RN (1,_,k9.of aC),4,d,0,cd,rw,2,aC,FM (by rw[c_];show QB dT (!0)),3);refine(ar,aV,aU,r++[ar.QP (g k0 q)],9,Z.beside aC r0 r1 r2 r3 r4 r5 r6,eg,b5.snoc c2 cX,3,3,λj x hx=>?_,c2,ec)
    .rw [hJ,KE]
    .rw [a_ rg];show d4
    .exact (b4 j x hx).SO λb zs e=>by rw[a_ (m_ e aC (!5))];show e
   .rintro bD H6⟨m,l,Z9,r,bS,bP,ζ,hI',hP',aS,hrw',hgk,b0,hk',as⟩;rw[a7,cI]at hP' aS;let⟨J,el⟩:=hI'.Yd.ex;let cs:m.β≤100000:=QB (QB QHT hP'.left) hU;let bo:R.β≤100000:=QB hP'.le cs;let Z:=hI'.Yc hrw' r1 r2 r3 r4 r5;let⟨dd,bt⟩:=Z.Yd.ex;obtain⟨v1,cM⟩:∃v1,l[R.β]?<*v1:=(l[R.β]'(by rw[hI'.th.1];show(l' hk').1),j_ _);refine(0,D,X,J,9,el,N.SS,N.na4,1,.RN (1,_,k9.of hI'.hy),0,y,2,hI'.hy,FM (by rw[j',hI'.wr.1];show bo),3);refine(0,D,X,dd,9,bt,N.SS,N.na5,1,.RN (1,_,k9.of Z.hm),1,0,D,X,dd,9,bt,N.SS,N.na2,1,0,Ak Z.ht (AS cM) (k0,v1,1,Z.th.2 _ _ _ hk' cM,a9,bk _ _ Z.sm hR0,λH9 s9=>(md,2,(Z.U6 s9).hm,FM (by rw[j',hP'.bl];show bo),3)));show(m,l,Z9,C++[rw],R++[r],B++[mk k0],8,8,_,by rw[q4];rfl,1,(Z.U6 s9).mark,hP'.next hk' aS)
  case _=>
   rw[cp,bU]at ag;show(0,da O hP (.RN (WQ hP.le (SQ λz=>ag (Λ.ofNat_lt.Sz z)))))
inductive Ka(Xc:θ)QAI QAH QAR QA9:Prop
 |mk (e wl tl:θ) (part:V) (xs ys:γ V) (_:vs=[.ξ e,.ξ wl,.ξ tl,part]) (_:H e<*qN e Xc ε) (_:H wl<*.QV xs) (_:H tl<*.QV ys) (_:∀QBW(d l l2:θ),(∀b o,b≠e->H b<*o->H' b<*o)->H' e<*qN e Xc (δ d)->d≠e->l≠e->l2≠e->H' d<*AM d [(Q6,.ξ l,),("tails",.ξ l2,),("part",part,)]->H' l<*.QV xs->H' l2<*.QV ys->Q .Uv H')
instance qF:Rb:=Um 12
instance GI:Rb:=B5 qF 0
structure Hx QBQ QAs(Xc cRE fX:θ)(fdX:TY):Prop where
 kT:mg "TooMany"<*.ξ Xc
 kR:mg "RoomError"<*.ξ cRE
 own:B_ K Xc fX
 xc:lY K Xc
 na1:wx K Xc Q6
 na2:wx K Xc "tails"
 na3:wx K Xc "part"
 bi:wq K cRE
 fn:isFn K (.ξ fX)=π
 exm:exmOne K (.ξ Xc) (.ξ Xc)<*π
 ec:fE K Xc
 exr:exmOne K (.ξ Xc) (.ξ cRE)<*π
 ini:pd K "__init__" "TooMany.__init__" GI fX fdX
def gG:p_ ["self",Q6,"tails","part"] ["self",Q6,"tails","part"] (hI GI):=r_
def eh:∀vs H Q E,Ka Xc vs H Q E->vs.β=(["self",Q6,"tails","part"]:γ QF).β:=λvs H Q E h=>by
 let⟨e,a,b,part,xs,ys,ζ,_⟩:=h;rfl
def lR{P:Id}QF3(j:Hx K mg Xc cRE J fdX)(g:mg "list"=ε)(VA:η)(A:Qy)QE3 QB_(H0:Hp)QE0(O:Qy)(c:Ψ)(h:Ka Xc vs H Q R):∃t,Bd {aP lb P w K mg υ ["self",Q6,"tails","part"] "TooMany.__init__" (hI GI) J VA A KK s H0 E with A:=O,XV:=c,xe:=λ_ _=>Rk} (n7 GI) t/\t {nx:=λ_ H'=>Q .Uv H',rt:=Q} (WJ ["self",Q6,"tails","part"] vs) H:=by
  let⟨e,M,F,part,xs,ys,ζ,v,hw,B,q⟩:=h;refine(_,(h_ (AH (uf j.bi j.kR (oI QAF ms))) (h_ (iM (f:=Q6) ζ QAF (Da ND (!4) g boot_list QFj) ζ) (h_ (iM (f:="tails") ζ QAF (Da ND (!4) g boot_list QFi) ζ) (hY (iM (f:="part") ζ QAF QAi ζ))))),3);refine(0,e,Xc,J,0,v,j.own,3);refine(0,M,xs,1,.RN (k9.of hw),λl p=>(0,e,Xc,1,j.xc,j.na1,.RN (vr v p,λd k i=>?_)));let I:l≠e:=λz=>by rw[z,v]at p;cases p
  let r:H d=ε:=by
   by_cases z:d=l
   .rw [z];show p
   .rw [a_ z]at k;show k
  let k1:∀b o,b≠e->H b<*o->L2.QO QAu d QDP b<*o:=λb o x z=>by
   rw[a_ (f_ z r),a_ x,a_ (f_ z p)];show z
  let u:L2.QO QAu d QDP e<*qN e Xc (δ d):=by rw[a_ QG3,hJ]
  let d1:L2.QO QAu d QDP d<*AM d [(Q6,.ξ l,)]:=hJ;let L:L2.QO QAu d QDP l<*.QV xs:=by rw[a_ (λz=>by rw[<-z,hJ]at k;cases k),a_ I,hJ]
  let D:F≠e:=λz=>by rw[z,v]at B;cases B
  generalize L2.QO QAu d QDP=N at k1 u d1 L;refine(0,F,ys,1,.RN (k9.of (k1 _ _ D B)),λl2 a=>(0,e,Xc,1,j.xc,j.na2,.Rh (d,_,vr u a,vr d1 a,by change 1<1000;decide,3)));refine(4,e,Xc,1,j.xc,j.na3,.Rh (d,_,by rw[a_ QG3];show vr u a,hJ,by change 2<1000;decide,3));let n:l≠d:=λz=>by rw[<-z]at k;rw[hJ]at k;cases k
  let C:N l<*.QV xs:=L;let m:l2≠d:=λz=>by rw[z,d1]at a;cases a
  let y:l2≠e:=λz=>by rw[z,u]at a;cases a
  refine q _ d l l2 (λb o x z=>?_) ?_ i I y hJ ?_ ?_
  .let h1:b≠d:=f_ z r;let h2:b≠l2:=f_ (k1 b o x z) a;rw[a_ h1,a_ h1,a_ h2];show k1 b o x z
  .rw [a_ QG3,a_ QG3];show vr u a
  .rw [a_ n,a_ n];show vr C a
  .rw [a_ m,a_ m,hJ]
def qS(b:Hx K mg Xc cRE c fdX)(a:mg "list"=ε):aa P w K mg υ lb 1 c fdX ["self",Q6,"tails","part"] (Ka Xc):=b.ini.ok gG eh λVA A KK s H vs Q E d h=>lR b a VA A KK s H E _ _ h
def nz(b:Hx K mg Xc cRE c fdX)(a:mg "list"=ε):KP P w K mg υ c fdX ["self",Q6,"tails","part"] (Ka Xc):=b.ini.okH gG eh λVA A KK s H vs Q E v h=>lR b a VA A KK s H E _ _ h
instance DV:Rb:=(n7 EV).LT 0 QBV
instance DW:Rb:=(n7 EV).LT 1 QBV
instance q_g:QF:="walked_machine.<locals>.goals_of"
instance q_m:QF:="walked_machine.<locals>.is_marked"
abbrev bw(s:Rb):UL:=match s with
 |.Zv _ _ _ _ _ _ _ _ _ p=>p
 |_=>((0),(0),(0),(0))
abbrev R5:γ QCQ:=[(bw DV,q_g,),(bw DW,q_m,)]
def My:Cv [Z4,Q0] [Z4] [Q0] (hI DV):=QAh
def Mz:Cv [Z4,Q0] [Z4] [Q0] (hI DW):=QAh
section
variable{P:Id}{w:QW}{K:RG}{mg:QF->ψ η}{υ:RC}{f c m:θ}{SE:γ QBC}{Tg pm ZQ:η}{L:LN}{W:LL}{B:γ Ψ}
def MA(y:υ.Δ f<*Ya Z0 q_g (ri DV) (n7 DV) (hI DV) SE Tg pm c ZQ)(r:υ.SL QAa q_g)(C:AJ υ SE (hI DV) [Q0] [.ξ m])(t:g_ L W B):aa P w K mg υ lb 1 f (Ξ.W.fnX Z0 q_g (ri DV) (n7 DV) (hI DV) SE .ε .ε Tg pm ε QAa ZQ) [Z4] (HP .i L QJ' (uW W) λH=>CW H m L W B):=by
 refine Gx (X7:=[.ξ m]) y ζ r My C QAE (λA KK s H vs Q E T h=>?_)
 .obtain ⟨k,v,ζ,_⟩:=h;rfl
 .obtain ⟨k,v,ζ,o,F,I,q⟩:=h;refine(_,(hY (mq (Hl QIw QAF))),3);let⟨n,ζ,D⟩:=mr F;unfold z8 at o;rw[IO ζ]at o;let⟨S,e,ζ⟩:=o;injection e with e;subst e;let⟨R,mk,a,h1,h2,U,M,J⟩:=I;obtain⟨g,d⟩:∃g,a[n]?<*g:=(a[n]'(by rw[M];show D),j_ _);let⟨ws,u,O⟩:=J _ _ d;let l:=t.Yc ws (Ab u);refine(n_ h1 aF (0,EL h2 (DC V.ξ d) ?_));refine q g QHv H QIx (.RN O) (by rw[c_];show l.1) λj x b=>?_;unfold z8;rw[IO ζ];rw[b_,na]at b;cases p:ws[j]? with
  |ε=>rw[p]at b;cases b
  |δ z=>
   rw[p]at b;cases b;refine(z,3,1);show[(W.LT n []).LT j 0]=[z];let N:W.LT n []=ws:=by
    rw[nt,u];rfl
   rw[N,nt,p];rfl
def MB(j:υ.Δ f<*Ya Q7 q_m (ri DW) (n7 DW) (hI DW) SE Tg pm c ZQ)(b:υ.SL QAa q_m)(C:AJ υ SE (hI DW) [Q0] [.ξ m])QI_:aa P w K mg υ lb 1 f (Ξ.W.fnX Q7 q_m (ri DW) (n7 DW) (hI DW) SE .ε .ε Tg pm ε QAa ZQ) [Z4] (bG .i (mkW B) (uW W) λH=>CW H m L W B):=by
 refine Gx (X7:=[.ξ m]) j ζ b Mz C QAE (λA KK s H vs Q E y h=>?_)
 .obtain ⟨k,v,ζ,_⟩:=h;rfl
 .obtain ⟨k,v,ζ,a,o,p,q⟩:=h;refine(_,(hY (mq (Af Hk QIw QAF QAQ))),3);let⟨n,ζ,l⟩:=mr o;unfold z8 at a;rw[IO ζ]at a;let⟨x,e,ζ⟩:=a;injection e with e;subst e;let⟨u,mk,g,h1,h2,t,D,z⟩:=p;let r:B[n]?<*B.LT n ν:=by
   rw[nt,j_ (by rw[d.bl];show l)];rfl
  show(n_ h1 cc (0,mk,_,2,t,DC V.bl r,q H QIx))
end
def b_Q:p_ [Q0,Z0,Q7] [Q0] (hI EV):=r_
def Kb{kV Tg pm VA ct e:η}(lD:K.ς g<*(e,i,.WA #[.ε] l,h)):yx K (U_ "walked" "walked" (ri A0) (n7 A0) QJl (.ξ g) kV Tg pm an VA ct) [Q3,"start",Z0,Q7,"most"] [.ε]:=λs us k j=>by
 let f:us.β=4:=by simpa using j
 let⟨a,b,c,d,ζ⟩:=Mi f;show BindsTo.of_defaults ζ (k _ _ lD) ζ ζ ζ
def jx(Wd:bj X U j H d)QDX QCn(o:X.N[0]?<*Q0)(e:j[0]?<*δ (.ξ m))(n:X.QC.RF.QH.ς Q0<*.SF)(l:sc.QH.ς Q0<*.SB)(k:((Q0:QF),Ua.SB,)∈sc.QH):AJ d b sc [Q0] [.ξ m]:=by
 refine(λy z c h1 h2=>Wd.Tp y z c (Vk y c h1) (Vk z c h2),Vh,λy c h=>Wd.SF y c (Vk y c h),1,λi y v h1 h2=>?_);match i,h1,h2 with
 |0,h1,h2=>
  cases h1;cases h2;let⟨a,f⟩:=Vh _ k ζ;let⟨c,u,r,q,p⟩:=Wd.val 0 Q0 (.ξ m) o e n;let g:=Vk _ _ f;rw[r]at g;cases g;show(l,_,u,f,q,p)
 |i+1,h1,_=>simp at h1
set_option maxHeartbeats 8000000 in
def ut{P:Id}QF3{oc kV Tg pm ct aA S l O d X a6:η}(lk:K.ς f<*(oc,od,.VL (U_ "walked_machine" "walked_machine" (ri EV) (n7 EV) (hI EV) .ε kV Tg pm an QAa ct),cd))(bk:UH K QAa "walked_machine"=π)(lw:K.ς fw<*(aA,a5,.VL (U_ "walked" "walked" (ri A0) (n7 A0) QJl QKz S l O an2 d X),osl2))(cw:UH K d "walked"=π)QDI(mw:mg "walked"<*.ξ fw)(lD:K.ς tD<*(a6,ce,.WA #[.ε] nD,b3))QCz(ap:mg "len"=ε)(ag:mg "zip"=ε)(hC:UN υ c P0)QDV:aa P w K mg υ lb 6 f (U_ "walked_machine" "walked_machine" (ri EV) (n7 EV) (hI EV) .ε kV Tg pm an QAa ct) [Q0] QIy:=by
 refine pN lk bk b_Q QAE QAw
 .obtain ⟨m,L,W,B,ζ,_⟩:=h;rfl
 .obtain ⟨m,L,W,B,ζ,hM,g,hT,q⟩:=h;refine(_,(h_ (FH (i:=1) (RD:=q_g) (c:=c) (P0:=P0) (R5:=R5) b_Q.nd ζ QBu ζ hC hB (!3) (!3)) (h_ (FH (i:=2) (RD:=q_m) (c:=c) (P0:=P0) (R5:=R5) b_Q.nd ζ QBu ζ hC hB (!3) (!3)) (hY (mq (JE (dvs:=[.Uv]) ζ mw kw (Kb (kV:=S) (Tg:=l) (pm:=O) (an:=an2) (VA:=d) (ct:=X) lD) QDg (AN QBL (Aa b' QAJ QAT)) QHG))))),3);refine(hT,λZ k c1 H1 as aS co cg s1 aU aM aC=>(aU,λY v D C ar aN cl cf s2 bs aH bi=>?_));let az:BR P0 H C:=JL s1 s2;let aV:CW C m L W B:=hM.ofT (BV.ofX az hT);let⟨b4,bD,_⟩:=id aU;let⟨a4,bt,bd,T⟩:=id bs;let nP:∀QBA QCX,H1 b<*.ext φ->b≠P0:=λ{b φ}e z=>by rw[z,bD]at e;cases e
  let I:C k<*aY k Z0 q_g (ri DV) (n7 DV) (hI DV) Z c1:=s2 k _ (nP aC) aC;let J:C c1<*o5 c1 q_g:=s2 c1 _ (nP aM) aM;let F:C v<*aY v Q7 q_m (ri DW) (n7 DW) (hI DW) Y D:=bi;let bM:=aV;let⟨wy,mk,bU,h1,h2,h3,h4,h5⟩:=aV;let aT:∀u∈[k,v,c1,D],∃φ,C u<*.ext φ:=λu hu=>by
   simp only[QY,SM,TQ]at hu;rcases hu with ζ|rfl|rfl|rfl
   .exact (_,I)
   .exact (_,F)
   .exact (_,J)
   .exact (_,aH)
  refine(n_ h1 ai (4,[k,v,c1,D],aT,λp Wd=>?_));let⟨b0,b6,b2,a1⟩:=Wd.ext k _ (!1) I;let⟨bV,b5,b1,a0⟩:=Wd.ext v _ (!1) F;let bS:p.SL QK0 q_g:=Wd.ext c1 _ (!1) J;let bP:p.SL QBI q_m:=Wd.ext D _ (!1) aH;let C1:=jx (sc:=hI DV) (m:=m) Wd as aS ζ ζ ζ ζ (!3);let C2:=jx (sc:=hI DW) (m:=m) Wd ar aN ζ ζ ζ ζ (!3);let Fw:mh K "walked" "walked" A0 fw _:=((aA,a5,.ξ tD,S,l,O,an2,d,X,osl2,1,lw,cw),kw);refine((5),HQ cW .i L QJ' (mkW B) (uW W) (λH=>CW H m L W B) k v,hr,J' Fw WT ap ag ((MA a1 bS C1 g).Tj (!0)) ((MB a0 bP C2 g).Tj (!0)) a1 QCI a0 QCI (.UW λus hl=>by let⟨_,ζ⟩:=DQ hl;rfl) (.UW λus hl=>by let⟨_,ζ⟩:=DQ hl;rfl) QH5,3);let j:∀QBA QH',C b<*o->QCi->b∉[k,v,c1,D]:=λ{b o}e ho M=>by
   let⟨φ,e2⟩:=aT b M;rw[e]at e2;show ho φ (ψ.δ.Tp e2)
  let ch:=g.n60;refine([0],.QG 0,ε,1,g.lt,3,sy.Sz g.n1,OW g,by rw[sC];lia,bM.UB (λb xs e=>by rw[Bn (j e QAD)];show e) (λb xs e=>by rw[Bn (j e QAD)];show e),λwk t wd y md ks a2 ws N R Bm H3 a3 hW ht a9 a8 hy aB bg bf ab bl a7 Vk le he bo=>?_)
  .unfold z8;rw[IO ζ];show((0),5)
  let hR:R.β=ks.β:=by
   rcases he with z|⟨n,z,_⟩
   .exact z
   .cases z
  let YG:∀QBA QH',H3 b<*o->X8 [k,v,c1,D] C H3 b<*o:=λ{b o}e=>by
   rw[DI λM=>?_]
   .exact e
   .rw [bo b M]at e;cases e
  let U:∀QBA QH',C b<*o->X8 [k,v,c1,D] C H3 b<*o:=λ{b o}e=>by
   by_cases M:b∈[k,v,c1,D]
   .rw [He M];show e
   .exact YG (a3 b o (by rw[Bn M];show e))
  rw[hR]at bf;let⟨dx,ew⟩:=hW.ex;show q wk t wd y md ks a2 ws N R Bm _ (λb o M e=>U (az b o M e)) (a4,U bt,bd,λx hx=>(T x hx).imp id λbm=>by let⟨c',e1,e2⟩:=bm;show(c',e1,U e2)) QJm (YG ht) (a9.SO λb xs e=>YG e) (YG a8) (YG hy) (aB.1,λi a r e1 e2=>YG (aB.2 i a r e1 e2)) (YG bg) bf ab hR bl a7 Vk (by rw[sC]at le;show le)
instance MC:Rb:=Um 2
instance ME:Rb:=Um 3
instance MF:Rb:=Um 1
instance MG:Rb:=Um 4
instance MH:Rb:=Um 5
instance du:Rb:=Um 6
instance MI:Rb:=Um 47
instance mW:Rb:=Um 46
instance MJ:Rb:=Um 18
instance iJ:Rb:=Um 28
instance ML:Rb:=Um 31
instance dj:Rb:=Um 44
instance MM:Rb:=Um 45
instance MN:Rb:=Um 32
instance MO:Rb:=Um 39
instance dh:Rb:=Um 42
instance MP:Rb:=Um 51
instance MQ:Rb:=Um 50
instance dq:Rb:=Um 52
instance MR:Rb:=Um 49
instance MS:Rb:=Um 16
instance MT:Rb:=Um 17
instance MV:Rb:=Um 78
instance MW:Rb:=Um 77
instance MX:Rb:=Um 76
instance MY:Rb:=Um 84
instance MZ:Rb:=Um 85
instance di:Rb:=Um 83
instance tV:Rb:=Um 82
instance M0:Rb:=Um 81
instance M1:Rb:=Um 80
instance mX:Rb:=Um 75
instance M3:Rb:=Um 87
instance M4:Rb:=Um 88
instance M5:Rb:=Um 90
instance M6:Rb:=Um 91
instance M7:Rb:=Um 92
instance M8:Rb:=Um 101
instance M9:Rb:=Um 93
instance M_:Rb:=Um 94
instance M':Rb:=Um 95
instance KZ:Rb:=Um 96
instance Na:Rb:=Um 97
instance Nb:Rb:=Um 98
instance Nc:Rb:=Um 89
instance Nd:Rb:=Um 99
instance Nf:Rb:=Um 100
instance Ng:Rb:=Um 15
instance Nh:Rb:=Um 20
instance Ni:Rb:=Um 21
instance Nj:Rb:=Um 27
instance iK:Rb:=Um 29
instance Nk:Rb:=Um 102
instance Nl:Rb:=Um 103
instance dl:Rb:=Um 104
instance nX:Rb:=B5 (Um 63) 0
instance nY:Rb:=B5 (Um 65) 0
instance eP:Rb:=B5 (Um 70) 0
instance pI:Rb:=B5 (Um 61) 0
instance pJ:Rb:=B5 (Um 62) 0
instance hZ:Rb:=B5 (Um 64) 0
instance vo:Rb:=B5 (Um 63) 1
instance hX:Rb:=B5 (Um 71) 0
instance kZ:Rb:=B5 (Um 72) 0
instance pK:Rb:=B5 (Um 73) 0
instance lc:Rb:=B5 (Um 66) 0
instance vp:Rb:=B5 (Um 67) 0
instance vq:Rb:=B5 (Um 68) 0
instance vn:Rb:=B5 (Um 69) 0
instance nZ:Rb:=B5 (Um 79) 0
instance Qr:Rb:=B5 (Um 60) 1
structure U7 QBQ QAs(WY UP:θ):Prop where
 kA_:mg "RoomError"<*.ξ WY
 kH_:mg "TooMany"<*.ξ UP
 eH_:fE K UP
 mH_:exmOne K QGR (.ξ WY)<*π
 iHH_:kitOne K QGR QGR<*π
 vH_:kitOne K QGR (.QU "ValueError")<*π
 TL:mg "len"=ε
 Re:mg "range"=ε
 isinst:mg "isinstance"=ε
 QG:mg "int"=ε
 UV:mg "bool"=ε
 Uu:mg "tuple"=ε
 V8:mg "list"=ε
 QZ:mg "str"=ε
 X6:mg "zip"=ε
 enumerate:mg "enumerate"=ε
 reversed:mg "reversed"=ε
 max:mg "max"=ε
 UW:mg "all"=ε
 U6:mg "any"=ε
 Uw:mg "set"=ε
 sorted:mg "sorted"=ε
 enum:mg "enumerate"=ε
 most:∃t,mg "MOST_ROOMS"<*.QG 8 t
inductive sp_numbered QAI QAH QAR QA9:Prop
 |mk QCs (o:HO) QCK (ks:γ KS) (Wh:Ψ) QEY (_:(o=.QV xs\/o=.Rn xs)) (_:H a<*o) (_:xs.β=ks.β) (_:ks.β≤2100) (_:(∀QBB(k:KS)(x:V),ks[i]?<*k->xs[i]?<*x->mf H k x/\Kz k=Wh)) (_:∀p H',a' H H'->H' p<*.QV (b_ (ax ks))->Q QAp H')
inductive sp_manyM QAI QAH QAR QA9:Prop
 |mk QCs (ns:LN) QEY (_:H a<*.QV QJa) (_:0<ns.β) (_:∀M∈ns,(∀x∈ns,x≤M)->Q (.QG ((M:Λ)+1)) H)
inductive sp_roundsG QAI QAH QAR QA9:Prop
 |mk (wy mk:θ) QEk (o om:HO) QA5 QC9 QAm (most:χ) (_:vs=[.ξ wy,.ξ mk,.QG (most:Λ)]) (_:(o=.QV QC4\/o=.Rn QC4)) (_:H wy<*o) (_:(om=.QV QGI\/om=.Rn QGI)) (_:H mk<*om) (_:Td.β=W.β) (_:wf H Td W) QCS (_:∀(p:θ)(V7:γ θ)QK4 QBW,a' H H'->H' p<*.QV QKC->V7.β=k+1->br H' V7 W B->(Rd W B (k+1)=Rd W B k\/∃M∈Rd W B k,most<M+1)->k≤4410000->Q QAp H')
inductive sp_firstrooms QAI QAH QAR QA9:Prop
 |mk QCs (ns:LN) QEY (_:H a<*.QV QJa) (_:0<ns.β) (_:ns.β≤2100) (_:(∀x∈ns,x<2100)) (_:(∀(M j:χ),M∈ns->j≤M->j∈ns)) (_:∀QK5(p:θ)QBW,bq ns m->a' H H'->H p=ε->H' p<*.QV (b_ ((γ.Re m).Q_ λj=>ns.QP j))->Q QAp H')
inductive sp_pw72 QAI QAH QAR QA9:Prop
 |mk (wy p:θ) (Td V7:γ θ) (tu:Ψ) QA5 QC9 QAm (k r s:χ) (_:vs=[.QZ QB',.ξ wy,.ξ p,.QG (r:Λ),.QG (s:Λ)]) (_:H wy<*J_ tu QC4) (_:b9 tu H Td W) QCS (_:H p<*.QV QKC) (_:V7.β=k+1) (_:br H V7 W B) (_:(m8 W B k r=m8 W B k s->Rd W B (k+1)=Rd W B k)) (_:k≤4410000) (_:r<W.β) (_:s<W.β) QFv
structure Kc QBQ(cW:θ):Prop where
 SS:BZ K cW
 na1:wx K cW Q3
 na4:wx K cW Z1
 na5:wx K cW Z2
inductive Nm(cW:θ)QAI QAH QAR QA9:Prop
 |mk (wk t wd y md lo:θ) QEk QA5 (R:LL) (Bm:γ Ψ) QK4 (_:vs=[.ξ wk,.ξ lo]) QFm (_:H y<*.QV QC4) (_:Do H Td R) (_:H md<*.QV (Bm.Q_ V.bl)) QJg (_:H lo<*.QV (b_ QAN)) (_:∀QK5 QEx QBW,bq QAN m->a' H H'->H f=ε->u0 H' f L QBn QIo->Q QAg H')
inductive jY(cW:θ)QAI QAH QAR QA9:Prop
 |mk (wk t wd y md p rm:θ) (Td V7:γ θ) QA5 (R:LL) (Bm:γ Ψ) QK4 (rs:LN) (_:vs=[.ξ wk,.ξ p,.ξ rm]) QFm (_:H y<*.QV QC4) (_:Do H Td R) QJg (_:H p<*.QV QKC) (_:V7.β=k+1) (_:br H V7 R Bm) (_:k≤4410000) (_:H rm<*.QV (b_ rs)) (_:rs.β≤9) (_:(∀r∈rs,r<R.β)) (_:(∀(i j a b:χ),i<j->rs[i]?<*a->rs[j]?<*b->m8 R Bm k a≠m8 R Bm k b)) (_:∀tl xs H',a' H H'->H' tl<*.QV xs->Q (.ξ tl) H')
inductive Ic(cW UP:θ)QAI QAH QAR QE0:Prop
 |mk (wk t wd y md:θ) QEk QA5 (R:LL) (Bm:γ Ψ) (ws:LL) (_:vs=[.ξ wk]) QFm (_:H y<*.QV QC4) (_:Do H Td R) (_:H md<*.QV (Bm.Q_ V.bl)) (_:H wd<*.QV (Dn ws)) (_:ws.β=R.β) QJg (_:(∀d H',a' H H'->P8 H' d->E QGR (δ d) H')) (_:∀(m k:χ)QEx QBW,bq QAN m->Rd R Bm (k+1)=Rd R Bm k->m≤8->a' H H'->H f=ε->u0 H' f L QBn QIo->Q QAg H')
inductive YV QAI QAH QAR QA9:Prop
 |mk (m m2:θ) QA5 QC9 QAm (W2:LL) (B2:γ Ψ) QEd QBf QDj (_:Q .Uv H)
inductive Ke(P0:θ)QHZ QAI QAH QAR QA9:Prop
 |mk (m:θ) QA5 QC9 QAm (_:vs=[.ξ m]) QBf QCS (_:AB H P0 R5) (_:∀QEx(W':LL)QHo QBW,BR P0 H H'->AB H' P0 R5->u0 H' f L W' B'->DM L W B W' B'->Q QAg H')
inductive gw QDJ QAI QAH QAR QA9:Prop
 |mk (L S:LN) (we:Ψ) (_:vs=[.QZ QB',.bl we,.QZ (tx S)]) QD3 QEc (_:∀QEx QC9 QAm QBW,KT ts H H'->Mc H' f L W B->(∃v,Bo L W B v)->Lg L W B=Ds L we S->Q QAg H')
inductive gB QDJ QAI QAH QAR QA9:Prop
 |mk QA5 QEM (v:V) (_:vs=[.QZ QB',v]) QD1 QIz QD3 QEc QAP
inductive gD(UP:θ)QDJ QAI QAH QAR QE0:Prop
 | mk (p:θ) (L:LN) (_:cj ts H) (_:(∀d H',KT ts H H'->P8 H' d->E (.ξ UP) (δ d) H')) (_:((∃(k:K1)(m:θ)(W:LL)(B:γ Ψ),vs=[.QZ (Ee k),.ξ p]/\H p=δ (.QV [.ξ m])/\Mc H m L W B/\(∀(f:θ)(W':LL)(B':γ Ψ)(H':Hp),KT ts H H'->Mc H' f L W' B'->(∃v,Bo L W' B' v)->Lg L W' B'=N5 L k (Lg L W B)->Q (.ξ f) H')) \/
  ∃(k:K2)(m m2:θ)(W W2:LL)(B B2:γ Ψ),vs=[.QZ (C0 k),.ξ p]/\H p=δ (.QV [.ξ m,.ξ m2])/\Mc H m L W B/\Mc H m2 L W2 B2/\∀(f:θ)(W':LL)(B':γ Ψ)(H':Hp),KT ts H H'->Mc H' f L W' B'->(∃v,Bo L W' B' v)->Lg L W' B'=N6 k (Lg L W B) (Lg L W2 B2)->Q (.ξ f) H'))
inductive Kf(UP:θ)QDJ QCm QAI QAH QAR QE0:Prop
 |mk QA5 QEM (v:V) (_:vs=[.QZ QB',v]) QD1 QF8 QD3 QEc QIS QAP
inductive sp_isletters QAI QAH QAR QA9:Prop
 |mk QA5 (_:vs=[.QZ QB']) QD3 (_:Q QIV H)
inductive ZW QAI QAH QAR QA9:Prop
 |mk QA5 (_:vs=[.QZ QB']) QD3 (_:Q .Uv H)
inductive sp_iswanting QAI QAH QAR QA9:Prop
 |mk (ch:χ) (_:vs=[.QZ (tx [ch])]) (_:Q (.bl (BL ch)) H)
inductive sp_canstand QAI QAH QAR QA9:Prop
 |mk QA5 (ch:χ) (w:Ψ) (dd:χ) (_:vs=[.QZ QB',.QZ (tx [ch]),.bl w,.QG (dd:Λ)]) (_:Q (.bl (v_ L ch w dd)) H)
inductive sp_needpattern QAI QAH QAR QA9:Prop
 |mk QKT (_:vs=[.QZ QB',.QZ (tx w)]) (_:lZ L) (_:Yx L 0 π w<*(0,ν,)) (_:∀H',a' H H'->Q .Uv H')
inductive jZ QC_ QAI QAH QAR QA9:Prop
 |mk QEM (_:vs=[tv (.WL t)]) (_:(Tk.WL t).ok) QC1
inductive gC QC_ QAI QAH QAR QA9:Prop
 |mk (k:K2) (u w':V) (x y:Pt) (_:vs=[.QZ QIu,u,w']) (_:BB c H x u) (_:BB c H y w') (_:∀v H',a' H H'->BB c H' (.WD k x y) v->Q v H')
inductive gy QC_(cD:θ)QAI QAH QAR QA9:Prop
 |mk (d dx pa wa:θ) (us:γ V) (ps:γ Pt) (ws:γ Wt) QCm (ps':γ Pt) (Z9:γ Wt) (_:vs=[.ξ d,.QG (n:Λ)]) QJI (_:1≤n) (_:Bu n ps ws<*(ps',Z9,)) (_:ps.β≤900) QDS
inductive sZ QC_(cD:θ)QAI QAH QAR QA9:Prop
 |mk (d dx pa wa:θ) (us:γ V) (ps:γ Pt) (ws:γ Wt) (tk:Tk) (ps':γ Pt) (Z9:γ Wt) (_:vs=[.ξ d,tv tk]) QJI (_:tk.ok) (_:dC ps ws tk<*(ps',Z9,)) (_:ps.β≤900) (_:ws.β≤900) QDS
inductive sp_tokens QAI QAH QAR QA9:Prop
 |mk QFP (_:vs=[.QZ (tx w)]) (_:(∀ch∈w,oG ch)) (_:w.β≤400) (_:∀p H',H p=ε->a' H H'->H' p<*.QV ((QT π w).Q_ tv)->Q QAp H')
inductive N7 QC_ QAI QAH QAR QA9:Prop
 |mk (tw:LN) QEM (_:vs=[.QZ (tx tw)]) (_:(∀ch∈tw,oG ch)) (_:tw.β≤300) (_:Bc (QT π (40::(tw++[41]))) ([],[],)<*([t],[],)) QC1
inductive oW QC_ QAI QAH QAR QA9:Prop
 |mk (L tw:LN) QEM (l:χ) (_:vs=[.QZ QB',.QZ (tx tw)]) QD3 (_:lZ L) (_:G L l t tw) (_:tw.β≤300) QC1
inductive oX QBQ QAI QAH QAR QA9:Prop
 |mk QCs QE1 (k:Λ) (_:vs=[.ξ a,.QG k]) QGo (_:0≤k) (_:∀z,Q QGS H)
inductive sp_letters QAI QAH QAR QA9:Prop
 |mk (c:Λ) (_:vs=[.QG c]) (_:∀L,BG L->Q QAb H)
inductive sp_pushed QAI QAH QAR QA9:Prop
 |mk (p:θ) QCK (pts:γ Pt) (z:Λ) QA5 (_:vs=[.ξ p,.QG z,.QZ QB']) QD3 (_:H p<*.QV xs) (_:Bv (aj H) xs pts) (_:xs.β≤100) (_:(∀t∈pts,t.Xa L)) (_:∀(p':θ)(xs':γ V)(pts':γ Pt)QBW,a' H H'->H' p'<*.QV xs'->Bv (aj H') xs' pts'->(∀t∈pts',t.Xa L)->bh pts'≤bh pts+1->be pts'≤be pts+1->xs'.β≤xs.β+1->Q (.ξ p') H')
inductive Nn QBQ QAI QAH QAR QA9:Prop
 |mk QCs QE1 QA5 (_:vs=[.ξ a,.QZ QB']) QD3 QGo (_:ns.β≤8) (_:∀(v:V)QEM QBW,a' H H'->aj H' t v->t.Xa L->t.Xk≤9->t.sz≤17->Q v H')
inductive Kg QCm QAI QAH QAR QA9:Prop
 |mk QA5 QEM (v:V) (_:vs=[v]) QD1 QF8 (_:t.Xa L) (_:t.sz≤60) (_:∀(tw:LN)QBW,a' H H'->G L 4 t tw->tw.β≤4*t.sz->Q (.QZ (tx tw)) H')
inductive j0 QDJ QAI QAH QAR QA9:Prop
 |mk (L tw:LN) QEM (l:χ) (_:vs=[.QZ QB',.QZ (tx tw)]) QD3 (_:G L l t tw) (_:tw.β≤300) (_:t.Xk≤12) QEc (_:(∀H',KT ts H H'->Q .Uv H')) QAP
inductive sp_leaf72 QAI QAH QAR QA9:Prop
 |mk QKT QEM (v:V) QEe QD1 QIz QKm (_:w.β≤5000) (_:∀(p:θ)QBW,a' H H'->H' p<*.QV (b_ (AK QFk w))->Q QAp H')
inductive sp_behind72 QAI QAH QAR QA9:Prop
 |mk QFK QFP (a b:θ) (_:vs=[.ξ a,.ξ b]) (_:H a<*.QV QKy) (_:H b<*.QV (b_ (AK C w))) (_:w.β≤5000) (_:∀(p:θ)QBW,a' H H'->H' p<*.QV (b_ (AK (vN A C) w))->Q QAp H')
inductive sp_pieces72 QAI QAH QAR QA9:Prop
 |mk QCb QFP QCs QEY (_:H a<*.QV QKy) QFQ (_:∀(p:θ)QBW,a' H H'->H' p<*.QV (b_ (AK QKH w))->Q QAp H')
inductive Ie QCm QAI QAH QAR QA9:Prop
 |mk QKT QEM (v:V) QEe QD1 QF8 QKm QFQ (_:oF QFk w H Q)
inductive yC QCm QAI QAH QAR QA9:Prop
 |mk QKT QEM (v:V) QEe QD1 QF8 QKm QFQ (_:oF (m3 QFk) w H Q)
inductive j4 QCm QAI QAH QAR QA9:Prop
 |mk QKT QEM (v:V) QEe QD1 QF8 QKm QFQ (_:∀QK3 QBW,a' H H'->(b=π↔af L t w)->Q QJS H')
inductive oU QBQ QAI QAH QAR QA9:Prop
 |mk QA5 QCs QE1 (_:vs=[.QZ QB',.ξ a]) QD3 QGo (_:ns.β≤63) (_:∀QFP QBW,w.β=ns.β->QA7->a' H H'->Q QBq H')
inductive sp_isword QAI QAH QAR QA9:Prop
 |mk QKT (_:vs=[.QZ (tx w),.QZ QB']) (_:QA7) (_:w.β≤20000) (_:∀H',a' H H'->Q QIV H')
inductive sp__law_earlier QAI QAH QAR QA9:Prop
 |mk (L a b:LN) (_:vs=[.QZ QB',.QZ (tx a),.QZ (tx b)]) QD3 (_:QKc) (_:(∀c∈b,c∈L)) (_:a.β≤20000) (_:b.β≤20000) (_:∀H',a' H H'->Q (.bl (u6 L a b)) H')
inductive sp_is_whole QAI QAH QAR QA9:Prop
 |mk (i:Λ) (_:vs=[.QG i]) (_:Q QIV H)
inductive sp_isroom QAI QAH QAR QA9:Prop
 |mk (i n:Λ) (_:vs=[.QG i,.QG n]) (_:0≤i) (_:i<n) (_:Q QIV H)
inductive sp_needroom QAI QAH QAR QA9:Prop
 |mk (m:θ) QA5 QC9 QAm (r:χ) (_:vs=[.ξ m,.QG (r:Λ)]) QBf QCS (_:r<W.β) (_:Q .Uv H)
inductive sp_part72 QAI QAH QAR QA9:Prop
 |mk (m:θ) QA5 QC9 QAm (r s:χ) (_:vs=[.ξ m,.QG (r:Λ),.QG (s:Λ)]) QBf QCS (_:r<W.β) (_:s<W.β) QFv
inductive sp_apart72 QAI QAH QAR QA9:Prop
 |mk (m m2:θ) QA5 QC9 QAm (W2:LL) (B2:γ Ψ) QEd QBf QCS QDj (_:g_ L W2 B2) (_:W.β≤60) (_:W2.β≤60) (_:∀o H',a' H H'->qf L W B W2 B2 o->Q (oV o) H')
inductive N8 QBQ QAI QAH QAR QA9:Prop
 |mk QCs QE1 QA5 QEM (v:V) (z:Λ) (_:vs=[v,.ξ a,.QZ QB',.QG z]) QD3 QGo (_:ns.β≤8) QD1 (_:t.Xa L) (_:t.Xk≤9) (_:t.sz≤17) (_:0≤z) (_:∀(v':V)(t':Pt)QBW,a' H H'->aj H' t' v'->t'.Xa L->t'.Xk≤11->t'.sz≤35->(z<3->af L t'=af L t)->Q v' H')
inductive sp_none72 QAI QAH QAR QA9:Prop
 |mk QKT (o:ψ LN) (t1 t2:Pt) (v1 v2:V) (_:vs=[.QZ QB',oV o,v1,v2,.QZ (tx w)]) QD3 (_:aj H t1 v1) (_:aj H t2 v2) (_:t1.Xk≤12) (_:t2.Xk≤12) QKm QFQ (_:(o=ε->∀u,Wd L u->(af L t1 u↔af L t2 u))) (_:(∀v,o<*v->Wd L v/\v.β≤2000/\∀u,Wd L u->¬ (af L t1 u↔af L t2 u)->u6 L u v=ν)) (_:∀H',a' H H'->Q QIV H')
section
variable{P:Id}{w:QW}{K:RG}{mg:QF->ψ η}{υ:RC}{P0 PT cW:θ}{ts:γ QAc}{VJ:γ (θ×θ)}{WY UP:θ}{c:Kd->θ}{cP:θ}{cD d1 d2 d3:θ}
def tK:p_ ["self","sign"] ["self","sign"] (hI nX):=QEf
def uo(F:pd K "__init__" "Sign.__init__" nX f d):aa P w K mg υ lb 1 f d ["self","sign"] (wP K "sign"):=by
 refine F.ok tK QAE QEO
 .obtain ⟨p,v,C,dx,ζ,_⟩:=h;rfl
 .obtain ⟨p,v,C,dx,ζ,hp,g,n1,q⟩:=h;refine(_,hY (En QAF QAJ ζ),3);refine(4,p,C,dx,[],1,hp,g,n1,(by change 0<1000;decide),3);show q _ (λb o e a=>by rw[a_ a];show e) hJ
def mT:p_ ["self","inner"] ["self","inner"] (hI eP):=QEf
def nn(F:pd K "__init__" "Around.__init__" eP f d):aa P w K mg υ lb 1 f d ["self","inner"] (wP K "inner"):=by
 refine F.ok mT QAE QEO
 .obtain ⟨p,v,C,dx,ζ,_⟩:=h;rfl
 .obtain ⟨p,v,C,dx,ζ,hp,g,n1,q⟩:=h;refine(_,hY (En QAF QAJ ζ),3);refine(4,p,C,dx,[],1,hp,g,n1,(by change 0<1000;decide),3);show q _ (λb o e a=>by rw[a_ a];show e) hJ
def tL:p_ ["self","left","right"] ["self","left","right"] (hI nY):=QEf
def uq(F:pd K "__init__" "Pair.__init__" nY f i):aa P w K mg υ lb 1 f i ["self","left","right"] (N3 K "left" "right"):=by
 refine F.ok tL QAE (λVA A KK s H vs Q E j h=>?_)
 .obtain ⟨p,v,u,C,dx,ζ,_⟩:=h;rfl
 .obtain ⟨p,v,u,C,dx,ζ,hp,d,n1,g,q⟩:=h;refine(_,h_ (En QAF QAJ ζ) (hY (En QAF QAT ζ)),3);refine(4,p,C,dx,[],1,hp,d,n1,(by change 0<1000;decide),4,p,C,dx,0,hJ,d,g,(by change 1<1000;decide),3);show q _ (λb o e a=>by rw[a_ a,a_ a];show e) hJ
abbrev Vw:Kd->Rb:=Ef pI pJ hZ vo hX kZ pK lc vp vq vn
abbrev PM:Kd->QF:=Ef "Never.shape" "Empty.shape" "AnySign.shape" "Sign.shape" "Outside.shape" "Turned.shape" "Again.shape" "Either.shape" "Less.shape" "Both.shape" "Then.shape"
def pi(b:∀k,yu K (c k) cP){fs:Kd->θ}{j:Kd->TY}(I:∀k,gn K (c k) "shape" (fs k))(J:∀k,yx K (j k) ["self"] [])(F:∀k,pd K "shape" (PM k) (Vw k) (fs k) (j k)):∀n k,aa P w K mg υ lb n (fs k) (j k) ["self"] (iB c n k)
 |0,k=>(λvs H Q E h=>by let⟨a,t,_,_,_,o,_⟩:=h;have:=t.YQ;lia,λ_ _ _ _ _ _ vs Q E _ _ _ _ h=>by let⟨a,t,_,_,_,o,_⟩:=h;have:=t.YQ;lia)
 |n+1,k=>by
  let M:=pi b I J F n;let S:p_ ["self"] ["self"] (hI (Vw k)):=by
   rcases k with(_|_|_)|_|(_|_|_)|(_|_|_|_)<;>show r_
  refine(F k).ok S QAE (λVA A KK s H vs Q E O h=>?_)
  .obtain ⟨a,t,ζ,_⟩:=h;rfl
  let⟨a,t,ζ,hp,ζ,o,q⟩:=h;cases t with
  |S0 k=>cases k<;>show(_,hY (mq (Am (AN ms B3))),n0 (by change 1≤16777216;decide),λp hp=>q QAp _ QDG (p,1,hJ))
  |Up z=>
   let⟨Y,dx,e,r⟩:=hp;cases e;show(_,hY (mq (Am (AN ms (AN QFB B3)))),0,a,_,dx,9,r,(b _).cl,(b _).nS,xF _,n0 (by change 2≤16777216;decide),λp hp=>q QAp _ QDG (p,1,hJ))
  |UX k x=>
   let o:x.Xk+1≤n+1:=o;let⟨Y,dx,u,e,r,C⟩:=hp;cases e;let⟨D,l,i,ζ,h1,l1⟩:=C.XE;cases k<;>show(_,hY (mq (Am (AN ms (AN QCj B3)))),0,a,_,dx,9,r,(b _).cl,(b _).nI,uO _,x.kd,D,l,i,1,h1,l1,D,x,1,C,1,!6,λf m g d=>(n0 (by change 2≤16777216;decide),λp hp=>q QAp _ (g.ο QDG) (p,f,1,hJ,d.kp (a'.kp QDG))))
  |WD k x y=>
   let o:max x.Xk y.Xk+1≤n+1:=o;let⟨Y,dx,u,Z,e,r,C,hy⟩:=hp;cases e;let⟨D,l,i,ζ,h1,l1⟩:=C.XE;let rd:∀(k:K2)(f:V)(m:Hp),a' H m->aj m x f->(∀v H',a' H H'->aj H' (.WD k x y) v->Q v H')->sQ c "shape" (iB c n) E0 (λ_ H R=>R Z H) [] m λL W=>3≤Φ/\∀p,W p=ε->Q QAp (L2.QO W p (.Rn [.QZ QIu,f,L])):=λk f m g d q=>by
    let B:=hy.kp (a'.kp g);let⟨X,U,T,ζ,h2,l2⟩:=B.XE;show(y.kd,X,U,T,1,h2,l2,X,y,1,B,1,GN o,λL W s2 N=>(n0 (by change 3≤16777216;decide),λp hp=>q QAp _ (g.ο (s2.ο QDG)) (p,f,L,1,hJ,d.kp (a'.kp (s2.ο QDG)),N.kp (a'.kp QDG))))
   cases k<;>show(_,hY (mq (Am (AN ms (AN QCj (AN QCj B3))))),0,a,_,dx,9,r,(b _).cl,(b _).nL,xG _ _,x.kd,D,l,i,1,h1,l1,D,x,1,C,1,!6,λf m g d=>(0,a,_,dx,9,g _ _ r,(b _).cl,(b _).nR,uN _ _,rd _ f m g d q))
def tP:p_ ["self"] ["self"] (hI nZ):=QEf
def ur(F:pd K "__init__" "Desk.__init__" nZ f v):aa P w K mg υ lb 1 f v ["self"] (EO K c):=by
 refine F.ok tP QAE (λVA A KK s H vs Q E x h=>?_)
 .obtain ⟨d,dx,C,ζ,_⟩:=h;rfl
 .obtain ⟨d,dx,C,ζ,p,t,u,nW,q⟩:=h;refine(_,h_ (En QAF QFu ζ) (hY (En QAF QFu ζ)),3);refine(RO _,λpa g=>(0,d,C,dx,[],1,vr p g,t,u,(by change 0<1000;decide),RO _,λwa a=>?_));let m:d≠pa:=f_ p g;let n:(QO (QO H pa QCF) d (.XE C dx (ah "patterns" (.ξ pa) []))) d<*.XE C dx (ah "patterns" (.ξ pa) []):=hJ;let l:d≠wa:=f_ n a;let j:(QO (QO H pa QCF) d (.XE C dx (ah "patterns" (.ξ pa) []))) pa<*.QV []:=by rw[a_ (Ne.QI m),hJ]
  let k:pa≠wa:=f_ j a;refine(0,d,C,dx,0,vr hJ a,t,nW,(by change 1<1000;decide),3);let i:H wa=ε:=by
   rw[a_ (Ne.QI l),a_ (Ne.QI k)]at a;show a
  refine q pa wa _ (λb o e r=>?_) (hJ,3,trivial,3,k) g i
  .rw [a_ r,a_ (f_ e i),a_ r,a_ (f_ e g)];show e
  .rw [a_ (Ne.QI m),a_ k];show j
  .rw [a_ (Ne.QI l)];show hJ
instance No:Rb:=B5 (Um 60) 2
def j9:p_ ["self",Q3] ["self",Q3] (hI No):=QEf
inductive td QC_(UP:θ)QDJ QAI QAH QAR QE0:Prop
 |mk QCs QEM QA5 (_:vs=[.ξ a,.QZ QB']) (_:BB c H t QAd) (_:t.Xk≤12) QD3 QEc QIS QAP
abbrev yQ QKU QBP QBQ QAs(υ:RC)QC_(UP:θ)QDJ:Prop:=∃f fd,(∀k,gn K (c k) Q0 f)/\yx K fd ["self",Q3] []/\aa P w K mg υ QB1 23 f fd ["self",Q3] (td c UP ts)
def kz(F:pd K Q0 "Pattern.machine" No f I)(u:FT P w K mg υ c cP)(o:Df P w K mg υ "need_letters" 2 [Q3] ZW)(n:A' P w K mg υ "machine_of" 22 [Q3,"shape"] (Kf UP ts 12)):aa P w K mg υ QB1 23 f I ["self",Q3] (td c UP ts):=by
 refine F.okX j9 QAE QEO
 .obtain ⟨a,t,L,ζ,_⟩:=h;rfl
 .obtain ⟨a,t,L,ζ,hp,p,r,C,x,q⟩:=h;let⟨fs,D,y,M,N⟩:=u.sh;let g:=i.Tj (j:=2) (!0);let b:=i.Tj (j:=12) (!0);let⟨O,m,l,J,h1,l1⟩:=hp.XE;cases J;refine(_,(h_ (AH (oh o g (AN QAJ B3))) (hY (mq (Ct n i QAf (AN QAJ (AN (KQ QAF (λk=>(u.pc k).cl) y (N 12) b M Cs) B3)))))),3);show(0,L,1,r,4,t.kd,a,m,l,1,h1,l1,a,t,1,hp,1,p,λv R d e=>(L,t,v,1,e,p,r,(KT.of d).tb C,λH' k=>x H' ((KT.of d).ο k),λf W B H' k=>q f W B H' ((KT.of d).ο k)))
end
inductive bF QBQ QAI QAH QAR QA9:Prop
 |mk (p:θ) (ns:LN) (_:vs=[.ξ p]) (_:k9 K H p QJa) (_:(∀x∈ns,x<8)) (_:∀t H',a' H H'->H' t<*.Rn (b_ (BJ ns))->Q QB0 H')
inductive sp_hasm QAI QAH QAR QA9:Prop
 |mk (m v:θ) (o:HO) QA5 QC9 QAm QFb (_:vs=[.ξ m,.ξ v]) QBf QCS QJh (_:H v<*o) (_:k.β≤60) (_:(∀x∈k,x<W.β)) (_:∀H',a' H H'->Q (.bl (k.U6 λr=>B.LT r ν)) H')
namespace Tu
inductive sp_rinto QAI QAH QAR QA9:Prop
 |mk (m st:θ) QA5 QC9 QAm QHW (S:LN) (_:vs=[.ξ m,.QG (j:Λ),.ξ st]) QBf QCS (_:j<L.β) (_:H st<*.Rn (b_ S)) (_:∀p H',a' H H'->H' p<*.Rn (b_ (bz W S j))->Q QAp H')
inductive BC(cW P1:θ)QHZ QAI QAH QAR QA9:Prop
 | mk (m:θ) (L:LN) (W:LL) (B:γ Ψ) (_:vs=[.ξ m]) (_:u0 H m L W B) (_:g_ L W B) (_:W.β≤8) (_:AB H P1 R5) (_:∀(wk t wd y md:θ)(ks:LL)(ws:LL)(Td:γ θ)(R:LL)(Bm:γ Ψ)(H':Hp),BR P1 H H'->AB H' P1 R5->GB H' cW wk L t wd y md->H' wd<*.QV (Dn ws)->H' y<*.QV (Td.Q_ V.ξ)->Do H' Td R->H' md<*.QV (Bm.Q_ V.bl)->
  Bf (bz W) L (Bj W B) ks ws ks.β 0->CJ (bz W) L.β ks R->R.β=ks.β->Bm.β=R.β->(∀(r:χ)(k:LN)(b:Ψ),ks[r]?<*k->Bm[r]?<*b->b=vj k)->ks.β≤256->Q (.ξ wk) H')
instance kb:Rb:=Um 33
instance aD:Rb:=(n7 kb).LT 0 QBV
instance q_tg:QF:="walked_turned.<locals>.goals_of"
instance q_tl:QF:="walked_turned.<locals>.<lambda>"
instance jq:SH:=match (n7 kb).LT 2 QBV with
 |.Return (δ (.T0 _ [_,_,_,l] _ _)) _=>l
 |_=>.SG "" QAK
instance g_r:UR:=match jq with|.Us a _ _ _=>a|_=>([],[],ε,[],[],ε,[])
instance g_q:SH:=match jq with|.Us _ b _ _=>b|_=>.SG "" QAK
instance VC:TJ:=match jq with|.Us _ _ s _=>s|_=>hI aD
instance kN:UL:=match jq with|.Us _ _ _ p=>p|_=>((0),(0),(0),(0))
abbrev Ax:γ QCQ:=[(bw aD,q_tg,),(kN,q_tl,)]
def oZ:KJ ["state",Q0] "state" [Q0] (hI aD):=(5,1,!3,5,!0,1,!3,λ_ _=>rfl,λ_=>rfl)
def tR:Cv ["state"] ["state"] [] VC:=QAh
section
variable{P:Id}{w:QW}{K:RG}{mg:QF->ψ η}{υ:RC}{f c m:θ}{SE:γ QBC}{Tg pm ZQ:η}{L:LN}{W:LL}{B:γ Ψ}
def uw QEE(O:υ.SL QAa q_tg)(C:AJ υ SE (hI aD) [Q0] [.ξ m])(F:g_ L W B)(y:mg "len"=ε)(g:mg "range"=ε)(S:Df P w K mg υ "rooms_into" 1 [Q0,"place",Q4] sp_rinto):aa P w K mg υ lb 2 f QDW ["state"] (HP .t L (bz W) (fG W.β) λH=>u0 H m L W B):=by
 refine OX (X7:=[.ξ m]) ho ζ O oZ C QAE (λA KK s H Y Q E hr h=>?_)
 .obtain ⟨k,v,ζ,_⟩:=h;rfl
 .obtain ⟨k,v,ev,N,hU,X,q⟩:=h;obtain ζ:Y=v:=by simpa using ev
  refine(_,(hY (mq (gI ["state",Q0] ζ (!0) (E8 ζ g (l_ (CF NC (!4) y XW (l_ QIw)))) (λcl C fp s' H'=>(Bl,(oh S hr (Aa QAT QAF QAJ))))))),3);unfold z8 at N;rw[Cl (!0)]at N;let⟨b,ζ,hb⟩:=N;let I:=F.lt.hi;let hz:(tx L).β≤Φ:=n0 (by rw[hF];show QB I (!0));let⟨wy,mk,T,h1,h2,h3,h4,h5⟩:=id X;dsimp only[ix];refine JA (n:=L.β) (λR h=>(n_ h1 ai (0,hz,by rw[hF];show h))) (QB I (!0)) (λD j ys H'=>∃ts:γ θ,A3 (ys=ts.Q_ V.ξ) (ts.β=j) (∀QBB QCs,ts[i]?<*a->H' a<*.Rn (b_ (bz W k i)))) (λD J=>([],5,λi a e=>by simp at e)) ?_ ?_
  .intro D j ys H' R1 R2 J hj d p hp k1 k2;let⟨ts,ζ,l,o⟩:=hp;refine hG (4,0,m,b,L,W,B,j,k,3,X.SO d,F,hj,d _ _ hb,λt H4 M Z=>?_)
   .rw [Λ.Tq];rfl
   let r:=M _ _ p;refine k1 QB0 _ r (a'.Uw (d.ο M) J) (ts++[t],by rw[RU];rfl,by rw[q4,l];rfl,λi u e=>?_);rcases EI e with z|⟨rfl,ζ⟩
   .exact no (M _ _ (o i u z)) r (!5)
   .rw [l];show no Z r (!5)
  .intro D ys H' J d p hp;let⟨ts,ζ,l,o⟩:=hp;refine q D QFc H' d (.Rh (J,p)) (by rw[j',l]) λj x U=>?_;rw[na]at U;let⟨a,ha,ζ⟩:=AE U;unfold z8;rw[Cl (!0)];show(a,1,o j a ha)
def uv(i:υ.Δ f<*YK "<lambda>" q_tl g_r g_q VC SE pm c ZQ)(g:υ.SL QAa q_tl)(C:AJ υ SE VC [] [])(a:Hp->Prop)(U:LL):aa P w K mg υ lb 1 f (Ze "<lambda>" q_tl g_r g_q VC SE pm QAa ZQ) ["state"] (bG .t vj U a):=by
 refine bX (X7:=[]) i ζ g tR C QAE (λA KK s H vs Q E l h=>?_)
 .obtain ⟨k,v,ζ,_⟩:=h;rfl
 .obtain ⟨k,v,ζ,d,n,o,q⟩:=h;refine(_,C8 Km b' QAF QAS,3);unfold z8 at d;rw[Cl (!0)]at d;let⟨b,ζ,j⟩:=d;refine(0,b,0,.Rh (q5.of j),1,eJ _,3);let e:Es (.QG 0) (b_ k)=vj k:=eK 0 k;change Q (.bl (Es (.QG 0) (b_ k))) H;rw[e];show q H QIx
end
def c_h:p_ [Q0,Z0,"start"] [Q0] (hI kb):=r_
def CD(Wd:bj X U e H d)QDX QCn:AJ d b sc [] []:=
 (λy z c h1 h2=>Wd.Tp y z c (Vk y c h1) (Vk z c h2),Vh,λy c h=>Wd.SF y c (Vk y c h),1,λi y v h1 h2=>by simp at h1)
set_option maxHeartbeats 8000000 in
def EW{P:Id}QF3{oc kV Tg pm ct aT ar F ap j aA bo:η}(lk:K.ς f<*(oc,od,.VL (U_ "walked_turned" "walked_turned" (ri kb) (n7 kb) (hI kb) .ε kV Tg pm an QAa ct),cA))(bP:UH K QAa "walked_turned"=π)(lw:K.ς fw<*(aT,bm,.VL (U_ "walked" "walked" (ri A0) (n7 A0) QJl QKz ar F ap an2 j aA),osl2))(cw:UH K j "walked"=π)QDI(mw:mg "walked"<*.ξ fw)(lD:K.ς tD<*(bo,cB,.WA #[.ε] nD,ch))QCz(T:mg "len"=ε)(aH:mg "zip"=ε)(aM:mg "tuple"=ε)(J:mg "range"=ε)(ab:mg "enumerate"=ε)QI0 QDV(DR:∀υ:RC,Df P w K mg υ "rooms_into" 1 [Q0,"place",Q4] sp_rinto):aa P w K mg υ lb 6 f (U_ "walked_turned" "walked_turned" (ri kb) (n7 kb) (hI kb) .ε kV Tg pm an QAa ct) [Q0] (BC cW P1 Ax):=by
 refine pN lk bP c_h QAE QAw
 .obtain ⟨m,L,W,B,ζ,_⟩:=h;rfl
 .obtain ⟨m,L,W,B,ζ,hM,O,hW8,hT,q⟩:=h;refine(_,(h_ (FH (i:=1) (RD:=q_tg) (c:=c) (P0:=P1) (R5:=Ax) c_h.nd ζ QBu ζ hC hB (!3) (!3)) (h_ (nq 2 c_h.nd (Da FD (!4) aM VV (l_ (KI [Q0,Z0,"start"] ζ (!0) (ko ζ ab (l_ QBL)) (λcl C fp s' H'=>(iL (Fv QAJ),pv 0)))))) (hY (mq (JE (dvs:=[.Uv]) ζ mw kw (Kb (kV:=ar) (Tg:=F) (pm:=ap) (an:=an2) (VA:=j) (ct:=aA) lD) QDg (AN QBL (Aa QAT QAJ (bN (RD:=q_tl) (c:=c) (P0:=P1) (R5:=Ax) ζ hC hB (!3) (!3)))) QHG))))),3);refine(hT,λaB v c1 H1 aS a6 cM cD s1 a8 a3 a1=>?_);let a9:u0 H1 m L W B:=hM.Uh (FN s1 hT);let⟨wy,mk,b6,h1,h2,h3,h4,h5⟩:=id a9;let a4:=O.bl;let aV:=O.n60;dsimp only[AY];dsimp only[V4,aO,aJ,BE,AA,BF,Br];refine L6 (c:=mk) (λR h=>(n_ h1 cc h)) QKr h3 (λD i ys H'=>ys=b_ ((γ.Re i).VF λr=>B.LT r ν)) (by rw[j',a4];show n0 (QB aV (!0))) (λD hD=>rfl) ?_ ?_
  .intro D i x ys H' H3 R1 R2 hD hx M S hp g k1 k2;rw[na]at hx;let⟨b,p,ζ⟩:=AE hx;let eb:B.LT i ν=b:=by rw[nt,p];rfl
   refine(4,3);cases b with
   |π=>
    refine aG (0,k1 _ H3 (g _ _ S) (a'.Uw (M.ο g) hD) ?_);rw[hp,zg,eb];show(KE _ _).QI
   |ν=>
    refine aE (k2 H3 (M.ο g) (g _ _ S) ?_);rw[hp,zg,eb];simp
  intro D ys H2 hD M S hp;rw[j',a4]at hp;subst hp;refine(D,0,.RN (k9.of S,λst Vw=>?_));let s2:a' H1 (L2.QO H2 st QCk):=M.ο QHH;let X:L2.QO H2 st QCk st<*.Rn (b_ (Bj W B)):=hJ;generalize L2.QO H2 st QCk=H3 at s2 X;let N:=GC a8 s2;refine(n_ (s2 _ _ h1) ai (4,N,λb3 f2 c2 I aN a5 cK cC s4 bV a2 a0=>?_));let⟨cp,b1,_⟩:=id a8;let⟨co,cI,_⟩:=id N;let⟨bk,b0,bD,as⟩:=id bV;let nP:∀QBA QCX,H1 b<*.ext φ->b≠P1:=λ{b φ}e z=>by rw[z,b1]at e;cases e
  let Y:I v<*aY v Z0 q_tg (ri aD) (n7 aD) (hI aD) aB c1:=s4 v _ (nP a1) (s2 _ _ a1);let Z:I c1<*o5 c1 q_tg:=s4 c1 _ (nP a3) (s2 _ _ a3);let b2:u0 I m L W B:=(a9.SO s2).Uh (FN s4 N);let U:I st<*.Rn (b_ (Bj W B)):=FN s4 N _ _ X;let a7:∀u∈[v,f2,c1,c2],∃φ,I u<*.ext φ:=λu hu=>by
   simp only[QY,SM,TQ]at hu;rcases hu with ζ|rfl|rfl|rfl
   .exact (_,Y)
   .exact (_,a0)
   .exact (_,Z)
   .exact (_,a2)
  refine([v,f2,c1,c2],a7,λd Wd=>?_);let⟨cd,cx,cf,bg⟩:=Wd.ext v _ (!1) Y;let⟨cs,ce,bd⟩:=Wd.ext f2 _ (!1) a0;let b5:d.SL QK0 q_tg:=Wd.ext c1 _ (!1) Z;let b4:d.SL (.ξ c2) q_tl:=Wd.ext c2 _ (!1) a2;let C1:=jx (sc:=hI aD) (m:=m) Wd aS a6 ζ ζ ζ ζ (!3);let C2:=CD (sc:=VC) Wd aN a5;let Fw:mh K "walked" "walked" A0 fw _:=((aT,bm,.ξ tD,ar,F,ap,an2,j,aA,osl2,1,lw,cw),kw);refine((5),HQ cW .t L (bz W) vj (fG W.β) (λH=>u0 H m L W B) v f2,hr,J' Fw WT T aH ((uw bg b5 C1 O T J (DR d)).Tj (!0)) ((uv bd b4 C2 _ _).Tj (!0)) bg QCI bd QCI (.UW λus hl=>by let⟨_,ζ⟩:=DQ hl;rfl) (.UW λus hl=>by let⟨_,ζ⟩:=DQ hl;rfl) QH5,3);let l:∀QBA QH',I b<*o->QCi->b∉[v,f2,c1,c2]:=λ{b o}e ho p=>by
   let⟨φ,e2⟩:=a7 b p;rw[e]at e2;show ho φ (ψ.δ.Tp e2)
  refine(Bj W B,.ξ st,ε,1,O.lt,3,KM _ _,λk hk q hq=>KM _ _,QB (jX hW8) (!0),b2.Uh λb xs e=>by rw[Bn (l e QAD)];show e,λwk t wd y md ks cg ws ag R Bm H5 bi hW ht cH bt hy aU bM bf aC bl bs Vk le he bU=>?_)
  .unfold z8;rw[Cl (!0)];show(st,1,by change x_ _ I st=_;rw[Bn (l U QAD)];show U)
  let hR:R.β=ks.β:=by
   rcases he with z|⟨n,z,_⟩
   .exact z
   .cases z
  let YG:∀QBA QH',H5 b<*o->X8 [v,f2,c1,c2] I H5 b<*o:=λ{b o}e=>by
   rw[DI λp=>?_]
   .exact e
   .rw [bU b p]at e;cases e
  let az:∀QBA QH',I b<*o->X8 [v,f2,c1,c2] I H5 b<*o:=λ{b o}e=>by
   by_cases p:b∈[v,f2,c1,c2]
   .rw [He p];show e
   .exact YG (bi b o (by rw[Bn p];show e))
  rw[hR]at bf;let⟨dx,ew⟩:=hW.ex;show q wk t wd y md ks ws ag R Bm _ (λb o p e=>az (s4 b o p (s2 _ _ (s1 b o p e)))) (bk,az b0,bD,λx hx=>(as x hx).imp id λbS=>by let⟨c',e1,e2⟩:=bS;show(c',e1,az e2)) QJm (YG bt) (YG hy) (aU.1,λi a r e1 e2=>YG (aU.2 i a r e1 e2)) (YG bM) bf aC hR bl bs (QB le (jX hW8))
end Tu
namespace A
inductive yD QAm QCm QGC QAI QAH QAR QA9:Prop
 |mk (p:θ) QIT (_:vs=[.ξ p]) (_:H p<*.QV (b_ l)) (_:(∀x∈l,x<n)) (_:l.β≤50) (_:Rest H) (_:∀t H',a' H H'->bB .q H' (oo B l) t->Q QB0 H')
def a0q{R5 a:γ QCQ}(s:BR P0 H H')(j:AB H P0 R5)(i:P1≠P0)(h:AB H P1 a):AB H' P1 a:=by
 let⟨e,c,_⟩:=j;let⟨ps,k,g,b⟩:=h;refine QBE;rw[z,c]at d;cases d
inductive Qs(Xc P0 P1:θ)(R5 ZY:γ QCQ)QAI QAH QAR QE0:Prop
 |mk (m:θ) QA5 QC9 QAm (_:vs=[.ξ m]) QBf QCS (_:W.β≤8) (_:AB H P0 R5) (_:AB H P1 ZY) (_:P1≠P0) (_:(∀H',E (.ξ Xc) ε H')) (_:∀QEx(W':LL)QHo QBW,BV H H'->u0 H' f L W' B'->g_ L W' B'->(∀u:LN,QAL->(B'.LT (Sl L W' 0 u) ν=π↔Ag QAy u))->Q QAg H')
instance s_:Rb:=Um 41
instance bK:Rb:=(n7 s_).LT 1 QBV
instance bv:Rb:=(n7 s_).LT 2 QBV
instance q_ae:QF:="again.<locals>.entered"
instance q_ag:QF:="again.<locals>.goals_of"
instance q_al:QF:="again.<locals>.<lambda>"
instance x6:SH:=match (n7 s_).LT 3 QBV with
 |.Return QHI _=>l
 |_=>.SG "" QAK
instance g_r:UR:=match x6 with|.Us a _ _ _=>a|_=>([],[],ε,[],[],ε,[])
instance g_q:SH:=match x6 with|.Us _ b _ _=>b|_=>.SG "" QAK
instance VC:TJ:=match x6 with|.Us _ _ s _=>s|_=>hI bv
instance kN:UL:=match x6 with|.Us _ _ _ p=>p|_=>((0),(0),(0),(0))
abbrev ZY:γ QCQ:=[(bw bK,q_ae,),(bw bv,q_ag,),(kN,q_al,)]
def PN:Cv [Q4,"piece"] [Q4] ["piece"] (hI bK):=QAh
def PP:Cv ["state","entered","piece"] ["state"] ["entered","piece"] (hI bv):=QAh
def PQ:Cv ["state"] ["state"] [] VC:=QAh
section
variable{P:Id}{w:QW}{K:RG}{mg:QF->ψ η}{υ:RC}{f c m g:θ}{SE:γ QBC}{Tg pm ZQ:η}{L:LN}{W:LL}{B:γ Ψ}
def PR(X:υ.Δ f<*Ya "entered" q_ae (ri bK) (n7 bK) (hI bK) SE Tg pm c ZQ)(D:υ.SL QAa q_ae)(C:AJ υ SE (hI bK) ["piece"] [.ξ m])(F:g_ L W B)(Z:W.β≤8)(I:Df P w K mg υ "has_marked" 1 [Q0,Q4] sp_hasm)(b:Df P w K mg υ "lot_of" 1 [Q4] (bF K)):aa P w K mg υ lb 2 f (Ξ.W.fnX "entered" q_ae (ri bK) (n7 bK) (hI bK) SE .ε .ε Tg pm ε QAa ZQ) [Q4] QKg:=by
 refine Gx (X7:=[.ξ m]) X ζ D PN C QAE (λA KK s H vs Q E v h=>?_)
 .obtain ⟨p,l,ζ,_⟩:=h;rfl
 .obtain ⟨p,l,ζ,hp,hlW,hl50,Y,q⟩:=h;refine(_,(h_ (q_ (Fv (oh I v (oI QAJ QAF))) (hY (mq (Am (oI BX (oh b v (l_ (o_ Hb QAF (Bi (l_ b'))))))))) (so)) (hY (mq (Am (oI BX (oh b v QCw)))))),3);refine(4,m,p,_,L,W,B,l,1,Y,F,.RN ζ,hp,QB hl50 (!0),hlW,λU e=>(0,3));let S:∀x∈l,x<8:=λx k=>QD (hlW x k) Z;let WD:2≤Φ:=n0 (!0);unfold oo at q;cases M:l.U6 QGj with
  |π=>
   rw[IO M]at q;refine aG ?_;refine(0,n0 (by change 1≤16777216;decide),λd a=>?_);let s2:=e.ο (a'.QO (o:=.QV [.QG 0]) a);let R:=vr (u:=.QV [.QG 0]) (e _ _ hp) a;let O:L2.QO U d QI1 d<*.QV [.QG 0]:=hJ;generalize L2.QO U d QI1=T at s2 R O;refine(p,d,2,R,O,n0 (by rw[c_];change l.β+1≤16777216;show F7 hl50),λi y=>?_);let J:=s2.ο (a'.QO (o:=.QV QDw) y);let N:L2.QO T i (.QV QDw) i<*.QV (b_ (l++[0])):=by rw[hJ,b_,b_,RU];rfl
   generalize L2.QO T i (.QV QDw)=H3 at J N;refine(i,l++[0],1,k9.of N,λx k=>?_,λt H4 j n=>(WD,λst Vw=>q st _ (J.ο (j.ο QHH)) (t,(1),0,QA _,hJ,vr n Vw)));rcases Rp.mp k with z|z
   .exact S x z
   .rw [yl z];decide
  |ν=>
   rw[Cl (by rw[M];show Ψ.RE)]at q;refine aE (0,p,l,1,k9.of (e _ _ hp),S,λt H4 j n=>(WD,λst Vw=>q st _ (e.ο (j.ο QHH)) (t,(0),0,RO _,hJ,vr n Vw)))
def PU(ho:υ.Δ f<*Ya Z0 q_ag (ri bv) (n7 bv) (hI bv) SE Tg pm c ZQ)(ag:υ.SL QAa q_ag)(C:AJ υ SE (hI bv) ["entered","piece"] [.ξ g,.ξ m])(y:g_ L W B)(h8:W.β≤8)(as:Df P w K mg υ "lots_after" 1 [Q0,Q4] Wf)QKK(ap:yx K fd [Q4] [])(R:aa P w K mg υ lb 2 g fd [Q4] QKg):aa P w K mg υ lb 3 f (Ξ.W.fnX Z0 q_ag (ri bv) (n7 bv) (hI bv) SE .ε .ε Tg pm ε QAa ZQ) ["state"] (HP .q L (HV W B) (EK W.β) λH=>u0 H m L W B):=by
 refine Gx (X7:=[.ξ g,.ξ m]) ho ζ ag PP C QAE QAw
 .obtain ⟨k,v,ζ,_⟩:=h;rfl
 .obtain ⟨k,v,ζ,Y,hU,hM,q⟩:=h;let Z:=hr.Tj (j:=1) (!0);refine(_,(hY (mq (gI ["state","entered","piece"] ζ (!0) (CH (oh as Z (oI QAT QBL))) (λcl C fp s' H'=>(Bl,JC (i:=2) R hr hg ap QAT QCw))))),3);let⟨b0,S,ζ,aA,hS,M⟩:=sF hU;unfold z8 at Y;rw[Cl (!0)]at Y;let⟨b,ζ,c0,x,ks,e0,az,hb,an⟩:=Y;cases e0;let ar:=y.lt.hi;dsimp only[ix];refine(0,n_ hb aF (m,c0,_,L,W,B,S,1,hM,y,.Rh ζ,an,QB M (!0),hS,λl ls H1 X hl r ab=>?_));refine(l,9,.RN ζ,hl,λJ ov=>LR ov hl (λD j ys H'=>∃ts:γ θ,A3 (ys=ts.Q_ V.ξ) (ts.β=j) (∀QBB QCs,ts[i]?<*a->bB .q H' (HV W B (b0::S) i) a)) (by rw[j',r];show n0 (QB ar (!0))) (λD T=>([],5,λi a e=>by simp at e)) ?_ ?_)
  .intro D j x ys H' R1 R2 T I n F hp k1 k2;let⟨ts,ζ,d,p⟩:=hp;rw[na]at I;let⟨a,O,ζ⟩:=AE I;let hj:j<L.β:=by rw[<-r];show(l' O).1
   refine hG (1,0,a,gA W S j,1,n _ _ (ab j a O),ia y hS hj,by rw[gA,j'];show QB M (!0),(hM.SO X).SO n,λt H4 U ht=>?_);let N:=U _ _ F;let up:∀QH' b xs,H4 b<*.Rn xs->L2.QO H4 D o b<*.Rn xs:=λb xs e=>no e N (!5);refine k1 QB0 _ N (a'.Uw (n.ο U) T) (ts++[t],by rw[RU];rfl,by rw[q4,d];rfl,λi u e=>?_);rcases EI e with z|⟨rfl,ζ⟩
   .exact ((p i u z).SO λb xs e=>U _ _ e).SO up
   .rw [d];show ht.SO up
  .intro D ys H' T n F hp;let⟨ts,ζ,d,p⟩:=hp;rw[j',r]at d;refine q D QFc H' (X.ο n) (.Rh (Hd X T,F)) (by rw[j',d]) λj x I=>?_;rw[na]at I;let⟨a,O,ζ⟩:=AE I;unfold z8;rw[Cl (!0)];show(a,1,p j a O)
def PV(j:υ.Δ f<*YK "<lambda>" q_al g_r g_q VC SE pm c ZQ)(e:υ.SL QAa q_al)(C:AJ υ SE VC [] [])(a:Hp->Prop)(U:LL):aa P w K mg υ lb 1 f (Ze "<lambda>" q_al g_r g_q VC SE pm QAa ZQ) ["state"] (bG .q zO U a):=by
 refine bX (X7:=[]) j ζ e PQ C QAE (λA KK s H vs Q E o h=>?_)
 .obtain ⟨k,v,ζ,_⟩:=h;rfl
 .obtain ⟨k,v,ζ,d,p,r,q⟩:=h;refine(_,sT 0,3);unfold z8 at d;rw[Cl (!0)]at d;let⟨b,ζ,c0,x,ks,ζ,i,n,l⟩:=d;show(n_ n ai (q H QIx))
end
end A
namespace H
inductive mL(B1:γ Ψ)(n1 n2:χ)QGC QAI QAH QAR QA9:Prop
 |mk (r:χ) (p:θ) QIT (_:vs=[.QG (r:Λ),.ξ p]) (_:H p<*.QV (b_ l)) (_:r<n1) (_:(∀x∈l,x<n2)) (_:l.β≤50) (_:Rest H) (_:∀t H',a' H H'->bB .p H' (gh B1 r l) t->Q QB0 H')
def a0q{R5 a:γ QCQ}(s:BR P0 H H')(j:AB H P0 R5)(i:P1≠P0)(h:AB H P1 a):AB H' P1 a:=by
 let⟨e,c,_⟩:=j;let⟨ps,k,g,b⟩:=h;refine QBE;rw[z,c]at d;cases d
inductive Qt(Xc cOL P0 P1:θ)(R5 ZX:γ QCQ)QAI QAH QAR QE0:Prop
 |mk (m m2:θ) (L L':LN) QHp QD' QEd QJN (_:g_ L W1 B1) (_:u0 H m2 L' W2 B2) (_:g_ L' W2 B2) (_:W1.β≤8) (_:W2.β≤8) (_:AB H P0 R5) (_:AB H P1 ZX) (_:P1≠P0) (_:(∀H',L≠L'->E (.ξ cOL) ε H')) (_:(∀H',E (.ξ Xc) ε H')) (_:∀QEx(W':LL)QHo QBW,L=L'->BV H H'->u0 H' f L W' B'->g_ L W' B'->(∀u:LN,QAL->(B'.LT (Sl L W' 0 u) ν=π↔∃x v,u=x++v/\B1.LT QIs ν=π/\B2.LT (Sl L W2 0 v) ν=π))->Q QAg H')
instance wh:Rb:=Um 40
instance aW:Rb:=(n7 wh).LT 3 QBV
instance aD:Rb:=(n7 wh).LT 4 QBV
instance q_te:QF:="then.<locals>.entered"
instance q_tg:QF:="then.<locals>.goals_of"
instance q_tl:QF:="then.<locals>.<lambda>"
instance jq:SH:=match (n7 wh).LT 5 QBV with
 |.Return QHI _=>l
 |_=>.SG "" QAK
instance g_r:UR:=match jq with|.Us a _ _ _=>a|_=>([],[],ε,[],[],ε,[])
instance g_q:SH:=match jq with|.Us _ b _ _=>b|_=>.SG "" QAK
instance VC:TJ:=match jq with|.Us _ _ s _=>s|_=>hI aD
instance kN:UL:=match jq with|.Us _ _ _ p=>p|_=>((0),(0),(0),(0))
abbrev ZX:γ QCQ:=[(bw aW,q_te,),(bw aD,q_tg,),(kN,q_tl,)]
def PY:Cv [Z4,Q4,"ahead"] [Z4,Q4] ["ahead"] QJn:=QAh
def oZ:Cv ["state","goals","ahead","behind","entered"] ["state"] ["ahead","behind","entered"] (hI aD):=QAh
def tR:Cv ["state","behind"] ["state"] ["behind"] VC:=QAh
abbrev Two QAH(m m2:θ)QA5 QHp QD':Prop:=u0 H m L W1 B1/\u0 H m2 L W2 B2
section
variable{P:Id}{w:QW}{K:RG}{mg:QF->ψ η}{υ:RC}{f c m m2 g:θ}{SE:γ QBC}{Tg pm ZQ:η}{L:LN}{W1 W2:LL}{B1 B2:γ Ψ}
def yF(T:υ.Δ f<*Ya "entered" q_te (ri aW) (n7 aW) QJn SE Tg pm c ZQ)(v:υ.SL QAa q_te)(C:AJ υ SE QJn ["ahead"] [.ξ m])(z:g_ L W1 B1)(y:g_ L W2 B2)(X:W2.β≤8)(B:Df P w K mg υ "lot_of" 1 [Q4] (bF K)):aa P w K mg υ lb 2 f (Ξ.W.fnX "entered" q_te (ri aW) (n7 aW) QJn SE .ε .ε Tg pm ε QAa ZQ) [Z4,Q4] QFN:=by
 refine Gx (X7:=[.ξ m]) T ζ v PY C QAE (λA KK s H vs Q E S h=>?_)
 .obtain ⟨r,p,l,ζ,_⟩:=h;rfl
 .obtain ⟨r,p,l,ζ,hp,k,hlW,hl50,U,q⟩:=h;refine(_,(hY (mq (Am (oI QAF (oh B S (l_ (dH (Fv (Hl (sT 2) QAF)) (o_ Hb QAJ (Bi (l_ b'))) QAJ))))))),3);let⟨wy,mk,F,h1,h2,Y,h4,h5⟩:=id U.1;let b:∀x∈inT B1 r l,x<8:=λx R=>QD (eL hlW y.n1 x R) X;let WD:2≤Φ:=n0 (!0);unfold gh at q;refine(0,n_ h1 cc (0,EL Y (JB (jD z.bl k)) (0,3)));unfold inT at q b;cases I:B1.LT r ν with
  |π=>
   rw[IO I]at q b;refine aG ?_;refine(0,n0 (by change 1≤16777216;decide),λd a=>?_);let s2:=a'.QO (o:=.QV [.QG 0]) a;let N:=vr (u:=.QV [.QG 0]) hp a;let M:L2.QO H d QI1 d<*.QV [.QG 0]:=hJ;generalize L2.QO H d QI1=O at s2 N M;refine(p,d,2,N,M,n0 (by rw[c_];change l.β+1≤16777216;show F7 hl50),λe n=>?_);let D:=s2.ο (a'.QO (o:=.QV QDw) n);let J:L2.QO O e (.QV QDw) e<*.QV (b_ (l++[0])):=by rw[hJ,b_,b_,RU];rfl
   generalize L2.QO O e (.QV QDw)=H3 at D J;show(e,l++[0],1,k9.of J,b,λt Z i j=>(WD,λst Vw=>q st _ (D.ο (i.ο QHH)) (t,r,0,hJ,vr j Vw)))
  |ν=>
   rw[Cl (by rw[I];show Ψ.RE)]at q b;show aE (0,p,l,1,k9.of hp,b,λt Z i j=>(WD,λst Vw=>q st _ (i.ο QHH) (t,r,0,hJ,vr j Vw)))
def uw QEE(aB:υ.SL QAa q_tg)(C:AJ υ SE (hI aD) ["ahead","behind","entered"] [.ξ m,.ξ m2,.ξ g])(J:g_ L W1 B1)(ar:g_ L W2 B2)(N:mg "zip"=ε)(aN:Df P w K mg υ "lots_after" 1 [Q0,Q4] Wf)QKK(aH:yx K fd [Z4,Q4] [])(R:aa P w K mg υ lb 2 g fd [Z4,Q4] QFN):aa P w K mg υ lb 3 f QDW ["state"] (HP .p L (HW W1 B1 W2) (Ed W1.β W2.β) λH=>Two H m m2 L W1 W2 B1 B2):=by
 refine Gx (X7:=[.ξ m,.ξ m2,.ξ g]) ho ζ aB oZ C QAE QAw
 .obtain ⟨k,v,ζ,_⟩:=h;rfl
 .obtain ⟨k,v,ζ,hv,hU,hM,q⟩:=h;let as:=hr.Tj (j:=1) (!0);refine(_,(h_ (nq 1 oZ.nd (oh aN as (oI QAi QBL))) (hY (mq (KI ["state","goals","ahead","behind","entered"] ζ (!0) (Hg ζ N (oI (Hl (sT 2) QBL) QAJ)) (λcl C fp s' H'=>(Bl,JC (i:=6) R hr hg aH QEo QCG)))))),3);let⟨U,S,ζ,Y,hS,ab⟩:=mv hU;unfold z8 at hv;rw[Cl (!0)]at hv;let⟨b,ζ,c0,x,ks,e0,hb,aC⟩:=hv;cases e0;let aM:=J.lt.hi;let⟨an,ag⟩:=hM;refine(0,n_ hb aF (m2,c0,_,L,W2,B2,S,1,ag,ar,.Rh ζ,aC,QB ab (!0),hS,λl ls H1 T hl aA az=>?_));let⟨wy,mk,B,h1,h2,h3,h4,h5⟩:=id (an.SO T);obtain⟨rr,X⟩:∃rr,B[U]?<*rr:=(B[U]'(by rw[h4];show Y),j_ _);let⟨ws,e5,e6⟩:=h5 _ _ X;let y:=J.Yc ws (Ab e5);let ew:W1.LT U []=ws:=by rw[nt,e5];rfl
  dsimp only[ix];refine NR (d1:=.tp rr) (d2:=.ls l) (λR h=>(n_ h1 aF (n_ (T _ _ hb) ai (EL h2 (DC V.ξ X) (0,h))))) e6 hl (by rw[c_,j',aA];show y.1)
   (λD j ys H'=>∃ts:γ θ,A3 (ys=ts.Q_ V.ξ) (ts.β=j) (∀QBB QCs,ts[i]?<*a->bB .p H' (HW W1 B1 W2 (U::S) i) a)) (by rw[c_,y.1];show n0 (QB aM (!0))) (λD hD=>([],5,λi a e=>by simp at e)) ?_ ?_
  .intro D j x z ys H' H3 R1 hD M hz r I hp d k1;let⟨ts,ζ,n,F⟩:=hp;let hj:j<ws.β:=by have:=(l' M).1;rwa [c_]at this
   let Z:j<L.β:=by rw[<-y.1];show hj
   rw[B7 hj]at M;cases M;rw[na]at hz;let⟨a,ha,ζ⟩:=AE hz;let O:=T.ο (r.ο d);let eg:ws.LT j 0=UU W1 U j:=by unfold UU;rw[ew]
   refine(1,4,ws.LT j 0,a,gA W2 S j,1,(r.ο d) _ _ (az j a ha),by rw[eg];show Cj J Y Z,ia ar hS Z,by rw[gA,j'];show QB ab (!0),(an.SO O,ag.SO O),λt H4 s4 ht=>?_);rw[eg]at ht;let ap:=s4 _ _ (d _ _ I);let up:∀QH' b xs,H4 b<*.Rn xs->L2.QO H4 D o b<*.Rn xs:=λb xs e=>no e ap (!5);refine k1 QB0 _ ap (a'.Uw (r.ο (d.ο s4)) hD) (ts++[t],by rw[RU];rfl,by rw[q4,n];rfl,λi u e=>?_);rcases EI e with z|⟨rfl,ζ⟩
   .exact ((F i u z).SO λb xs e=>s4 _ _ (d _ _ e)).SO up
   .rw [n];show ht.SO up
  .intro D ys H' hD r I hp;let⟨ts,ζ,n,F⟩:=hp;rw[c_,y.1]at n;refine q D QFc H' (T.ο r) (.Rh (Hd T hD,I)) (by rw[j',n]) λj x M=>?_;rw[na]at M;let⟨a,ha,ζ⟩:=AE M;unfold z8;rw[Cl (!0)];show(a,1,F j a ha)
def uv(r:υ.Δ f<*YK "<lambda>" q_tl g_r g_q VC SE pm c ZQ)(d:υ.SL QAa q_tl)(C:AJ υ SE VC ["behind"] [.ξ m2])(j:g_ L W2 B2)(l:Df P w K mg υ "has_marked" 1 [Q0,Q4] sp_hasm):aa P w K mg υ lb 2 f (Ze "<lambda>" q_tl g_r g_q VC SE pm QAa ZQ) ["state"] (bG .p (zN B2) (Ed W1.β W2.β) λH=>Two H m m2 L W1 W2 B1 B2):=by
 refine bX (X7:=[.ξ m2]) r ζ d tR C QAE (λA KK s H vs Q E o h=>?_)
 .obtain ⟨k,v,ζ,_⟩:=h;rfl
 .obtain ⟨k,v,ζ,a,u,z,q⟩:=h;refine(_,(oh l o (oI QAJ QBL)),3);let⟨D,S,ζ,n,y,i⟩:=mv u;unfold z8 at a;rw[Cl (!0)]at a;let⟨b,ζ,c0,x,ks,B,t,e⟩:=a;cases B;show(0,n_ t aF (m2,c0,_,L,W2,B2,S,1,z.2,j,.Rh ζ,e,QB i (!0),y,q))
end
end H
instance Du:Rb:=Um 43
instance bJ:Rb:=(n7 Du).LT 1 QBV
instance bI:Rb:=(n7 Du).LT 2 QBV
instance q_pg:QF:="paired.<locals>.goals_of"
instance q_pm:QF:="paired.<locals>.is_marked"
abbrev cZ:γ QCQ:=[(bw bJ,q_pg,),(bw bI,q_pm,)]
def PZ:Cv ["pair",Q0,"second"] ["pair"] [Q0,"second"] (hI bJ):=QAh
def P9:Cv ["pair","is_wanted",Q0,"second"] ["pair"] ["is_wanted",Q0,"second"] (hI bI):=QAh
abbrev Two QAH(m m2:θ)QA5 QHp QD':Prop:=u0 H m L W1 B1/\u0 H m2 L W2 B2
section
variable{P:Id}{w:QW}{K:RG}{mg:QF->ψ η}{υ:RC}{f c m m2 g cg:θ}{SE:γ QBC}{Tg pm ZQ:η}{L:LN}{W1 W2:LL}{B1 B2:γ Ψ}{Xt:Ψ->Ψ->Ψ}
def P_(ho:υ.Δ f<*Ya Z0 q_pg (ri bJ) (n7 bJ) (hI bJ) SE Tg pm c ZQ)(S:υ.SL QAa q_pg)(C:AJ υ SE (hI bJ) [Q0,"second"] [.ξ m,.ξ m2])(J:g_ L W1 B1)(X:g_ L W2 B2)(u:mg "list"=ε)(z:mg "zip"=ε):aa P w K mg υ lb 1 f (Ξ.W.fnX Z0 q_pg (ri bJ) (n7 bJ) (hI bJ) SE .ε .ε Tg pm ε QAa ZQ) ["pair"] (HP .t L (gP W1 W2) QKh λH=>Two H m m2 L W1 W2 B1 B2):=by
 refine Gx (X7:=[.ξ m,.ξ m2]) ho ζ S PZ C QAE QAw
 .obtain ⟨k,v,ζ,_⟩:=h;rfl
 .obtain ⟨k,v,ζ,N,hU,hM,q⟩:=h;refine(_,(hY (mq (kr ζ ζ u ζ z (oI (Hl QIw QBL) (Hl (sT 2) QBL))))),3);let⟨a,b,ζ,ha,hb⟩:=my hU;unfold z8 at N;rw[Cl (!0)]at N;let⟨pp,ζ,O⟩:=N;let⟨U,T⟩:=hM;let⟨wy,mk,n,h1,h2,h3,h4,h5⟩:=U;let⟨ab,ag,d,g1,g2,g3,g4,g5⟩:=T;obtain⟨D,I⟩:∃D,n[a]?<*D:=(n[a]'(by rw[h4];show ha),j_ _);obtain⟨M,p⟩:∃D,d[b]?<*D:=(d[b]'(by rw[g4];show hb),j_ _);let⟨ws,e5,e6⟩:=h5 _ _ I;let⟨y,f5,f6⟩:=g5 _ _ p;let i:=J.Yc ws (Ab e5);let o:=X.Yc y (Ab f5);let an:=J.lt.hi;let r:H pp<*.Rn [.QG (a:Λ),.QG (b:Λ)]:=O;refine(n_ h1 aF (n_ r ai (EL h2 (DC V.ξ I) ?_)));refine(n_ g1 aF (n_ r aF (EL g2 (DC V.ξ p) ?_)));refine(D,M,9,e6,f6,by rw[c_,c_,i.1,o.1],by rw[c_,i.1];lia,λl ts H2 B nd R sm hl ht=>?_);refine q l QFc H2 sm (.Rh (R,hl)) (by rw[j',B,c_];show i.1) λj x Z=>?_;rw[na]at Z;let⟨t,F,ζ⟩:=AE Z;let hj:j<L.β:=by have:=(l' F).1;rw[B,c_,i.1]at this;show this
  unfold z8;rw[Cl (!0)];let ew:W1.LT a []=ws:=by rw[nt,e5];rfl
  let Y:W2.LT b []=y:=by rw[nt,f5];rfl
  refine(t,1,3);let e:=ht j t _ _ F (B7 (by rw[i.1];show hj)) (B7 (by rw[o.1];show hj));change _<*HO.Rn (b_ [UU W1 a j,UU W2 b j]);rw[e];unfold UU;rw[ew,Y];rfl
def P'(J:υ.Δ f<*Ya Q7 q_pm (ri bI) (n7 bI) (hI bI) SE Tg pm c ZQ)(n:υ.SL QAa q_pm)(C:AJ υ SE (hI bI) ["is_wanted",Q0,"second"] [.ξ g,.ξ m,.ξ m2])(x:g_ L W1 B1)(u:g_ L W2 B2)(M:υ.Δ g<*(oc,od,.VL z,sl))(o:yx K z ["one","two"] [])(R:aa P w K mg υ lb 1 g z ["one","two"] (cR Xt)):aa P w K mg υ lb 2 f (Ξ.W.fnX Q7 q_pm (ri bI) (n7 bI) (hI bI) SE .ε .ε Tg pm ε QAa ZQ) ["pair"] (bG .t (NU Xt B1 B2) QKh λH=>Two H m m2 L W1 W2 B1 B2):=by
 refine Gx (X7:=[.ξ g,.ξ m,.ξ m2]) J ζ n P9 C QAE (λA KK s H vs Q E I h=>?_)
 .obtain ⟨k,v,ζ,_⟩:=h;rfl
 .obtain ⟨k,v,ζ,j,S,T,q⟩:=h;refine(_,(hY (mq (JC (i:=1) R I M o QAJ (oI (Hl (sT 2) QBL) (Hl (sT 3) QBL))))),3);let⟨a,b,ζ,O,N⟩:=my S;unfold z8 at j;rw[Cl (!0)]at j;let⟨D,ζ,l⟩:=j;let⟨r,p⟩:=T;let⟨Z,mk,y,h1,h2,U,h4,h5⟩:=r;let⟨B,F,e,Y,g2,X,g4,g5⟩:=p;let d:H D<*.Rn [.QG (a:Λ),.QG (b:Λ)]:=l;show(1,n_ h1 cc (n_ d ai (EL U (JB (jD x.bl O)) (n_ Y cc (n_ d aF (EL X (JB (jD u.bl N)) (9,q H (a'.X9 _))))))))
end
instance Fe:Rb:=Um 36
instance Kh:QF:="either.<locals>.<lambda>"
instance K3:SH:=match (n7 Fe).LT 0 QBV with
 |.Return QF9 _=>l
 |_=>.SG "" QAK
instance lW:UR:=match K3 with|.Us a _ _ _=>a|_=>([],[],ε,[],[],ε,[])
instance lT:SH:=match K3 with|.Us _ b _ _=>b|_=>.SG "" QAK
instance x_either:TJ:=match K3 with|.Us _ _ s _=>s|_=>hI Du
instance uh:UL:=match K3 with|.Us _ _ _ p=>p|_=>((0),(0),(0),(0))
abbrev K4:γ QCQ:=[(uh,Kh,)]
def qy:Cv ["one","two"] ["one","two"] [] x_either:=QAh
def qD:p_ [Q0,"second"] [Q0,"second"] (hI Fe):=r_
def qR(i:υ.Δ f<*YK "<lambda>" Kh lW lT x_either d pm c g)(e:υ.SL QAa Kh)(C:AJ υ d x_either [] []):aa P w K mg υ lb 1 f (Ze "<lambda>" Kh lW lT x_either d pm QAa g) ["one","two"] (cR QEv):=by
 refine bX (X7:=[]) i ζ e qy C QAE QFC
 .obtain ⟨a,b,ζ,_⟩:=h;rfl
 .obtain ⟨a,b,ζ,q⟩:=h;refine(_,(Oh QAF (Fy QAJ)),3);cases a with
  |π=>show(4,aG q)
  |ν=>show(4,aE (0,q))
instance Ff:Rb:=Um 37
instance dB:QF:="both.<locals>.<lambda>"
instance js:SH:=match (n7 Ff).LT 0 QBV with
 |.Return QF9 _=>l
 |_=>.SG "" QAK
instance wc:UR:=match js with|.Us a _ _ _=>a|_=>([],[],ε,[],[],ε,[])
instance vT:SH:=match js with|.Us _ b _ _=>b|_=>.SG "" QAK
instance x_both:TJ:=match js with|.Us _ _ s _=>s|_=>hI Du
instance zD:UL:=match js with|.Us _ _ _ p=>p|_=>((0),(0),(0),(0))
abbrev K5:γ QCQ:=[(zD,dB,)]
def wR:Cv ["one","two"] ["one","two"] [] x_both:=QAh
def wW:p_ [Q0,"second"] [Q0,"second"] (hI Ff):=r_
def xn(i:υ.Δ f<*YK "<lambda>" dB wc vT x_both d pm c g)(e:υ.SL QAa dB)(C:AJ υ d x_both [] []):aa P w K mg υ lb 1 f (Ze "<lambda>" dB wc vT x_both d pm QAa g) ["one","two"] (cR QEw):=by
 refine bX (X7:=[]) i ζ e wR C QAE QFC
 .obtain ⟨a,b,ζ,_⟩:=h;rfl
 .obtain ⟨a,b,ζ,q⟩:=h;refine(_,(Gn QAF (Fy QAJ)),3);cases a with
  |π=>show(4,aG (0,q))
  |ν=>show(4,aE q)
instance Fh:Rb:=Um 38
instance dA:QF:="less.<locals>.<lambda>"
instance jr:SH:=match (n7 Fh).LT 0 QBV with
 |.Return QF9 _=>l
 |_=>.SG "" QAK
instance wb:UR:=match jr with|.Us a _ _ _=>a|_=>([],[],ε,[],[],ε,[])
instance vS:SH:=match jr with|.Us _ b _ _=>b|_=>.SG "" QAK
instance x_less:TJ:=match jr with|.Us _ _ s _=>s|_=>hI Du
instance zC:UL:=match jr with|.Us _ _ _ p=>p|_=>((0),(0),(0),(0))
abbrev K6:γ QCQ:=[(zC,dA,)]
def wQ:Cv ["one","two"] ["one","two"] [] x_less:=QAh
def wV:p_ [Q0,"second"] [Q0,"second"] (hI Fh):=r_
def xm(i:υ.Δ f<*YK "<lambda>" dA wb vS x_less d pm c g)(e:υ.SL QAa dA)(C:AJ υ d x_less [] []):aa P w K mg υ lb 1 f (Ze "<lambda>" dA wb vS x_less d pm QAa g) ["one","two"] (cR QEG):=by
 refine bX (X7:=[]) i ζ e wQ C QAE QFC
 .obtain ⟨a,b,ζ,_⟩:=h;rfl
 .obtain ⟨a,b,ζ,q⟩:=h;refine(_,(Gn QAF (Fy (A2 QAJ))),3);cases a with
  |π=>show(4,aG (4,q))
  |ν=>show(4,aE q)
namespace H
def h_g:p_ [Q0,"second","ahead","behind","entered",Z0] [Q0,"second"] (hI wh):=r_
set_option maxHeartbeats 8000000 in
def FY{P:Id}QF3 QC7 QCJ QGc(i1:(P1,ZX,)∈ts){oc kV Tg pm ct b5 bo aN bk U bP cV:η}(lk:K.ς f<*(oc,od,.VL (U_ "then" "then" (ri wh) (n7 wh) (hI wh) .ε kV Tg pm an QAa ct),eB))(dn:UH K QAa "then"=π)(lw:K.ς fw<*(b5,cU,.VL (U_ "walked" "walked" (ri A0) (n7 A0) QJl QKz bo aN bk an2 U bP),osl2))(cw:UH K U "walked"=π)QDI(mw:mg "walked"<*.ξ fw)(lD:K.ς tD<*(cV,eC,.WA #[.ε] nD,er))QCz(b0:mg "len"=ε)(a0:mg "zip"=ε)QI0 QDV(DL:∀υ:RC,Df P w K mg υ "lots_after" 1 [Q0,Q4] Wf)(DH:∀υ:RC,Df P w K mg υ "has_marked" 1 [Q0,Q4] sp_hasm)(DT:∀υ:RC,Df P w K mg υ "lot_of" 1 [Q4] (bF K))(d5:Df P w K mg υ "need_same_letters" 1 [Q0,"second"] YV)(cM:Df P w K mg υ "least" 7 [Q0] QJo)(d6:A' P w K mg υ "told" 4 [Q8] (Ic cW Xc)):aa P w K mg υ QB1 8 f (U_ "then" "then" (ri wh) (n7 wh) (hI wh) .ε kV Tg pm an QAa ct) [Q0,"second"] (cb Xc ts dN):=by
 refine HU lk dn h_g QAE QAw
 .obtain ⟨m,m2,L,W1,Z,B1,B2,ζ,_⟩:=h;rfl
 .obtain ⟨n1,n2,L,V1,V2,D1,D2,ζ,hN1,hNa1,cD,hNa2,h18,h28,hA,qE,q⟩:=h;let cC:=hA _ i0;let dc:=hr.Tj (j:=1) (!0);let da:=hr.Tj (j:=2) (!0);let c8:=hr.Tj (j:=4) (!0);let c7:=hr.Tj (j:=5) (!0);refine(_,(h_ (AH (oh d5 dc QCG)) (h_ (nq 2 h_g.nd (oh cM hr QCw)) (h_ (nq 3 h_g.nd (oh cM hr QFj)) (h_ (FH (i:=4) (RD:=q_te) (c:=c) (P0:=P1) (R5:=ZX) h_g.nd ζ (Or.Rh ζ) ζ hC hB (!3) (!3)) (h_ (FH (i:=5) (RD:=q_tg) (c:=c) (P0:=P1) (R5:=ZX) h_g.nd ζ QBu ζ hC hB (!3) (!3)) (hY (mq (Ct d6 c8 QAf (l_ (JE (dvs:=[.Uv]) ζ mw kw (Kb (kV:=bo) (Tg:=aN) (pm:=bk) (an:=an2) (VA:=U) (ct:=bP) lD) QDg (AN (sT 2) (Aa (ua (i:=4) [Z4,Q4] QBd (oI b' QFu) QHG) QB4 (bN (RD:=q_tl) (c:=c) (P0:=P1) (R5:=ZX) ζ hC hB (!3) (!3)))) QHG)))))))))),3);refine(4,n1,n2,L,V1,D1,V2,D2,1,hN1,cD,3);refine(0,n1,L,V1,D1,1,hN1,hNa1,cC,λm W1 B1 Ha sa bt d1 T=>?_);let kA:KT ts H Ha:=KT.ofX nd i0 sa cC bt;let cP:=kA.sm;refine(0,n2,L,V2,D2,1,cD.Uh cP.Rn,hNa2,bt,λm2 Z B2 H0 sb dv d0 S=>?_);let F:=T.Wj;let J:=S.Wj;let d2:W1.β≤8:=QB T.TL h18;let aM:Z.β≤8:=QB S.TL h28;let kB:KT ts Ha H0:=KT.ofX nd i0 sb bt dv;let hT:AB H0 P1 ZX:=kB.tb (kA.tb hA) _ i1;let cO:=kB.sm;let aH:Two H0 m m2 L W1 Z B1 B2:=(d1.Uh cO.Rn,d0);refine(hT,λI C c1 H1 a3 bg e5 eO s1 cB cl cg=>(cB,λaS Y X H2 b2 cp e4 eN s2 bM dp dk=>?_));let b4:BR P1 H0 H2:=JL s1 s2;let a2:=FN b4 hT;let D:Two H2 m m2 L W1 Z B1 B2:=(aH.1.Uh a2,aH.2.Uh a2);let⟨wy,mk,ee,h1,h2,h3,h4,h5⟩:=id D.1;let⟨eu,dT,_⟩:=id cB;let⟨et,dz,_⟩:=id bM;let b6:∀QBA QCX,H1 b<*.ext φ->b≠P1:=λ{b φ}e z=>by rw[z,dT]at e;cases e
  let cX:∀QBA QCX,H2 b<*.ext φ->b≠P1:=λ{b φ}e z=>by rw[z,dz]at e;cases e
  let az:H2 C<*aY C "entered" q_te (ri aW) (n7 aW) QJn I c1:=s2 _ _ (b6 cg) cg;let a9:H2 c1<*o5 c1 q_te:=s2 _ _ (b6 cl) cl;refine(n_ h1 ai (C,1,(8,8,8,_,az),RO _,λel dm=>?_));let sE:a' H2 (L2.QO H2 el QCF):=a'.QO dm;let aA:L2.QO H2 el QCF el<*.QV (b_ []):=hJ;generalize L2.QO H2 el QCF=H2' at sE aA;let as:=sE _ _ az;let a8:=sE _ _ a9;let aB:Two H2' m m2 L W1 Z B1 B2:=(D.1.SO sE,D.2.SO sE);let cx:∀u∈[C,c1],∃φ,H2' u<*.ext φ:=λu W=>by
   simp only[QY,SM,TQ]at W;rcases W with ζ|rfl
   .exact (_,as)
   .exact (_,a8)
  refine((8,8,8,_,as),[C,c1],cx,λM bU=>?_);let⟨eg,ev,ek,d4⟩:=bU.ext C _ (!1) as;let ea:M.SL QK0 q_te:=bU.ext c1 _ (!1) a8;let C5:AJ M I QJn ["ahead"] [.ξ m]:=GF bU a3 bg ζ λi y v l B=>by
   match i,l,B with
   |0,l,B=>cases l;cases B;show QKL
   |i+1,l,_=>simp at l
  let ar:∀QBA QH',H2' b<*o->QCi->b∉[C,c1]:=λ{b o}e ho O=>by
   let⟨φ,B⟩:=cx b O;rw[e]at B;show ho φ (ψ.δ.Tp B)
  let a1:∀b xs,H2' b<*.Rn xs->x_ [C,c1] H2' b<*.Rn xs:=λb xs e=>by rw[Bn (ar e QAD)];show e
  refine((2),mL B1 W1.β Z.β QKM,_,da,.UW λus hl=>by let⟨_,_,ζ⟩:=Hm hl;rfl,yF d4 ea C5 F J aM (DT M),(0),el,[],ζ,by rw[Bn (ar aA QAD)];show aA,F.n1,!1,!1,(aB.1.Uh a1,aB.2.Uh a1),λst bV cS bs dt=>?_);let s3:a' H2 (X8 [C,c1] H2' bV):=λb o e=>by
   let e':=sE _ _ e;by_cases O:b∈[C,c1]
   .rw [He O];show e'
   .rw [DI O];show cS b o (by rw[Bn O];show e')
  let a4:bB .p (X8 [C,c1] H2' bV) QKD st:=bs.SO λb xs e=>by
   rw[DI λO=>?_]
   .exact e
   .rw [dt b O]at e;cases e
  generalize X8 [C,c1] H2' bV=H3 at s3 a4;let bD:=GC bM s3;refine(0,bD,λbS f3 c3 N b1 co e3 eH s4 cA ch cf=>?_);let⟨es,e0,eT,dr⟩:=id cA;let aT:∀QBA QCX,H2 b<*.ext φ->N b<*.ext φ:=λe=>s4 _ _ (cX e) (s3 _ _ e);let a6:N C<*aY C "entered" q_te (ri aW) (n7 aW) QJn I c1:=aT az;let bd:N c1<*o5 c1 q_te:=aT a9;let a5:N Y<*aY Y Z0 q_tg (ri aD) (n7 aD) (hI aD) aS X:=aT dk;let a7:N X<*o5 X q_tg:=aT dp;let ap:=FN s4 bD;let aC:Two N m m2 L W1 Z B1 B2:=((D.1.SO s3).Uh ap,(D.2.SO s3).Uh ap);let ce:bB .p N QKD st:=a4.SO ap;let cs:∀u∈[C,Y,f3,c1,X,c3],∃φ,N u<*.ext φ:=λu W=>by
   simp only[QY,SM,TQ]at W;rcases W with ζ|rfl|rfl|rfl|rfl|rfl
   .exact (_,a6)
   .exact (_,a5)
   .exact (_,cf)
   .exact (_,bd)
   .exact (_,a7)
   .exact (_,ch)
  refine([C,Y,f3,c1,X,c3],cs,λg Wd=>?_);let⟨ej,eA,ep,cK⟩:=Wd.ext C _ (!1) a6;let⟨ei,ez,eo,cI⟩:=Wd.ext Y _ (!1) a5;let⟨ey,en,cH⟩:=Wd.ext f3 _ (!1) cf;let ed:g.SL QK0 q_te:=Wd.ext c1 _ (!1) bd;let ec:g.SL (.ξ X) q_tg:=Wd.ext X _ (!1) a7;let eb:g.SL (.ξ c3) q_tl:=Wd.ext c3 _ (!1) ch;let C1:AJ g I QJn ["ahead"] [.ξ m]:=GF Wd a3 bg ζ λi y v l B=>by
   match i,l,B with
   |0,l,B=>cases l;cases B;show QKL
   |i+1,l,_=>simp at l
  let C2:AJ g aS (hI aD) ["ahead","behind","entered"] [.ξ m,.ξ m2,.ξ C]:=GF Wd b2 cp ζ λi y v l B=>by
   match i,l,B with
   |0,l,B=>cases l;cases B;show QKL
   |1,l,B=>cases l;cases B;show(((3),5),5)
   |2,l,B=>cases l;cases B;show(((4),5),5)
   |i+3,l,_=>simp at l
  let C3:AJ g bS VC ["behind"] [.ξ m2]:=GF Wd b1 co ζ λi y v l B=>by
   match i,l,B with
   |0,l,B=>cases l;cases B;show(((3),5),5)
   |i+1,l,_=>simp at l
  let Fw:mh K "walked" "walked" A0 fw _:=((b5,cU,.ξ tD,bo,aN,bk,an2,U,bP,osl2,1,lw,cw),kw);refine((5),HQ cW .p L (HW W1 B1 Z) (zN B2) (Ed W1.β Z.β) QKM Y f3,c7,J' Fw WT b0 a0 ((uw cI ec C2 F J a0 (DL g) cK (.UW λus hl=>by let⟨_,_,ζ⟩:=Hm hl;rfl) (yF cK ed C1 F J aM (DT g))).Tj (!0)) ((uv cH eb C3 J (DH g)).Tj (!0)) cI QCI cH QCI (.UW λus hl=>by let⟨_,ζ⟩:=DQ hl;rfl) (.UW λus hl=>by let⟨_,ζ⟩:=DQ hl;rfl) QJJ,3);let bm:∀QBA QH',N b<*o->QCi->b∉[C,Y,f3,c1,X,c3]:=λ{b o}e ho O=>by
   let⟨φ,B⟩:=cs b O;rw[e]at B;show ho φ (ψ.δ.Tp B)
  let ag:∀b xs,N b<*.Rn xs->x_ [C,Y,f3,c1,X,c3] N b<*.Rn xs:=λb xs e=>by rw[Bn (bm e QAD)];show e
  let aV:=wB (n1:=W1.β) Z.β d2;refine(gh B1 0 [],.ξ st,ε,1,F.lt,3,lv aM J.n1 F.n1 (!1),xT F J aM,QB aV (!0),(aC.1.Uh ag,aC.2.Uh ag),λwk t wd y md ks eq ws bi R Bm H5 cN hW ht eS c5 hy cd dd bf ab bl c4 Vk le he ds=>?_)
  .unfold z8;rw[Cl (!0)];show(st,1,ce.SO ag)
  let hR:R.β=ks.β:=by
   rcases he with z|⟨n,z,_⟩
   .exact z
   .cases z
  let YG:∀QBA QH',H5 b<*o->X8 [C,Y,f3,c1,X,c3] N H5 b<*o:=λ{b o}e=>by
   rw[DI λO=>?_]
   .exact e
   .rw [ds b O]at e;cases e
  let d3:∀QBA QH',N b<*o->X8 [C,Y,f3,c1,X,c3] N H5 b<*o:=λ{b o}e=>by
   by_cases O:b∈[C,Y,f3,c1,X,c3]
   .rw [He O];show e
   .exact YG (cN b o (by rw[Bn O];show e))
  rw[hR]at bf;let⟨dx,ew⟩:=hW.ex;let kT:KT ts H (X8 [C,Y,f3,c1,X,c3] N H5):=(kA.ο (kB.ο ((KT.ofX nd i1 b4 hT bM).ο ((KT.of s3).ο (KT.ofX nd i1 s4 bD cA))))).ο (KT.of λb o e=>d3 e);let aU:=JS (Bm:=Bm) F.lt bf ab hR bl (QB le (QB aV (!0)));refine(wk,t,wd,y,md,bi,L,R,Bm,ws,1,QJm,YG hy,(cd.1,λi a r l B=>YG (cd.2 i a r l B)),YG dd,YG c5,by rw[hR];show bf.TL.QI,aU,λd H' s' p=>qE d H' QDx p,λmm k ff H6 hm b3 de s6 hf dV=>?_);refine q ff _ _ H6 QI2 dV (Hi hm aU) (JV de) (JU bf ab hR aU b3 hm) λu W=>?_;unfold AC dN;dsimp only;rw[HR hm aU b3 W,JT bf ab hR bl c4 W,sO F J aM W];constructor
  .rintro⟨x,v,ζ,l,B⟩;show(x,v,1,by rw[<-T.takes hNa1 λc hc=>W c (by simp[hc])];show l,by rw[<-S.takes hNa2 λc hc=>W c (by simp[hc])];show B)
  .rintro⟨x,v,ζ,l,B⟩;show(x,v,1,by rw[T.takes hNa1 λc hc=>W c (by simp[hc])];show l,by rw[S.takes hNa2 λc hc=>W c (by simp[hc])];show B)
end H
namespace A
def g_J:p_ [Q0,"piece","entered",Z0] [Q0] (hI s_):=r_
def EX{P:Id}QF3 QC7 QCJ QGc(i1:(P1,ZY,)∈ts){oc kV Tg pm ct a9 aT T aN J a1 b4:η}(lk:K.ς f<*(oc,od,.VL (U_ "again" "again" (ri s_) (n7 s_) (hI s_) .ε kV Tg pm an QAa ct),dv))(cx:UH K QAa "again"=π)(lw:K.ς fw<*(a9,b3,.VL (U_ "walked" "walked" (ri A0) (n7 A0) QJl QKz aT T aN an2 J a1),osl2))(cw:UH K J "walked"=π)QDI(mw:mg "walked"<*.ξ fw)(lD:K.ς tD<*(b4,dz,.WA #[.ε] nD,dk))QCz(a3:mg "len"=ε)(a2:mg "zip"=ε)QI0 QDV(DL:∀υ:RC,Df P w K mg υ "lots_after" 1 [Q0,Q4] Wf)(DH:∀υ:RC,Df P w K mg υ "has_marked" 1 [Q0,Q4] sp_hasm)(DT:∀υ:RC,Df P w K mg υ "lot_of" 1 [Q4] (bF K))(cP:Df P w K mg υ "least" 7 [Q0] QJo)(cS:A' P w K mg υ "told" 4 [Q8] (Ic cW Xc)):aa P w K mg υ QB1 8 f (U_ "again" "again" (ri s_) (n7 s_) (hI s_) .ε kV Tg pm an QAa ct) [Q0] (mK Xc ts Ag):=by
 refine HU lk cx g_J QAE QAw
 .obtain ⟨m,L,W,B,ζ,_⟩:=h;rfl
 .obtain ⟨m0,L,W0,B0,ζ,cN,aC,hW8,hA,qE,q⟩:=h;let bS:=hA _ i0;let ch:=hr.Tj (j:=4) (!0);let cg:=hr.Tj (j:=5) (!0);refine(_,(h_ (nq 1 g_J.nd (oh cP hr QCw)) (h_ (FH (i:=2) (RD:=q_ae) (c:=c) (P0:=P1) (R5:=ZY) g_J.nd ζ (Or.Rh ζ) ζ hC hB (!3) (!3)) (h_ (FH (i:=3) (RD:=q_ag) (c:=c) (P0:=P1) (R5:=ZY) g_J.nd ζ QBu ζ hC hB (!3) (!3)) (hY (mq (Ct cS ch QAf (l_ (JE (dvs:=[.Uv]) ζ mw kw (Kb (kV:=aT) (Tg:=T) (pm:=aN) (an:=an2) (VA:=J) (ct:=a1) lD) QDg (AN QIw (Aa (Am (oI BX (Am (l_ b')))) QAi (bN (RD:=q_al) (c:=c) (P0:=P1) (R5:=ZY) ζ hC hB (!3) (!3)))) QHG)))))))),3);refine(0,m0,L,W0,B0,1,cN,aC,bS,λm W B H0 s0 bP hM a0=>?_);let D:=a0.Wj;let h8:W.β≤8:=QB a0.TL hW8;let kA:KT ts H H0:=KT.ofX nd i0 s0 bS bP;let hT:AB H0 P1 ZY:=kA.tb hA _ i1;refine(hT,λX O c1 H1 a6 bs d6 d0 s1 bM cB cs=>(bM,λU N M H2 a5 bo d5 dV s2 aV cA cp=>?_));let a8:BR P1 H0 H2:=JL s1 s2;let bU:u0 H2 m L W B:=hM.Uh (FN a8 hT);let⟨wy,mk,c5,h1,h2,h3,h4,h5⟩:=id bU;refine(n_ h1 ai (n0 (by change 1≤16777216;decide),λzt ce=>(n0 (by change 2≤16777216;decide),λst Vw=>?_)));let s3:a' H2 QD9:=(a'.QO ce).ο QHH;let ar:bB .q QD9 [1,0] st:=(zt,(1),[0],1,QA _,hJ,vr hJ Vw);generalize L2.QO (L2.QO H2 zt (.Rn [.QG 0])) st (.Rn [.bl π,.ξ zt])=H3 at s3 ar;let aU:=GC aV s3;refine(0,aU,λcU Y Z C a4 bm d4 dT s4 bD bk bi=>?_);let⟨dp,cI,_⟩:=id bM;let⟨dn,cH,_⟩:=id aV;let⟨dm,d3,d2,cC⟩:=id bD;let b6:∀QBA QCX,H1 b<*.ext φ->b≠P1:=λ{b φ}e z=>by rw[z,cI]at e;cases e
  let b5:∀QBA QCX,H2 b<*.ext φ->b≠P1:=λ{b φ}e z=>by rw[z,cH]at e;cases e
  let aH:∀QBA QCX,H2 b<*.ext φ->C b<*.ext φ:=λe=>s4 _ _ (b5 e) (s3 _ _ e);let up1:∀QBA QCX,H1 b<*.ext φ->C b<*.ext φ:=λe=>aH (s2 _ _ (b6 e) e);let az:C O<*aY O "entered" q_ae (ri bK) (n7 bK) (hI bK) X c1:=up1 cs;let aB:C c1<*o5 c1 q_ae:=up1 cB;let as:C N<*aY N Z0 q_ag (ri bv) (n7 bv) (hI bv) U M:=aH cp;let aA:C M<*o5 M q_ag:=aH cA;let ap:=FN s4 aU;let cM:u0 C m L W B:=(bU.SO s3).Uh ap;let bg:bB .q C [1,0] st:=ar.SO ap;let bt:∀u∈[O,N,Y,c1,M,Z],∃φ,C u<*.ext φ:=λu hu=>by
   simp only[QY,SM,TQ]at hu;rcases hu with ζ|rfl|rfl|rfl|rfl|rfl
   .exact (_,az)
   .exact (_,as)
   .exact (_,bi)
   .exact (_,aB)
   .exact (_,aA)
   .exact (_,bk)
  refine([O,N,Y,c1,M,Z],bt,λg Wd=>?_);let⟨c8,dt,dd,b1⟩:=Wd.ext O _ (!1) az;let⟨c7,ds,dc,b0⟩:=Wd.ext N _ (!1) as;let⟨dr,da,bV⟩:=Wd.ext Y _ (!1) bi;let c4:g.SL QK0 q_ae:=Wd.ext c1 _ (!1) aB;let cX:g.SL (.ξ M) q_ag:=Wd.ext M _ (!1) aA;let cV:g.SL (.ξ Z) q_al:=Wd.ext Z _ (!1) bk;let C1:AJ g X (hI bK) ["piece"] [.ξ m]:=GF Wd a6 bs ζ λi y v F I=>by
   match i,F,I with
   |0,F,I=>cases F;cases I;show(((1),5),5)
   |i+1,F,_=>simp at F
  let C2:AJ g U (hI bv) ["entered","piece"] [.ξ O,.ξ m]:=GF Wd a5 bo ζ λi y v F I=>by
   match i,F,I with
   |0,F,I=>cases F;cases I;show QKL
   |1,F,I=>cases F;cases I;show(((1),5),5)
   |i+2,F,_=>simp at F
  let C3:=Tu.CD (sc:=VC) Wd a4 bm;let Fw:mh K "walked" "walked" A0 fw _:=((a9,b3,.ξ tD,aT,T,aN,an2,J,a1,osl2,1,lw,cw),kw);refine((5),HQ cW .q L (HV W B) zO (EK W.β) (λH=>u0 H m L W B) N Y,cg,J' Fw WT a3 a2 ((PU b0 cX C2 D h8 (DL g) b1 (.UW λus hl=>by let⟨_,ζ⟩:=DQ hl;rfl) (PR b1 c4 C1 D h8 (DH g) (DT g))).Tj (!0)) ((PV bV cV C3 _ _).Tj (!0)) b0 QCI bV QCI (.UW λus hl=>by let⟨_,ζ⟩:=DQ hl;rfl) (.UW λus hl=>by let⟨_,ζ⟩:=DQ hl;rfl) QH5,3);let aS:∀QBA QH',C b<*o->QCi->b∉[O,N,Y,c1,M,Z]:=λ{b o}e ho hb=>by
   let⟨φ,I⟩:=bt b hb;rw[e]at I;show ho φ (ψ.δ.Tp I)
  let ag:∀b xs,C b<*.Rn xs->x_ [O,N,Y,c1,M,Z] C b<*.Rn xs:=λb xs e=>by rw[Bn (aS e QAD)];show e
  refine([1,0],.ξ st,ε,1,D.lt,3,Ca (l:=[0]) (!1) QA2 (λx hx=>by rw[yl hx];show D.n1),FP D h8,QB (oM _) (!0),cM.Uh ag,λwk t wd y md ks de ws aM R Bm H5 b2 hW ht d1 cf hy bd cl bf S bl cd Vk le he cD=>?_)
  .unfold z8;rw[Cl (!0)];show(st,1,bg.SO ag)
  let hR:R.β=ks.β:=by
   rcases he with z|⟨n,z,_⟩
   .exact z
   .cases z
  let YG:∀QBA QH',H5 b<*o->X8 [O,N,Y,c1,M,Z] C H5 b<*o:=λ{b o}e=>by
   rw[DI λhb=>?_]
   .exact e
   .rw [cD b hb]at e;cases e
  let cO:∀QBA QH',C b<*o->X8 [O,N,Y,c1,M,Z] C H5 b<*o:=λ{b o}e=>by
   by_cases hb:b∈[O,N,Y,c1,M,Z]
   .rw [He hb];show e
   .exact YG (b2 b o (by rw[Bn hb];show e))
  rw[hR]at bf;let⟨dx,ew⟩:=hW.ex;let kT:KT ts H (X8 [O,N,Y,c1,M,Z] C H5):=(kA.ο ((KT.ofX nd i1 a8 hT aV).ο ((KT.of s3).ο (KT.ofX nd i1 s4 aU bD)))).ο (KT.of λb o e=>cO e);let ab:=JS (Bm:=Bm) D.lt bf S hR bl (QB le (QB (oM _) (!0)));refine(wk,t,wd,y,md,aM,L,R,Bm,ws,1,QJm,YG hy,(bd.1,λi a r F I=>YG (bd.2 i a r F I)),YG cl,YG cf,by rw[hR];show bf.TL.QI,ab,λd H' s' p=>qE d H' QDx p,λmm k ff H6 hm a7 co s6 hf cK=>?_);refine q ff _ _ H6 QI2 cK (Hi hm ab) (JV co) (JU bf S hR ab a7 hm) λu hu=>?_;unfold AC;rw[HR hm ab a7 hu,JT bf S hR bl cd hu,vZ D h8 hu];let tk:∀v:LN,(∀c∈v,c∈u)->B.LT (Sl L W 0 v) ν=B0.LT (Sl L W0 0 v) ν:=λv hv=>a0.takes aC λc hc=>hu c (hv c hc);show(λz=>z.congr tk,λz=>z.congr λv hv=>(tk v hv).QI)
end A
inductive Ki QKU QBP QBQ QAs(Xc:θ)QDJ QAI QAH QAR QE0:Prop
 |mk (m m2 g cg:θ) QA5 QHp QD' QIq (_:vs=[.ξ m,.ξ m2,.ξ g]) QJN (_:g_ L W1 B1) QDj (_:g_ L W2 B2) (_:W1.β≤8) (_:W2.β≤8) (_:O3 P w K mg H g cg Xt) QEc QBx (_:∀QEx(W':LL)QHo QBW,KT ts H H'->u0 H' f L W' B'->g_ L W' B'->W'.β≤8->QH2->(∀u:LN,QAL->(AC L W' B' u=π↔Dq Xt QCd QFf u))->Q QAg H')
def h_i:p_ [Q0,"second","is_wanted",Z0,Q7] [Q0,"second","is_wanted"] (hI Du):=r_
set_option maxHeartbeats 8000000 in
def qV{P:Id}QF3 QC7 QCJ(i1:(P1,cZ,)∈ts){oc kV Tg pm ct a4 aT T aN D aU b3:η}(lk:K.ς f<*(oc,od,.VL (U_ "paired" "paired" (ri Du) (n7 Du) (hI Du) .ε kV Tg pm an QAa ct),dn))(cl:UH K QAa "paired"=π)(lw:K.ς fw<*(a4,b2,.VL (U_ "walked" "walked" (ri A0) (n7 A0) QJl QKz aT T aN an2 D aU),osl2))(cw:UH K D "walked"=π)QDI(mw:mg "walked"<*.ξ fw)(lD:K.ς tD<*(b3,dp,.WA #[.ε] nD,da))QCz(aV:mg "len"=ε)(ag:mg "zip"=ε)(aH:mg "list"=ε)QI0 QDV(cM:Df P w K mg υ "need_same_letters" 1 [Q0,"second"] YV)(cN:A' P w K mg υ "told" 4 [Q8] (Ic cW Xc)):aa P w K mg υ QB1 6 f (U_ "paired" "paired" (ri Du) (n7 Du) (hI Du) .ε kV Tg pm an QAa ct) [Q0,"second","is_wanted"] QFD:=by
 refine HU lk cl h_i QAE QAw
 .obtain ⟨m,m2,g,M,L,W1,W2,B1,B2,Xt,ζ,_⟩:=h;rfl
 .obtain ⟨m,m2,g,M,L,W1,W2,B1,B2,Xt,ζ,bM,F,bD,ab,h18,h28,hRu,hA,qE,q⟩:=h;let hT:=hA _ i1;let cd:=hr.Tj (j:=1) (!0);let b6:=hr.Tj (j:=4) (!0);refine(_,(h_ (AH (oh cM cd QCG)) (h_ (FH (i:=3) (RD:=q_pg) (c:=c) (P0:=P1) (R5:=cZ) h_i.nd ζ QBu ζ hC hB (!3) (!3)) (h_ (FH (i:=4) (RD:=q_pm) (c:=c) (P0:=P1) (R5:=cZ) h_i.nd ζ QBu ζ hC hB (!3) (!3)) (hY (mq (Ct cN b6 QAf (l_ (JE (dvs:=[.Uv]) ζ mw kw (Kb (kV:=aT) (Tg:=T) (pm:=aN) (an:=an2) (VA:=D) (ct:=aU) lD) QDg (AN QBL (Aa (Am (oI b' b')) QAi QBd)) QHG)))))))),3);refine(4,m,m2,L,W1,B1,W2,B2,1,bM,bD,3);refine(hT,λW I c1 H1 a1 bm dV ds s1 bt bi bd=>(bt,λU J X Y a0 bk dT dr s2 bs bg ch=>?_));let S:BR P1 H Y:=JL s1 s2;let bP:u0 Y m L W1 B1:=bM.Uh (FN S hT);let cH:u0 Y m2 L W2 B2:=bD.Uh (FN S hT);let⟨de,cx,_⟩:=id hT;let⟨dd,cs,_⟩:=id bt;let⟨RD,b0,c7,sc,c5,a9,aA,cB,cC⟩:=hRu.ex;let nP:∀QBA QCX,H1 b<*.ext φ->b≠P1:=λ{b φ}e z=>by rw[z,cs]at e;cases e
  let a5:∀QBA QCX,H b<*.ext φ->b≠P1:=λ{b φ}e z=>by rw[z,cx]at e;cases e
  let a8:=S g _ (a5 a9) a9;let az:=S M _ (a5 aA) aA;let as:Y I<*aY I Z0 q_pg (ri bJ) (n7 bJ) (hI bJ) W c1:=s2 I _ (nP bd) bd;let aB:Y c1<*o5 c1 q_pg:=s2 c1 _ (nP bi) bi;let ar:Y J<*aY J Q7 q_pm (ri bI) (n7 bI) (hI bI) U X:=ch;let⟨wy,mk,cU,h1,h2,h3,h4,h5⟩:=id bP;refine(n_ h1 ai (n0 (by change 2≤16777216;decide),λst Vw=>?_));let C:a' Y (L2.QO Y st QH6):=a'.QO Vw;let ap:L2.QO Y st QH6 st<*.Rn (b_ [0,0]):=hJ;generalize L2.QO Y st QH6=H3 at C ap;let cI:=bP.SO C;let cD:=cH.SO C;let⟨dc,dz,dv,co⟩:=GC bs C;let bo:∀u∈[I,J,c1,X,g,M],∃φ,H3 u<*.ext φ:=λu hu=>by
   simp only[QY,SM,TQ]at hu;rcases hu with ζ|rfl|rfl|rfl|rfl|rfl
   .exact (_,C _ _ as)
   .exact (_,C _ _ ar)
   .exact (_,C _ _ aB)
   .exact (_,C _ _ bg)
   .exact (_,C _ _ a8)
   .exact (_,C _ _ az)
  refine(4,[I,J,c1,X,g,M],bo,λl Wd=>?_);let⟨cX,dm,c4,bV⟩:=Wd.ext I _ (!1) (C _ _ as);let⟨cV,dk,c3,bU⟩:=Wd.ext J _ (!1) (C _ _ ar);let⟨a3,aC,bS⟩:=Wd.ext g _ (!1) (C _ _ a8);let cS:l.SL QK0 q_pg:=Wd.ext c1 _ (!1) (C _ _ aB);let cP:l.SL (.ξ X) q_pm:=Wd.ext X _ (!1) (C _ _ bg);let cO:l.SL (.ξ M) RD:=Wd.ext M _ (!1) (C _ _ az);let C1:AJ l W (hI bJ) [Q0,"second"] [.ξ m,.ξ m2]:=GF Wd a1 bm ζ λi y v x B=>by
   match i,x,B with
   |0,x,B=>cases x;cases B;show(((0),5),5)
   |1,x,B=>cases x;cases B;show(((1),5),5)
   |i+2,x,_=>simp at x
  let C2:AJ l U (hI bI) ["is_wanted",Q0,"second"] [.ξ g,.ξ m,.ξ m2]:=GF Wd a0 bk ζ λi y v x B=>by
   match i,x,B with
   |0,x,B=>cases x;cases B;show QKL
   |1,x,B=>cases x;cases B;show(((0),5),5)
   |2,x,B=>cases x;cases B;show(((1),5),5)
   |i+3,x,_=>simp at x
  let Fw:mh K "walked" "walked" A0 fw _:=((a4,b2,.ξ tD,aT,T,aN,an2,D,aU,osl2,1,lw,cw),kw);refine((5),HQ cW .t L (gP W1 W2) (NU Xt B1 B2) QKh (λH=>Two H m m2 L W1 W2 B1 B2) I J,hr,J' Fw WT aV ag ((P_ bV cS C1 F ab aH ag).Tj (!0)) ((P' bU cP C2 F ab bS (cC a3 aC) (cB l a3 aC bS cO)).Tj (!0)) bV QCI bU QCI (.UW λus hl=>by let⟨_,ζ⟩:=DQ hl;rfl) (.UW λus hl=>by let⟨_,ζ⟩:=DQ hl;rfl) QJJ,3);let aS:∀QBA QH',H3 b<*o->QCi->b∉[I,J,c1,X,g,M]:=λ{b o}e ho hb=>by
   let⟨φ,B⟩:=bo b hb;rw[e]at B;show ho φ (ψ.δ.Tp B)
  let O:∀b xs,H3 b<*.Rn xs->x_ [I,J,c1,X,g,M] H3 b<*.Rn xs:=λb xs e=>by rw[Bn (aS e QAD)];show e
  refine([0,0],.ξ st,ε,1,F.lt,3,sD F.n1 ab.n1,O2 F ab,QB (yz h18 h28) (!0),(cI.Uh O,cD.Uh O),λwk t wd y md ks c8 ws aM R Bm H5 b1 hW ht dt b5 hy a7 ce bf N bl b4 Vk le he cp=>?_)
  .unfold z8;rw[Cl (!0)];show(st,1,O _ _ ap)
  let hR:R.β=ks.β:=by
   rcases he with z|⟨n,z,_⟩
   .exact z
   .cases z
  let YG:∀QBA QH',H5 b<*o->X8 [I,J,c1,X,g,M] H3 H5 b<*o:=λ{b o}e=>by
   rw[DI λhb=>?_]
   .exact e
   .rw [cp b hb]at e;cases e
  let cK:∀QBA QH',H3 b<*o->X8 [I,J,c1,X,g,M] H3 H5 b<*o:=λ{b o}e=>by
   by_cases hb:b∈[I,J,c1,X,g,M]
   .rw [He hb];show e
   .exact YG (b1 b o (by rw[Bn hb];show e))
  rw[hR]at bf;let⟨dx,ew⟩:=hW.ex;let kT:KT ts H (X8 [I,J,c1,X,g,M] H3 H5):=(KT.ofX nd i1 S hT bs).ο (KT.of λb o e=>cK (C _ _ e));let a6:=QB le (yz h18 h28);let Z:=JS (Bm:=Bm) F.lt bf N hR bl (QB a6 (!0));refine(wk,t,wd,y,md,aM,L,R,Bm,ws,1,QJm,YG hy,(a7.1,λi a r x B=>YG (a7.2 i a r x B)),YG ce,YG b5,by rw[hR];show bf.TL.QI,Z,λd H' s' p=>qE d H' QDx p,λmm k ff H6 hm a2 cf s6 hf cA=>?_);refine q ff _ _ H6 QI2 cA (Hi hm Z) (JV cf) (JU bf N hR Z a2 hm) λu hu=>?_;unfold AC Dq;rw[HR hm Z a2 hu,JT bf N hR bl b4 hu,NV];rfl
set_option maxHeartbeats 8000000 in
def qY{P:Id}QHK(i1:(Pj,K4,)∈ts)QJO(lk:K.ς f<*(U,od,.VL (U_ "either" "either" (ri Fe) (n7 Fe) (hI Fe) .ε kV Tg pm an QAa ct),T))(p:UH K QAa "either"=π)(hC:UN υ c Pj)QDV(B:A' P w K mg υ "paired" 6 [Q0,"second","is_wanted"] QFD):aa P w K mg υ QB1 7 f (U_ "either" "either" (ri Fe) (n7 Fe) (hI Fe) .ε kV Tg pm an QAa ct) [Q0,"second"] (cb Xc ts (Dq QEv)):=by
 refine HU lk p qD QAE QFE
 .obtain ⟨m,m2,L,M,J,O,N,ζ,_⟩:=h;rfl
 .obtain ⟨m,m2,L,M,J,O,N,ζ,u,x,t,v,h18,h28,I,S,q⟩:=h;let j:=I _ i1;refine(_,(hY (mq (Ct B X QAf (Aa QAF QAJ (bN (RD:=Kh) (c:=c) (P0:=Pj) (R5:=K4) ζ hC hB (!3) (!3)))))),3);refine QC0;let l:KT ts H H1:=KT.ofX W i1 R j r;let F:=l.sm;let n:∀y,i.ς y=ε:=λy=>by
   cases e:i.ς y with
   |ε=>rfl
   |δ a=>show nomatch (show(ε:ψ θ)<*a from Vk y a e)
  show(m,m2,g,cg,L,M,J,O,N,QEv,1,u.Uh F.Rn,x,t.Uh F.Rn,v,h18,h28,(8,8,i,Z,o,λD pm C eb cd=>qR eb cd (jw n (!3)),λpm C=>.UW λus Y=>by let⟨_,_,ζ⟩:=Hm Y;rfl),l.tb I,λd H' k=>S d H' QK1,λff W' B' H' k=>q ff W' B' H' QK1)
set_option maxHeartbeats 8000000 in
def xt{P:Id}QHK(i1:(Pj,K5,)∈ts)QJO(lk:K.ς f<*(U,od,.VL (U_ "both" "both" (ri Ff) (n7 Ff) (hI Ff) .ε kV Tg pm an QAa ct),T))(p:UH K QAa "both"=π)(hC:UN υ c Pj)QDV(B:A' P w K mg υ "paired" 6 [Q0,"second","is_wanted"] QFD):aa P w K mg υ QB1 7 f (U_ "both" "both" (ri Ff) (n7 Ff) (hI Ff) .ε kV Tg pm an QAa ct) [Q0,"second"] (cb Xc ts (Dq QEw)):=by
 refine HU lk p wW QAE QFE
 .obtain ⟨m,m2,L,M,J,O,N,ζ,_⟩:=h;rfl
 .obtain ⟨m,m2,L,M,J,O,N,ζ,u,x,t,v,h18,h28,I,S,q⟩:=h;let j:=I _ i1;refine(_,(hY (mq (Ct B X QAf (Aa QAF QAJ (bN (RD:=dB) (c:=c) (P0:=Pj) (R5:=K5) ζ hC hB (!3) (!3)))))),3);refine QC0;let l:KT ts H H1:=KT.ofX W i1 R j r;let F:=l.sm;let n:∀y,i.ς y=ε:=λy=>by
   cases e:i.ς y with
   |ε=>rfl
   |δ a=>show nomatch (show(ε:ψ θ)<*a from Vk y a e)
  show(m,m2,g,cg,L,M,J,O,N,QEw,1,u.Uh F.Rn,x,t.Uh F.Rn,v,h18,h28,(8,8,i,Z,o,λD pm C eb cd=>xn eb cd (jw n (!3)),λpm C=>.UW λus Y=>by let⟨_,_,ζ⟩:=Hm Y;rfl),l.tb I,λd H' k=>S d H' QK1,λff W' B' H' k=>q ff W' B' H' QK1)
set_option maxHeartbeats 8000000 in
def xr{P:Id}QHK(i1:(Pj,K6,)∈ts)QJO(lk:K.ς f<*(U,od,.VL (U_ "less" "less" (ri Fh) (n7 Fh) (hI Fh) .ε kV Tg pm an QAa ct),T))(p:UH K QAa "less"=π)(hC:UN υ c Pj)QDV(B:A' P w K mg υ "paired" 6 [Q0,"second","is_wanted"] QFD):aa P w K mg υ QB1 7 f (U_ "less" "less" (ri Fh) (n7 Fh) (hI Fh) .ε kV Tg pm an QAa ct) [Q0,"second"] (cb Xc ts (Dq QEG)):=by
 refine HU lk p wV QAE QFE
 .obtain ⟨m,m2,L,M,J,O,N,ζ,_⟩:=h;rfl
 .obtain ⟨m,m2,L,M,J,O,N,ζ,u,x,t,v,h18,h28,I,S,q⟩:=h;let j:=I _ i1;refine(_,(hY (mq (Ct B X QAf (Aa QAF QAJ (bN (RD:=dA) (c:=c) (P0:=Pj) (R5:=K6) ζ hC hB (!3) (!3)))))),3);refine QC0;let l:KT ts H H1:=KT.ofX W i1 R j r;let F:=l.sm;let n:∀y,i.ς y=ε:=λy=>by
   cases e:i.ς y with
   |ε=>rfl
   |δ a=>show nomatch (show(ε:ψ θ)<*a from Vk y a e)
  show(m,m2,g,cg,L,M,J,O,N,QEG,1,u.Uh F.Rn,x,t.Uh F.Rn,v,h18,h28,(8,8,i,Z,o,λD pm C eb cd=>xm eb cd (jw n (!3)),λpm C=>.UW λus Y=>by let⟨_,_,ζ⟩:=Hm Y;rfl),l.tb I,λd H' k=>S d H' QK1,λff W' B' H' k=>q ff W' B' H' QK1)
section
variable{P:Id}{w:QW}{K:RG}{mg:QF->ψ η}{υ:RC}{P0 PT cW:θ}{ts:γ QAc}{VJ:γ (θ×θ)}{WY UP:θ}{c:Kd->θ}{cP:θ}{cD d1 d2 d3:θ}
def e_L:p_ ["values","numbers","value"] ["values"] (hI MC):=r_
def kF(F:pd K "numbered" "numbered" MC f fd)QAC:aa P w K mg υ lb 1 f fd ["values"] sp_numbered:=by
 refine F.Xw e_L ?_;rintro _ _ _ _ H _ _ _ Q⟨a,o,xs,ks,Wh,ζ,X,U,M,l,hk,q⟩;refine(_,(h_ (nq 1 e_L.nd (xj)) (h_ (BD Se.Tc ζ (CH QAF) (Bp 2 e_L.nd) (hY (q_ (AF (qQ Q.S_) QAT QAJ QAS) (hY (CP (CF DG (!4) T.TL XW QFj) (CO QAJ QAT (DF Q.S_)))) (so)))) (hY (mq (CV ["values","numbers","?"] ζ (!0) (CH QAF) (λcl C fp s' H'=>(Bl,Af (rD P w Q.S_) QAT QAF QAQ))))))),3);let hz:xs.β≤Φ:=n0 (by rw[M];show QB l (!0));let e:∀QEH{x:V},xs[i]?<*x->∃k,ks[i]?=δ k/\mf H k x/\Kz k=Wh:=λ{i x}v=>by
  let Y:i<ks.β:=by rw[<-M];show(l' v).1
  show(ks[i],j_ Y,hk i _ x (j_ Y) v)
 refine(if Wh=π then .Wh else .bl,λd E=>?_);refine(0,a,o,xs,1,X,vr U E,λJ N=>lh N (λi m H'=>E2 λL r=>A3 (m=[δ QAd,δ QDM,L]) (H'=L2.QO H d r) (t5 P w H' d Wh QI3)) (ε,0,1,t5.new P w H d Wh) ?_ ?_ ?_)
 .rintro i m H'⟨L,r,ζ,ζ,_⟩;show vr U E
 .rintro i x m H' v⟨L,r,ζ,ζ,s⟩;let⟨k,h,t,n⟩:=e v;let p:mf (L2.QO H d r) k x:=t.Wv λb ys z=>vr z E;refine(4,d,0,s.Yj p n,0,3);by_cases y:k∈u5 QI3
  .rw [show(!(jg QI3 k).VR)=ν by rw[jg,IO y];rfl];refine aE (2,3);rw[BI h];show s.SO y
  .rw [show(!(jg QI3 k).VR)=π by rw[jg,Cl y];rfl];let S:(u5 QI3).β<Φ:=by
    let h1:=pR QI3;let h2:(ks.R0 i).β≤2100:=by rw[Sn];show QB (χ.min_le_right _ _) l
    show QD (χ.lt_succ_of_le (QB h1 h2)) (n0 (!0))
   let⟨O,B,R⟩:=s.put p n y S;refine aG (0,d,0,s.TL,4,d,0,B,3);refine(δ x,O,1,G7,3);rw[BI h];show R
 .rintro m H'⟨L,r,ζ,ζ,s⟩;rw[M,Uz]at s;let I:L2.QO H d r a<*o:=vr U E;let A:a' H (L2.QO H d r):=a'.QO E;refine(0,a,o,xs,1,X,I,λJ N=>LR N I (λD j ys H'=>ys=(b_ (ax ks)).R0 j) hz (λD W=>!1) ?_ ?_)
  .intro D j x ys H' R1 R2 W v g u hp k1 k2;let⟨k,h,t,n⟩:=e v;let y:k∈u5 ks:=Wi.Sz (Ab h);let Z:=(s.Tj g).Yj (t.Wv λb ys z=>(A.ο g) _ _ z) n;rw[show jg ks k<*_ from IO y]at Z;refine hG (4,d,0,Z,k1 _ H' u (a'.Uw g W) ?_);rw[hp];refine(BI ?_).QI;rw[b_,ax,γ.map_map,na,h];rfl
  .intro D ys H' W g u hp;refine q D H' (A.ο g) ?_;rw[u,hp,M,RT (by rw[c_,Jv];show QA _)]
def iG:p_ ["lots"] ["lots"] (hI ME):=r_
def jc(F:pd K "many_lots" "many_lots" ME f j)QAC:aa P w K mg υ lb 1 f j ["lots"] sp_manyM:=by
 refine F.Xw iG ?_;rintro _ _ _ _ _ _ _ _ _⟨a,ns,ζ,i,e,q⟩;refine(_,(hY (mq (o_ dM (CF (r9 ζ) (!4) T.max Su.WZ.boot_max QCw) b'))),3);refine(0,a,zs ns,1,by rw[i,Jz],by rw[mj];show e,λM h b=>(2,3));let⟨m,g,ζ⟩:=TZ.mp h;show q m g λx d=>Λ.ofNat_le.mp (b _ (TZ.Sz (x,d,1)))
def c_L:p_ [Z1,Z2,"most","rounds","lots","finer"] [Z1,Z2,"most"] (hI MF):=r_
def ja(F:pd K "rounds_of" "rounds_of" MF f fd)QAC(a8:Df P w K mg υ "numbered" 1 ["values"] sp_numbered)(bP:Df P w K mg υ "many_lots" 1 ["lots"] sp_manyM):aa P w K mg υ lb 2 f fd [Z1,Z2,"most"] sp_roundsG:=by
 refine F.Xw c_L ?_;rintro _ _ _ _ H _ _ _ hr⟨wy,mk,bS,o,om,L,W,B,N,ζ,ho,bd,bk,bo,aB,az,l,q⟩;refine(_,(h_ (nq 3 c_L.nd (Bi (l_ (oh a8 hr QFj)))) (h_ (dD Se.Tc (AF ky (oh bP hr (l_ (As QAi QDH))) QAT QCA) (h_ (nq 4 c_L.nd (As QAi QDH)) (h_ (nq 5 c_L.nd (oh a8 hr (l_ (JR [Z1,Z2,"most","rounds","lots","finer"] ζ (!0) (ko ζ T.enumerate QCw) (λcl C fp s' H'=>Am (oI (Af QI4 QEo QAF QAQ) (Da (LC K) (!4) T.Uu VV (l_ (CV [Z4,"row",Z1,Z2,"most","rounds","lots","finer"] ζ (show R7 (["goal",Z4,"row",Z1,Z2,"most","rounds","lots","finer"]:γ QF) by decide) (CH QAJ) (λcl C fp s' H'=>(Bl,Af QI4 QEn QAF QAQ))))))))))) (h_ (q_ (AF (zJ hr.units0) QB4 QBd QCA) (hY (km)) (so)) (hY (AH (Cb QAi QB4))))))) (hY (mq QAi)))),3);let Q:=l.n60;let bm:=l.n1;refine(0,mk,_,B.Q_ V.bl,B.Q_ (λb=>(KS.RN b:KS)),ν,1,bk,bo,by rw[j',j'],by rw[j',l.bl];show QB Q (!0),3,λp0 H1 s1 a0=>(n0 (by change 1≤16777216;decide),λp hp=>?_))
 .intro i k x J hx;rw[na]at J hx;cases hb:B[i]? with
  |ε=>rw[hb]at J;cases J
  |δ b=>rw[hb]at J hx;cases J;cases hx;show(1,1)
 rw[uB]at a0;let bi:H p=ε:=Hd s1 hp;refine(yP H wy mk p W B N,(_,(0),[p0],ε,ε,5,s1.ο QDG,hJ,1,3,λi X=>QL X (χ.not_lt_zero _)),3)
 .intro i r e;match i,e with
  |0,e=>cases e;show vr a0 hp
  |n+1,e=>simp at e
 rintro m bU H'⟨k,d,s4,s5,ζ,ζ,sm,ag,s,I,a2⟩;let J:=n9 l a2;obtain⟨la,a3⟩:∃la,d[k]?<*la:=(d[k]'(by rw[s];show R8 k),j_ _);let U:=I k la a3;let a7:=KA s a3;let S:=Dh l k;refine(4,Ak ag a7 (la,Rd W B k,1,U,by rw[S];show bm,λM hM _=>(0,2,0,3)));let b1:=ca l hM;refine ay (λb0=>?_) (λbD=>?_)
 rotate_left
 .exact (0,q p d k H' sm ag s I (.Rh (M,hM,by have:¬ ((M:Λ)+1)≤(N:Λ):=bD;lia)) J)
 refine(λaN H2=>Rd W B (k+1)≠Rd W B k/\yP H wy mk p W B N (jN W.β QFq) aN H2,λaN H2 h=>(_,jM l h.1,h.2),3);refine(4,Ak ag a7 ?_);dsimp only[AY];dsimp only[V4,aO,aJ,BE,AA,BF,Br];refine rW (c:=wy) QB5 ho (sm _ _ bd) (λD i ys H2=>∃ps:γ θ,A3 (ys=ps.Q_ V.ξ) (ps.β=i) (∀QHW(t:θ),ps[j]?<*t->Fc H2 (gY W QDe j) t)) (by rw[j',aB];show n0 (QB Q (!0))) (λD hD=>([],5,λj t e=>by simp at e)) ?_ ?_
 .intro D i x ys H2 H3 R1 hD hx A aH hp v k1;let⟨ps,ζ,E,aC⟩:=hp;rw[na]at hx;let⟨rr,aU,ζ⟩:=AE hx;let X:i<W.β:=by rw[<-aB];show(l' aU).1
  let⟨ws,aT,bV,a1,aV⟩:=az i rr aU;let s3:a' H H3:=(sm.ο A).ο v;let aA:=s3 _ _ aV;let ar:H3 la<*.QV (b_ QDe):=v _ _ (A _ _ U);let ew:W.LT i []=ws:=by rw[nt,aT];rfl
  let⟨bf,bg⟩:=l.Yc ws (Ab aT);let bM:=l.lt.hi;refine(4,Ak ar (Dj (by rw[S];show X)) ?_);dsimp only[V4,aO,aJ,BE,AA,BF,Br];refine D_ (a:=rr) QB5 a1 aA (λD2 j as H4=>as=(b_ QEP).R0 j) (by rw[c_,bf];show n0 (QB bM (!0))) (λD2 aM=>!1) ?_ ?_
  .intro D2 j y as H4 R3 R4 aM hy X1 Z an k3 k4;let hj:j<ws.β:=by have:=(l' hy).1;rwa [c_]at this
   rw[B7 hj]at hy;cases hy;refine hG (4,Ak (X1 _ _ ar) (Dj (by rw[S];show bg _ (HM hj))) (k3 _ H4 Z (a'.Uw X1 aM) ?_));rw[an];refine(BI ?_).QI;rw[B7 (by rw[j'];show hj),KB hj]
  .intro D2 as H4 aM X1 Z an;rw[c_,RT (by rw[c_,j'];show QA _)]at an;subst an;refine(D2,0,.RN (k9.of Z,λb hb=>(n0 (by change 2≤16777216;decide),λt ht=>?_)));let s5:=X1.ο ((a'.QO (o:=.Rn (b_ QEP)) hb).ο (a'.QO (o:=.Rn [.QG (((Rd W B k).LT i 0:χ):Λ),.ξ b]) ht));let ap:=s5 _ _ (v _ _ aH);refine k1 QB0 _ ap (a'.Uw (A.ο (v.ο s5)) hD) (ps++[t],by rw[RU];rfl,by rw[q4,E];rfl,λj u e=>?_);by_cases hj:j<ps.β
   .rw [QK hj]at e;show Ar (λc cs z=>no ((v.ο s5) _ _ z) ap (!5)) (aC j u e)
   .rw [QM (SQ hj)]at e;let bs:j=i:=(yN hj (l' e).1).ο E;subst bs;rw[E,XO]at e;let et:t=u:=by simpa using e
    subst et;let ek:(zs (gY W QDe j).2).Q_ V.QG=b_ QEP:=by
     rw[<-Jz];change b_ ((W.LT j []).Q_ _)=_;rw[ew]
    refine(b,no hJ ap (!5),3);rw[ek];show no (vr hJ ht) ap (!5)
 intro D ys H2 hD A aH hp;let⟨ps,ζ,E,aC⟩:=hp;refine(D,_,ps.Q_ V.ξ,(Fa W QDe).Q_ (λx=>(KS.Rh x:KS)),π,1,.RN ζ,aH,by rw[j',j',Dg,E,j',aB],by rw[j',Dg];show QB Q (!0),3,λfa H4 ab a5=>?_)
 .intro i kk x J hx;rw[na]at J hx;let⟨nk,e1,ζ⟩:=AE J;let⟨t,e2,ζ⟩:=AE hx;let X:i<W.β:=by have:=(l' e1).1;rwa [Dg]at this
  rw[LD X]at e1;cases e1;show((t,1,aC i t e2),1)
 rw[uA]at a5;let Y:H4 fa<*.QV (b_ QFq):=a5;let aS:a' H H4:=sm.ο (A.ο ab);let a9:=(A.ο ab) _ _ U;let p4:=(A.ο ab) _ _ ag;let O:=I.SO (A.ο ab);refine(4,fa,la,zs QFq,zs QDe,5,by rw[Y,Jz],by rw[a9,Jz],by rw[mj,mj,Dh l,Dh l],0,ay (λhe=>?_) (λhe=>?_))
 .exact (0,q p d k H4 aS p4 s O (.RN (ip he)) J)
 let a6:Rd W B (k+1)≠Rd W B k:=λz=>he (by rw[z]);let a4:d≠[]:=by
  intro z;rw[z]at s;simp at s
 refine(0,.RN (1,_,k9.of p4),0,p,2,p4,3,a6,k+1,d++[fa],2,a'.Uw aS bi,3,3,3,3)
 .rw [j',s];show LS J
 .rw [hJ,RU];rfl
 .rw [q4,s];rfl
 .intro i r e;by_cases X:i<d.β
  .rw [QK X]at e;let h1:=O i r e;rw[a_ (pr h1 p4 a4)];show h1
  .rw [QM (SQ X)]at e;let bt:i=k+1:=(yN X (l' e).1).ο s;subst bt;rw[s,XO]at e;let et:fa=r:=by simpa using e
   subst et;rw[a_ (pr Y p4 a4)];show Y
 .intro i X;by_cases h:i=k
  .subst h;show a6
  .exact a2 i (OJ X h)
def df:p_ ["lots"] ["lots"] (hI MG):=r_
def dO(F:pd K "first_rooms" "first_rooms" MG f E)QAC(t:Df P w K mg υ "many_lots" 1 ["lots"] sp_manyM):aa P w K mg υ lb 2 f E ["lots"] sp_firstrooms:=by
 refine F.Xw df ?_;rintro _ _ _ _ _ _ _ _ A⟨a,ns,ζ,s,u,B,g,l,q⟩;refine(_,(hY (mq (CV ["lots"] ζ (!0) (E8 ζ T.Re (l_ (oh t A QCw))) (λI C H s' H'=>(Bl,qM K QAJ QCw))))),3);let⟨M,m,k⟩:=uK u;let v:=g M m;dsimp only[ix,AY,V4,aO,aJ,BE,AA,BF,Br];refine JA (n:=M+1) (λR h=>(0,a,ns,1,s,u,λy r i=>?_)) (!6) (λD j ys H'=>ys=b_ ((γ.Re j).Q_ λj=>ns.QP j)) (λD o=>rfl) ?_ ?_
 .let e:y=M:=WQ (k y r) (i M m);rw[e];show h
 .intro D j ys H' J R2 o p b d hp k1 k2;refine hG (0,.RN (1,_,k9.of (b _ _ s)),0,a,zs ns,(0+(j:Λ)),5,by rw[<-Jz];show b _ _ s,3,3)
  .rw [Λ.Tq];show TZ.Sz (j,l M j m (Ug p),1)
  .rw [Λ.Tq,sr];refine k1 _ H' d (a'.Uw b o) ?_;rw[hp,γ.range_succ,RU];show(KE _ _).QI
 .intro D ys H' o b d hp;subst hp;show q (M+1) D H' (χ.succ_pos M,λx z=>χ.lt_succ_of_le (k x z),λj p=>l M j m (Ug p)) b o d
def a_y:p_ [Q3,Z1,"rounds","one","two","needed","here","there","word","lots","place"] [Q3,Z1,"rounds","one","two"] (hI MH):=r_
def Qa(F:pd K "parting_word" "parting_word" MH f fd)QAC:aa P w K mg υ lb 1 f fd [Q3,Z1,"rounds","one","two"] sp_pw72:=by
 refine F.Xw a_y ?_;rintro _ _ _ s H _ _ _ _⟨wy,p,bm,y,tu,L,W,B,k,r,s,ζ,S,I,b,hp,v,m,Vw,aB,X,U,q⟩;refine(_,(h_ (q_ (wm (As (As QAT QDH) QAi) (As (As QAT QDH) QBd)) (hY (mq El)) (so)) (h_ (nq 5 a_y.nd (b7 UT Ξ.F.XZ Ξ.F.type_list_index gN (CV [Q3,Z1,"rounds","one","two","needed","here","there","word","?","place"] ζ (!0) (CH QAT) (λcl C fp s' H'=>(Bl,C8 gK (Af QI4 QAF QBd QAQ) (Af QI4 QAF QB4 QAQ) QCA))) (l_ BX))) (h_ (nq 6 a_y.nd QAi) (h_ (nq 7 a_y.nd QBd) (h_ (nq 8 a_y.nd (ms)) (h_ (BD Se.Tc ζ (zA ζ T.reversed (l_ (Eo G_ QAT Gp (Dc QB4)))) (Bp 9 a_y.nd) (h_ (nq 10 a_y.nd (b7 UT Ξ.F.XZ Ξ.F.type_list_index gN (JR [Q3,Z1,"rounds","one","two","needed","here","there","word","lots","place"] ζ (!0) (Hg ζ T.X6 (oI (Af Hk QAJ QEo QAQ) (Af Hk QAJ QEn QAQ))) (λcl C fp s' H'=>C8 gK (Af QI4 (pv 11) QAF QAQ) (Af QI4 (pv 11) QAJ QAQ) QCA)) (l_ BX))) (h_ (nq 8 a_y.nd (o_ C9 (pv 8) (Af eD QAF (pv 10) QAQ))) (h_ (nq 6 a_y.nd (Af Hk (Af Hk QAJ QEo QAQ) (pv 10) QAQ)) (hY (nq 7 a_y.nd (Af Hk (Af Hk QAJ QEn QAQ) (pv 10) QAQ))))))) (hY (mq (pv 8))))))))),3);let hz:(tx L).β≤Φ:=n0 (by rw[hF];show QB b.lt.hi (!0));obtain⟨la,a2⟩:∃la,y[k]?<*la:=(y[k]'(by rw[v];show R8 k),j_ _);let az:=m k la a2;let a7:=KA v a2;let ap:=Dh b k;refine(4,Ak hp a7 (0,Ak az (Dj (by rw[ap];show X)) ?_));refine(4,Ak hp a7 (0,Ak az (Dj (by rw[ap];show U)) (1,0,3)));rw[ju];refine ay (λhe=>?_) (λhe=>?_)
 .exact q ε H QIx (.RN (1,λj=>pz b (Vw he) he X U j))
 let⟨a0,ab,a4,A⟩:=lm (f:=λj=>decide QGT) (n:=k+1) (j:=k) (R8 k) (QJ he);dsimp only[V4,aO,aJ,BE,AA,BF,Br];refine D_ (a:=p) QB5 QAz hp (λD j ys H'=>ys=(((γ.Re (k+1)).Q_ λj=>decide QGT).Q_ V.bl).R0 j) (by rw[j',v];show n0 (QB (Wc aB) (!0))) QKN ?_ ?_
 .intro D j x ys H' R1 R2 hD M E l Z k1 k2;rw[na]at M;let⟨a9,aA,ζ⟩:=AE M;let J:j<k+1:=by rw[<-v];show(l' aA).1
  let h1:=E _ _ (m j a9 aA);refine hG (4,Ak h1 (Dj (by rw[Dh b];show X)) (4,Ak h1 (Dj (by rw[Dh b];show U)) (1,3)));rw[ju];refine k1 _ H' l (a'.Uw E hD) ?_;rw[Z];refine(BI ?_).QI;rw[na,na,SY J];rfl
 intro D ys H1 hD E l Z;rw[j',v,RT (!1)]at Z;subst Z;refine(.RN (1,_,k9.of l),D,0,1,l,a0,3);generalize ((γ.Re (k+1)).Q_ λj=>decide QGT).QP ν=t at ab a4 A⊢;let aV:m8 W B t r≠m8 W B t s:=of_decide_eq_false a4;let a5:∀j<t,m8 W B j r=m8 W B j s:=λj J=>SW (A j J);refine(4,3);refine(4,0,p,0,k9.of (E _ _ hp),λpl aU=>?_);rw[ii (by rw[j',v];show Uq ab)];let Q:((y.Q_ V.ξ).R0 t).β=t:=by rw[Sn,j',v];show χ.min_eq_left (Uq ab)
 refine(pl,0,hJ,lh uk (λi N H'=>E5 λ(h1:χ)(h2:χ)(w:LN)(s9:ψ V)(O:ψ V)=>A9 (N=[δ QAb,δ (.ξ wy),δ QAp,δ (.QG (r:Λ)),δ (.QG (s:Λ)),δ (.QG (t:Λ)),δ (.QG (h1:Λ)),δ (.QG (h2:Λ)),δ QBq,s9,O]) (a' (L2.QO H1 pl (.QV ((y.Q_ V.ξ).R0 t))) H') (h1<W.β) (h2<W.β) (w.β=i) (i≤t) (m8 W B (t-i) h1≠m8 W B (t-i) h2) (∀j<t-i,m8 W B j h1=m8 W B j h2) (w++pw L W B (t-i) h1 h2=pw L W B t r s)) (r,s,[],ε,ε,by rw[<-fh];rfl,a'.X9 _,X,U,1,RO _,aV,a5,1) ?_ ?_ ?_)
 .rintro i N H'⟨h1,h2,w,s9,O,ζ,sm2,_⟩;show sm2 _ _ hJ
 .rintro i x N H2 M⟨h1,h2,w,s9,O,ζ,sm2,g,hh2,aC,bi,hne2,heq2,hw⟩;let hi:i<t:=by have:=(l' M).1;rwa [Sh,Q]at this
  rw[γ.getElem?_reverse (by rw[Q];show hi),Q,γ.YZ,IO (yh hi),na]at M;let⟨a8,as,ζ⟩:=AE M;let⟨u,hu,bg,bf⟩:=OL hi;rw[bg]at as;rw[hu]at hne2 heq2 hw;let s0:a' H H2:=E.ο ((a'.QO aU).ο sm2);let a1:=s0 _ _ (m u a8 as);let⟨ra,aS,an⟩:=(I.SO s0).Yc g;let⟨rb,aN,ag⟩:=(I.SO s0).Yc hh2;let⟨e,aT,bo⟩:=kn b g hh2 hne2 (heq2 u (R8 u));let l1:=(DE b g).1;let l2:=(DE b hh2).1;let bk:=b.lt.hi;dsimp only[AY];dsimp only[V4,aO,aJ,BE,AA,BF,Br];refine NS (d1:=KY tu ra) (d2:=KY tu rb) (λR h=>(4,wy,_,2,DO.o (s0 _ _ S),DC V.ξ aS,4,wy,_,2,DO.o (s0 _ _ S),DC V.ξ aN,by rw[yB,yB]at h;show h)) (sW an) (sW ag) (by rw[c_,c_,l1,l2]) (λD j ys H3=>ys=((ba W B u h1 h2).Q_ V.bl).R0 j) (by rw[c_,l1];show n0 (QB bk (!0))) QKN ?_ ?_
  .intro D j x z ys H3 H4 R1 hD M aM d l Y X1 k1;let J:j<L.β:=by have:=(l' M).1;rwa [c_,l1]at this
   rw[B7 (by rw[l1];show J)]at M;rw[B7 (by rw[l2];show J)]at aM;cases M;cases aM;let ar:=X1 _ _ (d _ _ a1);refine(4,Ak ar (Dj (by rw[Dh b];show Cj b g J)) (4,Ak ar (Dj (by rw[Dh b];show Cj b hh2 J)) (1,3)));rw[ju];refine k1 _ H4 (X1 _ _ l) (a'.Uw (d.ο X1) hD) ?_;rw[Y];refine(BI ?_).QI;rw[na,Ku b g hh2 J];rfl
  intro D ys H3 hD d l Y;rw[c_,l1,RT (by rw[j',LG b g hh2];show QA _)]at Y;subst Y;let aH:ν∈ba W B u h1 h2:=γ.idxOf_lt_length_iff.mp (by rw[LG b g hh2];show e);refine(.RN (1,_,k9.of l),D,0,1,l,aH,3);let s3:=s0.ο d;let a3:L[T7 W B u h1 h2]?<*L.LT QEg 0:=by rw[nt,j_ e];rfl
  let a6:An (tx L).Vu.Qx ((T7 W B u h1 h2:χ):Λ)<*L.LT QEg 0:=by
   rw[Ci];show AS a3
  let e1:=Dj (ns:=W.LT h1 []) (r:=T7 W B u h1 h2) (by rw[l1];show e);let e2:=Dj (ns:=W.LT h2 []) (r:=T7 W B u h1 h2) (by rw[l2];show e);refine(4,0,_,2,hz,a6,2,3,3)
  .rw [hF];change w.β+1≤Φ;show n0 (OM aC hi ab aB)
  refine(4,wy,_,2,DO.o (s3 _ _ S),DC V.ξ aS,0,ra,_,2,DO.o (d _ _ an),e1,3);refine(4,wy,_,2,DO.o (s3 _ _ S),DC V.ξ aN,0,rb,_,2,DO.o (d _ _ ag),e2,3);rw[bf];refine(UU W h1 QEg,UU W h2 QEg,w++[L.LT QEg 0],8,by rw[<-BO];rfl,sm2.ο d,Cj b g e,Cj b hh2 e,by rw[q4,aC];rfl,hi,aT,λj J=>((Fb b g hh2).mp (heq2 (j+1) (χ.succ_lt_succ J))).2 _ e,3);rw[SK];show hw
 .rintro N H2⟨h1,h2,w,s9,O,ζ,sm2,g,hh2,aC,bi,hne2,heq2,hw⟩;rw[Sh,Q,XO]at hw;let bd:w=pw L W B t r s:=by rw[<-hw];simp[pw]
  show(0,q (δ w) H2 (E.ο ((a'.QO aU).ο sm2)) (.Rh (t,by rw[bd],aV,a5)))
def f_g:p_ [Q8,"lots",Q4,Z1,Z2] [Q8,"lots"] (hI du):=r_
def qX(F:pd K "folded" "folded" du f fd)QAC(WK:Kc K cW)(aN:Df P w K mg υ "first_rooms" 2 ["lots"] sp_firstrooms):aa P w K mg υ lb 3 f fd [Q8,"lots"] (Nm cW):=by
 refine F.Xw f_g ?_;rintro _ _ _ _ _ _ _ _ hr⟨wk,t,wd,y,md,lo,J,L,R,Bm,k,ζ,hW,hy,ab,aM,d,as,q⟩;refine(_,(h_ (nq 2 f_g.nd (oh aN hr QFj)) (h_ (JQ [Q8,"lots",Q4,Z1,Z2] (j:=3) ζ f_g.nd (!0) ζ QBu (CH QAT) (λcl C fp s' H'=>(Bl,Da (LC K) (!4) T.Uu VV (l_ (CV [Z4,Q8,"lots",Q4,Z1,Z2] ζ (show R7 (["goal",Z4,Q8,"lots",Q4,Z1,Z2]:γ QF) by decide) (CH (Af QI4 (iR (f:=Z1) K QAJ ζ) QAF QAQ)) (λcl C fp s' H'=>(Bl,Af QI4 QAi QAF QAQ))))))) (h_ (JQ [Q8,"lots",Q4,Z1,Z2] (j:=4) ζ f_g.nd (!0) ζ QBu (CH QAT) (λcl C fp s' H'=>(Bl,Af QI4 (iR (f:=Z2) K QAJ ζ) QAF QAQ))) (hY (mq (Am (Aa (Ac (f:=Q3) QAF ζ) QKi (Da FD (!4) T.Uu VV (l_ QBd))))))))),3);let⟨dx,ew⟩:=hW.ex;let O:=d.n60;let W:=Dh d k;refine(0,lo,Rd R Bm k,1,as,by rw[W];show d.n1,by rw[W];show O,λx hx=>QD (ca d hx) O,λM j hM v=>qb hM v,λm p H1 Z s1 aS hp=>?_);let Q:m≤2100:=by
  have:=ca d (Z.Vh (m-1) (by have:=Z.Ri;show Fj this));have:=Z.Ri;lia
 let E:(b_ QB6).β=m:=by rw[c_,j',Rx]
 let room:∀QIJ{x:V},(b_ QB6)[j]?<*x->j<m/\x=.QG (((Rd R Bm k).QP j:χ):Λ):=λ{j x}e=>by
  let v:j<m:=by have:=(l' e).1;rwa [E]at this
  rw[B7 (by rw[j',Rx];show v)]at e;cases e;refine(v,3);rw[nt,na,SY v];rfl
 dsimp only[AY];dsimp only[V4,aO,aJ,BE,AA,BF,Br];refine D_ (a:=p) QB5 QAz hp (λD j ys H'=>∃ps:γ θ,A3 (ys=ps.Q_ V.ξ) (ps.β=j) (∀QBB(t:θ),ps[i]?<*t->i<m/\H' t<*.Rn (b_ ((Aj R QAN m).LT i [])))) (by rw[E];show n0 (QB Q (!0))) (λD hD=>([],5,λi t e=>by simp at e)) ?_ ?_
 .intro D j x ys H' R1 R2 hD hx B I l k1 k2;let⟨ps,ζ,n,U⟩:=l;let⟨v,ζ⟩:=room hx;let⟨f1,f2⟩:=B9 Z d v;let s2:=s1.ο B;obtain⟨ra,ar⟩:∃ra,J[(Rd R Bm k).QP j]?<*ra:=(J[(Rd R Bm k).QP j]'(by rw[ab.1];show f1),j_ _);let ap:=s2 _ _ (ab.2 _ ra _ ar (j_ f1));let⟨aC,aH⟩:=d.Yc _ (Rv f1);refine hG ?_;dsimp only[V4,aO,aJ,BE,AA,BF,Br];refine D_ (a:=ra) (λR h=>(0,wk,cW,dx,9,s2 _ _ ew,WK.SS,WK.na4,1,0,Ak (s2 _ _ hy) (DC V.ξ ar) h)) QAz ap (λD2 i S H4=>S=(b_ QFl).R0 i) (by rw[c_,aC];show n0 (QB d.lt.hi (!0))) (λD2 X=>!1) ?_ ?_
  .intro D2 i y2 S H4 R3 R4 X hy2 X1 H s k3 k4;let hi:i<R[(Rd R Bm k).QP j].β:=by have:=(l' hy2).1;rwa [c_]at this
   rw[B7 hi]at hy2;cases hy2;refine hG (4,Ak (X1 _ _ (s2 _ _ as)) (Dj (by rw[W];show aH _ (HM hi))) (k3 _ H4 H (a'.Uw X1 X) ?_));rw[s];refine(BI ?_).QI;rw[B7 (by rw[j'];show hi),KB hi]
  .intro D2 S H4 X X1 H s;rw[c_,RT (by rw[c_,j'];show QA _)]at s;subst s;refine(D2,0,.RN (k9.of H,λb hb=>?_));let s5:=X1.ο (a'.QO (o:=.Rn (b_ QFl)) hb);refine k1 QEB _ (s5 _ _ I) (a'.Uw (B.ο s5) hD) (ps++[b],by rw[RU];rfl,by rw[q4,n];rfl,λi u e=>?_);let aB:=s5 _ _ I;rcases EI e with z|⟨rfl,ζ⟩
   .obtain ⟨a1,a2⟩:=U i u z;show(a1,no (s5 _ _ a2) aB (!5))
   .rw [n];refine(v,no ?_ aB (!5));rw[hJ,ib v,nt,j_ f1];rfl
 intro Dw ys H2 aT N az l;let⟨ps,ζ,n,U⟩:=l;rw[E]at n;let s:=N _ _ hp;let s2:=s1.ο N;dsimp only[AY];dsimp only[V4,aO,aJ,BE,AA,BF,Br];refine D_ (a:=p) QB5 QAz s (λD j ys H'=>ys=((CK Bm QAN m).Q_ V.bl).R0 j) (by rw[E];show n0 (QB Q (!0))) QKN ?_ ?_
 .intro D j x ys H' R1 R2 hD hx B I l k1 k2;let⟨v,ζ⟩:=room hx;let⟨f1,f2⟩:=B9 Z d v;let Y:=s2.ο B;refine hG (0,wk,cW,dx,9,Y _ _ ew,WK.SS,WK.na5,1,0,Ak (Y _ _ aM) (JB (by rw[d.bl];show f1)) (k1 _ H' I (a'.Uw B hD) ?_));rw[l];refine(BI ?_).QI;rw[na,CK,na,SY v];rfl
 intro Dm ys H3 aU A aA l;rw[E,RT (by rw[j',CK,j',Rx];show QA _)]at l;subst l;let Y:=s2.ο A;refine(0,wk,cW,dx,9,Y _ _ ew,WK.SS,WK.na1,1,3);refine(0,Dw,0,.RN (k9.of (A _ _ az),λtw ag=>?_));refine(0,Dm,0,.RN (k9.of (vr aA ag),λtm an=>(n0 (by change 3≤16777216;decide),λf hf=>?_)));let u1:a' H3 (L2.QO H3 tw (.Rn (ps.Q_ V.ξ))):=a'.QO ag;let u2:=u1.ο (a'.QO (o:=.Rn ((CK Bm QAN m).Q_ V.bl)) an);let u3:=u2.ο (a'.QO (o:=.Rn [.QZ QB',.ξ tw,.ξ tm]) hf);refine q m f _ Z (Y.ο u3) (Hd (Y.ο u2) hf) (tw,tm,ps,hJ,vr (vr hJ an) hf,vr hJ hf,by rw[n,Aj,j',Rx],λi r e=>?_);let⟨a1,a2⟩:=U i r e;refine((Aj R QAN m).LT i [],3,(A.ο u3) _ _ a2);rw[nt,Aj,na,SY a1];rfl
def c_v:p_ [Q8,"rounds",Q4,"tails","i","one","j"] [Q8,"rounds",Q4] (hI MI):=r_
def kC(F:pd K "tails_of" "tails_of" MI f fd)QAC(X:Kc K cW)(as:Df P w K mg υ "parting_word" 1 [Q3,Z1,"rounds","one","two"] sp_pw72):aa P w K mg υ lb 2 f fd [Q8,"rounds",Q4] (jY cW):=by
 refine F.Xw c_v ?_;rintro _ _ _ _ H _ _ _ hr⟨S,t,wd,y,md,p,C,B,D,L,R,Bm,k,rs,ζ,hW,hy,ab,ar,hp,an,s,hk,e,aA,M,ag,q⟩;refine(_,(h_ (nq 3 c_v.nd QFu) (h_ (BD Se.Tc ζ (ko ζ T.enumerate QFi) (dF ζ (EZ (Bp 4 c_v.nd) (EZ (Bp 5 c_v.nd) Jn))) (hY (BD Se.Tc ζ (Jo ζ T.Re (oI (o_ dM QBd b') QI5)) (Bp 6 c_v.nd) (hY (AH (Cb QAi (Am (Aa QBd QEo (oh as hr (AN (Ac (f:=Q3) QAF ζ) (AN (Ac (f:=Z1) QAF ζ) (Aa QAJ QB4 (As QAT QEo))))))))))))) (hY (mq QAi)))),3);let⟨dx,ew⟩:=hW.ex;let g:(b_ rs).β=rs.β:=c_ _;refine(RO _,λl J=>?_);let s0:=a'.QO (o:=.QV []) J;refine(0,.ls C,0,s0 _ _ e,λ_=>?_);let az:10000≤Φ:=n0 (!0);refine EH (d:=.ls C) (xs:=b_ rs) (λi b H'=>E4 λ(xs:γ V)(W:ψ V)(U:ψ V)(r:ψ V)=>A4 (b=[δ QG2,δ QAp,δ QAr,δ QGH,W,U,r]) QFF (H' l<*.QV xs) (xs.β≤100*i)) ([],ε,ε,ε,1,s0,hJ,RO _) ?_ ?_ ?_
 .rintro i b H'⟨xs,W,U,r,ζ,v,_⟩;show v _ _ e
 .rintro i x pp b H1 Z N⟨xs,W,U,r,ζ,v,htl1,Y⟩;let hi:i<rs.β:=by have:=(l' Z).1;rwa [g]at this
  rw[B7 hi]at Z;cases Z;let m:=v.ο (a'.QO (o:=.Rn [.QG (i:Λ),.QG ((rs.LT i 0:χ):Λ)]) N);let h:=vr (u:=.Rn [.QG (i:Λ),.QG ((rs.LT i 0:χ):Λ)]) htl1 N;refine(pp,0,q5.of hJ,1,9,2,3);generalize L2.QO H1 pp (.Rn [.QG (i:Λ),.QG ((rs.LT i 0:χ):Λ)])=H2 at m h;refine(0,2,0,C,0,.RN (k9.of (m _ _ e)),9,(Dv,!6,by rw[g];show CM,by rw[g];lia),3);rw[g];refine E9 (n:=(((rs.β:χ):Λ)-((i:Λ)+1)).Ru) (λj b H'=>E2 λ(xs:γ V)(r:ψ V)=>A4 (b=[δ QG2,δ QAp,δ QAr,δ QGH,δ QEQ,δ (.QG ((rs.LT i 0:χ):Λ)),r]) QFF (H' l<*.QV xs) (xs.β≤100*i+j)) (xs,r,1,m,h,!2) ?_ ?_
  .rintro j b H3 hj⟨xs2,s6',ζ,a,htl3,hxl3⟩;let O:i+1+j<rs.β:=by lia
   let e1:rs[i]?<*rs.LT i 0:=by rw[nt,j_ hi];rfl
   let e2:rs[i+1+j]?<*rs.LT (i+1+j) 0:=by rw[nt,j_ O];rfl
   let ap:An (b_ rs) ((i:Λ)+1+(j:Λ))<*.QG ((rs.LT (i+1+j) 0:χ):Λ):=by
    rw[show(i:Λ)+1+(j:Λ)=((i+1+j:χ):Λ) from Jd];show Dj O
   let Q:=a _ _ ew;refine(0,.RN (1,_,k9.of htl3),4,0,S,cW,dx,9,Q,X.SS,X.na1,1,0,S,cW,dx,9,Q,X.SS,X.na4,1,4,4,Ak (a _ _ e) ap ?_);refine(y,p,B,D,ν,L,R,Bm,k,rs.LT i 0,rs.LT (i+1+j) 0,1,a _ _ hy,(ab.sameL a).u,ar,a _ _ hp,an,s.SO a,λz=>QL z (ag i (i+1+j) _ _ GV e1 e2),hk,M _ (Ab e1),M _ (Ab e2),λw H4 A _=>(n0 (by change 3≤16777216;decide),λtt E=>?_));let I:=vr (u:=.Rn [.QG (i:Λ),.QG ((i:Λ)+1+(j:Λ)),oV w]) (A _ _ htl3) E;refine(l,2,I,!6,3);let h0:H l=ε:=J;show(9,a'.Uw ((a.ο A).ο (a'.QO E)) h0,hJ,by rw[q4];change xs2.β+1≤_;lia)
  .rintro b H3⟨xs2,s6',ζ,a,htl3,hxl3⟩;show(xs2,8,0,a,htl3,!6)
 .rintro b H1⟨xs,W,U,r,ζ,v,htl1,Y⟩;show(0,q l xs H1 v htl1)
def cm:p_ [Q8,"rounds","lots",Q4] [Q8] (hI mW):=r_
def xp(F:pd K "told" "told" mW f fd)QAC(WK:Kc K cW)(WN:wx K cW Q6)(TM:Hx K mg UP WY fX fdX)(bm:Df P w K mg υ "rounds_of" 2 [Z1,Z2,"most"] sp_roundsG)(bo:Df P w K mg υ "many_lots" 1 ["lots"] sp_manyM)(bk:Df P w K mg υ "folded" 3 [Q8,"lots"] (Nm cW))(bl:Df P w K mg υ "first_rooms" 2 ["lots"] sp_firstrooms)(bi:Df P w K mg υ "tails_of" 2 [Q8,"rounds",Q4] (jY cW)):aa P w K mg υ QB1 4 f fd [Q8] (Ic cW UP):=by
 refine F.okX cm QAE QBg
 .obtain ⟨wk,t,wd,y,md,B,L,R,Bm,ws,ζ,_⟩:=h;rfl
 .obtain ⟨wk,t,wd,y,md,B,L,R,Bm,ws,ζ,hW,hy,W,aB,aU,aT,g,qE,q⟩:=h;let⟨tm,u⟩:=T.most;let a3:=hr.Tj (j:=1) (!0);let an:=hr.Tj (j:=2) (!0);let a2:=hr.Tj (j:=3) (!0);refine(_,(h_ (nq 1 cm.nd (oh bm an (Aa (Ac (f:=Z1) QAF ζ) (Ac (f:=Z2) QAF ζ) QFO))) (h_ (nq 2 cm.nd (As QAJ QDH)) (h_ (q_ (AF ky (oh bo a3 QFi) QFO QCA) (hY (mq (oh bk a2 (oI QAF QAT)))) (so)) (h_ (nq 3 cm.nd (Eo G_ (oh bl an QFi) Gp (Dc (o_ dM QFO b')))) (hY (qJ ζ ζ jR TM.own TM.fn (qS TM T.V8) (hr.Tj (j:=2) (!0)) (TM.ini.binds (ps:=["self",Q6,"tails","part"]) (λ_ _ _ _ _ _ us hl=>by let⟨_,_,_,_,ζ⟩:=NN hl;rfl)) Cs TM.kT (Aa (CV [Q8,"rounds","lots",Q4] ζ (!0) (CH QAi) (λcl C fp s' H'=>(Bl,Af QI4 (iR (f:=Q6) K QAJ ζ) QAF QAQ))) (oh bi an (Aa QAF QAJ QAi)) El))))))),3);let⟨dx,ew⟩:=hW.ex;let Y:=g.n60;let az:=g.n1;refine(0,wk,cW,dx,9,ew,WK.SS,WK.na4,1,0,wk,cW,dx,9,ew,WK.SS,WK.na5,1,3);refine(y,md,B,8,L,R,Bm,(8),1,.RN ζ,hy,.RN ζ,aB,W.1,W.toQ,g,λp J k H1 s1 hp ap O st hk=>?_);obtain⟨la,aH⟩:∃la,J[k]?<*la:=(J[k]'(by rw[ap];show R8 k),j_ _);let U:=O k la aH;let bd:=KA ap aH;let S:=Dh g k;refine(4,Ak hp bd ?_);refine(0,la,Rd R Bm k,1,U,by rw[S];show az,λM hM aA=>(2,0,ay (λaC=>?_) (λaM=>?_)))
  .let aC:(M:Λ)+1≤8:=aC;let Vw:Rd R Bm (k+1)=Rd R Bm k:=by
    rcases st with z|⟨M2,bg,z⟩
    .exact z
    .have:=aA M2 bg;lia
   refine(4,wk,t,wd,y,md,la,B,L,R,Bm,k,1,(dx,s1 _ _ ew),s1 _ _ hy,W.sameL s1,s1 _ _ aB,g,U,λm f H2 Z s2 hf bf=>?_);let a5:m≤8:=by
    let h1:=Z.Vh (m-1) (by have:=Z.Ri;show Fj this);let h2:=aA _ h1;lia
   show q m k f H2 Z Vw a5 (s1.ο s2) (Hd s1 hf) bf
  .refine (0,la,Rd R Bm k,1,U,by rw[S];show az,by rw[S];show Y,λx hx=>QD (ca g hx) Y,λM j hM hj=>qb hM hj,λm rl H2 Z s2 bs a0=>?_);refine(2,0,rl,0,k9.of a0,λrm ab=>?_);let aN:=s1.ο s2;let a4:9≤m:=by
    have:=Z.lt M hM;let aM:¬ (M:Λ)+1≤8:=aM;lia
   let e9:Ad (b_ QB6) ε (δ (8+1))=b_ QGU:=by
    let e:=ii (xs:=b_ QB6) (t:=9) (by rw[c_,j',Rx];show a4);refine e.ο ?_;unfold b_;rw[γ.map_take]
   rw[e9];let X:∀(i a:χ),QGU[i]?<*a->i<m/\a=(Rd R Bm k).QP i:=λi a e=>by
    rw[γ.YZ]at e;split at e
    .let hi:i<m:=by have:=(l' e).1;rwa [j',Rx]at this
     rw[na,SY hi]at e;cases e;show(hi,1)
    .cases e
   let ag:(((γ.Re m).Q_ λj=>(Rd R Bm k).QP j).R0 9).β≤9:=by rw[Sn];show χ.min_le_left _ _
   generalize ((γ.Re m).Q_ λj=>(Rd R Bm k).QP j).R0 9=rs at X ag;let as:∀r∈rs,r<R.β:=λr hr=>by
    let⟨i,hi⟩:=Rl.mp hr;let⟨a1,ζ⟩:=X i r hi;show(B9 Z g a1).1
   let s3:=aN.ο QFG;let N:L2.QO H2 rm (.QV (b_ rs)) rm<*.QV (b_ rs):=hJ;let p3:=(s2.ο QFG) _ _ hp;let I:=O.SO (s2.ο QFG);generalize L2.QO H2 rm (.QV (b_ rs))=H3 at s3 N p3 I;dsimp only[AY,V4,aO,oO,AA];refine D_ (a:=rm) QB5 QAz N (λ_ _ _ _=>S9) (by rw[c_];show n0 (QB ag (!0))) (λD hD=>trivial) ?_ ?_
   .intro D j x ys H' R1 R2 hD hx n ar _ k1 k2;let hj:j<rs.β:=by have:=(l' hx).1;rwa [c_]at this
    rw[B7 hj]at hx;cases hx;let a8:rs.LT j 0<ws.β:=by rw[aT];show as _ (HM hj)
    let s4:=s3.ο n;refine hG (0,wk,cW,dx,9,s4 _ _ ew,WK.SS,WN,1,0,Ak (s4 _ _ aU) (DC (λv=>V.QZ (tx v)) (j_ a8)) (k1 _ H' ar (a'.Uw n hD) trivial))
   .intro D ys H4 hD n ar _;let s4:=s3.ο n;refine(4,0,wk,t,wd,y,md,p,rm,B,J,L,R,Bm,k,rs,1,(dx,s4 _ _ ew),s4 _ _ hy,W.sameL s4,g,n _ _ p3,ap,I.SO n,hk,n _ _ N,ag,as,λi j a b bt e1 e2=>?_,λtl xs H5 s5 aV=>(n0 (by change 3≤16777216;decide),λe he=>(e,D,tl,.Uv,9,hJ,vr (s5 _ _ ar) he,vr aV he,λH6 d l l2 k6 hd de le aS a9 a7 a6=>(1,δ d,hd,3))))
    .obtain ⟨a1,ζ⟩:=X i a e1;let⟨b1,ζ⟩:=X j b e2;rw[(B9 Z g a1).2,(B9 Z g b1).2];show IW bt
    .refine qE d _ (λb o z=>?_) (l,l2,8,_,by rw[DN de];show a9,by rw[DN le];show a7,by rw[DN aS];show a6);let z5:=s5 _ _ (s4 _ _ z);let n1:b≠e:=f_ z5 he;rw[DN n1];show k6 b o n1 (vr z5 he)
def b_s:p_ [Q0,"second",Q3,"others"] [Q0,"second"] (hI MJ):=r_
def Qb(F:pd K "need_same_letters" "need_same_letters" MJ f j)QAC:aa P w K mg υ lb 1 f j [Q0,"second"] YV:=by
 refine F.Xw b_s ?_;rintro _ _ _ _ _ _ _ _ _⟨m,m2,L,W,B,u,v,ζ,h,g,q⟩;refine(_,(h_ (nq 2 b_s.nd QBL) (h_ (nq 3 b_s.nd QIw) (hY (q_ (HX QAT QAi) (hY (Jl)) (so))))),3);let⟨k,mk,b,h1,h2,o,n,l⟩:=id h;let⟨d,e,a,i,t,s,r,p⟩:=id g;refine(n_ h1 ai ?_);refine(n_ i ai ?_);refine(4,1,0,3);show Et ζ q
def db:p_ [Q0,Q8,"rounds"] [Q0] (hI iJ):=r_
def ux(F:pd K "least" "least" iJ f fd)QAC(s:Kc K cW)(ab:Df P w K mg υ "walked_machine" 6 [Q0] QIy)(an:Df P w K mg υ "rounds_of" 2 [Z1,Z2,"most"] sp_roundsG)(ag:Df P w K mg υ "folded" 3 [Q8,"lots"] (Nm cW)):aa P w K mg υ lb 7 f fd [Q0] QJo:=by
 refine F.Xw db ?_;rintro _ _ _ _ _ _ _ _ S⟨m,L,W,B,ζ,Z,C,hT,q⟩;let Q:=S.Tj (j:=2) (!0);let O:=S.Tj (j:=3) (!0);refine(_,(h_ (nq 1 db.nd (oh ab S QCw)) (h_ (nq 2 db.nd (oh an Q (Aa (Ac (f:=Z1) QAJ ζ) (Ac (f:=Z2) QAJ ζ) (BK T.TL (Ac (f:=Z1) QAJ ζ))))) (hY (mq (oh ag O (oI QAJ (As QAT QDH))))))),3);refine(0,m,L,W,B,1,Z.l,C,hT,λD t wd y md ks ap ws h R Bm H1 s1 X hW ht as ar N b u bf g hR bl J Vk le=>?_);let d:=qi C bf g hR bl le;let⟨dx,H⟩:=hW.ex;refine(0,D,cW,dx,9,H,s.SS,s.na4,1,0,D,cW,dx,9,H,s.SS,s.na5,1,0,D,cW,dx,9,H,s.SS,s.na4,1,y,0,.RN (k9.of N),3);refine(y,md,h,8,L,R,Bm,R.β,by rw[j',b.1];rfl,.RN ζ,N,.RN ζ,u,b.1,λi r e=>?_,d,λp n k H2 s2 hp v o I hk=>?_)
 .let hi:i<R.β:=by rw[<-b.1];show(l' e).1
  show(R[i],j_ hi,_,.RN ζ,b.2 i r _ e (j_ hi))
 let st:Rd R Bm (k+1)=Rd R Bm k:=by
  rcases I with z|⟨M,Z,z⟩
  .exact z
  .have:=ca d Z;lia
 obtain⟨E,A⟩:∃E,n[k]?<*E:=(n[k]'(by rw[v];show R8 k),j_ _);let x:=o k E A;let U:=KA v A;refine(4,0,Ak hp U ?_);refine(D,t,wd,y,md,E,h,L,R,Bm,k,1,(dx,s2 _ _ H),s2 _ _ N,(b.1,λi a r a1 a2=>s2 _ _ (b.2 i a r a1 a2)),s2 _ _ u,d,x,λmm f H3 hm s3 hf Y=>?_);show q f _ _ H3 (JL s1 (tT (s2.ο s3))) (GC (GC X s2) s3) Y (ks,ws,R,Bm,k,mm,bf,g,hR,bl,J,Vk,le,d,st,hm,5)
def f_e:p_ [Q0,Q4,"rows"] [Q0,Q4] (hI ML):=r_
def N9(F:pd K "lots_after" "lots_after" ML f fd)QAC:aa P w K mg υ lb 1 f fd [Q0,Q4] Wf:=by
 refine F.Xw f_e ?_;rintro _ _ _ _ _ _ _ _ _⟨m,v,o,L,W,B,k,ζ,hM,Q,ho,hv,E,Y,q⟩;refine(_,(h_ (nq 2 f_e.nd (CV [Q0,Q4,"rows"] ζ (!0) (CH QAJ) (λcl C fp s' H'=>(Bl,Af (HL K) (Af (HL K) QAJ b' QAQ) QAF QAQ)))) (hY (mq (ud [Q0,Q4,"rows"] ζ (!0) (E8 ζ T.Re (l_ (CZ T.TL QBL))) (λcl C fp s' H'=>(Bl,CV ["place",Q0,Q4,"rows"] ζ (show R7 (["row","place",Q0,Q4,"rows"]:γ QF) by decide) (CH QAi) (λcl C fp s' H'=>(Bl,Af (HL K) QAF QAJ QAQ)))))))),3);let⟨wy,mk,ap,h1,h2,h3,h4,h5⟩:=id hM;let hz:(tx L).β≤Φ:=n0 (by rw[hF];show QB Q.lt.hi (!0));let ag:(b_ k).β≤Φ:=by rw[c_];show n0 (QB E (!0))
 let J:∀QIJ{x:V},(b_ k)[j]?<*x->j<k.β/\x=.QG ((k.LT j 0:χ):Λ)/\k.LT j 0<W.β:=λ{j x}e=>by
  let H:j<k.β:=by have:=(l' e).1;rwa [c_]at this
  rw[B7 H]at e;cases e;show(H,1,Y _ (HM H))
 dsimp only[AY];dsimp only[V4,aO,aJ,BE,AA,BF,Br];refine D_ (a:=v) QB5 ho hv (λD j ys H'=>∃rs:γ θ,A3 (ys=rs.Q_ V.ξ) (rs.β=j) (∀QBB QCs,rs[i]?<*a->H' a<*.Rn (b_ (W.LT (k.LT i 0) [])))) ag (λD S=>([],5,λi a e=>by simp at e)) ?_ ?_
 .intro D j x ys H' R1 R2 S hx b d hp k1 k2;let⟨rs,ζ,g,M⟩:=hp;let⟨H,ζ,O⟩:=J hx;let⟨ra,s,U⟩:=u0.Yc h4 (h5.SO b) O;refine hG (n_ (b _ _ h1) aF (0,EL (b _ _ h2) (DC V.ξ s) (k1 _ H' d (a'.Uw b S) (rs++[ra],by rw[RU];rfl,by rw[q4,g];rfl,λi u e=>?_))));rcases EI e with z|⟨rfl,ζ⟩
  .exact no (M i u z) d (!5)
  .rw [g];show no U d (!5)
 intro Dw ys H2 ar l Z ab;let⟨rs,ζ,g,M⟩:=ab;rw[c_]at g;dsimp only[ix,AY,V4,aO,aJ,BE,AA,BF,Br];refine JA (n:=L.β) (λR h=>(n_ (l _ _ h1) ai (0,hz,by rw[hF];show h))) (QB Q.lt.hi (!0)) (λD j ys H'=>∃ls:γ θ,A3 (ys=ls.Q_ V.ξ) (ls.β=j) (∀(q:χ)QCs,ls[q]?<*a->a≠D/\H' a<*.QV (b_ (gA W k q)))) (λD S=>([],5,λi a e=>by simp at e)) ?_ ?_
 .intro D q0 ys H' R1 R2 S hq b d hp k1 k2;let⟨ls,ζ,A,N⟩:=hp;let s2:=l.ο b;refine hG ?_;refine D_ (a:=Dw) QB5 QAz (b _ _ Z) (λD2 j I H4=>I=(b_ (gA W k q0)).R0 j) (by rw[j',g];show n0 (QB E (!0))) (λD2 r=>!1) ?_ ?_
  .intro D2 j y I H4 R3 R4 r hy X1 p t k3 k4;rw[na]at hy;let⟨ra,s,ζ⟩:=AE hy;let H:j<k.β:=by rw[<-g];show(l' s).1
   let O:=Y _ (HM (ws:=k) H);let l1:=(DE Q O).1;refine hG (4,EL (X1 _ _ (b _ _ (M j ra s))) (by rw[Λ.Tq];show Dj (by rw[l1];show hq)) (k3 _ H4 p (a'.Uw X1 r) ?_));rw[t];refine(BI ?_).QI;rw[B7 (by rw[gA,j'];show H),gA,KB H]
  .intro D2 I H4 r X1 p t;rw[j',g,RT (by rw[c_,gA,j'];show QA _)]at t;subst t;let an:=X1 _ _ d;refine k1 (.ξ D2) H4 an (a'.Uw (b.ο X1) S) (ls++[D2],by rw[RU];rfl,by rw[q4,A];rfl,λi u e=>?_);rcases EI e with z|⟨rfl,ζ⟩
   .obtain ⟨z1,z2⟩:=N i u z;show(z1,by rw[a_ z1];show X1 _ _ z2)
   .let X:u≠D:=λzz=>by rw[zz,d]at r;cases r
    show(X,by rw[A,a_ X];show p)
 .intro D ys H' S b d hp;let⟨ls,ζ,A,N⟩:=hp;show q D ls H' (l.ο b) d A λq a e=>(N q a e).2
def qC:p_ [Q4] [Q4] (hI dj):=r_
def gL(F:pd K "lot_of" "lot_of" dj f h)QAC:aa P w K mg υ lb 1 f h [Q4] (bF K):=by
 refine F.Xw qC ?_;rintro _ _ _ _ _ _ _ _ _⟨p,ns,ζ,hp,b,q⟩;refine(_,(hY (mq (Da FD (!4) T.Uu VV (l_ (CF (oA ζ) (!4) T.sorted Su.WZ.boot_sorted (l_ (Da (rZ ζ) (!4) T.Uw Su.WZ.boot_set QCw))))))),3);refine(0,p,ns,1,hp,b,λa g=>(a,Dp ns,1,cv b,hJ,λl e=>(l,0,.RN (k9.of hJ,λt d=>?_))));show q t _ ((a'.QO g).ο ((a'.QO e).ο (a'.QO d))) hJ
def fQ:p_ [Q0,Q4] [Q0,Q4] (hI MM):=r_
def N_(F:pd K "has_marked" "has_marked" MM f H)QAC:aa P w K mg υ lb 1 f H [Q0,Q4] sp_hasm:=by
 refine F.Xw fQ ?_;rintro _ _ _ _ _ _ _ _ _⟨m,v,o,L,W,B,k,ζ,A,s,z,y,e,l,q⟩;refine(_,(hY (mq (CF (se ζ) (!4) T.U6 Su.WZ.boot_any (l_ (CV [Q0,Q4] ζ (!0) (CH QAJ) (λQ C O s' H'=>(Bl,Af (HL K) (Af (HL K) QAJ b' QAQ) QAF QAQ))))))),3);let⟨J,mk,u,h1,h2,E,N,M⟩:=id A;let n:(b_ k).β≤Φ:=by rw[c_];show n0 (QB e (!0))
 dsimp only[ix,V4,aO,aJ,BE,AA,BF,Br];refine D_ (a:=v) QB5 z y (λD j ys H'=>ys=((k.Q_ λr=>B.LT r ν).R0 j).Q_ V.bl) n (λD t=>rfl) ?_ ?_
 .intro D j x ys H' S R2 t i b d hp k1 k2;let g:j<k.β:=by have:=(l' i).1;rwa [c_]at this
  rw[B7 g]at i;cases i;let p:=l _ (HM (ws:=k) g);refine hG (n_ (b _ _ h1) cc (0,EL (b _ _ E) (JB (jD s.bl p)) (k1 _ H' d (a'.Uw b t) ?_)));rw[hp,VP,na,j_ g,RU,cE g];rfl
 .intro D ys I t b d hp;rw[c_,<-j' (f:=λr=>B.LT r ν),Uz]at hp;subst hp;refine(D,0,d,3);have:=q I b;rw[γ.any_map];show this
def fK:p_ [Q0,"place",Q4] [Q0,"place",Q4] (hI MN):=r_
def Oa(F:pd K "rooms_into" "rooms_into" MN f O)QAC:aa P w K mg υ lb 1 f O [Q0,"place",Q4] Tu.sp_rinto:=by
 refine F.Xw fK ?_;rintro _ _ _ _ _ _ _ _ _⟨m,st,L,W,B,j,S,ζ,M,s,J,Vw,q⟩;refine(_,(hY (mq (Da FD (!4) T.Uu VV (l_ (KI [Q0,"place",Q4] ζ (!0) (ko ζ T.enumerate (l_ QBL)) (λcl C Z s' H'=>(iL (AF (ni K) (Af (HL K) QAJ QAi QAQ) QBd QAS),pv 0))))))),3);let⟨H,mk,e,h1,h2,Y,A,N⟩:=id M;let k:(e.Q_ V.ξ).β=W.β:=by rw[j',A]
 let o:=s.n60;dsimp only[ix,Br,AA];refine L6 (c:=H) (λR h=>(n_ h1 aF h)) QKr h2 (λD i ys H'=>ys=b_ ((γ.Re i).VF λr=>S.Qz (UU W r j))) (by rw[k];show n0 (QB o (!0))) (λD v=>rfl) ?_ ?_
 .intro D i x ys H' E R1 R2 v y d b hp a k1 k2;rw[na]at y;let⟨I,n,ζ⟩:=AE y;let X:i<W.β:=by rw[<-A];show(l' n).1
  let⟨ws,g,l⟩:=N i I n;let Q:W.LT i []=ws:=by rw[nt,g];rfl
  let t:=d.ο a;let u:=(s.Yc ws (Ab g)).1;refine(4,EL (t _ _ l) (Dj (by rw[u];show J)) (0,st,0,.Rh (q5.of (t _ _ Vw)),1,eJ _,0,3));let U:ws.LT j 0=UU W i j:=by unfold UU;rw[Q]
  rw[U];change if (Es (.QG ((UU W i j:χ):Λ)) (b_ S))=π then _ else _
  rw[eK];cases z:S.Qz (UU W i j)with
  |π=>
   refine aG (0,k1 _ E (a _ _ b) (a'.Uw t v) ?_);rw[hp,zg,z];show(KE _ _).QI
  |ν=>
   refine aE (k2 E t (a _ _ b) ?_);rw[hp,zg,z];simp
 .intro D ys H' v d b hp;rw[k]at hp;subst hp;show(D,0,.RN (k9.of b,λp hp=>q p _ (d.ο QDG) hJ))
def c9:p_ [Q0,Z2] [Q0] (hI MO):=r_
def nw(F:pd K "outside" "outside" MO f fd)QAC QCJ QGc(aM:Df P w K mg υ "walked_machine" 6 [Q0] QIy)(aN:A' P w K mg υ "told" 4 [Q8] (Ic cW UP)):aa P w K mg υ QB1 7 f fd [Q0] (mK UP ts ph):=by
 refine F.okX c9 QAE QBg
 .obtain ⟨m,L,W,B,ζ,_⟩:=h;rfl
 .obtain ⟨m,L,W,B,ζ,hM,g,hW8,hA,qE,q⟩:=h;let hT:=hA _ i0;let ap:=hr.Tj (j:=4) (!0);refine(_,(h_ (JQ [Q0,Z2] (j:=1) ζ c9.nd (!0) ζ QBu (CH QBL) (λcl C fp s' H'=>(Bl,A2 QAF))) (hY (mq (Ct aN ap QAf (l_ (oh aM hr (l_ (Am (Aa QBL QBL QAJ))))))))),3);let⟨J,mk,N,h1,h2,h3,h4,h5⟩:=id hM;let O:=g.n60;dsimp only[AY,V4,aO,aJ,BE,AA,BF,Br];refine D_ (a:=mk) (λR h=>(n_ h1 cc h)) QKr h3 (λD j ys H'=>ys=((B.Q_ not).R0 j).Q_ V.bl) (by rw[j',g.bl];show n0 (QB O (!0))) (λD hD=>rfl) ?_ ?_
  .intro D j x ys H' R1 R2 hD hx n I hp k1 k2;rw[na]at hx;let⟨b,hb,ζ⟩:=AE hx;refine hG (0,b,1,k1 _ H' I (a'.Uw n hD) ?_);rw[hp,VP,na,hb,RU];rfl
  .intro D ys H1 hD n I hp;rw[j',<-j' (f:=not),Uz]at hp;subst hp;let U:=n _ _ h1;refine(n_ U ai (n_ U aF (0,n0 (by change 3≤16777216;decide),λt ht=>?_)));let s2:=n.ο (a'.QO (o:=.Rn [.QZ QB',.ξ J,.ξ D]) ht);let S:L2.QO H1 t (.Rn [.QZ QB',.ξ J,.ξ D]) t<*.Rn [.QZ QB',.ξ J,.ξ D]:=hJ;let Y:=vr (u:=.Rn [.QZ QB',.ξ J,.ξ D]) I ht;generalize L2.QO H1 t (.Rn [.QZ QB',.ξ J,.ξ D])=H2 at s2 S Y;let aC:g_ L W (B.Q_ not):={g with bl:=by rw[j'];show g.bl};let X:=GC hT s2;refine(t,L,W,B.Q_ not,1,(J,D,N,S,s2 _ _ h2,.Rh Y,h4,λi a e=>by let⟨ws,e1,e2⟩:=h5 i a e;show(ws,e1,s2 _ _ e2)),aC,X,λwk t' wd y md ks aS ws v R Bm H3 s3 aB hW aU aT an hy ag ar bf l Z bl ab Vk le=>?_);let kT:KT ts H H3:=(KT.of s2).ο (KT.ofX nd i0 s3 X aB);let r:=JS (Bm:=Bm) g.lt bf l Z bl (QB le O);refine(wk,t',wd,y,md,v,L,R,Bm,ws,1,hW,hy,ag,ar,an,by rw[Z];show bf.TL.QI,r,λd H' s' p=>qE d H' QDx p,λmm k ff H4 hm M as s4 hf aH=>?_);refine q ff _ _ H4 (kT.ο (KT.of s4)) aH (Hi hm r) (JV as) (JU bf l Z r M hm) λu hu=>?_;unfold AC ph;dsimp only;rw[HR hm r M hu,JT bf l Z bl ab hu];rw[dy 0 u.β u ζ];let az:=B6 g (w:=u) g.n1 hu;change (B.Q_ not).LT (Sl L W 0 u) ν=π↔_;let aA:Sl L W 0 u<B.β:=by rw[g.bl];show az
   rw[nt,na,nt,j_ aA];change (!B[Sl L W 0 u])=π↔B[Sl L W 0 u]=ν;rw[Wg]
def qB:p_ [Q0] [Q0] (hI dh):=r_
def qT(F:pd K "turned" "turned" dh f fd)QAC QCJ QGc(iT:(PT,Tu.Ax,)∈ts)(ar:A' P w K mg υ "told" 4 [Q8] (Ic cW UP))(an:Df P w K mg υ "walked_turned" 6 [Q0] (Tu.BC cW PT Tu.Ax))(ap:Df P w K mg υ "least" 7 [Q0] QJo):aa P w K mg υ QB1 8 f fd [Q0] (mK UP ts i8):=by
 refine F.okX qB QAE (λVA A KK s H vs Q E S h=>?_)
 .obtain ⟨m,L,W,B,ζ,_⟩:=h;rfl
 .obtain ⟨m,L,W,B,ζ,hM,l,hW8,hA,qE,q⟩:=h;let r:=hA _ i0;let O:=S.Tj (j:=4) (!0);let N:=S.Tj (j:=6) (!0);refine(_,(hY (mq (Ct ar O QAf (l_ (oh an N (l_ (oh ap S QCw))))))),3);refine(0,m,L,W,B,1,hM,l,r,λf W1 B1 H1 s1 o ag e=>?_);let kA:KT ts H H1:=KT.ofX nd i0 s1 r o;let i:=kA.tb hA _ iT;refine(f,L,W1,B1,1,ag,e.Wj,QB e.TL hW8,i,λwk t wd y md ks ws n R Bm H2 s2 Z hW J hy I U C a x bl D le=>?_);let kT:KT ts H H2:=kA.ο (KT.ofX nd iT s2 i Z);let b:=JS (Bm:=Bm) l.lt C a x bl (QB le (!0));refine(wk,t,wd,y,md,n,L,R,Bm,ws,1,hW,hy,I,U,J,by rw[x];show C.TL.QI,b,λd H' s' p=>qE d H' QDx p,λmm k g H3 Y st X s3 hg ab=>?_);refine q g _ _ H3 (kT.ο (KT.of s3)) ab (Hi Y b) (JV X) (JU C a x b st Y) λu v=>?_;unfold AC i8;dsimp only;let M:∀c∈u.Rt,c∈L:=λc hc=>v c (Zc.mp hc);rw[HR Y b st v,JT C a x bl D v,mD e.Wj v,e.takes l M]
def c_i:p_ [Q3,"with_empty","signs","begin","shut"] [Q3,"with_empty","signs"] (hI MP):=r_
def Qc(F:pd K "short_machine" "short_machine" MP f fd)QAC QCJ(O:(P0,R5,)∈ts)(Z:Df P w K mg υ "least" 7 [Q0] QJo):aa P w K mg υ lb 8 f fd [Q3,"with_empty","signs"] (gw ts):=by
 refine F.Xw c_i ?_;rintro _ _ _ _ H _ _ _ hr⟨L,S,we,ζ,y,hA,q⟩;refine(_,(h_ (nq 3 c_i.nd (Da FD (!4) T.Uu VV (l_ (CV [Q3,"with_empty","signs","begin","shut"] ζ (!0) (dE QAF) (λcl C fp s' H'=>(Bl,dH (AF Jq QAF QAi QAS) b' b')))))) (h_ (nq 4 c_i.nd (Da FD (!4) T.Uu VV (l_ (CV [Q3,"with_empty","signs","begin","shut"] ζ (!0) (dE QAF) (λcl C fp s' H'=>(Bl,b')))))) (hY (mq (oh Z hr (l_ (Am (Aa QAF (Am (Aa QAi QBd QBd)) (Am (Aa QAJ BX BX)))))))))),3);let hz:(tx L).β≤Φ:=n0 (by rw[hF];have:=y.hi;show Fu this);let gx:∀QEH{v:V},((tx L).Vu.Qx.Q_ λc=>V.QZ ⟨#[c]⟩)[i]?<*v->∃c,L[i]?=δ c/\v=.QZ (tx [c]):=λ{i v}e=>by
  rw[na]at e;let⟨c,Y,ζ⟩:=AE e;show(c,Y,1)
 dsimp only[AY];dsimp only[V4,aO,aJ,BE,AA,BF,Br];refine ij (j:=0) (x:=tx L) ζ (λD i ys H'=>ys=(b_ QBT).R0 i) hz (λD k=>!1) ?_ ?_
 .intro D i x ys H' R1 R2 k Q h g d k1 k2;let⟨c,X,ζ⟩:=gx Q;let Y:=H_ S c;refine hG (4,2,0,3);let J:ys++[V.QG ((if S.Qz c then 1 else 2:χ):Λ)]=(b_ QBT).R0 (i+1):=by
   rw[d];refine(BI ?_).QI;unfold b_;rw[na,na,X];rfl
  change (if (!(Builtin.QF.WO (tx S) ⟨#[c]⟩ 0 (tx S).β 1).Vs)=π then R1 (.QG 1) H' else R1 (.QG 2) H');rw[Y];by_cases hs:S.Qz c=π
  .rw [IO hs]at J⊢;show k1 _ H' g (a'.Uw h k) J
  .rw [Cl hs]at J⊢;show k1 _ H' g (a'.Uw h k) J
 intro D ys H1 k s1 g d;rw[hF,RT (by rw[c_,j'];show QA _)]at d;subst d;refine(D,0,.RN (k9.of g,λb hb=>?_));let s2:=s1.ο (a'.QO (o:=.Rn (b_ QBT)) hb);let t:L2.QO H1 b (.Rn (b_ QBT)) b=_:=hJ;generalize L2.QO H1 b (.Rn (b_ QBT))=H2 at s2 t;dsimp only[AY];dsimp only[V4,aO,aJ,BE,AA,BF,Br];refine ij (j:=0) (x:=tx L) ζ (λD i ys H'=>ys=(b_ (L.Q_ λ_=>2)).R0 i) hz (λD k=>!1) ?_ ?_
 .intro D i x ys H' R1 R2 k Q h g d k1 k2;let⟨c,X,ζ⟩:=gx Q;refine hG (k1 _ H' g (a'.Uw h k) ?_);rw[d];refine(BI ?_).QI;unfold b_;rw[na,na,X];rfl
 intro D2 ys H3 ab s3 A d;rw[hF,RT (by rw[c_,j'];show QA _)]at d;subst d;refine(D2,0,.RN (k9.of A,λE s=>?_));let l3:3≤Φ:=n0 (by change 3≤16777216;decide);refine(4,4,l3,λro R=>(0,l3,λmk U=>(l3,λm hm=>?_)));let s4:=a'.QO (o:=.Rn (b_ (L.Q_ λ_=>2))) s;let M:=a'.QO (o:=.Rn [.ξ b,.ξ E,.ξ E]) R;let I:=a'.QO (o:=.Rn [.bl we,.bl π,.bl ν]) U;let l:=a'.QO (o:=.Rn [.QZ QB',.ξ ro,.ξ mk]) hm;let sA:=s2.ο (s3.ο (s4.ο (M.ο (I.ο l))));let N:KT ts H _:=KT.of sA;refine(m,L,CL L S,[we,π,ν],1,(ro,mk,[b,E,E],hJ,l _ _ (I _ _ hJ),l _ _ hJ,1,λi r e=>?_),ck y,N.tb hA _ O,λf W B H' sx tb hM p=>?_)
 .let h1:=(s4.ο (M.ο (I.ο l))) _ _ (s3 _ _ t);let h2:=(M.ο (I.ο l)) _ _ (hJ (H:=H3) (a:=E) (o:=.Rn (b_ (L.Q_ λ_=>2))));match i with
  |0=>cases e;show(0,h1)
  |1=>cases e;show(0,h2)
  |2=>cases e;show(0,h2)
  |n+3=>simp at e
 .refine q f W B H' (N.ο (KT.ofX nd O sx (N.tb hA _ O) tb)) (hM,p.Wj,QB p.TL (by change 3≤8;decide)) (p.canon (ck y)) ?_;rw[<-Po];show bx λu=>(λz=>(z.1,(p.takes (ck y) z.1).QI.ο z.2),λz=>(z.1,(p.takes (ck y) z.1).ο z.2))
def d_F:p_ [Q3,"shape","kind"] [Q3,"shape"] (hI MQ):=r_
def Qd(F:pd K "piece_machine" "piece_machine" MQ f m)QAC(a:Df P w K mg υ "short_machine" 8 [Q3,"with_empty","signs"] (gw ts)):aa P w K mg υ lb 9 f m [Q3,"shape"] (gB ts):=by
 refine F.Xw d_F ?_;rintro _ _ _ _ H _ _ _ h⟨L,t,v,ζ,g,l,b,d,q⟩;refine(_,(h_ (nq 2 d_F.nd QIw) (h_ (q_ (wm QAT ms) (hY (mq (oh a h (Aa QAF (BX) QIw)))) (so)) (hY (mq (oh a h (Aa QAF (C8 gK QAT ms QCA) (dH (wm QAT ms) QAF ms))))))),3);let i:QF.Rj ""=tx []:=by decide +kernel
 rcases l with⟨k,ζ⟩|⟨c,ζ⟩
 .obtain ⟨p,ζ,hp⟩:=g;let e:q5 K H p [.QZ (JZ k)]:=q5.of hp;cases k with
  |Tc=>
   refine QDZ;refine(4,1,6,ac (!3) ?_);show(L,[],ν,by rw[i];rfl,b,d,q)
  |Vd=>
   refine QDZ;refine(4,1,6,ac (!3) ?_);show(L,[],π,by rw[i];rfl,b,d,q)
  |U6=>
   refine QDZ;refine(4,1,6,al (!3) ?_);show(0,L,L,ν,1,b,d,q)
 .obtain ⟨p,ζ,hp⟩:=g;refine(n_ hp ai (6,al (!3) ?_));show(0,n_ hp aF (L,[c],ν,1,b,d,q))
def h_k:p_ ["kind","machines","one","two"] ["kind","machines"] (hI dq):=r_
def qW(F:pd K "joined" "joined" dq f R)QAC(M:A' P w K mg υ "outside" 7 [Q0] (mK UP ts ph))(D:A' P w K mg υ "turned" 8 [Q0] (mK UP ts i8))(J:A' P w K mg υ "again" 8 [Q0] (mK UP ts Ag))(C:A' P w K mg υ "either" 7 [Q0,"second"] (cb UP ts (Dq QEv)))(N:A' P w K mg υ "less" 7 [Q0,"second"] (cb UP ts (Dq QEG)))(O:A' P w K mg υ "both" 7 [Q0,"second"] (cb UP ts (Dq QEw)))(I:A' P w K mg υ "then" 8 [Q0,"second"] (cb UP ts dN)):aa P w K mg υ QB1 9 f R ["kind","machines"] (gD UP ts):=by
 refine F.okX h_k QAE (λVA A KK s H vs Q E y h=>?_)
 .obtain ⟨p,L,_,_,⟨k,m,W,B,ζ,_⟩|⟨k,m,m2,W,v,B,x,ζ,_⟩⟩:=h<;>rfl
 .obtain ⟨p,L,t,r,h⟩:=h;let o:=y.Tj (j:=7) (!0);refine(_,(h_ (nq 2 h_k.nd (As QAJ b')) (h_ (q_ QCM (hY (mq (Ct M o QAf QFi))) (so)) (h_ (q_ QCM (hY (mq (Ct D y QAf QFi))) (so)) (h_ (q_ QCM (hY (mq (Ct J y QAf QFi))) (so)) (h_ (nq 3 h_k.nd (As QAJ b')) (h_ (q_ QCM (hY (mq (Ct C o QAf QC5))) (so)) (h_ (q_ QCM (hY (mq (Ct N o QAf QC5))) (so)) (h_ (q_ QCM (hY (mq (Ct O o QAf QC5))) (so)) (hY (mq (Ct I y QAf QC5))))))))))),3);rcases h with⟨k,m,W,B,ζ,hp,i,q⟩|⟨k,m,m2,W,v,B,x,ζ,hp,i,g,q⟩
  .let u:k9 K H p [.ξ m]:=k9.of hp;refine(0,p,_,2,u,AS (j:=0) ζ,3);cases k with
   |Tf=>show(6,al (!3) (0,m,L,W,B,1,i.mt,i.ma,i.le,t,r,λf l n H' k a b c d e=>q f l n H' k (a,b,c) d (zP e)))
   |Sr=>show(6,ac (!3) (6,al (!3) (0,m,L,W,B,1,i.mt,i.ma,i.le,t,r,λf l n H' k a b c d e=>q f l n H' k (a,b,c) d (xH e))))
   |again=>show(6,ac (!3) (6,ac (!3) (6,al (!3) (0,m,L,W,B,1,i.mt,i.ma,i.le,t,r,λf l n H' k a b c d e=>q f l n H' k (a,b,c) d (uR e)))))
  .let u:k9 K H p [.ξ m,.ξ m2]:=k9.of hp;refine(0,p,_,2,u,AS (j:=0) ζ,3);cases k with
   |VT=>show(6,ac (!3) (6,ac (!3) (6,ac (!3) (0,p,_,2,u,AS (j:=1) ζ,(6,al (!3) (4,m,m2,L,W,v,B,x,1,i.mt,i.ma,g.mt,g.ma,i.le,g.le,t,r,λf l n H' k a b c d e=>q f l n H' k (a,b,c) d (Pn e)))))))
   |Zd=>show(6,ac (!3) (6,ac (!3) (6,ac (!3) (0,p,_,2,u,AS (j:=1) ζ,(6,ac (!3) (6,al (!3) (4,m,m2,L,W,v,B,x,1,i.mt,i.ma,g.mt,g.ma,i.le,g.le,t,r,λf l n H' k a b c d e=>q f l n H' k (a,b,c) d (xK e))))))))
   |Zo=>show(6,ac (!3) (6,ac (!3) (6,ac (!3) (0,p,_,2,u,AS (j:=1) ζ,(6,ac (!3) (6,ac (!3) (6,al (!3) (4,m,m2,L,W,v,B,x,1,i.mt,i.ma,g.mt,g.ma,i.le,g.le,t,r,λf l n H' k a b c d e=>q f l n H' k (a,b,c) d (zQ e)))))))))
   |Vm=>show(6,ac (!3) (6,ac (!3) (6,ac (!3) (0,p,_,2,u,AS (j:=1) ζ,(6,ac (!3) (6,ac (!3) (6,ac (!3) (4,m,m2,L,W,v,B,x,1,i.mt,i.ma,g.mt,g.ma,i.le,g.le,t,r,λf l n H' k a b c d e=>q f l n H' k (a,b,c) d (xI e)))))))))
def c_n:p_ [Q3,"shape","kind","machines","refusal"] [Q3,"shape"] (hI MR):=r_
def fW(F:pd K "machine_of" "machine_of" MR f fd)QAC(g:Hx K mg UP WY fX fdX)(aU:Df P w K mg υ "piece_machine" 9 [Q3,"shape"] (gB ts))(aV:A' P w K mg υ "joined" 9 ["kind","machines"] (gD UP ts))(J:mg "machine_of"<*.ξ f)(aS:yx K fd [Q3,"shape"] []):aa P w K mg υ QB1 22 f fd [Q3,"shape"] (Kf UP ts 12):=by
 let TL:∀n vs H Q E,Kf UP ts n vs H Q E->vs.β=[Q3,"shape"].β:=λn vs H Q E h=>by
  let⟨L,t,v,ζ,_⟩:=h;rfl
 let UW:∀n:χ,aa P w K mg υ QB1 (n+10) f fd [Q3,"shape"] (Kf UP ts n):=by
  intro n;induction n with
  |Xe=>show(TL 0,λ_ _ _ _ _ _ vs Q E _ _ _ _ h=>by let⟨L,t,v,_,_,hd,_⟩:=h;have:=t.YQ;lia)
  |Wu n ih=>
   let a0:A' P w K mg υ "machine_of" (n+10) [Q3,"shape"] (Kf UP ts n):=(f,fd,J,F.kp,aS,ih);refine F.okX c_n (TL _) QBg;let⟨L,t,v,ζ,hs,hd,hL,hA,qE,q⟩:=h;let ag:=hr.Tj (j:=9) (!6);refine(_,(h_ (nq 2 c_n.nd QIw) (h_ (q_ ((AQ (wm QAT ms) (Fx (wm (BK T.TL QAJ) b'))).pt) (hY (mq (oh aU ag QCG))) (so)) (h_ (kl [Q3,"shape","kind","machines","refusal"] (j:=3) zE ζ c_n.nd (!0) ζ QBu (CH (Eo zp QAJ (Dc b') Gp)) (λcl C fp s' H'=>(Bl,Ct a0 hr (iX ζ) (oI QAJ QAF)))) (hY (xa (E:=E) (i:=4) ζ ζ ζ ζ c_n.nd ζ ζ QBu QBu ζ g.kT (!0) g.own g.fn (nz g T.V8) eh hr (g.ini.binds (ps:=["self",Q6,"tails","part"]) (λ_ _ _ _ _ _ us hl=>by let⟨_,_,_,_,ζ⟩:=NN hl;rfl)) (λv=>Aa (kx (f:=Q6) K QBd) (kx (f:="tails") K QBd) QAJ) (zx aV ag QC5)))))),3);let l3:3≤Φ:=n0 (by change 3≤16777216;decide);rcases tE hs hd with⟨k,ζ⟩|⟨c,ζ⟩|⟨p,nm,us,az,ζ,hp,ab,h1,h2,aB,hpt,hk⟩
   .obtain ⟨p,ζ,hp⟩:=id hs;refine(n_ hp ai (6,ac (by cases k<;>decide +kernel) ?_));refine(0,p,0,.Rh QED,1,0,al ζ ?_);show(4,L,9,hs,.RN (k,1),hL,hA,q)
   .obtain ⟨p,ζ,hp⟩:=id hs;refine(n_ hp ai (6,al (!3) (aG ?_)));show(4,L,9,hs,.Rh (c,1),hL,hA,q)
   let aH:¬ (V.QG (((V.QZ nm::us).β:χ):Λ)=V.QG 1):=λz=>by
    have:=V.QG.Tp z;rw[RY]at this;lia
   refine(n_ hp ai (6,ac (λz=>aB (V.QZ.Tp z)) ?_));refine(0,p,0,.Rh QED,1,0,ac aH ?_);dsimp only[AY];dsimp only[V4,aO,aJ];let as:Ad (V.QZ nm::us) (δ 1) ε=us:=(rR (xs:=V.QZ nm::us) (t:=1) (by rw[RY];lia)).ο ζ;refine rS (xs:=us) (P1:=λa U=>KT ts H U) (λR h=>(4,p,0,q5.of hp,3,λa ha=>?_)) (λU D i ys H'=>A3 (KT ts U H') (H' D<*.QV ys) (∃S:γ (θ×LL×γ Ψ),A3 (ys=S.Q_ (λx=>V.ξ x.1)) (S.β=i) (∀QHW(x:θ×LL×γ Ψ),S[j]?<*x->∃u,az[j]?=δ u/\Mc H' x.1 L x.2.1 x.2.2/\Lg L x.2.1 x.2.2=af L u))) (n0 (QB h2 (!0))) ?_ ?_ ?_ ?_
   .rintro⟨z,_⟩;unfold HT.Ws at z;simp at z
   .rw [as];show h a _ (KT.of (a'.QO ha)) hJ
   .rintro U a D i ys H' aT⟨O,X,S,ζ,J,_⟩;show(O.sm.Rn _ _ aT,X,by rw[j',J])
   .exact λU D X=>(KT.of (a'.QO X),hJ,[],5,λj x e=>by simp at e)
   .rintro a U D i x ys H' R1 k1 X hx⟨O,M,S,ζ,J,hms⟩go;let⟨pt,an,aA,aN⟩:=hpt i x hx;refine(4,L,pt,x,1,(aA.kt k1).kt O,aN,hL,(k1.ο O).tb hA,λH2 k2=>qE H2 ((k1.ο O).ο k2),λf W B H2 k2 hM _ hl=>?_);let N:=k2.sm.QV M;refine go QAg H2 N ((O.ο k2).Uw X N,hJ,S++[(f,W,B,)],by rw[RU];rfl,by rw[q4,J];rfl,λj y e=>?_);rcases EI e with z|⟨rfl,ζ⟩
    .obtain ⟨u,I,e2,e3⟩:=hms j y z;show(u,I,(e2.kt k2).Uw N,e3)
    .exact (pt,by rw[J];show an,hM.Uw N,hl)
   .rintro a U D ys H2 k1 X⟨O,M,S,ζ,J,hms⟩;let k2:=k1.ο O;let Z:∀d H',KT ts H2 H'->P8 H' d->qd K UP 4 (Ka UP) (AA (oP K (bu 4) Q6) (AA (oP K (bu 4) "tails") (AA (bu 1) tNil))) E [δ QAb,δ QAp,δ (.QZ nm),δ QBI,ε] QGR (δ d) H':=by
     rintro d H' k3⟨l,l2,part,xs,ys,ar,aC,ap⟩;refine(g.exm,d,1,λe he=>?_);let Y:=a'.QO (o:=eZ e QGR (δ d)) he;refine(0,e,UP,d,9,hJ,Y _ _ ar,g.ec,g.xc,g.na1,1,0,e,UP,d,9,hJ,Y _ _ ar,g.ec,g.xc,g.na2,1,0,l3,λI r=>?_);let s1:=a'.QO (o:=qN I UP ε) r;let ne:I≠e:=λz=>by rw[z,hJ]at r;cases r
     refine(I,l,l2,_,xs,ys,1,hJ,s1 _ _ (Y _ _ aC),s1 _ _ (Y _ _ ap),λH6 d6 l6 l7 k6 aM _ _ _ _ _ _=>(1,δ d6,ne,aM,3,3))
     .exact k6 e _ (Ne.QI ne) (by rw[a_ (Ne.QI ne),hJ])
     .refine qE _ (k2.ο (k3.ο (KT.of λb o z=>?_)));let z1:=Y _ _ z;let n1:b≠I:=f_ z1 r;rw[DN n1];show k6 b o n1 (vr z1 r)
    rcases hk with⟨k,x,ζ,ζ,ζ⟩|⟨k,x,y,ζ,ζ,ζ⟩
    .obtain ⟨m,ζ⟩:=LU (J.ο ab);let⟨u,I,e2,e3⟩:=hms 0 m ζ;cases I;show(4,D,L,k2.tb hA,Z,.RN (k,m.1,m.2.1,m.2.2,1,M,e2,λf W B H' k3 a b c=>q f W B H' (k2.ο k3) a b (c.ο (by rw[e3];rfl))))
    .obtain ⟨m,m2,ζ⟩:=LV (J.ο ab);let⟨u,I,e2,e3⟩:=hms 0 m ζ;let⟨u2,f1,f2,f3⟩:=hms 1 m2 ζ;cases I;cases f1;show(4,D,L,k2.tb hA,Z,.Rh (k,m.1,m2.1,m.2.1,m2.2.1,m.2.2,m2.2.2,1,M,e2,f2,λf W B H' k3 a b c=>q f W B H' (k2.ο k3) a b (c.ο (by rw[e3,f3];rfl))))
 show UW 12
def f_f:p_ ["text","sign"] ["text"] (hI MS):=r_
def f7(F:pd K "is_letters" "is_letters" MS f k)QAC:aa P w K mg υ lb 1 f k ["text"] sp_isletters:=by
 refine F.Xw f_f ?_;rintro _ _ _ _ H _ _ _ _⟨L,ζ,a,q⟩;refine(_,(h_ (q_ (G8 (kj ky ky b' (CZ T.TL QAF) b')) QC6 (so)) (h_ (BD Se.Tc ζ (dE QAF) (Bp 1 f_f.nd) (hY (q_ ((AQ (G8 (kj gJ gJ ms QAJ ms)) (Fx (AF Bg (b7 Xu Ξ.F.slot_str_count Ξ.F.type_str_count uI QAF QFj) b' QCA))).pt) QC6 (so)))) QC6)),3);let hz:(tx L).β≤Φ:=n0 (by rw[hF];have:=a.hi;show Fu this);let h:=a.lo;let j:=a.hi;refine(4,hz,2,0,al (by rw[hF];lia) ?_);refine(2,0,Et (by rw[hF];lia) ?_);refine(4,pM (x:=tx L) (λi b H'=>∃d,b=[δ QAb,d]/\H'=H) (ε,5) ?_ ?_)
 .rintro i c b n g⟨d,ζ,ζ⟩;rw[ir]at g;let e:c∈L:=Ab g;let⟨m,l⟩:=a.az c e;refine(0,2,0,3);rw[Ly,uT];refine al m (2,0,3);rw[Lz,uT];refine Et l (6,2,2,0,3);rw[DB];refine ac (by have:=γ.nodup_iff_count.mp a.nd c;lia) ?_;show(0,1)
 .rintro b n⟨d,ζ,ζ⟩;show q
def Qe:p_ [Q3] [Q3] (hI MT):=r_
def Qg(F:pd K "need_letters" "need_letters" MT f e)QAC(a:Df P w K mg υ "is_letters" 1 ["text"] sp_isletters):aa P w K mg υ lb 2 f e [Q3] ZW:=by
 refine F.Xw Qe ?_;rintro _ _ _ _ _ _ _ _ b⟨L,ζ,d,q⟩;refine(_,(hY (q_ (G8 (Fv (oh a b QCw))) (hY (Jl)) (so))),3);show(0,L,1,d,0,aE q)
def fL:p_ ["sign"] ["sign"] (hI MV):=r_
def fY(F:pd K "is_wanting" "is_wanting" MV f a)QAC:aa P w K mg υ lb 1 f a ["sign"] sp_iswanting:=by
 refine F.Xw fL ?_;rintro _ _ _ _ H _ Q _ _⟨ch,ζ,q⟩;refine(_,(hY (mq (C8 Jq QAF ms QAS))),3);refine(0,_,tx [33,60,40,38,124,45],1,Qw V.QZ (!3),3);change Q (.bl (!(Builtin.QF.WO (tx [33,60,40,38,124,45]) ⟨#[ch]⟩ 0 (tx [33,60,40,38,124,45]).β 1).Vs)) H;rw[H_];show q
def iH:p_ [Q3,"sign","wanting","depth"] [Q3,"sign","wanting","depth"] (hI MW):=r_
def jd(F:pd K "can_stand" "can_stand" MW f k)QAC:aa P w K mg υ lb 1 f k [Q3,"sign","wanting","depth"] sp_canstand:=by
 refine F.Xw iH ?_;rintro _ _ _ _ _ _ _ _ _⟨L,ch,w,dd,ζ,q⟩;refine(_,(h_ (q_ ((AQ (AF Jq QAJ QAF QAS) (Fx (AF Jq QAJ ms QAS))).pt) QC6 (so)) (h_ (q_ QH7 (hY (mq (Gn (C8 Bg QAi b' QCA) (Fy (A2 QAT))))) (so)) (hY (mq (Gn (C8 Jq QAJ ms QAS) (Fy (A2 QAT))))))),3);unfold v_ at q;refine(4,2,0,3);let j:=H_ L ch;let i:=H_ [48,49,46,33,60,40] ch;let h:=H_ [42,38,124,45] ch;refine kS (λh1=>aG ?_) QJp
 .rw [IO (by rw[<-j];rw[show(!(Builtin.QF.WO QB' ⟨#[ch]⟩ 0 (tx L).β 1).Vs)=π from h1];rfl)]at q;show q
 let g:L.Qz ch=ν:=j.QI.ο h1;refine(0,_,tx [48,49,46,33,60,40],1,Qw V.QZ (!3),0,kS (λh2=>?_) (λh2=>?_))
 .rw [IO (by rw[show[48,49,46,33,60,40].Qz ch=π from i.QI.ο h2,Ψ.or_true])]at q;show q
 let d:[48,49,46,33,60,40].Qz ch=ν:=i.QI.ο h2;rw[Cl (by rw[g,d];decide)]at q;refine(6,ay (λb=>?_) (λb=>?_))
 .rw [IO ((Ho (!3)).mp b)]at q;refine(0,2,0,3);refine ay (λa=>(4,3)) (λa=>?_)
  .rw [RI (show 0<dd by lia),Ψ.true_and]at q;show q
  .rw [QJ (show ¬ 0<dd by lia),Ψ.false_and]at q;show q
 .rw [Cl (λe=>b ((Ho (!3)).Sz e))]at q;refine(0,_,tx [42,38,124,45],1,Qw V.QZ (!3),0,kS (λa=>(4,3)) (λa=>?_))
  .rw [show[42,38,124,45].Qz ch=π from h.QI.ο a,Ψ.true_and]at q;show q
  .rw [show[42,38,124,45].Qz ch=ν from h.QI.ο a,Ψ.false_and]at q;show a▸q
def a_H:p_ [Q3,"text","depth","wanting","at","sign"] [Q3,"text"] (hI MX):=r_
def Qh(F:pd K "need_pattern" "need_pattern" MX f J)QAC(A:Df P w K mg υ "can_stand" 1 [Q3,"sign","wanting","depth"] sp_canstand)(B:Df P w K mg υ "is_wanting" 1 ["sign"] sp_iswanting):aa P w K mg υ lb 2 f J [Q3,"text"] sp_needpattern:=by
 refine F.Xw a_H ?_;rintro _ _ _ _ H _ _ _ C⟨L,w,ζ,y,t,q⟩;refine(_,(h_ (nq 2 a_H.nd (b')) (h_ (nq 3 a_H.nd (BX)) (h_ (BD Se.Tc ζ (ko ζ T.enum QFj) (dF ζ (EZ (Bp 4 a_H.nd) (EZ (Bp 5 a_H.nd) Jn))) (h_ (q_ (G8 (Fv (oh A C (AN QAF (Aa QB4 QAi QAT))))) (hY (Jl)) (so)) (h_ (q_ (wm QB4 ms) (hY (nq 2 a_H.nd QHk)) (so)) (h_ (q_ (wm QB4 ms) (hY (nq 2 a_H.nd (o_ nh QAT b'))) (so)) (hY (nq 3 a_H.nd (oh B C (l_ QB4)))))))) (hY (q_ ((AQ (Fv QAi) (Fx (AF Bg QAT b' QCA))).pt) (hY (Jl)) (so)))))),3);refine(0,.tx (tx w) 0,0,1,λ_=>xV (x:=tx w) (λi m H'=>E4 λ(dd:χ)(b:Ψ)(s:ψ V)(r:ψ V)=>A3 (m=[δ QAb,δ QBq,δ (.QG (dd:Λ)),δ QJS,s,r]) QFF (Yx L dd b (w.Th i)<*(0,ν,))) ((0),π,ε,ε,1,a'.X9 H,t) ?_ ?_)
 .rintro i ch p m D v hp⟨dd,b,s,r,ζ,n,e⟩;rw[ir]at v;let E:i<w.β:=(l' v).1;let u:w[i]=ch:=(l' v).2;rw[γ.U4 E,u]at e;let a:v_ L ch b dd=π:=by
   unfold Yx at e;by_cases h:v_ L ch b dd=π
   .exact h
   .rw [Cl h]at e;cases e
  let g:Yx L (FU ch dd) (BL ch) (w.Th (i+1))<*(0,ν,):=by
   unfold Yx at e;rw[IO a]at e;show e
  let j:=n.ο (a'.QO (o:=.Rn [.QG (i:Λ),.QZ ⟨#[ch]⟩]) hp);refine(p,0,q5.of hJ,1,9,2,3);refine(4,4,L,ch,b,dd,1,0,3);rw[a];refine aE ?_;by_cases l:ch=40
  .subst l;refine(6,al ((Ho (!3)).Sz ζ) (0,2,3));refine(6,ac (λh=>QL ((Ho (x:=41) (!3)).mp h) (!0)) (0,(40),1,3));show(dd+1,8,0,j,g)
  refine(6,ac (λh=>l ((Ho (!3)).mp h)) ?_);by_cases k:ch=41
  .subst k;let I:0<dd:=by
    unfold v_ at a;by_cases d:(L.Qz 41||[48,49,46,33,60,40].Qz 41)=π
    .exfalso;rw[Xv]at d;rcases d with z|z
     .have:=y 41 (by simpa using z);lia
     .revert z;decide
    .rw [Cl d,IO ζ]at a;have:=(TW _ _).mp a;show SW this.1
   obtain⟨d',ζ⟩:∃d',dd=d'+1:=(dd-1,!6);refine(6,al ((Ho (!3)).Sz ζ) (0,2,(0,(41),1,3)));refine(d',_,δ QEQ,δ (.QZ ⟨#[41]⟩),3,j,g);change _=[δ (V.QZ QB'),δ (V.QZ (tx w)),δ (V.QG ((d':χ):Λ)),δ (V.bl (BL 41)),δ (V.QG (i:Λ)),δ (V.QZ ⟨#[41]⟩)];rw[show((d':χ):Λ)=((d'+1:χ):Λ)-1 by lia];rfl
  refine(6,ac (λh=>k ((Ho (!3)).mp h)) (0,ch,1,3));rw[Ml l k]at g;show(dd,8,0,j,g)
 .rintro m D⟨dd,b,s,r,ζ,n,e⟩;rw[hF,γ.drop_length]at e;cases e;refine(4,aE (0,2,0,ac (!0) ?_));show q D n
def ka:p_ ["token"] ["token"] (hI MY):=r_
def kE(F:pd K "piece_of" "piece_of" MY f r)QAC(g:FT P w K mg υ c cP):aa P w K mg υ lb 3 f r ["token"] (jZ c):=by
 refine F.Xw ka ?_;rintro _ _ _ _ H _ Q _ m⟨t,ζ,i,q⟩;let⟨z,p,u,y,s⟩:=g.iS;refine(_,(h_ (q_ QCM (hY (mq (Mj (g.mk0 .Tc) ζ (g.kc (.S0 .Tc))))) (so)) (h_ (q_ QCM (hY (mq (Mj (g.mk0 .Vd) ζ (g.kc (.S0 .Vd))))) (so)) (h_ (q_ QCM (hY (mq (Mj (g.mk0 .U6) ζ (g.kc (.S0 .U6))))) (so)) (hY (mq (FA u y m ζ (g.kc .Up) s .S5 Cs QCw)))))),3);let mk:∀(k:K0)(x dx:θ),H x=ε->H dx=ε->dx≠x->(∀v H',a' H H'->BB c H' QJi v->Q v H')->Q QDp (QO QFU x (.XE (c QJi) dx [])):=λk x dx h a d q=>
  q _ _ (Cd (o0:=.own x) h a λb o e n=>by rw[a_ n]at e⊢;show e) (x,dx,1,hJ)
 cases t with
 |S0 k=>
  cases k with
  |Tc=>show(6,al (!3) (λx dx h a d=>mk .Tc x dx h a d q))
  |Vd=>show(6,ac (!3) (6,al (!3) (λx dx h a d=>mk .Vd x dx h a d q)))
  |U6=>show(6,ac (!3) (6,ac (!3) (6,al (!3) (λx dx h a d=>mk .U6 x dx h a d q))))
 |Up ch=>
  refine(6,ac (λe=>Ah (l:=[110,101,118,101,114]) (!3) (by intro e;simp at e) QH4) (6,ac (λe=>Ah (l:=[101,109,112,116,121]) (!3) (by intro e;simp at e) QH4) (6,ac (λe=>Ah (l:=[97,110,121]) (!3) (by intro e;simp at e) QH4) ?_)));show(0,λx dx h a d=>(x,8,dx,1,hJ,(g.pc _).cl,(g.pc _).nS,λA k1 j=>(1,q _ _ (Cd h a k1) (x,dx,1,j))))
 |UX _ _=>show(show Rk from i).SJ
 |WD _ _ _=>show(show Rk from i).SJ
def mU:p_ ["kind","left","right"] ["kind","left","right"] (hI MZ):=r_
def nv(F:pd K "pair_of" "pair_of" MZ f r)QAC(b:FT P w K mg υ c cP):aa P w K mg υ lb 3 f r ["kind","left","right"] (gC c):=by
 refine F.Xw mU ?_;rintro _ _ _ _ _ _ _ _ j⟨k,u,g,x,y,ζ,i,h,q⟩;let⟨s,p,m,n,l⟩:=b.iP;refine(_,(h_ (q_ QCM (hY (mq (FA (m .VT) n j ζ (b.kc (.WD .VT)) l .S5 Cs QER))) (so)) (h_ (q_ QCM (hY (mq (FA (m .Zd) n j ζ (b.kc (.WD .Zd)) l .S5 Cs QER))) (so)) (h_ (q_ QCM (hY (mq (FA (m .Zo) n j ζ (b.kc (.WD .Zo)) l .S5 Cs QER))) (so)) (hY (mq (FA (m .Vm) n j ζ (b.kc (.WD .Vm)) l .S5 Cs QER)))))),3);cases k with
 |VT=>show(6,al (!3) QAG)
 |Zd=>show(6,ac (!3) (6,al (!3) QAG))
 |Zo=>show(6,ac (!3) (6,ac (!3) (6,al (!3) QAG)))
 |Vm=>show(6,ac (!3) (6,ac (!3) (6,ac (!3) QAG)))
def h_h:p_ ["desk","strength","kind","last"] ["desk","strength"] (hI di):=r_
def qU(F:pd K "settle" "settle" di f fd)QAC(O:FT P w K mg υ c cP)QJq(az:Df P w K mg υ "pair_of" 3 ["kind","left","right"] (gC c)):aa P w K mg υ lb 4 f fd ["desk","strength"] (gy c cD):=by
 refine F.Xw h_h ?_;rintro _ _ _ _ H _ _ _ hr⟨d,dx,pa,wa,us,ps,ws,n,ps',Z9,ζ,D,hn,W,aA,q⟩;let⟨fU,aC,MU,GU,bU⟩:=O.iU;let X:=hr.Tj (j:=2) (!0);refine(_,(hY (dD Se.Tc (AF Os (Di h.dT (HB (v:=.ξ d3) (!4) h.kT ζ) (oI (As (Ac (pv 0) ζ) (DY DZ b')) b')) (pv 1) (Az _))
  (h_ (nq 2 h_h.nd (dI UT XJ YU dX (Ac (pv 0) ζ))) (h_ (nq 3 h_h.nd (dI UT XJ YU dX (Ac (pv 0) ζ))) (hY (q_ (wm (pv 2) ms) (hY (AH (Cb (Ac (pv 0) ζ) (FA (MU .Tf) GU X ζ (O.kc (.UX .Tf)) bU .S5 Cs (l_ (pv 3)))))) (hY (q_ (wm (pv 2) ms) (hY (AH (Cb (Ac (pv 0) ζ) (FA (MU .Sr) GU X ζ (O.kc (.UX .Sr)) bU .S5 Cs (l_ (pv 3)))))) (hY (AH (Cb (Ac (pv 0) ζ) (oh az hr (Aa (pv 2) (dI UT XJ YU dX (Ac (pv 0) ζ)) (pv 3)))))))))))))),3)
 refine su (λZ H'=>E5 λE g a s2 s3=>A5 (Z=[δ QDM,δ (.QG (n:Λ)),s2,s3]) (AZ pa wa H H') (AX c cD H' d dx pa wa E g a) (Bu n g a<*(ps',Z9,)) (g.β≤ps.β))
  (λZ H'=>match H' wa with|δ (.QV l)=>l.β|_=>0) (us,ps,ws,ε,ε,1,AZ.X9 _ _ _,D,W,QA _) ?_ ?_
 .rintro Z S⟨E,g,a,s2,s3,ζ,U,A,e,I⟩;cases a with
  |S5=>simp[Bu]at e
  |Rc wt a=>
  refine(1,0,d,_,dx,9,A.ob,h.cl,h.nW,J4 _ _,0,Ak A.wtop (Kl _ _) (Sum.Rh (oJ wt),0,3));rw[Pk];refine(0,2,0,ay (λas=>?_) (λas=>?_))
  .let hge':n≤wt.QZ:=by lia
   let mu:∀{H2:Hp}{l:γ V},H2 wa<*.QV l->l.β=a.β->(match H2 wa with|δ (.QV l)=>l.β|_=>0)<(match S wa with|δ (.QV l)=>l.β|_=>0):=λh1 h2=>by
    rw[h1,A.wtop];simp;lia
   refine(0,d,_,dx,9,A.ob,h.cl,h.nW,J4 _ _,.RN (1,_,k9.of A.wtop),wa,2,A.wtop,HY,3);rw[WB];let m:=A.popW;let L:=U.ο (AZ.w (pa:=pa) (wa:=wa) (H:=S) (o:=.QV (a.Rt.Q_ wv)));unfold Bu at e;rw[IO hge']at e;match wt,g,A,m,e with
   |.un k,x::qs,A,m,e=>
    let⟨u,C,ζ⟩:=m.UX ζ;let⟨i,hu⟩:=m.popP;refine QDK;rw[WB];let s:=L.ο (AZ.p (pa:=pa) (wa:=wa) (o:=.QV C.Rt));let ar:=i.pt.TL;let mk:∀(z J:θ)(B:Hp),QFw z=ε->a' QFw B->B z<*.XE (c (.UX k.k1)) J (ah "inner" u [])->
      rAppend (.ξ pa) [.ξ z] B (λ_ H5=>(E5 λE g r s2 s3=>A5 (([δ (.ξ d),δ (.QG (n:Λ)),δ (wv (.un k)),δ u]:St)=[δ (.ξ d),δ (.QG (n:Λ)),s2,s3]) (AZ pa wa H H5) (AX c cD H5 d dx pa wa E g r) (Bu n g r<*(ps',Z9,)) (g.β≤ps.β))/\
       (match H5 wa with|δ (.QV l)=>l.β|_=>0)<(match S wa with|δ (.QV l)=>l.β|_=>0)):=by
     intro z J B hz R t;let Q:=i.SO R;let Y:BB c B (.UX k.k1 x) QE8:=(z,J,u,1,t,hu.kp (a'.kp R));refine(pa,2,Q.pl,Gq (by rw[Sh];simp at I;lia),(8,8,0,s.ο ((a'.off R).ο AZ.p),Q.pushP Y,e,by simp at I⊢;omega),mu (l:=a.Rt.Q_ wv) (by rw[a_ (Ne.QI Q.ne)];show Q.wl) (!1))
    cases k with
    |Tf=>
     show QA6
    |Sr=>
     show(6,ac (!3) QA6)
   |.Xm k,y::x::qs,A,m,e=>
    let⟨u,C,ζ⟩:=m.UX ζ;let⟨i,hu⟩:=m.popP;let⟨u2,M,ζ⟩:=i.UX ζ;refine QDK;rw[WB];let⟨Q,ag⟩:=i.popP;let s:=L.ο ((AZ.p (pa:=pa) (wa:=wa) (o:=.QV (u2::M).Rt)).ο (AZ.p (pa:=pa) (wa:=wa) (o:=.QV M.Rt)));let ar:=Q.pt.TL;let an:=hu.kp (Kp.QV (o:=.QV M.Rt) i.pl);let aB:∃b,V.bl ν=V.bl b/\S9:=(0,trivial);let n1:¬ (wv (.Xm k)=V.QZ (QF.Rj "outside")):=by cases k<;>decide +kernel
    let n2:¬ (wv (.Xm k)=V.QZ (QF.Rj "turned")):=by cases k<;>decide +kernel
    refine(6,ac n1 (6,ac n2 ?_));refine(0,d,_,dx,9,i.ob,h.cl,h.nP,Fd _ _,.RN (1,_,k9.of i.pl),4,d,_,dx,9,i.ob,h.cl,h.nP,Fd _ _,.RN (1,_,k9.of i.ptop),pa,2,i.ptop,HY,3);rw[WB];refine(0,k,u2,u,x,y,1,ag,an,λv4 B R ab=>?_);let D5:=Q.SO R;show(pa,2,D5.pl,Gq (by rw[Sh];simp at I;lia),(8,8,0,s.ο ((a'.off R).ο AZ.p),D5.pushP ab,e,by simp at I⊢;lia),mu (l:=a.Rt.Q_ wv) (by rw[a_ (Ne.QI D5.ne)];show D5.wl) (!1))
  .let hge':wt.QZ<n:=by lia
   rw[J1 hge']at e;cases e;show q _ _ U A
 .rintro Z S Q1 Q2 hQ⟨e0,v1,e1,p1,c1',d1',f1,w1,e2,e3,e4,e5,e6,v2,e7,p2,x2,i2,z2,e8,e9,e10,e11,k2,z3,e12,v3,e13,i3,j3,e14,e15,b3,e16,q1⟩;show(e0,v1,e1,p1,c1',d1',f1,w1,e2,e3,e4,e5,e6,v2,e7,p2,x2,i2,z2,e8,e9,e10,e11,k2,z3,e12,v3,e13,i3,j3,e14,e15,b3,e16,hQ _ _ q1)
def zr:p_ ["desk","token"] ["desk","token"] (hI tV):=r_
def zK(F:pd K "put" "put" tV f fd)QAC(J:FT P w K mg υ c cP)QJq(H:Df P w K mg υ "settle" 4 ["desk","strength"] (gy c cD))(ag:Df P w K mg υ "piece_of" 3 ["token"] (jZ c)):aa P w K mg υ lb 5 f fd ["desk","token"] (sZ c cD):=by
 refine F.Xw zr ?_;rintro _ _ _ _ _ vs _ _ I⟨d,dx,pa,wa,us,ps,ws,b,ps',Z9,ζ,D,n,a,Z,ar,q⟩;let⟨fU,as,MU,GU,bU⟩:=J.iU;let U:=I.Tj (j:=2) (!0);let S:=I.Tj (j:=3) (!0);refine(_,(hY (q_ (AF Km QAJ (Am QGV) QAS) (hY (AH (Cb QFB QAJ))) (hY (q_ (AF Km QAJ (Am (AN ms QGV)) QAS) (h_ (AH (oh H I (oI QAF (Af (Ez h.dT) (HB (v:=.ξ d3) (!4) h.kT ζ) QAJ QAQ)))) (hY (AH (Cb QFB QAJ)))) (hY (q_ QH7 (h_ (AH (oh H I (oI QAF (b')))) (hY (AH (dI UT XJ YU dX QFB)))) (hY (q_ QH7 (hY (AH (Cb QFB (FA (MU .again) GU U ζ (J.kc (.UX .again)) bU .S5 Cs (l_ (dI UT XJ YU dX QFB)))))) (hY (AH (Cb QFB (oh ag S QFj)))))))))))),3);let l3:3≤Φ:=n0 (by change 3≤16777216;decide);let l4:4≤Φ:=n0 (by change 4≤16777216;decide);let Y:=D.pt.TL;refine(0,l3,λp1 X=>(p1,0,.Rh (q5.of hJ),5,0,3));let t1:=Hq n;let O:=a'.QO (o:=.Rn [.QZ (QF.Rj "("),.QZ (QF.Rj "outside"),.QZ (QF.Rj "turned")]) X;let L:=D.SO O;refine kS QJp QJp
 .
  let s:vc b=π:=t1.QI.ο h1;let hw:∃E,wv E=tv b/\ps'=ps/\Z9=E::ws:=by
   cases b with
   |lp=>cases a;show(.lp,5,1)
   |un k=>cases a;show(.un k,5,1)
   |_=>cases s
  let⟨E,ew,ζ,ζ⟩:=hw;refine(0,d,_,dx,9,L.ob,h.cl,h.nW,J4 _ _,.RN (1,_,k9.of L.wl),0,wa,2,L.wl,Gq (by rw[j',Sh];lia),3);rw[<-ew];show q _ _ ((a'.off O).ο AZ.w) (L.pushW E)
 let s:vc b=ν:=t1.QI.ο h1;refine(0,l4,λp2 W=>(p2,0,.Rh (q5.of hJ),5,0,3));let t2:=zZ n;let s2:=O.ο (a'.QO (o:=.Rn [.QZ (QF.Rj "either"),.QZ (QF.Rj "less"),.QZ (QF.Rj "both"),.QZ (QF.Rj "then")]) W);let l:=D.SO s2;refine kS (λh2=>?_) (λh2=>?_)
 .let C:ve b=π:=t2.QI.ο h2;cases b with
  |Xm k=>
   let⟨r,g,e⟩:=AE a;let⟨rp,y⟩:=r;cases e;refine(4,Sum.Rh QIu,0,1,wI k,3);refine(d,dx,pa,wa,us,ps,ws,lvl k+1,9,l,Wc QDt,g,!2,λM H3 m i=>?_);let ap:=J2 g;show(0,d,_,dx,9,i.ob,h.cl,h.nW,J4 _ _,.RN (1,_,k9.of i.wl),0,wa,2,i.wl,Gq (by rw[j',Sh];lia),q _ _ QK2 (i.pushW (.Xm k)))
  |_=>cases C
 let C:ve b=ν:=t2.QI.ο h2;let t3:=Pl n;let t4:=xX n;refine(6,kS (λh3=>?_) (λh3=>?_))
 .let B:zY b=π:=t3.QI.ο h3;cases b with
  |rp=>
   let⟨r,g,e⟩:=ψ.Ym.mp a;let⟨rp,y⟩:=r;cases y with
   |S5=>cases e
   |Rc E y=>
    cases e;refine(0,d,dx,pa,wa,us,ps,ws,(1),9,l,QA _,g,!2,λM H3 m i=>?_);refine(0,d,_,dx,9,i.ob,h.cl,h.nW,J4 _ _,.RN (1,_,k9.of i.wtop),wa,2,i.wtop,HY,3);rw[WB];show q _ _ QK2 i.popW
  |_=>cases B
 let B:zY b=ν:=t3.QI.ο h3;refine(6,kS (λh4=>?_) (λh4=>?_))
 .let A:nQ b=π:=t4.QI.ο h4;cases b with
  |star=>
   cases ps with
   |S5=>cases a
   |Rc x qs=>
    cases a;let⟨u,vs,ζ⟩:=l.UX ζ;let⟨i,hu⟩:=l.popP;refine(0,d,_,dx,9,l.ob,h.cl,h.nP,Fd _ _,.RN (1,_,k9.of l.pl),0,d,_,dx,9,l.ob,h.cl,h.nP,Fd _ _,.RN (1,_,k9.of l.ptop),pa,2,l.ptop,HY,3);rw[WB];refine λz dz hz ab an=>(z,8,dz,1,hJ,(J.pc _).cl,(J.pc _).nI,λH4 k4 Q=>(1,3));let N:=Cd hz ab k4;let D4:=i.SO N;show(pa,2,D4.pl,Gq (by rw[Sh];simp at Y Z;lia),q _ _ ((a'.off s2).ο (AZ.p.ο ((a'.off N).ο AZ.p))) (D4.pushP (z,dz,u,1,Q,hu.kp (a'.kp N))))
  |_=>cases A
 let A:nQ b=ν:=t4.QI.ο h4;cases b with
 |WL t=>
  cases a;refine(0,d,_,dx,9,l.ob,h.cl,h.nP,Fd _ _,.RN (1,_,k9.of l.pl),0,t,1,n,λv3 H3 s3 R=>?_);let i:=l.SO s3;show(pa,2,i.pl,Gq (by rw[Sh];lia),q _ _ ((a'.off s2).ο ((a'.off s3).ο AZ.p)) (i.pushP R))
 |lp=>cases s
 |un k=>cases s
 |Xm k=>cases C
 |rp=>cases B
 |star=>show QL A (!0)
def c_d:p_ ["text","tokens","wanting","sign"] ["text"] (hI M0):=r_
def i9(F:pd K "tokens_of" "tokens_of" M0 f D)QAC QKO(s:Df P w K mg υ "is_wanting" 1 ["sign"] sp_iswanting):aa P w K mg υ lb 2 f D ["text"] sp_tokens:=by
 refine F.Xw c_d ?_;rintro _ _ _ _ H _ _ _ z⟨w,ζ,n,t,q⟩;refine(_,(h_ (nq 1 c_d.nd QFu) (h_ (nq 2 c_d.nd (BX)) (h_ (BD Se.Tc ζ (dE QAF) (Bp 3 c_d.nd) (D7 (q_ ((Gm (G8 (Fv QAT)) (HD (AF Ny QAi ms QAS))).pt) (hY (AH (Cb QAJ (ms)))) (so)) (h_ (AH (Cb QAJ (Di u.dK (HB (v:=.ξ d2) (!4) u.kK ζ) (oI QAi QAi)))) (hY (nq 2 c_d.nd (oh s z (l_ QAi))))))) (hY (mq QAJ))))),3);refine(RO _,λp hp=>?_);refine(4,pM (x:=tx w) (λi j H'=>E3 λ(ts:γ Tk)(b:Ψ)(k:ψ V)=>A4 (j=[δ QBq,δ QAp,δ QJS,k]) (H'=QO H p (.QV (ts.Q_ tv))) (QT π w=ts++QT b (w.Th i)) (ts.β≤2*i)) ([],π,ε,5,1,QA _) ?_ ?_)
 .rintro i ch j E e⟨ts,b,k,ζ,ζ,d,B⟩;rw[ir]at e;let C:i<w.β:=(l' e).1;let o:w[i]=ch:=(l' e).2;let m:=n ch (Ab e);rw[γ.U4 C,o]at d;rw[show QT b (ch::w.Th (i+1))=(if (!b&&!isB ch)=π then[Tk.Xm .Vm]else[])++Wa ch::QT (BL ch) (w.Th (i+1))from ζ]at d;refine⟨λg H'=>∃a:γ Tk,g=[δ QBq,δ QAp,δ QJS,δ (.QZ (tx [ch]))]/\H'=QO H p (.QV (a.Q_ tv))/\QT π w=a++Wa ch::QT (BL ch) (w.Th (i+1))/\a.β≤2*i+1,?_,?_⟩
  .let eB:=H_ [42,38,124,45,41] ch;refine(4,3);cases b with
   |π=>show aE (aE (ts,5,by rw[d];rfl,IM B))
   |ν=>
    refine aG (0,_,tx [42,38,124,45,41],1,Qw V.QZ (!3),0,3);refine kS QDT QDT
    .let r:isB ch=ν:=by
      have:QCO=π:=h;rw[eB]at this;show(Wg _).mp this
     refine(0,.RN (1,_,k9.of hJ),p,2,hJ,Gq (by rw[j'];lia),3);refine(ts++[.Xm .Vm],1,by rw[G7,RU];rfl,3,by rw[q4];simp;omega);rw[d,r];simp
    .let r:isB ch=π:=by
      have:QCO=ν:=h;rw[eB]at this;show(Ψ.not_eq_false' _).mp this
     refine(ts,5,3,IM B);rw[d,r];rfl
  rintro y I⟨a,ζ,ζ,l,A⟩;refine(0,.RN (1,_,k9.of hJ),1,4,Sum.Rh (tx [ch]),0,p,2,hJ,Gq (by rw[j'];lia),3);refine(0,ch,1,a++[Wa ch],BL ch,0,3,by rw[l];simp,by rw[q4];simp;lia);rw[G7,RU,rq m];rfl
 .rintro j E⟨ts,b,k,ζ,ζ,d,B⟩;rw[hF,γ.drop_length]at d;refine(0,q p _ hp QDG ?_);rw[hJ,d];simp[QT]
def d_m:p_ ["text","desk","token"] ["text"] (hI M1):=r_
def fR(F:pd K "pattern_of" "pattern_of" M1 f fd)QAC(PK:FT P w K mg υ c cP)(A:io P w K mg υ c cD d1 d2 d3)(ag:Df P w K mg υ "tokens_of" 2 ["text"] sp_tokens)(ab:Df P w K mg υ "put" 5 ["desk","token"] (sZ c cD)):aa P w K mg υ lb 6 f fd ["text"] (N7 c):=by
 refine F.Xw d_m ?_;rintro _ _ _ _ H vs _ _ hr⟨l,t,ζ,X,ap,p,q⟩;let⟨fD,az,MD,GD,bD⟩:=A.ini;let J:=hr.Tj (j:=2) (!0);refine(_,(h_ (nq 1 d_m.nd (uc MD GD J ζ A.kD bD .S5 Cs)) (h_ (BD Se.Tc ζ (iQ (oh ag J (l_ (o_ C9 (o_ C9 ms QAF) ms)))) (Bp 2 d_m.nd) (hY (AH (oh ab hr QER)))) (hY (mq (As (Ac QAJ ζ) b'))))),3);intro d dx hd L ar;refine(d,dx,0,hJ,A.cl,A.nP,A.nW,λpa wa H1 k1 D1 Z S=>(1,3));let s1:a' H H1:=Cd hd L k1;let s0:a' H (QO (QO H dx (.own d)) d (.XE cD dx [])):=Cd (o0:=.XE cD dx []) hd L λb o e _=>e;let aA:∀x:QF,x=tx [40]->x++tx l=tx (40::l):=λx e=>by rw[e,BO];rfl
 let z:QF.Rj "("=tx [40]:=by decide +kernel
 let M:QF.Rj ")"=tx [41]:=by decide +kernel
 refine(0,2,3,2,3,3)
 .rw [z,hF,hF];show n0 (by simp;lia)
 .rw [z,M,BO,hF,hF];show n0 (by simp;lia)
 rw[z,M,BO,BO];let n:∀ch∈40::(l++[41]),oG ch:=λch y=>by
  rcases QY.mp y with ζ|y
  .exact .Rh (!1)
  .rcases Rp.mp y with y|y
   .exact X ch y
   .obtain ζ:ch=41:=by simpa using y
    show .Rh (!1)
 refine(40::(l++[41]),1,n,by simp;lia,λO H2 m s2 I=>?_);let W:=Dr π n;let an:=jQ (40::(l++[41])) π;let as:(40::(l++[41])).β=l.β+2:=by simp
 generalize QT π (40::(l++[41]))=ts at *;let D2:=D1.SO s2;let s:O≠pa/\O≠wa:=(Ne.QI (f_ D1.pl m),Ne.QI (f_ D1.wl m));refine(O,1,(_,k9.of I),li (K:=K) (a:=O) (xs:=ts.Q_ tv) (λi N H'=>E4 λus ps ws s2=>A6 (N=[δ (.QZ QEJ),δ QDM,s2]) (∀b o,H2 b<*o->b≠pa->b≠wa->H' b<*o) (AX c cD H' d dx pa wa us ps ws) (Bc (ts.R0 i) ([],[],)<*QIv) (ps.β≤i) (ws.β≤i)) ([],[],[],ε,1,λ_ _ e _ _=>e,D2,1,QA _,QA _) ?_ ?_ ?_)
 .rintro i N H' hi⟨us,ps,ws,s2',ζ,g,_⟩;show k9.of (g _ _ I s.1 s.2)
 .rintro i x N H' hx⟨us,ps,ws,s2',ζ,g,D',hpt,l1,l2⟩;rw[na]at hx;let⟨C,h,ζ⟩:=AE hx;let hi:i<ts.β:=(l' h).1;let⟨R,v,Y⟩:=nc p (i+1);let k:dC ps ws C<*R:=by
   rw[VP,h,HZ,hpt]at v;have:(dC ps ws C).Zq (Bc [])<*R:=v;cases hp:dC ps ws C with
   |ε=>rw[hp]at this;cases this
   |δ r=>rw[hp]at this;cases this;rfl
  let⟨D,B⟩:=R;let hl:=tY k;refine(4,d,dx,pa,wa,us,ps,ws,C,D,B,1,D',W C (Ab h),k,IQ hi as an ap l1,IQ hi as an ap l2,λQ H3 E D3=>?_);show(Q,D,B,0,λb o e n1 n2=>E b o (g b o e n1 n2) n1 n2,D3,v,!6,!6)
 .rintro N H'⟨us,ps,ws,s2',ζ,g,D',hpt,l1,l2⟩;rw[j',Uz,p]at hpt;cases hpt;let⟨u,vs,ζ⟩:=D'.UX ζ;let U:vs=[]:=by
   have:=D'.pt.TL;simp at this;show this
  subst U;refine(0,d,_,dx,9,D'.ob,A.cl,A.nP,Fd _ _,pa,_,2,k9.of D'.pl,AS (j:=0) ζ,3);refine q u H' (λb o e=>g b o (s2 b o (s1 b o e)) ?_ ?_) D'.pt.1
  .exact f_ e (s0.SB Z)
  .exact f_ e (s0.SB S)
def wU:p_ [Q3,"text"] [Q3,"text"] (hI mX):=r_
def xq(F:pd K "read" "read" mX f r)QAC(x:FT P w K mg υ c cP)QKO(i:Df P w K mg υ "need_letters" 2 [Q3] ZW)(g:Df P w K mg υ "need_pattern" 2 [Q3,"text"] sp_needpattern)(h:Df P w K mg υ "pattern_of" 6 ["text"] (N7 c)):aa P w K mg υ lb 7 f r [Q3,"text"] (oW c):=by
 refine F.Xw wU ?_;rintro _ _ _ _ _ _ _ _ m⟨L,k,t,l,ζ,p,a,e,d,q⟩;let b:=m.Tj (j:=2) (!0);refine(_,(h_ (AH (oh i b QCw)) (h_ (AH (oh g b QCG)) (hY (mq (oh h m QFj))))),3);refine(0,L,1,p,3);refine(4,L,k,1,a,e.Yx a 0 π,λy n=>?_);show(0,k,t,1,e.sgs a,d,e.read a,λv s s2 o=>q v s (n.ο s2) o)
def Qi:p_ ["_law_script","_law_k"] ["_law_script","_law_k"] (hI M3):=r_
def Qj(F:pd K "_law_cell_at" "_law_cell_at" M3 f j)QAC:aa P w K mg υ lb 1 f j ["_law_script","_law_k"] (oX K):=by
 refine F.Xw Qi ?_;rintro _ _ _ _ _ _ _ _ _⟨a,ns,k,ζ,g,i,q⟩;refine(_,(h_ (q_ (AF Be QAJ QB3 QCA) (hY (mq (As QAF QAJ))) (so)) (hY (mq b'))),3);refine(4,a,0,.RN g,2,0,3);refine ay (λd=>?_) (λ_=>q 0);let⟨v,h,b⟩:=jA (xs:=ns.Q_ V.QG) i d;obtain⟨z,ζ⟩:∃z,v=V.QG z:=by
  rw[na]at b;cases e:ns[k.Ru]? with
  |ε=>rw[e]at b;cases b
  |δ z=>rw[e]at b;show(z,(ψ.δ.Tp b).QI)
 show(4,a,_,2,g,h,q z)
def a_t:p_ ["_law_cell","_law_left","_law_number","_law_many","_law_found","_law_k","_law_at"] ["_law_cell"] (hI M4):=r_
def Qk(F:pd K "_law_letters" "_law_letters" M4 f D)QAC:aa P w K mg υ lb 1 f D ["_law_cell"] sp_letters:=by
 refine F.Xw a_t ?_;rintro _ _ _ _ H _ _ _ _⟨c,ζ,q⟩;refine(_,(h_ (nq 1 a_t.nd (ms)) (h_ (nq 2 a_t.nd (o_ dL QAF b')) (h_ (nq 3 a_t.nd (o_ nj b' (o_ dL QAT b'))) (h_ (nq 2 a_t.nd (o_ iZ QAT b')) (h_ (nq 4 a_t.nd (ms)) (h_ (BD Se.Tc ζ (E8 ζ T.Re (l_ QAi)) (Bp 5 a_t.nd) (h_ (nq 6 a_t.nd (o_ dL QAT QCl)) (h_ (nq 2 a_t.nd (o_ iZ QAT QCl)) (h_ (nq 4 a_t.nd (o_ C9 QBd (Af eD QAJ QEo QAQ))) (hY (nq 1 a_t.nd (o_ C9 (Eo mP QAJ Gp (Dc QEo)) (Eo mP QAJ (Dc (o_ nj QEo b')) Gp)))))))) (hY (mq QBd)))))))),3);let⟨N,j,n1,r⟩:=yi (c%46800) 1 3 (!0);let j:(N:Λ)=1+c%46800%3:=j;let y:N≤3:=Ug r;refine(0,2,(by change (0:Λ)<46800;decide),0,2,(by change (0:Λ)<3;decide),2,0,2,(!0,!0),4,by rw[<-j];show(vV (QB (Uq r) (!0))).1,by rw[<-j];show(vV (QB (Uq r) (!0))).2,3);generalize J:(1:Λ)+c%46800%3=M at j⊢;let h:M.Ru=N:=by rw[<-j];rfl
 refine E9 (n:=M.Ru) (λi o H'=>E5 λf l n k0 a0=>A7 (o=[δ (.QG c),δ (.QZ QEJ),δ (.QG n),δ (.QG M),δ (.QZ (tx f)),k0,a0]) (H'=H) (0≤n) (f.β=i) (l.β+i=26) ((f++l).R7) (∀c∈f++l,97≤c/\c≤122)) ?_ ?_ ?_
 .refine ([],γ.range' 97 26,c%46800/3,ε,ε,3,1,Λ.ediv_nonneg (Λ.YO _ (!0)) (!0),5,!0,!0);show[δ (V.QG c),δ (V.QZ _),δ (V.QG _),δ (V.QG _),δ (V.QZ _),ε,ε]=_;rw[OC,fh]
 .rintro i o I C⟨f,l,n,k0,a0,ζ,ζ,z,m,s,p,az⟩;let k:i<3:=QD (h▸C) y;let⟨l1,l26⟩:=ON s (Uq k);let hz:(tx l).β≤Φ:=n0 (by rw[hF];show QB l26 (!0));let b:(0:Λ)<((tx l).β:Λ):=by rw[hF];show yj l1
  let a:=Λ.YO n (Λ.XT b);let e:=Λ.X4 n b;let t:0≤n/((tx l).β:Λ):=Λ.ediv_nonneg z (Λ.Uq b);let g:(n%((tx l).β:Λ)).Ru<l.β:=χ.lt_of_lt_of_eq (vU a e) (hF l);let⟨v,B,d⟩:=jA (xs:=(tx l).Vu.Qx) a (by rw[Ci];show Λ.QD e (Λ.Vc (Qw χ.cast (hF l))));rw[Ci]at d;let E:v=l[(n%((tx l).β:Λ)).Ru]:=by
   rw[j_ g]at d;show(ψ.δ.Tp d).QI
  subst E;refine(4,0,hz,2,b,4,0,hz,2,(b,by rw[hF];show OO l26),4,0,_,2,hz,B,2,3,4,4,hz,4,2,4,hz,2,3,3)
  .refine n0 ?_;rw[hF];change f.β+1≤_;rw[m];show QB k (!0)
  .refine n0 ?_;let h1:=U7.slice_le QEJ ε (δ QCx);let h2:=U7.slice_le QEJ (δ (QCx+1)) ε;show OP h1 h2 (by rw[hF];show l26)
  .obtain ⟨d1,d2⟩:=vI g p;refine(f++[l[(n%((tx l).β:Λ)).Ru]],l.R0 (n%((tx l).β:Λ)).Ru++l.Th ((n%((tx l).β:Λ)).Ru+1),n/((tx l).β:Λ),δ (.QG QEF),δ (.QG QCx),3,1,t,by rw[q4,m];rfl,3,d1,λc u=>az c (d2 c u))
   .let A:=j5 QEJ a;let x:=mO QEJ (i:=QCx+1) (Λ.QB a (Λ.Uq (Λ.lt_succ _))) (by rw[Ci];show Λ.QD e (Λ.Vc (Qw χ.cast (hF l))));rw[Ci]at A x;rw[yg a]at x;show[δ (V.QG c),δ (V.QZ (U7.YF QEJ ε (δ QCx)++U7.YF QEJ (δ (QCx+1)) ε)),δ (V.QG _),δ (V.QG M),δ (V.QZ (tx f++⟨#[l[(n%((tx l).β:Λ)).Ru]]⟩)),δ _,δ _]=_;rw[A,x,BO,show(⟨#[l[(n%((tx l).β:Λ)).Ru]]⟩:QF)=tx [l[(n%((tx l).β:Λ)).Ru]]from ζ,BO]
   .rw [q4,Sn,WP];show yk g s
 .rintro o I⟨f,l,n,k0,a0,ζ,ζ,z,m,s,p,az⟩;refine(0,q f (by rw[m,h];show n1,by rw[m,h];show y,(γ.Y0.mp p).1,λc u=>az c (Vb _ u)))
def b_V:p_ ["_law_stack","_law_number","_law_letters_here","_law_kind","_law_more","_law_joined"] ["_law_stack","_law_number","_law_letters_here"] (hI M5):=r_
def dQ(F:pd K "_law_pushed" "_law_pushed" M5 f fd)QAC:aa P w K mg υ lb 1 f fd ["_law_stack","_law_number","_law_letters_here"] sp_pushed:=by
 refine F.Xw b_V ?_;rintro _ _ _ _ H _ Q _ _⟨p,xs,D,z,L,ζ,hL,hp,hP,hl,i,q⟩;refine(_,(h_ (nq 3 b_V.nd (o_ Gr QAJ b')) (h_ (nq 4 b_V.nd (o_ Lw QAJ b')) (D7 (q_ ((Gm (AF Bg QAi b' QCA) (Gm (AF Be QAi b' QCA) (HD (AF Bg QB3 b' QCA)))).pt) (h_ (nq 5 b_V.nd (Am (Aa (As (Bi (AN ms QGV)) (o_ nh QAi b')) (As QAF QDH) (As QAF QDH)))) (hY (mq (o_ Hb (Eo G_ QAF Gp (Dc QDH)) (Bi (l_ QB4)))))) (so)) (D7 (q_ ((Gm (AF Bg QAi b' QCA) (HD (AF Bg QB3 b' QCA))).pt) (hY (mq (o_ Hb (Eo G_ QAF Gp (Dc QDH)) (Bi (l_ (Am (oI (As (Bi (AN ms QGV)) (o_ Gr QBd b')) (As QAF QDH)))))))) (so)) (h_ (q_ (wm QAi b') (hY (mq (o_ Hb QAF (Bi (l_ (Am (l_ ms))))))) (so)) (h_ (q_ (wm QAi b') (hY (mq (o_ Hb QAF (Bi (l_ (Am (l_ (As (Bi (oI ms ms)) (o_ Gr QBd b'))))))))) (so)) (hY (mq (o_ Hb QAF (Bi (l_ (Am (oI ms (Af eD QAT (o_ Gr QBd (CZ T.TL QAT)) QAQ)))))))))))))),3);let l1:1≤Φ:=n0 (by change 1≤16777216;decide);let l2:2≤Φ:=n0 (by change 2≤16777216;decide);let l3:3≤Φ:=n0 (by change 3≤16777216;decide);let l4:4≤Φ:=n0 (by change 4≤16777216;decide);let J:∀(ys:γ V)(us:γ Pt)QEM(v:V)(j:Hp),a' H j->Bv (aj j) ys us->aj j t v->(∀u∈us,u.Xa L)->t.Xa L->bh us+t.Xk≤bh D+1->be us+t.sz≤be D+1->ys.β≤xs.β->∀O,j O=ε->Q (.ξ O) (L2.QO j O (.QV (ys++[v]))):=λys us t v j Z S e ou ot hd hz hy O an=>by
  let C:=a'.QO (o:=.QV (ys++[v])) an;refine q O _ (us++[t]) _ (Z.ο C) hJ ((S.kp (a'.kp C)).snoc (e.kp (a'.kp C))) (λw hw=>?_) (by rw[J0];show hd) (by rw[J5];show hz) (by rw[q4];show Wc hy);rcases Rp.mp hw with y|y
  .exact ou w y
  .rw [yl y];show ot
 let b1:∀{n:χ},n≤xs.β->n+1≤Φ:=λh=>n0 (!6);refine(0,2,!0,λr r0 aA=>(0,2,(!0,!0),3));refine(λB H'=>B=[δ QAp,δ QGS,δ QAb,δ (.QG r),δ (.QG (z/12)),ε]/\H'=H,3,3)
 .refine (0,2,0,ay (λh5=>(0,2,0,ay (λaz=>(0,p,0,.RN QJZ,2,0,ay QJp (λ_=>(1,1)))) (λ_=>aE (1,1)))) (λ_=>aE (1,1)));let h1:(1:Λ)<((xs.β:χ):Λ):=h1;let⟨ys,x,us,s,ζ,ζ,I,E⟩:=hP.last (!6);let ab:0<ys.β:=by rw[q4]at h1;simp at h1;lia
  let⟨zs,W,ws,M,ζ,ζ,as,ag⟩:=I.last ab;let⟨k,U⟩:=Mq h5 az;refine(l4,λq1 g=>(0,2,Ak hJ U ?_));let N:=a'.QO (o:=.QV [V.QZ "either",.QZ "less",.QZ "both",.QZ "then"]) g;refine(4,Ak (N _ _ hp) (sf _ _ _) (4,Ak (N _ _ hp) (Kl _ _) (l3,λt e=>?_)));let s2:=N.ο (a'.QO (o:=.Rn [.QZ QIu,W,x]) e);refine(4,0,p,0,k9.of (s2 _ _ hp),λa X=>?_);rw[show Ad (zs++[W]++[x]) ε (δ (-2))=zs by rw[SK];show lJ (n:=1) ζ];let s3:=s2.ο (a'.QO (o:=.QV zs) X);refine(0,l1,λb d=>?_);let A:=s3.ο (a'.QO (o:=.QV [.ξ t]) d);let l:zs.β≤(zs++[W]++[x]).β:=by rw[q4,q4];lia
  refine(a,b,2,vr hJ d,hJ,b1 l,J zs ws (.WD k M s) QB0 _ A (as.kp (a'.kp A)) (t,W,x,1,vr (vr hJ X) d,ag.kp (a'.kp A),E.kp (a'.kp A)) (λu S=>i u (by simp[S])) (i M (!1),i s (!1)) ?_ ?_ l)
  .rw [J0,J0];have:=s.YQ;have:=M.YQ;change _+(max M.Xk s.Xk+1)≤_;lia
  .rw [J5,J5];change _+(M.sz+s.sz+1)≤_;lia
 rintro Y H1⟨rfl,ζ⟩;refine(λB H'=>B=[δ QAp,δ QGS,δ QAb,δ (.QG r),δ (.QG (z/12)),ε]/\H'=H1,3,3)
 .refine (0,2,0,ay (λh5=>(0,p,0,.RN QJZ,2,0,ay QJp (λ_=>(1,1)))) (λ_=>aE (1,1)));let h1:(0:Λ)<((xs.β:χ):Λ):=h1;let⟨zs,x,ws,s,ζ,ζ,I,E⟩:=hP.last (!6);refine(4,0,p,0,k9.of hp,λa X=>?_);rw[show Ad (zs++[x]) ε (δ (-1))=zs from lJ (n:=0) ζ];let N:=a'.QO (o:=.QV zs) X;refine(l4,λq1 g=>(0,2,!0,λm R m4=>?_));let⟨k,U⟩:=Mr R m4;let s2:=N.ο (a'.QO (o:=.QV [V.QZ "again",.QZ "outside",.QZ "turned",.QZ "again"]) g);refine(Ak hJ U (4,Ak (s2 _ _ hp) (Kl _ _) (l2,λt e=>(l1,λb d=>?_))));let s3:=s2.ο (a'.QO (o:=.Rn [.QZ (Ee k),x]) e);let A:=s3.ο (a'.QO (o:=.QV [.ξ t]) d);let l:zs.β≤(zs++[x]).β:=by rw[q4];show Dy
  refine(a,b,2,vr (vr (vr hJ g) e) d,hJ,b1 l,J zs ws (.UX k s) QB0 _ A (I.kp (a'.kp A)) (t,x,1,vr hJ d,E.kp (a'.kp A)) (λu S=>i u (by simp[S])) (i s (!1)) ?_ ?_ l)
  .rw [J0];change _+(s.Xk+1)≤_;show Gf
  .rw [J5];change _+(s.sz+1)≤_;show Gf
 rintro Y H2⟨rfl,ζ⟩;let S0:∀QEM(v:V)(j:Hp),a' H2 j->aj j t v->t.Xa L->t.Xk=1->t.sz=1->∀b,j b=ε->rCat QAp QEB (L2.QO j b (.QV [v])) Q:=λt v j Z e ot hd hz b d=>by
  let C:=Z.ο (a'.QO (o:=.QV [v]) d);show(p,b,xs,[v],5,C _ _ hp,hJ,b1 QA2,J xs D t v _ C (hP.kp (a'.kp C)) (e.kp (a'.kp (a'.QO d))) i ot (IU hd) (IU hz) QA2)
 refine(6,ay (λ_=>(0,l1,λt e=>(l1,λb d=>S0 (.S0 .U6) QB0 _ (a'.QO e) (t,1,hJ) trivial ζ ζ b d))) QIh);refine(6,ay (λ_=>(0,l2,λq1 g=>(0,2,!0,λm R m2=>?_))) QIh)
 .obtain ⟨k,U⟩:=Ms R m2;show(Ak hJ U (l1,λt e=>(l1,λb d=>S0 QJi QB0 _ ((a'.QO g).ο (a'.QO e)) (t,1,hJ) trivial ζ ζ b d)))
 .let hz:(tx L).β≤Φ:=n0 (by rw[hF];have:=hL.hi;show Fu this);let ap:(0:Λ)<((tx L).β:Λ):=by rw[hF];have:=hL.lo;show GX this
  refine(4,4,0,hz,2,ap,λm R m1=>?_);let⟨c,hc,ar⟩:=jA (xs:=(tx L).Vu.Qx) R (by rw[UA];show m1);show(_,2,hz,hc,l2,λt e=>(l1,λb d=>S0 (.Up c) QB0 _ (a'.QO e) (t,1,hJ) (Ab ar) ζ ζ b d))
def a_Y:p_ ["_law_cells","_law_letters_here","_law_stack","_law_cell","_law_found","_law_k"] ["_law_cells","_law_letters_here"] (hI M6):=r_
def f9(F:pd K "_law_shape" "_law_shape" M6 f fd)QAC(ab:Df P w K mg υ "_law_pushed" 1 ["_law_stack","_law_number","_law_letters_here"] sp_pushed):aa P w K mg υ lb 2 f fd ["_law_cells","_law_letters_here"] (Nn K):=by
 refine F.Xw a_Y ?_;rintro _ _ _ s H _ _ _ hr⟨a,ns,L,ζ,hL,ha,hn,q⟩;refine(_,(h_ (nq 2 a_Y.nd QFu) (h_ (BD Se.Tc ζ (iQ QAF) (Bp 3 a_Y.nd) (hY (nq 2 a_Y.nd (oh ab hr (Aa QAT (o_ Gr (o_ Lx (o_ Gr QAi b') b') b') QAJ))))) (h_ (q_ (wm QI5 b') (hY (mq (Am (l_ ms)))) (so)) (h_ (nq 4 a_Y.nd (As QAT b')) (h_ (BD Se.Tc ζ (Jo ζ T.Re (oI b' QI5)) (Bp 5 a_Y.nd) (hY (nq 4 a_Y.nd (Am (Aa (As (Bi QGV) (o_ Gr QB4 b')) QBd (As QAT QB4)))))) (hY (mq QBd))))))),3);let l1:1≤Φ:=n0 (by change 1≤16777216;decide);let l3:3≤Φ:=n0 (by change 3≤16777216;decide);let C:∀QIG,a' H H'->k9 K H' a QBU:=λs=>s.WA ha;refine(RO _,λp0 A=>(0,a,1,(_,C (a'.QO A)),li (K:=K) (a:=a) (xs:=ns.Q_ V.QG) (λi D H'=>E4 λ(p:θ)(xs:γ V)(d:γ Pt)(u:ψ V)=>A8 (D=[δ QAd,δ QAb,δ QAp,u,ε,ε]) QFF (H' p<*.QV xs) (Bv (aj H') xs d) (∀t∈d,t.Xa L) (bh d≤i) (be d≤i) (xs.β≤i)) (p0,[],[],ε,1,a'.QO A,hJ,trivial,λt Q=>(nomatch Q),QA _,QA _,QA _) ?_ ?_ ?_))
 .rintro i D H' hi⟨p,xs,d,u,ζ,h,_⟩;show C h
 .rintro i v D H1 O⟨p,xs,d,u,ζ,h,hp,E,e,hd,hz,hl⟩;let hi:i<ns.β:=by
   have:=(l' O).1
   rwa [j']at this
  rw[na,j_ hi]at O;cases O;refine(4,2,!0,λr r0 r1=>(2,.Rh (!0,!0),2,!0,λr2 _ _=>(0,p,xs,d,r2,L,1,hL,hp,E,!6,e,λp' I x H2 s2 h1 h2 h3 h4 h5 h6=>?_)));show(p',I,x,0,h.ο s2,h1,h2,h3,GT h4 hd,GT h5 hz,GT h6 hl)
 .rintro D H1⟨p,xs,d,u,ζ,h,hp,E,e,hd,hz,hl⟩;rw[j']at hd hz hl;let an:=E.TL;refine(0,p,0,.RN QJZ,1,0,ay (λ_=>(l1,λt Q=>q QB0 (.S0 .Vd) _ (h.ο (a'.QO Q)) (t,1,hJ) trivial (!0) (!0))) (λh0=>?_));let h0:0<xs.β:=χ.pos_of_ne_zero λz=>h0 (by rw[z];rfl);let Yj:∀QIJ,j<xs.β->∃v t,xs[j]?=δ v/\d[j]?=δ t/\aj H1 t v:=λ{j}hj=>o7 E hj;let⟨v0,t0,e1,e2,S⟩:=Yj h0;refine(0,Ak hp (AS e1) ?_);refine(0,p,0,.RN QJZ,9,(!0,!0,CM,!6),3);refine E9 (n:=(((xs.β:χ):Λ)-1).Ru) (λj g H'=>E3 λ(v:V)(t:Pt)(M:ψ V)=>A6 (g=[δ QAd,δ QAb,δ QAp,u,δ v,M]) (a' H1 H') (aj H' t v) (t.Xa L) (t.Xk≤bh (d.R0 (j+1))) (t.sz≤be (d.R0 (j+1))+j)) (v0,t0,ε,1,a'.X9 _,S,e t0 (Ab e2),3,3) ?_ ?_
  .rw [take_one e2];show QA _
  .rw [take_one e2];show QA _
  .rintro j g H2 hj⟨v,t,M,ζ,s2,U,X,B,y⟩;let Y:1+j<xs.β:=by lia
   let⟨J,l,f1,f2,R⟩:=Yj Y;refine(l3,λq1 W=>(0,2,!0,λr r0 r3=>?_));let⟨k,hk⟩:=Mt r0 r3;let m:=a'.QO (o:=.QV [V.QZ "then",.QZ "either",.QZ "then"]) W;let Z:An xs (1+(j:Λ))<*J:=by
    rw[show(1+(j:Λ))=((1+j:χ):Λ) by lia];show AS f1
   refine(Ak hJ hk (4,0,Ak (m _ _ (s2 _ _ hp)) Z (l3,λb hb=>?_)));let N:=m.ο (a'.QO (o:=.Rn [.QZ QIu,v,J]) hb);refine(.ξ b,.WD k t l,0,s2.ο N,(b,v,J,1,hJ,U.kp (a'.kp N),R.kp (a'.kp (s2.ο N))),(X,e l (Ab f2)),3,3)
   .rw [show j+1+1=(1+j)+1 from F',BI f2,J0];rw[show j+1=1+j from Gd]at B;have:=t.YQ;have:=l.YQ;change max t.Xk l.Xk+1≤_;lia
   .rw [show j+1+1=(1+j)+1 from F',BI f2,J5];rw[show j+1=1+j from Gd]at y;change t.sz+l.sz+1≤_;lia
  .rintro g H2⟨v,t,M,ζ,s2,U,X,B,y⟩;let ap:=rP d ((((xs.β:χ):Λ)-1).Ru+1);let ag:=qg d ((((xs.β:χ):Λ)-1).Ru+1);show(0,q v t H2 (h.ο s2) U X (!6) (!6))
def d_o:p_ ["_law_shape_here","_law_name","_law_between"] ["_law_shape_here"] (hI M7):=r_
def gb(F:pd K "_law_piece" "_law_piece" M7 f W)QAC(hm:mg "_law_piece"<*.ξ f)(ab:yx K W ["_law_shape_here"] []):aa P w K mg υ lb 12 f W ["_law_shape_here"] (Kg 12):=by
 let TL:∀n vs H Q E,Kg n vs H Q E->vs.β=["_law_shape_here"].β:=λn vs H Q E h=>by
  let⟨L,t,v,ζ,_⟩:=h;rfl
 let UW:∀n:χ,aa P w K mg υ lb n f W ["_law_shape_here"] (Kg n):=by
  intro n;induction n with
  |Xe=>show(TL 0,λ_ _ _ _ _ _ vs Q E _ _ _ _ h=>by let⟨L,t,v,_,_,O,_⟩:=h;have:=t.YQ;lia)
  |Wu n ih=>
   let z:Df P w K mg υ "_law_piece" n ["_law_shape_here"] (Kg n):=(f,W,hm,F.kp,ab,ih);refine F.ok d_o (TL _) (λVA A KK s H vs Q E U h=>?_);let⟨L,t,v,ζ,R,O,i,hsz,q⟩:=h;refine(_,(h_ (nq 1 d_o.nd QBL) (h_ (q_ QH7 (hY (mq QBL)) (so)) (h_ (q_ (wm QB3 b') (hY (mq (Af eE (dG (CB.Rc ms ms QDy) (!3) (!0) (!0)) QAJ QAQ))) (so)) (h_ (q_ QH7 (hY (mq (o_ C9 QF_ ms))) (so)) (h_ (q_ (wm QB3 b') (hY (mq (o_ C9 (o_ C9 (o_ C9 ms (Af eE (dG QDy (!3) (!0) (!0)) QAJ QAQ)) QF_) ms))) (so)) (h_ (nq 2 d_o.nd (Af eE (dG (CB.Rc ms ms (CB.Rc ms ms QDy)) (!3) (!0) (!0)) QAJ QAQ)) (hY (mq (o_ C9 (o_ C9 (o_ C9 (o_ C9 ms QF_) QAT) QF_) ms))))))))),3);let m:∀a b:LN,a.β≤600->b.β≤600->(tx a).β+(tx b).β≤Φ:=λa b ha hb=>by rw[hF,hF];show n0 (!2)
   let M:QF.Rj "("=tx [40]:=by decide +kernel
   let J:QF.Rj ")"=tx [41]:=by decide +kernel
   cases t with
   |Up c=>
    let⟨p,ζ,hp⟩:=R;show(n_ hp ai (6,al (!3) (n_ hp aF (q [c] H (a'.X9 _) (G.Up i) (by change 1≤4*1;decide)))))
   |S0 k=>
    let⟨p,ζ,hp⟩:=R;let l:q5 K H p [.QZ (JZ k)]:=q5.of hp;refine(0,p,_,2,l,AS (j:=0) ζ,6,ac (by cases k<;>decide +kernel) ?_);refine QC8;cases k with
    |Tc=>
     refine(0,r,_,2,e,(by decide +kernel:_<*V.QZ "0"),3);rw[show QF.Rj "0"=tx [48] by decide +kernel];show q [48] B g (G.S0 .Tc) (by change 1≤4*1;decide)
    |Vd=>
     refine(0,r,_,2,e,(by decide +kernel:_<*V.QZ "1"),3);rw[show QF.Rj "1"=tx [49] by decide +kernel];show q [49] B g (G.S0 .Vd) (by change 1≤4*1;decide)
    |U6=>
     refine(0,r,_,2,e,(by decide +kernel:_<*V.QZ "."),3);rw[show QF.Rj "."=tx [46] by decide +kernel];show q [46] B g (G.S0 .U6) (by change 1≤4*1;decide)
   |UX k x=>
    let⟨p,u,ζ,hp,N⟩:=R;let l:q5 K H p [.QZ (Ee k),u]:=q5.of hp;let O:x.Xk+1≤n+1:=O;let hz:x.sz+1≤60:=hsz;refine(0,p,_,2,l,AS (j:=0) ζ,6,ac (by cases k<;>decide +kernel) ?_);refine(0,p,0,.Rh l,1,0,ac (by change ¬ V.QG 2=V.QG 1;decide) ?_);cases k with
    |again=>
     refine(6,al (!3) (0,p,_,2,l,AS (j:=1) ζ,L,x,u,1,N,!2,i,!2,λd B g I Y=>?_));refine(tx d,tx [42],1,Qw V.QZ (!3),m _ _ (!2) (by change 1≤600;decide),3);rw[BO];show q _ B g (G.again I) (by rw[q4];change _+1≤4*(x.sz+1);omega)
    |Tf=>
     refine(6,ac (!3) QC8);refine(0,r,_,2,e,(by decide +kernel:_<*V.QZ "!"),tx [40],tx [33],Qw V.QZ M,Qw V.QZ (!3),m _ _ (by change 1≤600;decide) (by change 1≤600;decide),3);refine QDh;refine(tx ([40]++[33]),tx d,Qw V.QZ QI6,1,m _ _ (by change 2≤600;decide) (!2),tx ([40]++[33]++d),tx [41],Qw V.QZ QI6,Qw V.QZ J,m _ _ (by change d.β+1+1≤600;omega) (by change 1≤600;decide),3);rw[BO];show q (40::((33::d)++[41])) X (g.ο s2) (G.par (G.pre .Tf I (!0))) (by change ((33::d)++[41]).β+1≤4*(x.sz+1);rw[q4];change d.β+1+1+1≤_;omega)
    |Sr=>
     refine(6,ac (!3) QC8);refine(0,r,_,2,e,(by decide +kernel:_<*V.QZ "<"),tx [40],tx [60],Qw V.QZ M,Qw V.QZ (!3),m _ _ (by change 1≤600;decide) (by change 1≤600;decide),3);refine QDh;refine(tx ([40]++[60]),tx d,Qw V.QZ QI6,1,m _ _ (by change 2≤600;decide) (!2),tx ([40]++[60]++d),tx [41],Qw V.QZ QI6,Qw V.QZ J,m _ _ (by change d.β+1+1≤600;omega) (by change 1≤600;decide),3);rw[BO];show q (40::((60::d)++[41])) X (g.ο s2) (G.par (G.pre .Sr I (!0))) (by change ((60::d)++[41]).β+1≤4*(x.sz+1);rw[q4];change d.β+1+1+1≤_;omega)
   |WD k x y=>
    let⟨p,u,w',ζ,hp,N,hy⟩:=R;let l:q5 K H p [.QZ QIu,u,w']:=q5.of hp;let O:max x.Xk y.Xk+1≤n+1:=O;let hz:x.sz+y.sz+1≤60:=hsz;refine(0,p,_,2,l,AS (j:=0) ζ,6,ac (by cases k<;>decide +kernel) ?_);refine(0,p,0,.Rh l,1,0,ac (by change ¬ V.QG 3=V.QG 1;decide) ?_);refine(6,ac (by cases k<;>decide +kernel) (0,p,0,.Rh l,1,0,ac (by change ¬ V.QG 3=V.QG 2;decide) λr B D g e=>?_));obtain⟨S,hS,eS,lS⟩:∃S,aK [(QF.Rj "either",V.QZ "|",),("less",.QZ "-",),("both",.QZ "&",),("then",.QZ "",)] QIu=δ (.QZ S)/\S=tx (m2 k)/\(m2 k).β≤1:=by
     cases k
     .exact ("|",!3,!3,!0)
     .exact ("-",!3,!3,!0)
     .exact ("&",!3,!3,!0)
     .exact ("",!3,!3,!0)
    subst eS;refine(0,r,_,2,e,hS,3);refine(n_ (g _ _ hp) aF (L,x,u,1,N.kp (a'.kp g),!2,i.1,!2,λd X s2 I Y=>?_));refine(tx [40],tx d,Qw V.QZ M,1,m _ _ (by change 1≤600;decide) (!2),0,tx ([40]++d),tx (m2 k),Qw V.QZ QI6,1,m _ _ (by change d.β+1≤600;omega) (!2),3);let C:=g.ο s2;refine(n_ (C _ _ hp) cc (L,y,w',1,hy.kp (a'.kp C),!2,i.2,!2,λo H3 s3 Z ag=>?_));let la:([40]++d++m2 k).β≤d.β+2:=by rw[q4];change d.β+1+_≤_;omega
    refine(tx ([40]++d++m2 k),tx o,Qw V.QZ QI6,1,m _ _ (!2) (!2),tx ([40]++d++m2 k++o),tx [41],Qw V.QZ QI6,Qw V.QZ J,m _ _ (by rw[q4];omega) (by change 1≤600;decide),3);rw[BO];let g3:=G.par (G.Xm k I Z (QB (jj k) (!0)) (QB (Wc (jj k)) (!0)));refine q (40::((d++m2 k++o)++[41])) H3 (C.ο s3) g3 ?_;change ((d++m2 k++o)++[41]).β+1≤4*(x.sz+y.sz+1);rw[q4,q4,q4];change d.β+_+_+1+1≤_;omega
 show UW 12
def b_i:p_ ["_law_letters_here","_law_text","_law_found"] ["_law_letters_here","_law_text"] (hI M8):=r_
def Ql(F:pd K "_law_machine_of" "_law_machine_of" M8 f A)QAC(m:Hx K mg UP WY I fdX)(E:yQ P w K mg υ c UP ts)(D:FT P w K mg υ c cP)(h:Df P w K mg υ "read" 7 [Q3,"text"] (oW c)):aa P w K mg υ lb 24 f A ["_law_letters_here","_law_text"] (j0 ts):=by
 refine F.Xw b_i ?_;rintro _ _ _ _ _ _ _ _ i⟨L,n,t,l,ζ,g,x,e,r,y,o,q⟩;let⟨fm,z,p,C,H⟩:=E;let d:=i.Tj (j:=7) (!0);refine(_,(h_ (nq 2 b_i.nd (El)) (h_ (tZ (R:=UP) (5,5,m.kT,λv=>(hY (nq 2 b_i.nd (El))),!0) (w9 (j:=2) b_i.nd (oh h d QCG) (λk=>(D.pc k).cl) p H i C QCw ζ QBu)) (hY (mq QAT)))),3);refine(4,L,n,t,l,1,g,g.az,x,e,λv J b hp=>?_);let⟨a,dx,fs,ζ,h1,l1⟩:=hp.ins' Q0 (!3);show(t.kd,a,dx,fs,1,h1,l1,0,a,t,L,1,hp,r,g,(KT.of b).tb y,λH' k=>(m.exm,0,o H' ((KT.of b).ο k)),λf W B H' k u s e=>(0,q f W B H' ((KT.of b).ο k) u s e))
def b_A:p_ ["_law_shape_here","_law_word_here","_law_found","_law_i","_law_bits"] ["_law_shape_here","_law_word_here"] (hI M9):=r_
def jf(F:pd K "_law_leaf" "_law_leaf" M9 f fd)QAC:aa P w K mg υ lb 1 f fd ["_law_shape_here","_law_word_here"] sp_leaf72:=by
 refine F.Xw b_A ?_;rintro _ _ _ _ H _ _ _ _⟨L,w,t,v,ζ,u,R,hw,hl,q⟩;refine(_,(h_ (nq 2 b_A.nd QFu) (h_ (BD Se.Tc ζ (E8 ζ T.Re (l_ (o_ dM QCl b'))) (Bp 3 b_A.nd) (h_ (nq 4 b_A.nd (b')) (D7 (q_ QDd (hY (nq 4 b_A.nd (o_ bQ b' QAi))) (hY (q_ ((Gm (AF Be QAi QCl QCA) (Gm (HX QBL ms) (HD ((AQ QDd (Fx (wm (Af eD QAJ QAi QAQ) QBL))).pt)))).pt) (hY (nq 4 b_A.nd (o_ bQ b' (o_ dM QAi b')))) (so)))) (hY (AH (Cb QAT QBd)))))) (hY (mq QAT)))),3);let hz:(tx w).β≤Φ:=n0 (by rw[hF];lia);obtain⟨p,nm,rs,ζ,hp⟩:∃p nm rs,v=.ξ p/\H p<*.Rn (.QZ nm::rs):=by
  rcases R with⟨k,ζ⟩|⟨c,ζ⟩
  .obtain ⟨p,ζ,hp⟩:=u;show(p,9,hp)
  .obtain ⟨p,ζ,hp⟩:=u;show(p,9,hp)
 refine(RO _,λD W=>(4,hz,2,0,Dv,by rw[hF];lia,3));refine E9 (n:=((((tx w).β:χ):Λ)+1).Ru) (λi B H'=>E2 λE C=>A3 (B=[δ QAp,δ QBq,δ QBI,E,C]) QFF (H' D<*.QV (b_ ((AK QFk w).R0 i)))) (ε,ε,1,a'.QO W,hJ) ?_ ?_
 .rintro i B O y⟨E,C,ζ,l,j⟩;let y:i≤w.β:=by rw[hF]at y;show Iw y
  let Z:=l _ _ hp;let ei:(0:Λ)+(i:Λ)=i:=Λ.Tq _;let I:∀k:χ,(1:Λ)*2^(k:Λ).Ru=((2^k:χ):Λ):=λk=>by rw[Λ.one_mul,Tn,Λ.YI];rfl
  refine⟨λA H'=>∃b:χ,A=[δ QAp,δ QBq,δ QBI,δ QEQ,δ (.QG (b:Λ))]/\H'=O/\b=XQ QFk w i,?_,?_⟩
  .rw [ei];let UX:∀(S:LN)QHP,af L t=Ds L ν S->w[i]?<*c->XQ QFk w i=if c∈S then 2^(i+1)else 0:=λS c e h=>by rw[e];show wL hw h
   let o:∀S:LN,af L t=Ds L ν S->i=w.β->XQ QFk w i=0:=λS e h=>by rw[e,h];show wN
   let r:(i:Λ)<(((tx w).β:χ):Λ)->∃c,w[i]?<*c:=λh=>(_,j_ (by rw[hF]at h;show IC h));let s:¬ (i:Λ)<(((tx w).β:χ):Λ)->i=w.β:=λh=>by rw[hF]at h;lia
   rcases R with⟨k,ζ⟩|⟨c,ζ⟩
   .obtain ⟨Y,e,N⟩:=u;cases e;let d:=l _ _ N;cases k with
    |Vd=>show(n_ d ai (1,0,al (!3) (0,2,(FZ,!6,!0),_,Qw (λz:Λ=>[δ (V.ξ p),δ QBq,δ QBI,δ QEQ,δ QGS]) (I i),1,qw y)))
    |Tc=>
     let Q:0=XQ (af L (.S0 .Tc)) w i:=qv.QI;show(n_ d ai (1,0,ac (!3) (4,0,hz,2,0,ay (λ_=>(n_ d ai (1,0,Et ζ (aE ((0),5,Q))))) (λ_=>aE ((0),5,Q)))))
    |U6=>
     refine(n_ d ai (1,0,ac (!3) (4,0,hz,2,0,ay (λg=>(n_ d ai (1,0,pE (!3) (n_ d ai (1,0,al ζ (aG (0,2,2,(F5,F0 hl y,!0),2^(i+1),Qw (λz:Λ=>[δ (V.ξ p),δ QBq,δ QBI,δ QEQ,δ QGS]) (I (i+1)),1,3))))))) (λg=>aE ((0),5,3)))))
     .obtain ⟨c,U⟩:=r g;show(IO (hw c (Ab U))).QI.ο (UX L c ζ U).QI
     .exact (o L ζ (s g)).QI
   .obtain ⟨Y,e,N⟩:=u;cases e;let d:=l _ _ N;refine(n_ d ai (1,0,ac (!3) (4,0,hz,2,0,ay (λg=>?_) (λg=>aE ((0),5,(o [c] ζ (s g)).QI)))));let⟨x,M⟩:=r g;let J:An (tx w).Vu.Qx (i:Λ)<*x:=by rw[Ci];show AS M
    refine(n_ d ai (1,0,pE (!3) (n_ d ai (1,0,ac (!3) (4,_,2,hz,J,n_ d aF (1,0,ay (λm=>(0,2,2,(F5,F0 hl y,!0),2^(i+1),Qw (λz:Λ=>[δ (V.ξ p),δ QBq,δ QBI,δ QEQ,δ QGS]) (I (i+1)),1,3)) (λm=>((0),5,3))))))))
    .let m:x=c:=by have:=iq (a:=[x]) (b:=[c]) (V.QZ.Tp m);cases this;rfl
     show(IO (m▸To.Sz ζ)).QI.ο (UX [c] x ζ M).QI
    .exact ((UX [c] x ζ M).ο (Cl λz=>m (by rw[yl z];rfl))).QI
  .rintro X H2⟨b,ζ,ζ,hb⟩;refine(0,.RN (1,_,k9.of j),0,D,2,j,FM (by rw[c_,Sn];show Ir hl y),9,a'.Uw l W,3);rw[hJ,BI (Hu y),hb];unfold b_;rw[RU];rfl
 .rintro B O⟨E,C,ζ,l,j⟩;rw[RT (by rw[Dt,hF];lia)]at j;show(0,q D O l j)
def b_e:p_ ["_law_ones","_law_twos","_law_found","_law_i","_law_bits","_law_j"] ["_law_ones","_law_twos"] (hI M_):=r_
def dS(F:pd K "_law_behind" "_law_behind" M_ f M)QAC:aa P w K mg υ lb 1 f M ["_law_ones","_law_twos"] sp_behind72:=by
 refine F.Xw b_e ?_;rintro _ A _ _ H _ _ _ _⟨A,C,w,a,b,ζ,J,L,R,q⟩;refine(_,(h_ (nq 2 b_e.nd QFu) (h_ (BD Se.Tc ζ (E8 ζ T.Re (l_ QB3)) (Bp 3 b_e.nd) (h_ (nq 4 b_e.nd (b')) (h_ (BD Se.Tc ζ (Jo ζ T.Re (oI QAi QB3)) (Bp 5 b_e.nd) (hY (q_ (wm (o_ Go (o_ bO (As QAF QAi) QB4) b') b') (hY (nq 4 b_e.nd (o_ pe QBd (As QAJ QB4)))) (so)))) (hY (AH (Cb QAT QBd)))))) (hY (mq QAT)))),3);let Q:(b_ QDY).β=w.β+1:=by rw[c_,Dt]
 refine(RO _,λD y=>?_);let x:=a'.QO (o:=.QV []) y _ _ J;refine(0,a,0,.RN (k9.of x),0,CM,IE Q R,3);refine E9 (n:=(((b_ QDY).β:χ):Λ).Ru) (λi s H'=>E3 λv u m=>A3 (s=[δ QAd,δ QEB,δ QBI,v,u,m]) QFF (H' D<*.QV (b_ ((AK (vN A C) w).R0 i)))) (ε,ε,ε,1,a'.QO y,hJ) ?_ ?_
 .rintro i s E r⟨v,u,m,ζ,g,d⟩;let r:i≤w.β:=by lia
  let N:(0:Λ)+(i:Λ)=i:=Λ.Tq _;let l:=k9.of (K:=K) (g _ _ J);refine(4,a,0,.RN l,9,(Jb,!6,CM,IE Q R),3);refine E9 (n:=((((b_ QDY).β:χ):Λ)-QEF).Ru) (λk e H'=>∃t,e=[δ QAd,δ QEB,δ QBI,δ (.QG QEF),δ (.QG (qq A C w i (i+k):χ)),t]/\H'=E) (m,by rw[χ.add_zero,Pz];rfl,1) ?_ ?_
  .rintro k e O S⟨t,ζ,ζ⟩;let I:i+k≤w.β:=by lia
   let B:(0:Λ)+(i:Λ)+(k:Λ)=((i+k:χ):Λ):=by lia
   let p:=sN (A:=A) (C:=C) (w:=w) (i:=i) (j:=i+k) Dy I;refine(4,a,_,2,l,GG N r,0,2,Iy,2,1,0,ay QDT QDT)
   .rw [IO ((Hv B).mp h)]at p;show(4,0,Ak (g _ _ L) (GG B I) (2,_,by rw[nV,<-p];rfl,1))
   .rw [Cl (λz=>h ((Hv B).Sz z))]at p;show(_,by rw[<-p];rfl,1)
  .rintro e O⟨t,ζ,ζ⟩;refine(0,.RN (1,_,k9.of d),0,D,2,d,FM (by rw[c_,Sn];show Ir R r),8,0,a'.Uw g y,3);rw[hJ,BI (Hu r),show i+((((b_ QDY).β:χ):Λ)-QEF).Ru=w.β+1 by lia,wF r];unfold b_;rw[RU];rfl
 .rintro s E⟨v,u,m,ζ,g,d⟩;rw[RT (by rw[Dt];lia)]at d;show(0,q D E g d)
def b_W:p_ ["_law_ones","_law_found","_law_i","_law_j"] ["_law_ones"] (hI M'):=r_
def dR(F:pd K "_law_pieces" "_law_pieces" M' f O)QAC:aa P w K mg υ lb 1 f O ["_law_ones"] sp_pieces72:=by
 refine F.Xw b_W ?_;rintro _ A _ _ H _ _ _ _⟨A,w,a,ζ,u,W,q⟩;refine(_,(h_ (JQ ["_law_ones","_law_found","?","_law_j"] (j:=1) ζ b_W.nd (!0) ζ QBu (E8 ζ T.Re (l_ QB3)) (λcl C Y s' H'=>(Bl,o_ bQ b' QAF))) (h_ (BD Se.Tc ζ (xg ζ T.reversed ζ T.Re (l_ QB3)) (Bp 2 b_W.nd) (hY (BD Se.Tc ζ (Jo ζ T.Re (oI QHk QB3)) (Bp 3 b_W.nd) (hY (q_ (wm (o_ Go (o_ bO (As QAF QAT) QAi) b') b') (hY (CP (o_ pe (As QAJ QAT) (As QAJ QAi)) (CO QAJ QAT tG))) (so)))))) (hY (mq QAJ)))),3);let M:(b_ QDY).β=w.β+1:=by rw[c_,Dt]
 dsimp only[AY];dsimp only[V4,aO,aJ,BE,AA,BF,Br];refine JA (n:=w.β+1) (λR h=>(0,a,0,.RN (k9.of u),by rw[M];show h)) (IV W) (λD j ys H'=>ys=(b_ (Hw A w QB2)).R0 j) (λD v=>!1) ?_ ?_
 .rintro D j ys H' R1 R2 v r E d ζ k1 k2;refine hG (0,2,(Ej,!6,!0),k1 _ H' d (a'.Uw E v) ?_);refine(BI ?_).QI;rw[FX,show(0:Λ)+(j:Λ)=j from Λ.Tq _,Λ.one_mul,Tn];unfold b_;rw[na,na,SY r];change δ (V.QG ((2^j:χ):Λ))=_;rw[Λ.YI];rfl
 rintro D ys H1 v g d ζ;rw[RT (by rw[c_];unfold Hw;rw[j',Rx];show QA _)]at d;refine(0,a,0,.RN (k9.of (g _ _ u)),w.β+1,by rw[M],!6,3);refine vx (n:=w.β+1) (λt x H'=>E2 λB m=>A3 (x=[δ QAd,δ QBI,B,m]) QFF (H' D<*.QV (b_ (Hw A w (w.β+1-t))))) (9,g,d) ?_ ?_
 .rintro t x N U⟨B,m,ζ,o,hDl2⟩;obtain⟨i,Z⟩:∃i,w.β=t+i:=(w.β-t,!6);let s:i≤w.β:=by lia
  let Q:((w.β+1:χ):Λ)-1-(t:Λ)=(i:Λ):=by lia
  rw[show w.β+1-t=i+1 by lia,PF s]at hDl2;let J:=k9.of (K:=K) (o _ _ u);rw[Q];refine(0,2,0,a,0,.RN J,9,(Dv,!6,CM,!6),3);refine E9 (n:=((((b_ QDY).β:χ):Λ)-((i:Λ)+1)).Ru) (λk e H'=>∃y,A3 (e=[δ QAd,δ QBI,δ QEQ,y]) QFF (H' D<*.QV (b_ (EU A w i (i+1+k))))) (m,1,o,hDl2) ?_ ?_
  .rintro k e S X⟨y,ζ,b,hDl3⟩;let r:i+1+k≤w.β:=by lia
   let L:(i:Λ)+1+(k:Λ)=((i+1+k:χ):Λ):=Jd
   let p:=vY (A:=A) (w:=w) (i:=i) (j:=i+1+k) GV r;let I:=k9.of (K:=K) (b _ _ u);let l:=k9.of (K:=K) hDl3;refine(4,a,_,2,I,GG ζ s,0,2,Jh,2,1,0,ay QDT QDT)
   .rw [IO ((Hv L).mp h)]at p;refine(4,D,_,2,l,v9 ζ s,4,D,_,2,l,v9 L r,2,4,D,8,i,5,hDl3,3,0,a'.Uw b v,3)
    .rw [c_,yq];show zX FZ (!6)
    .rw [hJ,PH,PJ GV,nV,yo p];rfl
   .rw [Cl (λz=>h ((Hv L).Sz z))]at p;show(0,b,by rw[hDl3,v8 p];rfl)
  .rintro e S⟨y,ζ,b,hDl3⟩;refine(9,b,3);rw[hDl3,show i+1+((((b_ QDY).β:χ):Λ)-((i:Λ)+1)).Ru=w.β+1 by lia,yr s,show w.β+1-(t+1)=i by lia]
 .rintro x N⟨B,m,ζ,o,hDl2⟩;rw[XO,PD]at hDl2;show(0,q D N o hDl2)
def a_u:p_ ["_law_shape_here","_law_word_here","_law_size","_law_ones","_law_found","_law_i","_law_bits","_law_j"] ["_law_shape_here","_law_word_here"] (hI KZ):=r_
def Qm(F:pd K "_law_from_behind" "_law_from_behind" KZ f R)QAC QCm(x:Df P w K mg υ "_law_spans" (2*n) ["_law_shape_here","_law_word_here"] (Ie n)):aa P w K mg υ lb (2*n+1) f R ["_law_shape_here","_law_word_here"] (yC n):=by
 refine F.Xw a_u ?_;rintro _ A _ _ _ _ _ _ J⟨L,w,t,v,ζ,I,O,hw,M,q⟩;let s:=J.Tj (j:=2*n) (!6);refine(_,(h_ (nq 2 a_u.nd QCl) (h_ (nq 3 a_u.nd (oh x s (oI QAF (ku ζ ms QFj (!4) T.reversed)))) (h_ (nq 4 a_u.nd QFu) (h_ (BD Se.Tc ζ (E8 ζ T.Re (l_ QHk)) (Bp 5 a_u.nd) (h_ (nq 6 a_u.nd (b')) (h_ (BD Se.Tc ζ (Jo ζ T.Re (oI QB4 QHk)) (Bp 7 a_u.nd) (hY (q_ (wm (o_ Go (o_ bO (As QAi (o_ nh QAT QEn)) (o_ nh QAT QB4)) b') b') (hY (nq 6 a_u.nd (o_ pe QEo (o_ bQ b' QEn)))) (so)))) (hY (AH (Cb QBd QEo)))))) (hY (mq QBd)))))),3);let hz:(tx w).β≤Φ:=n0 (by rw[hF];show Fs M);let Y:(((tx w).β:χ):Λ)=(w.β:Λ):=by rw[hF]
 refine(4,hz,6,w,1,Fs M,L,w.Rt,t,v,1,I,O,cG.Sz hw,by rw[Sh];show M,λa X H Q=>?_);refine(RO _,λD C=>(0,2,0,Dv,IT Y M,3));refine E9 (n:=((((tx w).β:χ):Λ)+1).Ru) (λi m H'=>E3 λr p e=>A3 (m=[δ v,δ QBq,δ (.QG (((tx w).β:χ):Λ)),δ QAd,δ QBI,r,p,e]) (a' X H') (H' D<*.QV (b_ ((AK (m3 QFk) w).R0 i)))) (ε,ε,ε,1,a'.QO C,hJ) ?_ ?_
 .rintro i m y B⟨r,p,e,ζ,g,b⟩;let B:i≤w.β:=by lia
  let u:=k9.of (K:=K) (g _ _ Q);refine(4,2,9,(Jb,!6,Dv,IT Y M),3);refine E9 (n:=((((tx w).β:χ):Λ)+1-QEF).Ru) (λk d H'=>∃o,d=[δ v,δ QBq,δ (.QG (((tx w).β:χ):Λ)),δ QAd,δ QBI,δ (.QG QEF),δ (.QG (qp QFk w i (i+k):χ)),o]/\H'=y) (e,by rw[χ.add_zero,PL];rfl,1) ?_ ?_
  .rintro k d W Z⟨o,ζ,ζ⟩;let N:i+k≤w.β:=by lia
   let l:=sL (A:=af L t) (w:=w) (i:=i) (j:=i+k) Dy N;let U:(((tx w).β:χ):Λ)-(0+(i:Λ)+(k:Λ))=((w.β-(i+k):χ):Λ):=by lia
   let E:(((tx w).β:χ):Λ)-QEF=((w.β-i:χ):Λ):=by lia
   refine(4,0,2,a,_,2,u,GG U (by rw[Sh];lia),4,2,2,!6,2,1,0,ay QDT QDT)
   .rw [IO ((Hv E).mp h)]at l;refine(4,2,(Iy,!6,!0),2,δ (.QG (0+(i:Λ)+(k:Λ))),3,1);let S:(1:Λ)*2^(0+(i:Λ)+(k:Λ)).Ru=((2^(i+k):χ):Λ):=by
     rw[show(0+(i:Λ)+(k:Λ)).Ru=i+k by lia,Λ.one_mul,Λ.YI];rfl
    rw[S,nV,<-l];rfl
   .rw [Cl (λz=>h ((Hv E).Sz z))]at l;show(_,by rw[<-l];rfl,1)
  .rintro d W⟨o,ζ,ζ⟩;refine(0,.RN (1,_,k9.of b),0,D,2,b,FM (by rw[c_,Sn];lia),8,0,a'.Uw g C,3);rw[hJ,BI (Hu B),show i+((((tx w).β:χ):Λ)+1-QEF).Ru=w.β+1 by lia,wE];unfold b_;rw[RU];rfl
 .rintro m y⟨r,p,e,ζ,g,b⟩;rw[RT (by rw[Dt];lia)]at b;show(0,q D y (H.ο g) b)
def d_n:p_ ["_law_shape_here","_law_word_here","_law_ones","_law_twos"] ["_law_shape_here","_law_word_here"] (hI Na):=r_
def f8(F:pd K "_law_spans" "_law_spans" Na f fd)QAC(F2:pd K "_law_from_behind" "_law_from_behind" KZ f2 fd2)(m2:mg "_law_from_behind"<*.ξ f2)(b2:yx K fd2 ["_law_shape_here","_law_word_here"] [])(ap:Df P w K mg υ "_law_leaf" 1 ["_law_shape_here","_law_word_here"] sp_leaf72)(an:Df P w K mg υ "_law_behind" 1 ["_law_ones","_law_twos"] sp_behind72)(ar:Df P w K mg υ "_law_pieces" 1 ["_law_ones"] sp_pieces72)(hm:mg "_law_spans"<*.ξ f)(ab:yx K fd ["_law_shape_here","_law_word_here"] []):∀n,aa P w K mg υ lb (2*n) f fd ["_law_shape_here","_law_word_here"] (Ie n):=by
 let TL:∀n vs H Q E,Ie n vs H Q E->vs.β=["_law_shape_here","_law_word_here"].β:=λn vs H Q E h=>by
  let⟨L,w,t,v,ζ,_⟩:=h;rfl
 intro n;induction n with
 |Xe=>show(TL 0,λ_ _ _ _ _ _ vs Q E _ _ _ _ h=>by let⟨L,w,t,v,_,_,W,_⟩:=h;have:=t.YQ;lia)
 |Wu n ih=>
  let M:Df P w K mg υ "_law_spans" (2*n) ["_law_shape_here","_law_word_here"] (Ie n):=(f,fd,hm,F.kp,ab,ih);let ag:Df P w K mg υ "_law_from_behind" (2*n+1) ["_law_shape_here","_law_word_here"] (yC n):=(f2,fd2,m2,F2.kp,b2,Qm F2 T n M);refine F.ok d_n (TL _) QBg;let⟨L,w,t,v,ζ,N,W,hw,o,q⟩:=h;let B:ak (2*n+1) _:=hr;let I:=B.Tj (j:=1) (!6);let U:=B.Tj (j:=2*n) (!6);refine(_,(h_ (q_ ((AQ (wm QB3 b') (Fx QDd)).pt) (hY (mq (oh ap I QCG))) (so)) (h_ (q_ QDd (hY (mq (oh ag B (oI QBL QAJ)))) (so)) (h_ (nq 2 d_n.nd (oh M U (oI QBL QAJ))) (h_ (q_ QDd (hY (mq (oh ar I QFi))) (so)) (h_ (q_ QDd (hY (mq (CV ["_law_shape_here","_law_word_here","_law_ones","_law_twos"] ζ (!0) (E8 ζ T.Re (l_ QI5)) (λcl C fp s' H'=>(Bl,o_ nh (o_ nh (o_ bQ b' (CF (sd K) (!4) T.TL XW (l_ QAi))) (o_ bQ b' QAF)) (Af QI4 QAi QAF QAQ)))))) (so)) (h_ (nq 3 d_n.nd (oh M U (oI QBL QAJ))) (h_ (q_ QDd (hY (mq (oh an I QC5))) (so)) (h_ (q_ QDd (hY (mq (JR ["_law_shape_here","_law_word_here","_law_ones","_law_twos"] ζ (!0) QKj (λcl C fp s' H'=>o_ pe QAF QAJ)))) (so)) (h_ (q_ QDd (hY (mq (JR ["_law_shape_here","_law_word_here","_law_ones","_law_twos"] ζ (!0) QKj (λcl C fp s' H'=>o_ Go QAF QAJ)))) (so)) (hY (mq (JR ["_law_shape_here","_law_word_here","_law_ones","_law_twos"] ζ (!0) QKj (λcl C fp s' H'=>o_ nh QAF (o_ Go QAF QAJ)))))))))))))),3);let done:∀{t':Pt}QHA{X:Hp},X a<*.QV (b_ QKk)->k9 K X a (b_ QKk)/\(b_ QKk).β=w.β+1:=λh=>(k9.of h,by rw[c_,Dt]);cases t with
  |S0 k=>
   let⟨p,ζ,hp⟩:=id N;show(0,p,0,.Rh QED,1,0,al ζ (aG (4,L,w,9,N,.RN (k,1),hw,G4 o,q)))
  |Up c=>
   let⟨p,ζ,hp⟩:=id N;show(0,p,0,.Rh QED,1,0,ac (by change ¬ V.QG 2=V.QG 1;decide) (n_ hp ai (1,0,al ζ (4,L,w,9,N,.Rh (c,1),hw,G4 o,q))))
  |UX k x=>
   let⟨p,u,ζ,hp,S⟩:=N;let W:x.Xk+1≤n+1:=W;refine(0,p,0,.Rh QED,1,0,ac (by change ¬ V.QG 2=V.QG 1;decide) (n_ hp ai (1,0,ac (by cases k<;>decide +kernel) ?_)));cases k with
   |Sr=>show(n_ hp ai (1,0,al (!3) (n_ hp aF (0,L,w,x,u,1,S,!6,hw,o,q))))
   |again=>
    refine QDQ;let e:=m _ _ hp;show(n_ e ai (1,0,al (!3) (0,af L x,w,a,1,J,o,λb H2 s2 O=>q b H2 (m.ο s2) O)))
   |Tf=>
    refine QDQ;let e:=m _ _ hp;refine(n_ e ai (1,0,ac (!3) (n_ e ai (1,0,al (!3) ?_))));let ln:(b_ (AK (af L x) w)).β=w.β+1:=by rw[c_,Dt]
    refine JA (n:=w.β+1) (λR h=>(0,a,0,.RN (k9.of J),by rw[ln];show h)) (IV o) (λD j ys H'=>ys=(b_ (AK (af L (.UX .Tf x)) w)).R0 j) QKN ?_ ?_
    .rintro D j ys H' R1 R2 hD Y g z ζ k1 k2;let Y:j≤w.β:=GL Y
     let ej:(0:Λ)+(j:Λ)=j:=Λ.Tq _;refine hG (0,a,0,.RN (k9.of (g _ _ J)),2,(FZ,!6,!0),0,2,(Ej,!6,!0),2,4,Ak (g _ _ J) (GG ej Y) (2,k1 _ H' z (a'.Uw g hD) (BI ?_).QI));unfold b_;rw[na,Hu Y];change δ (V.QG (XQ (ul L (af L x)) w j:χ))=_;rw[<-wK hw Y];unfold b_ at ln;rw[ln,ej,Tn,Tn,Λ.one_mul,Λ.one_mul]
    .rintro D ys H' hD g z ζ;rw[RT (by rw[c_,Dt];show QA _)]at z;show q D H' (m.ο g) z
  |WD k x y=>
   let⟨p,u,u2,ζ,hp,S,hy⟩:=N;let W:max x.Xk y.Xk+1≤n+1:=W;refine(0,p,0,.Rh QED,1,0,ac (by change ¬ V.QG 3=V.QG 1;decide) (n_ hp ai (1,0,ac (by cases k<;>decide +kernel) ?_)));refine(n_ hp ai (1,0,ac (by cases k<;>decide +kernel) (n_ hp aF (0,L,w,x,u,1,S,Ip W,hw,o,λa X m J=>?_))));let e:=m _ _ hp;refine(n_ e ai (1,0,ac (by cases k<;>decide +kernel) (n_ e ai (1,0,ac (by cases k<;>decide +kernel) (n_ e cc (0,L,w,y,u2,1,hy.kp (a'.kp m),GN W,hw,o,λb H2 s2 O=>?_))))));let d:=s2 _ _ e;let r:=s2 _ _ J;let l:=m.ο s2;cases k with
   |Vm=>show(n_ d ai (1,0,al (!3) (4,af L x,af L y,w,a,b,1,r,O,G4 o,λb Z s3 h3=>q b Z (l.ο s3) h3)))
   |VT=>show(n_ d ai (1,0,ac (!3) (n_ d ai (1,0,al (!3) (bY (λR h=>(4,h)) r O o (λi Z R1 hi h=>(4,2,by rw[vR,zo];show h)) l q)))))
   |Zo=>show(n_ d ai (1,0,ac (!3) (n_ d ai (1,0,ac (!3) (n_ d ai (1,0,al (!3) (bY (λR h=>(4,h)) r O o (λi Z R1 hi h=>(4,2,by rw[p8,wO];show h)) l q)))))))
   |Zd=>
    refine(n_ d ai (1,0,ac (!3) (n_ d ai (1,0,ac (!3) (n_ d ai (1,0,ac (!3) ?_))))));dsimp only[V4,ix];show bY (λR h=>(4,h)) r O o (λi Z R1 hi h=>(4,0,2,2,by rw[p8,sX];show h)) l q
def kf:p_ ["_law_shape_here","_law_word_here"] ["_law_shape_here","_law_word_here"] (hI Nb):=r_
def kI(F:pd K "_law_has" "_law_has" Nb f l)QAC(b:Df P w K mg υ "_law_spans" 24 ["_law_shape_here","_law_word_here"] (Ie 12)):aa P w K mg υ lb 25 f l ["_law_shape_here","_law_word_here"] (j4 12):=by
 refine F.Xw kf ?_;rintro _ _ _ _ _ _ _ _ g⟨L,w,t,v,ζ,e,j,hw,h,q⟩;refine(_,(hY (mq (C8 gK (o_ Go (o_ bO (As (oh b g QCG) b') QCl) b') b' QCA))),3);let hz:(tx w).β≤Φ:=n0 (by rw[hF];show Fs h);refine(4,L,w,t,v,1,e,j,hw,h,λa m d k=>?_);show(Ak k QI7 (4,hz,2,FZ,2,1,q _ m d (by rw[S3];show(Hv (by rw[hF])).ο wM)))
def iI:p_ ["_law_letters_here","_law_cells"] ["_law_letters_here","_law_cells"] (hI Nc):=r_
def je(F:pd K "_law_word" "_law_word" Nc f s)QAC:aa P w K mg υ lb 1 f s ["_law_letters_here","_law_cells"] (oU K):=by
 refine F.Xw iI ?_;rintro _ _ _ _ _ _ _ _ _⟨L,a,ns,ζ,l,o,t,q⟩;refine(_,(hY (mq (b7 Xu Ξ.F.slot_str_join Ξ.F.type_str_join xE (ms) (l_ (CV ["_law_letters_here","_law_cells"] ζ (!0) (iQ QAJ) (λy C u s' H'=>(Bl,Af eD QAJ (o_ dL QAF QCl) QAQ))))))),3);let hz:(tx L).β≤Φ:=n0 (by rw[hF];have:=l.hi;show Fu this);let g:(0:Λ)<((tx L).β:Λ):=by rw[hF];have:=l.lo;show GX this
 refine(1,oy (tq L) ζ o (by rw[j'];show n0 (Ga t)) (λi x H' R b h p=>?_) (λD r=>?_))
 .obtain ⟨z,ζ⟩:∃z,x=V.QG z:=by
   rw[na]at b;cases e:ns[i]? with
   |ε=>rw[e]at b;cases b
   |δ z=>rw[e]at b;show(z,(ψ.δ.Tp b).QI)
  let k:=Λ.YO z (show((tx L).β:Λ)≠0 from F4 g);let j:=Λ.X4 z g;let⟨v,m,d⟩:=jA (xs:=(tx L).Vu.Qx) k (by rw[Ci,<-hF];show j);rw[Ci]at d;refine(4,4,hz,2,g,_,2,hz,m,3);let e:tq L (V.QG z)=.QZ ⟨#[v]⟩:=by
   change V.QZ ⟨#[bH L z]⟩=_;rw[gF L z,<-hF,d];rfl
  rw[<-e];show p
 .refine (_,D,(ns.Q_ (bH L)).Q_ λc=>(⟨#[c]⟩:QF),5,k9.of ?_,3,3)
  .rw [hJ];simp[γ.map_map,Function.comp_def,tq]
  .exact gZ _ (by rw[j'];show Ga t)
  .rw [ic,em];show q _ _ (!1) (λc n=>tj l n) (a'.QO r)
def Qn:p_ ["_law_found","_law_letters_here"] ["_law_found","_law_letters_here"] (hI Nd):=r_
def Qo(F:pd K "_law_is_word" "_law_is_word" Nd f j)QAC:aa P w K mg υ lb 1 f j ["_law_found","_law_letters_here"] sp_isword:=by
 refine F.Xw Qn ?_;rintro _ _ _ _ _ _ _ _ _⟨L,w,ζ,hw,k,q⟩;refine(_,(hY (mq (Gn (CF (Lu (T:="str") (b:=π)) (!4) T.isinst boot_isinstance (oI (pv 0) (iV (v:=.ty "str") (!4) T.QZ Su.WZ.boot_str ζ)))
  (Fy (C8 gK (BK T.TL (CV ["_law_found","_law_letters_here"] ζ (!0) (dE (pv 0)) (λm C l s' H'=>(iL (AF Ny (pv 0) (pv 2) (by with_unfolding_all rfl)),pv 0)))) b' (Az _)))))),3)
 refine(0,9,aZ.QZ _,by with_unfolding_all rfl,0,aG ?_);dsimp only[Em,Br,AA];refine lL (x:=tx w) (λc=>!decide (c∈L)) (!4) (n0 (by rw[hF];show G6 k)) (λi c H' R a g=>?_) (λD h=>?_)
 .refine (4,2,0,3);let e:=NF L c;unfold U7.Qz at e;rw[e];show g
 .refine (D,0,.RN (k9.of hJ),1,3);let e:((tx w).Vu.Qx.VF λc=>!decide (c∈L))=[]:=by
   rw[Ci,γ.filter_eq_nil_iff];intro c a;simp[hw c a]
  let d:decide (V.QG (((((tx w).Vu.Qx.VF λc=>!decide (c∈L)).Q_ λc=>V.QZ ⟨#[c]⟩).β:χ):Λ)=V.QG 0)=π:=by
   rw[e];rfl
  rw[d];show q _ (a'.QO h)
def c_w:p_ ["_law_letters_here","_law_one","_law_two","_law_left","_law_right"] ["_law_letters_here","_law_one","_law_two"] (hI Nf):=r_
def Qp(F:pd K "_law_earlier" "_law_earlier" Nf f O)QAC:aa P w K mg υ lb 1 f O ["_law_letters_here","_law_one","_law_two"] sp__law_earlier:=by
 refine F.Xw c_w ?_;rintro _ _ _ _ H _ _ _ _⟨L,a,b,ζ,Q,N,M,J,I,q⟩;refine(_,(h_ (q_ (HX QCl (CZ T.TL QAT)) (hY (mq (C8 Be QCl (CZ T.TL QAT) QCA))) (so)) (h_ (BD Se.Tc ζ (Hg ζ T.X6 QER) (dF ζ (EZ (Bp 3 c_w.nd) (EZ (Bp 4 c_w.nd) Jn))) (hY (q_ (HX QAi QBd) (hY (mq (C8 Be (b7 Xu Ξ.F.slot_str_find Ξ.F.type_str_find pk QAF (l_ QAi)) (b7 Xu Ξ.F.slot_str_find Ξ.F.type_str_find pk QAF (l_ QBd)) QCA))) (so)))) QC6)),3);let l:(tx a).β≤Φ:=n0 (by rw[hF];show G6 J);let k:(tx b).β≤Φ:=n0 (by rw[hF];show G6 I);refine(4,l,4,k,1,0,3);by_cases g:a.β=b.β
 .refine Et (by rw[hF,hF,g]) ?_;refine(4,(.tx (tx a) 0,.tx (tx b) 0,2,1,λ_ _=>lg (xs:=(tx a).Vu.Qx.Q_ λc=>V.QZ ⟨#[c]⟩) (ys:=(tx b).Vu.Qx.Q_ λc=>V.QZ ⟨#[c]⟩) (by rw[j',j',Ci,Ci];show g) (λi o H'=>E2 λr s2=>A3 (o=[δ QAb,δ (.QZ (tx a)),δ (.QZ (tx b)),r,s2]) QFF (am L a b=am L (a.Th i) (b.Th i))) (ε,ε,1,a'.X9 H,1) (λ_ _ _ _=>(1,1)) ?_ ?_))
  .rintro i x y p o E B A hp⟨r,s2,ζ,d,hlex⟩;rw[na,Ci]at B A;let⟨c,D,ζ⟩:=AE B;let⟨e,C,ζ⟩:=AE A;let u:c∈L:=N c (Ab D);let t:e∈L:=M e (Ab C);let m:a' H (QO E p (.Rn [.QZ ⟨#[c]⟩,.QZ ⟨#[e]⟩])):=d.ο QDG;rw[xL L D C]at hlex;refine(p,0,q5.of hJ,1,9,2,3);refine(4,1,0,3);by_cases h:c=e
   .subst h;rw[IO ζ]at hlex;show Et ζ (9,m,hlex)
   .rw [Cl h]at hlex;rw[QJ (λz=>h (by have:=Qw (λv:V=>match v with|.QZ x=>x.Vu.Qx|_=>[]) z;simpa using this))];refine aG ?_;refine(6,2,3);rw[lq u];refine(6,2,3);rw[lq t];refine(2,3);let n:u6 L a b=decide (((L.QP c:χ):Λ)<((L.QP e:χ):Λ)):=by
     unfold u6;rw[Cl QIW,hlex];simp
    let j:=q _ m;rw[n]at j;show j
  .rintro o E⟨r,s2,ζ,d,hlex⟩;let n:u6 L a b=ν:=by
    unfold u6;rw[Cl QIW,hlex,j',Ci,γ.drop_length];rfl
   have:=q _ d;rw[n]at this;show this
 .let s:¬ V.QG (((tx a).β:χ):Λ)=V.QG (((tx b).β:χ):Λ):=λz=>g (by
   have:=Qw (λv:V=>match v with|.QG x=>x|_=>0) z;rw[hF,hF]at this;let h2:((a.β:χ):Λ)=((b.β:χ):Λ):=this;lia)
  rw[QJ s];refine aG (4,l,4,k,2,3);let n:u6 L a b=decide ((((tx a).β:χ):Λ)<(((tx b).β:χ):Λ)):=by
   unfold u6;rw[IO g,hF,hF];simp
  let j:=q _ QIx;rw[n]at j;show j
def ke:p_ ["value"] ["value"] (hI Ng):=r_
def kG(F:pd K "is_whole" "is_whole" Ng f a)QAC:aa P w K mg υ lb 1 f a ["value"] sp_is_whole:=by
 refine F.Xw ke ?_;rintro _ _ _ _ _ _ _ _ _⟨i,ζ,q⟩;refine(_,(hY (mq (Gn (CF (Lu (T:="int") (b:=π)) (!4) T.isinst boot_isinstance (oI (pv 0) (iV (v:=.ty "int") (!4) T.QG Su.WZ.boot_int ζ)))
  (Fy (A2 (CF (Lu (T:="bool") (b:=ν)) (!4) T.isinst boot_isinstance (oI (pv 0) (iV (v:=.ty "bool") (!4) T.UV Su.WZ.boot_bool ζ)))))))),3)
 show(0,9,aZ.QG _,zR K,0,aG (0,9,aZ.QG _,zS K,0,q))
def mV:p_ ["number","many"] ["number","many"] (hI Nh):=r_
def ny(F:pd K "is_room" "is_room" Nh f e)QAC(a:Df P w K mg υ "is_whole" 1 ["value"] sp_is_whole):aa P w K mg υ lb 2 f e ["number","many"] sp_isroom:=by
 refine F.Xw mV ?_;rintro _ _ _ _ H _ Q _ b⟨i,n,ζ,d,h1,q⟩;refine(_,(hY (mq (Gn (oh a b QCw) (Fy (ue ky Be b' QAF QAJ))))),3);refine(0,i,1,0,aG (0,2,0,al d (0,2,3)));change Q (.bl (decide (i<n))) H;rw[RI h1];show q
def iF:p_ [Q0,"number"] [Q0,"number"] (hI Ni):=r_
def jb(F:pd K "need_room" "need_room" Ni f j)QAC(a:Df P w K mg υ "is_room" 2 ["number","many"] sp_isroom):aa P w K mg υ lb 3 f j [Q0,"number"] sp_needroom:=by
 refine F.Xw iF ?_;rintro _ _ _ _ _ _ _ _ g⟨m,L,W,B,r,ζ,i,h,e,q⟩;let⟨d,mk,b,h1,h2,n,l,k⟩:=i;refine(_,(hY (q_ (G8 (Fv (oh a g (oI QAJ (BK T.TL QBL))))) (hY (Jl)) (so))),3);show(0,n_ h1 aF (d,0,.Rh (q5.of h2),(r:Λ),0,FZ,by rw[j'];lia,0,aE q))
def f_Q:p_ [Q0,"one","two",Z1,"rounds"] [Q0,"one","two"] (hI Nj):=r_
def nu(F:pd K "parting" "parting" Nj f R)QAC(l:Df P w K mg υ "need_room" 3 [Q0,"number"] sp_needroom)(I:Df P w K mg υ "rounds_of" 2 [Z1,Z2,"most"] sp_roundsG)(H:Df P w K mg υ "parting_word" 1 [Q3,Z1,"rounds","one","two"] sp_pw72):aa P w K mg υ lb 4 f R [Q0,"one","two"] sp_part72:=by
 refine F.Xw f_Q ?_;rintro _ _ _ s _ _ _ _ t⟨m,L,W,B,r,s,ζ,D,a,i,h,q⟩;let⟨v,mk,b,h1,h2,Q,E,J⟩:=id D;let y:=t.Tj (j:=1) (!0);let x:=t.Tj (j:=2) (!0);refine(_,(h_ (AH (oh l t QCG)) (h_ (AH (oh l t (oI QAF QAT))) (h_ (nq 3 f_Q.nd QBL) (h_ (nq 4 f_Q.nd (oh I x (Aa QAi QBL (BK T.TL QAi)))) (hY (mq (oh H y (AN QBL (AN QAi (Aa QBd QAJ QAT)))))))))),3);refine(4,m,L,W,B,r,1,D,a,i,3);refine(4,m,L,W,B,s,1,D,a,h,3);refine(n_ h1 aF ?_);refine(0,n_ h1 cc (0,v,0,.Rh (q5.of h2),v,mk,b,8,L,W,B,W.β,by rw[j',E];rfl,.Rh ζ,h2,.Rh ζ,Q,E,tX J,a,λp g k U n hp A d Vw N=>?_));refine(n_ (n _ _ h1) ai (4,4,v,p,b,g,π,L,W,B,k,r,s,1,n _ _ h2,(Ew.SO J n).u E,a,hp,A,d,λ_=>?_,N,i,h,λo S s2 z=>q o S (n.ο s2) z));rcases Vw with e|⟨M,C,O⟩
 .exact e
 .exact QL (ca a C) (!6)
def sc_apart:p_ [Q0,"second","shift","moved"] [Q0,"second"] (hI iK):=r_
def uy(F:pd K "apart" "apart" iK f fd)QAC(aM:Df P w K mg υ "need_same_letters" 1 [Q0,"second"] YV)(aH:Df P w K mg υ "parting" 4 [Q0,"one","two"] sp_part72):aa P w K mg υ lb 5 f fd [Q0,"second"] sp_apart72:=by
 refine F.Xw sc_apart ?_;rintro _ _ _ _ _ _ _ _ hr⟨m,m2,L,W,B,W2,B2,ζ,hM,l,hN,k,aC,ab,q⟩;let az:=hr.Tj (j:=1) (!0);refine(_,(h_ (AH (oh aM az QCG)) (h_ (nq 2 sc_apart.nd (BK T.TL QBL)) (h_ (JQ [Q0,"second","shift","moved"] (j:=3) ζ sc_apart.nd (!0) ζ QBu (CH QIw) (λcl C fp s' H'=>(Bl,Da (LC K) (!4) T.Uu VV (l_ (CV ["row",Q0,"second","shift","moved"] ζ (show R7 (["goal","row",Q0,"second","shift","moved"]:γ QF) by decide) (CH QAF) (λcl C fp s' H'=>(Bl,o_ dM QAF QBd))))))) (hY (mq (oh aH hr (Aa (Am (Aa QBL (o_ pf QBL QKi) (o_ pf QBL QIw))) (b') QAT))))))),3);let⟨wy,mk,n,h1,h2,h3,J,h5⟩:=id hM;let⟨ag,ap,an,g1,g2,g3,g4,g5⟩:=id hN;refine(4,m,m2,L,W,B,W2,B2,1,hM,hN,3);refine(n_ h1 aF (wy,0,.Rh (q5.of h2),3));rw[j',J];let aB:=l.lt.hi;dsimp only[AY];dsimp only[V4,aO,aJ,BE,AA,BF,Br];refine D_ (a:=ag) (λR h=>(n_ g1 aF h)) QKr g2 (λD j ys H'=>∃ps:γ θ,A3 (ys=ps.Q_ V.ξ) (ps.β=j) (∀QBB(t:θ),ps[i]?<*t->∃ws,(Cf W.β W2)[i]?=δ ws/\H' t<*.Rn QHv)) (by rw[j',g4];show n0 (QB ab (!0))) (λD hD=>([],5,λi t e=>by simp at e)) ?_ ?_
 .intro D j x ys H' R1 R2 hD hx S v E k1 k2;let⟨ps,ζ,d,H⟩:=E;rw[na]at hx;let⟨ra,as,ζ⟩:=AE hx;let⟨ws,O,X⟩:=g5 j ra as;let U:=S _ _ X;let⟨ar,aN⟩:=k.Yc ws (Ab O);refine hG ?_;dsimp only[V4,aO,aJ,BE,AA,BF,Br];refine D_ (a:=ra) QB5 QKr U (λD2 i A H4=>A=(b_ (ws.Q_ (·+W.β))).R0 i) (by rw[c_,ar];show n0 (QB aB (!0))) (λD2 I=>!1) ?_ ?_
  .intro D2 i y2 A H4 R3 R4 I hy2 X1 s g k3 k4;let y:i<ws.β:=by have:=(l' hy2).1;rwa [c_]at this
   rw[B7 y]at hy2;cases hy2;refine hG (4,2,k3 _ H4 s (a'.Uw X1 I) ?_);rw[g];refine(BI ?_).QI;rw[B7 (by rw[j'];show y),KB y];rfl
  .intro D2 A H4 I X1 s g;rw[c_,RT (by rw[c_,j'];show QA _)]at g;subst g;refine(D2,0,.RN (k9.of s,λb hb=>?_));let s5:=X1.ο (a'.QO (o:=.Rn (b_ (ws.Q_ (·+W.β)))) hb);refine k1 QEB _ (s5 _ _ v) (a'.Uw (S.ο s5) hD) (ps++[b],by rw[RU];rfl,by rw[q4,d];rfl,λi u e=>?_);let Z:=s5 _ _ v;rcases EI e with z|⟨rfl,ζ⟩
   .obtain ⟨w1,M,a2⟩:=H i u z;show(w1,M,no (s5 _ _ a2) Z (!5))
   .rw [d];refine(ws.Q_ (·+W.β),3,no hJ Z (!5));rw[Cf,na,O];rfl
 intro D ys H2 hD p v E;let⟨ps,ζ,d,H⟩:=E;rw[j',g4]at d;let aS:=l.n1;let aT:=k.n1;refine(n_ (p _ _ h1) ai ?_);refine(n_ (p _ _ h1) aF (0,D,0,.RN (k9.of v,λtw Q=>?_)));let u1:=p.ο (a'.QO (o:=.Rn (ps.Q_ V.ξ)) Q);refine(wy,tw,2,q5.of (u1 _ _ h2),q5.of hJ,3,3,3,λ_ p1 Y=>?_)
 .intro z;have:=Qw γ.β z;rw[j',J]at this;rw[WF]at this;show Gh this aS
 .rw [j',j',J,d];show n0 (Ja ab aC)
 .intro z;have:=Qw γ.β z;rw[j',d]at this;rw[WF]at this;lia
 let N:=u1.ο (a'.QO (o:=.Rn (n.Q_ V.ξ++ps.Q_ V.ξ)) Y);refine(n_ (N _ _ h1) cc (n_ (N _ _ g1) cc (mk,ap,2,q5.of (N _ _ h3),q5.of (N _ _ g3),3,3,3,λ_ p2 g=>?_)))
 .intro z;have:=Qw γ.β z;rw[j',l.bl]at this;rw[WF]at this;show Gh this aS
 .rw [j',j',l.bl,k.bl];show n0 (Ja ab aC)
 .intro z;have:=Qw γ.β z;rw[j',k.bl]at this;rw[WF]at this;lia
 let u3:=N.ο (a'.QO (o:=.Rn (B.Q_ V.bl++B2.Q_ V.bl)) g);refine(n0 (by change 3≤16777216;decide),λf hf=>?_);let u4:=u3.ο (a'.QO (o:=.Rn [.QZ QB',.ξ p1,.ξ p2]) hf);let hl:(W++Cf W.β W2).β=W.β+W2.β:=by rw[q4,J7]
 refine(0,f,L,W++Cf W.β W2,B++B2,(0),W.β,1,3,jV l k (I_ ab aC),by rw[hl];show IG aT,by rw[hl];show IS aT,λo H3 s3 aA=>q o H3 (u4.ο s3) (vW l k aC ab aA));refine(p1,p2,n++ps,hJ,3,3,3,λi r e=>?_)
 .rw [RU];show vr (vr hJ g) hf
 .rw [RU];show vr hJ hf
 .rw [hl,q4,J,d]
 .by_cases y:i<n.β
  .rw [QK y]at e;let⟨ws,M,a2⟩:=h5 i r e;show(ws,by rw[QK (by rw[<-J];show y)];show M,u4 _ _ a2)
  .rw [QM (SQ y)]at e;let⟨ws,M,a2⟩:=H _ r e;rw[J]at M;show(ws,by rw[QM (by rw[<-J];show SQ y)];show M,(((a'.QO Q).ο (a'.QO Y)).ο ((a'.QO g).ο (a'.QO hf))) _ _ a2)
def dg:p_ ["_law_shape_here","_law_cells","_law_letters_here","_law_kind"] ["_law_shape_here","_law_cells","_law_letters_here","_law_kind"] (hI Nk):=r_
def dP(F:pd K "_law_second" "_law_second" Nk f y)QAC(m:Df P w K mg υ "_law_shape" 2 ["_law_cells","_law_letters_here"] (Nn K)):aa P w K mg υ lb 3 f y ["_law_shape_here","_law_cells","_law_letters_here","_law_kind"] (N8 K):=by
 refine F.Xw dg ?_;rintro _ _ _ _ H _ _ _ p⟨a,ns,L,t,v,z,ζ,x,s,r,l,j,J,hz,I,q⟩;refine(_,(h_ QD4 (h_ QD4 (h_ (q_ (wm QAi b') (hY (mq (Am (Aa ms QAF QAF)))) (so)) (hY (mq (oh m p QER)))))),3);let l2:2≤Φ:=n0 (by change 2≤16777216;decide);let l3:3≤Φ:=n0 (by change 3≤16777216;decide);let UX:∀(k:K1)(b:θ),H b=ε->∀i,QJK i=ε->aj (L2.QO QJK i (.Rn [.QZ (Ee k),.ξ b])) (.UX k (.UX k t)) (.ξ i):=λk b g i d=>
  (i,0,hJ,b,v,1,vr hJ d,l.kp (a'.kp QF'))
 refine(6,ay (λe=>?_) (λC=>?_))
 .refine (0,l2,λb g=>(l2,λi d=>q _ (.UX .Tf (.UX .Tf t)) _ QF' (UX .Tf b g i d) j (by change t.Xk+1+1≤11;show G2 J) (by change t.sz+1+1≤35;show G3 hz) λ_=>?_));show bx λu=>(λz=>Z8.WC λn=>z.2 (z.1,n),λz=>(FV t u z,λn=>n.2 z))
 refine(6,ay (λe=>?_) (λB=>?_))
 .refine (0,l2,λb g=>(l2,λi d=>q _ (.UX .Sr (.UX .Sr t)) _ QF' (UX .Sr b g i d) j (by change t.Xk+1+1≤11;show G2 J) (by change t.sz+1+1≤35;show G3 hz) λ_=>?_));show bx λu=>by change af L t u.Rt.Rt↔_;rw[γ.reverse_reverse]
 refine(6,ay (λe=>?_) (λA=>?_))
 .refine (4,l3,λb g=>q _ (.WD .VT t t) _ (a'.QO g) (b,v,v,1,hJ,l.kp (a'.kp (a'.QO g)),l.kp (a'.kp (a'.QO g))) (j,j) (by change max t.Xk t.Xk+1≤11;lia) (by change t.sz+t.sz+1≤35;lia) λ_=>?_);show bx λu=>(λz=>z.SJ id id,.RN)
 .let E:¬ z=0:=λh=>C (Qw V.QG h);let n1:¬ z=1:=λh=>B (Qw V.QG h);let D:¬ z=2:=λh=>A (Qw V.QG h);show(4,a,ns,L,1,x,s,r,λo t' H' s' h1 h2 N M=>q o t' H' s' h1 h2 (Je N) (Jg M) λh=>!6)
def a_Z:p_ ["_law_letters_here","_law_found","_law_one","_law_two","_law_word_here","_law_ones","_law_twos","_law_size"] ["_law_letters_here","_law_found","_law_one","_law_two","_law_word_here"] (hI Nl):=r_
def Qq(F:pd K "_law_none_before" "_law_none_before" Nl f fd)QAC(g:Df P w K mg υ "_law_spans" 24 ["_law_shape_here","_law_word_here"] (Ie 12))(H:Df P w K mg υ "_law_earlier" 1 ["_law_letters_here","_law_one","_law_two"] sp__law_earlier):aa P w K mg υ lb 25 f fd ["_law_letters_here","_law_found","_law_one","_law_two","_law_word_here"] sp_none72:=by
 refine F.Xw a_Z ?_;rintro _ _ _ _ _ _ _ _ A⟨L,w,o,r,p,J,I,ζ,Y,x,u,D,C,hw,N,X,W,q⟩;let y:=A.Tj (j:=1) (!0);refine(_,(h_ (nq 5 a_Z.nd (As (oh g A (oI QAT QBd)) b')) (h_ (nq 6 a_Z.nd (As (oh g A (oI QAi QBd)) b')) (h_ (BD Se.Tc ζ (E8 ζ T.Re (l_ (o_ dM (CZ T.TL QBd) b'))) (Bp 7 a_Z.nd) (hY (q_ (HX (o_ Go (o_ bO QB4 QEn) b') (o_ Go (o_ bO QEo QEn) b')) (hY (mq (Gn (C8 Bq QAJ El QCA) (Fy (A2 (oh H y (Aa QAF (Eo mP QBd Gp (Dc QEn)) QAJ))))))) (so)))) QC6))),3);let hz:(tx w).β≤Φ:=n0 (by rw[hF];show Fs N);refine(4,L,w,r,J,1,x,D,hw,N,λa H1 M U=>(Ak U QI7 ?_));refine(4,L,w,p,I,1,u.kp (a'.kp M),C,hw,N,λb H2 s2 S=>(Ak S QI7 ?_));refine(4,hz,2,0,Dv,by rw[hF];lia,3);let d:=M.ο s2;refine E9 (n:=((((tx w).β:χ):Λ)+1).Ru) (λi l H'=>∃m,l=[δ QAb,δ (oV o),δ J,δ I,δ QBq,δ (.QG (XQ (af L r) w 0:χ)),δ (.QG (XQ (af L p) w 0:χ)),m]/\H'=H2) (ε,5) ?_ ?_
 .rintro i l H3 B⟨m,ζ,ζ⟩;let B:i≤w.β:=by rw[hF]at B;show Iw B
  let E:(0:Λ)+(i:Λ)=i:=Λ.Tq _;let k:∀t:Pt,(XQ QFk w 0).VB i=π↔af L t (w.R0 i):=λt=>by
   rw[ym,Py];show(λh=>h.2.2,λh=>(B,RO _,h))
  refine(4,2,Ej,2,4,2,Ej,2,1,0,3);by_cases e:af L r (w.R0 i)↔af L p (w.R0 i)
  .refine Et ((p7 E).Sz (by rw[k,k];show e)) (0,1)
  .refine pE (λz=>e (by rw[<-k,<-k];show(p7 E).mp z)) ?_;let s:Wd L (w.R0 i):=λc R=>hw c (γ.mem_of_mem_take R);cases o with
   |ε=>show QL (X ζ _ s) e
   |δ v=>
    let⟨h1,h2,Z⟩:=W v ζ;let O:U7.YF (tx w) ε (δ QEF)=tx (w.R0 i):=by rw[j5 _ Ej,Ci,E,Tn]
    show(0,1,π,1,aG (4,4,0,hz,0,L,w.R0 i,v,by rw[O];rfl,Y,s,h1,by rw[Sn];lia,F9 h2,λH4 Q=>(0,by rw[Z _ s e];show q H4 (d.ο Q))))
 .rintro l H3⟨m,ζ,ζ⟩;show q _ d
def e_F:p_ ["_law_script","_law_letters_here","_law_one","_law_kind","_law_two","_law_here","_law_there","_law_found"] ["_law_script"] (hI dl):=r_
def Hy(F:pd K "law" "law" dl f fd)QAC(aV:∀p∈ts,∃c,(c,p.1,)∈VJ)(bi:Df P w K mg υ "_law_letters" 1 ["_law_cell"] sp_letters)(aN:Df P w K mg υ "_law_cell_at" 1 ["_law_script","_law_k"] (oX K))(bm:Df P w K mg υ "_law_shape" 2 ["_law_cells","_law_letters_here"] (Nn K))(bg:Df P w K mg υ "_law_second" 3 ["_law_shape_here","_law_cells","_law_letters_here","_law_kind"] (N8 K))(aT:Df P w K mg υ "_law_piece" 12 ["_law_shape_here"] (Kg 12))(aM:Df P w K mg υ "_law_machine_of" 24 ["_law_letters_here","_law_text"] (j0 ts))(a9:Df P w K mg υ "apart" 5 [Q0,"second"] sp_apart72)(bf:Df P w K mg υ "_law_is_word" 1 ["_law_found","_law_letters_here"] sp_isword)(aS:Df P w K mg υ "_law_has" 25 ["_law_shape_here","_law_word_here"] (j4 12))(bd:Df P w K mg υ "_law_none_before" 25 ["_law_letters_here","_law_found","_law_one","_law_two","_law_word_here"] sp_none72)(bk:Df P w K mg υ "_law_word" 1 ["_law_letters_here","_law_cells"] (oU K)):aa P w K mg υ lb 26 f fd ["_law_script"] (iC K VJ):=by
 refine F.Xw e_F ?_;rintro _ _ _ _ H _ _ _ E⟨a,ns,ζ,hS,aB,a8,kq⟩;let A:=E.Tj (j:=1) (!0);let a2:=E.Tj (j:=2) (!0);let a1:=E.Tj (j:=3) (!0);let a0:=E.Tj (j:=5) (!0);let R:=E.Tj (j:=12) (!0);let Q:=E.Tj (j:=24) (!0);refine(_,(h_ (nq 1 e_F.nd (oh bi A (l_ (oh aN A (oI QAF (b')))))) (h_ (nq 2 e_F.nd (oh bm a2 (oI QFH QAJ))) (h_ (nq 3 e_F.nd (o_ Gr (oh aN A (oI QAF (b'))) b')) (h_ (nq 4 e_F.nd (oh bg a1 (AN QAT (Aa QFH QAJ QAi)))) (D7 (q_ (wm QAi b') (h_ (nq 4 e_F.nd (Am (oI ms (Am (oI ms QAT))))) (hY (nq 2 e_F.nd (Am (oI ms QAT))))) (so)) (D7 (nq 5 e_F.nd (oh aM Q (oI QAJ (oh aT R QFi)))) (D7 (nq 6 e_F.nd (oh aM Q (oI QAJ (oh aT R (l_ QBd))))) (h_ (q_ ((AQ (AF CQ QB4 El QCA) (Fx (AF CQ QEo El QCA))).pt) QC6 (so)) (h_ (nq 7 e_F.nd (oh a9 a0 (oI QB4 QEo))) (D7 (q_ ((AQ (HX (C8 (Hj E.S_) QB4 QEo QCA) (C8 CQ QEn El QCA)) (Fx ((Gm (AF Be QAi b' QCA) (HD (AF Bq QEn El QCA))).pt))).pt) QC6 (so)) (D7 (q_ (AF Bq QEn El QCA) (hY (q_ ((AQ (G8 (Fv (oh bf A (oI QEn QAJ)))) (Fx (wm (oh aS E (oI QAT QEn)) (oh aS E (oI QBd QEn))))).pt) QC6 (so))) (so)) (hY (mq (oh bd E (AN QAJ (AN QEn (Aa QAT QBd (oh bk A (oI QAJ QFH))))))))))))))))))),3);let hT:cj ts H:=λp hp=>by
  let⟨c,hc⟩:=aV p hp;show(#[],a8 (c,p.1,) hc,jO,λq _=>.RN ζ)
 let l2:2≤Φ:=n0 (by change 2≤16777216;decide);let sl:∀QIG{p:θ}{lo hi:Λ},k9 K (L2.QO H' p (.QV (Ad QBU (δ lo) (δ hi)))) p ((gj ns (δ lo) (δ hi)).Q_ V.QG):=λ{H' p lo hi}=>by
  rw[<-rQ];show k9.of hJ
 refine(0,a,ns,(1),1,hS,!0,λz0=>(z0,1,λL hL=>?_));refine(4,0,a,0,hS,λp0 a3=>(0,p0,gj ns (δ 2) (δ 10),L,1,hL,sl,pY (!6) Gj (!6),λm k H1 s1 d r ap Y=>?_));let s1:=(a'.QO a3).ο s1;let aC:=s1.WA hS;refine(0,a,ns,(0),1,aC,!0,λz'=>(2,!0,λz h0 h7=>?_));refine(4,4,a,0,aC,λp1 aA=>(4,p1,gj ns (δ 10) (δ 18),L,k,m,z,1,hL,sl,pY Gj (!6) (!6),d.kp (a'.kp (a'.QO aA)),r,ap,Y,h0,λt n H2 s2 i M an X J=>?_));let s2:=(a'.QO aA).ο s2;let d:=d.kp (a'.kp s2);let as:=s1.ο s2;refine⟨λl H'=>∃(m t:V)(k n:Pt),l=[δ QAd,δ QAb,δ m,δ QGS,δ t,ε,ε,ε]/\a' H H'/\aj H' k m/\aj H' n t/\k.Xa L/\n.Xa L/\k.Xk≤11/\n.Xk≤11/\k.sz≤35/\n.sz≤35/\(z<4->af L k=af L n),?_,?_⟩
 .refine (6,ay (λe=>(0,l2,λb hb=>(l2,λb2 ar=>(0,l2,λb3 a6=>?_)))) (λe=>(m,t,k,n,1,as,d,i,r,M,Je ap,an,Jg Y,X,λh=>(J (by have:¬ z=3:=λy=>e (Qw V.QG y);lia)).QI)));let q1:=a'.QO (o:=.Rn [.QZ (Ee .again),m]) hb;let q2:=a'.QO (o:=.Rn [.QZ (Ee .again),.ξ b]) ar;let q3:=a'.QO (o:=.Rn [.QZ (Ee .again),m]) a6;let az:=q2.ο q3;let x:=q1.ο az;show(.ξ b3,.ξ b2,.UX .again k,.UX .again (.UX .again k),1,as.ο x,(b3,m,1,hJ,d.kp (a'.kp x)),(b2,.ξ b,1,q3 _ _ hJ,b,m,1,az _ _ hJ,d.kp (a'.kp x)),r,r,by change k.Xk+1≤11;lia,by change k.Xk+1+1≤11;show G2 ap,by change k.sz+1≤35;lia,by change k.sz+1+1≤35;show G3 Y,λ_=>w2.QI)
 clear d i r M ap an Y X J;rintro bS H3⟨m,t,k,n,ζ,s3,d,i,r,M,ap,an,Y,X,J⟩;refine⟨λl H'=>∃v5,l=[δ QAd,δ QAb,δ m,δ QGS,δ t,δ v5,ε,ε]/\KT ts H H'/\aj H' k m/\aj H' n t/\Tl L H' k v5,?_,?_⟩
 .refine (4,L,k,m,1,d,Cm ap,r,Jf Y,λtw H4 s4 hg hl=>?_);let k4:KT ts H H4:=KT.of (s3.ο s4);refine(L,tw,k,(4),1,hL,hg,IX hl Y,Cm ap,k4.tb hT,λH5 k5=>?_,λf W B H5 k5 N hc hl=>?_)
  .exact (0,k4.ο k5,(d.kp (a'.kp s4)).kt k5,(i.kp (a'.kp s4)).kt k5,.RN ζ)
  .exact (0,k4.ο k5,(d.kp (a'.kp s4)).kt k5,(i.kp (a'.kp s4)).kt k5,.Rh (f,W,B,1,N,hc,hl))
 clear d i;rintro bP H4⟨v5,ζ,k4,d,i,m5⟩;refine⟨λl H'=>∃v6,l=[δ QAd,δ QAb,δ m,δ QGS,δ t,δ v5,δ v6,ε]/\KT ts H H'/\aj H' k m/\aj H' n t/\Tl L H' k v5/\Tl L H' n v6,?_,?_⟩
 .refine (4,L,n,t,1,i,Cm an,M,Jf X,λtw H5 U hg hl=>?_);let k5:=k4.ο (KT.of (ts:=ts) U);refine(L,tw,n,(4),1,hL,hg,IX hl X,Cm an,k5.tb hT,λH6 I=>?_,λf W B H6 I N hc hl=>?_)
  .exact (0,k5.ο I,(d.kp (a'.kp U)).kt I,(i.kp (a'.kp U)).kt I,m5.kt ((KT.of U).ο I),.RN ζ)
  .exact (0,k5.ο I,(d.kp (a'.kp U)).kt I,(i.kp (a'.kp U)).kt I,m5.kt ((KT.of U).ο I),.Rh (f,W,B,1,N,hc,hl))
 clear d i m5;rintro bM H5⟨v6,ζ,k5,d,i,m5,m6⟩;rcases m5 with ζ|⟨f,W,B,ζ,N,⟨c1,a5⟩,ag⟩
 .exact (6,al ζ (aG (kq _)))
 rcases m6 with ζ|⟨g,W2,B2,ζ,D,⟨c2,a4⟩,ab⟩
 .exact (6,ac QGd (6,al ζ (kq _)))
 refine(6,ac QGd (6,ac QGd ?_));refine(4,f,g,L,W,B,W2,B2,1,N.mt,N.ma,D.mt,D.ma,by have:=N.le;show Gb this,by have:=D.le;show Gb this,λo H6 s6 aH=>?_);let O:∀u,Wd L u->(QG7↔mk0 L W B u=mk0 L W2 B2 u):=λu Z=>by
  rw[<-ag,<-ab];change ((Wd L u/\mk0 L W B u=π)↔(Wd L u/\mk0 L W2 B2 u=π))↔_;cases mk0 L W B u<;>cases mk0 L W2 B2 u<;>simp[Z]
 let hN:o=ε->∀u,Wd L u->QG7:=λe u Z=>(O u Z).Sz (aH.1 e u Z);let s:∀v,o<*v->Wd L v/\v.β≤2000/\¬ (af L k v↔af L n v)/\∀u,Wd L u->¬ QG7->u6 L u v=ν:=λv e=>by
  let⟨x1,x2,x3,x4⟩:=aH.2 v e;show(x1,by have:=N.le;have:=D.le;lia,λy=>x3 ((O v x1).mp y),λu Z y=>x4 u Z λz=>y ((O u Z).Sz z))
 let C:z<4->o=ε:=λh=>by
  cases o with
  |ε=>rfl
  |δ v=>show QL (by rw[J h]) (s v ζ).2.2.1
 let E1:(decide (W=W2)&&decide (B=B2))=decide (oV o=V.Uv):=by
  cases o with
  |ε=>
   let⟨rfl,ζ⟩:=xJ a5 a4 (bx λu=>(λy=>by rw[ab];show(hN ζ u y.1).mp (ag▸y),λy=>by rw[ag];show(hN ζ u y.1).Sz (ab▸y)));simp;rfl
  |δ v=>
   rw[show decide (oV QF1=V.Uv)=ν from QJ λy=>nomatch y];by_cases e1:W=W2
   .by_cases e2:B=B2
    .subst e1 e2;show QL ((O v (s v ζ).1).Sz ζ) (s v ζ).2.2.1
    .rw [QJ e2,Ψ.and_false]
   .rw [QJ e1,Ψ.false_and]
 refine(λl H'=>l=[δ QAd,δ QAb,δ m,δ QGS,δ t,δ QAg,δ (.ξ g),δ (oV o)]/\H'=H6,3,3)
 .exact (4,f,g,L,W,W2,B,B2,5,N.mt.SO s6,D.mt.SO s6,0,5,0,Et (by rw[E1]) (0,2,0,ay (λh=>(6,Et (by rw[C h];rfl) (1,1))) (λh=>aE (1,1))))
 rintro bD H7⟨rfl,ζ⟩;let d:=d.kp (a'.kp s6);let i:=i.kp (a'.kp s6);refine(λl H'=>l=[δ QAd,δ QAb,δ m,δ QGS,δ t,δ QAg,δ (.ξ g),δ (oV o)]/\a' H7 H',3,3)
 .cases o with
  |ε=>show(6,Et ζ (1,a'.X9 _))
  |δ v=>
   let⟨x1,x2,x3,x4⟩:=s v ζ;refine(6,pE QGd (4,L,v,1,x1,F9 x2,λH8 s8=>(0,aE ?_)));refine(4,L,v,k,m,1,d.kp (a'.kp s8),Cm ap,x1,x2,λb1 H9 S a7=>(4,L,v,n,t,1,i.kp (a'.kp (s8.ο S)),Cm an,x1,x2,λb2 bo aU ar=>(1,0,ac (λy=>?_) (1,s8.ο (S.ο aU)))));let y:=V.bl.Tp y;show x3 (by rw[<-a7,<-ar,y])
 rintro bt H8⟨rfl,s8⟩;let k8:KT ts H H8:=k5.ο (KT.of (s6.ο s8));refine(4,4,4,4,a,0,O1 k8.sm hS,λp hp=>(L,p,gj ns (δ 18) (δ 58),1,hL,sl,QB (NE _ _ _) aB,λw H9 bU hw S=>?_));let S:=s8.ο ((a'.QO hp).ο S);let bs:w.β≤63:=by have:=NE ns (δ 18) (δ 58);lia
 show(L,w,o,k,n,m,t,1,hL,d.kp (a'.kp S),i.kp (a'.kp S),Cm ap,Cm an,hw,!6,hN,λv e=>((s v e).1,(s v e).2.1,(s v e).2.2.2),λbo _=>kq _)
end
def Hz{l:Ξ.W.OpenLaw}QF3{K K0:RG}{h:RC}QFI{fa b0 bV bU bP bM bD bt bs P0 P1 P2 P3 P4 P5 P6 P7:θ}(hK:K=BU [P0,P1,P2,P3,P4,P5,P6,P7] K0)(ex:[P0,P1,P2,P3,P4,P5,P6,P7].R7)(X:K.In h)(G:h.Ns RB mg)(ey:mg "law"<*.ξ fa){co:θ}(nA_:Wx K RB "RoomError"<*δ (.ξ co)){J:θ}(nH_:Wx K RB "TooMany"<*δ QJr){d Q fZ n M o N g B t S f z j E r O i I x U y Y u R ap D L ar:θ}(n_Pattern:Wx K RB "Pattern"<*δ QDM)(n_Desk:Wx K RB "Desk"<*δ (.ξ Q))(n_Never:Wx K RB "Never"<*δ (.ξ n))(n_Empty:Wx K RB "Empty"<*δ (.ξ o))(n_AnySign:Wx K RB "AnySign"<*δ (.ξ g))(n_Sign:Wx K RB "Sign"<*δ QB0)(n_Outside:Wx K RB "Outside"<*δ QAg)(n_Turned:Wx K RB "Turned"<*δ (.ξ j))(n_Again:Wx K RB "Again"<*δ (.ξ r))(n_Either:Wx K RB "Either"<*δ (.ξ i))(n_Less:Wx K RB "Less"<*δ QDp)(n_Both:Wx K RB "Both"<*δ (.ξ y))(n_Then:Wx K RB "Then"<*δ (.ξ u))(y_Never:Ξ.W.TR K0 (.ξ n) "shape"<*δ (.ξ M))(y_Empty:Ξ.W.TR K0 (.ξ o) "shape"<*δ (.ξ N))(y_AnySign:Ξ.W.TR K0 (.ξ g) "shape"<*δ (.ξ B))(y_Sign:Ξ.W.TR K0 QB0 "shape"<*δ QG2)(y_Outside:Ξ.W.TR K0 QAg "shape"<*δ QE8)(y_Turned:Ξ.W.TR K0 (.ξ j) "shape"<*δ (.ξ E))(y_Again:Ξ.W.TR K0 (.ξ r) "shape"<*δ (.ξ O))(y_Either:Ξ.W.TR K0 (.ξ i) "shape"<*δ QE')(y_Less:Ξ.W.TR K0 QDp "shape"<*δ (.ξ U))(y_Both:Ξ.W.TR K0 (.ξ y) "shape"<*δ (.ξ Y))(y_Then:Ξ.W.TR K0 (.ξ u) "shape"<*δ (.ξ R))(yi_Sign:Ξ.W.TR K0 QB0 "__init__"<*δ (.ξ ap))(yi_Around:Ξ.W.TR K0 QAg "__init__"<*δ QBI)(yi_Pair:Ξ.W.TR K0 (.ξ i) "__init__"<*δ (.ξ L))(yi_Desk:Ξ.W.TR K0 (.ξ Q) "__init__"<*δ (.ξ ar))(yM:Ξ.W.TR K0 (.ξ n) "machine"<*δ (.ξ fZ))(b_Never:fF K n d M fZ)(b_Empty:fF K o d N fZ)(b_AnySign:fF K g d B fZ)(b_Sign:fF K t d S fZ)(b_Outside:fF K f d z fZ)(b_Turned:fF K j d E fZ)(b_Again:fF K r d O fZ)(b_Either:fF K i d I fZ)(b_Less:fF K x d U fZ)(b_Both:fF K y d Y fZ)(b_Then:fF K u d R fZ)(q_Never:JY K n)(q_Empty:JY K o)(q_AnySign:JY K g)(q_Sign:Mk K t ap)(q_Outside:Mk K f D)(q_Turned:Mk K j D)(q_Again:Mk K r D)(q_Either:Mk K i L)(q_Less:Mk K x L)(q_Both:Mk K y L)(q_Then:Mk K u L)(q_Desk:Mk K Q ar)(s_Never:CC K "shape" "Never.shape" pI M)(s_Empty:CC K "shape" "Empty.shape" pJ N)(s_AnySign:CC K "shape" "AnySign.shape" hZ B)(s_Sign:CC K "shape" "Sign.shape" vo S)(s_Outside:CC K "shape" "Outside.shape" hX z)(s_Turned:CC K "shape" "Turned.shape" kZ E)(s_Again:CC K "shape" "Again.shape" pK O)(s_Either:CC K "shape" "Either.shape" lc I)(s_Less:CC K "shape" "Less.shape" vp U)(s_Both:CC K "shape" "Both.shape" vq Y)(s_Then:CC K "shape" "Then.shape" vn R)(si_Sign:CC K "__init__" "Sign.__init__" nX ap)(si_Around:CC K "__init__" "Around.__init__" eP D)(si_Pair:CC K "__init__" "Pair.__init__" nY L)(si_Desk:CC K "__init__" "Desk.__init__" nZ ar)(sM:CC K "machine" "Pattern.machine" No fZ){d2 d3:θ}{e2 e3:R_ DictEntry}{n2 n3:χ}(rn2:Wx K RB "KINDS"<*δ (.ξ d2))(rl2:K.ς d2<*{SS:=.QU "dict",RH:=.Uk e2 n2})(re2:gp w e2.Qx dKINDS)(rs2:(d2==Sx)=ν)(rn3:Wx K RB "STRENGTHS"<*δ (.ξ d3))(rl3:K.ς d3<*{SS:=.QU "dict",RH:=.Uk e3 n3})(re3:gp w e3.Qx vM)(rs3:(d3==Sx)=ν)(dcl:BZ K Q)(dn1:wx K Q "patterns")(dn2:wx K Q "waiting")(eH_:fE K J)(mH_:exmOne K QJr (.ξ co)<*π)(iHH_:kitOne K QJr QJr<*π)(vH_:kitOne K QJr (.QU "ValueError")<*π){fI:θ}{en g2:ψ θ}{ed:R_ (ψ η)}{er ev e4 ej gT:η}{d4:θ}{cW:θ}(nW:Wx K RB "Walk"<*δ (.ξ cW))(hI0:Ξ.W.TR K0 (.ξ cW) "__init__"<*δ (.ξ fI))(SS:BZ K cW)(mk:Mk K cW fI)(na1:wx K cW "letters")(na2:wx K cW "things")(na3:wx K cW "words")(na4:wx K cW "ways")(na5:wx K cW "marks")(lI:K.ς fI<*(er,en,.VL (U_ "__init__" "Walk.__init__" (ri Ib) (n7 Ib) (hI Ib) .ε ev e4 ej g2 (.ξ d4) gT),ed))(cI:UH K (.ξ d4) "Walk.__init__"=π){fX:θ}{ek g0:ψ θ}{eb:R_ (ψ η)}{ep et e0 eg gz:η}{d0:θ}(hX0:Ξ.W.TR K0 QJr "__init__"<*δ (.ξ fX))(xo:B_ K J fX)(xc:lY K J)(xn1:wx K J "words")(xn2:wx K J "tails")(xn3:wx K J "part")(xb:wq K co)(xf:isFn K (.ξ fX)=π)(xe:exmOne K QJr QJr<*π)(lX:K.ς fX<*(ep,ek,.VL (U_ "__init__" "TooMany.__init__" (ri GI) (n7 GI) (hI GI) .ε et e0 eg g0 (.ξ d0) gz),eb))(cX:UH K (.ξ d0) "TooMany.__init__"=π){tD:θ}{es:η}{eo:ψ θ}{ee:R_ (ψ η)}{nD:χ}{fV:θ}{el g1:ψ θ}{ec:R_ (ψ η)}{eq eu e1 ei gS:η}{d1:θ}(aV:Wx K RB "walked"<*δ (.ξ fV))(lV:K.ς fV<*(eq,el,.VL (U_ "walked" "walked" (ri A0) (n7 A0) QJl QKz eu e1 ei g1 (.ξ d1) gS),ec))(cV:UH K (.ξ d1) "walked"=π)(lD:K.ς tD<*(es,eo,.WA #[.ε] nD,ee))(tM:FR K "walked_machine" EV .ε b0)(tA:FR K "paired" Du .ε bV)(tB:FR K "either" Fe .ε bU)(tC:FR K "both" Ff .ε bP)(tS:FR K "less" Fh .ε bM)(tH:FR K "then" H.wh .ε bD)(tN:FR K "again" A.s_ .ε bt)(tU:FR K "walked_turned" Tu.kb .ε bs)(l0:vh K "numbered" MC)(l1:vh K "many_lots" ME)(l2:vh K "rounds_of" MF)(l3:vh K "first_rooms" MG)(l4:vh K "parting_word" MH)(l5:vh K "folded" du)(l6:vh K "tails_of" MI)(l7:vh K "told" mW)(l8:vh K "need_same_letters" MJ)(l9:vh K "least" iJ)(l10:vh K "lots_after" ML)(l11:vh K "lot_of" dj)(l12:vh K "has_marked" MM)(l13:vh K "rooms_into" MN)(l14:vh K "outside" MO)(l15:vh K "turned" dh)(l16:vh K "short_machine" MP)(l17:vh K "piece_machine" MQ)(l18:vh K "joined" dq)(l19:vh K "machine_of" MR)(l20:vh K "is_letters" MS)(l21:vh K "need_letters" MT)(l22:vh K "is_wanting" MV)(l23:vh K "can_stand" MW)(l24:vh K "need_pattern" MX)(l25:vh K "piece_of" MY)(l26:vh K "pair_of" MZ)(l27:vh K "settle" di)(l28:vh K "put" tV)(l29:vh K "tokens_of" M0)(l30:vh K "pattern_of" M1)(l31:vh K "read" mX)(l32:vh K "_law_cell_at" M3)(l33:vh K "_law_letters" M4)(l34:vh K "_law_pushed" M5)(l35:vh K "_law_shape" M6)(l36:vh K "_law_piece" M7)(l37:vh K "_law_machine_of" M8)(l38:vh K "_law_leaf" M9)(l39:vh K "_law_behind" M_)(l40:vh K "_law_pieces" M')(l41:vh K "_law_from_behind" KZ)(l42:vh K "_law_spans" Na)(l43:vh K "_law_has" Nb)(l44:vh K "_law_word" Nc)(l45:vh K "_law_is_word" Nd)(l46:vh K "_law_earlier" Nf)(l47:vh K "is_whole" Ng)(l48:vh K "is_room" Nh)(l49:vh K "need_room" Ni)(l50:vh K "parting" Nj)(l51:vh K "apart" iK)(l52:vh K "_law_second" Nk)(l53:vh K "_law_none_before" Nl){cw:θ}(t54:FR K "law" dl .ε cw)(zb:N2 K ["len","range","isinstance","int","bool","tuple","list","str","zip","enumerate","reversed","max","all","any","set","sorted"]){b2:Z5}(z_most:Wx K RB "MOST_ROOMS"<*δ (.QG 8 b2))
  :∃fd:TY,(∀QB_(v:η),BindsTo s fd ([v],[]) [("_law_script",v,)])/\∀υ:RC,K.In υ->υ.Ns RB mg->CI υ mg->(∀q∈[(b0,P0,),(bV,P1,),(bU,P2,),(bP,P3,),(bM,P4,),(bD,P5,),(bt,P6,),(bs,P7,)],UN υ q.1 q.2)->aa l.Ω w K mg υ lb 26 fa fd ["_law_script"] (iC K [(b0,P0,),(bV,P1,),(bU,P2,),(bP,P3,),(bM,P4,),(bD,P5,),(bt,P6,),(bs,P7,)]):=by
 let⟨fM,_,_,_,_,_,_,_,_,aM,lM,cM⟩:=tM;let⟨fA,_,_,_,_,_,_,_,_,aA,lA,cA⟩:=tA;let⟨fB,_,_,_,_,_,_,_,_,aB,lB,cB⟩:=tB;let⟨fC,_,_,_,_,_,_,_,_,aC,lC,cC⟩:=tC;let⟨fS,_,_,_,_,_,_,_,_,aS,lS,cS⟩:=tS;let⟨fH,_,_,_,_,_,_,_,_,aH,lH,cH⟩:=tH;let⟨fN,_,_,_,_,_,_,_,_,aN,lN,cN⟩:=tN;let⟨fU,_,_,_,_,_,_,_,_,aU,lU,cU⟩:=tU;let⟨hb,ha,g8,d5,g7,dk,dn,dd,dV,g3,de,gV⟩:=t54;let⟨ab,bd,ch,cO,cp,a8,b1,cx,Z,P,a9,cK,c2,cP,cD,cg,_⟩:=zb;let e:=ey.QI.ο (T_ X G g3);cases e;let T:U7 K mg co J:=(T_ X G nA_,T_ X G nH_,eH_,mH_,iHH_,vH_,Rw X G ab,Rw X G bd,Rw X G ch,Rw X G cO,Rw X G cp,Rw X G a8,Rw X G b1,Rw X G cx,Rw X G Z,Rw X G P,Rw X G a9,Rw X G cK,Rw X G c2,Rw X G cP,Rw X G cD,Rw X G cg,Rw X G P,(b2,T_ X G z_most));let g5:=DA (st:=dl) de gV (Bk de);let WT:=GH.mk (T_ X G nW) SS mk na1 na2 na3 na4 na5 (DA (st:=Ib) lI cI (Bk lI));let TM:Hx K mg J co fX _:=(T_ X G nH_,T_ X G nA_,xo,xc,xn1,xn2,xn3,xb,xf,xe,eH_,mH_,DA (st:=GI) lX cX (Bk lX));let WK:Kc K cW:=(SS,na1,na4,na5);let DL:∀υ:RC,Df l.Ω w K mg υ "lots_after" 1 ["machine","rooms"] Wf:=λυ=>JX X G l10 λ_ _ _ F=>(Av F,N9 F T);let DH:∀υ:RC,Df l.Ω w K mg υ "has_marked" 1 ["machine","rooms"] sp_hasm:=λυ=>JX X G l12 λ_ _ _ F=>(Av F,N_ F T);let DT:∀υ:RC,Df l.Ω w K mg υ "lot_of" 1 ["rooms"] (bF K):=λυ=>JX X G l11 λ_ _ _ F=>(Au F,gL F T);let DR:∀υ:RC,Df l.Ω w K mg υ "rooms_into" 1 ["machine","place","rooms"] Tu.sp_rinto:=λυ=>JX X G l13 λ_ _ _ F=>(EM F,Oa F T);let⟨a2,bl⟩:=s_Never;let⟨a3,bm⟩:=s_Empty;let⟨an,a0⟩:=s_AnySign;let⟨bg,cd⟩:=s_Sign;let⟨ag,aT⟩:=s_Outside;let⟨as,a6⟩:=s_Turned;let⟨a4,bo⟩:=s_Again;let⟨az,a7⟩:=s_Either;let⟨bi,ce⟩:=s_Less;let⟨bk,cf⟩:=s_Both;let⟨bf,b6⟩:=s_Then;let⟨c8,b3⟩:=si_Sign;let⟨ct,a5⟩:=si_Around;let⟨da,b4⟩:=si_Pair;let⟨dc,b5⟩:=si_Desk;let⟨eT,d6⟩:=sM;refine(U_ "law" "law" (ri dl) (n7 dl) (hI dl) .ε dk dn dd d5 (.ξ cw) dV,λs v=>.of_eq ζ,λυ _ _ hB hC=>?_);let PC:∀k,yu K (QBc k) d:=bW b_Never.pc b_Empty.pc b_AnySign.pc b_Sign.pc b_Outside.pc b_Turned.pc b_Again.pc b_Either.pc b_Less.pc b_Both.pc b_Then.pc;let mS:∀k,gn K (QBc k) "shape" ((Ef M N B S z E O I U Y R) k):=bW b_Never.me b_Empty.me b_AnySign.me b_Sign.me b_Outside.me b_Turned.me b_Again.me b_Either.me b_Less.me b_Both.me b_Then.me;let bS:∀k,yx K (QHU k) ["self"] []:=bW (Au bl) (Au bm) (Au a0) (Au cd) (Au aT) (Au a6) (Au bo) (Au a7) (Au ce) (Au cf) (Au b6);let mM:∀k,gn K (QBc k) "machine" fZ:=bW b_Never.mm b_Empty.mm b_AnySign.mm b_Sign.mm b_Outside.mm b_Turned.mm b_Again.mm b_Either.mm b_Less.mm b_Both.mm b_Then.mm;let PK:FT l.Ω w K mg υ QBc d:=(T_ X G n_Pattern,bW (T_ X G n_Never) (T_ X G n_Empty) (T_ X G n_AnySign) (T_ X G n_Sign) (T_ X G n_Outside) (T_ X G n_Turned) (T_ X G n_Again) (T_ X G n_Either) (T_ X G n_Less) (T_ X G n_Both) (T_ X G n_Then),PC,λk=>by cases k;show q_Never;show q_Empty;show q_AnySign,(8,q_Sign,uo b3,Av b3),(_,_,λk=>by cases k;show q_Outside;show q_Turned;show q_Again,nn a5,Av a5),(_,_,λk=>by cases k;show q_Either;show q_Less;show q_Both;show q_Then,uq b4,EM b4),((Ef M N B S z E O I U Y R),QHU,mS,bS,pi PC mS bS (bW bl bm a0 cd aT a6 bo a7 ce cf b6)));let RK:io l.Ω w K mg υ QBc Q d2 d2 d3:=(T_ X G rn2,T_ X G rn3,lF rl2 re2 uH rs2,lF rl3 re3 zM rs3,T_ X G n_Desk,dcl,dn1,dn2,(8,q_Desk,ur b5,Au b5));revert mM PK RK;generalize QBc=c;intro mM PK RK;let C:=λ{CX:CXT}=>@JX CX l.Ω w K mg υ h X G;obtain⟨ts,a1⟩:∃ts:γ QAc,ts=[(P0,R5,),(P1,cZ,),(P2,K4,),(P3,K5,),(P4,K6,),(P5,H.ZX,),(P6,A.ZY,),(P7,Tu.Ax,)]:=QCI;let nd:(ts.Q_ Yq.fst).R7:=by rw[a1];show ex
 let i0:(P0,R5,)∈ts:=by rw[a1];simp
 let i1:(P1,cZ,)∈ts:=by rw[a1];simp
 let i2:(P2,K4,)∈ts:=by rw[a1];simp
 let i3:(P3,K5,)∈ts:=by rw[a1];simp
 let i4:(P4,K6,)∈ts:=by rw[a1];simp
 let i5:(P5,H.ZX,)∈ts:=by rw[a1];simp
 let i6:(P6,A.ZY,)∈ts:=by rw[a1];simp
 let i7:(P7,Tu.Ax,)∈ts:=by rw[a1];simp
 let ew:∀p∈ts,∃c,(c,p.1,)∈[(b0,P0,),(bV,P1,),(bU,P2,),(bP,P3,),(bM,P4,),(bD,P5,),(bt,P6,),(bs,P7,)]:=by
  rw[a1];intro p hp;simp only[QY,SM,TQ]at hp;rcases hp with ζ|rfl|rfl|rfl|rfl|rfl|rfl|rfl
  .exact (b0,!1)
  .exact (bV,!1)
  .exact (bU,!1)
  .exact (bP,!1)
  .exact (bM,!1)
  .exact (bD,!1)
  .exact (bt,!1)
  .exact (bs,!1)
 let eS:UN υ b0 P0:=hC (b0,P0,) (!1);let eO:UN υ bV P1:=hC (bV,P1,) (!1);let eN:UN υ bU P2:=hC (bU,P2,) (!1);let eH:UN υ bP P3:=hC (bP,P3,) (!1);let eC:UN υ bM P4:=hC (bM,P4,) (!1);let eB:UN υ bD P5:=hC (bD,P5,) (!1);let eA:UN υ bt P6:=hC (bt,P6,) (!1);let ez:UN υ bs P7:=hC (bs,P7,) (!1);let dr:Df l.Ω w K mg υ "walked_machine" 6 ["machine"] QIy:=(fM,_,T_ X G aM,Bk lM,Au (DA (st:=EV) lM cM (Bk lM)),ut lM cM lV cV (Bk lV) QH8 lD WT QH9 QJs eS hB);let ff:Df l.Ω w K mg υ "walked_turned" 6 ["machine"] (Tu.BC cW P7 Tu.Ax):=(fU,_,T_ X G aU,Bk lU,Au (DA (st:=Tu.kb) lU cU (Bk lU)),Tu.EW lU cU lV cV (Bk lV) QH8 lD WT QH9 QJs (Rw X G a8) (Rw X G bd) (Rw X G P) ez hB DR);let f1:=C l0 λ_ _ _ F=>(Au F,kF F T );let c7:=C l1 λ_ _ _ F=>(Au F,jc F T );let c5:=C l2 λ_ _ _ F=>(EM F,ja F T f1 c7);let dz:=C l3 λ_ _ _ F=>(Au F,dO F T c7);let dp:=C l4 λ_ _ _ F=>(N1 F,Qa F T );let dx:=C l5 λ_ _ _ F=>(Av F,qX F T WK dz);let fD:=C l6 λ_ _ _ F=>(EM F,kC F T WK dp);let cl:=C l7 λ_ _ _ F=>(Au F,xp F T WK na3 TM c5 c7 dx dz fD);let c4:=C l8 λ_ _ _ F=>(Av F,Qb F T );let cs:=C l9 λ_ _ _ F=>(Au F,ux F T WK dr c5 dx);let he:=C l10 λ_ _ _ F=>(Av F,N9 F T );let hf:=C l11 λ_ _ _ F=>(Au F,gL F T );let hg:=C l12 λ_ _ _ F=>(Av F,N_ F T );let hd:=C l13 λ_ _ _ F=>(EM F,Oa F T );let ge:=C l14 λ_ _ _ F=>(Au F,nw F T nd i0 dr cl);let fm:=C l15 λ_ _ _ F=>(Au F,qT F T nd i0 i7 cl ff cs);let f3:=C l16 λ_ _ _ F=>(EM F,Qc F T nd i0 cs);let fl:=C l17 λ_ _ _ F=>(Av F,Qd F T f3);let c3:A' l.Ω w K mg υ "paired" 6 ["machine","second","is_wanted"] (Ki l.Ω w K mg J ts):=(fA,_,T_ X G aA,Bk lA,EM (DA (st:=Du) lA cA (Bk lA)),qV nd i1 lA cA lV cV (Bk lV) QH8 lD WT QH9 QJs (Rw X G b1) eO hB c4 cl);let e7:A' l.Ω w K mg υ "either" 7 ["machine","second"] (cb J ts (Dq QEv)):=(fB,_,T_ X G aB,Bk lB,Av (DA (st:=Fe) lB cB (Bk lB)),qY nd i2 lB cB eN hB c3);let gt:A' l.Ω w K mg υ "both" 7 ["machine","second"] (cb J ts (Dq QEw)):=(fC,_,T_ X G aC,Bk lC,Av (DA (st:=Ff) lC cC (Bk lC)),xt nd i3 lC cC eH hB c3);let gi:A' l.Ω w K mg υ "less" 7 ["machine","second"] (cb J ts (Dq QEG)):=(fS,_,T_ X G aS,Bk lS,Av (DA (st:=Fh) lS cS (Bk lS)),xr nd i4 lS cS eC hB c3);let ft:A' l.Ω w K mg υ "then" 8 ["machine","second"] (cb J ts dN):=(fH,_,T_ X G aH,Bk lH,Av (DA (st:=H.wh) lH cH (Bk lH)),H.FY nd i0 i5 lH cH lV cV (Bk lV) QH8 lD WT QH9 QJs eB hB DL DH DT c4 cs cl);let fT:A' l.Ω w K mg υ "again" 8 ["machine"] (mK J ts Ag):=(fN,_,T_ X G aN,Bk lN,Au (DA (st:=A.s_) lN cN (Bk lN)),A.EX nd i0 i6 lN cN lV cV (Bk lV) QH8 lD WT QH9 QJs eA hB DL DH DT cs cl);let fp:=C l18 λ_ _ _ F=>(Av F,qW F T ge fm fT e7 gi gt ft);let f5:=C l19 λ_ _ m F=>(Av F,fW F T TM fl fp m (Av F));let e5:=C l20 λ_ _ _ F=>(Au F,f7 F T );let dt:=C l21 λ_ _ _ F=>(Au F,Qg F T e5);let ds:=C l22 λ_ _ _ F=>(Au F,fY F T );let fP:=C l23 λ_ _ _ F=>(N0 F,jd F T );let fr:=C l24 λ_ _ _ F=>(Av F,Qh F T fP ds);let fc:=C l25 λ_ _ _ F=>(Au F,kE F T PK );let e9:=C l26 λ_ _ _ F=>(EM F,nv F T PK );let f6:=C l27 λ_ _ _ F=>(Av F,qU F T PK RK e9);let fg:=C l28 λ_ _ _ F=>(Av F,zK F T PK RK f6 fc);let fy:=C l29 λ_ _ _ F=>(Au F,i9 F T RK ds);let f0:=C l30 λ_ _ _ F=>(Au F,fR F T PK RK fy fg);let go:=C l31 λ_ _ _ F=>(Av F,xq F T PK RK dt fr f0);let ga:=C l32 λ_ _ _ F=>(Av F,Qj F T );let fx:=C l33 λ_ _ _ F=>(Au F,Qk F T );let gs:=C l34 λ_ _ _ F=>(EM F,dQ F T );let dv:=C l35 λ_ _ _ F=>(Av F,f9 F T gs);let gx:=C l36 λ_ _ m F=>(Au F,gb F T  m (Au F));let MK:yQ l.Ω w K mg υ c J ts:=(fZ,eT,mM,Av d6,kz d6 PK dt f5);let f2:=C l37 λ_ _ _ F=>(Av F,Ql F T TM MK PK go);let gd:=C l38 λ_ _ _ F=>(Av F,jf F T );let fv:=C l39 λ_ _ _ F=>(Av F,dS F T );let gk:=C l40 λ_ _ _ F=>(Au F,dR F T );let⟨hc,g4,_,ea⟩:=l41;let dT:=C l42 λ_ _ m F=>(Av F,f8 F T ea (T_ X G g4) (Av ea) gd fv gk m (Av F) 12);let gc:=C l43 λ_ _ _ F=>(Av F,kI F T dT);let fO:=C l44 λ_ _ _ F=>(Av F,je F T );let fk:=C l45 λ_ _ _ F=>(Av F,Qo F T );let gl:=C l46 λ_ _ _ F=>(EM F,Qp F T );let fn:=C l47 λ_ _ _ F=>(Au F,kG F T );let fw:=C l48 λ_ _ _ F=>(Av F,ny F T fn);let f4:=C l49 λ_ _ _ F=>(Av F,jb F T fw);let fe:=C l50 λ_ _ _ F=>(EM F,nu F T f4 c5 dp);let e6:=C l51 λ_ _ _ F=>(Av F,uy F T c4 fe);let fs:=C l52 λ_ _ _ F=>(N0 F,dP F T dv);let e8:=C l53 λ_ _ _ F=>(N1 F,Qq F T dT gl);show Hy g5 T ew fx ga dv fs gx f2 e6 fk gc e8 fO
end K72
example:="cb&utHs<WF{qFu&ASV%,}Y}NK.M-^An9vb(&wJv:IBLR9=0c#I}+f.@/`nu,46)R|eb}5DzA~XGY(+v-SpquD77s3;5:0TS4N)KHZUhO~0Q+M<r3Cs-Sj9]BBYYhI]Wz2<kVpddGDst@`nI{vw3w'I'%#0cuH?*Bjj325PiUNGD7lI;&t#yA8U,CoEl7|'<BLxh*Sii3San2FJ=]:&kAs5=.xZq'&{O=VXvt)OT=0zr>9W0Ar7?d%m57BBDvVdygVS@=5al1r$VPA6LJqN@d*uD'~R'GHbR?BHY]%o^JCam>qD5v>Rd0,1'vL^2>}58.>6NUOQvzT(:{LO17qcDRApM#ek~XwEFAwb_JH*JJa`X?}UIpb.g&goQ31-L*0Y~Z2-2Y~,t_R_9a:%*6c5*/C0#ek/VSSm>AyxzO)<U==`(7a.Uglw&DMOTGl~7YZ:7cQ<F1V38)B+cBUsz-fhdo@R']92b>cdT0H,=i%GGr,P'4-|k3B*nLwvCw?#jAWD>j_cqAmp01{.^an65c+Ch?ro?C/QdOOLO91^:9718bu24K51F9UyAMr3Ak$7Xsnx4N%DW&x|&)x6s:|Ejsm]3H0=V<)l~X0o-I8-A_'qIF#(pQHv39NKjU`-:I7QXWWc2F(R2##OF2dIWpV$D;}B]KV#(IQ?N;J&+xTYKF+GlH^V#X5n8twLTCl2R|<8s%.I|]jQ<-%2L~>y5|G9VHa%Nz]ObE==fSG(t8YfNCa&J*p@P=uMJ;1e;ZuT6'G'H1q4t4.5tfxk#~Eg}F6;tZyS;=jPmQ]_ja$(4$r)adYZ;wv9@7(~zed|C7N'v_+CY(7$T~l5T*]Da,P~fF*TMhyQgD6a-eP4,1H%Zq85auq#y}dHm%ghT.E/w0;A*BALeYt0JFUDnO~uZnQm+ro13I9TooZ^2AmM?=G'Q=b4qV4j9pi.,B~#avn{oDkIbCc$ydA5RJ&*oHKNaMwIUW)J6_'&Q64f5^QsR`o(Of,y7Q~qUArDq7wt.}K#mU79c|N$<4bSqimcY7N;B@xE}j2Ef1Xnd?3|R;~M3Vn*G:;2lQd'Vk,9h+sPmMYt%.P0@CzFhAbk_`|0-]vSJ.V(X>&zbn0il7R;a$&L|RZ%-1T0Y-r_%Qu2i&Fuh=>h^F-%hOx=j1k)+|rW>qZ?;$tzAu,X:Vp+J:=4U+p9E&+j={ReM|{@Fg`+loqFv-%fX}m2nwhQFGJ9eT@M$(iw@|7#=PbAY04b/=@5^B+tNQB+jl}Kc+h(x=_O?L]TZOExd6n:Uy7k3)hf8Pkt/7>Z*bu(Bub5c<#Mn68}0HRBwfcQ:Tw#v;kkk(+;un.8]TcJ&@->iHJ;g7%(aM0<p&G2F,ALaqbb4*G@rs<-w,$&pXJ~?+MeD4T-mM~KrITH38;A1}&=m8|dY?>M^&_%5ThucvR^i2e`].emz`#)*XK`8k.lKB0w3Ux/%B7CvTJ'}A]Q_'risI/OsxzDZf@`oK?wQM4u+')ejunKCou&eH3u?Pd(3jcSL8:N,dHhk3=.+(;%%]a:p#D3&@+=gXvvcEAo6^-^z)S>K>_G>X]`lBH(Yb?bk2(=Um;h?0V^)FHnX}:9;$^AxiSL;7DN.L,JQ74k7zs8gMr8.($bjGvP,sd%^=$J3G:V>LnyR1,uz-j#b65'M2IVrLQps&;]S*UyEBgNX/k87m$w#?=.K:T,I2=++F:@3liBu/BB=}-B?=s6``2,p<_|I26BtGHH0tMEV<TvFz=FyD::;1+b@Fp&8X03(StM{1H)bCGnMzD=+E(O-VA?NMy?>|3sOFD(FjRQ{I>B-K9FS?bLY7w*I0:N$C]m{3{i@qi`nj)#%IGJUBoQK4iNWEU<'d#BGXL=JXvHo:z]fr)p}0=<r@DM/{jf0OZ^$`{jnV59aX]aiMnbvA_.wS|d;.V6{fH=}BXtg&yHajG9@,x/-L9q>vgYQ:)QY-qe,8y/An6`{&iw#9T`$8_Kl8iM@E-P#8a&00]1xQWdnqr(ac)>?NubGIj?=BsH>K{5EA6Mph`X)Bujg`=h}l78|`D>`&Gc}.`dOIh;Jv3%|N'E`F_J^7fu9J9stzX(lM|Nnh=dx'*v{}uwD}z@JZ7wO%DW(R%4|He`%p3*H;ujk~aj`KSQ*WpXTGl)RSZn%rE7-:QeSP:oy{N7i?@VKNag#6s@TrOAt&`>g_g9(q1|i'WXB}tUZpCPdl4+}zEpd7e$RF369>-PB0Fe2ykXhNSTW{61`rf;C$s1GJM}k3dMyM`XtPn>z7Fwua4oE;k6b*=c4O/Pcj++2i.^GP0}^#DHK'CMm3_S$~SjZAD:z~IHjaC1xBC`V#bhr9qUkyyMqzk*%84fs*sRK)alHeR2yx9O:OW97-p_4(?Oh8Wg+-~?GMJ>6)NB?3gk&4FV9g}Og]uZd?CO32h)8g@{nSkGS.mMG)U}n37Id{7Keu*=mg=Xr1cRh3nC}.#PgFq1SAB5Io@,20Dhr~#=j@M*xv?sIOd@8D`XKn}Qs'l:3N3XA4zR=7Kh-Jya~s%HUV7eN(Rd8.SGU4ce)5*,dNd0?O66NMXrQa@]xx>?+P>SXcJP_2}iDqI~<iq:mSv#9LDz>;@yZj#zj_Z:T3rsWS?E4QB}|?24=fHCdKmFsA&Y6Fcr=?jb.r/?l(D#'eMjL)EZC>FJ'Yd2&@Tg0oDsF2Q5elcex:I8QwJn)hXRH0FJF;lh2r_M?2}SQ3%j?&?gaX>Ed%r,%X$FcU3P/B^THdkO^YG%YG_1$#EARNY/iAhR;X:RM+V]I$0(J8]v|fhw/YO4]r@}NEE~A0Y4{0NEZaL/>U^td%ufg.,@7B1L$9~#U{Z.?etpQ+gtAye%I~{(O%VOD>;(xGS8?7#O3TD=_4yS@Qv]a#;n>lN%1#P;JsD6qE|hDPz@M*wQg9o5MqfnblM<I)|QVs&8|pA5_jdB0@G)@,$;g)oQ%)Y5,fA2GWH/M.Ak,7Ev+d8>9]==3>Lu+>|.:$T=E0v0sqyO=sF@k3+}o}&dCGV2rsi1ghGe$1_E54He<=d<&QKtx?`Vw#59`TdR4J|A+`b'%k#ux,B_i6;)o~B-F2K)_+bi+Fhq;vuuGq#DGItd]Io^dJ>N<5K0@#')C1Q;sOu,CJvw6;,W?;6At8n>:5U)_;+_Va*hC]z$pN_c3*`9OJr_%`d?qh3=,~$qZ'/wH5g6.N<~3cP+SXNx+E]]UPw,|zi~559AKvS;|yxw-%,M>>z{(7?/Xm%YY4+gmBYIm+D^_u`N#]M'8%E4l&{3$#dehA3'8^fQ~7$n|$Xp&OyzjLMKg4lF@<;xaBs6y7?R73>GWrtc.G6zM*ZHdH_Ox_1=08;>TP?+%8?=-~>035T$3LgL|2q{C>1o4'L8}+=6_]Kq?#.gw9Nwg386)3y#v/9.WB|V?(^%+,_E{coLo7Z$n85Mf<T|SCU1u]W.pD20tB1Mj(00~UeaH2o71Q6LIccqL'#.$$r{fJ(LNS&Je*c.DND+mvwA^?hJr>.4M&wx'5q>g-4VJzw/cgMZu-o{|BvX=)0ofI.DV]*fNg^vW)_Rgf:~neV*VI`iQ94nR?)Y_p}{h%}?M%1N~gX0kQYnazipYW2DpZShKngQ<H9yuitEj)><BqC{zZf3jF3<KV`'&(nOTn,/Rd?ZGR-GEzV+`-w@4X=^lqnaN4)S&d1D+z?-R&xr-q`5l'v_tU]l_pP9ZuAyvbfB+N|h#2uh,(BMMR{itl}cM:r$l^O^$<85*B@eSqkGL(+=y-ARuJtPpxFWehC23JRTJ>+-&-{:-eH=I}x1/:h0ftn<HPb#+yC6`Qj9U>aEH1rSFfZH<*k;)-Cjs0]XD:XwzZr*>f$NN_s_lOW&oH>J{VLB@Uj'#IQM=L~2+v2y]pt;U.]iSs{&($gs_2,_Fe6,h+W/tW5nCKraMi9z'(?Dg-zUn,(2f=zz|frc2h*/ZqYw6L1<V*)_OK&c4_`$2U(Kw{:k<Lrb5I~:>{L@xjtU8G^/<J#yE1~o@166,r$+Cyxvj&OiPw{9Iib#YvJ%`+zJv;kFW'Dz)%-%'W|;?P$D(QCtrY%noWLH2R;Pr9NqvP-9o1rs^w}Ll>M|UJ8.&N{C-B]g=u^=7*_^N96>R$<5F_DbB=h1<1XZiq;ynQ/Rs_Pbh|qNqsX<]yk3,Ap<>*sUC9'7HZbto6LBy,CCMDnJU~nPXwa(3t1MsFOSVvgn=JX%Ec`KY>y|EPZL)a$K)@(7B?HcI@_qU+y^<A^#>f>K.$MI,]~SH@8X<O25AV+/s|J]BnkR>FL#2|3?&GF0/b:EE4CY.$.u'{CYK'($'MF.$kl`DP4H~Qof)N*>/ww].EQ.T-3ZRdj3<P$>>1=H1f1rpI(Bz8Ta}bX0QInh{DSw,*)u;FEbRV0Mlj4F#D5YT0e=w:,+ze(*(^__v?-hCJmVO3m4''.CGzuPG$EGN)COg?OSZt~B]<^`DXjzF@S^mO|(e`d8H5NWOVHHc(n&m%fo1EuF,gDi?G'<Q<Wd:3C]9OP2*hqTG5i:w*L1g#n6HL'#hjm#vF^4_0#QSsqcKRQ,bQ,DC3d$gMs]ljfg&{/RLG1?UiB_a%6xwxcGpEb#9jED;)5^H'i@#>/PdNC'p@=l{PtBd9m#W0>:gVI9Q{JA%6shC(b@vJFuTRL'0H3pX=%0*Hy<R8O?deA#ffO{8a;{mFB&k(&rmkV;#>f6>@(q<;m6*G-SWf?:&QDxg>*s8QjPn6G11Y;##<J(G-%}cL@}Op&Q{7;<r}9c%A^TZ9_sOxfzw|HQFGlC'LwEvHeFu`hc(Y0;P,5BV#'6LCx*S?2(car8vV(({@vSv4{|GrTpu*nC@gZN-CpGy5BB&+/]U8q4oOhE'$=qV0}K]H<6+*AB"
end
open PySem PySem.W PyProof.Rows
set_option maxRecDepth 100000 in
set_option maxHeartbeats 0 in
theorem PySem.Challenge.cw_roomalgebra_k72_whole_two_patterns_holds : PySem.Challenge.rw_roomalgebra_k72_whole_two_patterns.Holds := by
 w_on;o_law;z_head;(case hw=>w_witness2)
 k_fill
 intro w sa sb mg mb G ye fa ob pm cd dc dv kv e1 e2 e3 e4 e5 e6 gs vs bs La c1 c2 c3 c4 c5
 z_open ye La KX ZH ZN ZT
 clear ye La ZH ZN ZT
 refine L2.FJ (k:=26) (x:="_law_script") (l:=PySem.Challenge.rw_roomalgebra_k72_whole_two_patterns) (tabs:=[(210,206),(298,294),(251,247),(258,254),(265,261),(277,273),(284,280),(244,242)]) rfl rfl ⟨rfl,by decide,by decide⟩ ?T ?F w sa sb mg mb G KX fa ob pm cd dc dv kv e1 e2 e3 e4 e5 e6 gs vs bs c1 c2 c3 c4 c5
 case T=>
  intro p q hq
  simp only [mem_cons,not_mem_nil,or_false] at hq
  rcases hq with rfl|rfl|rfl|rfl|rfl|rfl|rfl|rfl
  all_goals exact ⟨⟨_,_,_,_,_,_,_,_,_,by k_is,rfl,rfl,rfl,rfl,rfl,rfl,rfl,rfl,by decide⟩,by kernel_rfl⟩
 case F=>
  intro w mg fa h KX G hmg
  refine' K72.Hz rfl (by decide) KX G hmg ?nA_ ?nH_ ?n_Pattern ?n_Desk ?n_Never ?n_Empty ?n_AnySign ?n_Sign ?n_Outside ?n_Turned ?n_Again ?n_Either ?n_Less ?n_Both ?n_Then ?y_Never ?y_Empty ?y_AnySign ?y_Sign ?y_Outside ?y_Turned ?y_Again ?y_Either ?y_Less ?y_Both ?y_Then ?yi_Sign ?yi_Around ?yi_Pair ?yi_Desk ?yM ?b_Never ?b_Empty ?b_AnySign ?b_Sign ?b_Outside ?b_Turned ?b_Again ?b_Either ?b_Less ?b_Both ?b_Then ?q_Never ?q_Empty ?q_AnySign ?q_Sign ?q_Outside ?q_Turned ?q_Again ?q_Either ?q_Less ?q_Both ?q_Then ?q_Desk ?s_Never ?s_Empty ?s_AnySign ?s_Sign ?s_Outside ?s_Turned ?s_Again ?s_Either ?s_Less ?s_Both ?s_Then ?si_Sign ?si_Around ?si_Pair ?si_Desk ?sM ?rn2 ?rl2 ?re2 ?rs2 ?rn3 ?rl3 ?re3 ?rs3 ?dcl ?dn1 ?dn2 ?eH_ ?mH_ ?iHH_ ?vH_ ?nW ?hI0 ?cls ?mk ?na1 ?na2 ?na3 ?na4 ?na5 ?lI ?cI ?hX0 ?xo ?xc ?xn1 ?xn2 ?xn3 ?xb ?xf ?xe ?lX ?cX ?aV ?lV ?cV ?lD ?tM ?tA ?tB ?tC ?tS ?tH ?tN ?tU ?l0 ?l1 ?l2 ?l3 ?l4 ?l5 ?l6 ?l7 ?l8 ?l9 ?l10 ?l11 ?l12 ?l13 ?l14 ?l15 ?l16 ?l17 ?l18 ?l19 ?l20 ?l21 ?l22 ?l23 ?l24 ?l25 ?l26 ?l27 ?l28 ?l29 ?l30 ?l31 ?l32 ?l33 ?l34 ?l35 ?l36 ?l37 ?l38 ?l39 ?l40 ?l41 ?l42 ?l43 ?l44 ?l45 ?l46 ?l47 ?l48 ?l49 ?l50 ?l51 ?l52 ?l53 ?t54 ?zb ?z_most
  (case nA_|nH_|n_Pattern|n_Desk|n_Never|n_Empty|n_AnySign|n_Sign|n_Outside|n_Turned|n_Again|n_Either|n_Less|n_Both|n_Then|rn2|rn3|nW|aV|z_most=>exact L2.B8 (by k_is) (by decide))
  (case y_Never|y_Empty|y_AnySign|y_Sign|y_Outside|y_Turned|y_Again|y_Either|y_Less|y_Both|y_Then|yi_Sign|yi_Around|yi_Pair|yi_Desk|yM|hI0|hX0=>k_is)
  (case b_Never|b_Empty|b_AnySign|b_Sign|b_Outside|b_Turned|b_Again|b_Either|b_Less|b_Both|b_Then=>exact ⟨⟨⟨by kernel_rfl,by kernel_rfl,by kernel_rfl,by kernel_rfl⟩,by kernel_rfl,by kernel_rfl,by kernel_rfl,by kernel_rfl,by kernel_rfl,by unfold L2.wx;kernel_rfl,by unfold L2.wx;kernel_rfl,by unfold L2.wx;kernel_rfl,by unfold L2.wx;kernel_rfl⟩,⟨by kernel_rfl,by kernel_rfl,by kernel_rfl⟩,⟨by kernel_rfl,by kernel_rfl,by kernel_rfl⟩⟩)
  (case q_Never|q_Empty|q_AnySign|q_Sign|q_Outside|q_Turned|q_Again|q_Either|q_Less|q_Both|q_Then|q_Desk|dcl|cls|mk=>exact ⟨by kernel_rfl,by kernel_rfl,by kernel_rfl,by kernel_rfl⟩)
  (case s_Never|s_Empty|s_AnySign|s_Sign|s_Outside|s_Turned|s_Again|s_Either|s_Less|s_Both|s_Then|si_Sign|si_Around|si_Pair|si_Desk|sM=>exact L2.Hr (L2.JF (by k_is) (by decide)) (L2.KC (by k_is) (by decide)))
  (case rl2|rl3|lI|lX|lV|lD=>exact L2.JF (by k_is) (by decide))
  (case re2|re3=>((repeat (refine RA.DU rfl (congrArg Sum.inr (by decide +kernel)) rfl (by first|exact RA.Pm (by decide +kernel)|exact ⟨_,rfl⟩) ?_));exact RA.EQ))
  (case rs2|rs3=>decide)
  (case dn1|dn2|na1|na2|na3|na4|na5|xn1|xn2|xn3=>unfold L2.wx;kernel_rfl)
  (case eH_=>exact ⟨by kernel_rfl,by kernel_rfl,by kernel_rfl,by kernel_rfl,by kernel_rfl,by kernel_rfl,by kernel_rfl,by kernel_rfl⟩)
  (case mH_|iHH_|vH_|xf|xe=>kernel_rfl)
  (case cI|cX|cV=>exact L2.KC (by k_is) (by decide))
  (case xo=>exact ⟨_,_,_,_,_,_,_,_,_,_,_,_,_,_,_,_,L2.JF (by k_is) (by decide),by kernel_rfl,by kernel_rfl,by kernel_rfl⟩)
  (case xc|xb=>exact ⟨by kernel_rfl,by kernel_rfl,by kernel_rfl⟩)
  (case tM|tA|tB|tC|tS|tH|tN|tU|t54=>exact ⟨_,_,_,_,_,_,_,_,_,L2.B8 (by k_is) (by decide),L2.JF (by k_is) (by decide),L2.KC (by k_is) (by decide)⟩)
  (case l0|l1|l2|l3|l4|l5|l6|l7|l8|l9|l10|l11|l12|l13|l14|l15|l16|l17|l18|l19|l20|l21|l22|l23|l24|l25|l26|l27|l28|l29|l30|l31|l32|l33|l34|l35|l36|l37|l38|l39|l40|l41|l42|l43|l44|l45|l46|l47|l48|l49|l50|l51|l52|l53=>exact ⟨_,L2.B8 (by k_is) (by decide),L2.JW (L2.JF (by k_is) (by decide)) (L2.KC (by k_is) (by decide))⟩)
  (case zb=>exact ⟨L2.B8 (by k_is) (by decide),L2.B8 (by k_is) (by decide),L2.B8 (by k_is) (by decide),L2.B8 (by k_is) (by decide),L2.B8 (by k_is) (by decide),L2.B8 (by k_is) (by decide),L2.B8 (by k_is) (by decide),L2.B8 (by k_is) (by decide),L2.B8 (by k_is) (by decide),L2.B8 (by k_is) (by decide),L2.B8 (by k_is) (by decide),L2.B8 (by k_is) (by decide),L2.B8 (by k_is) (by decide),L2.B8 (by k_is) (by decide),L2.B8 (by k_is) (by decide),L2.B8 (by k_is) (by decide),trivial⟩)
#print axioms PySem.Challenge.cw_roomalgebra_k72_whole_two_patterns_holds
