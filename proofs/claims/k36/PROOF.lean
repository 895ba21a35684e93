import PyProof.Rows.All
import Wide.All
import OpenK.AllK
import Wide.FinOn
import Lean
import PyProof.EqAt
import PyProof.EqKinds
import PyProof.TupleCall
import PyProof.Draws
import PyProof.ZipIter
import PySem.Challenge.RW_roomalgebra_k36_a_patterns_machine
set_option Elab.async false
set_option linter.all false
set_option maxRecDepth 100000
set_option compiler.extract_closed false
namespace zz
open Lean
def N k a:=Syntax.node .none k a
def A:=Syntax.atom .none
def P(p s:String):=s!"Lean.Parser.{p}.{s}".toName
def T:=P "Term"
def C:=P "Command"
def Q:=P "Tactic"
def L:=N `null
def U f a:=N (T "app") #[f,L a]
def S t:=N (Q "tacticSeq") #[N (Q "tacticSeq1Indented") #[L t]]
def J k a:=N (Q k) (#[A k]++a)
def F(a:Array (Array Syntax)):=J "first" #[L (a.map λy=>N `group #[A "|",S y])]
def B(n:Nat):=
 let i:=J "intro" #[L #[N (T "hole") #[A "_"]]];let V:=N (Q "optConfig") #[L #[]];let r:=N (Q "tacticRfl") #[A "rfl"];let z:=mkIdent `z;let l:Array Name:=#[``Or.inl,``Or.inr]
 match n with
 |0=>#[J "decide" #[V]]
 |1=>#[J "simp" #[V,L #[],L #[],L #[],L #[]]]
 |2=>#[J "omega" #[V]]
 |3=>#[J "decide" #[N (Q "optConfig") #[L #[N (Q "configItem") #[N (Q "posConfigItem") #[A "+",mkIdent `kernel]]]]]]
 |4=>#[r]
 |5=>#[J "intro" #[L #[z]],A ";",J "cases" #[L #[N (Q "elimTarget") #[L #[],z]],L #[],L #[]]]
 |6=>#[J "lia" #[V]]
 |7=>#[i,A ";",F #[#[r],#[i,A ";",r]]]
 |8=>let e:=l.map λx=>U (mkCIdent x) #[mkCIdent ``rfl];#[F (((e++e.map λy=>U (mkCIdent ``Or.inr) #[y]).map λy=>#[J "exact" #[y]]).push #[J "assumption" #[]])]
 |_=>#[N (Q "withUnfoldingAll") #[A "with_unfolding_all",S #[r]]]
def R(n:String)s v m:=N (C "declaration") #[m,N (C "theorem") #[A "theorem",N (C "declId") #[mkIdent n.toName,L #[]],s,v]]
def K(x:List Char):=(List.range (x.length/10)).map λi=>((x.drop (10*i)).take 10).foldr (λx n=>n*90+x.toNat-35-(if x.toNat>92 then 2 else 0)) 0
def G:="length List some rfl none Value Addr false ref trans true heap lookup base Nat Option Int Shared get? toArray sizeLine PySem getD starEach Bool prog wpAny if_neg Program outer model le_trans lt_of_lt_of_le env int if_pos le_refl idxOf_lt_length_of_mem pins absurd type names idxOf get?_push_size Str lst decide_eq_false upd mem_cons_of_mem getElem?_append_left symm World mem_cons map size_toArray str Around getElem?_append_right toList decide_eq_true toks Frag builtin size Heap scope qual map_append false_ne_true mainGlobals range inl length_range data all_eq_true inr stack ne_of_lt take_of_length_le tup wpAny_field wpAny_mono mem_range contains zero_le mem_iff_getElem? wpAny_Call_Name_kw setIfInBounds toNat pos getElem_mem wpAny_holding push Stmt its get?_update_other beq_eq_false_iff_ne mem_cons_self kvs mem_append_right get?_update_self False mg_none_of Name wpAny_ite_false take Nodup mem_append sites reverse lt_succ_self lt_of_le_of_lt cons Array length_cons rawInt fields PassesOwn congrArg clos cell DecidableEq free intKind CodeRec getElem_idxOf Expr elim getElem?_range backTo wpAny_of_eq same objs cls a_c locals eval wpAny_call_entry of_decide_eq_true le_of_not_lt handled fresh decide_eq_true_eq data_mapFields run SeqAt builtinLookup_eq_fast wpAny_callSpecial?_slot dropLast_concat_getLast wpAny_newObj_type mem_of_lookup kindOf not_mem_nil mpr lookup_relabel_local getElem?_eq_some_iff update name length_eq_zero_iff len params mem_map compareOp sizeLine_eq and_eq_true intro PyProof lots units sysModules ofString length_take hok callWith_type1 rangeFitsLong mem_singleton codeAny_builtin Scope turned getElem?_eq_none FunFrames Attribute zero_add lt_trans FuncData leaf findIn eq_iff_iff never lookup_cons isFreed_of_fields rows size_push mapFields parts length_reverse goal True SameBut mono boot_tuple all Call doc keeps wpAny_truthy_bool wpAny_seqItems map_cons foldedSetIterable codeAny_mono append_assoc SmallTypes nil inj typeLookup_type place mg_of Pos tuple or_false bool beq_self_eq_true append_nil wpAny_standAt toNat_natCast lt_trichotomy le_of_lt_succ keep iter hideAll_none cH_ kitOne isSubtype_type function esOf codeIn cells Obj IsPair CodeHd set non wpAny_setState_of cLine Arguments wpAny_call isinst isList beq_iff_eq call binaryOp NameKind ListComp outside under_plainId take_length length_toList attributeBase tups sub_succ_lt_self sign one length_replicate drop contains_iff_mem wpAny_setField there le_of_lt frames filterMap_cons dict Lambda kind list mem_append_left wpAny_loadPart_at s₀ succ_le_succ codeAny_call_builtin EqAt plainId_quiet forIn_cons fnOf find?_cons cdv any mach l_scope codeAny wpAny_getItem_str_slice filter codeAmong Classical tabs sub func hideAll_get wpAny_setField_rec mem_filter le_add_right deeper Txt IsCell wpAny_specialOf wpAny_passesOwn wpAny_ite_split wpAny_execs_nil slot_list_index le_of_eq byContradiction SetTable two parts_len le_succ_of_le TriplesOk succ isSome TypeIs wpAny_pyIter_list testBit plain_extend_loop has IsTuple Calls tNext excClassObj cons_append Paired wpAny_isInstance take_append_drop take_add_one slot_next in1_units hideAll frame typeIs mapSeq keepIn cps zero wpAny_attempt slot_tuple_iterator_next seq bare ZipApart wpAny_updateSeq valueAt hst getElem?_toList pyNext kept followText start pickOrder mem_reverse lt_irrefl length_drop le_antisymm keywordEach forIn_nil filterMap error eq_of_beq emptyDict empty dep boot_list any_eq_true sIx stop sp_lotsafter nest mem_dis lt_of_le_of_ne listExtendWith leaving extBut either dep_pos calm bootBuiltins Tuple Range stay gens Rows sSlot codeAny_call_function wpAny_rule wpAny_execs_cons wpAny_askSetting unwish swapsWith slot_str_getitem setFlight nsIn getElem?_toArray envOfC called_set lt_succ_of_lt cA_ IntsAre sub_self spn slots sliceBounds not_lt_zero ne_of_gt line getElem?_zip_eq_some choose_spec boot_len IsTupleIter ins rest post_val_or_str plainAttrs_list cTM EqNone then_ drawn wpAny_typeOf stkFree notedBy not_eq_true' kia_one isEmpty Keyword AllBare noteFrame Subscript ForInStep wpAny_ite_true slot_tuple_getitem rule over of_hideAll listLengthHint kIn in1 if_false freeC excBase_ValueError evalArgs_plain emod_lt_of_pos dropLast String fvs zip tok retr more laid hdct cont wpAny_throw wpAny_mkInt out natCast_pow mem_flatMap le_max_left kla_obj ext_getElem eqIsQuiet_byValue emod_nonneg base' IsZip Env slot pyIter pyHash getElem?_take fnMade false_eq_true row obj slice refl rangeSize ownedTupleIsFree length_singleton item held decide_eq_decide cellsFrom backToKw Slice wpAny_pyIter_rangeiter wpAny_load typeLookup typeIs_str tAlways store_object spliced_cons relabel or_eq_true of_mem_zip nodup_append looks_findIn le_succ instObj idxOf_cons hsm4 getLast forIn_toList foldl_append ext_getElem? eq_false_iff bitNot assignEach assign Prod IsTupleKey Ends BoolOp type_list_index strSliceIndices plain_list_iadd mem_iff_getElem letOwnedTupleGo".splitOn
def H:="β γ δ ε ζ η θ μ ν ξ ο π ρ ς υ χ ψ ω Δ Θ Λ Ξ Φ Ψ Ω BT Cl Fr IO Id KK LE LT QA QB QC QD QE QF QG QH QI QJ QK QL QM QN QO QP QS QU QV QW QY QZ Qn Qo Qp Qq Qr Qs Qt Qu Qw Qx Qy Qz Q2 Q9 Q_ Q' RB RC RD RE RF RG RH RI RJ RL RM RN RO RP RQ RT RU RW RX RY RZ Ra Rb Rc Re Rg Rh Ri Rj Rk Rl Rm Rn Ro Rp Rq Rr Rt Ru Rv Rw Rx Ry Rz R0 R5 R6 R7 R8 R9 R_ SA SB SD SE SF SG SI SJ SK SL SM SN SO SQ SR SS ST SU SV SW SX SY SZ Sa Sb Sc Se Sf Sg Sh Si Sj Sk Sl Sm So Sq Sr Ss Su Sv Sw Sx Sy Sz S0 S3 S4 S5 S6 S7 S8 S9 S_ S' TB TC TD TF TH TJ TL TQ TR TU TV TW TY TZ Ta Tb Tc Td Te Tf Tg Th Ti Tj Tk Tl Tm Tn To Tp Tq Tr Ts Tt Tv Tw Tx Ty Tz T0 T6 T7 T8 T9 T_ UA UB UC UD UE UF UG UH UI UJ UK UL UM UN UO UP UQ UR US UT UU UV UW UX UY UZ Ua Ub Uc Ud Ue Uf Ug Uh Ui Uj Uk Ul Um Uo Up Uq Ur Us Ut Uu Uv Uw Ux Uy Uz U0 U1 U2 U3 U4 U5 U6 U7 U8 U9 U_ U' VA VB VC VD VE VF VG VH VI VJ VL VM VN VO VP VQ VR VS VT VU VV VW VX VY VZ Va Vb Vc Vd Ve Vf Vg Vh Vi Vj Vk Vl Vm Vn Vo Vp Vq Vr Vs Vt Vu Vv Vw Vx Vy Vz V0 V3 V4 V5 V6 V7 V8 V9 V_ V' WA WB WC WD WE WF WG WH WJ WL WM WO WP WQ WR WS WU WV WW WX WY WZ Wa Wb Wc We Wf Wg Wh Wi Wj Wk Wl Wm Wn Wo Wp Wq Wr Ws Wu Wv Ww Wx Wy Wz W3 W4 W5 W6 W7 W8 W9 W_ XA XB XC XD XE XF XG XH XI XJ XL XM XN XO XQ XR XS XU XV XW XX XY XZ Xa Xb Xc Xd Xe Xf Xg Xh Xi Xj Xk Xl Xm Xn Xo Xp Xq Xr Xs Xt Xu Xv Xw Xx Xy Xz X0 X1 X2 X3 X4 X5 X6 X7 X8 X9 X_ YA YB YC YD YE YF YG YH YI YJ YK YL YM YN YO YQ YR YS YT YU YV YW YX YY YZ Ya Yb Yc Yd Ye Yf Yg Yh Yi Yj Yk Yl Ym Yn Yo Yp Yq Yr Ys Yt Yu Yv Yw Yx Yy Yz Y0 Y1 Y2 Y3 Y4 Y5 Y6 Y7 Y8".splitOn
def X:Std.HashMap String String:=.ofList (H.zip G)
def M:Name->Name|.str p s=>.str (M p) (X.getD s s)|n=>n
def Z:="Y_ ZB ZC ZF ZJ ZV ZZ Zg Zi Zk Zl Zp Zx Zz Z3 Z7 Z8 Z' QAA QAE QAT QAa QAe QAf QAl QAx QA1 QA3 QA5 QA7 QBF QBI QBL QBM QBN QBP QBQ QBR QBV QBk QBl QBm QBn QBq QBv QBz QB0 QB8 QB9 QCA QCF QCG QCI QCN QCX QCh QCi QCu QCv QCw QCx QCy QC9 QC_ QDE QDF QDJ QDK QDL QDQ QDR QDS QDa QDc QDf QDh QDl QDm QDo QDs QDw QDz QD6 QD8 QD9 QD' QEN QEO QEP QEQ QER QES QEX QEZ QEa QEi QEq QE1 QE4 QE5 QE8 QE9 QE' QFA QFG QFH QFI QFV QFY QFZ QFj QFl QFt QFu QFv QFw QFy QF0 QF1 QF7 QGG QGT QGU QGX QGZ QGj QGk QGl QGm QGn QGp QGq QGt QGu QGw QG1 QG2 QG3 QG5 QG6 QG9 QG' QHA QHE QHF QHG QHJ QHP QHS QHd QHe QHf QHg QHh QHi QHo QHp QHq QHr QHs QHu QHv QHx QHz QH0 QIG QIO QIX QIY QIZ QIa QIb QIc QId QIe QIg QIo QIp QIq QIr QIs QIx QI4 QI7 QI9 QJO QJP QJQ QJR QJT QJV QJo QJx QJz QJ1 QJ4 QJ5 QKD QKE QKF QKJ QKN QKR QKa QKb QKc QKd QKe QKf QKg QKh QKj QK7 QK_ QLR QLS QLT QLU QLW QLY QLa QLk QLl QLm QLn QLp QLq QLr QLt QLv QL1 QL3 QL8 QMA QMB QMC QMI QMJ QMK QML QMM QMN QMO QMP QMQ QMR QMS QMT QMa QMo QMp QMq QMr QMs QMt QMu QMv QM4 QM7 QNl QNm QNn QNo QNp QNq QNv QNw QN3 QN6 QN_ QOB QOC QOD QOE QOF QOG QOH QOI QOO QOb QOf QOm QOz QO2 QPK QPS QPT QPU QPV QPe QPg QPh QPl QPn QPt QPz QP0 QP1 QP2 QP5 QP6 QP8 QP9 QP_ QQB QQF QQP QQS QQW QQZ QQa QQb QQd QQh QQl QQq QQr QQ_ QQ' QRA QRB QRC QRD QRF QRH QRI QRM QRO QRU QRZ QRf QRh QRj QRu QRy QR6 QSN QSO QSP QSQ QSR QSS QST QSU QSV QSW QSf QSg QSq QSt QSw QS0 QS3 QS8 QTA QTI QTY QTZ QTa QTb QTc QTd QTe QTf QTg QTh QTi QTk QTm QTn QTp QTq QTr QTt QTu QTv QT2 QT5 QUC QUK QUL QUM QUN QUO QUP QUQ QUR QUS QUT QUU QUV QUW Y9 Y' ZA ZD ZE ZG ZI ZK ZL ZM ZO ZQ ZR ZS ZU ZW ZX Za Zb Zc Zd Ze Zf Zh Zj Zn Zo Zq Zr Zs Zt Zu Zv Zw Zy Z5 Z6 Z9 Z_ QAB QAC QAD QAF QAG QAH QAI QAJ QAK QAL QAM QAN QAO QAP QAQ QAR QAS QAU QAV QAW QAX QAY QAZ QAb QAc QAd QAg QAh QAi QAj QAk QAm QAn QAo QAp QAq QAr QAs QAt QAu QAv QAw QAy QAz QA0 QA2 QA4 QA6 QA8 QA9 QA_ QA' QBA QBB QBC QBD QBE QBG QBH QBJ QBK QBO QBS QBT QBU QBW QBX QBY QBZ QBa QBb QBc QBd QBe QBf QBg QBh QBi QBj QBo QBp QBr QBs QBt QBu QBw QBx QBy QB1 QB2 QB3 QB4 QB5 QB6 QB7 QB_ QB' QCB QCC QCD QCE QCH QCJ QCK QCL QCM QCO QCP QCQ QCR QCS QCT QCU QCV QCW QCY QCZ QCa QCb QCc QCd QCe QCf QCg QCj QCk QCl QCm QCn QCo QCp QCq QCr QCs QCt QCz QC0 QC1 QC2 QC3 QC4 QC5 QC6 QC7 QC8 QC' QDA QDB QDC QDD QDG QDH QDI QDM QDN QDO QDP QDT QDU QDV QDW QDX QDY QDZ QDb QDd QDe QDg QDi QDj QDk QDn QDp QDq QDr QDt QDu QDv QDx QDy QD0 QD1 QD2 QD3 QD4 QD5 QD7 QD_ QEA QEB QEC QED QEE QEF QEG QEH QEI QEJ QEK QEL QEM QET QEU QEV QEW QEY QEb QEc QEd QEe QEf QEg QEh QEj QEk QEl QEm QEn QEo QEp QEr QEs QEt QEu QEv QEw QEx QEy QEz QE0 QE2 QE3 QE6 QE7 QE_ QFB QFC QFD QFE QFF QFJ QFK QFL QFM QFN QFO QFP QFQ QFR QFS QFT QFU QFW QFX QFa QFb QFc QFd QFe QFf QFg QFh QFi QFk QFm QFn QFo QFp QFq QFr QFs QFx QFz QF2 QF3 QF4 QF5 QF6 QF8 QF9 QF_ QF' QGA QGB QGC QGD QGE QGF QGH QGI QGJ QGK QGL QGM QGN QGO QGP QGQ QGR QGS QGV QGW QGY QGa QGb QGc QGd QGe QGf QGg QGh QGi QGo QGr QGs QGv QGx QGy QGz QG0 QG4 QG7 QG8 QG_ QHB QHC QHD QHH QHI QHK QHL QHM QHN QHO QHQ QHR QHT QHU QHV QHW QHX QHY QHZ QHa QHb QHc QHj QHk QHl QHm QHn QHt QHw QHy QH1 QH2 QH3 QH4 QH5 QH6 QH7 QH8 QH9 QH_ QH' QIA QIB QIC QID QIE QIF QIH QII QIJ QIK QIL QIM QIN QIP QIQ QIR QIS QIT QIU QIV QIW QIf QIh QIi QIj QIk QIl QIm QIn QIt QIu QIv QIw QIy QIz QI0 QI1 QI2 QI3 QI5 QI6 QI8 QI_ QI' QJA QJB QJC QJD QJE QJF QJG QJH QJI QJJ QJK QJL QJM QJN QJS QJU QJW QJX QJY QJZ QJa QJb QJc QJd QJe QJf QJg QJh QJi QJj QJk QJl QJm QJn QJp QJq QJr QJs QJt QJu QJv QJw QJy QJ0 QJ2 QJ3 QJ6 QJ7 QJ8 QJ9 QJ_ QJ' QKA QKB QKC QKG QKH QKI QKK QKL QKM QKO QKP QKQ QKS QKT QKU QKV QKW QKX QKY QKZ QKi QKk QKl QKm QKn QKo QKp QKq QKr QKs QKt QKu QKv QKw QKx QKy QKz QK0 QK1 QK2 QK3 QK4 QK5 QK6 QK8 QK9 QK' QLA QLB QLC QLD QLE QLF QLG QLH QLI QLJ QLK QLL QLM QLN QLO QLP QLQ QLV QLX QLZ QLb QLc QLd QLe QLf QLg QLh QLi QLj QLo QLs QLu QLw QLx QLy QLz QL0 QL2 QL4 QL5 QL6 QL7 QL9 QL_ QL' QMD QME QMF QMG QMH QMU QMV QMW QMX QMY QMZ QMb QMc QMd QMe QMf QMg QMh QMi QMj QMk QMl QMm QMn QMw QMx QMy QMz QM0 QM1 QM2 QM3 QM5 QM6 QM8 QM9 QM_ QM' QNA QNB QNC QND QNE QNF QNG QNH QNI QNJ QNK QNL QNM QNN QNO QNP QNQ QNR QNS QNT QNU QNV QNW QNX QNY QNZ QNa QNb QNc QNd QNe QNf QNg QNh QNi QNj QNk QNr QNs QNt QNu QNx QNy QNz QN0 QN1 QN2 QN4 QN5 QN7 QN8 QN9 QN' QOA QOJ QOK QOL QOM QON QOP QOQ QOR QOS QOT QOU QOV QOW QOX QOY QOZ QOa QOc QOd QOe QOg QOh QOi QOj QOk QOl QOn QOo QOp QOq QOr QOs QOt QOu QOv QOw QOx QOy QO0 QO1 QO3 QO4 QO5 QO6 QO7 QO8 QO9 QO_ QO' QPA QPB QPC QPD QPE QPF QPG QPH QPI QPJ QPL QPM QPN QPO QPP QPQ QPR QPW QPX QPY QPZ QPa QPb QPc QPd QPf QPi QPj QPk QPm QPo QPp QPq QPr QPs QPu QPv QPw QPx QPy QP3 QP4 QP7 QP' QQA QQC QQD QQE QQG QQH QQI QQJ QQK QQL QQM QQN QQO QQQ QQR QQT QQU QQV QQX QQY QQc QQe QQf QQg QQi QQj QQk QQm QQn QQo QQp QQs QQt QQu QQv QQw QQx QQy QQz QQ0 QQ1 QQ2 QQ3 QQ4 QQ5 QQ6 QQ7 QQ8 QQ9 QRE QRG QRJ QRK QRL QRN QRP QRQ QRR QRS QRT QRV QRW QRX QRY QRa QRb QRc QRd QRe QRg QRi QRk QRl QRm QRn QRo QRp QRq QRr QRs QRt QRv QRw QRx QRz QR0 QR1 QR2 QR3 QR4 QR5 QR7 QR8 QR9 QR_ QR' QSA QSB QSC QSD QSE QSF QSG QSH QSI QSJ QSK QSL QSM QSX QSY QSZ QSa QSb QSc QSd QSe QSh QSi QSj QSk QSl QSm QSn QSo QSp QSr QSs QSu QSv QSx QSy QSz QS1 QS2 QS4 QS5 QS6 QS7 QS9 QS_ QS' QTB QTC QTD QTE QTF QTG QTH QTJ QTK QTL QTM QTN QTO QTP QTQ QTR QTS QTT QTU QTV QTW QTX QTj QTl QTo QTs QTw QTx QTy QTz QT0 QT1 QT3 QT4 QT6 QT7 QT8 QT9 QT_ QT' QUA QUB QUD QUE QUF QUG QUH QUI QUJ".splitOn
def Y:Std.HashMap String Nat:=.ofList (Z.zip (List.range Z.length))
def W(g:Nat->Syntax)(s:Syntax):=s.rewriteBottomUp λx=>match x with|.atom _ v=>.atom .none v|.ident _ _ v p=>(match Y[toString v]? with|some i=>g i|_=>let v:=M v;.ident .none (toString v).toRawSubstring v p)|x=>x
def V:Nat->Syntax->String|n+1,.node _ k a=>s!"n{a.size} {(toString k).replace "Lean.Parser.Term." "."}\n"++String.join (a.toList.map (V n))|_,.atom _ v=>"a"++v++"\n"|_,.ident _ _ v _=>s!"i{v}\n"|_,_=>"m\n"
def I:Nat->List String->Syntax×List String
 |n+1,x::l=>let r:=(x.drop 1).toString
  if x.startsWith "a" then (A r,l) else if x.startsWith "i" then (mkIdent r.toName,l) else if x.startsWith "n" then
   let w:=r.splitOn;let y:=(List.range w.head!.toNat!).foldl (λp _=>let z:=I n p.2;(p.1.push z.1,z.2)) ((#[]:Array Syntax),l);let k:=" ".intercalate w.tail!;(N (if k.startsWith "." then "Lean.Parser.Term"++k else k).toName y.1,y.2)
  else (.missing,l)
 |_,l=>(.missing,l)
def D(g:Nat->Syntax)(s:Syntax):MacroM Syntax:=do
 let d:=s[1];let k:=d.getKind;let m:=s[0]
 if k==C "example" then if let some x:=d[2][1].isStrLit? then return L ((K x.toList).toArray.map λn=>R ("PySem.W.Fast.tw"++toString n) (N (C "declSig") #[L #[],N (T "typeSpec") #[A ":",mkCIdent ``True]]) (N (C "declValSimple") #[A ":=",mkCIdent ``trivial,N `Lean.Parser.Termination.suffix #[L #[],L #[]],L #[]]) m)
 if k==C "example" then
  let e:=d[1][0].getArgs++(d[2][1][1].getArgs.filter (!·.isAtom));let e:=(List.range 9).foldl (λe _=>e.map (W λi=>e[i]!)) e
  return N s.getKind #[m,N (C "definition") #[A "def",N (C "declId") #[mkIdent `zz.v,L #[]],N (C "optDeclSig") #[L #[],L #[]],N (C "declValSimple") #[A ":=",Syntax.mkStrLit ("	".intercalate (e.toList.map (V 99))),N `Lean.Parser.Termination.suffix #[L #[],L #[]],L #[]],L #[]]]
 let i:=if k==C "instance" then d[3][0] else d[1]
 unless (i.getHeadInfo matches .original ..)&&m.getArgs.all (·.getNumArgs==0) do Macro.throwUnsupported
 let f:=λm k x a=>return W g (N s.getKind #[m,N (C k) (#[A x,i]++a)])
 if k==C "definition" then f m "theorem" "theorem" #[N (C "declSig") #[d[2][0],d[2][1][0]],d[3]]
 else if k==C "abbrev" then f (m.setArg 4 (L #[N (C "noncomputable") #[A "noncomputable"]])) "definition" "def" #[d[2],d[3],L #[]]
 else if k==C "instance" then f m "abbrev" "abbrev" #[N (C "optDeclSig") #[d[4][0],L #[d[4][1]]],d[5]]
 else if k==C "inductive"||k==C "structure" then return W g s
 else Macro.throwUnsupported
def O(s:Syntax):=
 let p:=s[2][0]
 if p.getKind==T "letPatDecl" then
  let q:=p[0].rewriteBottomUp λs=>match s with
   |.ident ..=>N (Q "rcasesPat.one") #[s]
   |.node _ k a=>if k==T "hole" then N (Q "rcasesPat.ignore") a else if k==T "anonymousCtor" then N (Q "rcasesPat.tuple") #[a[0]!,L (a[1]!.getArgs.map λe=>if e.isAtom then e else N (Q "rcasesPatLo") #[N (Q "rcasesPatMed") #[L #[e]],L #[]]),a[2]!] else s
   |_=>s
  N (Q "obtain") #[A "obtain",L #[N (Q "rcasesPatMed") #[L #[q]]],L #[],L #[A ":=",L #[p[4]]]]
 else N (Q "tacticHave__") #[A "have",s[1],s[2]]
def E(s:Syntax):MacroM Syntax:=do
 let b:=s[1][2].getArgs
 if b.size%2==0 then Macro.throwUnsupported
 return N (T "anonymousCtor") #[A "⟨",L ((#[s[1][0]]++b).flatMap λe=>if e.isAtom then #[] else (match e.isNatLit? with|some n=>(#["hr","r","hhrr","q","hrhr","rr","rhr","hh","rrr3rr033","hhr","hrhhhr"][n]?.map λ(s:String)=>s.toList.toArray.map λc=>if c=='h' then N (T "hole") #[A "_"] else if c=='r' then mkCIdent ``rfl else if c=='q' then N (T "syntheticHole") #[A "?",A "_"] else N `term!_ #[A "!",N `num #[A c.toString]]).getD #[e]|_=>#[e]).flatMap λe=>#[e,A ","]),A "⟩"]
def B' s:=(Syntax.find? s (·.getAtomVal=="|")).isSome
def o(s:Syntax):MacroM Syntax:=do
 let d:=s[1][0][0];let p:=d[0];let t:=s[3][1][0]
 if B' s||s[2].getNumArgs != 0||p.getKind != Q "rcasesPat.tuple" then Macro.throwUnsupported
 let w:=(p[1].getArgs.filter (!·.isAtom)).zipIdx.map λ(l,i)=>let m:=l[0];let q:=m[0][0];let b:=l[1].getNumArgs==0;let x:=mkIdent (.mkSimple s!"ζ{t.getId}{i}");if b&&q.getKind==Q "rcasesPat.ignore" then (N (T "hole") #[A "_"],#[]) else if b&&q.getKind==Q "rcasesPat.one" then if q[0].getId == `rfl then (x.raw,#[A ";",J "subst" #[L #[x]]]) else (q[0],#[]) else (x.raw,#[A ";",(s.setArg 1 (L #[m])).setArg 3 (L #[A ":=",L #[x]])])
 let n:=w.size;let c:=(if t.isIdent then #[A ";",N (Q "tacticTry_") #[A "try",S #[J "clear" #[L #[t]]]]] else #[])++#[A ";",J "intro" #[L (w.map (·.1))]]
 return F ((((List.range n).map λk=>s!"z{k}{n-k}").filter (["z11","z12","z02","z13","z22","z23","z03","z33","z24","z32","z04","z14","z35","z44","z06","z05","z34","z25","z15","z42","z31","z21","z47","z45","z26","z27","z16","z43","z36","z46","z55","z56"].contains ·)).toArray.map (λz=>#[J "refine" #[N (T "noImplicitLambda") #[A "",U (mkIdent (`zz++.mkSimple z)) #[t,N (T "syntheticHole") #[A "?",A "_"]]]]]++c++w.flatMap (·.2)) |>.push #[J "rcases" #[L #[N (Q "elimTarget") #[L #[],t]],L #[A "with",N (Q "rcasesPatLo") #[s[1][0],L #[]]]]])
def r(s:Syntax):MacroM Syntax:=do
 let a:=s[1].getArgs
 if B' s||a.all (·[0].getKind != Q "rcasesPat.tuple") then Macro.throwUnsupported
 return N (Q "paren") #[A "(",S ((a.zipIdx.flatMap λ(p,i)=>let q:=p[0];let x:=mkIdent (.mkSimple s!"ξ{i}");let k:=q.getKind;let I:=λx=>#[J "intro" #[L #[x]],A ";"];if k==Q "rcasesPat.ignore" then I (N (T "hole") #[A "_"]) else if k==Q "rcasesPat.one" then if q[0].getId == `rfl then I x++#[J "subst" #[L #[x]],A ";"] else I q[0] else I x++#[J "obtain" #[L #[N (Q "rcasesPatMed") #[L #[q]]],L #[],L #[A ":=",L #[x]]],A ";"]).pop),A ")"]
theorem z11{A:u→Prop}{G:Prop}(h:∃a,A a)(g:∀a,A a→G):G:=h.elim λa h=>g a h
theorem z12{A B:u→Prop}{G:Prop}(h:∃a,A a∧B a)(g:∀a,A a→B a→G):G:=h.elim λa h=>g a h.1 h.2
theorem z02{A B:Prop}{G:Prop}(h:A∧B)(g:A→B→G):G:=g h.1 h.2
theorem z13{A B C:u→Prop}{G:Prop}(h:∃a,A a∧B a∧C a)(g:∀a,A a→B a→C a→G):G:=h.elim λa h=>g a h.1 h.2.1 h.2.2
theorem z22{A B:u→v→Prop}{G:Prop}(h:∃a b,A a b∧B a b)(g:∀a b,A a b→B a b→G):G:=h.elim λa h=>h.elim λb h=>g a b h.1 h.2
theorem z23{A B C:u→v→Prop}{G:Prop}(h:∃a b,A a b∧B a b∧C a b)(g:∀a b,A a b→B a b→C a b→G):G:=h.elim λa h=>h.elim λb h=>g a b h.1 h.2.1 h.2.2
theorem z03{A B C:Prop}{G:Prop}(h:A∧B∧C)(g:A→B→C→G):G:=g h.1 h.2.1 h.2.2
theorem z33{A B C:u→v→w→Prop}{G:Prop}(h:∃a b c,A a b c∧B a b c∧C a b c)(g:∀a b c,A a b c→B a b c→C a b c→G):G:=h.elim λa h=>h.elim λb h=>h.elim λc h=>g a b c h.1 h.2.1 h.2.2
theorem z24{A B C D:u→v→Prop}{G:Prop}(h:∃a b,A a b∧B a b∧C a b∧D a b)(g:∀a b,A a b→B a b→C a b→D a b→G):G:=h.elim λa h=>h.elim λb h=>g a b h.1 h.2.1 h.2.2.1 h.2.2.2
theorem z32{A B:u→v→w→Prop}{G:Prop}(h:∃a b c,A a b c∧B a b c)(g:∀a b c,A a b c→B a b c→G):G:=h.elim λa h=>h.elim λb h=>h.elim λc h=>g a b c h.1 h.2
theorem z04{A B C D:Prop}{G:Prop}(h:A∧B∧C∧D)(g:A→B→C→D→G):G:=g h.1 h.2.1 h.2.2.1 h.2.2.2
theorem z14{A B C D:u→Prop}{G:Prop}(h:∃a,A a∧B a∧C a∧D a)(g:∀a,A a→B a→C a→D a→G):G:=h.elim λa h=>g a h.1 h.2.1 h.2.2.1 h.2.2.2
theorem z35{A B C D E:u→v→w→Prop}{G:Prop}(h:∃a b c,A a b c∧B a b c∧C a b c∧D a b c∧E a b c)(g:∀a b c,A a b c→B a b c→C a b c→D a b c→E a b c→G):G:=h.elim λa h=>h.elim λb h=>h.elim λc h=>g a b c h.1 h.2.1 h.2.2.1 h.2.2.2.1 h.2.2.2.2
theorem z44{A B C D:u→v→w→x→Prop}{G:Prop}(h:∃a b c d,A a b c d∧B a b c d∧C a b c d∧D a b c d)(g:∀a b c d,A a b c d→B a b c d→C a b c d→D a b c d→G):G:=h.elim λa h=>h.elim λb h=>h.elim λc h=>h.elim λd h=>g a b c d h.1 h.2.1 h.2.2.1 h.2.2.2
theorem z06{A B C D E F:Prop}{G:Prop}(h:A∧B∧C∧D∧E∧F)(g:A→B→C→D→E→F→G):G:=g h.1 h.2.1 h.2.2.1 h.2.2.2.1 h.2.2.2.2.1 h.2.2.2.2.2
theorem z05{A B C D E:Prop}{G:Prop}(h:A∧B∧C∧D∧E)(g:A→B→C→D→E→G):G:=g h.1 h.2.1 h.2.2.1 h.2.2.2.1 h.2.2.2.2
theorem z34{A B C D:u→v→w→Prop}{G:Prop}(h:∃a b c,A a b c∧B a b c∧C a b c∧D a b c)(g:∀a b c,A a b c→B a b c→C a b c→D a b c→G):G:=h.elim λa h=>h.elim λb h=>h.elim λc h=>g a b c h.1 h.2.1 h.2.2.1 h.2.2.2
theorem z25{A B C D E:u→v→Prop}{G:Prop}(h:∃a b,A a b∧B a b∧C a b∧D a b∧E a b)(g:∀a b,A a b→B a b→C a b→D a b→E a b→G):G:=h.elim λa h=>h.elim λb h=>g a b h.1 h.2.1 h.2.2.1 h.2.2.2.1 h.2.2.2.2
theorem z15{A B C D E:u→Prop}{G:Prop}(h:∃a,A a∧B a∧C a∧D a∧E a)(g:∀a,A a→B a→C a→D a→E a→G):G:=h.elim λa h=>g a h.1 h.2.1 h.2.2.1 h.2.2.2.1 h.2.2.2.2
theorem z42{A B:u→v→w→x→Prop}{G:Prop}(h:∃a b c d,A a b c d∧B a b c d)(g:∀a b c d,A a b c d→B a b c d→G):G:=h.elim λa h=>h.elim λb h=>h.elim λc h=>h.elim λd h=>g a b c d h.1 h.2
theorem z31{A:u→v→w→Prop}{G:Prop}(h:∃a b c,A a b c)(g:∀a b c,A a b c→G):G:=h.elim λa h=>h.elim λb h=>h.elim λc h=>g a b c h
theorem z21{A:u→v→Prop}{G:Prop}(h:∃a b,A a b)(g:∀a b,A a b→G):G:=h.elim λa h=>h.elim λb h=>g a b h
theorem z47{A B C D E F I:u→v→w→x→Prop}{G:Prop}(h:∃a b c d,A a b c d∧B a b c d∧C a b c d∧D a b c d∧E a b c d∧F a b c d∧I a b c d)(g:∀a b c d,A a b c d→B a b c d→C a b c d→D a b c d→E a b c d→F a b c d→I a b c d→G):G:=h.elim λa h=>h.elim λb h=>h.elim λc h=>h.elim λd h=>g a b c d h.1 h.2.1 h.2.2.1 h.2.2.2.1 h.2.2.2.2.1 h.2.2.2.2.2.1 h.2.2.2.2.2.2
theorem z45{A B C D E:u→v→w→x→Prop}{G:Prop}(h:∃a b c d,A a b c d∧B a b c d∧C a b c d∧D a b c d∧E a b c d)(g:∀a b c d,A a b c d→B a b c d→C a b c d→D a b c d→E a b c d→G):G:=h.elim λa h=>h.elim λb h=>h.elim λc h=>h.elim λd h=>g a b c d h.1 h.2.1 h.2.2.1 h.2.2.2.1 h.2.2.2.2
theorem z26{A B C D E F:u→v→Prop}{G:Prop}(h:∃a b,A a b∧B a b∧C a b∧D a b∧E a b∧F a b)(g:∀a b,A a b→B a b→C a b→D a b→E a b→F a b→G):G:=h.elim λa h=>h.elim λb h=>g a b h.1 h.2.1 h.2.2.1 h.2.2.2.1 h.2.2.2.2.1 h.2.2.2.2.2
theorem z27{A B C D E F I:u→v→Prop}{G:Prop}(h:∃a b,A a b∧B a b∧C a b∧D a b∧E a b∧F a b∧I a b)(g:∀a b,A a b→B a b→C a b→D a b→E a b→F a b→I a b→G):G:=h.elim λa h=>h.elim λb h=>g a b h.1 h.2.1 h.2.2.1 h.2.2.2.1 h.2.2.2.2.1 h.2.2.2.2.2.1 h.2.2.2.2.2.2
theorem z16{A B C D E F:u→Prop}{G:Prop}(h:∃a,A a∧B a∧C a∧D a∧E a∧F a)(g:∀a,A a→B a→C a→D a→E a→F a→G):G:=h.elim λa h=>g a h.1 h.2.1 h.2.2.1 h.2.2.2.1 h.2.2.2.2.1 h.2.2.2.2.2
theorem z43{A B C:u→v→w→x→Prop}{G:Prop}(h:∃a b c d,A a b c d∧B a b c d∧C a b c d)(g:∀a b c d,A a b c d→B a b c d→C a b c d→G):G:=h.elim λa h=>h.elim λb h=>h.elim λc h=>h.elim λd h=>g a b c d h.1 h.2.1 h.2.2
theorem z36{A B C D E F:u→v→w→Prop}{G:Prop}(h:∃a b c,A a b c∧B a b c∧C a b c∧D a b c∧E a b c∧F a b c)(g:∀a b c,A a b c→B a b c→C a b c→D a b c→E a b c→F a b c→G):G:=h.elim λa h=>h.elim λb h=>h.elim λc h=>g a b c h.1 h.2.1 h.2.2.1 h.2.2.2.1 h.2.2.2.2.1 h.2.2.2.2.2
theorem z46{A B C D E F:u→v→w→x→Prop}{G:Prop}(h:∃a b c d,A a b c d∧B a b c d∧C a b c d∧D a b c d∧E a b c d∧F a b c d)(g:∀a b c d,A a b c d→B a b c d→C a b c d→D a b c d→E a b c d→F a b c d→G):G:=h.elim λa h=>h.elim λb h=>h.elim λc h=>h.elim λd h=>g a b c d h.1 h.2.1 h.2.2.1 h.2.2.2.1 h.2.2.2.2.1 h.2.2.2.2.2
theorem z55{A B C D E:u→v→w→x→y→Prop}{G:Prop}(h:∃a b c d e,A a b c d e∧B a b c d e∧C a b c d e∧D a b c d e∧E a b c d e)(g:∀a b c d e,A a b c d e→B a b c d e→C a b c d e→D a b c d e→E a b c d e→G):G:=h.elim λa h=>h.elim λb h=>h.elim λc h=>h.elim λd h=>h.elim λe h=>g a b c d e h.1 h.2.1 h.2.2.1 h.2.2.2.1 h.2.2.2.2
theorem z56{A B C D E F:u→v→w→x→y→Prop}{G:Prop}(h:∃a b c d e,A a b c d e∧B a b c d e∧C a b c d e∧D a b c d e∧E a b c d e∧F a b c d e)(g:∀a b c d e,A a b c d e→B a b c d e→C a b c d e→D a b c d e→E a b c d e→F a b c d e→G):G:=h.elim λa h=>h.elim λb h=>h.elim λc h=>h.elim λd h=>h.elim λe h=>g a b c d e h.1 h.2.1 h.2.2.1 h.2.2.2.1 h.2.2.2.2.1 h.2.2.2.2.2
end zz
def zz.a0:=zz.S (zz.B 0)
def zz.a3:=zz.S (zz.B 3)
def zz.a4:=zz.S (zz.B 4)
def zz.a7:=zz.S (zz.B 7)
def zz.a8:=zz.S (zz.B 8)
def zz.a9:=zz.S (zz.B 9)
noncomputable section
local macro_rules(kind:=Lean.Parser.Term.tuple)|s=>zz.E s
local macro_rules(kind:=Lean.Parser.Tactic.obtain)|s=>zz.o s
local macro_rules(kind:=Lean.Parser.Tactic.rintro)|s=>zz.r s
local macro_rules(kind:=Lean.Parser.Tactic.tacticLet__)|s=>return zz.O s
local macro_rules(kind:=Lean.Parser.Tactic.show)|s=>return zz.N (zz.Q "exact") #[zz.A "exact",s[1]]
local macro_rules(kind:=«term_<*_»)|s=>return zz.N `«term_=_» #[s[0],zz.A "=",zz.U (Lean.mkCIdent ``some) #[s[2]]]
local macro_rules(kind:=«term_⁻¹»)|s=>return zz.N (zz.T "proj") #[s[0],zz.A ".",Lean.mkIdent `heap.objs.size]
local macro_rules(kind:=«term_>>>_»)|s=>match s[2].isNatLit? with|some n=>return zz.U (Lean.mkCIdent ``autoParam) #[s[0],Lean.mkCIdent (`zz++.mkSimple s!"a{n}")]|_=>Lean.Macro.throwUnsupported
local macro_rules(kind:=term!_)|s=>match s[1].isNatLit? with|some n=>return zz.N (zz.T "byTactic") #[zz.A "by",zz.S (zz.B n)]|_=>Lean.Macro.throwUnsupported
local macro_rules(kind:=Lean.Parser.Command.declaration)|s=>zz.D (λ_=>.missing) s
example(I:g_ X QF σ H s)(T:VR K mg XA UI)(H:Hp)(vs:γ V)(QF:γ (θ×UP))(Q:VK)(K:Qt)(B:γ Ω)(i:υ)(_E:XK){a b:υ}(L:LN)(F:aa X.BT X.w X.K X.mg X.ς CX k f fd ps sp){b:θ}(mg:QL->χ η)(s:∀b xs,H b<*.RJ xs->H' b<*.RJ xs)(h:WI P w H0 H cW ti L wk t wd y m d ks vks ws Ta R B)(w:QV)(h:hI L W B)(h:∀u:LN,ZK->B1.Φ (SZ L W1 0 u) μ=B2.Φ (SZ L W2 0 u) μ)(_:∀H',a_ H H'->Q (.bl ο) H')(E:η->ω->Prop)(H':Hp){a b c:υ}(st:Rd R Bm (k+1)=Rd R Bm k)(_:v_ H m L W B)(R:It->Hp->Prop)(b:((SJ RX (Ψ es X.QA)).VA Z9=μ)>>>4)(s:a_ H H')(a:hI L R Bm)(_:∀(f:θ)(W:LL)Zg QAe,KT ts H H'->Mc H' f L W B->(∃v,Az L W B v)->Lg L W B=aj L t->D5 L t->Q Ze H')(xs:γ V)(_:(∀d p pv H',KT ts H H'->p∈t.Td->ah H' p pv->P9 H' d pv L (aj L p)->E (.ν UI) (δ (d,μ,)) H'))(n:υ){xs:γ V}(s:ω)(_:ah H t v)(σ:St)(nd:(ts.QY Y0.fst).Rq){φ:Qx->Prop}(k:∀b u,h.Δ b<*u->h'.Δ b<*u)(WB:X.RG=X.QA::X.Id)(A:LN->Prop){us:γ η}(Vl:∀y∈sc.QI,y.2=.SA->∃a,b.ρ y.1<*a)(a:θ)(a:Cv (gW W) L.β ks R)(_:hI L W B)(_:t.WX≤n)(h:vb P w H d We ks)(W:LL)(WT:GJ K mg cW fI fdI){K:Qt}(a:Cv g L.β ks R)(kw:V3 K (.ν fw)=ο)(VJ:∀y a,b.ρ y<*a->X.QA.UO.ρ y<*a)(H1:Hp)(e:H a<*.XO C dx fs)(_:vs=[.ν a]){E:η->ω->Prop}(hz:YG s.π z TI TO .ζ)(F:so K x q st f fd)(X:Cx)(ts:γ ZX)(_:w.β≤5000)(ho:ς.Δ f<*YM Z0 q_tg (t_ aG) (n' aG) (hY aG) R8 Tm pm c ctv){i:υ}(us:γ η)(Q:Ω->Hp->Prop){H':Hp}(t:Pt)(h:∀(j:υ)(x y:V),xs[j]?<*x->ys[j]?<*y->QT H n x y (e j))(e:H d<*Bj D d Ri)(_:x=.ν a)(Ta:γ θ)(R8:γ QAM)(_:ci ts H)(_:vs=[v,.Qn (tx w)])(f:θ)(a:(X.K=K)>>>4)(k:KT ts H H')(X:K.In s.π)(x:QL)(E:XK){a:υ}(Id:γ YH){mg:QL->χ η}(j:υ)(kV Tm pm:η)(B1 B2:γ Ω)(A C:LN->Prop)(k:LN)(_:t.sz≤1000)(C:θ)(h:PE X e te)(hw:∀c∈w,c∈L)(_:GD H cW wk L t wd y md)(ps:γ QL){H:Hp}(r:V->γ V->Hp->VK->Prop){w:QV}(r:ae vs us){n:υ}(ns:γ ψ)(c:Kd->θ){p RX:T6}(Rest:Hp->Prop)(_:BL L)(Q:η->ω->Prop)(w:LN)(i0:(P0,Rt,)∈ts)(_:a≤b)(hB:CP ς mg)(_:t.WX≤12){ks:γ κ}{a:Type}(Sr:∀vs H Q E,sp vs H Q E->vs.β=ps.β)(hk:X.QA.Sh n<*.local)(g:LN->υ->LN)(k:∀b o,b∉S->s.π.Δ b<*o->h'.Δ b<*o)(F:KR X.BT X.w X.K X.mg X.ς f fd ps sp)(x:Aj P w H h)(k:∀b u,b≠e->h.Δ b<*u->h'.Δ b<*u)(hf:X.fn n=ο\/X.QA.Qy.QI.ρ n<*.local)(he:(Ψ (e::C) X.QA=Zn::Ψ C X.QA)>>>4){m:QL->χ η}(l:LN)(_:vs=[.ν m,.ν m2])(_:vs=[.ν a,.Qn ZU])(T:(ts.QY Y0.fst).Rq)(hz:xs.β≤Λ)(b:((SJ RX (Ψ a X.QA)).VA Z9=μ)>>>4)(bl:Bm.β=R.β)(_:Bd c H t ZW)(hC:UR ς c P1)(h:Bf g L s ts ws n k)(h2:j<ks.β)(t:TA){H H':Hp}(Rt:γ QBc)(m1:∀c∈f1,c=i1\/c∉[z,TO,i1,i2])(t:∀b xs,H b<*.RJ xs->H' b<*.RJ xs)(l:∀b xs,H b<*.QM xs->H' b<*.QM xs)(_:g_ X QF σ H' s')(c:υ->St->Hp->Prop)(B':γ Ω)(ok:Aj P w H h){B:γ Ω}(ns:(d==S4)=μ)(t:Tok){xs ys:γ V}(I:nN s.π x dx C mA){o:HO}(ks:γ κ)(r:af v u)(n:Ae X.K C f)(_:H m<*.RJ [.Qn ZU,.ν wy,.ν mk])(h:zg L a b=ο)(h:∀b∈[z,TI,TO,i1,i2],aX X QF H b)(st:EK z TI TO i1 i2 d1 d2 k H s.π)(hw:ws[i]?<*w)(M:Ce X.K C f)(_:vs=[.ν m]){a:θ}(_:v_ H m2 L W2 B2)(Xl:Ω->Ω->Ω)(_:((∃k,t=.TR k)\/∃c,t=.Um c)){j:υ}(_:x=.ν p)(_:x=.ν l)(h:z8 P w H d ti ts)(d:hI L W B){t:Pt}(k:∀b u,s.π.Δ b<*u->h'.Δ b<*u)(_:Un (rf Id) [] H H' s.π s'.π)(e:∀i<k,Rd W B (i+1)≠Rd W B i)(H H':Hp){c A B:Prop}{Ri:γ (a×θ×V)}(_:v_ H m L W1 B1){S kV Tm pm ct:η}(t:∀b H,c xs.β b H->D.nx b H)(h:d.Vl H xs)(_:hI L R Bm)(_:(o=.QM (b' k)\/o=.RJ (b' k)))(sc:TB)(p:θ)(_:c≤b)(_:Q v H){Sh:QL->χ Ud}(r:V->χ ψ->χ ψ->Hp->VK->Prop)(hg:ς.Δ g<*(oc,od,.VL fd,sl))(s':ω)(ta tb:TE)(an:χ θ)(m:υ)(W1 W2:LL)(_:vs=[v])(_:Wd L w)(h:Qx)(lo hi:χ ψ)(ks b:γ κ){ts:γ Pt}(P:IO)(k:υ)(I:g_ X a b H s)(I:g_ X c d H s)(i j:υ)(Bm:γ Ω)(_:H y<*.QM QBo)(_:lb K H a QAo){l:γ a}(hz:s.π.Δ z<*Dh T b1 TI TO)(h:Cw g L s0 mk U ks ws R B q)(i j:ψ)(I:g_ X a c H s){D:EF X.BT X.w a}(h1:j<Rc.β)(x y:V)(h':Qx)(g:κ->υ->κ)(Q:St->Hp->Prop)(hz:ys.β≤Λ)(_:H l<*.QM xs)(hp:H p<*.RJ xs)(_:x=.bl c)(Q:Hp->Prop)(_:x=.QB i)(_:y=.QB i)(hz:∀R∈Rs,R.β≤2100)(a:QEF>>>4){ts:γ Tok}(ts:γ Pt)(a:i≤w.β)(_:H md<*.QM (Bm.QY V.bl))(L w:LN)(_:a≤c){b:Type _}{A:Qo}(h:lb K H a xs)(c:υ)(b:r<W.β){Q:b->ω->Prop}(d:θ)(d1 d2:Sd)(a:∀x∈l,x<8){a b c d:υ}(_:b≤5000)(N:γ QL)(_:Ta.β=W.β)(u:LN)(b:bj ZG m)(j:AH H P0 Rt)(_:hI L W1 B1)(_:AH H P0 Rt)(Y:UR ς c Pj)(ς:Qx)(e:Rd W B (k+1)=Rd W B k)(_:(o=.QM xs\/o=.RJ xs))(f:QL)(h:v_ H m L W B)(hi:X.N[i]?<*n){b:Type}(h:Dk H m L W B)(te:TE)(_:CI K C)(sp:Sp)(_:Rest H)(d:Bf g L s ks ws ks.β 0)(_:(∀H',E QGc ζ H'))(h1:PS X st t)(i:(x::f).Rq)(_:S0.β=k+1)(h:AH H P1 a)(h:PX X st τ)(_:W1.β≤8)(_:W2.β≤8)(_:Dj H Ta R)(hp:R6 Y9 X.A X.QA X.xe){ns:γ ψ}(f:∀b∈S,aX X QF H b)(q:Q (decide (x=y)) s)(X:K.In h)(s:B5 H H')(b:GL K mg XU cRE c fdX)(b:Ω)(r:υ){a b:LN}(m m2:θ)(_:Q (.bl (!o.Vg)) H)(C:AN ς R8 Qy fr Xy)(x:EI P w fv s.π k a)(v:υ->LN)(_:(∀x∈k,x<W.β))(C:AN ς R8 VC [] [])(_:Ae K C f)(m:θ)(s:BY P0 H H')(_:W.β≤8)(u:Un fs ex H H1 h h1)(u:η)(it:θ)(f:υ->St->Hp->Prop)(r:γ V->Hp->VK->Prop)(hw:Ξ.Within mA ns){vs:γ η}{d:Type}(r:Vr (HU κ) Ri xs)(hn:xs.β≤1000000)(_:vs=[.ν m,.ν v])(d0:X.U3.π.Δ e=ζ)(hb:ym X.K fd ps [])(_:vs=[.ν a,.ν b])(B1:γ Ω)(_:H p<*.XO C dx [])(h:t=μ->a≤1/\b≤1)(e:∀c,c∈L↔c∈d)(_:b<(2^63))(mu:Jo (H x))(hc:X.Wm=ο)(xs ys:γ V)(a:EH fv x v)(m:hI L W B)(h:H a<*o)(st:Rb){X:Cx}(r:am k A)(_:Aj P w H' s'.π){L:LN}{knd:Ξ.KeyKind P w κ}(n:X.QA.code=.ν c)(ts:γ θ){d:Sd}(f:ts.β=(e_ m).β)(h:ς.StaysIn s.π)(_:H p<*.QM (b' l)){a:ψ}(fs:γ QEr)(_:x=.Qn z)(_:a0)(_:a1)(_:a2)(a:hI L W B)(_:x=.ν d){u:HO}(b:QA6>>>3)(fp:γ θ)(r:V->Hp->VK->Prop)(I:g_ QGW QF σ H s)(a:s<W.β)(x:wu P w s.π k a)(d:∀x∈b,x∈L)(ha:PA X (e::C) t)(ys:γ V)(hm:X.mg x<*.ν C){ts:γ ZX}(_:(a+64)<b)(ta:TA){Q:VK}(x0:a0)(x1:a1)(mk:LN->Ω)(l:γ a){ys zs:γ V}(Z:CP ς mg)(WK:Kb K cW){l:γ b}{N:γ QL}(a xs:_){D:Y2}{x:QL}(pl:IsPart vl lo)(Q:χ ψ->Hp->Prop)(i:PA X (e::a) t)(_:H wy<*.RJ QBo)(h:l.QJ a=l.QJ b)(e:ks[R.β]?<*k0)(ns:LN)(_:vs=[.Qn ZU,v])(Ri:γ QHI)(hN:X.N.Rq)(n:Gl X x)(lo a:χ ψ)(lo:χ ψ)(wy mk:θ){Ri:γ QIt}{Ri:γ QFN}(B:A.SV=ζ)(q:υ)(p:υ->Prop)(k:υ×LN){k:υ×LN}:=[(KK X.BT X.w),(pv 0),(λ_ z=>nomatch z),(pv 1),(λvs H Q E h=>?_),(Rd R Bm k),((0),(0),(0),(0)),(∀c∈u,c∈L),(λ_ _=>rfl),(.QM (ys++[y])),(pv 2),(e_ m),(KK BT w),(.ν c),(tx L),(.ν a),(θ×γ (T6×QL)),(.ν s⁻¹),((sc.QI.Tk λy=>y.2 != .SA||X.QA.Qy.QI.ρ y.1==δ .R9)=ο),(o_ 0),(pv 3),(.ν f),(∀y∈sc.QI,y.2=.local->sc.QI.ρ y.1<*.local),(.ν p),(h7 (ln AK)),(μ,SR e X.QA,),(AD I q (!1)),(.ν C),(CO λ_ _ _ z=>z),(QD _),(.Ue elt [(.Rn x px,UG,ifs,(0))] sc RX),(5,1,!3,5,!0,!3,!3),(.RB ε),(Tz W B k r s),(U9 x q (t_ st) (n' st) (hY st) .ζ kV Tm pm an U' ct),(.ν D),(.ν e),(·.1),(θ×UP),(λA Id s H vs Q E hr h=>?_),(KK P w),(L2.QO (L2.QO H l (.QM xs)) e (r_ e XU (δ d))),(QO (QO H P0 (.tbl ps')) d (p_ d Qz)),(λv=>B.Φ (SZ L W 0 v) μ),(X.fn x=ο\/X.QA.Qy.QI.ρ x<*.local),((sc.QI.Tk λy=>y.2 != .SA||X.QA.Qy.QI.ρ y.1==δ .R9||X.QA.Qy.QI.ρ y.1==δ .SA)=ο),(∀x,Tr UG X.QA x=pure x),(4,m,m2,L,W,l,B,n,1,b.mt,b.ma,a.mt,a.ma,b.le,a.le,g,e,q),(λa b u=>Bm.Φ (SZ L R (rs.Φ a 0) u) μ≠Bm.Φ (SZ L R (rs.Φ b 0) u) μ),(QL×θ),(ws.Φ ((Rd R Bm k).QJ (m_ R Bm k (SZ L R 0 u))) []),(ps,s _ _ i k,g,λx f=>(b x f).imp id λ⟨m,l,d⟩=>(m,l,s _ _ (λz=>?_) d)),(lt_size e),(by with_unfolding_all rfl),(by kernel_rfl),(∀c∈w,c∈L),(l' (HR g.dS) (E7 (v:=.ν d1) (!4) g.kS ε) ZD ZL),(L.QJ c),(.Qn ZU),(λU' A Id s H vs Q E hr h=>?_),(∀c o,c∉[z,TO,i1,i2]->g.Δ c<*o->g'.Δ c<*o),(∀e,a_ H e->e D<*.QM ys->f D (i+1) ys e->R2 e),(s⁻¹+1),(zl Zc u5),(XR (LE (VR.slice_le z _ _) hz,λt' k=>a t' k)),(λz=>nomatch z),(L.QY λc=>if S.RO c then 1 else 2),(.QM [.Qn ZU,.Qn (tx L.Ru),.Qn ZU]),(Ar T.Sr Y'),(.QM ys),(GH (ι:=Kd) (C:=c) (f:=λ_=>fT) (fd:=λ_=>b4) (sp:=λ_=>dg c 12) (pv 6) (λk=>(PK.pc k).cl) mT (λ_=>XT 12) ap (λ_=>bT) BV),(∀b o,s.π.Δ b<*o->h'.Δ b<*o),(ns.QY V.QB),(.SW 0 0 (aD w)),(Ak _),(pv 4),(Ψ (e::es) X.QA=Zn::Ψ es X.QA),(.Ue elt [(c,UG,ifs,(0))] sc RX),(Em i j d r b g o f u x t),(ys++[y]),(∀x c,X.QA.UO.ρ x<*c->c≠b),(_,ε),(ks.Rp (i+1)),(λR h=>(0,h)),(·.2),(.Pass ZI),(∀y∈sc.QI,y.2≠.R9),(i_ ?_),(U9 x Qz (t_ st) (n' st) (hY st) .ζ kV Tm pm an U' ct),(Ap R ZG m),(ts.Rp (AL ZQ k)++t::ts.Uq (AL ZQ k)),(λi h=>i≤x.β/\h.Δ I<*AB x t ((x.β:ψ)-1-(i:ψ))),(_,QK _ ε,5),(Ah P w),(.QM []),(w.β+1),(X.QA::X.Id),((γ.Q' m).QY λj=>(Rd R Bm k).QJ j),(((f.Xz X.N).Tk λy=>y.1==y.2||sc.QI.ρ y.1==ζ)=ο),(Or.RB ε),(Bt (f:=Q5) (pv 5) ε),(ax w i j),(SB P w),(.Qn (tx w)),(0,6,ao (!3) (0,m,L,W,B,1,b.mt,b.ma,b.le,g,e,q)),(.ν x),(b∈X.ex\/X.U3⁻¹≤b),(.ν t),(av (aD w) ZQ),(.ν it),(T6×QL),(sc.QI.ρ x<*.local),(rf X.RG),(λb o e n O B=>?_,λb o e n O B=>?_,I.ς.SA,λb o e B=>?_,I.ς.Uk,I.ς.frzs,I.ς.tbls),(μ,SR a X.QA,),((SJ RX (Ψ [] X.QA)).VA Z9=μ),(.Wo [.Rn x px,.Rn y py] kt pt),(fl W B k),(Ta.QY V.ν),((Rd R Bm k).QJ (m_ R Bm k r)),(λxs H Q=>∃x t b,xs=[x,.ty T]/\ak X.K H x t/\UJ X.K t (.QH T)=δ b/\Q (.bl b) H),(V0 (λ_=>(#[]:Ry η))),(∀φ,o≠.ext φ),(.RJ (b' ((γ.Q' W.β).VF λr=>B.Φ r μ))),(.Rn x p),(GH (Bt Y' ε) (λk=>(b k).cl) G L N I BV),(n_ 3 c_j.nd (ry b6 bs (q4 (Ee G' Y' (CJ c_) (CJ (o5 AU c_ (o5 E_ ZO c_)))) ZD))),(EP X QF σ Q),(L2.QO g D ZM),(Ea Eb c_),(0+(i:ψ)),(λxs H Q=>∃p ys,xs=[.ν p]/\(lb X.K H p ys\/pu X.K H p ys)/\Q (.QB ys.β) H),(.QB _,H,I.X0 _,QAy,q),(al Q6 (.ν i) (al Q5 QBZ (al Q3 QAW []))),(by simpa using e),(by simpa using h),(Ψ [e] X.QA=Zn::Ψ [] X.QA),(pv 5),(n%((tx l).β:ψ)),((f.Tk λy=>sc.QI.ρ y != δ .local)=ο),(4,j,λi g cg H1 VJ Vl fr ne N r o X=>?_),((2:ψ)^62),((a:ψ)+(1:ψ)),(((Wa a.Qw 0 lo:υ):ψ)==0&&(1:ψ)==1&&(Wa a.Qw a.Qw c-Wa a.Qw 0 lo)==a.Qw),(∀x∈Ri,(dK P w ti).kin H x.1 x.2.1),(AX L W1 B1),(Lg L W1 B1),(pv 6),(.Qn (tx (aK t))),(CU L S),(cs [100,101,115,114,101,118,101,114]),((x.β:ψ)-1),((i:ψ)+1+(j:ψ)),(a_.QO hp),(.RJ xs),(0,p,_,2,e,Av (j:=0) ε,0,6,ac (!3) ?_),(.ν b),(w.Ss.setOrder a ep),(Tc (·.RU 3 η.ζ)),(AW d [(Q6,.ν l,)]),(λr s'=>r=.ok (.ret (.T9 ο))/\OldK i.π s'.π/\s'.os=i.os/\Xf s'.Wr),(Ξ.W.fnX Z0 q_tg (t_ aG) (n' aG) (hY aG) R8 .ζ .ζ Tm pm ζ ZS ctv),(k_ hp ad (6,ac (!3) (k_ hp aq (0,L,w,x,u,1,O,!6,hw,o,λa W m I=>?_)))),(AR A w),(.ν d),(by simpa using hw),(B.QY V.bl),(VI.QY QA2),(mq Y'),(0,l1,λD r=>q D _ _ (a_.QO r) SO (u.kp (a_.kp (a_.QO r)),trivial)),(Rd W B k),(.Rx ε .Tw),(pu.of hp),(DZ T.Sr ZD),(.Tl QBw (e::es) [] RX),(.ν i1),(x,s⁻¹+1,),(w_ C ζ (.ν h.SM.Qw)),(vh ZQ k),(aj L t),(b' l++[.QB 0]),(kT.ξ (KT.of s')),(q _ λl=>nomatch nr l),(∀(j:υ)(x:V),tv[j]?<*x->Dp H' (if j=1 then L.Ru else L) t x),(RH (LT QAP (I.ok.cab x c L t))),(λi m b H=>m=xs.β-i/\i≤xs.β/\c i b H,(xs.β,!1,RP _,u),3),(Rj _ (Rj _ (HL a e))),(Xa Y9 (X.A.mark (δ v)) X.QA (cameBackBy Y9 X.A X.QA X.xe)),(·.RU 3 (R0 X.QA.SQ)),(L2.QO (L2.QO H2 zt (.RJ [.QB 0])) st (.RJ [.bl ο,.ν zt])),(k_ a ad (6,ao (!3) (0,mk _ q))),(k_ i ad (6,ao (!3) (4,mk _ q))),(f_ ?_),(QO h D ZM),(λH=>Two H m m2 L W1 W2 B1 B2),(q4 ZO Zd),(λj=>if j=0 then decide (k.1=k'.1)else decide (k.2=k'.2)),(vs++dvs),(I.S7.SW Zs),(Ψ (e::a) X.QA=Zn::Ψ a X.QA),(xs.Φ j 0=ys.Φ j 0),(N.β-fr.β),(ws.QY λg=>(Rd W B k).Φ g 0),(a,_,e,b,Av (j:=0) ε),(Wa a.Qw a.Qw c-Wa a.Qw 0 lo),(QO H D (.QM ((x.V4.Qq.VF p).QY λc=>V.Qn ⟨#[c]⟩))),(Ri++[(k,b,v,)]),(λe=>(SB P w).is (k:ψ) e.2),(·.RU 0 (R0 (Wu w m (i+1)))),(∀c∈v,c∈L),(Tz W B u h1 h2),(λxs H Q=>∃z,xs=[.Qn z]/\z.β≤Λ/\Q (.QB z.β) H),(tx l),(l.Rp i++l.Uq (i+1)),(RP _),(.RJ [.QB (i:ψ),x]),(QO H e (r_ e C ζ)),(VH.propDecidable _),(Ii (h 0 _ _ ε ε)),(.ν i2),(_,QK _ ε,1),(pf na P w K mg ς N x Qz Qy f (.ν j) R8 A Id s H E),(η.ν e::us),(Bw H e),(λD hD=>rfl),(.Rn x RX),(LT QAP I.ok.above),(hb _ _ _ _ ?_),(DictOfH.new h),(envX Qz Qy s⁻¹ f cd R8),(bB na P w K mg ς N Qz Qy f (.ν j) R8 A Id s H E),(∀c o,c∉[z,TO,i1,i2]->s.π.Δ c<*o->h'.Δ c<*o),(sc.Uz=.UL),(d.QY (·,ο,)),(BN Hc (!4) ap XM (mq QBO)),(λA Id s H vs Q E j h=>?_),(Ki P w K mg XU ts),(λA Id s H vs Q E U h=>?_),(a_.QO (o:=.QM (b' rs)) as),(ay (q _ λl=>nomatch cF l (.RB λ_ z=>nomatch z))),(∀x∈Ri,Fa H x.1 x.2.1),(.RJ [.Qn ⟨#[c]⟩,gx']),(mn B1 W1.β W2.β λH=>Two H m m2 L W1 W2 B1 B2),(E7 (v:=.QB 8) (!4) B QAy),(Ψ es X.QA),(λb a=>(f b a).1),(wpAny_handled ?_),(Dc (EE P w) d Ri),(Bj (Eh P w) d Ri),(Dx N vs Xy),(ts.QY V.ν),(V0 (·.Ra η.ζ)),(e::T::C::rf X.RG),(Lg L W2 B2),(λa b=>b=a),(δ (d,ο,)),((λj=>(ys++[c])[j]?)∘((λi=>n+1-1-i)∘υ.Vf)),(R[(Rd R Bm k).QJ j].QY λg=>(Rd R Bm k).Φ g 0),(.QB (i:ψ)),(QL×V),(.QM xs),(λ_ s'=>∃σ' H',g_ X QF σ' H' s'/\Q σ' H'),(Rd W B (k+1)),(Gq s.π (y_ U H)++rf Id),(.ν z),(QO H s⁻¹ (.RJ [a,b])),(.ν I),(·.RU 1 (R0 ((i:ψ)+1))),(mq ZD),(bB CX P w K mg ς N Qz Qy f cd R8 A Id s H E),(λv H2=>(∀u∈U,H2 u=ζ)->Q v (X1 U H1 H2)),(QO H a o),(ps.Xz us),((p,w,)::P.Xz vs),(pu.of e),((k:ψ),η.QB (k:ψ) t,),(∃v,Az L W B v),(q4 Y' ZD),(δ (.Tl _ [_,_,l] _ _)),(SR e X.QA),(g i j),(f (.QB i t) (.QB j u)),(.ν l),(κ×θ×V),(dK P w ti),(λ_ _=>Rl),(Ds wi tt te),(λy h e=>QG e (b y h)),(Yd g (i_ (q h' h d (Uu (lt_size g)) k z))),(υ.YA _ _),(BN Hc (!4) ap XM (mq (Bt (f:=Z1) QCC ε))),(m_ W B j r=m_ W B j s),(((γ.Q' m).QY λj=>(Rd R Bm k).QJ j).Rp 9),(δ v),(∃m,W 0 m b H),(∀f H',N f H'->∃l,l<m/\W (i+1) l f H'),(∃m,W 0 m a H),(∀c H',N c H'->∃k,k<m/\W (i+1) k c H'),(!(Builtin.QL.occurrences j i 0 j.β 1).Xd),(.Qn ⟨#[c]⟩),(pw L W B k r s),(5,1,!3,1,!3,!3),(L2.QO H8 D QBD),(W8 Qz Qy s⁻¹ f cd),(aY z P w K mg ς N Qz a f U' A Id s H E),(Sf ?_ (by size_fits)),(∀y∈sc.QI,y.2=.SA->∃a,R8.ρ y.1<*a),(λr=>B.Φ r μ),(Fv (CG Ed Y' ZD QAq)),(ry a8 S (q4 Y' (c_))),(Xa (KK pg d) B g λe s'=>Rf (.WS e) s'),(V.QB (((V.Qn nm::us).β:υ):ψ)=V.QB 1),((0:ψ)+(a:ψ)),(.TH e f RX),(QO (QO H dx (.own x)) x (.XO C dx [])),(HT.Wa xs.β xs.β hi-HT.Wa xs.β 0 lo),(.bl _,H,I,1,3),(λ_=>?_),(λh=>?_),(ks++[k]),(S0.QY V.ν),(C i Tm d g),(.ν S),(Cy Bm ZG m),(.ν m),(υ.Vf.Tx h),(Ne.QU i),(υ.le_max_right _ _),(aK x),(strP x<ES k+1),(AX L W2 B2),(SZ L W 0 b),(mq ZO),(Bb Ck),(λR h=>(k_ h1 be h)),(DU K),(Ar T.Sr ZO),(a_ H H'),(Ar T.Sr Zc),(i_ QA8),(X.YX v),(S_.Sj ε),(.Rn x px),(LN->Prop),(.ν XU),(fl W B n),(λ_=>rfl),(.ν UI),(a_.QO WB),(δ (.Tl _ [.Tl _ [_,_,_,l] _ _] _ _)),(zl Y' u5),(q,Ξ.W.cellsFrom_some _ _ _ (.RB q)),(beq_builtin_none _),(intKind_is _ _ _ _),(υ.le_add_left _ _),(.RJ [.QB (i:ψ),.QB QCV,.Qn (tx w)]),(l' (Gx K) ZD c_ ZL),(BH T.UY T.U0 WY ZD),(Em aT a0 ag a9 ab ap a1 ar bb bd a8),(.ν C::us,kw),(∀y a,R8.ρ y<*a->X.QA.UO.ρ y<*a),(.tbl #[]),(X.fn y=ο\/X.QA.Qy.QI.ρ y<*.local),(TZ (SY ε _)),(AE L QCS 0 c),(z7 (pv 8) c_),((2:ψ)^63),(Br×V),(I.ς.SA b o e n a),(.Qn x),(Ψ [a] X.QA=[QBg]),(by simpa using h1),(hY st),(∃vs,o.RD=.R5 vs),(L.Φ Zw 0),(eJ i.π H),(i_ (i_ (i_ (.ν s⁻¹,_,3,1,g)))),(((WH QCb (UM ZQ ts).Θ)[i]?).QY _),(RS.AB (tx v) S (((tx v).β:ψ)-1)),(∃v,Az L W' B' v),(.Vb k x y),(λ_ _ s h=>h.SL s),(.RJ [.QB 0,.QB 0]),(ry h l (q4 Zc ZO)),(T0 X G aV),(oh (g d s f H Q I h) λc j e=>?_),(oh (n d s f H _ I h) λc l e=>?_),(oh (n d s g H _ I h) λv k f=>?_),(rI (λ_ j=>0<j) λi j=>.QB (i%j)),(λy=>if y=So then δ v else mA y),(QO (QO H d n) t (.QM (vks++[v]))),(k,h1,GM h2,a),(.QB (((W.Φ r []).Φ k 0:υ):ψ)),((a+1)+b),(by simpa using c),(∀b∈G,H' b=ζ),(setAttr QBX So v),(i_ (0,i_ h)),(HT.Wa xs.β 0 lo),(η.ν z,[],),(ol _ e),(Ne.QU a),(X.A.mark (δ Z6)),(l++[x]),(F i f d),(forIn [η.ν i1,.ν i2] _ _>>=_),(V0 (·.pop)),((Rd R Bm k).QJ j),(m_ R Bm k r),(by simpa using b),(i_ (f_ (wpAny_fieldsOf f c ?_))),(Ie W1 B1 W2),(SZ L W1 0 x),(St->XK),(CS k),(pv 7),(KQ cW P0 Rt),(.QM [.QB 0]),(kT.ξ (KT.of s6)),(ks.Rp i),(λv=>V.Qn (tx v)),(o5 AU ZO c_),(a_.kp C),(mq (Ar T.Sr QAr)),(a_.kp (a_.QO hb)),(λh' d g e=>k Rc c hz h' d g e),(F.args_tuple_iterator_next_1 _),(Ψ [a,b] X.QA=QBg::Ψ [b] X.QA),(SZ L W2 0 (v1 j)),(JQ i (.RB (Sk p)) (.RF (Sk p))),(λi v=>(dD w a m ts ep)[i]?<*v),(λ_ _ s h=>(h.1.SL s,h.2.SL s)),(zl (o5 Ju (o5 Hd ZO c_) c_) c_),(κ×V),(λ_ q=>q),(.QB i),(.bl b),(e::es),((Bh l c _).Sj g),(AY c d),(lb.of hp),(b' ns),(B3 QCn K),(QO H s⁻¹ QBD),(λa=>F.args_object_init_2 a _),(RA.b' (γ.Q' n)),(.ν q),(∀b o,H b<*o->b≠p->H' b<*o),(2*n+1),(v r++[L.Φ k 0]),(hY Be),(pv 11),(pv 10),(dx,X8 ew),(hY bc),(Kc P0 Rt),(0,6,ao (!3) QAK),(q4 ZD ZO),(Fe (f:=Q6) K Y'),(.ν E),(Rm X G Z),(Rm X G Y),(Ew r ta tb),(λe' s''=>CX Id H s E e' s''),(X.N[i]?<*x),(SZ L W r w),(∀o,g.Δ i1<*o->g'.Δ i1<*o),(∀o,g.Δ i2<*o->g'.Δ i2<*o),(.Uo p (!1)),(SZ L W r u),(SZ L W s u),(∀u∈U,∃φ,H1 u<*.ext φ),((SJ RX (Ψ C X.QA)).VA Z9=μ),(gW W),(h,g,d,t,os),(gh B1 0 []),(Al te tNil),(SK (a:=(η.ν it,[],)) ε ?_),(λj=>i≤j),(λj x y b a=>c (h j x y b a)),(rp t),(λU' A Id s H vs Q E g h=>?_),(((2),5),5),(λD hD=>!1),(.QB (r:ψ)),(.QB (s:ψ)),(Ar T.Sr ZD),((Bx (zl QAj c_) (C4 QAc)).pt),(BJ (A1 (BH T.UY T.T7 Tj Zc))),(.RJ [rp t (f.Φ j 0),.ν D2]),(a.SA c d q n f),(setAttr ZW f u),(· < 128),(Ψ [a] X.QA=QBg::Ψ [] X.QA),(aD w),(d'.QY (·,μ,)),(.QM (l++[gx'])),(yc B W.β λH=>v_ H m L W B),(El W1.β W2.β),(uP W1.β W2.β),(0,u,x,(4),1,j,!6,!6,2,i _,3),(HX ε T.Xz QDP),(AR (aj L t') w),(RH QAP),(us++ds),(λ_ s''=>CX Id H s E e s''),(.RF ε),(cs.QY λc=>(⟨#[c]⟩:QL)),(VP _ _),(revObj b ((Rc.Θ.Qw:ψ)-1)),([a],[]),((e_ m).QY λ(n:υ)=>(n:ψ)),(aj L x),(RL b ε (x:=.Qn x t) ε ?_),(b' QCj),(QP _ h),((λj=>ys[j]?)∘λi=>n-1-i),(.ν tD),(l.ξ k),(.QB zn),(a+(b+1)),(.Qn x t),(y b o e a),(SP X QF D),(λb o g e=>(L.2 b g).ξ e),(I.ok.hd j),(λ_=>ζ),(us,[]),(WG N vs),(.ν j),(λw hw=>BD d f r fs w QCl),(χ η),(λb o g e=>(D.2 b g).ξ e),(e::T::rf X.RG),(b0::suite),(δ (.Rn x np)),(AY c f),(Tf W r Zw),(Tf W s Zw),(ψ.ofNat.Tx z),(λv c R r=>?_),(λz=>?_),(.Ub (.ν fa) ([.ν a],[])),(I.ok.hd r),(.QM (ms ws++[.Qn (tx a)])),(.QM (Ta.QY V.ν++[.ν a])),(.ν e::vs),(Uj e f X.QA QFJ=SR e X.QA),(strP y<ES k+2),(aI A),(h 1 _ _ ε ε),(o_ 1),(t_ Be),(n' Be),(.QB z),(hY aG),(ys=ts.QY V.ν),(λA Id s H vs Q E o h=>?_),(J.ξ (G.ξ l)),(ψ.VY (R7 υ.cast (hF l))),(λ_=>ai (1,1)),(a_.kp A),(BH T.UY T.T9 boot_bool Y'),(tx L.Ru),(∀f,aJ (fs.ρ f) (mA f)),(QO H p (.QM (xs.US j v))),(∀x∈Ri,FI H x.1 x.2.1),(a++[L.Φ q 0]),(b,p,.QB ((wm ks).β:υ),),(.QM (B.QY V.bl++[.bl b])),(.RJ [.Qn ZU,.ν I,.ν D]),(k_ e ad ?_),(Bb (By u5 (AI u5 u5 u5))),(a_.QO (o:=.QM [.ν t]) d),((((xs.β:υ):ψ)-1).RW+1),(Em L M z Q y C N D R S P),(TP X QF σ Q),(Wa a.Qw 0 lo),(μ||(SJ cpos QEY).VA Z9),(.RJ [.QB (k.1:ψ),.ν b]),(Ri++[(k,v,)]),(F.args_list_index_2 _ _),(L2.QO h D ZM),(∀q∈VI,UR ς q.1 q.2),(Ub (.ν fI) (.ν e::us)),(.QB (k:ψ) t),(γ.length_filter_le _ _),(X.A.mark QFa),(Tc (·.RU 4 (η.T9 ο))),((h u d).mp e),(λa b=>a&&!b),(F.typeCall_reversed_1 _),(EO (o_ 2) Zc),(λv H'=>v=.UT/\Q QBX H'),(.QB (((tx w).β:υ):ψ)),(λR h=>(4,h)),(!decide (V.bl x=V.bl y)),(a::b::XQ),(I.wish _),(b,o,),(.QB QFK,H,I.X0 _,QAy,q),(.Compare a [op] [b] RX),(Ub Zq us),(QO H D (.QM (xs.QY f))),(λv H2=>v=.UT/\Q Z6 H2),(λz=>QG z λy=>Ω.Q9 y),(F.newCall_reversed_1 _),(Yd y (i_ (G s' d j f))),(Lg L W B),(λhe=>?_),((i:ψ)+1),(0,p,_,2,i,Av (j:=0) ε,3),(0,a,0,.RF QFB,6,ao ε ?_),(k_ a ad (6,ac (!3) QDH)),(k_ i ad (6,ac (!3) QDI)),(pu.of h2),(σ.US i QFa),(.bl ο),(∀b∈fp,aX X QF H b),(x.above y c (Ξ.Sg h)),(Af xs lo hi),(b' ws),(λc v d q=>k c v ?_ q),(γ ψ),(F.args_tuple_hash_1 _),(Builtin.Tv.nextOf QBb),(WD QEw),(λb f=>(h b (iz f)).1),(Bj QFO d Ri),(λb f=>(j b (iz f)).1),(v7 h1),(g k0 q),(SZ L W' 0 u),(f.β=X.N.β),(Dx N [v] Xy),(h',g,d,t,os),(Qx.get?_push_at ε ε),(λa s2 h2=>f_ (UB ?_)),(SS b_N d NX ?_ (NY _)),(x,v,h1,h2,1),(u++[c]),(tx w),(gA W2 S QAV),(λa b=>a||b),(λa b=>a&&b),(η.ν a::us),(SS Vv ty eW ?_ (io _)),(w.β-j),(i+1+j),(parts_dep z),(.ν fg),(.ν fm),(Fz Y' ZD ε),(mq Zc),(hY bK),(hY bx),(hY bJ),(hY bI),(((1),5),5),(H' B<*.QM (C.QY V.ν)),(L.QY λ_=>2),(h7 (ln QAr)),(cq (AT b9 QAj c_ QAq)),(o5 AU Zd c_),(w.Rp i),(.ν O),(.ν au),(λb o g e=>R b o g e),(Rj _ (Rj _ (HL p e))),(Ξ.Within.Rx So v hw),(.XO C dx (al f y fs)),(λb o g e=>G b o g e),(Xi.yield ((p.1,a,)::r)),(.Tl QBw (e::a) [] RX),(.Tl QBw (e::C) [] RX),(c,u,g,d y c _ g z,ru),(V.QB ((n+1+i:υ):ψ)),(RZ (wpAny_point QA8)),((SB P w).hash (k:ψ)),(Tc (·.RU 2 (.ν h))),(j,g,Rv _,h1,h.2.2,h2),(.RJ [rp t k.1,.ν l]),(Ee G' Y' FB (CJ QB3)),(.RF λ_ z=>nomatch z),(WL _),(δ u),(I.Xs x c e),(I.ς.UF b o e n O B),(.Y3 .And (b::XQ) RX),(f.S7.SW Zs),(2^62),((xs,q,QD _),t b H p),(intBits_le_64 h1 h2),(Uc .Add),(D_ λi j=>.QB (i+j)),(D_ λi j=>.QB (i-j)),(o,h1,h2),(γ.take_sublist _ _),(Ub (.Qu id) (v::us)),(.Xh a b RX),(FC x),(o,c,e,d),(Xi.yield r),(λy d=>t y (QP _ d)),(g b o q),(h_ g),(δ x::p),(RY a),(SZ L W s w),(AE L W r c),(κ×θ×η),((atKey xs k).QY QA2),(QO H d (Bj D d QDg)),(f_ (wpAny_letGo ?_)),(bs.QY V.bl),(ba g L s w),(ws++[a++[L.Φ k 0]]),([.ν z],[]),(S0.QJ j),(SZ L R 0 w),(λ_=>ο),(KK pg d),(e::rf X.RG),(.QB (a:ψ)),(AL ZQ k),(Ψ [] X.QA),(Wi X.QA ev),(∀vs,o.RD≠.R5 vs),(∀ws,o.RD≠.R5 ws),(λf=>?_),(ts.Rp n),((n:ψ)-1-i),((x:ψ)/2^j),(ks[j]=k),(ta.QY V.ν),(.Uo k x),(vs.Φ a []),(AY hp f),(AY hp d),(δ (-1,a,)),(.Yb ζ ζ (δ st) y),(λ_=>(1,1)),(QO H7 d ob),(a_.YS H),(.QM QC5),(.QB QB4),(DZ T.Sr ZO),(h7 (C6 (EQ ZO QAr))),(C8 ε T.Q' (mq QAj)),(L,1,hL,λ_=>Iff.rfl,1),(storeName X.QA x u),(.Y3 .Or (b::XQ) RX),(.UnaryOp .Not a RX),(a,H',I.Wz,q),(u RX a s f H _ I h),(QO H' e (bq e C d)),(λ_ s'=>Q .next s'),(WA vs k),(by simpa[d]using k),(.RJ [uJ fv x,.ν b]),(h.wr.2 i b r h1 h2),(by simpa[f]using o),(sc.QI.ρ y<*.local),(.XO (c t.kd) dx fs),(λs' d c j y f=>?_),(λz=>(z.1,.RB z.2)),(k,h1,Fp h2 e,a,c,b),(λz x h=>c z x QKV),(ml UI ts (λ_=>fR)),(BH T.UY T.T7 Tj ZD),(BH T.UY T.T7 Tj Y'),(BH T.UY T.U0 WY Y'),(4,1,q _ (j _ _ nr)),(.RF x),(.ν y),(v,H,I,r,h),(-(2^64)<j/\j<2^64),(Sv .NotIn),(Ξ.W.makes_of X b),((k,x,)::r),(RH (Rv _)),(by simpa using h2),(va I n m k ?_ l c),((o,e,f.1),λa h=>?_),(t_ st),(n' st),(I.ok.hd C),(f++[l[i]]),(UH _ (!1)),(.ν R),(W.Φ s []),(W.Φ r []),(xs=ys),(δ Ze),(h.SM.Qw+1),(k.headD 0),(.ok .next),(λz=>z.2,λz=>(a,z)),(VJ y c h1),(VJ z c h2),(f_ (UU g t y QA8)),(.TR k),(c (.Uo k)),(c (.Vb k)),(QO f D ZM),(ah H'),(.ν r),(pu.of (K:=X.K) hp),(Bt (f:=Q6) QCC ε),(hY D6),(hY D7),(b' rs),(λH=>v_ H m L W B),(jq n (!3)),(z7 ZO QB3),((a_.QO aN).ξ sm2),(a_.US h k),(CJ c_),(!0,!0),(z7 Y' QB3),(s2 _ _ hp),(x,dx,1,SO),(FU m d k3),(ry J S (q4 Zc ZD)),(k≠0),(Bp lV),(xs++ys),(E1 P w),(by simpa using O),(I.X0 _),((al f y fs).ρ g),(QL×η),(.own x),(by simpa using o),(.T9 ο),(oc,od,.VL fd,osl),(δ j),(An _ _),(AF _ _),(by simpa using f),(f_ QGV),(Fb P w),(.bl _,H,I.X0 _,1,q),(N.β-vs.β-Xy.β),(by simpa using n),(by simpa using k),(y_ U H),(by simpa using d),(KE k t),(λb c=>(d b c).1),(wm QAz),(Rw E w),(∀b∈F,H' b=ζ),(J.Wb i a/\Q Z5 a),(δ d),(e0::es),(Bo W B),(UP.putSet c.Θ N),(setEntries a>>=_),(Ic W B),(u++[c],[],!1,h,1),(FT k),(Dn k),(7,F.mro_reversed),(.QB (ks.QJ k:υ)),(pu.of (K:=X.K) h),(.QM (k.2.QY QJm)),(tx z),(bF K),(t,r,0,SO,yl j WB),(v.ξ Y),(Bt (f:=Q3) Y' ε),(Bt (f:=Z1) Y' ε),(Bt (f:=Z1) ZD ε),(f,fd,m1,F.kp,e,z),(t,1,SO),(Hy (i:=0) ε QDt),(CG mJ QHD Gr QAq),(bP,P0,),(bM,P1,),(bt,P2,),(bs,P3,),(bo,P4,),(bm,P5,),(bl,P6,),(bk,P7,),(fs.QY Z9),(QO H x o),(I.ok.noex b o e),(.Y3 .And QMU RX),(X.wish E),(g a s c H _ I h),(by simpa using g),(n a s d H _ I h),(λb u q=>ol _ q),(λb u e=>ol _ e),(∀v,(x,v,)∉a),(.Yb lo hi ζ p2),(λb n q=>ol _ q),(.RJ ys),(λ_ _ q=>ol _ q),(o,k it (!1) o e,r),(x.V4.Qq.Rp j.RW),(σ.US i (δ Z6)),(Yz (.Rn y d) QA),(Tf W r i),(Tf W s i),(Th.Sm ..),(Qx.DictOf.new h),(a++[x]),(r<n\/(r=n/\q<k)),(F i h'.SM.Qw c0),(d⁻¹+2),(∀x∈ns,x≤M),(min xs.β ys.β),(Fq hC ab),(z,k _ q),(r_ e C d),(λb o z=>Xn _ z),(VJ y c h),(η.QB (k':ψ) t),(Wu w m i),(load s⁻¹>>=_),(_,DO l c (Bp l)),(cj c n k),(strP x<4),(QO H D (.QM zs)),((n:ψ)-1),(mq (z7 QBO QIM)),(Im cW XU),(X1 [D,C] H2' bS),(Im cW UI),(zl ZO u5),(0,6,ac (!3) QJI),(z,(χ.δ.Tx b).QU),(AT b9 Zd c_ QAq),(AT dN Zd c_ QAq),(a_ H1 H'),(0+(i:ψ)+(k:ψ)),(t,0,.RF QMn,6,3),(hp.kp (a_.kp I)),(λq=>nomatch q),(.Y3 .Or QMU RX),(I.S7.SW (Yo _)),(ns.QY WData.QB),(pw L W B k _ _),(eqIsQuiet 8 ZW),(z,H,I.X0 _,a,q),(∀c∈a,c∈L),(o,k o e,r),(λH' e=>e.ξ h),(η.ν e::us,[]),(UM ZQ ts),(dD w a m ts ep),(λz=>QG z (!1)),(∀c∈v,c∈u),(μ,SR e1 X.QA,),(μ,SR e2 X.QA,),(η.ν T != η.ζ),(j' ..,λx b=>?_),((tx z).V4[·]?),((KT.of e).ξ k),(4,6,6,ac (!3) ?_),(0,6,ac (!3) QBW),(LE (Uu r) (!0)),(C8 ε T.Q' QIV),(.QM [V.Qn QNL]),(Z.kp (a_.kp N))]
@[reducible]def zz.u:=(zz.v.splitOn "\t").toArray
@[reducible]def zz.w(i:Nat):=(zz.I 99 (zz.u[i]!.splitOn "\n")).1
local macro_rules(kind:=Lean.Parser.Command.declaration)|s=>zz.D zz.w s
local macro_rules(kind:=Lean.Parser.Command.variable)|s=>if s.getHeadInfo matches .original .. then return zz.W zz.w s else Lean.Macro.throwUnsupported
@[reducible]def LN:=List Nat
@[reducible]def LL:=List LN
open PySem.W (Frag fnOf mg_of mg_none_of nsIn kitOne codeIn CodeHd keepIn hideAll fnMade hideAll_none kia_one kla_fn kla_obj emptyDict hideAll_get isFn Looks instObj envX tabObj exmOne of_hideAll takerIn callWith_K makesIn plainGet any_some looks_clsIn set_plain methodObj)
open List (getElem?_eq_getElem length_map getElem?_map getD_eq_getElem?_getD mem_cons mem_singleton length_append mem_of_getElem? map_append mem_range size_toArray all_eq_true mem_cons_of_mem length_range mem_map getElem_mem mem_append length_cons idxOf_lt_length_of_mem getElem?_append_left mem_cons_self map_cons mem_iff_getElem? take_of_length_le not_mem_nil getElem?_append_right getElem_idxOf mem_append_right length_take getElem?_range lookup_cons append_nil forIn_cons find?_cons take_length length_reverse mem_filter append_assoc forIn_nil getElem?_eq_none length_eq_zero_iff cons_append filterMap_cons mem_reverse length_drop any_eq_true take_add_one mem_append_left length_replicate contains_iff_mem dropLast_concat_getLast replicate of_mem_zip idxOf_cons mem_flatMap ext_getElem map_map Perm nodup_cons Nodup take_append_drop getElem_inj)
open Nat (le_refl le_trans zero_le ne_of_lt lt_of_lt_of_le lt_trans lt_succ_self lt_of_le_of_lt le_of_not_lt le_of_lt le_of_eq sub_self lt_trichotomy lt_irrefl le_of_lt_succ le_succ succ_le_succ ne_of_gt le_add_right not_lt le_succ_of_le not_lt_zero le_antisymm sub_succ_lt_self)
open PySem.Heap (get?_push_of_some lt_size get?_push_size SameBut size_push get?_update_self get?_update_other DictOfH)
open PyProof.Rows (boot_tuple boot_list boot_bool boot_str boot_isinstance boot_int boot_reversed boot_zip boot_max boot_any boot_all)
open Option (map_eq_some_iff)
open Bool (and_eq_true or_eq_true not_eq_true')
open PySem.Obj (mapFields mapSeq data_mapFields isFreed_of_fields)
open PySem.F (called_set store_object slot_list_index plainAttrs_list plainAttrs_str type_list_index excBase_ValueError)
open PySem (boot_len)
open Array (length_toList getElem?_toList forIn_toList)
open Int (toNat_natCast)
abbrev Qk(l:γ υ):γ Char:=l.QY Char.ofNat
def Eo Zl(_:b<a):(a-(b+1))<(a-b):=by lia
def AY QAf(_:a<c)(_:b=c):a<b:=by lia
def Ip QAf(_:((max c a)+1)≤(b+1)):a≤b:=by lia
def D8 QD9:(-QCJ)≤(a:ψ):=by lia
def Ep QAf(_:a<c)(_:c=b):a<b:=by lia
def D9 Zl(_:¬a<b)QFl:a=b:=by lia
def Kj QAf(_:((max a c)+1)≤(b+1)):a≤b:=by lia
def Nm QAf:(min (a-b) (c-b))≤c:=by lia
def GM Zl(_:a<b):a<(b+1):=by lia
def Nn{b:υ}QSN:(max (0:ψ) (min a (b:ψ)))=(((min (a).RW b):υ):ψ):=by lia
def CW Zl(_:a<(b+1)):a≤b:=by lia
def Fj QD9(_:0<a):(a-1)<a:=by lia
def CY QD9:(0:ψ)≤(a:ψ):=by lia
def K_ Zl(_:a=9):((a:ψ)-((b:ψ)+(1:ψ))).RW=(8-b):=by lia
def GN Zl(_:(a-b)=0)(_:¬a<b):a=b:=by lia
def Ci Zl(_:¬b<a):a≤b:=by lia
def DE QD9:(-QCJ)≤QCK:=by lia
def Er QAf(_:a=c)(_:¬b<c):a≤b:=by lia
def DF Zl QFl:a<(b+1):=by lia
def Fk Zl(_:a<b):(a:ψ)<(b:ψ):=by lia
def Fl Zl(_:(a+1)<b):a<b:=by lia
def Iq Zl(_:((max b a)+1)≤12):a≤12:=by lia
def Ir Zl(_:b<a):((a-1)-b)<a:=by lia
def Fn QAf(_:c<b)QMI:a<b:=by lia
def Iu Zl QFl:(a+(b-a))=b:=by lia
def Iv Zl(_:b<a):(((a:ψ)-(1:ψ))-(b:ψ))=((((a-1)-b):υ):ψ):=by lia
def Es Zl(_:a<b):a≤b:=by lia
def CZ QD9(_:a≤11):a≤12:=by lia
def Iw Zl(_:(a-b)<1)(_:¬a<b):a=b:=by lia
def Fo Zl:a<QH1:=by lia
def GO QAf(_:c≤5000)QMI:(min a b)≤100000:=by lia
def Et QSN(_:¬(0:ψ)≤a):a<(0:ψ):=by lia
def Fp Zl(_:a<(b+1))(_:a≠b):a<b:=by lia
def GQ QAf(_:a<c)(_:c<b):a<b:=by lia
def Ix{b:υ}QSN(_:a<(0:ψ)):(max (0:ψ) (min (a+(b:ψ)) (b:ψ)))=(((a+(b:ψ)).RW:υ):ψ):=by lia
def DG QAf(_:c=a)QJQ:a≤b:=by lia
def Iy QMS(_:(b+d)=(c-a))QMI:(a+b)≤c:=by lia
def GR Zl(_:a=(b+1))QMT:(a:ψ)<QCJ:=by lia
def Fq QAf(_:b=(c+1))(_:a=c):a≤b:=by lia
def zo39 Zl(_:a≠b)QFl:a<b:=by lia
def GT{b c:υ}QSN QQ_(_:a<(c:ψ))QJQ:a<QHH:=by lia
def GV Zl QTY:(a+1)<b:=by lia
def DI Zl:a≤(a+b):=by lia
def Iz Zl(_:0=(a-b))(_:b≤a):a=b:=by lia
def Fs QAf(_:a=c)QJQ:a≤b:=by lia
def GW QAf(_:a≤(c+1))QJQ:a≤(b+1):=by lia
def IA QMS(_:(a<b∨(a=b∧c<d))):(a<b∨(a=b∧c<(d+1))):=by lia
def IB Zl(_:((max a b)+1)≤12):a≤12:=by lia
def C0 QD9(_:a≤3):a≤16777216:=by lia
def GX{b c:υ}QSN QQ_(_:(-(c:ψ))≤a)QJQ:(-QHH)≤a:=by lia
def GY QD9(_:1≤a):(0:ψ)<(a:ψ):=by lia
def Ft Zl:QH1=QKi:=by lia
def IC QAf(_:(a+(c+1))<b):a<b:=by lia
def GZ Zl(_:a=b):a≤b:=by lia
def Eu QD9(_:a≤8):a≤16777216:=by lia
def ID QAf(_:c<b)(_:c=a):a<b:=by lia
def G0 QD9:¬(a:ψ)<(0:ψ):=by lia
def IE Zl(_:a<((b:ψ)+(1:ψ)).RW):a≤b:=by lia
def IG QAf(_:QKi<c):QH1<c:=by lia
def II QMS(_:a<d)(_:(d+b)≤c):QKi≤c:=by lia
def G1 Zl QFl:(a+1)≤(b+1):=by lia
def G2 Zl:(QCK+(b:ψ))=((QH1:υ):ψ):=by lia
def G3 QSN(_:(0:ψ)<a):a≠(0:ψ):=by lia
def IJ Zl:(0:ψ)≤(QF2+(b:ψ)):=by lia
def zo64 Zl(_:a≠(b+1))(_:a≤(b+1)):a≤b:=by lia
def IK Zl(_:a<b):(a+1)<(b+1):=by lia
def IL QAf(_:((a+(3*(b+1)))+5)<c):(((a+1)+(3*b))+5)<c:=by lia
def G4 QD9:(0:ψ)≤QF2:=by lia
def IM Zl QTY:a<b:=by lia
def IN Zl(_:(a:ψ)<(b:ψ)):a<b:=by lia
def IP Zl QTY:((a+1)+1)<b:=by lia
def IQ Zl(_:a<b)(_:b≤16777216):(a:ψ)<(QHH-(1:ψ)):=by lia
def Fu QD9(_:a≤5000):a≤16777216:=by lia
def IR Zl(_:a=b)(_:b≤8):(a:ψ)<QCJ:=by lia
def IS QAf(_:c=a)(_:¬b<c):a≤b:=by lia
def G5 QSN(_:(0:ψ)≤a):¬a<(0:ψ):=by lia
def IT QAf(_:c<(b+1))QMI:a<(b+1):=by lia
def IU QAf(_:b=(a+c)):a≤b:=by lia
def IV Zl(_:b≤a):¬a<b:=by lia
def G6:(0:ψ)<QCJ:=by lia
def IW Zl QFl:a≤(b+1):=by lia
def IX QD9(_:a≤2100):(a:ψ)<QCJ:=by lia
def IY QAf QQ_(_:c=a)QJQ:(a:ψ)<QHH:=by lia
def K' QAf(_:b<((c:ψ)-QCK).RW):QH1<c:=by lia
def Lb Zl:(a-b)≤a:=by lia
def IZ QMS(_:a<c)(_:c=d)(_:b=d):a<b:=by lia
def I_ Zl QMT QFl:QF2<QCJ:=by lia
def Ja Zl(_:b<(a+1)):¬(a+1)≤b:=by lia
def Jb Zl(_:b=a):a≤b:=by lia
def Jc Zl(_:(a:ψ)=(b:ψ))QMT:QCK<QCJ:=by lia
def Jd QAf(_:c<b)QMI:(a+1)≤b:=by lia
def Lc QAf(_:b<a)(_:c=a):((a-1)-b)<c:=by lia
def Je Zl(_:b=1):(a+b)≤(a+1):=by lia
def G7:(-QCJ)≤(0:ψ):=by lia
def Jf QD9(_:a≤11):(a+1)≤13:=by lia
def Jg QD9(_:a≤5000):(a+1)≤9000:=by lia
def Jh Zl(_:a<b):a≠b:=by lia
def Ji QD9:a<(a+1):=by lia
def Jj QD9(_:1≤a):a≠0:=by lia
def Ld Zl(_:0<b)(_:a≤(b-1)):a<b:=by lia
def F0 QD9:(-QCJ)≤QF2:=by lia
def F1 QD9(_:a<1000):a≤16777216:=by lia
def F3 Zl QMT QFl:QCK≤(1000000:ψ):=by lia
def F4 QSN(_:(0:ψ)<a):(0:ψ)≤a:=by lia
def F5 QD9(_:a≤8):a≤2100:=by lia
def F6 QSN(_:(0:ψ)≤a):(0:ψ)≤((4:ψ)+a):=by lia
def F7 Zl QFl:((a:ψ)-(b:ψ))≤(0:ψ):=by lia
def F8 QD9(_:a≤3):a≤2100:=by lia
def F9 QD9(_:(0:ψ)<(a:ψ)):(a:ψ)≠(0:ψ):=by lia
def F_ QD9:(0:ψ)≤QCK:=by lia
def F' Zl:QKi=QH1:=by lia
def Ga QD9(_:a≤50):a≤1000:=by lia
def Gb QD9(_:a≤50):(a+1)≤16777216:=by lia
def Gc QD9(_:a≤16777216):¬QHH≤(a:ψ):=by lia
def Gd QD9(_:a≤2100):a≤20000:=by lia
def Ge QD9(_:(((a+1):υ):ψ)=(1:ψ))(_:1≤a):Rl:=by lia
def Gf QD9:((a+1)+1)=((1+a)+1):=by lia
def Gg QD9(_:a≤63):a≤16777216:=by lia
def Gh QD9:¬(a+8)<8:=by lia
def Gi QD9:(a+1)=(1+a):=by lia
def Gj QD9:a≤(a+1):=by lia
def Jk Zl:(0:ψ)≤(QCK+(b:ψ)):=by lia
def Gk QAf(_:1≤c)(_:c≤0):a=b:=by lia
def Gm Zl:QKi≤((a+b)+1):=by lia
def Jl{c d e:υ}{a b:ψ}(_:((c:ψ)+(d:ψ))=(e:ψ))(_:((e:ψ)+b)=a):((a-b)-(c:ψ))=(d:ψ):=by lia
def Jm{b d:υ}{a c:ψ}(_:a≤(c+(d:ψ))):(min ((min (a).RW b)-(min (c).RW b)) (b-(min (c).RW b)))≤d:=by lia
def Gn:(0:ψ)≤(3:ψ):=by lia
def Go QD9:¬(a+2)<2:=by lia
def Gp QD9:1≤(a+1):=by lia
def m8 QMJ QTi QDJ{a:b}(h:l[i]?<*a):∃h:i<l.β,l[i]=a:=γ.Sl.mp h
def h_{a:Type _}QKj QDJ(h:i<l.β):l[i]?<*l[i]:=γ.getElem?_eq_getElem h
def n0 QMJ QTi QDJ{a:b}:l.Φ i a=l[i]?.Φ a:=γ.getD_eq_getElem?_getD
def j'{a:Type _}QMJ QKj(f:a->b):(l.QY f).β=l.β:=γ.length_map f
def u4{a:Type _}{l m:γ a}:(l++m).β=l.β+m.β:=γ.length_append
def nq{a:Type _}QMJ{f:a->b}QKj QDJ:(l.QY f)[i]?=χ.QY f l[i]?:=γ.getElem?_map
@[reducible]def f_:=@PySem.wpAny_bind
@[reducible]def i_:=@PySem.wpAny_pure
@[reducible]def ol:=@PySem.Heap.get?_push_of_some
def wh{c:Type _}{a b:c}:a∈[b]->a=b:=γ.S_.mp
def v7 QMJ QTi QDJ{a:b}(h:l[i]?<*a):a∈l:=γ.mem_of_getElem? h
def AS{d:Type _}{c:Type _}{f:d->c}{x:χ d}{b:c}(h:χ.QY f x<*b):∃a,x=δ a/\f a=b:=χ.map_eq_some_iff.mp h
open PySem
namespace L2
open PySem.Spec PyProof.Rows
@[reducible]def Br:=Sum Int Str
abbrev gX:Br->η->Ω
 |.RB k,v=>η.isInt k v
 |.RF x,v=>η.isStrOf x v
abbrev Le Z':Br->ψ
 |.RB k=>hashInt k
 |.RF x=>hashStr w x
def oI:∀{k:Br}{v:η},gX k v=ο->(∃i t,k=Sum.RB i/\v=η.QB i t)\/(∃x t,k=Sum.RF x/\v=η.Qn x t)
 |.RB i,v,h=>by
  let⟨t,e⟩:=η.isInt_shape (k:=i) (v:=v) h;show .RB (i,t,1,e)
 |.RF x,v,h=>by
  let⟨t,e⟩:=η.isStrOf_shape (x:=x) (v:=v) h;show .RF (x,t,1,e)
def qJ(i:ψ)QHd:gX (.RB i) (.QB i t)=ο:=by simp[gX,η.isInt]
def qI QD6 QHd:gX QP3 QKk=ο:=by simp[gX,η.isStrOf]
def zJ(a b:ψ):decide ((Sum.RB a:Br)=Sum.RB b)=(a==b):=by
 by_cases e:a=b
 .subst e;simp
 .let h:¬ (Sum.RB a:Br)=Sum.RB b:=λq=>e (Sum.RB.Tx q);rw[QN h];show(Rg.Sj e).QU
def zG(a b:QL):decide ((Sum.RF a:Br)=Sum.RF b)=decide (a=b):=by
 by_cases e:a=b
 .subst e;simp
 .let h:¬ (Sum.RF a:Br)=Sum.RF b:=λq=>e (Sum.RF.Tx q);rw[QN h,QN e]
def zI(a:ψ)(b:QL):decide ((Sum.RB a:Br)=Sum.RF b)=μ:=QN QTj
def zH(a:QL)(b:ψ):decide ((Sum.RF a:Br)=Sum.RB b)=μ:=QN QTj
abbrev E1(BT:IO)Z':Ξ.KeyKind BT w Br where
 is:=gX
 hash:=Le w
 Tx:=λv a b ha hb=>by
  rcases oI ha with⟨i,t,ε,ε⟩|⟨x,t,ε,ε⟩
  .rcases oI hb with⟨j,u,ε,e⟩|⟨y,u,ε,e⟩
   .injection e with e1 _;rw[e1]
   .exact nomatch e
  .rcases oI hb with⟨j,u,ε,e⟩|⟨y,u,ε,e⟩
   .exact nomatch e
   .injection e with e1 _;rw[e1]
 byValue:=λk v h=>by
  rcases oI h with⟨i,t,ε,ε⟩|⟨x,t,ε,ε⟩<;>rfl
 YK:=λhv h=>by
  rcases oI hv with⟨i,t,ε,ε⟩|⟨x,t,ε,ε⟩
  .exact wpAny_pyHash_int h
  .exact wpAny_pyHash_str h
 eqBool:=λhu hv h=>by
  rcases oI hu with⟨i,t,ε,ε⟩|⟨x,t,ε,ε⟩
  .rcases oI hv with⟨j,u,ε,ε⟩|⟨y,u,ε,ε⟩
   .rw [zJ]at h;show wpAny_eqBool_int h
   .rw [zI]at h;show Sa.U6.int_str i t y u _ _ _ _ h
  .rcases oI hv with⟨j,u,ε,ε⟩|⟨y,u,ε,ε⟩
   .rw [zH]at h;show Sa.U6.str_int x t j u _ _ _ _ h
   .rw [zG]at h;show wpAny_eqBool_str h
 «strs»:=λk x t v h=>by
  rcases oI h with⟨i,u,ε,e⟩|⟨y,u,ε,e⟩
  .exact nomatch e
  .injection e with e1 _
   subst e1
   cases v<;>rfl
def Cj(BT:IO)Z'(i:ψ)QHd:(E1 BT w).is (.RB i) (.QB i t)=ο:=qJ i t
def No(BT:IO)Z' QD6 QHd:(E1 BT w).is QP3 QKk=ο:=qI x t
inductive V where
 |UT|bl QPS|QB (i:ψ)|Qn (x:QL)|byt (b:Ry UInt8)|flt (b:UInt64)|ν (a:θ)|ty (n:Xx)
 deriving R_
abbrev af:V->η->Prop
 |.UT,u=>u=η.ζ
 |.bl b,u=>u=η.T9 b
 |.QB i,u=>∃t,u=η.QB i t
 |.Qn x,u=>∃t,u=η.Qn x t
 |.byt b,u=>∃t,u=η.bytes b t
 |.flt b,u=>∃t,u=η.float b t
 |.ν a,u=>u=η.ν a
 |.ty n,u=>u=η.QH n
instance ae:γ V->γ η->Prop:=Vr af
def ae.β(r:ae xs us):xs.β=us.β:=Vr.β r
def ae.get:∀QBN QBq QDJ{x:V},ae xs us->xs[i]?<*x->∃u,us[i]?=δ u/\af x u
 |_,_,_,_,.Tw,e=>by simp at e
 |_,_,0,_,.Rx r _,e=>by simp at e;subst e;show(0,r)
 |_,_,i+1,x,.Rx _ t,e=>by
  let⟨u,h1,h2⟩:=ae.get (i:=i) (x:=x) t QB_;show(u,by simpa using h1,h2)
def ae.US{x:V}{u:η}(r:af x u):∀QBN QBq Zi,ae xs us->ae (xs.US i x) (us.US i u)
 |_,_,_,.Tw=>.Tw
 |_,_,0,.Rx _ t=>.Rx r t
 |_,_,i+1,.Rx q t=>.Rx q (ae.US r i t)
def ae.append:∀QHe{us ws:γ η},ae xs us->ae ys ws->ae QRE (us++ws)
 |_,_,_,_,.Tw,s=>s
 |_,_,_,_,.Rx r t,s=>.Rx r (ae.append t s)
def ae.Rp:∀QBN QBq QBM,ae xs us->ae (xs.Rp n) (us.Rp n)
 |_,_,0,_=>.Tw
 |_,_,_+1,.Tw=>.Tw
 |_,_,n+1,.Rx r t=>.Rx r (ae.Rp n t)
def ae.Uq:∀QBN QBq QBM,ae xs us->ae (xs.Uq n) (us.Uq n)
 |_,_,0,r=>r
 |_,_,_+1,.Tw=>.Tw
 |_,_,n+1,.Rx _ t=>ae.Uq n t
abbrev aJ:χ V->χ η->Prop
 |δ v,δ u=>af v u
 |ζ,ζ=>Tg
 |_,_=>Rl
abbrev KV{κ:Type}:γ QIt->γ (κ×η)->Prop:=Vr λ(p:κ×V)(q:κ×η)=>p.1=q.1/\af p.2 q.2
abbrev kV:Br->V
 |.RB i=>.QB i
 |.RF x=>.Qn x
inductive HO where
  |QM QBI
  |RJ QBI
  |dK QUK|dT (Ri:γ (γ Br×V))
  |US (S:ψ->Ω) QBM
  |XO (C dx:θ) QSO
  |own (x:θ)
  |xd QSO
  |met (f x:θ)
  |rng (lo hi:ψ)
  |frz (o:UP) (u:HO)
  |tbl (ps:Ry η)
  |ext (φ:Qx->Prop)
@[reducible]def Hp:=Addr->Option HO
abbrev QO ZC QBz(o:HO):Hp:=λb=>if b=a then δ o else H b
def SO:QO H a o a<*o:=by unfold QO;rw[QC ε]
def b_(h:b≠a):QO H a o b=H b:=by unfold QO;rw[Fr h]
def Jn:QO QE6 a u=QO H a u:=by
 funext b;unfold QO;split<;>rfl
def n7 QE4 QRF(h':H b<*u)(d:o≠u):a≠b:=by
 intro e;subst e;rw[h]at h';show d (χ.δ.Tx h')
def f' QE4 QRF(h':H b=ζ):a≠b:=by
 intro e;subst e;rw[h]at h';cases h'
section
variable(P:IO)(w:QV)
abbrev Aq ZC QKF QBz:HO->Prop
 |.QM xs=>xs.β≤Λ/\∃(Rc:γ η)(n:υ),ae xs Rc/\h.Δ a<*{SN:=.QH "list",RD:=.V8 Rc.Θ n}
 |.RJ xs=>xs.β≤Λ/\∃Rc:γ η,ae xs Rc/\IsTup h a Rc.Θ
 |.dK Ri=>Ri.β≤Λ/\(a==S4)=μ/\∃vs,KV Ri vs/\h.DictOf QRG a vs
 |.dT Ri=>Ri.β≤Λ/\(a==S4)=μ/\∃xs:γ (γ Br×θ×η),
   Vr (λ(p:γ Br×V)(q:γ Br×θ×η)=>p.1=q.1/\H q.2.1=δ (.RJ (p.1.QY kV))/\af p.2 q.2.2) Ri xs/\
   ∃o es ep,h.Δ a=δ o/\o.ExactDict/\o.RD=.Ux es ep/\es.Qq=xs.QY (entryOfKey (tupleKind QRG))/\(xs.QY Z9).Rq
 |.US S n=>h.SetOf QBT a S n
 |.XO C dx fs=>H dx=δ (.own a)/\fs.β≤1000/\dx≠a/\h.Δ a=δ (Yp C dx)/\
   ∃mA,h.Ns1 dx mA/\QLV/\Ξ.Within mA QSX
 |.own _=>∃o,h.Δ a<*o
 |.xd fs=>∃mA,h.Ns1 a mA/\∀f,aJ (fs.ρ f) (mA f)
 |.rng lo hi=>∃t u v,h.Δ a<*{SN:=.QH "range",RD:=.R5 #[.QB lo t,.QB hi u,.QB 1 v]}
 |.frz o u=>h.Δ a=δ o/\Aq H h a u
 |.tbl ps=>h.Δ a<*{SN:=.ζ,RD:=.R5 ps}
 |.met f x=>h.Δ a<*methodObj Ze QBX
 |.ext φ=>φ h/\(∃o,h.Δ a<*o)/\∀h1 h2:Qx,φ h1->(∀o,h1.Δ a<*o->h2.Δ a<*o)->φ h2
abbrev Aj ZC QKF:Prop:=∀a o,H a<*o->Aq P w H h a o
end
section
variable{P:IO}{w:QV}{H H':Hp}{h h':Qx}{a:θ}{o:HO}
def Aq.lt(x:Aq P w H h a o):a<h.SM.Qw:=by
 cases o with
 |QM xs=>let⟨_,_,_,_,e⟩:=x;show lt_size e
 |RJ xs=>let⟨_,_,_,p⟩:=x;show p.lt
 |dK Ri=>let⟨_,_,_,_,o,_,_,e,_⟩:=x;show lt_size e
 |dT Ri=>let⟨_,_,_,_,o,_,_,e,_⟩:=x;show lt_size e
 |US S n=>let⟨o,_,_,_,e,_⟩:=x;show lt_size e
 |XO C dx fs=>let⟨_,_,_,e,_⟩:=x;show lt_size e
 |own y=>let⟨_,e⟩:=x;show lt_size e
 |xd fs=>let⟨_,⟨_,_,_,e,_⟩,_⟩:=x;show lt_size e
 |rng lo c=>let⟨_,_,_,e⟩:=x;show lt_size e
 |frz b u=>let⟨e,_⟩:=x;show lt_size e
 |tbl ps=>show lt_size (show h.Δ a<*_ from x)
 |met f y=>show lt_size (show h.Δ a<*_ from x)
 |ext φ=>let⟨_,⟨_,e⟩,_⟩:=x;show lt_size e
def Vr.mapP{g e:Type}{F G:g->e->Prop}:∀{d:γ g}{c:γ e},Vr F d c->(∀a b,F a b->G a b)->Vr G d c
 |_,_,.Tw,_=>.Tw
 |_,_,.Rx r t,f=>.Rx (f _ _ r) (Vr.mapP t f)
def Aq.Wq(x:Aq P w H h a o)(k:∀b u,(b=a\/H b<*.own a)->h.Δ b<*u->h'.Δ b<*u)(D:∀b,H b<*.own a->H' b<*.own a)(B:∀b xs,H b<*.RJ xs->H' b<*.RJ xs):Aq P w H' h' a o:=by
 induction o with
 |QM xs=>let⟨z,Rc,n,r,e⟩:=x;show(z,Rc,n,r,k _ _ Zv e)
 |RJ xs=>let⟨z,Rc,r,g,e,c⟩:=x;show(z,Rc,r,g,k _ _ Zv e,c)
 |dK Ri=>let⟨z,y,vs,r,g,i,j,e,c⟩:=x;show(z,y,vs,r,g,i,j,k _ _ Zv e,c)
 |dT Ri=>
  let⟨z,y,xs,r,g,i,j,e,c⟩:=x;show(z,y,xs,Vr.mapP r λp q z=>(z.1,B _ _ z.2.1,z.2.2),g,i,j,k _ _ Zv e,c)
 |US S n=>let⟨g,i,j,t,e,c⟩:=x;show(g,i,j,t,k _ _ Zv e,c)
 |XO C dx fs=>
  let⟨d,z,s,e,m,⟨l,i,j,E,c⟩,r⟩:=x;show(D _ d,z,s,k _ _ Zv e,m,(l,i,j,k _ _ (.RF d) E,c),r)
 |own y=>let⟨g,e⟩:=x;show(g,k _ _ Zv e)
 |xd fs=>let⟨m,⟨l,i,j,e,c⟩,r⟩:=x;show(m,(l,i,j,k _ _ Zv e,c),r)
 |rng lo F=>let⟨t,u,v,e⟩:=x;show(t,u,v,k _ _ Zv e)
 |frz g u A=>let⟨e,q⟩:=x;show(k _ _ Zv e,A q)
 |tbl ps=>
  let e:h.Δ a<*{SN:=.ζ,RD:=.R5 ps}:=x;change h'.Δ a<*{SN:=.ζ,RD:=.R5 ps};show k a _ Zv e
 |met f y=>
  let e:h.Δ a<*methodObj Ze QP4:=x;change h'.Δ a<*methodObj Ze QP4;show k a _ Zv e
 |ext φ=>let⟨p,⟨o,e⟩,st⟩:=x;show(st _ _ p λo q=>k _ _ Zv q,(o,k _ _ Zv e),st)
def Aj.lt QGT(e:H a<*o):a<h.SM.Qw:=(x a o e).lt
def Aj.SW QGT(e:h.SM.Qw≤a):H a=ζ:=by
 cases q:H a with
 |ζ=>rfl
 |δ u=>show QG (LT (x.lt q) e) QOJ
def Aj.WE QGT QBl:Aj P w H h':=λa o e=>
 (x a o e).Wq (λb u _ q=>k b u q) QIu λ_ _ q=>q
def Aj.X3 QGT QBl(hp:h.SM.Qw≤a)(d:Aq P w QE6 h' a o):Aj P w QE6 h':=λb u e=>by
 let f:=x.SW hp;by_cases g:b=a
 .subst g;rw[SO]at e;cases e;show d
 .rw [b_ g]at e;show(x b u e).Wq (λc v _ q=>k c v q) (λc q=>by rw[b_ (f' q f)];show q) λc xs q=>by rw[b_ (f' q f)];show q
end
abbrev Rd ZC QBz(u:HO):Prop:=H a<*u\/∃o,H a<*.frz o u
def Rd.ok(r:Rd H a u)QGT:Aq P w H h a u:=by
 rcases r with r|⟨o,r⟩
 .exact x a u r
 .obtain ⟨_,q⟩:=x a _ r;show q
abbrev Jo:χ HO->Prop
 |δ (.QM _)=>Tg
 |δ (.dK _)=>Tg
 |δ (.dT _)=>Tg
 |δ (.US _ _)=>Tg
 |δ (.XO _ _ _)=>Tg
 |δ (.ext _)=>Tg
 |_=>Rl
section
variable{P:IO}{w:QV}{H:Hp}{h h':Qx}{x e:θ}{o':HO}
def Aj.write QHJ QQ'(n:e=x\/H e<*.own x)QGU(l:∃u,h'.Δ e<*u)(j:Aq P w (QO H x o') h' x o'):Aj P w (QO H x o') h':=λb u q=>by
 let d:∀c y,H c<*.own y->c≠x:=λc y r z=>by subst z;rw[r]at mu;show mu
 let f:∀c xs,H c<*.RJ xs->c≠x:=λc xs r z=>by subst z;rw[r]at mu;show mu
 by_cases i:b=x
 .subst i;rw[SO]at q;cases q;show j
 .rw [b_ i]at q;by_cases a:b=e
  .let m:H b<*.own x:=by
    rcases n with z|z
    .exact QG (a.ξ z) i
    .rw [a];show z
   rw[q]at m;cases m;let⟨v,o⟩:=l;show(v,by rw[a];show o)
  .refine (ok b u q).Wq (λc v g r=>k c v ?_ r) (λc r=>by rw[b_ (d c b r)];show r) λc xs r=>by rw[b_ (f c xs r)];show r
   rcases g with ε|g
   .exact a
   .rintro ε;rcases n with z|z
    .exact d c b g z
    .rw [g]at z;cases z;show i ε
end
structure Un(fs ex:γ θ)QIo(h h':Qx):Prop where
 UF:∀b o,h.Δ b<*o->H b=ζ->b∉fs->b∉ex->h'.Δ b<*o
 YI:∀b o,h.Δ b<*o->H b=ζ->b∈fs->b∉ex->∃sl,h'.Δ b<*{o with XE:=sl}
 SA:∀b o,h.Δ b<*o->H b=ζ->b∉ex->H' b=ζ
 Ut:∀b o,h.Δ b<*o->b∉ex->∃o',h'.Δ b<*o'
 Uk:∀b xs,H b<*.RJ xs->H' b<*.RJ xs
 frzs:∀b o u,H b<*.frz o u->H' b<*.frz o u
 tbls:∀b ps,H b<*.tbl ps->∃X2,H' b<*.tbl (ps++X2)
section
variable{fs fs' ex ex':γ θ}{H H1 H2:Hp}{h h1 h2 h':Qx}{a x e:θ}{o:HO}
def Un.VA QP5(q:h.Δ b<*c)(n:H b=ζ)(d:b∉ex):∃g,h1.Δ b<*{c with XE:=g}:=by
 by_cases f:b∈fs
 .exact u.YI b c q n f d
 .exact (c.XE,u.UF b c q n f d)
def Un.ξ(a:Un fs ex H H1 h h1)(b:Un fs ex H1 H2 h1 h2):Un fs ex H H2 h h2 where
 UF:=λc d q n i f=>b.UF c d (a.UF c d q n i f) QJy i f
 YI:=λc d q n i f=>by
  let⟨m,g⟩:=a.YI c d q n i f;let⟨j,l⟩:=b.YI c _ g QJy i f;show(j,l)
 SA:=λc d q n f=>by
  let⟨k,g⟩:=a.Ut c d q f;show b.SA c k g QJy f
 Ut:=λc d q f=>by
  let⟨k,g⟩:=a.Ut c d q f;show b.Ut c k g f
 Uk:=λc xs q=>b.Uk c xs (a.Uk c xs q)
 frzs:=λc d xs q=>b.frzs c d xs (a.frzs c d xs q)
 tbls:=λc ps q=>by
  let⟨m1,g⟩:=a.tbls c ps q;let⟨m2,l⟩:=b.tbls c _ g;show(m1++m2,by rw[l,Ry.Tt])
def Un.WE QBl:Un fs ex H H h h':=
 (λb c q _ _ _=>k b c q,λb c q _ _ _=>(c.XE,k b c q),λ_ _ _ n _=>n,λb c q _=>(c,k b c q),λ_ _ q=>q,λ_ _ _ q=>q,λ_ ps q=>(#[],by rw[q];simp))
def Un.YS:Un fs ex H H h h:=Un.WE λ_ _ q=>q
def Un.X3 QBl(hp:h.SM.Qw≤a)(c:H a=ζ):Un fs ex H QE6 h h' where
 UF:=λb u q _ _ _=>k b u q
 YI:=λb u q _ _ _=>(u.XE,k b u q)
 SA:=λb u q n _=>by rw[b_ (RH (LT (lt_size q) hp))];show n
 Ut:=λb u q _=>(u,k b u q)
 Uk:=λb xs q=>by rw[b_ (f' q c)];show q
 frzs:=λb u xs q=>by rw[b_ (f' q c)];show q
 tbls:=λb ps q=>(#[],by rw[b_ (f' q c),q];simp)
def Un.write QQ'(j:e=x\/H e<*.own x)QGU(f:∃u,h'.Δ e<*u):Un fs ex H QSY h h':=by
 let g:∀b,H b=ζ->b≠x:=λb n z=>by subst z;rw[n]at mu;show mu
 let i:∀b,H b=ζ->b≠e:=λb n z=>by
  subst z;rcases j with r|r
  .exact g b n r
  .rw [n]at r;cases r
 let d:∀b u,H b<*u->¬ Jo QOK->b≠x:=λb u q nm z=>by subst z;rw[q]at mu;show nm mu
 refine(λb u q n _ _=>k b u (i b n) q,λb u q n _ _=>(u.XE,k b u (i b n) q),λb u q n _=>by rw[b_ (g b n)];show n,λb u q _=>?_,
  λb xs q=>by rw[b_ (d b _ q λz=>z)];show q,λb u xs q=>by rw[b_ (d b _ q λz=>z)];show q,λb ps q=>(#[],by rw[b_ (d b _ q λz=>z),q];simp))
 by_cases c:b=e
 .subst c;show f
 .exact (u,k b u c q)
def Un.Ti QP5(g:∀b∈fs,b∈fs')(f:∀b∈ex,b∈ex'):Un fs' ex' H H1 h h1:=
 (λb d q n i c=>u.UF b d q n (λz=>i (g b z)) λz=>c (f b z),λ_ _ q n _ c=>u.VA q n λz=>c (f _ z),λb d q n c=>u.SA b d q n λz=>c (f b z),λb d q c=>u.Ut b d q λz=>c (f b z),u.Uk,u.frzs,u.tbls)
end
abbrev Gq QKF ZC:γ θ:=(γ.Q' h.SM.Qw).VF λa=>(H a).Vg
abbrev eJ QKF ZC:Qx:=Vx h (Gq h H)
def qP QKF ZC:(eJ h H).SM.Qw=h.SM.Qw:=Ξ.W.hideAll_size _ _
def uI(e:h.Δ b<*o)(n:H b=ζ):(eJ h H).Δ b<*o:=
 VM _ e λa=>by
  let q:(H b).Vg=ο:=(VO.mp a).2;rw[n]at q;simp at q
def w4(e:(eJ h H).Δ b<*o):h.Δ b=δ o/\H b=ζ:=by
 let e':h.Δ b<*o:=Xn (Gq h H) e;refine(e',3);cases q:H b with
 |ζ=>rfl
 |δ x=>
  let a:b∈Gq h H:=VO.Sj (RN.Sj (lt_size e'),by simp[q]);let z:(eJ h H).Δ b=ζ:=UH (Gq h H) a;rw[z]at e;cases e
structure Mod ZZ Z3 QMv:Prop where
 kin:K.In ς
 glob:ς.Ns Q_ mg
 blt:∃mb,ς.Ns builtinsNs mb/\∀x:QL,x≠"__name__"->mb x=Wn x
 nolimit:ς.NoLimit
structure Cx where
 BT:IO
 w:QV
 K:Qt
 mg:QL->χ η
 ς:Qx
 A:Qo
 N:γ QL
 U3:ω
 H₀:Hp
 QA:YH
 Id:γ YH
 RG:γ YH
 ex:γ θ
 fn:QL->Ω
 Wm:Ω
 pn:γ Z_
 xe:η->ω->Prop
abbrev rf(l:γ YH):γ θ:=l.WR (·.Vy)
instance Cx.fs QC9:γ θ:=rf X.Id
abbrev HI QJO QD6:Prop:=sc.QI.ρ x<*.local\/sc.QI.ρ x<*.R9\/sc.QI.ρ x<*.SA
abbrev CF QJO QD6:Prop:=sc.QI.ρ x<*.local\/sc.QI.ρ x<*.R9
abbrev Np(QA:YH)QKF(m:QL->χ η)QD6 QP6:Prop:=
 (QA.Sh x=δ .local/\m x<*u)\/((QA.Sh x<*.R9\/QA.Sh x<*.SA)/\∃c,QA.UO.ρ x=δ c/\h.VS c QOK)
structure Cx.Ok QC9:Prop where
 mod:Mod X.K X.mg X.ς
 Uz:X.QA.Qy.Uz=.UL
 glob:X.QA.globals=Q_
 blt:X.QA.builtins=builtinsNs
 above:X.U3⁻¹≤X.QA.SQ
 Tx:∀x y c,X.QA.UO.ρ x<*c->X.QA.UO.ρ y<*c->x=y
 Vl:∀x,(X.QA.Sh x<*.R9\/X.QA.Sh x<*.SA)->∃c,X.QA.UO.ρ x<*c
 cab:∀x c,X.fn x=ο->X.QA.UO.ρ x<*c->X.U3⁻¹≤c
 hd:X.Wm=ο->X.A.SV=ζ
 Uv:X.A.Uv<*X.RG
 stk:X.RG=X.Id\/(X.RG=X.QA::X.Id/\X.QA.Vy<*X.QA.SQ)
 exf:∀b∈X.ex,b≠X.QA.SQ/\∀x c,X.QA.UO.ρ x<*c->c≠b
 bs:∀b o,X.ς.Δ b<*o->X.U3.π.Δ b=δ o/\X.H₀ b=ζ
 bsz:X.ς.SM.Qw≤X.U3⁻¹
 noex:∀b o,X.ς.Δ b<*o->b∉X.ex
 exfs:∀b∈X.ex,b∉X.fs
 funs:X.U3.π.TF X.ς X.Id
 frf:∀b∈X.fs,X.H₀ b=ζ
structure g_ QC9 ZJ(σ:γ (χ V))ZC QBP:Prop where
 ok:X.Ok
 os:s.os=X.U3.os
 V9:Xf s.Wr
 ς:Un X.fs X.ex X.H₀ H X.U3.π s.π
 loc:∃m,s.π.Ns X.QA.SQ m/\∀Zi QD6(v:V),X.N[i]?<*x->σ[i]?<*δ v->HI X.QA.Qy x->∃u,af v u/\Np X.QA s.π m x u
 R9:∀x c,X.QA.UO.ρ x<*c->∃v,s.π.VS c v
 SA:H X.QA.SQ=ζ
 Xs:∀x c,X.QA.UO.ρ x<*c->H c=ζ
 pin:∀p∈X.pn++QF,s.π.Δ p.1=δ p.2/\H p.1=ζ/\p.1≠X.QA.SQ/\p.1∉X.fs/\∀v,p.2.RD≠.R9 v
 S7:Aj X.BT X.w H s.π
 Sr:σ.β=X.N.β
section
variable{X:Cx}{QF:γ Z_}{σ:γ (χ V)}{H H':Hp}{s:ω}{h':Qx}
def Cx.Ok.nofr(ok:X.Ok)(e:X.ς.Δ b<*o):b∉X.fs:=λa=>by
 have:=(ok.funs.mem a).1;rw[e]at this;cases this
def g_.bs Y_:∀b o,X.ς.Δ b<*o->s.π.Δ b=δ o/\H b=ζ:=λb o e=>
 (I.ς.UF b o (I.ok.bs b o e).1 (I.ok.bs b o e).2 (I.ok.nofr e) QSZ,I.ς.SA b o (I.ok.bs b o e).1 (I.ok.bs b o e).2 QSZ)
def g_.bk Y_:∀b o,X.ς.Δ b<*o->s.π.Δ b<*o:=λb o e=>(I.bs b o e).1
def g_.mod Y_:Mod X.K X.mg X.ς:=I.ok.mod
def g_.Xp Y_:X.K.In s.π:=I.ok.mod.kin.Tn I.bk
def g_.lt Y_:X.QA.SQ<s⁻¹:=let⟨_,a,_⟩:=I.loc;a.lt
def g_.sz Y_:X.U3⁻¹≤s⁻¹:=LE I.ok.above (Uu I.lt)
def g_.nofs Y_ QHz(h:s⁻¹≤a):a∉X.fs:=λc=>by
 let⟨_,o,b,_⟩:=I.ok.funs.mem c;show QG (LT (lt_size b) (LE I.sz h)) QOJ
def g_.cne Y_:∀x c,X.QA.UO.ρ x<*c->c≠X.QA.SQ:=λx c e z=>by
 let⟨v,o,d,f⟩:=I.R9 x c e;let⟨m,⟨g,h,i,a,b,_⟩,_⟩:=I.loc;rw[z,a]at d;cases d;rw[b]at f;cases f
def g_.funs Y_:s.π.TF X.ς X.Id:=by
 let Tk:∀(l:γ YH),(∀b∈rf l,b∈X.fs)->X.U3.π.TF X.ς l->s.π.TF X.ς l:=by
  intro l;induction l with
  |Tw=>intro _ _;trivial
  |Rx QA r g=>
   intro f k;let⟨m,⟨L,o,a,j,i,n⟩,h⟩:=k;let d:L∈X.fs:=f L (by unfold rf;rw[Uw,a];show Rh);let⟨p,e⟩:=I.ς.YI L o i (I.ok.frf L d) d λz=>I.ok.exfs L z d;show(m,(L,_,a,j,e,n),g (λb c=>f b (by unfold rf;rw[Uw,a];show QP _ c)) h)
 show Tk X.Id (λ_ c=>c) I.ok.funs
def g_.RG Y_:s.π.TF X.ς X.RG:=by
 rcases I.ok.stk with e|⟨e,b⟩
 .rw [e];show I.funs
 .rw [e];let⟨m,a,_⟩:=I.loc;refine .Rx (by rw[I.ok.Uz];decide) b a ?_ I.funs;show Qx.get?_none_of_le (LE I.ok.bsz I.ok.above)
def g_.stkSub Y_:∀b∈rf X.RG,b∈X.QA.SQ::X.fs:=λb a=>by
 rcases I.ok.stk with e|⟨e,c⟩
 .rw [e]at a;show QP _ a
 .rw [e]at a;unfold rf at a;rw[Uw,c]at a;show a
def g_.XZ Y_:∀b∈rf X.RG,H b=ζ:=λb a=>by
 rcases QW.mp (I.stkSub b a)with e|a
 .rw [e];show I.SA
 .obtain ⟨_,o,c,_⟩:=I.ok.funs.mem a;show I.ς.SA b o c (I.ok.frf b a) λz=>I.ok.exfs b z a
def g_.step{ch:γ θ}Y_(j:∀b∈ch,QBY/\b≠X.QA.SQ/\QAw/\∀p∈X.pn++QF,p.1≠b)(h:∀b o,b≠X.QA.SQ->b∉X.fs->b∉ch->s.π.Δ b<*o->H b=ζ->h'.Δ b<*o)(B:∀b o,b≠X.QA.SQ->b∈X.fs->b∉ch->s.π.Δ b<*o->H b=ζ->∃P,h'.Δ b<*{o with XE:=P})(f:∀b o,b∉ch->s.π.Δ b<*o->H b=ζ->H' b=ζ)(C:∀b o,b∉ch->s.π.Δ b<*o->∃J,h'.Δ b<*J)(F:∀b xs,H b<*.RJ xs->H' b<*.RJ xs)(M:∀b o u,H b<*.frz o u->H' b<*.frz o u)(G:∀b ps,H b<*.tbl ps->∃X2,H' b<*.tbl (ps++X2))(ns:∀m,s.π.Ns X.QA.SQ m->h'.Ns X.QA.SQ m)(Q:Aj X.BT X.w H' h')(Z:Xf g'):g_ X QF σ H' {s with π:=h',Wr:=g',XX:=d',Qs:=t'}:=by
 let L:∀b o,X.U3.π.Δ b<*o->b≠X.QA.SQ:=λb o e=>RH QD_;let y:∀b o,X.U3.π.Δ b<*o->b∉X.ex->b∉ch:=λb o e a D=>by
  rcases(j b D).1 with z|z
  .exact a z
  .exact QG (LT QAP z) QOJ
 let t:∀x c,X.QA.UO.ρ x<*c->∀v,s.π.VS c v->h'.VS c v:=λx c e v S=>by
  let⟨o,E,R⟩:=S;let g:c∉ch:=λz=>(j c z).2.2.1 x c e ε;by_cases U:c∈X.fs
  .obtain ⟨P,q⟩:=B c o (I.cne x c e) U g E QOL;show(_,q,R)
  .exact (o,h c o (I.cne x c e) U g E QOL,R)
 refine(I.ok,I.os,Z,(λb o e n D a=>?_,λb o e n D a=>?_,λb o e n a=>?_,λb o e a=>?_,λb xs e=>F b xs (I.ς.Uk b xs e),λb o xs e=>M b o xs (I.ς.frzs b o xs e),λb ps e=>?_),3,λx c e=>?_,3,λx c e=>?_,λp hp=>?_,Q,I.Sr)
 .exact h b o (L b o e) D QKl (I.ς.UF b o e n D a) QHK
 .obtain ⟨P,A⟩:=I.ς.YI b o e n D a;let⟨O,N⟩:=B b _ (L b o e) D QKl A QHK;show(O,N)
 .obtain ⟨J,A⟩:=I.ς.Ut b o e a;show f b J QKl A QHK
 .obtain ⟨J,A⟩:=I.ς.Ut b o e a;show C b J QKl A
 .obtain ⟨m1,A⟩:=I.ς.tbls b ps e;let⟨m2,N⟩:=G b _ A;show(m1++m2,by rw[N,Ry.Tt])
 .obtain ⟨m,W,Y⟩:=I.loc;refine(m,ns m W,λi x v A N e3=>?_);let⟨u,r,l⟩:=Y i x v A N e3;refine(u,r,3);rcases l with l|⟨k,c,e,z⟩
  .exact .RB l
  .exact .RF (k,c,e,t x c e _ z)
 .obtain ⟨v,z⟩:=I.R9 x c e;show(v,t x c e v z)
 .obtain ⟨m,⟨o,_,_,E,_⟩,_⟩:=I.loc;show f _ o (λz=>(j _ z).2.1 ε) E I.SA
 .obtain ⟨v,o,E,R⟩:=I.R9 x c e;show f c o (λz=>(j c z).2.2.1 x c e ε) E QOL
 .obtain ⟨e,n,T,nf,d⟩:=I.pin p hp;let g:p.1∉ch:=λz=>(j p.1 z).2.2.2 p hp ε;show(h p.1 p.2 T nf g e n,f p.1 p.2 g e n,T,nf,d)
def g_.un Y_(u:Un X.fs [] H H' s.π h')(c:Aj X.BT X.w H' h'):g_ X QF σ H' {s with π:=h',Qs:=t'}:=by
 let⟨m,⟨o,t,v,h,r⟩,_⟩:=id I.loc;let⟨l,k⟩:=u.VA h I.SA (!1);show I.step (g':=s.Wr) (d':=s.XX) (ch:=[]) (λ_ z=>nomatch z) (λb o _ d _ e n=>u.UF b o e n d (!1)) (λb o _ d _ e n=>u.YI b o e n d (!1)) (λb o _ e n=>u.SA b o e n (!1)) (λb o _ e=>u.Ut b o e (!1)) u.Uk u.frzs u.tbls (λq j=>by
  let⟨p,f,g,a,i⟩:=j;rw[h]at a;cases a;show(_,f,g,k,i)) c I.V9
def g_.Ub Y_(u:Un QBe ch H H' s.π h')(g:Aj X.BT X.w H' h')(t:Xf g')(f:∀b∈ch,QBY/\b≠X.QA.SQ/\QAw/\∀p∈X.pn++QF,p.1≠b):g_ X QF σ H' {s with π:=h',Wr:=g',XX:=d',Qs:=t'}:=by
 let⟨m,⟨o,C,D,k,r⟩,_⟩:=id I.loc;let⟨y,h⟩:=u.VA k I.SA λz=>(f _ z).2.1 ε;show I.step (ch:=ch) f (λb o h v a e n=>u.UF b o e n (λz=>(QW.mp (I.stkSub b z)).SG h v) a) (λb o _ _ a e n=>u.VA e n a) (λb o a e n=>u.SA b o e n a) (λb o a e=>u.Ut b o e a) u.Uk u.frzs u.tbls (λB q=>by
  let⟨A,i,j,d,l⟩:=q;rw[k]at d;cases d;show(_,i,j,h,l)) g t
def g_.TC Y_(k:∀b o,b≠it->s.π.Δ b<*o->h'.Δ b<*o)(h:H it=ζ)(f:it≠X.QA.SQ)(h1:it∈X.ex\/X.U3⁻¹≤it)(h2:∀x c,X.QA.UO.ρ x<*c->c≠it)(l:∀p∈X.pn++QF,p.1≠it):g_ X QF σ H {s with π:=h',Qs:=t'}:=by
 let d:∀b u,H b<*u->b≠it:=λb u e z=>by rw[z,h]at e;cases e
 refine I.step (g':=s.Wr) (d':=s.XX) (ch:=[it]) (λb j=>?_) (λb o _ _ a e _=>k b o (λz=>a (by simp[z])) e) (λb o _ _ a e _=>(o.XE,k b o (λz=>a (by simp[z])) e)) (λ_ _ _ _ n=>n)
  (λb o a e=>(o,k b o (λz=>a (by simp[z])) e)) (λ_ _ e=>e) (λ_ _ _ e=>e) (λb ps e=>(#[],by rw[e];simp)) (λm i=>?_) (λb u e=>?_) I.V9
 .let e:b=it:=by simpa using j
  subst e;show(h1,f,h2,l)
 .obtain ⟨o,t,w,g,r⟩:=i;show(o,t,w,k _ o (Ne.QU f) g,r)
 .refine (I.S7 b u e).Wq (λc v a q=>k c v ?_ q) QIu λ_ _ q=>q;rcases a with z|z
  .rw [z];show d b u e
  .exact d c _ z
def g_.X0 Y_(t:υ):g_ X QF σ H {s with Qs:=t}:=I.un (h':=s.π) (t':=t) Un.YS I.S7
def g_.WE Y_ QId:g_ X QF σ H {s with π:=h',Qs:=t'}:=I.un (Un.WE k) (I.S7.WE k)
def g_.X3 QHz Y_ QId(hp:s⁻¹≤a)(c:Aq X.BT X.w QE6 h' a o):g_ X QF σ QE6 {s with π:=h',Qs:=t'}:=I.un (Un.X3 k hp (I.S7.SW hp)) (I.S7.X3 k hp c)
def g_.write Y_ QQ'(d:e=x\/H e<*.own x)(k:∀b u,b≠e->s.π.Δ b<*u->h'.Δ b<*u)(a:∃u,h'.Δ e<*u)(c:Aq X.BT X.w QSY h' x o):g_ X QF σ QSY {s with π:=h',Qs:=t'}:=I.un (Un.write mu d k a) (I.S7.write mu d k a c)
def g_.pins_of Y_(h:∀p∈a,s.π.Δ p.1=δ p.2/\H p.1=ζ/\p.1≠X.QA.SQ/\p.1∉X.fs/\∀v,p.2.RD≠.R9 v):g_ X a σ H s:=
 (I.ok,I.os,I.V9,I.ς,I.loc,I.R9,I.SA,I.Xs,λp hp=>(Rr.mp hp).SG (λz=>I.pin p (U1 _ z)) (h p),I.S7,I.Sr)
def A0 QTk(c:N.Rq){i j:υ}(a:N[i]?<*x)(b:N[j]?<*x):i=j:=by
 let⟨h1,e⟩:=m8 a;let⟨h2,d⟩:=m8 b;show(getElem_inj c).mp (e.ξ d.QU)
def gw Y_ QUL(T:X.N[i]?<*x)(B:CF X.QA.Qy x)QHi(h:∀s',g_ X QF QMw H s'->(∃a,Th a s.π s'.π/\(a=X.QA.SQ\/X.QA.UO.ρ x<*a))->Q () s')(hf:QAH>>>8):Cl M A QPW Q E s:=by
 let⟨m,hn,hl⟩:=id I.loc;let U:(X.QA.Qy.Uz==.class||(X.QA.Qy.Uz==.module&&X.QA.SQ != X.QA.globals))=μ:=by rw[I.ok.Uz];rfl
 let G:i<σ.β:=by rw[I.Sr];show(m8 T).1
 let P:=I.cne;let g:∀QHz{h':Qx},(∃o,s.π.Δ a=δ o/\H a=ζ)->Th a s.π h'->Aj X.BT X.w H h':=λ{a h'}ha f b ob e=>by
  let⟨_,_,C⟩:=ha;refine(I.S7 b ob e).Wq (λc Z t q=>(f.2 c ?_).ξ q) QIu λ_ _ q=>q;rintro ε;rcases t with ε|t
  .rw [C]at e;cases e
  .rw [C]at t;cases t
 rcases B with F|F
 .refine wpAny_storeName_local F hn (λh' ag f=>?_) U;let⟨oL,_,_,ab,_⟩:=id hn;refine h _ (I.ok,I.os,I.V9,QBf,(_,ag,λj y v' l D e3=>?_),λy c e=>?_,I.SA,I.Xs,λp hp=>?_,g (oL,ab,I.SA) f,by simpa using I.Sr) (_,f,.RB ε)
  .exact (f.2 b (RH QD_)).ξ QOM
  .obtain ⟨sl,l⟩:=I.ς.YI b o e n O B;show(sl,(f.2 b (RH QD_)).ξ l)
  .obtain ⟨o',l⟩:=I.ς.Ut b o e B;show(o',(f.2 b (RH QD_)).ξ l)
  .by_cases J:j=i
   .subst J;rw[T]at l;cases l;rw[γ.getElem?_set_self G]at D;cases D;show(u,r,.RB (F,!1))
   .rw [γ.getElem?_set_ne (Ne.QU J)]at D;let⟨u',r',q⟩:=hl j y v' l D e3;refine(u',r',3);rcases q with⟨k,e⟩|⟨k,c,e,z⟩
    .refine .RB (k,3);have:y≠x:=λe=>J (A0 hN l (e▸T));simp[this,e]
    .exact .RF (k,c,e,z.sameBut f (P y c e))
  .obtain ⟨Z,z⟩:=I.R9 y c e;show(Z,z.sameBut f (P y c e))
  .obtain ⟨e,n,ne,nf,d⟩:=I.pin p hp;show((f.2 p.1 ne).ξ e,n,ne,nf,d)
 .let L:X.fn x=ο:=by
   rcases hf with z|z
   .exact z
   .rw [z]at F;cases F
  let⟨c,t⟩:=I.ok.Vl x (.RB F);let⟨Z,z⟩:=I.R9 x c t;refine wpAny_storeName_cell I.ok.Uz F t z (λh' Y f=>?_);let⟨oc,S,R⟩:=id z;refine h {s with π:=h'} (I.ok,I.os,I.V9,QBf,(m,hn.sameBut f (Ne.QU (P x c t)),λj y v' l D e3=>?_),λy c' e=>?_,I.SA,I.Xs,λp hp=>?_,g (oc,S,I.Xs x c t) f,by simpa using I.Sr) (c,f,.RF t)
  .exact (f.2 b QC').ξ QOM
  .obtain ⟨sl,l⟩:=I.ς.YI b o e n O B;show(sl,(f.2 b QC').ξ l)
  .obtain ⟨o',l⟩:=I.ς.Ut b o e B;show(o',(f.2 b QC').ξ l)
  .by_cases J:j=i
   .subst J;rw[T]at l;cases l;rw[γ.getElem?_set_self G]at D;cases D;show(u,r,.RF (.RB F,c,t,Y))
   .rw [γ.getElem?_set_ne (Ne.QU J)]at D;let⟨u',r',q⟩:=hl j y v' l D e3;refine(u',r',3);rcases q with q|⟨k,c',e,z'⟩
    .exact .RB q
    .refine .RF (k,c',e,z'.sameBut f ?_);rintro ε;show J (A0 hN l (I.ok.Tx _ _ _ e t▸T))
  .by_cases W:c'=c
   .subst W;show(_,Y)
   .obtain ⟨w2,z2⟩:=I.R9 y c' e;show(w2,z2.sameBut f W)
  .obtain ⟨e,n,ne,nf,d⟩:=I.pin p hp;refine((f.2 p.1 ?_).ξ e,n,ne,nf,d);intro q;rw[q,S]at e;let q':oc=p.2:=χ.δ.Tx e;show d Z (by rw[<-q'];show R)
def Au Y_(d:X.N.Rq)(b:X.N[i]?<*x)(a:CF X.QA.Qy x)QHi(h:∀s',g_ X QF QMw H s'->Q () s')(c:QAH>>>8):Cl M A QPW Q E s:=
 gw I d b a r (λs' e _=>h s' e) c
def g_.call' Y_(g:s'.os=s.os)(u:Un QBe ch H H' s.π s'.π)(a:Aj X.BT X.w H' s'.π)(h:Xf s'.Wr)(d:∀b∈ch,QBY/\b≠X.QA.SQ/\QAw/\∀p∈X.pn++QF,p.1≠b):g_ X QF σ H' s':=by
 let⟨h',g',d',t',f⟩:=s';let e:f=s.os:=g;subst e;show I.Ub (g':=g') (t':=t') (d':=d') u a h d
end
@[reducible]def XK:=Value->Option (Addr×Bool)->Hp->Prop
@[reducible]def St:=List (Option V)
@[reducible]def VK:=V->Hp->Prop
@[reducible]def TE:=St->Hp->VK->Prop
@[reducible]def TT:=St->Hp->(Bool->Hp->Prop)->Prop
@[reducible]def TA:=St->Hp->(List V->Hp->Prop)->Prop
structure Y2 where
 nx:St->Hp->Prop
 rt:VK
 bk:St->Hp->Prop:=λ_ _=>Rl
 ct:St->Hp->Prop:=λ_ _=>Rl
@[reducible]def TS:=Ends->St->Hp->Prop
inductive EP QC9 ZJ QBR ZV QP6 QJx:Prop
 |mk (v H':_) QHE (_:af v u) (_:Q v H')
inductive TP QC9 ZJ QBR QDL QPS QJx:Prop
 |mk (H':_) QHE (_:Q b H')
inductive AP QC9 ZJ QBR(Q:γ V->Hp->Prop)QDK QJx:Prop
 |mk (vs H':_) QHE (_:ae vs us) (_:Q vs H')
abbrev SP QC9 ZJ(D:Y2)(f:Flow)QJx:Prop:=
 match f with
 |.next=>∃σ' H',g_ X QF σ' H' s'/\D.nx σ' H'
 |.brk=>∃σ' H',g_ X QF σ' H' s'/\D.bk σ' H'
 |.X5=>∃σ' H',g_ X QF σ' H' s'/\D.ct σ' H'
 |.ret u=>∃v σ' H',g_ X QF σ' H' s'/\af v u/\D.rt v H'
abbrev PE QC9(e:SF)(t:TE):Prop:=
 ∀ZJ QBP QBR ZC ZV,g_ X QF σ H s->t σ H Q->Cl Y9 X.A QFJ QB1 X.xe s
abbrev PT QC9(e:SF)(t:TT):Prop:=
 ∀ZJ QBP QBR ZC QDL,g_ X QF σ H s->t σ H Q->Cl Y9 X.A (isTrue e X.QA QFJ) QLo X.xe s
abbrev PW QC9(e:SF)(t:TT):Prop:=
 ∀(whole:Sem η)ZJ QBP QBR ZC QDL,g_ X QF σ H s->t σ H Q->Cl Y9 X.A (isTrue e X.QA whole) QLo X.xe s
def PW.pt(h:PW X e t):PT X e t:=h _
abbrev PA QC9(es:γ SF)QG3:Prop:=
 ∀(RX:T6)ZJ QBP QBR ZC(Q:γ V->Hp->Prop),g_ X QF σ H s->t σ H Q->Cl Y9 X.A (spliced (SJ RX QEY)) (AP X QF σ Q) X.xe s
abbrev PS QC9 QRH(t:TS):Prop:=
 ∀ZJ QBP QBR ZC(D:Y2),g_ X QF σ H s->t D σ H->Cl Y9 X.A (exec st X.QA) QKm X.xe s
abbrev Bk QC9(st:γ Rb)(t:TS):Prop:=
 ∀ZJ QBP QBR ZC(D:Y2),g_ X QF σ H s->t D σ H->Cl Y9 X.A (execs st X.QA) QKm X.xe s
def oh{t:Sem c}{Q b:c->ω->Prop}(h:Cl M A t Q E s)(d:∀a s,Q a s->b a s):Cl M A t b E s:=RM h d λ_ _ x=>x
section
variable{X:Cx}
inductive bw Zi QBR ZC ZV:Prop
 |mk (v:_) (_:σ[i]?<*δ v) QJR
abbrev tC(v:V):TE:=λ_ H Q=>Q v H
def ze{RX:T6}(w:X.N[i]?<*x)(o:HI X.QA.Qy x)(g:((x==("__debug__":QL))=μ)>>>0)(j:((x==("__classdict__":QL))=μ)>>>0):PE X QD7 (bw i):=by
 intro f s n H Q I h;let⟨v,e,h⟩:=h;let⟨m,p,t⟩:=I.loc;let⟨u,r,l⟩:=t i x v w e o;let d:EP X f n Q u s:=QP7;rcases l with⟨b,q⟩|⟨b,c,k,a⟩
 .exact wpAny_Name (wpAny_loadName_local I.ok.Uz b p q d) g
 .rcases b with b|b
  .exact wpAny_Name (wpAny_loadName_cell I.ok.Uz b k a d) g
  .exact wpAny_Name (wpAny_loadName_free I.ok.Uz b k a d j) g
def c_{i j RX}:PE X (.Constant QIv j RX) (tC QIv):=λ_ _ _ H _ I h=>wpAny_Constant_int (.QB i,H,I.X0 _,QAy,h)
def AK{b j RX}:PE X (.Constant (.T9 b) j RX) (tC QIw):=λ_ _ _ H _ I h=>Constant_bool (.bl b,H,I,1,h)
def Gr{j RX}:PE X (.Constant .ζ j RX) (tC .UT):=λ_ _ _ H _ I h=>Constant_none (.UT,H,I,1,h)
def u5{x j RX}:PE X (.Constant QHL j RX) (tC QHL):=λ_ _ _ H _ I h=>Vn.Constant_str (.Qn x,H,I.X0 _,QAy,h)
abbrev Gl QC9 QD6:Prop:=X.QA.Sh x<*.globalImplicit
def wv{b:St}QKc(d:Gl X x)(c:X.mg x<*u)(h:Q u s)(e:((x==("__debug__":QL))=μ)>>>0):Cl Y9 X.A (SR QD7 X.QA) Q E s:=
 Vn.Name_function_global I.ok.Uz d (Vn.loadGlobal_global (by rw[I.ok.glob];show I.mod.glob.Tn I.bk) c h) e
def va QCw{b:St}{RX:T6}QKc(f:Gl X x)(e:X.mg x=ζ)(c:Wn x<*u)(h:Q u s)(d:(x≠"__name__")>>>0)(g:((x==("__debug__":QL))=μ)>>>0):Cl Y9 X.A (SR QD7 X.QA) Q E s:=by
 let⟨i,h1,h2⟩:=I.mod.blt;show Vn.Name_function_global I.ok.Uz f (Vn.loadGlobal_builtin (by rw[I.ok.glob];show I.mod.glob.Tn I.bk) e (by rw[I.ok.blt];show h1.Tn I.bk) ((h2 x d).ξ c) h) g
def E7(b:Gl X x)(a:X.mg x<*u)QHi(c:((x==("__debug__":QL))=μ)>>>0):PE X QD7 (tC v):=
 λ_ _ _ H _ I h=>wv I b a QP7 c
def iN{RX:T6}(d:Gl X x)(c:X.mg x=ζ)(a:Wn x<*u)QHi(b:(x≠"__name__")>>>0)(e:((x==("__debug__":QL))=μ)>>>0):PE X QD7 (tC v):=
 λ_ _ _ H _ I h=>va I d c a QP7 b e
variable{a b:SF}{ta tb:TE}{RX:T6}
inductive N5 QDL(x:V)QCi:Prop
 |mk (c:_) QLp (_:Q c H1)
abbrev tB(t:TE):TT:=λσ H Q=>t σ H (N5 Q)
def A1(h:PE X e t)(l:(∀c,isTrue e X.QA c=(do let v <-c;standAt e.RX;holding [v] (truthy v)))>>>7):PT X e (tB t):=by
 intro f s i H Q I hw;refine isTrue_plain (oh (h f s i H _ I hw) λv o g=>?_) (l _);let⟨x,n,m,j,k⟩:=g;let⟨d,ε,q⟩:=k;cases j;show To (n,m,q)
variable{tA tB':TT}{XQ:γ SF}
abbrev Lf(t u:TT):TT:=λσ H Q=>t σ H λc H1=>if c=ο then u σ H1 Q else Q μ H1
abbrev N6(t u:TT):TT:=λσ H Q=>t σ H λc H1=>if c=ο then Q ο H1 else u σ H1 Q
abbrev Nq(t:TT):TT:=λσ H Q=>t σ H λc H1=>Q (!c) H1
def cq(g:PT X a tA):PW X (.Y3 .And [a] RX) tA:=by
 intro i d s f H Q I h;refine isTrue_and QHj;cases c with
 |ο=>show isTrue_and_nil e
 |μ=>show e
def C4(g:PT X a tA):PW X (.Y3 .Or [a] RX) tA:=by
 intro i d s f H Q I h;refine isTrue_or QHj;cases c with
 |μ=>show isTrue_or_nil e
 |ο=>show e
def bL(n:PT X a tA)(m:PW X QON tB'):PW X QSa (Lf tA tB'):=by
 intro k d s f H Q I h;refine isTrue_and QHk;let⟨j,i,g⟩:=e;cases c with
 |ο=>show m k d l f j Q i g
 |μ=>show(j,i,g)
def Bx(n:PT X a tA)(m:PW X QPX tB'):PW X QTl (N6 tA tB'):=by
 intro k d s f H Q I h;refine isTrue_or QHk;let⟨j,i,g⟩:=e;cases c with
 |ο=>show(j,i,g)
 |μ=>show m k d l f j Q i g
def BJ(i:PT X a tA):PT X QPY (Nq tA):=by
 intro d s g H Q I h;show isTrue_not (oh (i d s g H (λc f=>Q (!c) f) I h) λc s' e=>by let⟨f,j,q⟩:=e;show(f,j,q))
inductive yS QJz QBR ZV(x:V)QCi:Prop
 |mk (c:_) QLp (_:if c=ο then tb σ H1 Q else Q (.bl μ) H1)
abbrev N7 QJz:TE:=λσ H Q=>ta σ H (yS ta tb σ Q)
inductive N8 QJz QBR ZV(x:V)QCi:Prop
 |mk (c:_) QLp (_:if c=ο then Q QMx H1 else tb σ H1 Q)
abbrev Lh QJz:TE:=λσ H Q=>ta σ H (N8 ta tb σ Q)
inductive yN ZV(x:V)QCi:Prop
 |mk (c:_) QLp (_:Q (.bl (!c)) H1)
abbrev N9(ta:TE):TE:=λσ H Q=>ta σ H (yN Q)
def Fv{op}(h:PE X a t):PE X (.Y3 op [a] RX) t:=λc s d H Q I hw=>BoolOp_one (h c s d H Q I hw)
def Fx(n:PE X a ta)(m:PE X QON tb):PE X QSa (N7 ta tb):=by
 intro d s g H Q I h;refine BoolOp_and QHl;let⟨x,j,i,l,e⟩:=f;let⟨c,ε,e⟩:=e;cases l;refine To ?_;cases c with
 |ο=>show m d k g j Q i e
 |μ=>show(.bl μ,j,i,1,e)
def N_(n:PE X a ta)(m:PE X QPX tb):PE X QTl (Lh ta tb):=by
 intro d s g H Q I h;refine BoolOp_or QHl;let⟨x,j,i,l,e⟩:=f;let⟨c,ε,e⟩:=e;cases l;refine To ?_;cases c with
 |μ=>show m d k g j Q i e
 |ο=>show(.bl ο,j,i,1,e)
def mI(j:PE X a ta):PE X QPY (N9 ta):=by
 intro d s g H Q I h;refine UnaryOp_ (oh (j d s g H _ I h) λv m f=>?_);let⟨x,l,k,i,e⟩:=f;let⟨c,ε,e⟩:=e;cases i;show not_of (To (.bl (!c),l,k,1,e))
abbrev Oa(t:TT)QJz:TE:=λσ H Q=>t σ H λc H1=>if c=ο then ta σ H1 Q else tb σ H1 Q
def dJ(m:PT X c tA)(o:PE X a ta)(n:PE X b tb):PE X (.IfExp c a b RX) (Oa tA ta tb):=by
 intro e s f H Q I h;refine wpAny_IfExp (oh (m e s f H _ I h) λd i g=>?_);let⟨l,k,j⟩:=g;cases d with
 |ο=>show o e i f l Q k j
 |μ=>show n e i f l Q k j
end
abbrev lb ZZ ZC QBz QBI:Prop:=
 Rd H a QEs \/
  ∃(o:UP)(Rc:Ry η)(n:υ),K.ρ a=δ o/\o.SN=.QH "list"/\o.Ux=ζ/\o.RD=.V8 Rc n/\Rc.Qw≤Λ/\ae xs Rc.Qq
abbrev pu ZZ ZC QBz QBI:Prop:=
 Rd H a QCY \/
  ∃(o:UP)(Rc:Ry η)(n:υ),K.ρ a=δ o/\o.SN=.QH "tuple"/\o.RD=.V8 Rc n/\Rc.Qw≤Λ/\ae xs Rc.Qq
abbrev Lj:η->χ V
 |.ζ=>δ .UT
 |.T9 b=>δ QIw
 |.QB i _=>δ QIv
 |.Qn x _=>δ QHL
 |.bytes b _=>δ (.byt b)
 |.float b _=>δ (.flt b)
 |.ν a=>δ ZW
 |.QH n=>δ (.ty n)
 |_=>ζ
def af.abs(r:af x u):Lj u<*x:=by
 cases x with
 |UT=>cases r;rfl
 |bl _=>cases r;rfl
 |QB _=>let⟨t,ε⟩:=r;rfl
 |Qn _=>let⟨t,ε⟩:=r;rfl
 |byt _=>let⟨t,ε⟩:=r;rfl
 |flt _=>let⟨t,ε⟩:=r;rfl
 |ν _=>cases r;rfl
 |ty _=>cases r;rfl
def af.Tx(r:af x u)(q:af y u):x=y:=χ.δ.Tx (r.abs.QU.ξ q.abs)
def ae.Tx:∀QHe QBq,ae xs us->ae ys us->xs=ys
 |_,_,_,.Tw,.Tw=>rfl
 |_,_,_,.Rx r t,.Rx a t'=>by rw[r.Tx a,ae.Tx t t']
section
variable{X:Cx}{QF:γ Z_}{σ:St}{H:Hp}{s:ω}{a:θ}{xs ys:γ V}
def lb.of QCI(h:H a<*.QM xs):lb K H a xs:=.RB (.RB h)
def pu.of QCI(h:H a<*.RJ xs):pu K H a xs:=.RB (.RB h)
def g_.U0 Y_(h:lb X.K H a xs):∃Rc:γ η,ae xs Rc/\PlainL s.π a Rc.Θ/\xs.β≤Λ:=by
 rcases h with h|⟨o,Rc,n,c,f,d,b,hz,r⟩
 .obtain ⟨z,Rc,n,r,e⟩:=h.ok I.S7;show(Rc,r,(_,n,e,5,1),z)
 .refine (Rc.Qq,r,(o,n,I.Xp a o c,f,d,by simpa using b),3);let e:=r.β;simp only[Ui]at e;show Fs e hz
def g_.T7 Y_(h:pu X.K H a xs):∃Rc:γ η,ae xs Rc/\IsTup s.π a Rc.Θ/\xs.β≤Λ:=by
 rcases h with h|⟨o,Rc,n,c,d,b,hz,r⟩
 .obtain ⟨z,Rc,r,p⟩:=h.ok I.S7;show(Rc,r,p,z)
 .refine (Rc.Qq,r,(o,I.Xp a o c,d,n,by simpa using b),3);let e:=r.β;simp only[Ui]at e;show Fs e hz
def g_.list_inj Y_(h:lb X.K H a xs)(h':lb X.K H a ys):xs=ys:=by
 let⟨Rc,r,⟨o,n,e,_,_,d⟩,_⟩:=I.U0 h;let⟨its',b,⟨c,f,e',_,_,d'⟩,_⟩:=I.U0 h';rw[e]at e';cases e';rw[d]at d';injection d' with d1 _;have:Rc=its':=by simpa using R7 Ry.Qq d1
 subst this;show r.Tx b
def g_.tuple_inj Y_(h:pu X.K H a xs)(h':pu X.K H a ys):xs=ys:=by
 let⟨Rc,r,⟨o,e,_,n,d⟩,_⟩:=I.T7 h;let⟨its',b,⟨c,e',_,f,d'⟩,_⟩:=I.T7 h';rw[e]at e';cases e';rw[d]at d';injection d' with d1 _;have:Rc=its':=by simpa using R7 Ry.Qq d1
 subst this;show r.Tx b
end
instance Cx.wish QC9 QAa:Cx:={X with xe:=E}
instance Cx.nox QC9:Cx:=X.wish λ_ _=>Rl
def Cx.Ok.wish QRI(ok:X.Ok)QAa:(X.wish E).Ok:=
 (ok.mod,ok.Uz,ok.glob,ok.blt,ok.above,ok.Tx,ok.Vl,ok.cab,ok.hd,ok.Uv,ok.stk,ok.exf,ok.bs,ok.bsz,ok.noex,ok.exfs,ok.funs,ok.frf)
def Cx.Ok.Wz QRI(ok:(X.wish E).Ok):X.Ok:=
 (ok.mod,ok.Uz,ok.glob,ok.blt,ok.above,ok.Tx,ok.Vl,ok.cab,ok.hd,ok.Uv,ok.stk,ok.exf,ok.bs,ok.bsz,ok.noex,ok.exfs,ok.funs,ok.frf)
section
variable{X:Cx}{QF:γ Z_}{σ:St}{H:Hp}{s:ω}{E:η->ω->Prop}
def g_.wish Y_ QAa:g_ QSb QF σ H s:=(I.ok.wish E,I.os,I.V9,I.ς,I.loc,I.R9,I.SA,I.Xs,I.pin,I.S7,I.Sr)
def g_.Wz(I:g_ QSb QF σ H s):g_ X QF σ H s:=(I.ok.Wz,I.os,I.V9,I.ς,I.loc,I.R9,I.SA,I.Xs,I.pin,I.S7,I.Sr)
def SP.Wz(h:SP QSb QF D f s'):SP X QF D f s':=by
 cases f with
 |next=>let⟨a,H',I,q⟩:=h;show QPZ
 |brk=>let⟨a,H',I,q⟩:=h;show QPZ
 |X5=>let⟨a,H',I,q⟩:=h;show QPZ
 |ret u=>let⟨v,a,H',I,r,q⟩:=h;show(v,a,H',I.Wz,r,q)
def Bk.nox{st:γ Rb}(h:Bk X.nox st t):Bk X st t:=λQF s σ H D I hw=>
 RM (h QF s σ H D QMV hw) (λ_ _ q=>q.Wz) λ_ _ z=>Rl.SG z
end
section
variable{X:Cx}{st:Rb}{XQ:γ Rb}{t u:TS}{e:SF}{te:TE}{RX:T6}
abbrev Vo:TS:=λD σ H=>D.nx σ H
abbrev aW(t u:TS):TS:=λD σ H=>t {D with nx:=u D} σ H
def ri:Bk X [] Vo:=λ_ _ a H _ I h=>VW (a,H,I,h)
def hJ QOB(h2:Bk X XQ u):Bk X (st::XQ) (aW t u):=by
 intro a s c H D I h;refine Wx (oh (h1 a s c H {D with nx:=u D} I h) λf d q=>?_);cases f with
 |next=>
  let⟨b,H',g,q⟩:=q;show h2 a d b H' D g q
 |ret v=>show q
 |brk=>show q
 |X5=>show q
def h7 QOB:Bk X [st] t:=by
 intro a s b H D I h;refine Wx (oh (h1 a s b H D I h) λf c q=>?_);cases f with
 |next=>show VW q
 |ret v=>show q
 |brk=>show q
 |X5=>show q
abbrev tBreak:TS:=λD σ H=>D.bk σ H
def ka:PS X (.Break RX) tBreak:=λ_ _ a H _ I h=>wpAny_Break (a,H,I,h)
def g_.quiet{b:St}QKc:interactive X.QA=μ:=by simp[interactive,I.ok.Uz]
abbrev Ob QNq:TS:=λD σ H=>te σ H λ_ H1=>D.nx σ H1
def C6(g:PE X e te)(f:(W3 e ζ RX.XI X.QA=pure μ)>>>4):PS X (.SF e RX) (Ob te):=by
 intro a s c H D I h;show wpAny_Expr_any (oh QSc λv k b=>by let⟨x,j,i,l,d⟩:=b;show(c,j,i,d)) I.quiet f
abbrev fG QNq:TS:=λD σ H=>te σ H D.rt
def ln(g:PE X e te):PS X (.Return (δ e) RX) (fG te):=by
 intro a s c H D I h;show wpAny_Return_some (oh QSc λv k b=>by let⟨x,j,i,d,f⟩:=b;show(x,c,j,i,d,f))
abbrev Nr(c:TT)(t u:TS):TS:=λD σ H=>c σ H λb H1=>if b=ο then t D σ H1 else u D σ H1
def q_(n:PT X c tc)(p:Bk X a t)(o:Bk X b u):PS X (.If c a b RX) (Nr tc t u):=by
 intro f s g H D I h;refine wpAny_If (oh (n f s g H _ I h) λd j i=>?_);let⟨m,l,k⟩:=i;cases d with
 |ο=>show p f j g m D l k
 |μ=>show o f j g m D l k
abbrev tNever:TS:=λ_ _ _=>Rl
def BB:PS X st tNever:=λ_ _ _ _ _ _ h=>h.SG
end
@[reducible]def TG:=V->St->Hp->(St->Hp->Prop)->Prop
@[reducible]def TGs:=List V->St->Hp->(St->Hp->Prop)->Prop
abbrev PG QC9(target:SF)(t:TG):Prop:=
 ∀ZJ QBP QBR ZC(v:V)QP6 QLk,g_ X QF σ H s->af v u->t v σ H Q->
  Cl Y9 X.A (Yz target X.QA u) QEt X.xe s
abbrev Kk QC9(ts:γ SF)(t:TGs):Prop:=
 ∀ZJ QBP QBR ZC ZF QDK QLk,g_ X QF σ H s->ae vs us->t vs σ H Q->
  Cl Y9 X.A (assignInOrder ((Yy ts X.QA).QY QA2) us) QEt X.xe s
@[reducible]def Jp:=V->V->V->Hp->(Hp->Prop)->Prop
abbrev xZ QC9(t:Jp):Prop:=
 ∀ZJ QBP QBR ZC(o i v:V)(ov iv u:η)QLq,g_ X QF σ H s->af o ov->af i iv->af v u->t o i v H Q->
  Cl Y9 X.A (setItem ov iv u) (λ_ s'=>∃H',g_ X QF σ H' s'/\Q H') X.xe s
section
variable{X:Cx}{RX:T6}
abbrev A2 Zi:TG:=λv σ H Q=>Q QMw H
def cu(e:X.N.Rq)(c:X.N[i]?<*x)(b:CF X.QA.Qy x)(d:QAH>>>8):PG X QD7 (A2 i):=by
 intro a s g H v u Q I r h;show wpAny_assign_Name (Au I e c b r (λs' f=>(_,H,f,h)) d)
abbrev gNil:TGs:=λvs σ H Q=>vs=[]/\Q σ H
abbrev uU(t:TG)(u:TGs):TGs:=λvs σ H Q=>∃v r,vs=v::r/\t v σ H λσ' H'=>u r σ' H' Q
def Jq:Kk X [] gNil:=by
 intro a s b H vs us Q I r h;let⟨e,h⟩:=h;subst e;cases r;show assignInOrder_nil (b,H,I,h)
def Ev(h1:PG X e t)(h2:Kk X d u)(k:((Yy (e::d) X.QA).QY QA2=Yz e X.QA::(Yy d X.QA).QY QA2)>>>4):Kk X (e::d) (uU t u):=by
 intro a s f H vs us Q I r h;let⟨v,o,l,h⟩:=h;subst l;cases r with
 |Rx r i=>
  rw[k];refine assignInOrder_cons (oh (h1 a s f H _ _ _ I r h) λ_ g c=>?_);let⟨b,n,m,j⟩:=c;show h2 a g b n _ _ Q m i j
inductive Nt ZZ QBM(t:TGs)(v:V)QBR ZC QLk:Prop
 |mk QTm (_:v=.ν a) (_:pu K H a xs) (_:xs.β=n) (_:t xs σ H Q)
def dI{k:υ}(q:X.Wm=ο)(h:Kk X d t)(m:((Yy d X.QA).β=n)>>>4)(WB:((Yy d X.QA).findIdx? Z9=ζ)>>>4):PG X (.Wo d k RX) (Nt X.K n t):=by
 intro c s f H v u Q I r hw;let⟨a,xs,w,l,p,hw⟩:=hw;subst w;cases r;let⟨Rc,g,j,hz⟩:=I.T7 l;refine assign_Tuple_tuple (I.ok.hd q) j (by simp[m,<-p,g.β]) WB λh' i=>?_;let x:g_ X c f H {s with π:=h'}:=I.WE (t':=s.Qs) λb o e=>i b o QKG e;show h c _ f H xs _ Q x QSd hw
abbrev Lk(to ti:TE)(t:Jp):TG:=λv σ H Q=>to σ H λo H1=>ti σ H1 λi H2=>t o i v H2 λH3=>Q σ H3
def C7(z:PE X o to)(A:PE X i j)(w:xZ X t)(B:(∀v,Yz (.Xh o i RX) X.QA v=(do
   let b <-holding [v] (SR o X.QA)
   let c <-holding [v,b] (SR i X.QA)
   standAt RX
   holding [v,b,c] (setItem b c v)
   release [v,b,c] []))>>>7):PG X (.Xh o i RX) (Lk to j t):=by
 intro a s d H v u Q I r h;rw[B];refine f_ (RZ (oh (z a s d H _ I h) λb k f=>?_));let⟨x,J,E,m,q⟩:=f;refine f_ (RZ (oh (A a k d J _ E q) λc s2 e=>?_));let⟨y,G,D,l,p⟩:=e;refine f_ (UB (f_ (RZ (oh (w a s2 d G x y v b c u _ D m l r p) λ_ L g=>?_))));let⟨F,C,n⟩:=g;show wpAny_release (d,F,C,n)
abbrev aQ QNq(g:TG):TS:=λD σ H=>te σ H λx H1=>g x σ H1 D.nx
def BC(n:PE X e f)(m:PG X b g)(l:(swapsWithSole [b] e RX.XI X.QA=pure μ)>>>4)(hw:(swappedStores [b] e X.QA=pure ζ)>>>4)(h1:((Yy [b] X.QA).QY QA2=[Yz b X.QA])>>>4):PS X (.Assign [b] e RX) (aQ f g):=by
 intro a s d H D I h;refine wpAny_Assign_stores (oh QSe λv i c=>?_) l hw;let⟨x,p,o,j,k⟩:=c;rw[h1];show oh (m a i d p x v _ o j k) λ_ s2 q=>q
def za(p:X.N.Rq)(m:X.N[i]?<*x)(k:CF X.QA.Qy x)(o:PE X e f)(l:(W3 e (δ (.Rn x a)) RX.XI X.QA=pure μ)>>>4)(n:QAH>>>8):PS X (.Assign [.Rn x a] e RX) (aQ f (A2 i)):=by
 intro b s d H D I h;refine wpAny_Assign_Name (oh (o b s d H _ I h) λv u c=>?_) l;let⟨y,t,r,g,j⟩:=c;show Au r p m k g (λs2 q=>(_,t,q,j)) n
abbrev yJ(c:TT)(tb:TS):TS:=λD σ H=>∃W:υ->St->Hp->Prop,(∃m,W m σ H)/\∀m σ H,W m σ H->
 c σ H λb H1=>if b=ο then ∃N:St->Hp->Prop,(∀σ' H',N σ' H'->∃m',m'<m/\W m' σ' H')/\tb {D with nx:=N,ct:=N,bk:=D.nx} σ H1 else D.nx σ H1
def j8 QOO(M:PT X c tc)(O:Bk X j G):PS X (.While c j [] RX) (yJ tc G):=by
 intro d s C H D I h;let⟨W,⟨L,F⟩,i⟩:=h;refine wpAny_While (codeAny_whileLoop (λn s'=>∃g H',g_ X d g H' s'/\W n g H') ?_ L (C,H,I,F));rintro n J⟨e,B,P,E⟩;refine VU hp (oh (M d J e B _ P (i n e B E)) λb s2 t=>?_);let⟨z,y,m⟩:=t;cases b with
 |ο=>
  let⟨N,x,m⟩:=m;rw[QC ε];refine VU hp (oh (O d s2 e z _ y m) λf Q l=>?_);cases f with
  |next=>
   let⟨a,k,u,p⟩:=l;let⟨q,r,o⟩:=x a k p;show(q,r,a,k,u,o)
  |X5=>
   let⟨a,k,u,p⟩:=l;let⟨q,r,o⟩:=x a k p;show(q,r,a,k,u,o)
  |brk=>show l
  |ret v=>show l
 |μ=>
  rw[Fr Ω.Q9];show VW (e,z,y,m)
end
structure It where
 go:υ->Hp->Prop
 yld:υ->Hp->V->Hp->Prop
 Wb:υ->Hp->Prop
abbrev aX QC9 ZJ ZC(b:θ):Prop:=
 H b=ζ/\b≠X.QA.SQ/\b∉X.fs/\QBY/\QAw/\∀p∈X.pn++QF,p.1≠b
def g_.fpOk{f:St}Zz(I:g_ X a f H s)(d:s⁻¹≤b)(g:H' b=ζ):aX X a H' b:=by
 refine(g,XH (LT I.lt d),I.nofs d,.RF (LE I.sz d),λx c e z=>?_,λp hp z=>?_)
 .obtain ⟨v,q⟩:=I.R9 x c e;show QG (LT q.lt (by rw[z];show d)) QOJ
 .exact QG (LT (lt_size (I.pin p hp).1) (by rw[z];show d)) QOJ
structure gp QKa Z' ZZ(tg:SF)(J:It)QSf QP8(tn:υ->Qx->Prop):Prop where
 mem:it∈fp
 YQ:∀i h,tn i h->∀b∈fp,∃o,h.Δ b=δ o/\∀v,o.RD≠.R9 v
 UF:∀i h h',tn i h->(∀b∈fp,∀o,h.Δ b<*o->h'.Δ b<*o)->tn i h'
 YW:∀QC9,X.BT=P->X.w=w->X.K=K->X.Wm=ο->∀Zi ZJ QBP QBR ZC QAa,g_ X QF σ H s->QMy->tn i s.π->J.go i H->
  Cl (KK P w) X.A (WD (.ν it)) (λr s1=>∃u,r=δ u/\
   Cl (KK P w) X.A (Y8 tg (.ν it) u) (λ_ s2=>∃x H',g_ X QF σ H' s2/\af x u/\J.yld i H x H'/\tn (i+1) s2.π/\∀b∈fp,H' b=ζ) E s1) E s
 done:∀QC9,X.BT=P->X.w=w->X.K=K->X.Wm=ο->∀Zi ZJ QBP QBR ZC QAa,g_ X QF σ H s->QMy->tn i s.π->J.Wb i H->
  Cl QAC X.A (WD QBb) (λr s1=>r=ζ/\g_ X QF σ H s1) E s
 self:∀(A:Qo)Zi QBP QFY QAa,tn i s.π->Q QBb s->Cl QAC A (YJ QBb) Q E s
@[reducible]def TI:=St->Hp->(It->Hp->Prop)->Prop
inductive Nu QC9 ZJ QBR(tg:SF)QA1(itv:η)(s2:ω):Prop
 |mk QP8 QSf (tn:υ->Qx->Prop) (J:It) QAe (_:itv=.ν it) (_:g_ X QF σ H' s2) (_:gp X.BT X.w X.K tg J fp it tn) (_:tn 0 s2.π) (_:(∀b∈fp,aX X QF H' b)) (_:R J H')
abbrev PI QC9(tg UG:SF)(wi:TI):Prop:=
 ∀ZJ QBP QBR ZC QA1,g_ X QF σ H s->wi σ H R->
  Cl Y9 X.A (SR UG X.QA) (λv s1=>Cl Y9 X.A (YJ v) (Nu X QF σ tg R) X.xe s1) X.xe s
def eM{M:Model}QMK(c:s.π.Δ it<*o)(f:o.SN=.QH n)(e:o.RD=.R5 vs)(d:["enumerate","zip","dict_itemiterator","dict_reverseitemiterator","odict_iterator","itertools.zip_longest","itertools.pairwise"].RO n=μ)(a:Q () s):Cl M A (Y8 b QBb u) Q E s:=by
 unfold Y8;cases b<;>first
  |show i_ a
  | (cases u<;>first
    |show i_ a
    | (refine f_ (Yd c ?_)
       rw[f,e];change Cl M A (if (["enumerate","zip","dict_itemiterator","dict_reverseitemiterator","odict_iterator","itertools.zip_longest","itertools.pairwise"].RO n&&vs[0]?==δ (R0 _))=ο then _ else _) Q E s;rw[Fr (by intro h;rw[d,Ω.false_and]at h;cases h)];show i_ a))
abbrev Fy ZZ QBz:It:=
 ⟨λi H=>∃xs x,lb K H a xs/\xs[i]?<*x,λi H x H'=>H'=H/\∀xs,lb K H a xs->xs[i]?<*x,λi H=>∃xs,lb K H a xs/\xs.β≤i⟩
abbrev HJ ZZ QBz:It:=
 ⟨λi H=>∃xs x,pu K H a xs/\xs[i]?<*x,λi H x H'=>H'=H/\∀xs,pu K H a xs->xs[i]?<*x,λi H=>∃xs,pu K H a xs/\xs.β≤i⟩
abbrev E8(lo:ψ)QBM:It:=(λi _=>i<n,λi H x H'=>H'=H/\x=.QB (lo+i),λi _=>n≤i)
def gv QCI(a it:θ):gp P w K T (Fy K a) [it] it (λi h=>h.IsListIter it a i)  where
 mem:=by simp
 YQ:=λi h st b g=>by
  let e:b=it:=by simpa using g
  subst e;let⟨o,e,c,d⟩:=st;show(o,e,λv z=>by rw[d]at z;cases z)
 UF:=λi h h' st k=>st.at λo e=>k it (!1) o e
 YW:=by
  intro X t hw y J i f s G H E I m st r;subst t hw y;let⟨xs,x,l,q⟩:=r;let⟨Rc,n,p,hz⟩:=I.U0 l;let⟨u,O,M⟩:=n.get q;let⟨F,D,Q,C,B,A⟩:=m it (!1);refine wpAny_pyNext_list_item st p.UZ (x:=u) QRJ λh' j L=>?_;let S:g_ X f G H {s with π:=h'}:=I.TC (t':=s.Qs) QKn F D C B A;let⟨o,e,c,d⟩:=id j;show(u,1,eM (s:={s with π:=h'}) e c d (!0) (x,H,S,M,(1,λys N=>by rw[I.list_inj N l];show q),j,λb g=>(m b g).1))
 done:=by
  intro X t hw y J i f s G H E I m st r;subst t hw y;let⟨xs,l,q⟩:=r;let⟨Rc,n,p,hz⟩:=I.U0 l;let⟨F,D,Q,C,B,A⟩:=m it (!1);let U:=n.β;show wpAny_pyNext_list_end (I.ok.hd J) st p.UZ (by simp;show DG U q) λh' R=>(1,I.TC (t':=s.Qs) QNr F D C B A)
 self:=λ_ _ _ _ _ st h=>wpAny_pyIter_listiter st h
def cY QCI(a it:θ):gp P w K T (HJ K a) [it] it (λi h=>h.XN it a i)  where
 mem:=by simp
 YQ:=λi h st b g=>by
  let e:b=it:=by simpa using g
  subst e;let⟨o,e,c,d⟩:=st;show(o,e,λv z=>by rw[d]at z;cases z)
 UF:=λi h h' st k=>st.at λo e=>k it (!1) o e
 YW:=by
  intro X t hw y J i f s G H E I m st r;subst t hw y;let⟨xs,x,l,q⟩:=r;let⟨Rc,n,p,hz⟩:=I.T7 l;let⟨u,O,M⟩:=n.get q;let⟨F,D,Q,C,B,A⟩:=m it (!1);refine wpAny_pyNext_tuple_item st (show s.π.Vm a Rc.Θ from p) (x:=u) QRJ λh' j L=>?_;let S:g_ X f G H {s with π:=h'}:=I.TC (t':=s.Qs) QKn F D C B A;let⟨o,e,c,d⟩:=id j;show(u,1,eM (s:={s with π:=h'}) e c d (!0) (x,H,S,M,(1,λys N=>by rw[I.tuple_inj N l];show q),j,λb g=>(m b g).1))
 done:=by
  intro X t hw y J i f s G H E I m st r;subst t hw y;let⟨xs,l,q⟩:=r;let⟨Rc,n,p,hz⟩:=I.T7 l;let⟨F,D,Q,C,B,A⟩:=m it (!1);let U:=n.β;show wpAny_pyNext_tuple_end (I.ok.hd J) st (show s.π.Vm a Rc.Θ from p) (by simp;show DG U q) λh' R=>(1,I.TC (t':=s.Qs) QNr F D C B A)
 self:=λ_ _ _ _ _ st h=>wpAny_pyIter_tupleiter st h
def lZ QCI QP8(lo:ψ)QBM:gp P w K L (E8 lo n) [it] it (λi h=>IsRangeIter h it (lo+(i:υ)*1) ((n:ψ)-(i:υ)) 1)  where
 mem:=by simp
 YQ:=λi h st b c=>by
  let e:b=it:=by simpa using c
  subst e;show(_,st,λv z=>by
   let B:Data.R5 _=Data.R9 v:=z;cases B)
 UF:=λi h h' st k=>k it (!1) _ st
 YW:=by
  intro X l hw m j i a s y H E I f st g;subst l hw m;let⟨x,u,F,r,q,p⟩:=f it (!1);let W:=Walks.Q' (BT:=X.BT) (w:=X.w) QKo it lo 1 n;refine W.YW i s _ _ g st λv h' A D d C=>?_;let⟨t,ε⟩:=D;let J:g_ X a y H {s with π:=h',Qs:=A}:=I.TC (λb o c e=>C b o QH2 e) x u r q p;refine(0,eM (s:={s with π:=h',Qs:=A}) (n:="range_iterator") d ε ε (!0) (.QB (lo+i),H,J,(t,3),(1,1),d,λb c=>(f b c).1));rw[ψ.mul_one]
 done:=by
  intro X l hw m j i a s y H E I f st g;subst l hw m;let⟨x,u,F,r,q,p⟩:=f it (!1);show wpAny_pyNext_range_end QKo st (by have:n≤i:=g;show F7 this) λh' G=>(1,I.TC (t':=s.Qs) (λb o c e=>G b o c e) x u r q p)
 self:=λ_ _ _ _ _ st h=>Yc st h
section
variable{X:Cx}{tg:SF}
inductive zP ZZ QA1(x:V)QCi:Prop
 |mk (a:_) QDc (_:(∃xs,lb K H1 a xs)) (_:R (Fy K a) H1)
abbrev yk ZZ(tl:TE):TI:=λσ H R=>tl σ H (zP K R)
inductive Oc ZZ QA1(x:V)QCi:Prop
 |mk (a:_) QDc (_:(∃xs,pu K H1 a xs)) (_:R (HJ K a) H1)
abbrev Ll ZZ(tl:TE):TI:=λσ H R=>tl σ H (Oc K R)
def cr(r:PE X l j):PI X tg l (yk X.K j):=by
 intro c s i H R I h;refine oh (r c s i H _ I h) λv d g=>?_;let⟨x,u,f,k,m⟩:=g;let⟨a,e,⟨xs,n⟩,q⟩:=m;subst e;cases k;let⟨Rc,w,p,hz⟩:=f.U0 n;refine Vi p.UZ ?_;refine(d⁻¹,[d⁻¹],7,u,1,f.WE (t':=d.Qs) λb o e=>ol _ e,gv a _,QBB,λb t=>?_,q);let e:b=d⁻¹:=by simpa using t
 subst e;show f.fpOk Zs QOP
def sR(r:PE X l j):PI X tg l (Ll X.K j):=by
 intro d s i H R I h;refine oh (r d s i H _ I h) λv c g=>?_;let⟨x,u,f,k,m⟩:=g;let⟨a,e,⟨xs,n⟩,q⟩:=m;subst e;cases k;let⟨Rc,w,p,hz⟩:=f.T7 n;refine wpAny_pyIter_tuple (show c.π.Vm a Rc.Θ from p) ?_;refine(c⁻¹,[c⁻¹],7,u,1,f.WE (t':=c.Qs) λb o e=>ol _ e,cY a _,QBB,λb t=>?_,q);let e:b=c⁻¹:=by simpa using t
 subst e;show f.fpOk Zs QOP
def j5{d:St}{lo a:ψ}QKd(h1:-QOQ≤lo)(h2:lo<2^62)(j:-QOQ≤a)(i:a<2^62)(q:R (E8 lo (a-lo).RW) H):Cl Y9 X.A (YJ Za) (Nu X c d tg R) E {s with π:=s.π.Ra {SN:=.QH "range",RD:=.R5 #[.QB lo t,.QB a u,.QB 1 v]},Qs:=g}:=by
 refine wpAny_pyIter_range (IsRange.new ..) (small_one h1 h2 j i) ?_;let f:g_ X c d H {s with π:=s.π.Ra {SN:=.QH "range",RD:=.R5 #[.QB lo t,.QB a u,.QB 1 v]},Qs:=g}:=I.WE λb o e=>ol _ e;refine((s.π.Ra {SN:=.QH "range",RD:=.R5 #[.QB lo t,.QB a u,.QB 1 v]}).SM.Qw,[(s.π.Ra {SN:=.QH "range",RD:=.R5 #[.QB lo t,.QB a u,.QB 1 v]}).SM.Qw],7,H,1,
  f.WE (t':=g) λb o e=>ol _ e,lZ _ lo (a-lo).RW,3,λb h=>?_,q)
 .let l:lo+((0:υ):ψ)*1=lo:=by simp
  let k:(((a-lo).RW:υ):ψ)-((0:υ):ψ)=Builtin.Wp.YT lo a 1:=by rw[rangeSize_one];split<;>omega
  change IsRangeIter _ _ (lo+((0:υ):ψ)*1) ((((a-lo).RW:υ):ψ)-((0:υ):ψ)) 1;rw[l,k];show QK _ ε
 .let e:b=(s.π.Ra {SN:=.QH "range",RD:=.R5 #[.QB lo t,.QB a u,.QB 1 v]}).SM.Qw:=by simpa using h
  subst e;show f.fpOk Zs QOP
inductive zO QA1 ZF QCi:Prop
 |mk (j:ψ) (_:vs=[.QB j]) (_:-QOQ≤j) (_:j<2^62) (_:R (E8 0 j.RW) H1)
abbrev uH QTZ:TI:=λσ H R=>ta σ H (zO R)
inductive zN QA1 ZF QCi:Prop
 |mk QLR (_:vs=[.QB i,.QB j]) (_:(-QOQ≤i/\i<2^62/\-QOQ≤j/\j<2^62)) (_:R (E8 i (j-i).RW) H1)
abbrev Od QTZ:TI:=λσ H R=>ta σ H (zN R)
def C8(o:Gl X "range")(n:X.mg "range"=ζ)(u:PA X [a] g)(m:QHM>>>4):PI X tg (.Tl (.Rn "range" p) [a] [] RX) (uH g):=by
 intro b s f H R I h;refine Call_ (va I o n boot_range (Sz.Ws.S8 (oh (u RX b s f H _ I h) λus w d=>?_) m ε));let⟨vs,x,v,k,c⟩:=d;let⟨j,e,c,l,q⟩:=c;subst e;cases k with
 |Rx r i=>
  cases i;let⟨t,ε⟩:=r;show call_range_1 (j5 v G7 G6 c l (by simpa using q))
def HK QFH(z:Gl X "range")(y:X.mg "range"=ζ)(A:PA X [a,b] m)(x:(Ψ [a,b] X.QA=[QBg,(μ,SR b X.QA,)])>>>4)(d:(Ψ [b] X.QA=[(μ,SR b X.QA,)])>>>4):PI X tg (.Tl (.Rn "range" p) [a,b] [] RX) (Od m):=by
 intro c s l H R I h;refine Call_ (va I z y boot_range (Sz.Ws.S8 (oh (A RX c s l H _ I h) λus C k=>?_) (by rw[x,d]) (by rw[d];rfl)));let⟨vs,D,B,n,g⟩:=k;let⟨i,j,e,⟨g,w,v,u⟩,q⟩:=g;subst e;cases n with
 |Rx r f=>
  cases f with
  |Rx o f=>
   cases f;let⟨t,ε⟩:=r;let⟨t',ε⟩:=o;show call_range_2 (j5 B g w v u q)
abbrev Lm(wi:TI)(g:TG)(tb:TS):TS:=λD σ H=>wi σ H λJ H1=>∃W:υ->υ->St->Hp->Prop,(∃m,W 0 m σ H1)/\∀i m σ H,W i m σ H->
 (J.Wb i H/\D.nx σ H)\/(J.go i H/\∃N:St->Hp->Prop,(∀σ' H',N σ' H'->∃m',m'<m/\W (i+1) m' σ' H')/\∀x H',J.yld i H x H'->g x σ H' λσ2 H2=>tb {D with nx:=N,ct:=N,bk:=D.nx} σ2 H2)
abbrev iJ QSf QKF:γ Z_:=fp.WR λb=>(h.Δ b).QY λo=>(b,o,)
def HL(a:b∈c)(e:h.Δ b<*o):QMW∈iJ c h:=γ.mem_filterMap.Sj (b,a,by rw[e];rfl)
def qw(hp:p∈iJ c h):p.1∈c/\h.Δ p.1<*p.2:=by
 let⟨b,a,e⟩:=γ.mem_filterMap.mp hp;cases q:h.Δ b with
 |ζ=>rw[q]at e;cases e
 |δ o=>
  rw[q]at e;let e':QMW=p:=χ.δ.Tx e;subst e';show(a,q)
def g_.pinned{c:St}QLS(i:∀b∈g,aX X a H b)(h:∀b∈g,∃o,s.π.Δ b=δ o/\∀v,o.RD≠.R9 v):g_ X (a++iJ g s.π) c H s:=
 I.pins_of λp hp=>(Rr.mp hp).SG (λz=>I.pin p (Rj _ z)) λz=>by
  let⟨f,e⟩:=qw z;let⟨l,k,j,_⟩:=i p.1 f;let⟨o,e',d⟩:=h p.1 f;rw[e]at e';cases e';show(e,l,k,j,d)
def g_.unpinned{b:St}(I:g_ X (a++pl) b H s):g_ X a b H s:=I.pins_of λp hp=>I.pin p (Rj _ (U1 _ hp))
def A_ QOO QRA(hi:PI X tg UG wi)(hg:PG X tg g)(p:Bk X L tb)(hs:QAJ>>>7):PS X (.For tg UG L [] RX) (Lm wi g tb):=by
 intro c s σ H D I h;refine wpAny_For (oh (hi c s σ H _ I h) λv s1 h1=>oh h1 λab s2 h2=>?_) hs;let⟨it,G,tn,J,H2,e,I2,T,P,f2,W,⟨m0,w0⟩,B⟩:=h2;subst e;let l:∀QDQ,QH3->∀b∈G,aX X c H' b:=λhn b p=>(hn b p,(f2 b p).2);refine codeAny_forLoop_any (λn s'=>∃i k H',g_ X c k H' s'/\tn i s'.π/\QH3/\W i n k H') ?_ m0 ((0),σ,H2,I2,P,λb p=>(f2 b p).1,w0);rintro n s3⟨i,j,M,I3,C,F,w3⟩;rcases B i n j M w3 with⟨Wb,qn⟩|⟨go,N,hN,step⟩
 .refine VU hp (oh (T.done X ε ε ε hc i c s3 j M X.xe I3 (l F) C Wb) λr s4⟨R,I4⟩=>?_);subst R;show VW (j,M,I4,qn)
 .refine VU hp (oh (T.YW X ε ε ε hc i c s3 j M X.xe I3 (l F) C go) λr s4⟨u,R,h4⟩=>?_);subst R;refine VU hp (oh h4 λ_ s5 S=>?_);let⟨x,H5,I5,r5,y5,z,Y⟩:=S;let Z:=I5.pinned (l Y) (T.YQ _ _ z);refine VU hp (oh (hg _ s5 j H5 x u _ Z r5 (step x H5 y5)) λ_ s6 U=>?_);let⟨O,H6,I6,q6⟩:=U;refine VU hp (oh (p _ s6 O H6 _ I6 q6) λf Q y=>?_);let again:∀{a:St}{t:Hp},g_ X (c++iJ G s5.π) a t Q->N a t->∃m,m<n/\∃i k H',g_ X c k H' Q/\tn i Q.π/\QH3/\W i m k H':=λ{a t}q E=>by
   let⟨m',hm,w7⟩:=hN a t E;refine(m',hm,i+1,a,t,q.unpinned,T.UF _ _ _ z λb p o e=>(q.pin QMW QNs).1,λb p=>?_,w7);let⟨o,e,d⟩:=T.YQ _ _ z b p;show(q.pin QMW QNs).2.1
  cases f with
  |next=>let⟨a,t,q,E⟩:=y;show again q E
  |X5=>let⟨a,t,q,E⟩:=y;show again q E
  |brk=>let⟨a,t,q,y⟩:=y;show(a,t,q.unpinned,y)
  |ret v=>let⟨x7,a,t,q,r7,y⟩:=y;show(x7,a,t,q.unpinned,r7,y)
end
def eS QCI{g:TG}{k:TS}QTn QHF(u:c 0 b H)(r:∀i b H,i≤xs.β->c i b H->lb K H a xs)(o:∀i x b H,xs[i]?<*x->c i b H->g x b H λd j=>k {D with nx:=c (i+1),ct:=c (i+1),bk:=D.nx} d j)QIx:∃W:υ->υ->St->Hp->Prop,QFb/\∀i m b H,W i m b H->
   ((Fy K a).Wb i H/\D.nx b H)\/((Fy K a).go i H/\∃N:St->Hp->Prop,QFc/\∀x H',(Fy K a).yld i H x H'->g x b H' λd j=>k {D with nx:=N,ct:=N,bk:=D.nx} d j):=by
 refine QDA;rintro i m b H⟨rfl,s,p⟩;let q:=r i b H s p;by_cases h:i<xs.β
 .refine .RF ((xs,xs[i],q,by simp[h]),c (i+1),λf H' n=>(xs.β-(i+1),Eo h,1,h,n),λx H' y=>?_);let⟨e,y⟩:=y;subst e;show o i x b _ (y xs q) p
 .let e:i=xs.β:=D9 h s
  subst e;show .RB QOR
def oW QCI{g:TG}{k:TS}QTn QHF(u:c 0 b H)(r:∀i b H,i≤xs.β->c i b H->pu K H a xs)(o:∀i x b H,xs[i]?<*x->c i b H->g x b H λd j=>k {D with nx:=c (i+1),ct:=c (i+1),bk:=D.nx} d j)QIx:∃W:υ->υ->St->Hp->Prop,QFb/\∀i m b H,W i m b H->
   ((HJ K a).Wb i H/\D.nx b H)\/((HJ K a).go i H/\∃N:St->Hp->Prop,QFc/\∀x H',(HJ K a).yld i H x H'->g x b H' λd j=>k {D with nx:=N,ct:=N,bk:=D.nx} d j):=by
 refine QDA;rintro i m b H⟨rfl,s,p⟩;let q:=r i b H s p;by_cases h:i<xs.β
 .refine .RF ((xs,xs[i],q,by simp[h]),c (i+1),λf H' n=>(xs.β-(i+1),Eo h,1,h,n),λx H' y=>?_);let⟨e,y⟩:=y;subst e;show o i x b _ (y xs q) p
 .let e:i=xs.β:=D9 h s
  subst e;show .RB QOR
def C9{lo:ψ}{g:TG}{j:TS}QTn QP9(r:f 0 a H)(o:∀i a H,i<n->f i a H->g (.QB (lo+i)) a H λb h=>j {D with nx:=f (i+1),ct:=f (i+1),bk:=D.nx} b h)(q:∀a H,f n a H->D.nx a H):∃W:υ->υ->St->Hp->Prop,QFd/\∀i m a H,W i m a H->
   ((E8 lo n).Wb i H/\D.nx a H)\/((E8 lo n).go i H/\∃N:St->Hp->Prop,QFe/\∀x H',(E8 lo n).yld i H x H'->g x a H' λb h=>j {D with nx:=N,ct:=N,bk:=D.nx} b h):=by
 refine(λi m a H=>m=n-i/\i≤n/\f i a H,(n,!1,RP _,r),3);rintro i m a H⟨rfl,s,p⟩;by_cases d:i<n
 .refine .RF (d,f (i+1),λc H' l=>(n-(i+1),Eo d,1,d,l),λx H' y=>?_);let⟨e,y⟩:=y;subst e y;show o i a _ d p
 .let e:i=n:=D9 d s
  subst e;show .RB (QD _,q a H p)
@[reducible]def R2:=V->V->Hp->VK->Prop
abbrev Ad QC9(f:η->η->Sem η)(r:R2):Prop:=
 ∀ZJ QBP QBR ZC QLW(v u:η)ZV,g_ X QF σ H s->af x v->af y u->r x y H Q->
  Cl Y9 X.A (f v u) QB1 X.xe s
abbrev Ln QC9(f:η->Sem η)QSg:Prop:=
 ∀ZJ QBP QBR ZC(x:V)(v:η)ZV,g_ X QF σ H s->af x v->r x H Q->
  Cl Y9 X.A (f v) QB1 X.xe s
abbrev B6 QC9(f:η)QP_:Prop:=
 ∀ZJ QBP QBR ZC QBI QDK ZV,g_ X QF σ H s->ae xs us->r xs H Q->
  Cl Y9 X.A (Ub f us) QB1 X.xe s
abbrev Ew(r:R2)QJz:TE:=λσ H Q=>ta σ H λx H1=>tb σ H1 λy H2=>r x y H2 Q
abbrev Oe QSg(ta:TE):TE:=λσ H Q=>ta σ H λx H1=>r x H1 Q
inductive rI(C:ψ->ψ->Prop)(g:ψ->ψ->V)(x:V)(y:V)ZC ZV:Prop
 |mk (i j:_) QLr (_:y=.QB j) (_:C i j) (_:Q QFK H)
inductive D_(g:ψ->ψ->V)(x:V)(y:V)ZC ZV:Prop
 |mk (i j:_) QLr (_:y=.QB j) (_:Q QFK H)
inductive rU(g:ψ->V)(x:V)ZC ZV:Prop
 |mk (i:_) QLr (_:Q (g i) H)
section
variable{X:Cx}{a b c:SF}{ta tb tc:TE}{RX:T6}
def G8(B:PE X a ta)(z:PE X b tb){e:St}{R:V->V->Hp->Prop}(I:g_ X d e H s)(h:ta e H λx m=>tb e m λy g=>R x y g){f:η->η->Sem η}(t:∀v u s2 x y g,g_ X d e g s2->af x v->af y u->R x y g->Cl Y9 X.A (f v u) Q X.xe s2):Cl Y9 X.A (SR a X.QA) (λv j=>Cl Y9 X.A (SR b X.QA) (λu i=>Cl Y9 X.A (f v u) Q X.xe i) X.xe j) X.xe s:=by
 refine oh (B d s e H _ I h) λv n l=>?_;let⟨x,m,D,p,r⟩:=l;refine oh (z d n e m _ D r) λu s2 k=>?_;let⟨y,g,C,o,q⟩:=k;show t v u s2 x y g C p o q
def o5(i:Ad X (Uc op) r)(k:PE X a ta)(j:PE X b tb):PE X (.BinOp a op b RX) QJS:=by
 intro d s e H Q I h;show wpAny_BinOp (G8 k j I h λv u s2 x y m l g f q=>i d s2 e m x y v u Q l g f q)
def Ea(k:Ln X (unaryOp op) r)(l:PE X a ta):PE X (.UnaryOp op a RX) (Oe r ta):=by
 intro d s f H Q I h;show UnaryOp_ (oh (l d s f H _ I h) λv g e=>by let⟨x,n,m,i,j⟩:=e;show k d g f n x v Q m i j)
def Jr{g:ψ->ψ->ψ}(Xl:∀QLR(t u:Tok)QBP QFY QAa,C i j->Q (.QB QFK s.Qs) {s with Qs:=s.Qs+1}->Cl Y9 X.A QFL Q E s):Ad X f (rI C λi j=>.QB QFK):=by
 intro d s m H x y v u Q I k e h;let⟨i,j,ε,ε,l,q⟩:=h;let⟨t,ε⟩:=k;let⟨t',ε⟩:=e;show Xl i j t t' s _ _ l QMX
def wT{g:ψ->ψ->ψ}(Xl:∀QLR(t u:Tok)QBP QFY QAa,Q (.QB QFK s.Qs) {s with Qs:=s.Qs+1}->Cl Y9 X.A QFL Q E s):Ad X f (D_ λi j=>.QB QFK):=by
 intro d s l H x y v u Q I k e h;let⟨i,j,ε,ε,q⟩:=h;let⟨t,ε⟩:=k;let⟨t',ε⟩:=e;show Xl i j t t' s _ _ QMX
def wU{g:ψ->ψ->Ω}(Xl:∀QLR(t u:Tok)QBP QFY QAa,Q (.T9 QFK) s->Cl Y9 X.A QFL Q E s):Ad X f (D_ λi j=>.bl QFK):=by
 intro d s l H x y v u Q I k e h;let⟨i,j,ε,ε,q⟩:=h;let⟨t,ε⟩:=k;let⟨t',ε⟩:=e;show Xl i j t t' s _ _ (.bl QFK,H,I,1,q)
abbrev Lp QLR:Prop:=0<j/\j<1073741824
abbrev Lq QLR:Prop:=0≤j/\j≤1000000/\i.natAbs<2^64
abbrev Ls QLR:Prop:=(-(2^64)<i/\i<2^64)\/QP'
def Ls.ok(h:Ls i j):IntMulOk i j:=by
 rcases h with⟨h1,h2⟩|⟨h1,h2⟩
 .exact .of_left QOS
 .exact .of_right QOS
def lW QKb:(0:ψ)≤2^k:=by
 rw[two_pow_cast];show ψ.natCast_nonneg _
def mL:Ad X QOT QOU:=wT λ_ _ _ _ _ _ _ q=>add_int q
def zm:Ad X (Uc .Sub) QOV:=wT λ_ _ _ _ _ _ _ q=>sub_int q
def zo:Ad X (Uc .Mult) (rI Ls λi j=>.QB (i*j)):=Jr λ_ _ _ _ _ _ _ d q=>mul_int q d.ok
def iX:Ad X (Uc .FloorDiv) (rI Lp λi j=>.QB (i/j)):=Jr λi j _ _ _ _ _ d q=>by
 let h1:(0:ψ)<j:=d.1;let h2:j<1073741824:=d.2;show floordiv_int (G3 h1) (by rw[ψ.fdiv_eq_ediv_of_nonneg i (F4 h1)];show q) (.RB (Sz.noPylong_small (!2)))
def bR:Ad X (Uc .Mod) QHm:=Jr λi j _ _ _ _ _ d q=>by
 let h1:(0:ψ)<j:=d;show mod_int' (G3 d) (by rw[ψ.fmod_eq_emod_of_nonneg i (F4 d)];show q)
def bQ:Ad X (Uc .LShift) (rI Lq λi j=>.QB (i*2^j.RW)):=Jr λ_ _ _ _ _ _ _ d q=>lshift_int_small d.1 d.2.1 d.2.2 q
def dM:Ad X (Uc .RShift) (rI (λ_ j=>0≤j) λi j=>.QB (i/2^j.RW)):=Jr λi j _ _ _ _ _ d q=>
 rshift_int d (by rw[ψ.fdiv_eq_ediv_of_nonneg i (lW _)];show q)
def G9:Ad X (Uc .BitAnd) (D_ λi j=>.QB (Builtin.bitAnd i j)):=wT λ_ _ _ _ _ _ _ q=>and_int q
def oy:Ad X (Uc .BitOr) (D_ λi j=>.QB (Builtin.bitOr i j)):=wT λ_ _ _ _ _ _ _ q=>or_int q
def Of{g:ψ->ψ}(Xl:∀(i:ψ)QHd QBP QFY QAa,Q (.QB (g i) s.Qs) {s with Qs:=s.Qs+1}->Cl Y9 X.A (f (.QB i t)) Q E s):Ln X f (rU λi=>.QB (g i)):=by
 intro d s j H x v Q I e h;let⟨i,ε,q⟩:=h;let⟨t,ε⟩:=e;show Xl i t s _ _ (.QB (g i),H,I.X0 _,QAy,q)
def Eb:Ln X (unaryOp .USub) (rU λi=>.QB (-i)):=Of λ_ _ _ _ _ q=>neg_int q
end
abbrev Nv:V->V->Ω
 |.UT,.UT=>ο|.UT,.QB _=>ο|.QB _,.UT=>ο|.UT,.bl _=>ο|.bl _,.UT=>ο|.UT,.Qn _=>ο|.Qn _,.UT=>ο
 |.QB _,.QB _=>ο|.bl _,.bl _=>ο|.Qn _,.Qn _=>ο|.byt _,.byt _=>ο
 |.QB _,.Qn _=>ο|.Qn _,.QB _=>ο|.bl _,.Qn _=>ο|.Qn _,.bl _=>ο
 |_,_=>μ
abbrev rEq:R2:=λx y H Q=>Nv x y=ο/\Q (.bl (decide (x=y))) H
abbrev rNe:R2:=λx y H Q=>Nv x y=ο/\Q (.bl (!decide (x=y))) H
def pd:decide (V.QB i=V.QB j)=(i==j):=by
 rw[Ω.TV];simp
def vq:decide (V.bl i=V.bl j)=(i==j):=by
 rw[Ω.TV];simp
def pb:decide (V.Qn i=V.Qn j)=(i==j):=by
 rw[Ω.TV];simp
def pe:decide (V.byt i=V.byt j)=(i.Qq==j.Qq):=by
 rw[Ω.TV];cases i;cases j;simp
section
variable{X:Cx}{a b c:SF}{ta tb tc:TE}{RX:T6}
def AD{f:St}(I:g_ X d f H s)(q:Q (.bl k) H)(e:k=k'):EP X d f Q (.T9 k') s:=by
 subst e;show(.bl k,H,I,1,q)
def Ed:Ad X (Sv .Eq) rEq:=by
 intro g s k H x y v u Q I f d h;let⟨e,q⟩:=h;cases x with
 |UT=>
  cases f;cases y with
  |UT=>cases d;show Ξ.XV.eq_none_none Zo
  |bl j=>cases d;show Ξ.XV.eq_none_bool Zo
  |QB j=>let⟨t',ε⟩:=d;show Ξ.XV.eq_none_int Zo
  |Qn j=>let⟨t',ε⟩:=d;show Ξ.XV.eq_none_str Zo
  |_=>show QG (show μ=ο from e) Ω.Q9
 |bl i=>
  cases f;cases y with
  |UT=>cases d;show Ξ.XV.eq_bool_none Zo
  |bl j=>cases d;show eq_bool (AD I q vq)
  |Qn j=>let⟨t',ε⟩:=d;show Ξ.EqMixed.eq_bool_str Zo
  |_=>show QG (show μ=ο from e) Ω.Q9
 |QB i=>
  let⟨t,ε⟩:=f;cases y with
  |UT=>cases d;show Ξ.XV.eq_int_none Zo
  |QB j=>let⟨t',ε⟩:=d;show eq_int (AD I q pd)
  |Qn j=>let⟨t',ε⟩:=d;show Ξ.EqMixed.eq_int_str Zo
  |_=>show QG (show μ=ο from e) Ω.Q9
 |Qn i=>
  let⟨t,ε⟩:=f;cases y with
  |UT=>cases d;show Ξ.XV.eq_str_none Zo
  |bl j=>cases d;show Ξ.EqMixed.eq_str_bool Zo
  |QB j=>let⟨t',ε⟩:=d;show Ξ.EqMixed.eq_str_int Zo
  |Qn j=>let⟨t',ε⟩:=d;show eq_str (AD I q pb)
  |_=>show QG (show μ=ο from e) Ω.Q9
 |byt i=>
  let⟨t,ε⟩:=f;cases y with
  |byt j=>let⟨t',ε⟩:=d;show Ξ.W.eq_bytes (AD I q pe)
  |_=>show QG (show μ=ο from e) Ω.Q9
 |_=>cases y<;>show QG (show μ=ο from e) Ω.Q9
def yg:Ad X (Sv .NotEq) rNe:=by
 intro g s k H x y v u Q I f d h;let⟨e,q⟩:=h;cases x with
 |UT=>
  cases f;cases y with
  |UT=>cases d;show Ξ.XV.ne_none_none Zo
  |bl j=>cases d;show Ξ.XV.ne_none_bool Zo
  |QB j=>let⟨t',ε⟩:=d;show Ξ.XV.ne_none_int Zo
  |Qn j=>let⟨t',ε⟩:=d;show Ξ.XV.ne_none_str Zo
  |_=>show QG (show μ=ο from e) Ω.Q9
 |bl i=>
  cases f;cases y with
  |UT=>cases d;show Ξ.XV.ne_bool_none Zo
  |bl j=>cases d;show ne_bool (AD I q (R7 not vq))
  |Qn j=>let⟨t',ε⟩:=d;show Ξ.EqMixed.ne_bool_str Zo
  |_=>show QG (show μ=ο from e) Ω.Q9
 |QB i=>
  let⟨t,ε⟩:=f;cases y with
  |UT=>cases d;show Ξ.XV.ne_int_none Zo
  |QB j=>let⟨t',ε⟩:=d;show ne_int (AD I q (R7 not pd))
  |Qn j=>let⟨t',ε⟩:=d;show Ξ.EqMixed.ne_int_str Zo
  |_=>show QG (show μ=ο from e) Ω.Q9
 |Qn i=>
  let⟨t,ε⟩:=f;cases y with
  |UT=>cases d;show Ξ.XV.ne_str_none Zo
  |bl j=>cases d;show Ξ.EqMixed.ne_str_bool Zo
  |QB j=>let⟨t',ε⟩:=d;show Ξ.EqMixed.ne_str_int Zo
  |Qn j=>let⟨t',ε⟩:=d;show ne_str (AD I q (R7 not pb))
  |_=>show QG (show μ=ο from e) Ω.Q9
 |byt i=>
  let⟨t,ε⟩:=f;cases y with
  |byt j=>let⟨t',ε⟩:=d;show Ξ.W.ne_bytes (AD I q (R7 not pe))
  |_=>show QG (show μ=ο from e) Ω.Q9
 |_=>cases y<;>show QG (show μ=ο from e) Ω.Q9
def dN:Ad X (Sv .Lt) (D_ λi j=>.bl (decide (i<j))):=wU λ_ _ _ _ _ _ _ q=>lt_int q
def oz:Ad X (Sv .LtE) (D_ λi j=>.bl (decide (i≤j))):=wU λ_ _ _ _ _ _ _ q=>le_int q
def b9:Ad X (Sv .Gt) (D_ λi j=>.bl (decide (j<i))):=wU λ_ _ _ _ _ _ _ q=>gt_int q
def yh:Ad X (Sv .GtE) (D_ λi j=>.bl (decide (j≤i))):=wU λ_ _ _ _ _ _ _ q=>ge_int q
def ql:Ad X (Sv .In) (λx y H Q=>∃i j,x=.Qn i/\y=.Qn j/\Q (.bl QFf) H):=by
 intro d s g H x y v u Q I f e h;let⟨i,j,ε,ε,q⟩:=h;let⟨t,ε⟩:=f;let⟨t',ε⟩:=e;show in_str (AD I q ε)
def mJ:Ad X (Sv .Is) (λx y H Q=>y=.UT/\Q (.bl (decide (x=.UT))) H):=by
 intro e s g H x y v u Q I d f h;let⟨rfl,q⟩:=h;cases f;refine is_none_gen (AD I q ?_);cases x<;>first
  |(cases d;rfl)
  |(let⟨t,ε⟩:=d;rfl)
def wS:Ad X (Sv .IsNot) (λx y H Q=>y=.UT/\Q (.bl (!decide (x=.UT))) H):=by
 intro e s g H x y v u Q I d f h;let⟨rfl,q⟩:=h;cases f;refine isnot_none_gen (AD I q ?_);cases x<;>first
  |(cases d;rfl)
  |(let⟨t,ε⟩:=d;rfl)
def iW:Ad X QQA (λx y H Q=>∃i j,x=.Qn i/\y=.Qn j/\Q (.bl (! QFf)) H):=by
 intro d s g H x y v u Q I f e h;let⟨i,j,ε,ε,q⟩:=h;let⟨t,ε⟩:=f;let⟨t',ε⟩:=e;show notIn_str (AD I q ε)
def Ak(b:SF)(h:(op≠.In)>>>0)(h2:(op≠.NotIn)>>>0):behindInMarks op b=μ:=by
 let e:(op==CmpOp.In)=μ:=by cases op<;>first|rfl|show QG ε h
 let d:(op==CmpOp.NotIn)=μ:=by cases op<;>first|rfl|show QG ε h2
 cases b<;>simp[behindInMarks,e,d]
def CG(i:Ad X (Sv op) r)(l:PE X a ta)(k:PE X b tb)(j:behindInMarks op b=μ):PE X QMY QJS:=by
 intro d s e H Q I h;show wpAny_Compare1 (G8 l k I h λv u s2 x y n m g f q=>i d s2 e n x y v u Q m g f q) j
inductive yK QDL(x:V)QAe:Prop
 |mk (k:_) (_:x=.bl k) (_:Q k H')
abbrev jO(t:TE):TT:=λσ H Q=>t σ H (yK Q)
def AT(p:Ad X (Sv op) r)(w:PE X a ta)(t:PE X b tb)(q:behindInMarks op b=μ):PT X QMY (jO QJS):=by
 intro d s f H Q I h;refine wpAny_isTrue_Compare1 (oh (w d s f H _ I h) λv g⟨x,F,C,l,o⟩=>oh (t d g f F _ C o) λu s2⟨y,E,B,j,n⟩=>
  oh (p d s2 f E x y v u _ B l j n) λc G⟨z,D,A,i,k,e,m⟩=>?_) q
 subst e;cases i;show To (D,A,m)
abbrev yP(r r':R2)(ta tb tc:TE):TE:=λσ H Q=>ta σ H λx H1=>tb σ H1 λy H2=>r x y H2 λz H3=>∃k,z=.bl k/\
 (if k=ο then tc σ H3 λw' H4=>r' y w' H4 Q else Q (.bl μ) H3)
def j7(O:Ad X (Sv op) r)(i:Ad X (Sv op') F)(T:PE X a ta)(S:PE X b tb)(R:PE X c tc)(P:(lastMarks [op,op'] [b,c]=μ)>>>9):PT X (.Compare a [op,op'] [b,c] RX) (jO (yP r F ta tb tc)):=by
 intro f s g H Q I h;refine isTrue_chain (oh (T f s g H _ I h) λv A⟨x,H1,I1,E,M⟩=>test_link (oh (S f A g H1 _ I1 M) λu s2⟨y,H2,Z,l,L⟩=>
  oh (O f s2 g H2 x y v u _ Z E l L) λd w⟨z,o,n,D,k,e,m⟩=>?_)) P
 subst e;cases D;refine To ?_;cases k with
 |μ=>
  let⟨k',e',N⟩:=m;cases e';show ite_ff (o,n,N)
 |ο=>
  refine ite_tt (test_last (oh (R f w g o _ n m) λq t⟨p,H4,Y,C,J⟩=>oh (i f t g H4 y p u q _ Y l C J) λd' s5 j=>?_));let⟨z2,H5,W,B,k2,U,G⟩:=j;subst U;cases B;show To (H5,W,G)
def bX:(Λ:υ)<2^63:=by rw[Sw];decide
def DJ:Ad X QOT (λx y H Q=>∃i j,x=.Qn i/\y=.Qn j/\i.β+j.β≤Λ/\Q (.Qn (i++j)) H):=by
 intro d s g H x y v u Q I f e h;let⟨i,j,ε,ε,hz,q⟩:=h;let⟨t,ε⟩:=f;let⟨t',ε⟩:=e;show add_str (λt' k=>(.Qn (i++j),H,I.X0 _,QAy,q)) hz
def B7(r:ae [x] us):∃u,us=[u]/\af x u:=by
 cases r with
 |Rx e d=>cases d;show(0,e)
def b8(r:ae [x,y] us):∃u d,us=[u,d]/\af x u/\af y d:=by
 cases r with
 |Rx h g=>
  cases g with
  |Rx f e=>cases e;show(9,h,f)
def rh(f:X.Wm=ο):B6 X (.Qu "max") (λxs H Q=>∃i j,xs=[.QB i,.QB j]/\Q (.QB (if j>i then j else i)) H):=by
 intro e s g H xs us Q I r h;let⟨i,j,ε,q⟩:=h;let⟨u,l,ε,⟨t,ε⟩,⟨t',ε⟩⟩:=b8 r;refine max_two_ints (I.ok.hd f) λh' m k=>(_,H,I.WE k,3,q);by_cases d:j>i
 .rw [QC d,QC d];show QAy
 .rw [Fr d,Fr d];show QAy
end
structure nN QKF(x dx C:θ)(mA:QL->χ η):Prop where
 YQ:h.Δ x<*Yp C dx
 ns:h.Ns1 dx mA
 ne:dx≠x
def Lu{h:Qx}(n:h.Ns1 dx f):∃c,h.Δ dx=δ c/\∀So,Ξ.W.lookIn So c<*f So:=by
 let⟨o,d,p,i,l,k,_,j⟩:=n;refine(o,i,λSo=>?_);let e:=j So;unfold nsFind findBy at e;rw[<-Ry.find?_toList]at e;unfold Ξ.W.lookIn;rw[l];dsimp only;split
 .rename_i y q;rw[q]at e;show R7 δ e
 .rename_i q;rw[q]at e;let a:d.Qq.VA (·.refKey)=μ:=by
   rw[γ.any_eq_false];intro y g;let⟨z,t,b⟩:=k y (Ry.mem_toList_iff.mp g);simp[DictEntry.refKey,b]
  let m:¬ d.Qq.VA (·.refKey)=ο:=by rw[a];show Ω.Q9
  rw[Fr m];show R7 δ e
def nN.look(I:nN h x dx C b):∃a,Ξ.W.InstAt h x (Yp C dx) C (δ a)/\∀So,Ξ.W.lookIn So a<*b So:=
 let⟨a,c,d⟩:=Lu I.ns
 (a,(I.YQ,5,c),d)
section
variable{BT:IO}{w:QV}{A:Qo}{E:η->ω->Prop}{s:ω}{K:Qt}{x dx C f:θ}{mA:QL->χ η}{So:QL}{v:η}
def xC QDz QHf(e:plainGet K C So=ο)(d:Ξ.W.hasDictIn K C=ο)(g:Ξ.W.TU K Zq So<*ζ)(b:mA So<*v)(a:Ξ.W.handedIn v=ο)(h:Q v {s with Qs:=s.Qs+1}):Cl ZR A (getAttr QBX So expr) Q E s:=by
 let⟨i,J,c⟩:=I.look;show Ξ.W.get_value X J (Ξ.W.plainGet_of e).1 (Ξ.W.findObj_own d g ε (by rw[c,b])) a h
def uS QDz QHf(a:plainGet K C So=ο)(g:Ξ.W.TU K Zq So<*δ Ze)(d:isFn K Ze=ο)(c:mA So=ζ)(h:Q (.ν f,[.ν x],) s):Cl ZR A (getMethod QBX So pl) Q E s:=by
 let⟨b,J,e⟩:=I.look;show Ξ.W.method_fn X J (Ξ.W.plainGet_of a).1 (Ξ.W.plainGet_of a).2 g (Ua.mp d) (by change (Ξ.W.lookIn So b).QY (·.Vg)<*μ;rw[e,c];rfl) h
def wA QDz QHf(m:Ξ.W.TU K Zq "__setattr__"<*δ (.Qu "object.__setattr__"))(hp:Ξ.W.plainOver K C=ο)(l:takerIn K C So<*ζ)(n:Ξ.W.hasDictIn K C=ο)QQB(hsz:ns.β≤Λ)(h:∀h',nN h' x dx C QHn->Th dx s.π h'->Q () {s with π:=h',Qs:=s.Qs+2}):Cl ZR A QH4 Q E s:=by
 let⟨t,J,z⟩:=I.look;refine set_plain X J m (Ξ.W.osa_open (s:={s with Qs:=s.Qs+1}) (r:=ζ) X J hp l λb=>?_);let⟨B,o,i⟩:=any_some n;let k:s.π.Δ x<*(.ν C,δ dx,.plain,#[]):=I.YQ;refine f_ (i_ (f_ (f_ (wpAny_loadPart k (f_ (Looks.here (s:={s with Qs:=s.Qs+1}) (looks_clsIn X o) ?_))))));rw[i];refine i_ (a:=δ dx) (f_ (i_ QDM));refine wpAny_nsSet1 (s:={s with Qs:=s.Qs+1}) I.ns λh' d c=>?_;let⟨u,p,q,e,g,j⟩:=d.count QNt;refine f_ (wpAny_lookBehind e (by rw[g];show pastItsLine_dict (LE j (by rw[Rz];show G1 hsz))) ?_);show i_ (h _ ((c.2 _ (Ne.QU I.ne)).ξ I.YQ,d,I.ne) c)
def ud(X:K.In s.π)(b:makesIn K C=ο)(c:Ξ.W.TU K (.ν C) "__init__"<*δ (.ν f))(e:Ξ.W.typeIn K (.ν f)<*.QH "function")(h:VD (KK BT w) (A.under (.Qu "type.__call__" (.ν C::vs,kw))) (.Ub (.ν f) (.ν (s⁻¹+1)::vs,kw)) (Ξ.W.InitBack (s⁻¹+1) R)
   {s with π:=(s.π.Ra WV).Ra (Yp C s⁻¹)}):VD (KK BT w) A (.Ub (.ν C) (vs,kw)) R s:=by
 let⟨i,g,d,t,os⟩:=s;show Ξ.W.make_core QQC (Ξ.W.Yn X c) (λa=>Ξ.W.bind_fn X a e) Zv h
def qF(X:K.In s.π)(b:makesIn K C=ο)(c:Ξ.W.TU K (.ν C) "__init__"<*δ (.Qu "object.__init__"))(e:∀a,Looks (KK BT w) s.π (bindSpecial (.Qu "object.__init__") a) (.Qu "object.__init__",[a],))(h:VD (KK BT w) (A.under (.Qu "type.__call__" ([.ν C],[]))) (.Ub (.Qu "object.__init__") ([.ν (s⁻¹+1)],[])) (Ξ.W.InitBack (s⁻¹+1) R)
   {s with π:=(s.π.Ra WV).Ra (Yp C s⁻¹)}):VD (KK BT w) A (.Ub (.ν C) ([],[])) R s:=by
 let⟨i,g,d,t,os⟩:=s;show Ξ.W.make_core QQC (Ξ.W.Yn X c) e (.RF (1,1)) h
end
abbrev al QNl(v:V):γ QEr->γ QEr
 |[]=>[(f,v,)]
 |(g,x)::r=>if g=f then(g,v,)::r else(g,x,)::al f v r
def CH(f g:QL)(v:V):∀fs:γ QEr,(al f v fs).ρ g=if g=f then δ v else fs.ρ g
 |[]=>by
  change γ.ρ g [(f,v,)]=_;by_cases h:g=f
  .let a:(g==f)=ο:=Ua.Sj h;simp only[γ.ρ,a,QC h]
  .let a:(g==f)=μ:=Rg.Sj h;simp only[γ.ρ,a,Fr h]
 |(k,x)::r=>by
  let c:=CH f g v r;rw[show al f v QQD=(if k=f then(k,v,)::r else(k,x,)::al f v r)from ε];by_cases b:k=f
  .rw [QC b];by_cases h:g=k
   .let a:(g==k)=ο:=Ua.Sj h;simp only[γ.ρ,a,QC (h.ξ b)]
   .let a:(g==k)=μ:=Rg.Sj h;simp only[γ.ρ,a,Fr (λe:g=f=>h (e.ξ b.QU))]
  .rw [Fr b];by_cases h:g=k
   .let a:(g==k)=ο:=Ua.Sj h;simp only[γ.ρ,a,Fr (λe:g=f=>b (h.QU.ξ e))]
   .let a:(g==k)=μ:=Rg.Sj h;simp only[γ.ρ,a];show c
def Js QNl(v:V):∀fs:γ QEr,f∈(al f v fs).QY Z9/\∀g,g∈fs.QY Z9->g∈(al f v fs).QY Z9
 |[]=>(by simp[al],λg h=>by simp at h)
 |(k,x)::r=>by
  let⟨i1,i2⟩:=Js f v r;rw[show al f v QQD=(if k=f then(k,v,)::r else(k,x,)::al f v r)from ε];by_cases a:k=f
  .rw [QC a];subst a;show(!1,λg h=>by simpa using h)
  .rw [Fr a];refine(3,λg h=>?_)
   .rw [Tq];show QP _ i1
   .rw [Tq]at h⊢;rcases QW.mp h with e|e
    .exact QW.Sj (.RB e)
    .exact QP _ (i2 g e)
def Bl QNl(v:V):∀fs:γ QEr,(al f v fs).β≤fs.β+1
 |[]=>by simp[al]
 |(k,x)::r=>by
  let b:=Bl f v r;rw[show al f v QQD=(if k=f then(k,v,)::r else(k,x,)::al f v r)from ε];by_cases a:k=f
  .rw [QC a,Rz,Rz];lia
  .rw [Fr a,Rz,Rz];lia
def aJ.some_of(r:aJ QFa o):∃u,o=δ u/\af v u:=by
 cases o with
 |ζ=>show(show Rl from r).SG
 |δ u=>show(u,1,r)
def aJ.none_of(r:aJ ζ o):o=ζ:=by
 cases o with
 |ζ=>rfl
 |δ u=>show(show Rl from r).SG
def hV QHi:Ξ.W.handedIn u=ο:=by
 cases v with
 |UT=>cases(show u=η.ζ from r);rfl
 |bl b=>cases(show u=η.T9 b from r);rfl
 |QB i=>let⟨t,e⟩:=(show ∃t,u=η.QB i t from r);cases e;rfl
 |Qn x=>let⟨t,e⟩:=(show ∃t,u=η.Qn x t from r);cases e;rfl
 |byt b=>let⟨t,e⟩:=(show ∃t,u=η.bytes b t from r);cases e;rfl
 |flt b=>let⟨t,e⟩:=(show ∃t,u=η.float b t from r);cases e;rfl
 |ν a=>cases(show u=η.ν a from r);rfl
 |ty n=>cases(show u=η.QH n from r);rfl
section
variable{P:IO}{w:QV}{H H':Hp}{h h':Qx}{a C dx:θ}{fs fs':γ QEr}
def Jt(c:Aj P w H h)QCu:∃b,nN h a dx C b/\(∀f,aJ (fs.ρ f) (b f))/\Ξ.Within b QSX/\fs.β≤1000/\H dx<*.own a:=by
 let⟨d,z,i,g,b,n,r,q⟩:=(show Aq P w H h a (.XO C dx fs)from c a _ e);show(b,(g,n,i),r,q,z,d)
end
structure CI ZZ QEZ:Prop where
 pg:plainGet K C QL.WW=ο
 hd:Ξ.W.hasDictIn K C=ο
 po:Ξ.W.plainOver K C=ο
 sa:Ξ.W.TU K Zq "__setattr__"<*δ (.Qu "object.__setattr__")
def CI.get QCI(c:CI K C)QNl:plainGet K C f=ο:=c.pg
abbrev Ae ZZ QEZ QNl:Prop:=Ξ.W.TU K Zq f<*ζ
def Ae.taker QCI(n:Ae K C f):takerIn K C f<*ζ:=by
 unfold takerIn;rw[show Ξ.W.TU K Zq f<*ζ from n];rfl
structure aR ZZ QEZ(m:QL)QDo:Prop where
 at_:Ξ.W.TU K Zq m<*δ Ze
 fn:isFn K Ze=ο
 kp:V3 K Ze=ο
section
variable{X:Cx}{QF:γ Z_}{σ:St}{H:Hp}{s:ω}{a C dx:θ}{fs:γ QEr}{f:QL}{v:V}{A:Qo}{E:η->ω->Prop}
def nw Y_ QCu(c:CI X.K C)QHo(l:fs.ρ f<*v)(h:∀u s',g_ X QF σ H s'->af v u->Q u s'):Cl Y9 A (getAttr ZW f b) Q E s:=by
 let⟨g,O,r,_,_,_⟩:=Jt I.S7 e;let⟨u,i,d⟩:=aJ.some_of (v:=v) (o:=g f) (by rw[<-l];show r f);show xC I.Xp O (c.get f) c.hd n i (hV d) (h u _ QRK d)
def eP Y_ QCu(c:CI X.K C)(k:aR X.K C m g)(l:fs.ρ m=ζ)(h:Q (.ν g,[.ν a],) s):Cl Y9 A (getMethod ZW m pl) Q E s:=by
 let⟨b,O,r,_,_,_⟩:=Jt I.S7 e;let d:b m=ζ:=aJ.none_of (by rw[<-l];show r m);show uS I.Xp O (c.get m) k.at_ k.fn d h
def mv Y_ QCu(c:CI X.K C)QHo(D:fs.β<1000)(m:af y u)(h:∀s',g_ X QF σ (QO H a QNu) s'->Q () s'):Cl Y9 A QJ0 Q E s:=by
 let⟨j,O,r,i,_,k⟩:=Jt I.S7 e;let hz:(fs.QY Z9).β≤Λ:=by rw[j',Sw];show F1 D
 refine wA I.Xp O c.sa c.po n.taker c.hd i hz λh' d l=>h _ ?_;let t:∃o,h'.Δ dx<*o:=let⟨o,_,_,e',_⟩:=d.ns;(o,e');refine I.write (x:=a) (e:=dx) (by rw[e];show Tg.Sy) (.RF k) (λb q B z=>(l.2 b B).ξ z) t ?_;refine(by rw[b_ O.ne];show k,3,O.ne,d.YQ,_,d.ns,λg=>?_,λg p=>?_)
 .have:=Bl f y fs;lia
 .change aJ QRL (if g=f then δ u else j g);rw[CH];by_cases q:g=f
  .rw [QC q,QC q];show m
  .rw [Fr q,Fr q];show r g
 .by_cases q:g=f
  .rw [q];show(Js f y fs).1
  .refine (Js f y fs).2 g (i g λz=>p ?_);change (if g=f then δ u else j g)=ζ;rw[Fr q];show z
def g_.made Y_:g_ X QF σ (QO (QO H s⁻¹ (.own QAb)) QAb (.XO C s⁻¹ []))
  {s with π:=(s.π.Ra WV).Ra (Yp C s⁻¹)}:=by
 let d:(s.π.Ra WV).Δ s⁻¹<*WV:=QK s.π ε;let j:((s.π.Ra WV).Ra (Yp C s⁻¹)).Δ QAb<*Yp C s⁻¹:=by
  have:=QK (s.π.Ra WV) (o:=Yp C s⁻¹) ε
  rwa [Tb]at this
 let i:(s.π.Ra WV).Ns s⁻¹ QKp:=(WV,#[],_,d,1,(λe h=>QG h (!1)),λ_=>rfl);let k:=I.X3 (a:=s⁻¹) (o:=.own QAb) (h':=s.π.Ra WV) (t':=s.Qs) QSh Zs (_,d);refine k.X3 (a:=s⁻¹+1) (o:=.XO C s⁻¹ []) (t':=s.Qs) QSh (VY (Tb _ _)) ?_;let c:s⁻¹≠s⁻¹+1:=RH (Rv _);refine(by rw[b_ c,SO],RP _,c,j,λ_=>ζ,(Qx.Ns1.of_empty i).at λo q=>ol _ q,λ_=>Tg.Sy,λy g=>QG ε g)
def Dq(c:Uj e f QA (SR e QA)=SR e QA)(h:Cl ZR A (SR e QA) (λo b=>Cl ZR A (getAttr o f ο) Q E b) E s):Cl ZR A (SR QF3 QA) Q E s:=
 Attribute_any_ h (by rw[arm_eval_Attribute,c])
end
inductive Og ZZ QNl ZV(x:V)QCi:Prop
 |mk (a C dx fs v:_) QDc (_:H1 a<*.XO C dx fs) QNv QPz (_:fs.ρ f<*v) (_:Q v H1)
abbrev Nw ZZ(ta:TE)QNl:TE:=λσ H Q=>ta σ H (Og K f Q)
inductive Oh ZZ QNl(D:Y2)QBR(y:V)(x:V)(H2:Hp):Prop
 |mk (a C dx fs:_) QDc (_:H2 a<*.XO C dx fs) QNv QPz (_:fs.β<1000) (_:D.nx σ (QO H2 a QNu))
abbrev Lv ZZ(ta tv:TE)QNl:TS:=λD σ H=>tv σ H λy H1=>ta σ H1 (Oh K f D σ y)
section
variable{X:Cx}{o e value:SF}{f:QL}{RX pos' tpos:T6}{ta tv:TE}
def Bt(k:PE X e ta)(m:Uj e f X.QA QFJ=SR e X.QA):PE X QF3 (Nw X.K ta f):=by
 intro b s g H Q I h;refine Dq m (oh (k b s g H _ I h) λu A d=>?_);let⟨x,y,w,i,a,C,dx,fs,v,p,r,c,n,l,q⟩:=d;subst p;obtain ε:u=η.ν a:=i;show nw w r c n l λz s2 t j=>(v,y,t,j,q)
def Fz(v:PE X o ta)(r:PE X value tv)(t:W3 value (δ (.TH o f pos')) RX.XI X.QA=pure μ):PS X (.Assign [.TH o f pos'] value RX) (Lv X.K ta tv f):=by
 intro b s d H D I h;refine plainObj_wpAny_Assign_Attribute (oh (r b s d H _ I h) λu i⟨y,F,E,j,q⟩=>oh (v b i d F _ E q) λp s2 g=>?_) t;let⟨x,J,B,k,a,C,dx,fs,w,z,c,n,l,m⟩:=g;subst w;obtain ε:p=η.ν a:=k;show mv B z c n l j λG A=>(d,_,A,m)
end
section
variable{X:Cx}{QF:γ Z_}{σ:St}{H:Hp}{s:ω}{A:Qo}{E:η->ω->Prop}{Q:η->ω->Prop}{c:η}{b:Ω}
inductive ak ZZ ZC:V->η->Prop where
 |UT:ak K H .UT (.QH "NoneType")
 |bl (x:Ω):ak K H (.bl x) (.QH "bool")
 |QB (i:ψ):ak K H QIv (.QH "int")
 |Qn QD6:ak K H QHL (.QH "str")
 |flt (x:UInt64):ak K H (.flt x) (.QH "float")
 |QM QHz QBN (e:H a<*.QM xs):ak K H ZW (.QH "list")
 |frz QHz {o:UP} QBN (e:H a<*.frz o QEs):ak K H ZW (.QH "list")
 |RJ QHz QBN (e:H a<*.RJ xs):ak K H ZW (.QH "tuple")
 |dK QHz {Ri:γ QHI} (e:H a<*.dK Ri):ak K H ZW (.QH "dict")
 |dT QHz {Ri:γ (γ Br×V)} (e:H a<*.dT Ri):ak K H ZW (.QH "dict")
 |XO {a C dx:θ} {fs:γ QEr} QCu (cl:CI K C) (ha:Ξ.W.TU K Zq "__class__"<*δ (.Qu "object.__class__"))
   (hn:Ξ.W.specialIn K (.Qu "object.__class__") "__get__"<*δ (.Qu "getset_descriptor.__get__")) (htk:Ξ.W.takesIn K (.Qu "object.__class__")<*ο)
   (hm:Ξ.W.mroIn K C (.QH "object")<*ο):ak K H ZW Zq
def gZ Y_(d:af x u)(ty:ak X.K H x t)(e:UJ X.K t c<*b)(h:∀j,Q (.T9 b) {s with Qs:=j}):Cl Y9 A (Ub (.Qu "isinstance") [u,c]) Q E s:=by
 cases ty with
 |UT=>cases(show u=η.ζ from d);show Xc Ξ.W.kitx_none I.Xp Tg.Sy e QAg h
 |bl y=>cases(show u=η.T9 y from d);show Xc Ξ.W.kitx_bool I.Xp Tg.Sy e QAg h
 |QB i=>let⟨t,q⟩:=(show ∃t,u=η.QB i t from d);cases q;show Xc Ξ.W.kitx_int I.Xp Tg.Sy e QAg h
 |Qn y=>let⟨t,q⟩:=(show ∃t,u=η.Qn y t from d);cases q;show Xc Ξ.W.kitx_str I.Xp Tg.Sy e QAg h
 |flt y=>let⟨t,q⟩:=(show ∃t,u=η.float y t from d);cases q;show Xc Ξ.W.kitx_float I.Xp Tg.Sy e QAg h
 |@QM a xs f=>
  cases(show u=η.ν a from d);let⟨_,_,n,_,h1⟩:=(show Aq X.BT X.w H s.π a QEs from I.S7 a _ f);show Xc Ξ.W.kitx_list I.Xp (_,h1,1) e QAg h
 |@frz a k xs f=>
  cases(show u=η.ν a from d);let⟨_,_,_,n,_,h1⟩:=(show Aq X.BT X.w H s.π a (.frz k QEs)from I.S7 a _ f);show Xc Ξ.W.kitx_list I.Xp (_,h1,1) e QAg h
 |@RJ a xs f=>
  cases(show u=η.ν a from d);let⟨_,_,_,p⟩:=(show Aq X.BT X.w H s.π a QCY from I.S7 a _ f);let⟨o,h1,h2,_⟩:=p;show Xc Ξ.W.kitx_tuple I.Xp QOW e QAg h
 |@dK a Ri f=>
  cases(show u=η.ν a from d);let⟨_,_,vs,_,p⟩:=(show Aq X.BT X.w H s.π a (.dK Ri)from I.S7 a _ f);let⟨o,v,B,h1,h2,_⟩:=p;show Xc Ξ.W.kitx_dict I.Xp (o,h1,h2.1) e QAg h
 |@dT a Ri f=>
  cases(show u=η.ν a from d);let⟨_,_,xs,_,o,v,B,h1,h2,_⟩:=(show Aq X.BT X.w H s.π a (.dT Ri)from I.S7 a _ f);show Xc Ξ.W.kitx_dict I.Xp (o,h1,h2.1) e QAg h
 |@XO a C dx fs f g r l htk m=>
  cases(show u=η.ν a from d);let⟨F,O,_⟩:=Jt I.S7 f;let⟨D,J,_⟩:=O.look;show Xc (Ξ.W.kitx_own (g.get _) g.hd r l htk m) I.Xp J e QAg h
end
structure am QKb(A:Qo):Prop where
 hd:A.SV=ζ
 dp:A.depth+3*k+5<recursionLimit
 un:A.S3+16*k+200<UV
def am.Ti QRM(h:j≤k):am j A:=(r.hd,by have:=r.dp;lia,by have:=r.un;lia)
def am.VQ(r:am (k+1) A)(QA:YH):am k (A.VQ QA):=
 (r.hd,by have:=r.dp;change A.depth+1+3*k+5<_;show IL this,by have:=r.un;change A.S3+3+16*k+200<_;lia)
def dX QMK:(A.under (.Qu "type.__call__" QG4)).depth=A.depth+1:=by
 first|rfl|simp[Qo.under,Code.weight,Code.isCreation,Code.isGuard,Code.isCaller,Code.Uv,Code.isFrame,guardIds]
def mX QMK:(A.under (.Qu "type.__call__" QG4)).S3=A.S3+1:=by
 first|rfl|simp[Qo.under,Code.cUnits,Code.Uv,Code.isFrame]
def am.make(r:am (k+1) A)QEZ QDK(kw:γ QRN):am k (A.under (.Qu "type.__call__" QG4)):=
 (r.hd,by have:=r.dp;rw[dX];show IL this,by have:=r.un;rw[mX];lia)
def am.depth QRM:A.depth<recursionLimit:=by have:=r.dp;lia
def am.S3 QRM:A.S3+64<UV:=by have:=r.un;lia
def am.units0 QRM:A.S3<UV:=by have:=r.un;lia
abbrev tNil:TA:=λ_ H Q=>Q [] H
abbrev Al(ta:TE)(tr:TA):TA:=λσ H Q=>ta σ H λx H1=>tr σ H1 λxs H2=>Q (x::xs) H2
section
variable{X:Cx}{e:SF}{es:γ SF}{te:TE}{t:TA}{RX:T6}
def Ck:PA X [] tNil:=λ_ _ _ _ H Q I h=>Vn.spliced_nil ([],H,I,.Tw,h)
def By(n:PE X e te)(m:PA X es t)(l:QAs>>>4):PA X QIy (Al te t):=by
 intro RX a s d H Q I h;rw[l];change Cl _ _ (spliced (Zn::SJ RX QEY)) _ _ s;refine Vn.Yi (oh QSe λu f c=>?_);let⟨x,r,p,i,k⟩:=c;show oh (m RX a f d r _ p k) λus s2 b=>by let⟨xs,q,o,g,j⟩:=b;show(x::xs,q,o,.Rx i g,j)
abbrev Lw QG3:TE:=λσ H Q=>t σ H λxs H1=>xs.β≤Λ/\∀p,H1 p=ζ->Q Zh (QO H1 p QCY)
abbrev Lx QG3:TE:=λσ H Q=>t σ H λxs H1=>xs.β≤Λ/\∀p,H1 p=ζ->Q Zh (QO H1 p QEs)
def A'{i}(h:PA X es t):PE X (.Wo es i RX) (Lw t):=by
 intro a s g H Q I j;refine wpAny_Tuple_spliced (oh (h RX a s g H _ I j) λus c⟨xs,f,d,r,z,q⟩=>(by rw[<-r.β];show z,3));let k:f c⁻¹=ζ:=d.S7.SW Zs;refine(.ν c⁻¹,QO f c⁻¹ QCY,d.X3 (t':=c.Qs) QSi Zs ?_,1,q _ k);show(z,us,r,(_,QK _ ε,6))
def Bb(h:PA X es t):PE X (.γ es RX) (Lx t):=by
 intro a s g H Q I i;refine wpAny_List_spliced (oh (h RX a s g H _ I i) λus c⟨xs,f,d,r,z,q⟩=>(by rw[<-r.β];show z,3));let j:f c⁻¹=ζ:=d.S7.SW Zs;refine(.ν c⁻¹,QO f c⁻¹ QEs,d.X3 (t':=c.Qs) QSi Zs ?_,1,q _ j);show(z,us,(0),r,QK _ ε)
end
@[reducible]def Sp:=List V->Hp->VK->XK->Prop
@[reducible]def CXT:=List Env->Hp->Shared->XK->Value->Shared->Prop
structure bE QKa Z' ZZ Z3 QMv(A:Qo)QD' QBP ZC:Prop where
 Uv:A.Uv<*Id
 mod:Mod K mg ς
 bs:∀b o,ς.Δ b<*o->s.π.Δ b=δ o/\H b=ζ
 bsz:ς.SM.Qw≤s⁻¹
 funs:s.π.TF ς Id
 frf:∀b∈rf Id,H b=ζ
 S7:Aj P w H s.π
 V9:Xf s.Wr
inductive CE QD' QKa Z' ZC QBP ZV QP6 QJx:Prop
 |mk (v H':_) (_:s'.os=s.os) (_:Xf s'.Wr) QIe QRO (_:af v u) (_:Q v H')
abbrev CR(CX:CXT)QD' QKa Z' ZC QBP ZV QD8(r:Result)QJx:Prop:=
 match r with
 |.ok (.ret u)=>CE Id P w H s Q u s'
 |.ok _=>Rl
 |.WS e=>CX Id H s E e s'
structure aa QKa Z' ZZ Z3 QMv(CX:CXT)QKb QDo(fd:TQ)QE1 QNw:Prop where
 Sr:∀vs H Q E,sp vs H Q E->vs.β=ps.β
 SZ:∀(A:Qo)QD' QBP ZC(args:Args)QDK ZF ZV QD8,am k A->bE P w K mg ς A Id s H->BindsTo s fd args QE7->ae vs us->sp vs H Q E->
  VD QAC A (.Ub Ze args) (CR CX Id P w H s Q E) s
def aa.Ti{P:IO}QE8 QCI(F:aa P w K mg ς c j f fd ps sp)(h:j≤k):aa P w K mg ς c k f fd ps sp:=(F.Sr,λA Id s H a us vs Q E b=>F.SZ A Id s H a us vs Q E (b.Ti h))
def bE.make QCI(e:bE P w K mg ς A Id s H)QEZ QDK(kw:γ QRN):bE P w K mg ς (A.under (.Qu "type.__call__" QG4)) Id s H:=(by first|show e.Uv|(simpa[Qo.under,Code.envs,Code.isFrame,pushEnvs]using e.Uv),e.mod,e.bs,e.bsz,e.funs,e.frf,e.S7,e.V9)
section
variable{X:Cx}{QF:γ Z_}{σ:St}{H:Hp}{s s':ω}
def g_.env0 Y_:bE X.BT X.w X.K X.mg X.ς X.A X.RG s H:=
 (I.ok.Uv,I.ok.mod,I.bs,LE I.ok.bsz I.sz,I.RG,I.XZ,I.S7,I.V9)
def g_.after Y_(h:CE X.RG X.BT X.w H s Q u s'):EP X QF σ Q u s':=by
 let⟨v,H',os,a,f,e,r,q⟩:=h;let⟨i,g,d,t,c⟩:=s';obtain ε:c=s.os:=os;show(v,H',I.Ub (h':=i) (g':=g) (d':=d) (t':=t) (ch:=[]) f e a (λb z=>QG z (!1)),r,q)
end
abbrev BM QNw(dvs:γ V)QD8 QG3:TE:=λσ H Q=>t σ H λvs H1=>sp QDU H1 Q E
abbrev Oi QEZ QNw(dvs:γ V)QD8 QG3:TE:=λσ H Q=>t σ H λvs H1=>∀x dx,H1 x=ζ->H1 dx=ζ->dx≠x->
 sp (.ν x::QDU) (QO (QO H1 dx QRP) x (.XO C dx [])) (λv H2=>v=.UT/\Q QBX H2) E
abbrev ym ZZ(fd:TQ)QE1(ds:γ η):Prop:=
 ∀QBP QDK,K.In s.π->(us++ds).β=ps.β->BindsTo s fd QKq (ps.Xz QKH)
def ym.Tk QCI(h:∀us:γ η,us.β=ps.β->bindArgs fd QKq=pure QE7):ym K fd ps []:=λs us _ a=>by
 rw[UA]at a⊢;show .of_eq (h us a)
abbrev Ex(CX:CXT)QC9 QD8:Prop:=∀ZJ QBR ZC QBP(e:η)QJx,g_ X QF σ H s->CX X.RG H s E e s'->X.xe e s'
section
variable{X:Cx}{CX:CXT}{k:υ}{f C:θ}{fd:TQ}{ps:γ QL}{sp:Sp}{dvs:γ V}{ds:γ η}{E:XK}{x m:QL}{p RX apos:T6}{e o:SF}{es:γ SF}{ta:TE}{t:TA}
def mB{c:St}Zx(i:am k X.A)(n:ym X.K fd ps ds)(l:ae dvs ds)(g:Ex CX X E)QLS QE9(h:sp QDU H Q E):Cl Y9 X.A (Ub Ze us) (EP X a c Q) X.xe s:=by
 let d:ae QDU QKH:=r.append l;let j:(us++ds).β=ps.β:=by rw[<-d.β];show F.Sr _ _ _ _ h
 refine UX (Ts (F.SZ X.A X.RG s H QKq QKH QDU Q E i I.env0 (n s us I.Xp j) d h) λr s' b=>?_);cases r with
 |WS e=>show g a c H s e s' I b
 |ok fl=>
  cases fl with
  |ret u=>show I.after b
  |next=>show Rl.SG b
  |brk=>show Rl.SG b
  |X5=>show Rl.SG b
def oq Zx(j:am k X.A)(u:Gl X x)(l:X.mg x<*.ν f)(n:V3 X.K Ze=ο)(z:ym X.K fd ps ds)(y:ae dvs ds)(i:Ex CX X E)(B:PA X QIy t)(c:((x==("__debug__":QL))=μ)>>>0)(v:QAs>>>4)QA3:PE X QCz (BM sp dvs E t):=by
 intro a s g H Q I h;refine RT (wv I u l ?_ c);refine callWith_K (h₀:=X.ς) I.ok.mod.kin n (oh (B RX a s g H _ I h) λus D⟨vs,G,d,r,q⟩=>(d.Xp,3)) v b;show mB F j z y i d r q
structure Mk ZZ(C f:θ):Prop where
 makes:makesIn K C=ο
 init:Ξ.W.TU K Zq "__init__"<*δ Ze
 fn:isFn K Ze=ο
 kp:V3 K Zq=ο
def sI{d:St}(M:Mk X.K C f)Zx(q:am (k+1) X.A)(B:ym X.K fd ps ds)(z:ae dvs ds)(n:Ex CX X E)(I:g_ X b d H s)QE9(h:∀x dx,H x=ζ->H dx=ζ->dx≠x->sp (.ν x::QDU) QF4 (λv J=>v=.UT/\Q QBX J) E):Cl Y9 X.A QMZ (EP X b d Q) X.xe s:=by
 let i:=h QAb s⁻¹ QTo QDV QQE;let c:=g_.made (C:=C) I;let g:ae (V.ν QAb::QDU) (η.ν QAb::QKH):=.Rx ε (r.append z);let y:(η.ν QAb::us++ds).β=ps.β:=by
  let e:=g.β;rw[F.Sr _ _ _ _ i]at e;show e.QU
 refine UX (ud (f:=f) I.Xp M.makes M.init (Ua.mp M.fn) (Ts (F.SZ _ X.RG _ _ (η.ν (s⁻¹+1)::us,[]) (η.ν (s⁻¹+1)::(us++ds)) _ _ E (q.make C us [])
  (c.env0.make C us []) (B _ (η.ν (s⁻¹+1)::us) c.Xp y) g i) λr s' a=>?_))
 cases r with
 |WS e=>show n b d _ _ e s' c a
 |ok fl=>
  cases fl with
  |ret u=>
   let⟨v,H',G,j,D,l⟩:=c.after a;subst D;show(j,(V.ν QAb,H',G,1,l))
  |next=>show Rl.SG a
  |brk=>show Rl.SG a
  |X5=>show Rl.SG a
def FA(M:Mk X.K C f)Zx(j:am (k+1) X.A)QUM(l:X.mg x<*.ν C)(y:ym X.K fd ps ds)(v:ae dvs ds)(i:Ex CX X E)(z:PA X QIy t)(c:((x==("__debug__":QL))=μ)>>>0)(u:QAs>>>4)QA3:PE X QCz (Oi C sp dvs E t):=by
 intro a s g H Q I h;refine RT (wv I n l ?_ c);refine callWith_K (h₀:=X.ς) I.ok.mod.kin M.kp (oh (z RX a s g H _ I h) λus B⟨vs,D,d,r,q⟩=>(d.Xp,3)) u b;show sI M F j y v i d r q
end
section
variable{X:Cx}{CX:CXT}{k:υ}{f C:θ}{fd:TQ}{ps ks:γ QL}{sp:Sp}{E:XK}{x m:QL}{p RX apos kpos:T6}{e o:SF}{es:γ SF}{kws:γ Xe}{te ta:TE}{t tk:TA}{nm:χ QL}
variable{g:γ η->γ η->γ η}{gV:γ V->γ V->γ V}
end
structure s_(N P:γ QL)QJO:Prop where
 Uz:sc.Uz=.UL
 co:sc.isCoroutine=μ
 gen:sc.isGenerator=μ
 nd:N.Rq
 pre:N.Rp P.β=P
 par:∀x∈P,sc.QI.ρ x<*.local\/sc.QI.ρ x<*.R9
 nofree:∀y∈sc.QI,y.2≠.SA
def il QJT QTp:∀{a:γ QRN}QGj,QSj->bindL Sh a m x=m x
 |[],_,_=>rfl
 |(n,v)::r,m,h=>by
  unfold bindL;rw[il λw hw=>h w (QP _ hw)];split
  .have:x≠n:=by rintro ε;show h v Rh
   simp[this]
  .rfl
def BS QJT QTp:∀{a:γ QRN}QGj,QSj->bindC Sh a m x=m x
 |[],_,_=>rfl
 |(n,v)::r,m,h=>by
  unfold bindC;rw[BS λw hw=>h w (QP _ hw)];split
  .rfl
  .have:x≠n:=by rintro ε;show h v Rh
   simp[this]
def BU QJT QTp{v:η}:∀{P:γ QL}QQF QDJ QGj,P.Rq->P[i]?<*x->vs[i]?<*v->Sh x<*.local->
  bindL Sh (P.Xz vs) m x<*v
 |[],_,_,_,_,h,_,_=>by simp at h
 |_::_,[],_,_,_,_,h,_=>by simp at h
 |p::P,w::vs,0,m,a,h1,h2,b=>by
  simp at h1 h2;subst h1;subst h2;change bindL Sh QE_ m p=_;unfold bindL;rw[il λv c=>(nodup_cons.mp a).1 (Yl c).1,QC b];simp
 |p::P,w::vs,i+1,m,a,h1,h2,b=>by
  change bindL Sh QE_ m x=_;unfold bindL;show BU (i:=i) (nodup_cons.mp a).2 QHN QQG b
def im QJT QTp{v:η}:∀{P:γ QL}QQF QDJ QGj,P.Rq->P[i]?<*x->vs[i]?<*v->Sh x≠δ .local->
  bindC Sh (P.Xz vs) m x<*v
 |[],_,_,_,_,h,_,_=>by simp at h
 |_::_,[],_,_,_,_,h,_=>by simp at h
 |p::P,w::vs,0,m,a,h1,h2,b=>by
  simp at h1 h2;subst h1;subst h2;change bindC Sh QE_ m p=_;unfold bindC;rw[BS λv c=>(nodup_cons.mp a).1 (Yl c).1,Fr b];simp
 |p::P,w::vs,i+1,m,a,h1,h2,b=>by
  change bindC Sh QE_ m x=_;unfold bindC;show im (i:=i) (nodup_cons.mp a).2 QHN QQG b
abbrev WG QMa ZF:St:=vs.QY δ++replicate (N.β-vs.β) ζ
abbrev aY(CX:CXT)QKa Z' ZZ Z3 QMv QMa(Qz:QL)(Qy:TB)QDo(cd:η)(A:Qo)QD' QBP ZC QD8:Cx where
 BT:=P
 w:=w
 K:=K
 mg:=mg
 ς:=ς
 A:=A.VQ QFm
 N:=N
 U3:=s
 H₀:=H
 QA:=W8 Qz Qy s⁻¹ f cd
 Id:=Id
 RG:=W8 Qz Qy s⁻¹ f cd::Id
 ex:=[]
 Wm:=ο
 fn:=λ_=>ο
 pn:=[]
 xe:=λe s'=>Cl QAC (A.VQ QFm) (Wi QFm e) QKI QJU s'
def Cm{sc:TB}(h:sc.QI.ρ x<*.R9):∃c,(YZ n sc.QI []).ρ x<*c:=by
 let q:=Ξ.W.cellsFrom_some sc.QI n [] (.RB h);show χ.isSome_iff_exists.mp q
def g6{F:CXT}{P:IO}QE8 QCI QEN{ς:Qx}{N ps:γ QL}{Qz:QL}{d:TB}{f:θ}{t:η}QMK{Id:γ YH}{s B:ω}QE4{E:XK}QBq{vs:γ V}(S:s_ N ps d)(J:A.SV=ζ)(g:bE P w K mg ς A Id s H)(O:vs.β=ps.β)QE9(x:InCallC s s⁻¹ (bindL (W8 Qz d s⁻¹ f t).Sh QE7 λ_=>ζ) (YZ QAb d.QI []) (bindC (W8 Qz d s⁻¹ f t).Sh QE7 λ_=>ζ) B):g_ (aY F P w K mg ς N Qz d f t A Id s H E) [] QKr H B:=by
 let I:ps.β≤N.β:=by have:=R7 γ.β S.pre;rw[S6]at this;lia
 let⟨h1,M,ε,D⟩:=x.done;let j:∀b:θ,b∉(aY F P w K mg ς N Qz d f t A Id s H E).ex:=λb z=>QG (show b∈([]:γ θ)from z) (!1);refine((g.mod,S.Uz,5,QD _,λy z c h1 h2=>?_,λy l=>?_,λy c _ h=>?_,λ_=>J,Qo.frames_deeper g.Uv,.RF (1,1),λb z=>QG z (j b),g.bs,g.bsz,λb _ _=>j b,λb z=>QG z (j b),g.funs,g.frf),
  rfl,g.V9,Un.WE D,(_,x.toInCall.ns,λi y v h1 h2 Q=>?_),λy c h=>(_,x.R9 y c h),g.S7.SW (QD _),λy c h=>?_,λp hp=>QG (show p∈([]:γ (θ×UP))from hp) (!1),g.S7.WE D,3)
 .exact name_of_addr x.apart (Ξ.Sg h1) (Ξ.Sg h2)
 .let l:d.QI.ρ y<*.R9\/d.QI.ρ y<*.SA:=l;rcases l with l|l
  .exact Cm l
  .exact QG ε (S.nofree _ (Ξ.Sg l))
 .exact Uu QMz
 .let o:i<vs.β:=by
   unfold WG at h2;by_cases o:i<vs.β
   .exact o
   .rw [Qp QRQ]at h2;rw[γ.getElem?_replicate]at h2;split at h2<;>cases h2
  let L:vs[i]?<*v:=by
   unfold WG at h2;rw[QS QRQ,nq]at h2;cases e:vs[i]? with
   |ζ=>rw[e]at h2;cases h2
   |δ a=>rw[e]at h2;cases h2;rfl
  let⟨u,C,G⟩:=r.get L;let hp:ps[i]?<*y:=by
   rw[<-S.pre,γ.getElem?_take_of_lt (Ep o O)];show h1
  let m:ps.Rq:=by rw[<-S.pre];show S.nd.sublist QOX
  refine(u,G,3);rcases S.par y (v7 hp)with k|k
  .exact .RB (k,BU m hp C k)
  .obtain ⟨c,e⟩:=Cm (n:=s⁻¹+1) k;refine .RF (.RB k,c,e,3);let q:=x.R9 y c e;rw[im m hp C (by change d.QI.ρ y≠_;rw[k];decide)]at q;show q
 .exact g.S7.SW (Uu QMz)
 .unfold WG;change _=N.β;rw[u4,j',Up];lia
def kO{z:CXT}{P:IO}{w:QV}{K:Qt}{mg:QL->χ η}{ς:Qx}{k:υ}{f:θ}{So Qz:QL}{c:UW}{d:γ Rb}{a:TB}{O kV Tm pm U' ct X:η}{an U:χ θ}{C:Ry (χ η)}{N ps:γ QL}{sp:Sp}(lk:K.ρ f<*(X,U,.VL (U9 So Qz c d a O kV Tm pm an U' ct),C))(G:UN K U' Qz=ο)(S:s_ N ps a)(Sr:∀vs H Q E,sp vs H Q E->vs.β=ps.β)(i:∀(A:Qo)(Id:γ YH)(s:ω)(H:Hp)(vs:γ V)(Q:VK)(E:XK),am k (A.VQ (W8 Qz a s⁻¹ f U'))->sp vs H Q E->
   ∃t,Bk (aY z P w K mg ς N Qz a f U' A Id s H E) d t/\t {nx:=λ_ H'=>Q .UT H',rt:=Q} (WG N vs) H):aa P w K mg ς z (k+1) f (U9 So Qz c d a O kV Tm pm an U' ct) ps sp:=by
 refine(Sr,λA Id s H R us vs Q E F p hb r l=>?_);let hl:=Sr _ _ _ _ l;let T:K.In s.π:=p.mod.kin.Tn λb o e=>(p.bs b o e).1;let D:s.π.NoLimit:=p.mod.nolimit.Tn λb o e=>(p.bs b o e).1;let h:∀y∈ps.Xz us,a.QI.ρ y.1<*.local\/(a.QI.ρ y.1=δ .R9/\((YZ QAb a.QI []).ρ y.1).Vg=ο):=λL Y=>by
  let⟨n,v⟩:=L;rcases S.par n (Yl Y).1 with q|q
  .exact .RB q
  .exact .RF QGo
 refine Wv F.depth (T _ _ lk) ε S.co S.gen ε (Ξ.W.codeRec_of T G) QEA;refine wpAny_newFunctionEnv_cells S.Uz h λQA he M x=>?_;subst he;refine(D.Tn x.toInCall.UF,codeAny_func ?_);let⟨t,Z,hq⟩:=i A Id s H vs Q E (F.VQ _) l;let I:g_ QFn [] QKr H M:=g6 S F.hd p hl r x;refine RM (Z [] M QKr H _ I hq) (λfl s' j=>?_) λe s' j=>j;let m:∀{g:St}QDQ{v:V}{u:η},g_ QFn [] g H' s'->af v u->Q v H'->CE Id P w H s Q u s':=
  λ{g H' v u}J B q=>(v,H',J.os,J.V9,J.ς,J.S7,B,q)
 cases fl with
 |ret u=>
  let⟨v,g,H',J,B,q⟩:=j;show m J B q
 |next=>
  let⟨g,H',J,q⟩:=j;show m (v:=V.UT) (u:=η.ζ) J ε q
 |brk=>
  let⟨_,_,_,q⟩:=j;show Rl.SG q
 |X5=>
  let⟨_,_,_,q⟩:=j;show Rl.SG q
section
variable{X:Cx}{x:QL}{p RX:T6}{e:SF}{es:γ SF}{t:TA}{id T:Xx}{r:γ V->Hp->VK->Prop}
abbrev Bc QP_ QG3:TE:=λσ H Q=>t σ H λvs H1=>r vs H1 Q
def BN(q:B6 X (.Qu id) r)QUM(m:X.mg x=ζ)(k:Wn x<*.Qu id)(u:PA X QIy t)(l:(x≠"__name__")>>>0)(c:((x==("__debug__":QL))=μ)>>>0)(o:QAs>>>4)QA3:PE X QCz (Bc r t):=by
 intro a s f H Q I h;refine RT QQH;show Sz.Ws.callWith_builtin1 (oh QPa λus g d=>by let⟨vs,w,v,i,j⟩:=d;show q a g f w vs us Q v i j) o b
def DM(q:B6 X (.QH T) r)QUM(m:X.mg x=ζ)(k:Wn x<*.QH T)(u:PA X QIy t)(l:(x≠"__name__")>>>0)(c:((x==("__debug__":QL))=μ)>>>0)(o:QAs>>>4)QA3:PE X QCz (Bc r t):=by
 intro a s f H Q I h;refine RT QQH;show Sz.Ws.S8 (oh QPa λus g d=>by let⟨vs,w,v,i,j⟩:=d;show q a g f w vs us Q v i j) o b
end
end L2
namespace HT
open PyProof.Rows
section
open PySem.SeqAt
open PySem.AutoSeq1 (wpAny_loadPart')
open PySem.MeetsSeq PySem.MeetsSeq2 PySem.MeetsSeq3
end
section
variable{BT:IO}{w:QV}{A:Qo}{E:η->ω->Prop}{s:ω}
abbrev Wa(n d:υ):χ ψ->υ
 |ζ=>d
 |δ v=>if v<0 then(v+(n:ψ)).RW else min v.RW n
def Cn(n d:υ):Wa n d ζ=d:=ε
def Dr(n d k:υ):Wa n d (δ (k:ψ))=min k n:=by
 change (if (k:ψ)<0 then((k:ψ)+(n:ψ)).RW else min (k:ψ).RW n)=min k n;rw[Fr G0,UC]
def yY(n d:υ)(b:d≤n)(o:χ ψ):Wa n d o≤n:=by
 cases o with
 |ζ=>show b
 |δ v=>
  change (if v<0 then(v+(n:ψ)).RW else min v.RW n)≤n;by_cases a:v<0
  .rw [QC a];lia
  .rw [Fr a];show υ.min_le_right _ _
def pk(v:ψ)(n d:υ):(if v<0 then max (v+(n:ψ)) 0 else min v (n:ψ))=((Wa n d QFa:υ):ψ):=by
 change (if v<0 then max (v+(n:ψ)) 0 else min v (n:ψ))=(((if v<0 then(v+(n:ψ)).RW else min v.RW n):υ):ψ);by_cases a:v<0
 .simp only[QC a];lia
 .simp only[Fr a];lia
def nK QUN QBM:Builtin.Yb.sliceAdjust lo a 1 (n:ψ)=(((Wa n 0 lo:υ):ψ),((Wa n n a:υ):ψ),):=by
 let h1:¬ ((1:ψ)<0):=by lia
 unfold Builtin.Yb.sliceAdjust;simp only[h1,Xr];refine Y0.ext ?_ ?_
 .cases lo with
  |ζ=>rfl
  |δ v=>show pk v n 0
 .cases a with
  |ζ=>rfl
  |δ v=>show pk v n n
def mH QKe:Builtin.Yb.slicePlaces (i:ψ) (j:ψ) 1=j-i:=by
 unfold Builtin.Yb.slicePlaces;let h1:(1:ψ)>0:=by lia
 simp only[h1,if_true,ψ.ediv_one];split<;>lia
def dj(p:IsPart v o)(h:Q o s):Cl ZR A (Builtin.Yb.slicePartIndex v) Q E s:=by
 cases p with
 |ζ=>show slicePart_none h
 |QB i t=>show slicePart_int h
def Oj{lo b:χ ψ}QE'(f:s.π.IsSliceOf d vl vu .ζ)QTq(e:IsPart vu b)(h:Q (((Wa n 0 lo:υ):ψ),1,Wa n n b-Wa n 0 lo,) s):Cl ZR A (Builtin.Yb.sliceApplied QCk (pure (n:ψ))) Q E s:=by
 let⟨os,a,g,c⟩:=id f;unfold Builtin.Yb.sliceApplied Builtin.Yb.sliceFields;refine f_ (f_ (RL a c (x:=vl) ε (f_ (RL a c (x:=vu) ε (f_ (RL a c (x:=.ζ) ε QA8))))));refine f_ (slicePart_none ?_);change Cl _ _ (if ((1:ψ)==0)=ο then _ else _) _ _ s;rw[Fr (!0)];refine f_ (dj pl (f_ (dj e (f_ QA8))));change Cl _ _ (match Builtin.Yb.sliceAdjust lo b 1 (n:ψ)with|(lo,b)=>pure (lo,(1:ψ),Builtin.Yb.slicePlaces lo b 1,)) _ _ s;rw[nK lo b n];change Cl _ _ (pure (((Wa n 0 lo:υ):ψ),(1:ψ),Builtin.Yb.slicePlaces ((Wa n 0 lo:υ):ψ) ((Wa n n b:υ):ψ) 1,)) _ _ s;rw[mH];show i_ h
def sO(xs:Ry η)(i k:υ):((γ.Q' k).WR λ(m:υ)=>xs[((i:ψ)+(m:ψ)*1).RW]?).Θ=((xs.Qq.Uq i).Rp k).Θ:=by
 let e:(λ(m:υ)=>xs[((i:ψ)+(m:ψ)*1).RW]?)=λm=>xs[i+m]?:=by
  funext m;have:((i:ψ)+(m:ψ)*1).RW=i+m:=by lia
  rw[this]
 rw[e];have:=pick_run xs i k;rw[γ.filterMap_map]at this;let a:((λx=>xs[x]?)∘λx=>i+x)=λm=>xs[i+m]?:=ε;rw[a]at this;rw[this]
def Ba{lo c:χ ψ}(d:IsTup s.π t a)(k:s.π.IsSliceOf j vl vu .ζ)QTq(l:IsPart vu c)(hw:¬ (Wa a.Qw 0 lo=0/\Wa a.Qw a.Qw c=a.Qw))(h:Q Za {s with π:=s.π.Ra {SN:=.QH "tuple",RD:=.V8 ((a.Qq.Uq QLs).Rp QDd).Θ} })(hsz:a.Qw≤Λ):Cl ZR A (getItem QBZ QKs) Q E s:=by
 let b:sizeOk (.V8 ((a.Qq.Uq QLs).Rp QDd).Θ):=by
  change ((a.Qq.Uq QLs).Rp QDd).Θ.Qw≤Λ;rw[QZ,S6,WM,Ui];omega
 let r:Wa a.Qw a.Qw c≤a.Qw:=yY _ _ Zs c;let⟨os,e,g,n⟩:=id k;let i:s.Vh QKs "slice":=(os,e,g);unfold getItem;try with_reducible refine RZ ?_
 first|refine f_ QA8|skip
 refine f_ (wpAny_sequenceKey d.Vz (!0) ?_);refine f_ (Sc (So:=QL.S5 "__getitem__") d.Vz Sz.Ws.Xk
  (SS Sz.Ws.Xk d.Vz entry_tuple_getitem ?_ (args_tuple_getitem _ _)))
 change Cl _ _ (Builtin.Wo.tupleItemsOf QBZ>>=_) _ _ s;refine f_ (tupleItemsOf_ d ?_);refine f_ (XY i ?_);rw[QC (!0)];refine f_ (Oj k pl l ?_);let f:¬ (QCL=ο):=by
  intro q;rw[Sx,Sx]at q;let p:((Wa a.Qw 0 lo:υ):ψ)=0:=WU q.1.1;let o:Wa a.Qw a.Qw c-Wa a.Qw 0 lo=a.Qw:=WU q.2;show hw (!6,!6)
 change Cl _ _ (if QCL=ο then _ else _) _ _ s;rw[Fr f,sO];first
  |show f_ (m:=Builtin.Wo.tupleExact _) (Sf QH5 b)
  |show f_ (m:=Builtin.Wo.tupleExact _) (Sf (f_ (i_ QH5)) b)
  |show f_ (f_ (m:=Builtin.Wo.tupleExact _) (Sf (i_ QH5) b))
  |show f_ (f_ (m:=Builtin.Wo.tupleExact _) (Sf QH5 b))
end
end HT
namespace L2
open PySem.Spec PyProof.Rows
@[reducible]def TO:=St->Hp->(Option Int->Hp->Prop)->Prop
abbrev PO QC9(e:χ SF)(t:TO):Prop:=
 ∀ZJ QBP QBR ZC QTr,g_ X QF σ H s->t σ H Q->
  Cl Y9 X.A (evalPart e X.QA) (λu s'=>∃o H',g_ X QF σ H' s'/\IsPart u o/\Q o H') X.xe s
abbrev tNoPart:TO:=λ_ H Q=>Q ζ H
inductive yL QTr(x:V)QCi:Prop
 |mk (i:_) QLr (_:Q (δ i) H1)
abbrev Ol(t:TE):TO:=λσ H Q=>t σ H (yL Q)
section
variable{X:Cx}{e:SF}{te:TE}{lo hi:χ SF}{tl th:TO}{RX p2:T6}
def FB:PO X ζ tNoPart:=by
 intro a s b H Q I h;rw[evalPart_none];show i_ (ζ,H,I,.ζ,h)
def CJ QEa:PO X (δ e) (Ol te):=by
 intro a s c H Q I hw;rw[evalPart_some];refine oh (h a s c H _ I hw) λu k b=>?_;let⟨x,j,g,d,f⟩:=b;let⟨i,ε,q⟩:=f;let⟨t,ε⟩:=d;show(δ i,j,g,.QB i t,q)
abbrev Kl QC9 QJV:Prop:=
 ∀ZJ QBP QBR ZC(x:V)(v vl vu:η)QKJ(sl:θ)ZV,g_ X QF σ H s->af x v->s.π.IsSliceOf sl vl vu .ζ->IsPart vl lo->IsPart vu hi->r x lo hi H Q->
  ∃T id,Ye (.QH T) "__getitem__"=pure (δ (.Qu id))/\s.Vh v T/\Cl Y9 X.A (getItem v (.ν sl)) QB1 X.xe s
abbrev Om QJV QNq(tl th:TO):TE:=λσ H Q=>te σ H λx H1=>tl σ H1 λl H2=>th σ H2 λu H3=>r x l u H3 Q
def Ee(z:Kl X r)(D:PE X e te)(B:PO X lo tl)(t:PO X hi th):PE X (.Xh e QSk RX) (Om r te tl th):=by
 intro a s d H Q I h;refine Subscript_ (oh (D a s d H _ I h) λv j g=>?_);let⟨x,N,L,k,o⟩:=g;refine wpAny_Slice (oh (B a j d N _ L o) λvl s2⟨l,M,J,pl,n⟩=>oh (t a s2 d M _ J n) λvu c f=>?_);let⟨u,i,G,p,m⟩:=f;rw[evalPart_none];refine i_ ?_;let F:g_ X a d i {c with π:=c.π.Ra {SN:=.QH "slice",RD:=.R5 #[vl,vu,.ζ]} }:=G.WE (t':=c.Qs) λb O q=>ol _ q;let⟨T,id,E,y,C⟩:=z a {c with π:=c.π.Ra {SN:=.QH "slice",RD:=.R5 #[vl,vu,.ζ]} } d i x v vl vu l u c⁻¹ Q F k (Qx.IsSliceOf.new ..) pl p m;change Cl Y9 X.A (subscriptTail e QSk v (.ν c⁻¹)) (EP X a d Q) X.xe {c with π:=c.π.Ra {SN:=.QH "slice",RD:=.R5 #[vl,vu,.ζ]} };show tail_any (ops:=[.ν c⁻¹,v]) y E C QAQ
abbrev Af QBI QKJ:γ V:=(xs.Uq QH6).Rp QF5
def Nx QBI QKJ:(Af xs lo hi).β≤xs.β:=by
 unfold Af;rw[S6,WM];show Nm
inductive Ly ZZ(x:V)QUO(hi:χ ψ)ZC ZV:Prop
 |mk QTm QDc (_:pu K H a xs) (_:¬ (HT.Wa xs.β 0 lo=0/\HT.Wa xs.β xs.β hi=xs.β)) (_:∀p,H p=ζ->Q Zh (QO H p (.RJ QM0)))
def mr:Kl X (Ly X.K):=by
 intro d s l H x v vl vu lo hi m Q I g k pl i h;let⟨a,xs,ε,j,hw,q⟩:=h;cases g;let⟨Rc,r,f,hz⟩:=I.T7 j;let c:Rc.Θ.Qw=xs.β:=by rw[QZ];show r.β.QU
 refine("tuple",_,Sz.Ws.Xk.ρ,f.Vz,3);refine HT.Ba f k pl i (by rw[c];show hw) ?_ (by rw[c];show hz);rw[c];refine(.ν s⁻¹,_,I.X3 (t':=s.Qs) (o:=.RJ QM0) QSl Zs ?_,1,q _ QDV);show(LE (Nx xs lo hi) hz,_,(r.Uq QH6).Rp QF5,IsTup.new _ _)
end
abbrev DN QBM(i:ψ):χ υ:=if 0≤i then(if i<n then δ i.RW else ζ)else if -(n:ψ)≤i then δ (i+n).RW else ζ
abbrev Am{α:Type}(xs:γ α)(i:ψ):χ α:=(DN xs.β i).bind λj=>xs[j]?
def oN(h:DN n i<*j):seqIndex? i n=δ j/\j<n/\-(n:ψ)≤i/\i<n:=by
 unfold DN at h;by_cases a:0≤i
 .rw [QC a]at h;by_cases h1:i<n
  .rw [QC h1]at h;let e:i.RW=j:=χ.δ.Tx h;show(by rw[seqIndex_of a h1,e],!6,!6,h1)
  .rw [Fr h1]at h;cases h
 .rw [Fr a]at h;by_cases h1:-(n:ψ)≤i
  .rw [QC h1]at h;let e:(i+n).RW=j:=χ.δ.Tx h;show(by rw[seqIndex_neg (Et a) h1,e],!6,h1,!6)
  .rw [Fr h1]at h;cases h
def jv{xs:γ a}{v:a}(h:Am xs i<*v):∃j,seqIndex? i xs.β=δ j/\xs[j]?=δ v/\j<xs.β/\-(xs.β:ψ)≤i/\i<xs.β:=by
 unfold Am at h;cases e:DN xs.β i with
 |ζ=>rw[e]at h;cases h
 |δ j=>
  rw[e]at h;let⟨h1,h2,c,b⟩:=oN e;show(j,h1,h,h2,c,b)
def Av{xs:γ a}QIX{v:a}(h:xs[j]?<*v):Am xs (j:ψ)<*v:=by
 let b:j<xs.β:=(m8 h).1;let e:DN xs.β (j:ψ)<*j:=by
  unfold DN;rw[QC CY,QC (Fk b)];simp
 unfold Am;rw[e];show h
def fj(xs:γ a)(v:a):Am (xs++[v]) (-1)<*v:=by
 let b:(xs++[v]).β=xs.β+1:=by simp
 let e:DN (xs++[v]).β (-1)<*xs.β:=by
  unfold DN;rw[b,Fr (!0),QC (!6)];congr 1;lia
 unfold Am;rw[e];change (xs++[v])[xs.β]?<*v;simp
abbrev jz(b:SF):Prop:=∀o i,subscripted b μ o i=operate [o,i] (getItem o i)
abbrev CK QC9(r:R2):Prop:=
 ∀(value YR:SF)ZJ QBP QBR ZC QLW(v u:η)ZV,g_ X QF σ H s->af x v->af y u->r x y H Q->
  subscripted YR μ v u=operate [v,u] (getItem v u)->Cl Y9 X.A (subscriptTail value YR v u) QB1 X.xe s
abbrev HM QC9(id:Xx)QE5:Prop:=
 ∀ZJ QBP QBR ZC(x:V)QBI(v:η)QDK ZV,g_ X QF σ H s->af x v->ae xs us->r x xs H Q->
  Cl Y9 X.A QOY QB1 X.xe s
section
variable{X:Cx}{a b:SF}{ta tb:TE}{RX:T6}
def CK.or(h:CK X r)(h':CK X k):CK X (λx y H Q=>r x y H Q\/k x y H Q):=by
 intro c d e s f H x y v u Q I i g q j;rcases q with q|q
 .exact h c d e s f H x y v u Q I i g q j
 .exact h' c d e s f H x y v u Q I i g q j
def l'(i:CK X r)(k:PE X a ta)(j:PE X b tb)(g:jz b):PE X QOZ QJS:=by
 intro c s d H Q I h;show Subscript_ (G8 k j I h λv u s2 x y m l f e q=>i a b c s2 d m x y v u Q l f e q (g _ _))
inductive sN ZZ(x:V)(y:V)ZC ZV:Prop
 |mk (p xs i v:_) QIY QLt (_:lb K H p xs) (_:Am xs i<*v) QJR
inductive mG ZZ(x:V)(y:V)ZC ZV:Prop
 |mk (p xs i v:_) QIY QLt (_:pu K H p xs) (_:Am xs i<*v) QJR
inductive rIxS(x:V)(y:V)ZC ZV:Prop
 |mk (z i c:_) QSP QLt (_:z.β≤Λ) (_:Am z.V4.Qq i<*c) (_:Q QFg H)
def cG:CK X (sN X.K):=by
 intro e f c s l H x y v u Q I B A h m;let⟨p,xs,i,z,ε,ε,C,E,q⟩:=h;cases B;let⟨t,ε⟩:=A;let⟨Rc,r,pl,hz⟩:=I.U0 C;let⟨j,h1,h2,L,G,F⟩:=jv E;let⟨w,o,g⟩:=r.get h2;let D:=r.β;let J:=bX;let d:EP X c l Q w s:=(z,H,I,g,q);by_cases n:0≤i
 .let k:i.RW=j:=by
   rw[seqIndex_of n F]at h1;show χ.δ.Tx h1
  show item_listR pl.UZ n (GT J F hz) (by rw[k];simpa using o) d m
 .let k:(i+(Rc.Θ.Qw:ψ)).RW=j:=by
   rw[seqIndex_neg (Et n) G]at h1;rw[QZ,<-D];show χ.δ.Tx h1
  show subscriptTail_builtinR (x:=w) pl.UZ.Vz slot_list_getitem.ρ
   (wpAny_getItem_list_neg (Q:=λr s'=>r=w/\EP X c l Q r s') pl.UZ (Et n) (by rw[QZ]<;>lia) (GX J G hz) (by rw[k];simpa using o) (1,d)) m
def ef:CK X (mG X.K):=by
 intro d e c s k H x y v u Q I m l h n;let⟨p,xs,i,z,ε,ε,o,B,q⟩:=h;cases m;let⟨t,ε⟩:=l;let⟨Rc,r,pl,hz⟩:=I.T7 o;let⟨j,h1,h2,G,F,E⟩:=jv B;let⟨w,C,f⟩:=r.get h2;let A:=r.β;let D:=bX;let g:EP X c k Q w s:=(z,H,I,f,q);show subscriptTail_builtinR (x:=w) pl.Vz Xk.ρ
  (getItem_tuple (j:=j) (Q:=λr s'=>r=w/\EP X c k Q r s') pl (GX D F hz) (GT D E hz) (by rw[QZ,<-A];show h1) (by simpa using C) (1,g)) n
def G_:CK X rIxS:=by
 intro d e f s A H x y v u Q I k g h l;let⟨z,i,c,ε,ε,hz,n,q⟩:=h;let⟨t,ε⟩:=k;let⟨t',ε⟩:=g;let⟨j,h1,h2,C,p,o⟩:=jv n;let m:z.V4.Qq.β=z.β:=by simp[QL.β]
 rw[m]at h1 p o;let B:=bX;show tail_any (Yf s z t) W4.ρ (getItem_str (c:=c) (by
  let w:decide (i < -(2^63:ψ))=μ:=QN (!6);let r:decide (i≥2^63)=μ:=QN (!6);rw[w,r,Ω.T8]) (by rw[h1];simpa using h2) (.Qn ⟨#[c]⟩,H,I.X0 _,(_,ε),q)) l
abbrev On ZZ:R2:=λx y H Q=>sN K x y H Q\/mG K x y H Q\/rIxS x y H Q
def uz:CK X (On X.K):=cG.or (ef.or G_)
def mW(Rc:γ η)(n j:υ)QP6:V0 (·.RU j u) {SN:=.QH "list",RD:=.V8 Rc.Θ n}={SN:=.QH "list",RD:=.V8 (Rc.US j u).Θ n}:=by
 simp[V0]
def g_.QM{d:St}QKd(h:H p<*.QM xs):∃(Rc:γ η)(n:υ),ae xs Rc/\s.π.Δ p=δ {SN:=.QH "list",RD:=.V8 Rc.Θ n}/\xs.β≤Λ:=by
 let⟨z,Rc,n,r,e⟩:=I.S7 p _ h;show(Rc,n,r,e,z)
def g_.lstUpd{d:St}{Rc its':γ η}QKd(h:H p<*.QM xs)(j:s.π.Δ p<*{SN:=.QH "list",RD:=.V8 Rc.Θ n})(i:f {SN:=.QH "list",RD:=.V8 Rc.Θ n}={SN:=.QH "list",RD:=.V8 its'.Θ g})(r:ae ys its')QLl(t:υ):g_ X c d (QO H p QAk) {s with π:=s.π.Sm p f,Qs:=t}:=by
 let e:(s.π.Sm p f).Δ p<*{SN:=.QH "list",RD:=.V8 its'.Θ g}:=by
  rw[Rk f j (by rw[i]<;>rfl),i]
 refine I.write (x:=p) (e:=p) (by rw[h];trivial) Zv (λb u k q=>(Re _ _ (Ne.QU k)).ξ q) (_,e) ?_;show(hz,its',g,r,e)
inductive rSetL(o:V)(i:V)(v:V)ZC QLq:Prop
 |mk (p xs k j:_) (_:o=.ν p) (_:i=.QB k) (_:H p<*.QM xs) (_:DN xs.β k<*j) (_:Q QLX)
def sr:xZ X rSetL:=by
 intro c s x H o i v C D u Q I z A y h;let⟨p,xs,k,j,ε,ε,hp,B,q⟩:=h;cases z;let⟨t,ε⟩:=A;let⟨Rc,n,r,d,hz⟩:=I.QM hp;let⟨h1,h2,l,g⟩:=oN B;let e:=r.β;let E:=bX;let w:g_ X c x QLX {s with π:=s.π.Sm p (V0 (·.RU j u))}:=
  I.lstUpd hp d (mW Rc n j u) (r.US y j) (by rw[γ.length_set];show hz) s.Qs
 by_cases m:0≤k
 .let f:k.RW=j:=by
   rw[seqIndex_of m g]at h1;show χ.δ.Tx h1
  show Ξ.W.ki_setAt d m (GT E g hz) (by rw[QZ,<-e];show g) (by rw[f];show(_,w,q))
 .let f:(k+(Rc.Θ.Qw:ψ)).RW=j:=by
   rw[seqIndex_neg (Et m) l]at h1;rw[QZ,<-e];show χ.δ.Tx h1
  show Ξ.W.ki_setBack d (Et m) (by rw[QZ,<-e];show l) (GX E l hz) (by rw[f];show(_,w,q))
def iC(lo c:χ ψ)QBM:(XF lo c ζ n).1=((HT.Wa n 0 lo:υ):ψ)/\(XF lo c ζ n).2.1=((HT.Wa n n c:υ):ψ)/\(XF lo c ζ n).2.2=1:=by
 refine(3,3,1)
 .cases lo with
  |ζ=>simp[XF,HT.Wa]
  |δ i=>
   simp only[XF,HT.Wa,χ.getD_none,show(1:ψ)>0 by decide,if_true];by_cases h:i<0
   .simp only[h,if_true]<;>show Ix h
   .simp only[h,Xr]<;>show Nn
 .cases c with
  |ζ=>simp[XF,HT.Wa]
  |δ i=>
   simp only[XF,HT.Wa,χ.getD_none,show(1:ψ)>0 by decide,if_true];by_cases h:i<0
   .simp only[h,if_true]<;>show Ix h
   .simp only[h,Xr]<;>show Nn
def fK(Rc:γ η)(lo c:χ ψ):slicePick Rc.Θ lo c ζ=((Rc.Uq (HT.Wa Rc.β 0 lo)).Rp (HT.Wa Rc.β Rc.β c-HT.Wa Rc.β 0 lo)).Θ:=by
 let⟨h1,h2,d⟩:=iC lo c Rc.Θ.Qw;unfold slicePick;rw[h1,h2,d];simp only[sliceRange_one,pick_run,QZ]<;>rfl
inductive Lz ZZ(x:V)QUO(hi:χ ψ)ZC ZV:Prop
 |mk QTm QDc (_:lb K H a xs) (_:∀p,H p=ζ->Q Zh (QO H p (.QM QM0)))
def G':Kl X (Lz X.K):=by
 intro e s l H x v vl vu lo d m Q I g k pl i h;let⟨a,xs,ε,j,q⟩:=h;cases g;let⟨Rc,r,f,hz⟩:=I.U0 j;let c:=r.β;refine("list",_,slot_list_getitem.ρ,f.UZ.Vz,3);refine wpAny_getItem_list_slice f.UZ k pl i .ζ (!1) ?_ (by rw[QZ]<;>show DG c hz);rw[fK,<-c];refine(.ν s⁻¹,_,I.X3 (t':=s.Qs) (o:=.QM (Af xs lo d)) QSl Zs ?_,1,q _ QDV);show(LE (Nx xs lo d) hz,_,(0),(r.Uq QH6).Rp (HT.Wa xs.β xs.β d-HT.Wa xs.β 0 lo),QK _ ε)
abbrev CL:V->Ω
 |.UT=>ο
 |.bl _=>ο
 |.QB _=>ο
 |.Qn _=>ο
 |_=>μ
abbrev Ey:V->V->Ω
 |.UT,.UT=>ο
 |.bl a,.bl b=>a==b
 |.bl a,.QB b=>(if a then 1 else 0)==b
 |.QB a,.bl b=>a==(if b then 1 else 0)
 |.QB a,.QB b=>a==b
 |.Qn a,.Qn b=>a==b
 |_,_=>μ
def C_(d:af y u)(c:af x v)(f:CL y=ο)(e:CL x=ο):Sa.U6 A s u v (Ey y x):=by
 cases y with
 |UT=>
  cases d;cases x with
  |UT=>cases c;show Sa.U6.SL _
  |bl b=>cases c;show Sa.U6.none_bool b
  |QB b=>let⟨t,ε⟩:=c;show Sa.U6.none_int b t
  |Qn b=>let⟨t,ε⟩:=c;show Sa.U6.none_str b t
  |_=>show QG (show μ=ο from e) Ω.Q9
 |bl a=>
  cases d;cases x with
  |UT=>cases c;show Sa.U6.bool_none a
  |bl b=>cases c;show Sa.U6.bool_bool a b
  |QB b=>let⟨t,ε⟩:=c;show Sa.U6.bool_int a b t
  |Qn b=>let⟨t,ε⟩:=c;show Sa.U6.bool_str a b t
  |_=>show QG (show μ=ο from e) Ω.Q9
 |QB a=>
  let⟨t',ε⟩:=d;cases x with
  |UT=>cases c;show Sa.U6.int_none a t'
  |bl b=>cases c;show Sa.U6.int_bool a t' b
  |QB b=>let⟨t,ε⟩:=c;show Sa.U6.int_int a t' b t
  |Qn b=>let⟨t,ε⟩:=c;show Sa.U6.int_str a t' b t
  |_=>show QG (show μ=ο from e) Ω.Q9
 |Qn a=>
  let⟨t',ε⟩:=d;cases x with
  |UT=>cases c;show Sa.U6.str_none a t'
  |bl b=>cases c;show Sa.U6.str_bool a t' b
  |QB b=>let⟨t,ε⟩:=c;show Sa.U6.str_int a t' b t
  |Qn b=>let⟨t,ε⟩:=c;show Sa.U6.str_str a t' b t
  |_=>show QG (show μ=ο from e) Ω.Q9
 |_=>show QG (show μ=ο from f) Ω.Q9
abbrev FC(x:V)QP6:Ω:=match u with
 |.ζ=>Ey .UT x
 |.T9 b=>Ey QIw x
 |.QB i _=>Ey QIv x
 |.Qn z _=>Ey (.Qn z) x
 |_=>μ
def Ez(r:af y u)(f:CL y=ο):FC x u=Ey y x:=by
 cases y with
 |UT=>cases r;rfl
 |bl b=>cases r;rfl
 |QB i=>let⟨t,ε⟩:=r;rfl
 |Qn z=>let⟨t,ε⟩:=r;rfl
 |_=>show QG (show μ=ο from f) Ω.Q9
def jx{x:V}:∀QBN QBq,ae xs us->xs.Tk CL=ο->us.VA QOa=xs.VA λy=>Ey y x
 |_,_,.Tw,_=>rfl
 |y::xs,u::us,.Rx r t,f=>by
  rw[γ.all_cons,Sx]at f;rw[γ.any_cons,γ.any_cons,Ez r f.1,jx t f.2]
def BD QMK{s:ω}{x:V}{v:η}(d:af x v)(e:CL x=ο):∀QBN QBq,ae xs us->xs.Tk CL=ο->∀u∈us,Sa.U6 A s u v (FC x u)
 |_,_,.Tw,_=>λu c=>by cases c
 |y::xs,u::us,.Rx r t,f=>λg c=>by
  rw[γ.all_cons,Sx]at f;rcases QW.mp c with ε|c
  .rw [Ez r f.1];show C_ r d f.1 e
  .exact BD d e t f.2 g c
abbrev Hb(x:V)QBI:Ω:=xs.VA λy=>Ey y x
inductive Ny ZZ(neg:Ω)(x:V)(y:V)ZC ZV:Prop
 |mk (p xs:_) (_:y=.ν p) (_:(lb K H p xs\/pu K H p xs)) (_:CL x=ο) (_:xs.Tk CL=ο) (_:Q (.bl (if neg then !Hb x xs else Hb x xs)) H)
def gK:Ad X (Sv .In) (Ny X.K μ):=by
 intro e s i H x y v u Q I d g h;let⟨p,xs,ε,c,f,fs,q⟩:=h;cases g;rcases c with c|c
 .obtain ⟨Rc,r,pl,hz⟩:=I.U0 c;refine Sa.in_listAt QOa pl.UZ QKt QF6;rw[show Rc.Θ.VA QOa=Rc.VA QOa by simp,jx r fs];show q
 .obtain ⟨Rc,r,pl,hz⟩:=I.T7 c;refine Sa.in_tupleAt QOa pl QKt QF6;rw[show Rc.Θ.VA QOa=Rc.VA QOa by simp,jx r fs];show q
def Hc:B6 X (.Qu "len") QB5:=by
 intro f s i H xs us Q I r h;let⟨p,ys,ε,d,q⟩:=h;let⟨u,ε,g⟩:=B7 r;cases g;let j:=bX;rcases d with d|d
 .obtain ⟨Rc,e,pl,hz⟩:=I.U0 d;let c:=e.β;show Vn.call_len_list pl.UZ (by simp only[QZ]<;>show IY j c hz) (.QB ys.β,H,I.X0 _,(s.Qs+1,by rw[QZ,c]),q)
 .obtain ⟨Rc,e,pl,hz⟩:=I.T7 d;let c:=e.β;show len_tuple pl (by simp only[QZ]<;>show IY j c hz) (.QB ys.β,H,I.X0 _,(s.Qs+1,by rw[QZ,c]),q)
def Nz:B6 X (.Qu "len") QDp:=by
 intro c s d H xs us Q I r h;let⟨z,ε,hz,q⟩:=h;let⟨u,ε,t,ε⟩:=B7 r;let e:=bX;show len_str (!6) (.QB z.β,H,I.X0 _,QAy,q)
def LA:B6 X (.QH "list") (λxs H Q=>∃p ys,xs=[.ν p]/\(lb X.K H p ys\/pu X.K H p ys)/\∀l,H l=ζ->Q QFM (QO H l QAk)):=by
 intro f s y H xs us Q I r h;let⟨p,ys,ε,i,q⟩:=h;let⟨u,ε,z⟩:=B7 r;cases z;let k:∀(Rc:γ η),ae ys Rc->ys.β≤Λ->∀QLY(d:υ),(∀b x,s.π.Δ b<*x->h'.Δ b<*x)->
   h'.Δ s⁻¹<*{SN:=.QH "list",Ux:=ζ,RD:=.V8 Rc.Θ d,XE:=#[]}->EP X f y Q Za {s with π:=h'}:=λRc c hz h' d g e=>
  (.ν s⁻¹,_,I.X3 (t':=s.Qs) g Zs (show Aq X.BT X.w _ h' _ QAk from(hz,Rc,d,c,e)),1,q _ QDV)
 rcases i with i|i
 .obtain ⟨Rc,c,pl,hz⟩:=I.U0 i;let j:=c.β;let⟨o,m,v,n,t⟩:=pl.UZ;show call_list_seq p Zv m v t QIf (by simp only[QZ]<;>show DG j hz)
 .obtain ⟨Rc,c,pl,hz⟩:=I.T7 i;let j:=c.β;let⟨o,m,v,n,t⟩:=pl;show call_list_seq p QKK m v t QIf (by simp only[QZ]<;>show DG j hz)
def Gs:B6 X (.QH "tuple") (λxs H Q=>∃p ys,xs=[.ν p]/\((lb X.K H p ys/\∀l,H l=ζ->Q QFM (QO H l QSm))\/(pu X.K H p ys/\Q Zh H))):=by
 intro c s g H xs us Q I r h;let⟨p,ys,ε,h⟩:=h;let⟨u,ε,k⟩:=B7 r;cases k;rcases h with⟨f,q⟩|⟨f,q⟩
 .obtain ⟨Rc,d,pl,hz⟩:=I.U0 f;let i:=d.β;refine call_tuple_list pl.UZ (λh' m=>?_) (by simp only[QZ]<;>show DG i hz);let j:g_ X c g H {s with π:=h'}:=I.WE (t':=s.Qs) m;let n:g_ X c g (QO H h'.SM.Qw QSm) {s with π:=h'.Ra {SN:=.QH "tuple",RD:=.V8 Rc.Θ} }:=
   j.X3 (t':=s.Qs) (λb o e=>ol _ e) Zs (show Aq X.BT X.w _ _ _ QSm from(hz,Rc,d,IsTup.new _ _))
  show(.ν h'.SM.Qw,_,n,1,q _ (j.S7.SW Zs))
 .obtain ⟨Rc,d,pl,hz⟩:=I.T7 f;show call_tuple_same pl (.ν p,H,I,1,q)
abbrev NA ZZ(T:Xx)(x:V)ZC:Prop:=match x with
 |.Qn _=>T="str"
 |.QB _=>T="int"
 |.ν p=>(T="list"/\∃xs,lb K H p xs)\/(T="tuple"/\∃o,K.ρ p=δ o/\o.SN=.QH "tuple"/\o.Ux=ζ) \/
   (T="dict"/\((∃Ri,H p<*.dK Ri)\/∃Ri,H p<*.dT Ri))\/(T="set"/\∃S n,H p<*.US S n)
 |_=>Rl
def yE{l:St}(I:g_ X j l H s)(r:af x v)(ty:NA X.K T x H):s.Vh v T/\∀a,v=.ν a->∃k,s.π.Δ a=δ k/\k.Ux=ζ:=by
 cases x with
 |Qn z=>
  let⟨t,ε⟩:=r;cases(show T="str" from ty);show(Yf s z t,λ_ e=>nomatch e)
 |QB i=>
  let⟨t,ε⟩:=r;cases(show T="int" from ty);show(typeIs_int s i t,λ_ e=>nomatch e)
 |ν p=>
  cases r;rcases ty with⟨rfl,xs,m⟩|⟨rfl,o,d,q,g⟩|⟨rfl,d⟩|⟨rfl,S,n,d⟩
  .obtain ⟨Rc,_,pl,_⟩:=I.U0 m;refine(pl.UZ.Vz,λa e=>?_);cases e;let⟨o,n,e,c,g,_⟩:=pl;show(o,e,g)
  .refine ((o,I.Xp p o d,q),λa e=>?_);cases e;show(o,I.Xp _ o d,g)
  .let z:∃o,s.π.Δ p=δ o/\o.ExactDict:=by
    rcases d with⟨Ri,d⟩|⟨Ri,d⟩
    .obtain ⟨_,_,_,_,o,_,_,e,f,_⟩:=I.S7 p _ d;show(o,e,f)
    .obtain ⟨_,_,_,_,o,_,_,e,f,_⟩:=I.S7 p _ d;show(o,e,f)
   let⟨o,e,f⟩:=z;refine QQI;cases h;show(o,e,f.2.1)
  .obtain ⟨o,_,_,_,e,f,_⟩:=I.S7 p _ d;refine QQI;cases h;show(o,e,f.2.1)
 |_=>show Rl.SG ty
abbrev BK ZZ(T:Xx)QE5(to:TE)QG3:TE:=λσ H Q=>to σ H λx H1=>NA K T x H1/\t σ H1 λxs H2=>r x xs H2 Q
variable{o e:SF}{es:γ SF}{to:TE}{t:TA}{So:QL}{apos cpos:T6}{T id:Xx}{r:V->γ V->Hp->VK->Prop}
def Bn(B:PlainAttrs T)(i:Slot T So id)(l:typeOf (.Qu id)=pure (.QH "method_descriptor"))(E:HM X id r)(D:PE X o to)(F:PA X (e::es) t)(g:(Uj o So X.QA (SR o X.QA)=SR o X.QA)>>>4)(j:(((SJ cpos (Ψ (e::es) X.QA)).Tk (λx=>!x.1)&&(Ya cpos (WP [] X.QA)).Tk (λx=>x.1.Vg)
   && decide ((e::es).β+([]:γ Xe).β+(if ([]:γ Xe).Xd then 0 else 1)<30))=ο)>>>4)(f:((apos.endLine==cpos.XI)=ο)>>>4)(C:(Ψ (e::es) X.QA=(μ,SR e X.QA,)::Ψ es X.QA)>>>4)(d:((SJ cpos (Ψ es X.QA)).VA (·.1)=μ)>>>4):PE X (.Tl (.TH o So apos) (e::es) [] cpos) (BK X.K T r to t):=by
 intro c s k H Q I h;refine wpAny_Call_method_late g j f ε (oh (D c s k H _ I h) λv w n=>?_);let⟨x,L,u,p,ty,A⟩:=n;let⟨h1,h2⟩:=yE u p ty;refine(T,id,B,i,l,h1,h2,3);let q:=F cpos c w k L _ u A;rw[C]at q⊢;refine Vn.callWith_builtin (by change QLu=μ;rw[d]<;>rfl) (Vn.Xu ?_);show oh q λus s2 m=>by let⟨vs,J,G,y,z⟩:=m;show E c s2 k J x vs v us Q G p y z
end
abbrev LB QC9(id:Xx)QE5:Prop:=
 ∀ZJ QBP QBR ZC(x:V)QBI(v:η)QDK ZV,g_ X QF σ H s->af x v->ae xs us->r x xs H Q->
  Cl Y9 X.A QOY QB1 X.xe s
def ae.Uo:∀{x:V}QBq,ae [x] us->∃u,us=[u]/\af x u
 |_,_,.Rx r .Tw=>(0,r)
section
variable{X:Cx}{QF:γ Z_}{σ:St}{H:Hp}{s:ω}{l b:θ}{xs ys zs:γ V}
def g_.lset{Rc its':γ η}Y_(h:H l<*.QM xs)(e:s.π.Δ l<*{SN:=.QH "list",RD:=.V8 Rc.Θ n})(d:f Rc.Θ=its'.Θ)(a:ae ys its')QLl:g_ X QF σ (QO H l QAk) {s with π:=s.π.Sm l (V0 f),Qs:=t'}:=by
 let q:=Ξ.IsL.Sm e f;rw[d]at q;refine I.write (x:=l) (e:=l) (by rw[h];show trivial) Zv (λi u g c=>(Re s.π (V0 f) (Ne.QU g)).ξ c) (_,q) ?_;show(hz,its',_,a,q)
def g_.lnew Y_(a:ae ys Rc)QLl:g_ X QF σ (QO H s⁻¹ QAk) {s with π:=s.π.Ra {SN:=.QH "list",RD:=.V8 Rc.Θ},Qs:=t'}:=
 I.X3 QSn Zs (hz,Rc,(0),a,QK _ ε)
def g_.SW Y_:H s⁻¹=ζ:=I.S7.SW Zs
def g_.lstM Y_(a:H l<*.QM xs):xs.β≤Λ/\∃(Rc:γ η)(n:υ),ae xs Rc/\xs.β=Rc.β/\s.π.Δ l<*{SN:=.QH "list",RD:=.V8 Rc.Θ n}:=by
 let⟨z,Rc,n,r,e⟩:=I.S7 l _ a;show(z,Rc,n,r,r.β,e)
end
section
variable{X:Cx}
inductive rAppend(x:V)ZF ZC ZV:Prop
 |mk (l xs y:_) QIZ (_:vs=[y]) QLm (_:xs.β<Λ) (_:Q .UT (QO H l (.QM (xs++[y]))))
def gO:LB X "list.append" rAppend:=by
 intro a s g H x vs v us Q I c d h;let⟨l,xs,y,ε,ε,b,hz,q⟩:=h;cases c;let⟨u,ε,f⟩:=d.Uo;let⟨z,Rc,n,r,i,e⟩:=I.lstM b;refine call_meets F.slot_list_append (_,e,1) F.entry_list_append (F.args_list_append_2 _ _) (Ξ.list_append l Rc.Θ n u (by rw[QZ];lia)) (e,3);refine(.UT,_,I.lset (its':=Rc++[u]) b e (!1) (r.append (.Rx f .Tw)) ?_,1,q);rw[u4,γ.YV];lia
inductive rCat(x:V)(y:V)ZC ZV:Prop
 |mk (l b xs zs:_) QIZ (_:y=.ν b) QLm (_:H b<*.QM zs) (_:xs.β+zs.β≤Λ) (_:∀p,H p=ζ->Q Zh (QO H p (.QM (xs++zs))))
def FD:Ad X QOT rCat:=by
 intro c s p H x y v u Q I f d h;let⟨l,b,xs,zs,ε,ε,j,k,hz,q⟩:=h;cases f;cases d;let⟨z,Rc,n,r,A,e⟩:=I.lstM j;let⟨t,a,w,g,i,o⟩:=I.lstM k;refine Ξ.P.add_list e o ?_ (by rw[QZ,QZ];lia);let m:Rc.Θ++a.Θ=(Rc++a).Θ:=by simp
 rw[m];show(.ν _,_,I.lnew (t':=s.Qs) (r.append g) (by rw[u4];omega),1,q _ I.SW)
end
section
variable{BT:IO}{w:QV}{A:Qo}{E:η->ω->Prop}{s:ω}
end
section
variable{X:Cx}
end
end L2
namespace Att
open PySem.W PySem.Calls PyProof.Rows
def Oo:∀QFA(vs:γ η),WellAll P h vs QTs->XB vs ns:=by
 intro ns;induction ns with
 |Tw=>
  intro vs w;rw[γ.map_nil]at w;cases w;show .Tw
 |Rx n ns c=>
  intro vs w;rw[Tq]at w;cases w with
  |Rx a b=>
   cases a;show .Rx _ _ (c _ b)
def p5{l:OpenLaw}(v:l.most<*n)(c:l.YO.toRowW.claim.pre b=ο)(k:WellAll P h e b):∃a vs ns,e=[η.ν a]/\b=[WData.U0 QTs]/\h.Δ a=δ {SN:=.QH "list",RD:=.V8 vs.Θ}/\XB vs ns/\ns.β≤n:=by
 let m:WShape.hasAll [] b [.U0 .QB]=ο:=(pre_splitW c).1;let o:l.pre.holds [] {args:=b}=ο:=(pre_splitW c).2;let⟨d,r,ε,h1,h2⟩:=hasAllW_cons m;obtain ε:=hasAllW_nil h2;let⟨xs,ε,w⟩:=hasW_list h1;let⟨ns,ε⟩:=items_int w;let f:ns.β≤n:=by
  unfold OpenLaw.pre at o;let j:(WTm.not (.lt (.lit (.QB (n:ψ))) (.Sr (.arg 0)))).holds [] {args:=[.U0 (ns.QY .QB)]}=ο:=by
   let j:=(holds_andW o).1;rw[v]at j;show j
  let i:=condW_of j (w_not (w_lt w_lit (w_len_list (w_arg ε))));rw[j']at i;refine SU λq=>?_;let t:(n:ψ)<((ns.β:υ):ψ):=Fk q
  first
   |(rw[Qr t]at i;show QG i (!0))
   |(simp at i;omega)
 cases k with
 |Rx s p=>
  cases p;cases s with
  |U0 u g=>show(7,ns,5,u,Oo ns _ g,f)
def qe(l:OpenLaw)(a:γ WData):l.YO.toRowW.claim.post a QRR a=ο:=
 postW_of (r:=l.YO.toRowW) (X:=(ο==ο))
  (show WShape.Vl [] QRR .T9=ο by first|rfl|decide|simp[WShape.Vl,WShape.arms,WShape.armsAll])
  (show(WTm.eq .res (.lit QRR)).value [] {args:=a,res:=δ QRR,after:=a}<*.T9 (ο==ο)from w_eq_bool (w_res ε) w_lit) ε
def Co{l:OpenLaw}(C:l.most<*n)(s:d.Ss.defaults=[])(Ub:∀(w:QV)(c b:ω)(mg k:QL->χ η)(fa:θ)(o:UP)(pm j Tm:η)(a:θ)(vs:γ η)(ns:γ ψ),
   Ground q loose [] XP w c mg k b.π->YP w b.π->
   b.π.Δ fa<*o->o.RD=.VL (docDef d.So d.Ss d.body d.Qy pm j Tm)->b.π.SD j d.So->mg d.So<*.ν fa->
   b.π.Δ a<*{SN:=.QH "list",RD:=.V8 vs.Θ}->XB vs ns->ns.β≤n->b.Wr=#[]->
   VD (KK l.BT w) callerA (.Ub (.ν fa) ([.ν a],[])) (λr s'=>r=.ok (.ret (.T9 ο))/\OldK b.π s'.π/\s'.os=b.os/\Xf s'.Wr) b):WalkO q loose XP YP l.YO.toRowW d [] (λf vs=>Ξ.Ub f vs):=by
 intro w c b mg k G Y fa o pm j Tm L kV B H t x p F y u M g v z m E;obtain ε:L=.ζ:=Dflts.ζ x s;obtain ε:kV=.ζ:=Dflts.noKw x;let⟨a,vs,ns,ε,ε,h,e,i⟩:=p5 C g m;refine enter_call (Ts (Ub w c b mg k fa o pm j Tm a vs ns G Y B (fd_plain H) t p h e i F) λr s' A=>?_);let⟨rfl,h2,J,I⟩:=A;show(.RB (.T9 ο,.T9 ο,[],1,λ_=>rfl,.T9 ο,qe l _,λ_=>(γ.Pairwise.Tw,λ_ D=>(nomatch D))),h2,J,I)
section
variable{BT:IO}{w:QV}{A:Qo}{E:η->ω->Prop}{s:ω}{K:Qt}
end
end Att
namespace L2
open PySem.Spec PyProof.Rows
def d_U:∀QQF QOb,XB vs ns->ae QAo vs
 |_,_,.Tw=>.Tw
 |_,_,.Rx n t h=>.Rx (t,1) (d_U h)
abbrev Ch(s:Rb)QEO:Rb:=match s with
 |.ClassDef _ _ _ body _ _ _ _ _ _ _=>body.Φ j QA4
 |_=>.Pass ZI
abbrev t_(s:Rb):UW:=match s with
 |.FunctionDef _ a _ _ _ _ _ _ _ _=>a
 |_=>{posonlyargs:=[],args:=[],vararg:=ζ,kwonlyargs:=[],kw_defaults:=[],kwarg:=ζ,defaults:=[]}
abbrev n'(s:Rb):γ Rb:=match s with
 |.FunctionDef _ _ b _ _ _ _ _ _ _=>b
 |_=>[]
abbrev hY(s:Rb):TB:=match s with
 |.FunctionDef _ _ _ _ _ _ sc _ _ _=>sc
 |_=>{Uz:=.UL,QI:=[],isGenerator:=μ,isCoroutine:=μ}
instance na:CXT:=λ_ _ _ _ _ _=>Rl
instance E0:XK:=λ_ _ _=>Rl
def BV:Ex na X E0:=λ_ _ _ _ _ _ _ h=>h.SG
structure so ZZ(x Qz:QL)QRH QDo(fd:TQ):Prop where
 ex:∃(oc:η)(od:χ θ)(kV Tm pm:η)(an:χ θ)(U' ct:η)(osl:Ry QKu),
  fd=U9 x Qz QQJ QQK QHO .ζ kV Tm pm an U' ct/\K.ρ f=δ QRS/\UN K U' Qz=ο
 kp:V3 K Ze=ο
section
variable{P:IO}{w:QV}{K:Qt}{mg:QL->χ η}{ς:Qx}
def so.ok{st:Rb}(F:so K x Qz st f fd)(S:s_ N ps (hY st))(Sr:∀vs H Q E,sp vs H Q E->vs.β=ps.β)(a:∀(U':η)(A:Qo)(Id:γ YH)(s:ω)(H:Hp)(vs:γ V)(Q:VK)(E:XK),am k (A.VQ (W8 Qz (hY st) s⁻¹ f U'))->sp vs H Q E->
   ∃t,Bk (aY na P w K mg ς N Qz (hY st) f U' A Id s H E).nox (n' st) t/\t {nx:=λ_ H'=>Q .UT H',rt:=Q} (WG N vs) H):aa P w K mg ς na (k+1) f fd ps sp:=by
 let⟨i,g,kV,Tm,pm,an,U',ct,d,ε,lk,c⟩:=F.ex;refine kO lk c S Sr λA Id s H vs Q E e b=>?_;let⟨t,h,q⟩:=a U' A Id s H vs Q E e b;show(t,h.nox,q)
def so.binds{st:Rb}(F:so K x Qz st f fd)(h:∀QEP QJ1(U' ct:η)QDK,us.β=ps.β->bindArgs QA9 QKq=pure QE7):ym K fd ps []:=by
 let⟨d,c,kV,Tm,pm,an,U',ct,a,ε,lk,b⟩:=F.ex;show .Tk (h kV Tm pm an U' ct)
def DO{st:Rb}{kV Tm pm U' ct:η}(l:K.ρ f<*(d,b,.VL QA9,a))(c:UN K U' Qz=ο)(k:V3 K Ze=ο):so K x Qz st f QA9:=((d,b,kV,Tm,pm,an,U',ct,a,1,l,c),k)
end
section
variable{X:Cx}
def pv Zi{RX:T6}(d:QJW>>>4)(b:HI X.QA.Qy x>>>8)(c:((x==("__debug__":QL))=μ)>>>0)(a:((x==("__classdict__":QL))=μ)>>>0):PE X QD7 (bw i):=ze d b c a
end
def ai{A B:Prop}(h:B):if μ=ο then A else B:=by
 rw[Fr Ω.Q9];show h
def ay{A B:Prop}(h:A):if ο=ο then A else B:=by
 rw[QC ε];show h
def CM QIp[Decidable c](a:c)(h:B):if (!decide c)=ο then A else B:=by
 rw[Qr a];show ai h
abbrev a_ QIo:Prop:=∀b o,H b<*o->H' b<*o
def a_.YS ZC:a_ H H:=λ_ _ h=>h
def a_.ξ(a:a_ H e)(b:a_ e d):a_ H d:=λc o h=>b c o (a c o h)
def a_.V8 QCI(e:a_ H H')QML:lb K H' a xs:=by
 rcases h with(h|⟨o,h⟩)|h
 .exact .RB (.RB (e _ _ h))
 .exact .RB (.RF (o,e _ _ h))
 .exact .RF h
end L2
set_option Elab.async false
set_option maxRecDepth 100000
set_option maxHeartbeats 4000000
namespace RA
open L2
end RA
namespace L2
open PySem.Spec PyProof.Rows
abbrev E9 QD6:It:=(λi _=>i<x.β,λi H v H'=>H'=H/\∃c,x.V4[i]?=δ c/\v=.Qn ⟨#[c]⟩,λi _=>x.β≤i)
def pN QCI QD6 QHd QP8:gp P w K L (E9 x) [it] it (λi h=>h.IsStrIter it "str_ascii_iterator" x t i)  where
 mem:=by simp
 YQ:=λi h st b g=>by
  let e:b=it:=by simpa using g
  subst e;let⟨o,e,c,d⟩:=st;show(o,e,λv z=>by rw[d]at z;cases z)
 UF:=λi h h' st k=>by
  let⟨o,e,r⟩:=st;show QSo
 YW:=by
  intro X m hw n C i a s B H E I l st f;subst m hw n;let f:i<x.V4.Qw:=f;let⟨A,y,F,u,q,p⟩:=l it (!1);refine wpAny_pyNext_ascii_item st (c:=x.V4[i]) (by simp[f]) λh' j D=>?_;let J:g_ X a B H {s with π:=h',Qs:=s.Qs+1}:=I.TC (t':=s.Qs+1) QKv A y u q p;let⟨o,e,c,d⟩:=id j;show(0,eM (s:={s with π:=h',Qs:=s.Qs+1}) e c d (!0) (.Qn ⟨#[x.V4[i]]⟩,H,J,QAy,(1,_,by simp[f],1),j,λb g=>(l b g).1))
 done:=by
  intro X m hw n C i a s B H E I l st f;subst m hw n;let f:x.V4.Qw≤i:=f;let⟨A,y,F,u,q,p⟩:=l it (!1);show wpAny_pyNext_ascii_end QQL st (by simp[f]) λh' G=>(1,I.TC (t':=s.Qs) QNx A y u q p)
 self:=λ_ _ _ _ _ st h=>wpAny_pyIter_striter_ascii st h
def pM QCI QD6 QHd QP8:gp P w K L (E9 x) [it] it (λi h=>h.IsStrIter it "str_iterator" x t i)  where
 mem:=by simp
 YQ:=λi h st b g=>by
  let e:b=it:=by simpa using g
  subst e;let⟨o,e,c,d⟩:=st;show(o,e,λv z=>by rw[d]at z;cases z)
 UF:=λi h h' st k=>by
  let⟨o,e,r⟩:=st;show QSo
 YW:=by
  intro X m hw n C i a s B H E I l st f;subst m hw n;let f:i<x.V4.Qw:=f;let⟨A,y,F,u,q,p⟩:=l it (!1);refine wpAny_pyNext_wide_item st (c:=x.V4[i]) (by simp[f]) λh' j D=>?_;let J:g_ X a B H {s with π:=h',Qs:=s.Qs+1}:=I.TC (t':=s.Qs+1) QKv A y u q p;let⟨o,e,c,d⟩:=id j;show(0,eM (s:={s with π:=h',Qs:=s.Qs+1}) e c d (!0) (.Qn ⟨#[x.V4[i]]⟩,H,J,QAy,(1,_,by simp[f],1),j,λb g=>(l b g).1))
 done:=by
  intro X m hw n C i a s B H E I l st f;subst m hw n;let f:x.V4.Qw≤i:=f;let⟨A,y,F,u,q,p⟩:=l it (!1);show wpAny_pyNext_wide_end QQL st (by simp[f]) λh' G=>(1,I.TC (t':=s.Qs) QNx A y u q p)
 self:=λ_ _ _ _ _ st h=>wpAny_pyIter_striter_wide st h
inductive Op QA1(v:V)QCi:Prop
 |mk (x:_) (_:v=.Qn x) (_:R (E9 x) H1)
abbrev zM(tl:TE):TI:=λσ H R=>tl σ H (Op R)
def Bg(r:PE X l m):PI X u l (zM m):=by
 intro d s k H R I h;refine oh (r d s k H _ I h) λv a g=>?_;let⟨y,j,c,n,p⟩:=g;let⟨x,ε,q⟩:=p;let⟨t,ε⟩:=n;cases i:x.V4.Tk QJ2
 .refine wpAny_pyIter_wide i ?_;refine(a⁻¹,[a⁻¹],7,j,1,c.WE (t':=a.Qs) λb o e=>ol _ e,pM x t _,QBB,λb f=>?_,q);let e:b=a⁻¹:=by simpa using f
  subst e;show c.fpOk Zs (c.S7.SW Zs)
 .refine wpAny_pyIter_ascii i ?_;refine(a⁻¹,[a⁻¹],7,j,1,c.WE (t':=a.Qs) λb o e=>ol _ e,pN x t _,QBB,λb f=>?_,q);let e:b=a⁻¹:=by simpa using f
  subst e;show c.fpOk Zs (c.S7.SW Zs)
def oX{g:TG}{k:TS}QTn QP9(t:f 0 a H)(o:∀i c a H,x.V4[i]?<*c->f i a H->g QFg a H λb j=>k {D with nx:=f (i+1),ct:=f (i+1),bk:=D.nx} b j)(r:∀a H,f x.β a H->D.nx a H):∃W:υ->υ->St->Hp->Prop,QFd/\∀i m a H,W i m a H->
   ((E9 x).Wb i H/\D.nx a H)\/((E9 x).go i H/\∃N:St->Hp->Prop,(∀d H',N d H'->∃l,l<m/\W (i+1) l d H')/\∀y H',(E9 x).yld i H y H'->g y a H' λb j=>k {D with nx:=N,ct:=N,bk:=D.nx} b j):=by
 refine(λi m a H=>m=x.β-i/\i≤x.β/\f i a H,(x.β,!1,RP _,t),3);rintro i m a H⟨rfl,v,p⟩;by_cases h:i<x.β
 .refine .RF (h,f (i+1),λd H' n=>(x.β-(i+1),Eo h,1,h,n),λy H' q=>?_);let⟨e,c,s,u⟩:=q;subst e u;show o i c a _ s p
 .let e:i=x.β:=D9 h v
  subst e;show .RB (QD _,r a H p)
section
variable{X:Cx}
inductive rSlS(x:V)QUO(hi:χ ψ)ZC ZV:Prop
 |mk (z:_) QSP (_:z.β≤Λ) (_:Q (.Qn (VR.YR z lo hi)) H)
def sf:Kl X rSlS:=by
 intro b s g H x v vl vu lo p r Q I m n pl f h;let⟨z,ε,hz,q⟩:=h;let⟨t,ε⟩:=m;refine("str",_,Ξ.F.W4.ρ,Yf _ _ _,3);let a:∀t' k,EP X b g Q (.Qn (VR.YR z lo p) t') {s with Qs:=k}:=λt' k=>(.Qn _,H,I.X0 k,(t',1),q);let⟨o,c,e,d⟩:=n;cases pl with
 |ζ=>
  cases f with
  |ζ=>show VE (l:=ζ) (u:=ζ) (st:=ζ) QOc ε QAd
  |QB j uj=>show VE (l:=ζ) (u:=δ (j,uj,)) (st:=ζ) QOc ε QAd
 |QB i ui=>
  cases f with
  |ζ=>show VE (l:=δ (i,ui,)) (u:=ζ) (st:=ζ) QOc ε QAd
  |QB j uj=>show VE (l:=δ (i,ui,)) (u:=δ (j,uj,)) (st:=ζ) QOc ε QAd
def xl:HM X "str.find" (λx xs H Q=>∃z y,x=.Qn z/\xs=[.Qn y]/\Q (.QB (VR.find z y)) H):=by
 intro a s c H x xs v us Q I b rs h;let⟨z,y,ε,ε,q⟩:=h;let⟨t,ε⟩:=b;let⟨u,ε,t',ε⟩:=B7 rs;show SC.find QB6
def t9:HM X "str.count" (λx xs H Q=>∃z y,x=.Qn z/\xs=[.Qn y]/\Q (.QB (VR.count z y)) H):=by
 intro a s c H x xs v us Q I b rs h;let⟨z,y,ε,ε,q⟩:=h;let⟨t,ε⟩:=b;let⟨u,ε,t',ε⟩:=B7 rs;show SC.count QB6
def c9:∀{ys:γ QL}QBq,ae (ys.QY V.Qn) us->StrsAre us ys
 |[],_,r=>by cases r;show .Tw
 |y::ys,_,r=>by
  cases r with
  |Rx a b=>
   let⟨t,ε⟩:=a;show .Rx y t (c9 b)
inductive Oq ZZ(x:V)QBI ZC ZV:Prop
 |mk (z p ys:_) QSP (_:xs=[.ν p]) (_:lb K H p (ys.QY V.Qn)) (_:(ys.QY (·.β)).sum+ys.β*z.β≤16777216) (_:Q (.Qn (VR.join z ys)) H)
def xk:HM X "str.join" (Oq X.K):=by
 intro a s d H x xs v us Q I b rs h;let⟨z,p,ys,ε,ε,hp,hz,q⟩:=h;let⟨t,ε⟩:=b;let⟨u,ε,e⟩:=B7 rs;cases e;let⟨Rc,c,pl,_⟩:=I.U0 hp;show join_list pl.UZ (by simpa using c9 c) hz λt' k=>(.Qn _,H,I.X0 k,(t',1),q)
def gJ:Ad X (Sv .LtE) (λx y H Q=>∃i j,x=.Qn i/\y=.Qn j/\Q (.bl (!decide (j.V4.Qq<i.V4.Qq))) H):=by
 intro a s d H x y v u Q I c b h;let⟨i,j,ε,ε,q⟩:=h;let⟨t,ε⟩:=c;let⟨t',ε⟩:=b;show Ξ.P.le_str (.bl _,H,I,1,q)
def NB:B6 X (.Qu "isinstance") (λxs H Q=>∃x t,xs=[x,.ty T]/\ak X.K H x t/\UJ X.K t (.QH T)=δ b/\Q QIw H):=by
 intro a s g H xs us Q I r h;let⟨x,t,ε,ty,e,q⟩:=h;let⟨u,i,ε,f,d⟩:=b8 r;cases d;show gZ I f ty e λc=>(.bl b,H,I.X0 c,1,q)
end
abbrev l_ QC9 QD6 QJO(cl:γ QAM)QEZ QSf QBP ZC:Cx where
 BT:=X.BT
 w:=X.w
 K:=X.K
 mg:=X.mg
 ς:=X.ς
 A:=X.A
 N:=x::X.N
 U3:=s
 H₀:=H
 QA:=compEnvC sc cl C X.QA
 Id:=X.RG
 RG:=X.RG
 ex:=fp
 fn:=λ_=>μ
 Wm:=X.Wm
 pn:=[]
 xe:=λ_ _=>Rl
abbrev FE QC9(ifs:γ SF)(t:TT):Prop:=
 ∀ZJ QBP QBR ZC QDL,g_ X QF σ H s->t σ H Q->
  Cl Y9 X.A (forIn ifs ο λc r=>if r=ο then do let ok <-isTrue c X.QA (SR c X.QA);pure (Xi.yield ok)else pure QOd) QLo X.xe s
abbrev Yg:TT:=λ_ H Q=>Q ο H
def hG{A B:Hp->Prop}(h:A H):Yg c H (λb a=>if b=ο then A a else B a):=ay (A:=A H) (B:=B H) h
def AZ:FE X [] Yg:=λ_ _ _ H _ I h=>wpAny_tests_nil (H,I,h)
def iH(h:PT X c t):FE X [c] t:=λa s b H Q I hw=>wpAny_tests_one (h a s b H Q I hw)
abbrev Ds(wi:TI)(tt:TT)QNq:TE:=λσ H Q=>wi σ H λJ H1=>∀D,H1 D=ζ->∃W:υ->υ->γ V->Hp->Prop,
 (∃m,W 0 m [] (QO H1 D (.QM [])))/\∀i m ys H2,W i m ys H2->H2 D=δ (.QM ys)/\((J.Wb i H2/\Q (.ν D) H2)\/(J.go i H2/\ys.β<Λ/\∀x H3,J.yld i H2 x H3->
  tt (δ x::σ) H3 λb H4=>if b=ο then te (δ x::σ) H4 λy H5=>H5 D=δ QAk/\∃m',m'<m/\W (i+1) m' QAv (QO H5 D ZM)
   else ∃m',m'<m/\W (i+1) m' ys H4))
def Km Zl(h:a≠b):(show θ from a)≠(show θ from b):=h
def fb(z:∀y∈sc.QI,y.2=.SA->∃c,QA.UO.ρ y.1<*c):∃f,closureFor sc QA=pure f/\(∀y c,f.ρ y<*c->QA.UO.ρ y<*c)/\∀y∈sc.QI,y.2=.SA->∃c,f.ρ y.1<*c:=by
 let B:∀(l:γ (QL×Ud))(b:γ QAM),(∀y∈l,y.2=.SA->∃c,QA.UO.ρ y.1<*c)->(∀y c,b.ρ y<*c->QA.UO.ρ y<*c)->
   ∃f,(forIn l b λ(p:QL×Ud)r=>if (p.2==.SA)=ο then do let a <-cellOf QA p.1;pure QNy else pure QOd:Sem (γ QAM))=pure f/\
    (∀y c,f.ρ y<*c->QA.UO.ρ y<*c)/\(∀y c,b.ρ y<*c->∃g,f.ρ y<*g)/\∀y∈l,y.2=.SA->∃c,f.ρ y.1<*c:=by
  intro l;induction l with
  |Tw=>intro b _ o;show(b,1,o,λy c e=>(c,e),λy d=>by simp at d)
  |Rx p r w=>
   intro b t o;let⟨n,k⟩:=p;by_cases u:k=.SA
   .subst u;let⟨c,x⟩:=t (n,.SA,) Rh ε;let C:cellOf QA n=pure c:=by unfold cellOf;rw[x]
    let v:∀y g,((n,c,)::b).ρ y<*g->QA.UO.ρ y<*g:=λy g e=>by
     by_cases d:(y==n)=ο
     .rw [TY,d]at e;cases e;rw[WU d];show x
     .rw [TY,Ω.Yw.Sj d]at e;show o y g e
    let⟨f,h1,h2,q,m⟩:=w ((n,c,)::b) QOe v;let j:∀y g,b.ρ y<*g->∃i,((n,c,)::b).ρ y<*i:=λy g e=>by
     by_cases d:(y==n)=ο
     .exact (c,by rw[TY,d])
     .exact (g,by rw[TY,Ω.Yw.Sj d];show e)
    refine(f,3,h2,λy g e=>?_,λy d h=>?_)
    .rw [U8];simp only[T_,if_true,C,pure_bind];show h1
    .obtain ⟨i,e'⟩:=j y g e;show q y i e'
    .rcases QW.mp d with ε|d
     .exact q n c (by rw[TY,T_])
     .exact m y d h
   .let A:(k==Ud.SA)=μ:=by simpa using u
    let⟨f,h1,h2,q,m⟩:=w b QOe o;refine(f,3,h2,q,λy d h=>?_)
    .rw [U8];simp only[A,Ω.YN,Xr,pure_bind];show h1
    .rcases QW.mp d with ε|d
     .exact QG h u
     .exact m y d h
 let⟨f,h1,h2,_,m⟩:=B sc.QI [] z (λy c e=>by simp at e);refine(f,3,h2,m);change ((forIn sc.QI [] λ(p:QL×Ud)r=>if (p.2==.SA)=ο then do let a <-cellOf QA p.1;pure QNy else pure QOd:Sem (γ QAM))>>=λs=>pure s)=pure f;rw[bind_pure,h1]
def ux(h:(Yj sc QA).QI.ρ y<*k):sc.QI.ρ y<*k\/(k=.R9/\sc.QI.ρ y=δ .SA/\QA.Sh y<*.R9):=by
 let f:∀(l:γ (QL×Ud)),(l.QY λ(n,k)=>if (k==.SA&&QA.Qy.Uz==.UL&&QA.Sh n==δ .R9)then(n,Ud.R9,)else(n,k,)).ρ y<*k->
   l.ρ y<*k\/(k=.R9/\l.ρ y=δ .SA/\QA.Sh y<*.R9):=by
  intro l;induction l with
  |Tw=>intro h;simp at h
  |Rx p r d=>
   let⟨n,c⟩:=p;intro h;simp only[Tq]at h;by_cases b:(c==Ud.SA&&QA.Qy.Uz==.UL&&QA.Sh n==δ .R9)=ο
   .rw [QC b]at h;rw[TY]at h⊢;cases a:y==n with
    |ο=>
     rw[a]at h;let e:k=.R9:=(χ.δ.Tx h).QU;let i:c=.SA:=by
      have:=(Ω.and_eq_true_iff.mp (Ω.and_eq_true_iff.mp b).1).1;simpa using this
     let g:QA.Sh n<*.R9:=by
      have:=(Ω.and_eq_true_iff.mp b).2;simpa using this
     rw[WU a];show .RF (e,by rw[i],g)
    |μ=>
     rw[a]at h;show d h
   .rw [Fr b]at h;rw[TY]at h⊢;cases a:y==n with
    |ο=>rw[a]at h;show .RB h
    |μ=>rw[a]at h;show d h
 show f sc.QI h
section
variable{X:Cx}{elt UG:SF}{x:QL}{px RX:T6}{ifs:γ SF}{sc:TB}{wi:TI}{tt:TT}{te:TE}
end
def lb.new QCI QML(n:H D=ζ):lb K (QO H D o) a xs:=by
 rcases h with(h|⟨u,h⟩)|h
 .exact .RB (.RB (by rw[b_ (f' h n)];show h))
 .exact .RB (.RF (u,by rw[b_ (f' h n)];show h))
 .exact .RF h
def qY QCI{l:TE}{h:St}QTa(f:V->V)(t:lb K H a xs)QGp(u:∀Zi(x:V)QAe(R:VK),xs[i]?<*x->a_ H H'->R (f x) H'->l (δ x::h) H' R)(s:∀D,H D=ζ->Q Z5 QMb):∀D,H D=ζ->∃W:υ->υ->γ V->Hp->Prop,
 (∃m,W 0 m [] (QO H D (.QM [])))/\∀i m ys c,W i m ys c->c D=δ (.QM ys)/\(((Fy K a).Wb i c/\Q (.ν D) c)\/((Fy K a).go i c/\ys.β<Λ/\∀x k,(Fy K a).yld i c x k->
  Yg (δ x::h) k λb r=>if b=ο then l (δ x::h) r λy p=>p D=δ QAk/\∃d,d<m/\W (i+1) d QAv (QO p D ZM)
   else ∃d,d<m/\W (i+1) d ys r)):=by
 intro D j;refine(λi m ys c=>m=xs.β-i/\i≤xs.β/\ys=(xs.Rp i).QY f/\c=QO H D QAk,(xs.β,!1,RP _,!1,1),3);rintro i m ys c⟨rfl,v,ε,ε⟩;let q:lb K (QO H D (.QM ((xs.Rp i).QY f))) a xs:=t.new j;refine(SO,3);by_cases g:i<xs.β
 .refine .RF ((xs,xs[i],q,by simp[g]),by rw[j',S6];lia,λx k y=>?_);let⟨e,y⟩:=y;subst e;let n:=y xs q;refine hG (u i x _ _ n (λb o e=>by rw[b_ (f' e j)];show e) (SO,xs.β-(i+1),Eo g,1,g,3,3))
  .rw [Vu,n,Q2];rfl
  .rw [Jn]
 .let e:i=xs.β:=D9 g v
  subst e;refine .RB ((xs,q,QD _),3);rw[Uh];show s D j
def nF{tt:TT}{h:St}QTa(p:υ->Ω)(hz:x.β≤Λ)(o:∀Zi QMM QAe(R:Ω->Hp->Prop),x.V4[i]?<*c->R (p c) H'->tt (δ QFg::h) H' R)(r:∀D,H D=ζ->Q Z5 QDe):∀D,H D=ζ->∃W:υ->υ->γ V->Hp->Prop,
 (∃m,W 0 m [] (QO H D (.QM [])))/\∀i m ys a,W i m ys a->a D=δ (.QM ys)/\(((E9 x).Wb i a/\Q (.ν D) a)\/((E9 x).go i a/\ys.β<Λ/\∀y j,(E9 x).yld i a y j->
  tt (δ y::h) j λb n=>if b=ο then bw 0 (δ y::h) n λz l=>l D=δ QAk/\∃f,f<m/\W (i+1) f (ys++[z]) (QO l D (.QM (ys++[z])))
   else ∃f,f<m/\W (i+1) f ys n)):=by
 intro D s;refine(λi m ys a=>m=x.β-i/\i≤x.β/\ys=((x.V4.Qq.Rp i).VF p).QY (λc=>V.Qn ⟨#[c]⟩)/\a=QO H D QAk,(x.β,!1,RP _,!1,1),3);rintro i m ys a⟨rfl,u,ε,ε⟩;refine(SO,3);by_cases d:i<x.β
 .refine .RF (d,3,λy j q=>?_)
  .rw [j'];have:=γ.length_filter_le p (x.V4.Qq.Rp i);rw[S6]at this;lia
  .obtain ⟨e,c,k,t⟩:=q;subst e t;let g:x.V4.Qq[i]?<*c:=by simpa using k
   refine o i c _ _ k ?_;cases hp:p c with
   |ο=>
    refine ay (0,SO,x.β-(i+1),Eo d,1,d,3,3)
    .rw [Vu,g,γ.filter_append,Q2];simp[hp]
    .rw [Jn]
   |μ=>
    refine ai (x.β-(i+1),Eo d,1,d,3,1);rw[Vu,g,γ.filter_append,Q2];simp[hp]
 .let e:i=x.β:=D9 d u
  subst e;refine .RB (QD _,3);rw[show x.β=x.V4.Qq.β by simp[QL.β],Uh];show r D s
def nG QCI{b:St}(f:V->V)(e:b[j]?<*δ ZW)(c:lb K H a xs)QGp(h:∀Zi(x:V)QAe(R:VK),xs[i]?<*x->a_ H H'->R (f x) H'->d (δ x::b) H' R)(g:∀D,H D=ζ->Q Z5 QMb):Ds (yk K (bw j)) Yg d b H Q:=
 (_,e,a,1,(_,c),qY f c hz h g)
def lq{a:St}(p:υ->Ω)(b:a[j]?<*δ QHL)(hz:x.β≤Λ)(d:∀Zi QMM QAe(R:Ω->Hp->Prop),x.V4[i]?<*c->R (p c) H'->tt (δ QFg::a) H' R)(e:∀D,H D=ζ->Q Z5 QDe):Ds (zM (bw j)) tt (bw 0) a H Q:=(_,b,x,1,nF p hz d e)
abbrev Df QKa Z' ZZ Z3 QMv QD6 QKb QE1 QNw:Prop:=
 ∃(f:θ)(fd:TQ),mg x=δ Ze/\V3 K Ze=ο/\ym K fd ps []/\aa P w K mg ς na k f fd ps sp
def ry QFH(D:Df X.BT X.w X.K X.mg X.ς x k ps sp)(d:am k X.A)QTt(g:Gl X x>>>4)(c:((x==("__debug__":QL))=μ)>>>0)(h:QDW>>>4)QGq:PE X QNz (BM sp [] E0 t):=by
 let⟨f,fd,h1,h2,j,F⟩:=D;show oq F d g h1 h2 j .Tw BV i c h b
def ao QIp[Decidable c](a:c)(h:A):if decide c=ο then A else B:=by
 rw[Qr a];show ay h
def ac QIp[Decidable c](a:¬ c)(h:B):if decide c=ο then A else B:=by
 rw[QN a];show ai h
def aO QIp[Decidable c](h1:c->A)(h2:¬ c->B):if decide c=ο then A else B:=by
 by_cases h:c
 .exact ao h (h1 h)
 .exact ac h (h2 h)
def a_.QO(n:H D=ζ):a_ H (QO H D o):=λb u e=>by rw[b_ (f' e n)];show e
def nt(h:n≤16777216):n≤Λ:=by rw[Sw];show h
def ju{xs:γ c}{i:ψ}(b:0≤i)(h1:i<xs.β):∃v,Am xs i=δ v/\xs[i.RW]?<*v:=by
 let⟨j,ε⟩:=ψ.eq_ofNat_of_zero_le b;let a:j<xs.β:=IN h1
 show(xs[j],Av (by simp[a]),by simp[a])
abbrev LC(t u:TS):TS:=λD σ H=>∃M:St->Hp->Prop,t {D with nx:=M} σ H/\∀σ' H',M σ' H'->u D σ' H'
def EA{st:Rb}QOB(h2:Bk X XQ u):Bk X (st::XQ) (LC t u):=by
 intro a s c H D I h;let⟨M,h,e⟩:=h;refine Wx (oh (h1 a s c H {D with nx:=M} I h) λf d q=>?_);cases f with
 |next=>
  let⟨b,H',g,q⟩:=q;show h2 a d b H' D g (e b H' q)
 |ret v=>show q
 |brk=>show q
 |X5=>show q
abbrev gn QFA QKJ:γ ψ:=(ns.Uq (HT.Wa ns.β 0 lo)).Rp (HT.Wa ns.β ns.β hi-HT.Wa ns.β 0 lo)
def qV QFA QUN:Af QAo lo a=(gn ns lo a).QY V.QB:=by
 unfold Af gn;rw[j',γ.map_take,γ.map_drop]
def NC QFA QUN:(gn ns lo a).β≤ns.β:=by
 unfold gn;rw[S6,WM];show Nm
section
variable{X:Cx}
def Ju:Ad X (Uc .Mod) QHm:=bR
def Hd:Ad X (Uc .FloorDiv) (rI (λ_ j=>0<j/\j<1073741824) λi j=>.QB (i/j)):=iX
def AU:Ad X QOT QOU:=mL
def qi:Ad X (Uc .Sub) QOV:=zm
def LD:Ad X (Uc .Mult) (rI (λi j=>(-(2^64)<i/\i<2^64)\/QP') λi j=>.QB (i*j)):=zo
end
section
variable{X:Cx}
def E_:Ad X (Uc .Mod) (λx y H Q=>∃i j,x=.QB i/\y=.QB j/\0<j/\∀r,0≤r->r<j->Q (.QB r) H):=by
 intro a s c H x y v u Q I e d h;let⟨i,j,g,f,b,q⟩:=h;show bR a s c H x y v u Q I e d (i,j,g,f,b,q _ (ψ.YE _ (G3 b)) (ψ.Xv _ b))
end
def yl QRF(n:H b=ζ):QO H b u a<*o:=by
 rw[b_ (f' h n)];show h
def q5 QRF(n:H b<*v)(d:o≠v):QO H b u a<*o:=by
 rw[b_ (n7 h n d)];show h
def m9 ZZ:UJ K (.QH "int") (.QH "bool")<*μ:=by kernel_rfl
def m7 ZZ:UJ K (.QH "int") (.QH "int")<*ο:=by with_unfolding_all rfl
def He ZZ:UJ K (.QH "bool") (.QH "bool")<*ο:=by with_unfolding_all rfl
def Db ZZ:UJ K (.QH "str") (.QH "str")<*ο:=by with_unfolding_all rfl
section
variable{X:Cx}
end
end L2
namespace L2
inductive E2{a0 a1:Type}(p:a0->a1->Prop):Prop
 |mk QTb QTc (h:p x0 x1)
inductive E3{a0 a1 a2:Type}(p:a0->a1->a2->Prop):Prop
 |mk QTb QTc (x2:a2) (h:p x0 x1 x2)
inductive E4{a0 a1 a2 a3:Type}(p:a0->a1->a2->a3->Prop):Prop
 |mk QTb QTc (x2:a2) (x3:a3) (h:p x0 x1 x2 x3)
inductive E5{a0 a1 a2 a3 a4:Type}(p:a0->a1->a2->a3->a4->Prop):Prop
 |mk QTb QTc (x2:a2) (x3:a3) (x4:a4) (h:p x0 x1 x2 x3 x4)
inductive E6{a0 a1 a2 a3 a4 a5:Type}(p:a0->a1->a2->a3->a4->a5->Prop):Prop
 |mk QTb QTc (x2:a2) (x3:a3) (x4:a4) (x5:a5) (h:p x0 x1 x2 x3 x4 x5)
inductive A3(a0 a1 a2:Prop):Prop
 |mk QSQ QSR QSS
inductive A4(a0 a1 a2 a3:Prop):Prop
 |mk QSQ QSR QSS (_:a3)
inductive A5(a0 a1 a2 a3 a4:Prop):Prop
 |mk QSQ QSR QSS (_:a3) (_:a4)
inductive A6(a0 a1 a2 a3 a4 a5:Prop):Prop
 |mk QSQ QSR QSS (_:a3) (_:a4) (_:a5)
inductive A7(a0 a1 a2 a3 a4 a5 a6:Prop):Prop
 |mk QSQ QSR QSS (_:a3) (_:a4) (_:a5) (_:a6)
inductive A8(a0 a1 a2 a3 a4 a5 a6 a7:Prop):Prop
 |mk QSQ QSR QSS (_:a3) (_:a4) (_:a5) (_:a6) (_:a7)
inductive A9(a0 a1 a2 a3 a4 a5 a6 a7 a8:Prop):Prop
 |mk QSQ QSR QSS (_:a3) (_:a4) (_:a5) (_:a6) (_:a7) (_:a8)
def zL QE'(a:0≤k)(h1:k<(n:ψ)):DN n k<*k.RW:=by
 unfold DN;simp[a,h1]
end L2
namespace RA
end RA
namespace RA
open PySem.StrLaws Builtin Builtin.Str
abbrev tx QGk:QL:=⟨l.Θ⟩
def Da QGk:(tx l).V4.Qq=l:=by simp[tx]
def hF QGk:(tx l).β=l.β:=by simp[tx,QL.β]
def CN(a b:LN):tx a++tx b=tx (a++b):=by
 apply QL.ext';change a.Θ++b.Θ=(a++b).Θ;simp
def rL(h:tx a=tx b):a=b:=by
 have:=R7 (λs:QL=>s.V4.Qq) h;simpa[tx]using this
def B8 QGk Zi:(tx l).V4[i]?=l[i]?:=by simp[tx]
def Bh QGk(c i:υ):At QDq ⟨#[c]⟩ (tx l).β i↔l[i]?<*c:=by
 let h:=subAt_one QDq c i;rw[Da]at h;show h
def ND QGk QMM:VR.RO QDq ⟨#[c]⟩=decide (c∈l):=by
 let h:=found_one QDq c;rw[Da]at h;show h
def eG:∀{l:LN}{c i:υ},l[i]?<*c->l.QJ c≤i
 |[],_,_,h=>by simp at h
 |a::l,c,0,h=>by
  let e:a=c:=by simpa using h
  subst e;simp
 |a::l,c,i+1,h=>by
  rw[Yq];cases e:a==c with
  |ο=>simp
  |μ=>
   have:=eG (l:=l) (c:=c) (i:=i) QB';simp;omega
def vd(h:c∈l):VR.find QDq ⟨#[c]⟩=(l.QJ c:υ):=by
 unfold VR.find;rcases occ_head QDq ⟨#[c]⟩ 1 Zs with⟨_,b⟩|⟨i,r,e,f,b⟩
 .obtain ⟨i,d⟩:=RQ.mp h;show QG ((Bh l c i).Sj d) (b i)
 .rw [e];let d:=(Bh l c i).mp f;let a:l.QJ c<l.β:=QE h;let g:l[l.QJ c]?<*c:=by
   rw[h_ a,SE a]
  let h1:¬ l.QJ c<i:=λz=>b _ z QIz;let h2:l.QJ c≤i:=by
   show eG d
  have:i=l.QJ c:=by lia
  rw[this]
def se QD6(h:0≤j):VR.YR x ζ QRT=tx QSp:=by
 let c:∀j:ψ,0≤j->j≤x.V4.Qq.β->VR.YR x ζ QRT=tx QSp:=λj g h1=>by
  let e:VR.YR x ζ QRT=sliceText x ζ QRT:=ε;rw[e,sliceText_to (g,h1)];simp[tx]
 by_cases f:j≤x.V4.Qq.β
 .exact c j h f
 .let e:VR.YR x ζ QRT=VR.YR x ζ (δ (x.β:ψ)):=by
   let d:x.β=x.V4.Qq.β:=by simp[QL.β]
   let k:Y5 ζ QRT 1 x.β=Y5 ζ (δ (x.β:ψ)) 1 x.β:=by
    let a:¬ (j<0):=G5 h
    let b:¬ ((x.β:ψ)<0):=G0
    let m:min j (x.β:ψ)=(x.β:ψ):=by lia
    simp[Y5,a,b,m]
   unfold VR.YR;rw[k]
  rw[e,c _ CY (by simp[QL.β])];let d:x.β=x.V4.Qq.β:=by simp[QL.β]
  rw[RI (i:=j.RW) (!6),RI (!6)]
def mo QD6{i:ψ}(h:0≤i)(h1:i≤x.V4.Qq.β):VR.YR x (δ i) ζ=tx (x.V4.Qq.Uq i.RW):=by
 let e:VR.YR x (δ i) ζ=sliceText x (δ i) ζ:=ε;rw[e,sliceText_from (h,h1)];let a:((x.V4.Qq.β:ψ)-i).RW=(x.V4.Qq.Uq i.RW).β:=by rw[WM];lia
 rw[a,Uh];rfl
def d9:∀cs:LN,VR.join QL.WW QKL=tx cs:=by
 intro cs;unfold VR.join;rw[glued_eq_join];let e:∀(cs:LN),QL.join QL.WW QKL=tx cs:=by
  intro cs;induction cs with
  |Tw=>rfl
  |Rx a r d=>
   cases r with
   |Tw=>rfl
   |Rx b r=>
    change (⟨#[a]⟩:QL)++QL.WW++QL.join QL.WW ((b::r).QY λc=>(⟨#[c]⟩:QL))=tx (a::b::r);rw[d,QL.append_empty];show CN [a] (b::r)
 show e cs
def uo(a b:υ):(!decide ((⟨#[b]⟩:QL).V4.Qq<(⟨#[a]⟩:QL).V4.Qq))=decide (a≤b):=by
 change (!decide ([b]<[a]))=decide (a≤b);rw[lt_cons_cons,lt_nil_nil,Ω.and_false,Ω.T8];by_cases h:a≤b
 .rw [QN (IV h),Qr h];rfl
 .rw [Qr (!6),QN h];rfl
def lp QGk QMM:∀(b:LN)(a f:υ),ChainG QDq ⟨#[c]⟩ (tx l).β a b f->(∀k,f≤k->¬ At QDq ⟨#[c]⟩ (tx l).β k)->(l.Uq a).count c=b.β:=by
 intro b;induction b with
 |Tw=>
  intro a f h j;let e:f=a:=h;subst e;rw[γ.length_nil,γ.count_eq_zero];intro m;let⟨i,g⟩:=RQ.mp m;rw[γ.getElem?_drop]at g;show j _ QKM QIz
 |Rx d r o=>
  intro a f h j;let⟨h1,h2,u,t⟩:=h;let s:=(Bh l c d).mp h2;let q:=o (d+1) f t j;let⟨n,v⟩:=m8 s;let split:l.Uq a=(l.Uq a).Rp (d-a)++c::l.Uq (d+1):=by
   conv=>lhs;rw[<-Vt (d-a) (l.Uq a)]
   rw[γ.drop_drop,show a+(d-a)=d from Iu h1,γ.drop_eq_getElem_cons n,v]
  rw[split,γ.count_append,γ.count_cons_self,q,Rz];let z:((l.Uq a).Rp (d-a)).count c=0:=by
   rw[γ.count_eq_zero];intro m;let⟨i,g⟩:=RQ.mp m;rw[γ.YL]at g;split at g
   .rename_i p;rw[γ.getElem?_drop]at g;show u (a+i) QKM (!6) QIz
   .cases g
  lia
def DP QGk QMM:VR.count QDq ⟨#[c]⟩=(l.count c:υ):=by
 unfold VR.count;let⟨f,h1,h2⟩:=occ_tight QDq ⟨#[c]⟩ (by simp[QL.β]);let q:=lp l c _ 0 f h1 h2;rw[γ.drop_zero]at q;rw[q]
structure BL Zp:Prop where
 lo:1≤L.β
 hi:L.β≤3
 nd:L.Rq
 az:∀c∈L,97≤c/\c≤122
def HN QRU(b:L.Rq)(h:i<L.β):L.QJ L[i]=i:=by
 let h1:=eG (l:=L) (c:=L[i]) (i:=i) (by simp[h]);let a:L.QJ L[i]<L.β:=Fn h h1
 let e:=SE a;by_cases d:L.QJ L[i]<i
 .exact QG e (γ.pairwise_iff_getElem.mp b _ _ a h d)
 .exact D9 d h1
def vk{f l:LN}(b:i<l.β)(a:(f++l).Rq):(QQM++QDr).Rq/\∀c,c∈QQM++QDr->c∈f++l:=by
 let e:l=l.Rp i++l[i]::l.Uq (i+1):=by
  conv=>lhs;rw[<-Vt i l,γ.drop_eq_getElem_cons b]
 let p:(f++l).Perm (QQM++QDr):=by
  conv=>lhs;rw[e]
  rw[Tt];refine Perm.append_left f ?_;change (l.Rp i++l[i]::l.Uq (i+1)).Perm (l[i]::QDr);show γ.perm_middle
 show(p.nodup_iff.mp a,λc d=>p.mem_iff.Sj d)
end RA
namespace RA
open L2
def Os:(QL.S5 "abcdefghijklmnopqrstuvwxyz")=tx (γ.range' 97 26):=by decide +kernel
def eX:(QL.S5 "")=tx []:=by decide +kernel
def ic:(QL.S5 "")=QL.WW:=by decide +kernel
abbrev bH Zp(z:ψ):υ:=L.Φ (z%(L.β:ψ)).RW 0
abbrev si Zp:V->V
 |.QB z=>.Qn ⟨#[bH L z]⟩
 |v=>v
def gG Zp(z:ψ):bH L z=(L[(z%(L.β:ψ)).RW]?).Φ 0:=by
 unfold bH;rw[n0]
def sg(h:BL L)QOb(b:c∈ns.QY (bH L)):c∈L:=by
 let⟨z,_,ε⟩:=Su.mp b;let hp:(0:ψ)<(L.β:ψ):=by have:=h.lo;show GY this
 let d:=ψ.YE z (show(L.β:ψ)≠0 from F9 hp);let h1:=ψ.Xv z hp;let a:(z%(L.β:ψ)).RW<L.β:=by lia
 rw[gG,h_ a];show RY a
end RA
namespace RA
open L2 Builtin Builtin.Str
def jP:∀cs:LN,((cs.QY λc=>(⟨#[c]⟩:QL)).QY (·.β)).sum=cs.β
 |[]=>rfl
 |_::cs=>by
  rw[Tq,Tq,γ.sum_cons,jP cs,Rz];change 1+_=_;lia
def gY(cs:LN)(h:cs.β≤16777216):((cs.QY λc=>(⟨#[c]⟩:QL)).QY (·.β)).sum+(cs.QY λc=>(⟨#[c]⟩:QL)).β*(QL.S5 "").β≤16777216:=by
 rw[jP,show(QL.S5 "").β=0 by rw[ic];rfl];omega
def LF:(QL.S5 "a")=⟨#[97]⟩:=by decide +kernel
def LG:(QL.S5 "z")=⟨#[122]⟩:=by decide +kernel
end RA
namespace RA
open L2
structure hI Zp QCF Zg:Prop where
 lt:BL L
 n1:1≤W.β
 n60:W.β≤2100
 bl:B.β=W.β
 YO:∀ws∈W,ws.β=L.β/\∀x∈ws,x<W.β
abbrev AE Zp QCF(r c:υ):υ:=(W.Φ r []).Φ QAV 0
abbrev SZ Zp QCF QPT QFZ:υ:=w.foldl (AE L W) r
def hI.at QAA QMN(e:c∈L):∃ws x,W[r]?=δ ws/\ws[L.QJ c]?=δ x/\AE L W r c=x/\x<W.β:=by
 let hw:W[r]?<*W[r]:=by simp[b]
 let⟨h1,h2⟩:=h.YO W[r] (RY b);let d:L.QJ c<W[r].β:=by rw[h1];show QE e
 let a:W[r][L.QJ c]?<*W[r][L.QJ c]:=by simp[d]
 refine(W[r],W[r][L.QJ c],hw,a,3,h2 _ (RY d));unfold AE;let f:W.Φ r []=W[r]:=by
  rw[n0,hw];rfl
 rw[f,n0,a];rfl
def Ef Zp QCF QPT QFZ QMM:SZ L W r (w++[c])=AE L W QJX c:=by
 unfold SZ;rw[γ.Yu];rfl
def B9 QRU{W:LL}QHP QAA:∀{w:LN}{r:υ},r<W.β->QAS->SZ L W r w<W.β
 |[],_,a,_=>a
 |c::w,r,a,hw=>by
  let⟨ws,x,_,_,e,b⟩:=h.at a (hw c (!1));show B9 h (w:=w) (r:=AE L W r c) (by rw[e];show b) λd f=>hw d (by simp[f])
abbrev b'(ws:LN):γ V:=ws.QY λ(n:υ)=>V.QB (n:ψ)
abbrev fu ZC QDf QCF:Prop:=∀Zi(r:θ),Ta[i]?<*r->∃ws,W[i]?=δ ws/\H r<*.RJ QM1
inductive v_ ZC QP0 Zp QCF Zg:Prop
 |mk QUP QDf QHp QTu (_:H mk<*.RJ QCm) QMo (_:fu H Ta W)
def fu.SL(h:fu H a W)QA5:fu H' a W:=λi r e=>by
 let⟨ws,h1,h2⟩:=h i r e;show(ws,h1,s _ _ h2)
def v_.SL QNm QA5:v_ H' m L W B:=by
 let⟨b,mk,a,h1,h2,e,d,c⟩:=h;show(b,mk,a,s _ _ h1,s _ _ h2,s _ _ e,d,c.SL s)
def BO{a b:Type}{xs:γ a}(f:a->b){x:a}(h:xs[i]?<*x):Am (xs.QY f) ((i:υ):ψ)<*f x:=Av (by rw[nq,h];rfl)
end RA
namespace L2
namespace RV
section
variable{BT:IO}{w:QV}{A:Qo}{E:η->ω->Prop}{s:ω}
end
end RV
namespace ZP
abbrev b7(S:γ θ)(h h':Qx):Prop:=h'.SM.Qw=h.SM.Qw/\∀c o,c∉S->h.Δ c<*o->h'.Δ c<*o
def b7.Uo(x:Th a h h')(m:a∈S):b7 S h h':=(x.1,λc o b e=>(x.2 c λq=>b (q▸m)).ξ e)
def b7.ξ(x:b7 S h h1)(y:b7 S h1 h2):b7 S h h2:=(y.1.ξ x.1,λc o a e=>y.2 c o a (x.2 c o a e))
section
variable{BT:IO}{w:QV}{A:Qo}{E:η->ω->Prop}{s:ω}{z TI TO i1 i2:θ}{f1 f2:γ θ}{n1 n2 k:υ}{P1 P2:υ->η->Prop}{S1 S2:υ->Qx->Prop}{a b:η}
def Jv{Q:η->ω->Prop}(D1:Draws BT w A i1 f1 n1 P1 S1)(Z:Draws BT w A i2 f2 n2 P2 S2)(m1:∀c∈f1,c=i1\/c∉[z,TO,i1,i2])(m2:∀c∈f2,c=i2\/c∉[z,TO,i1,i2])(d:V_ z TI TO i1 i2 TI TI)(hz:YG s.π z TI TO .ζ)(B:UQ s.π TI (.ν i1) (.ν i2))(P:UQ s.π TO a b)(h1:S1 k s.π)(h2:S2 k s.π)(l1:k<n1)(l2:k<n2)(hQ:∀x y h' tk,P1 k x->P2 k y->YG h' z TI TO (R0 s⁻¹)->UQ h' TI (.ν i1) (.ν i2)->UQ h' TO x y->S1 (k+1) h'->S2 (k+1) h'->UQ h' s⁻¹ x y->
   (∀c o,c∉[z,TO,i1,i2]->s.π.Δ c<*o->h'.Δ c<*o)->Q (.ν s⁻¹) {s with π:=h',Qs:=tk}):Cl (KK BT w) A (Builtin.«zip.__next__» ([.ν z],[])) (λR s'=>∃v,R=.done (.ret v)/\Q v s') E s:=by
 unfold Builtin.«zip.__next__»;refine f_ (SK (a:=QH7) ε (f_ (RL hz ε (x:=.T9 μ) ε (f_ (RL hz ε (x:=.ν TI) ε (f_ (Tp B ε ?_)))))));refine Ro (!1) QDM;unfold Builtin.Tv.YU;refine f_ (RL hz ε (x:=.ζ) ε (i_ (Xj (!0) (f_ (Ww (f_ (RL hz ε (x:=.ν TO) ε (f_ (VN hz (!1) λg1 z1 I=>?_)))))))));let k1:b7 [z,TO,i1,i2] s.π g1:=.Uo I (!1);let n:∀QIX{g g':Qx},QAY->S1 j g->QJY->S1 j g':=λk st e=>D1.Vy _ _ _ st λc h=>by
  rcases m1 c h with ε|O
  .exact e
  .exact λo q=>k c o O q
 let l:∀QIX{g g':Qx},QAY->S2 j g->QJZ->S2 j g':=λk st e=>Z.Vy _ _ _ st λc h=>by
  rcases m2 c h with ε|O
  .exact e
  .exact λo q=>k c o O q
 simp only[γ.zipIdx_cons,γ.zipIdx_nil,U8,WQ];refine f_ (f_ (f_ (wpAny_onRaise (f_ (m:=Builtin.Tv.nextOf QC0) (D1.YW k _ _ _ l1 (n k1.2 h1 λo e=>(I.2 i1 d.i1z).ξ e) λx g2 t2 p1 d1 D=>i_ ?_)))));let W:UQ g2 TO a b:=(D.2 TO d.TOi1).ξ ((I.2 TO d.TOz).ξ P);refine f_ (Tp W ε (f_ (wpAny_updateSeq_pair W λg3 o3 r=>f_ (wpAny_letGo (i_ (f_ (f_ (wpAny_onRaise (f_ (m:=Builtin.Tv.nextOf QD0) (Z.YW k _ _ _ l2 (l ((k1.ξ (.Uo D (!1))).ξ (.Uo r (!1))).2 h2 λo e=>?_) λy g4 t4 p2 d2 C=>i_ ?_))))))))))
 .exact (r.2 i2 d.TOi2.QU).ξ ((D.2 i2 d.i12.QU).ξ ((I.2 i2 d.i2z).ξ e))
 let U:UQ g4 TO x b:=(C.2 TO d.TOi2).ξ o3;refine f_ (Tp U ε (f_ (wpAny_updateSeq_pair U λf G p=>f_ (wpAny_letGo QGV))));replace G:UQ f TO x y:=G;let k5:b7 [z,TO,i1,i2] s.π f:=(((k1.ξ (.Uo D (!1))).ξ (.Uo r (!1))).ξ (.Uo C (!1))).ξ QJa;let T:YG f z TI TO .ellipsis:=(p.2 z d.TOz.QU).ξ ((C.2 z d.i2z.QU).ξ ((r.2 z d.TOz.QU).ξ ((D.2 z d.i1z.QU).ξ z1)));let N:S1 (k+1) f:=n (((b7.Uo (S:=[z,TO,i1,i2]) r (!1)).ξ (.Uo C (!1))).ξ QJa).2 d1 λo e=>(p.2 i1 d.TOi1.QU).ξ ((C.2 i1 d.i12).ξ ((r.2 i1 d.TOi1.QU).ξ e));let M:S2 (k+1) f:=l (b7.Uo (S:=[z,TO,i1,i2]) p (!1)).2 d2 λo e=>(p.2 i2 d.TOi2.QU).ξ e;refine f_ (Tp G ε (f_ (wpAny_newTuple ?_)));unfold Builtin.Tv.ownedTupleHandOut;let z6:YG (f.Ra {SN:=.QH "tuple",RD:=.V8 #[x,y]}) z TI TO .ellipsis:=ol _ T;refine f_ (f_ (VN z6 (!1) λg7 J Y=>?_));replace J:YG g7 z TI TO (R0 f.SM.Qw):=J;refine VN J (!1) λH F X=>i_ (0,3);replace F:YG H z TI TO (R0 f.SM.Qw):=F;let i:∀c o,c≠z->f.Δ c<*o->H.Δ c<*o:=λc o h e=>(X.2 c h).ξ ((Y.2 c h).ξ QH8);let t:f.SM.Qw≠z:=XH (lt_size T);let u:UQ H f.SM.Qw x y:=(X.2 _ t).ξ ((Y.2 _ t).ξ (QK _ ε));let sz:f.SM.Qw=s⁻¹:=k5.1;let L:UQ f TI QC0 QD0:=k5.2 TI _ (by simp[d.TIz,d.TITO,d.TIi1,d.TIi2]) B;change Q (.ν f.SM.Qw) _;rw[sz]at F u⊢;show hQ x y H t4 p1 p2 F (i _ _ d.TIz L) (i _ _ d.TOz G) (n (λc o h e=>i c o (λq=>h (by simp[q])) e) N λo e=>i _ o d.i1z e) (l (λc o h e=>i c o (λq=>h (by simp[q])) e) M λo e=>i _ o d.i2z e) u λc o h e=>i c o (λq=>h (by simp[q])) (k5.2 c o h e)
end
section
variable{BT:IO}{w:QV}{A:Qo}{E:η->ω->Prop}{s:ω}{z TI TO i1 i2:θ}{n1 n2 k:υ}{P1 P2:υ->η->Prop}{S1 S2:υ->Qx->Prop}{a b:η}
abbrev EB QD6 QHd:UP:={SN:=.QH (if x.V4.Tk QJ2 then "str_ascii_iterator" else "str_iterator"),RD:=.R5 #[.Qn x t,.QB 0 0]}
def qL(h:Q Za {s with π:=s.π.Ra (EB x t)}):Cl ZR A (YJ QKk) Q E s:=by
 unfold EB at h;cases e:x.V4.Tk QJ2<;>rw[e]at h
 .exact wpAny_pyIter_wide e h
 .exact wpAny_pyIter_ascii e h
abbrev Dt QD6 QHd QP8 Zi QKF:Prop:=h.IsStrIter it (if x.V4.Tk QJ2 then "str_ascii_iterator" else "str_iterator") x t i
def draws(d:A.SV=ζ)QP8 QD6 QHd:Draws BT w A it [it] x.V4.Qw (λi v=>∃c u,x.V4[i]?=δ c/\v=.Qn ⟨#[c]⟩ u) (Dt x t it):=by
 unfold Dt;cases x.V4.Tk QJ2
 .exact Draws.strWide d it x t
 .exact Draws.strAscii d it x t
end
end ZP
end L2
namespace L2
open PySem.Spec PyProof.Rows
section
variable{X:Cx}{QF:γ Z_}{σ:St}{H:Hp}{s:ω}{h':Qx}
def o9{S:γ θ}(f:∀b∈S,H b=ζ)(e:H b<*u):b∉S:=λa=>by rw[f b a]at e;cases e
def g_.turnedL{S:γ θ}Y_ QF7 QOf:g_ X QF σ H {s with π:=h',Qs:=t'}:=by
 refine I.Ub (g':=s.Wr) (d':=s.XX) (ch:=S) (λb o e _ _ d=>k b o d e,λb o e _ _ d=>(o.XE,k b o d e),λ_ _ _ n _=>n,λb o e d=>(o,k b o d e),λ_ _ e=>e,λ_ _ _ e=>e,λ_ ps e=>(#[],by rw[e];simp))
  (λb u e=>(I.S7 b u e).Wq QM2 QIu λ_ _ q=>q) I.V9 λb a=>((f b a).2.2.2.1,(f b a).2.1,(f b a).2.2.2.2.1,(f b a).2.2.2.2.2)
 rcases d with z|z
 .rw [z];show o9 QEb e
 .exact o9 QEb z
def g_.turnedNew{S:γ θ}{t':υ}QHg Y_ QF7 QOf(h:Aq X.BT X.w (QO H s⁻¹ o) h' s⁻¹ o):g_ X QF σ (QO H s⁻¹ o) {s with π:=h',Qs:=t'}:=by
 let i:H s⁻¹=ζ:=I.S7.SW Zs;let g:∀b u,H b<*u->b≠s⁻¹:=λb u e=>f' e i;refine I.Ub (g':=s.Wr) (d':=s.XX) (ch:=S) (λb o e _ _ d=>k b o d e,λb o e _ _ d=>(o.XE,k b o d e),λb o e n _=>?_,λb o e d=>(o,k b o d e),λb xs e=>by rw[b_ (g b _ e)];show e,λb o u e=>by rw[b_ (g b _ e)];show e,λb ps e=>(#[],by rw[b_ (g b _ e),e];simp))
  (λb u e=>?_) I.V9 λb a=>((f b a).2.2.2.1,(f b a).2.1,(f b a).2.2.2.2.1,(f b a).2.2.2.2.2)
 .rw [b_ QKG];show n
 .by_cases a:b=s⁻¹
  .subst a;rw[SO]at e;cases e;show h
  .rw [b_ a]at e;refine(I.S7 b u e).Wq QM2 (λc q=>by rw[b_ (g c _ q)];show q) λc xs q=>by rw[b_ (g c _ q)];show q
   rcases d with z|z
   .rw [z];show o9 QEb e
   .exact o9 QEb z
end
end L2
namespace L2
open PySem.Spec PyProof.Rows Builtin Builtin.Str
section
variable{X:Cx}{e:SF}{te:TE}
end
end L2
namespace L2
open PySem.Spec PyProof.Rows
abbrev mu(o:UP):χ θ×χ η:=(o.Ux,match o.RD with|.R5 vs=>vs[2]?|_=>ζ,)
abbrev Mz(o:UP)(x:θ×Ω):Prop:=(mu o).1=δ x.1/\(x.2=ο->(mu o).2<*.ζ)
def Mz.of(h:Mz o x)(e:mu a=mu o):Mz a x:=by
 unfold Mz at *;rw[e];show h
abbrev yx{α:Type}:Sem α->Prop
 |.pure _=>Tg
 |.raise _=>Tg
 |.unsupported _=>Tg
 |.load _ _ k=>∀o,yx (k o)
 |.Sm _ _ f k=>(∀o,mu (f o)=mu o)/\yx (k ())
 |.alloc _ k=>∀a,yx (k a)
 |.RG k=>∀a,yx (k a)
 |.ask k=>∀a,yx (k a)
 |.SV _ k=>∀a,yx (k a)
 |_=>Rl
abbrev DK(h h':Qx):Prop:=∀(b:θ)(o:UP),h.SM[b]?<*o->∃o',h'.SM[b]?=δ o'/\mu o'=mu o
def DK.YS:DK h h:=λ_ o e=>(o,e,1)
def DK.ξ(a:DK h h1)(b:DK h1 h2):DK h h2:=λx o e=>let⟨_,f,d1⟩:=a x o e;let⟨c,d,d2⟩:=b x _ f;(c,d,d2.ξ d1)
def j_{f:c->Sem e}(d:∀a,yx (f a)):∀{t:Sem c},yx t->yx (t>>=f):=by
 intro t;change yx t->yx (Sem.bind t f);induction t with
 |pure a=>show λ_=>d a
 |raise=>show id
 |unsupported=>show id
 |load a p k b=>show λh o=>b o (h o)
 |Sm a p g k b=>show λh=>(h.1,b () h.2)
 |alloc o k b=>show λh a=>b a (h a)
 |RG k b=>show λh a=>b a (h a)
 |ask k b=>show λh a=>b a (h a)
 |SV o k b=>show λh a=>b a (h a)
 |_=>show λh=>h.SG
def xD{Q:i->T6->ω->Prop}:∀(t:Sem i)(p:T6)QBP,yx t->DK l s.π->Sem.wp M Γ t (λa p s'=>DK l s'.π->Q a p s') E p s->Sem.wp M Γ t Q E p s:=by
 intro t;induction t with
 |pure a=>show λp s _ d h=>h d
 |raise=>show λp s _ d h=>h
 |unsupported=>show λp s _ d h=>h
 |load a q k c=>show λp s g d⟨o,e,h⟩=>(o,e,c o p s (g o) d h)
 |Sm a q f k c=>
  refine λp s g d⟨e,h⟩=>(e,c () p _ g.2 (d.ξ λb o z=>?_) h);change ∃j,(s.π.SM.modify a f)[b]?=δ j/\_;rw[Ry.getElem?_modify];split
  .rw [z];show(f o,1,g.1 o)
  .exact (o,z,1)
 |alloc o k c=>
  refine λp s g d h=>c _ p _ (g _) (d.ξ λb u z=>(u,3,1)) h;change (s.π.SM.Ra o)[b]?<*u;rw[Ry.getElem?_push,Fr (RH (Ry.Sl.mp z).1)];show z
 |RG k c=>show λp s g d h=>c _ p s (g _) d h
 |ask k c=>show λp s g d h=>c _ p s (g _) d h
 |SV o k c=>show λp s g d h=>c _ p s (g _) d h
 |_=>show λp s g=>g.SG
def wx{t:Sem b}QMO(g:yx t)(h:Cl M A t (λa s'=>DK s.π s'.π->Q a s') E s):Cl M A t Q E s:=
 λΓ p c=>xD t p s g .YS (h Γ p c)
def kM(h:∀o,mu (f o)=mu o):yx (Sm a f):=(h,Tg.Sy)
def LH QBz:yx (load a):=λ_=>Tg.Sy
def AV:yx RG:=λ_=>Tg.Sy
def An(v:η)Zi:yx (field v i):=by
 unfold field fieldsOf;refine j_ (λa=>by split<;>show Tg.Sy) ?_;split
 .refine j_ (λo=>by split<;>show Tg.Sy) (LH _)
 .exact Tg.Sy
def Hf(a:i≠2)(o:UP):mu (o.Tc (·.RU i x))=mu o:=by
 let⟨c,d,b,e⟩:=o;cases b with
 |R5 vs=>change (d,(vs.RU i x)[2]?,)=(d,vs[2]?,);rw[Ry.getElem?_setIfInBounds_ne a]
 |_=>rfl
def eQ(v:η)Zi(x:η)(a:(i≠2)>>>0):yx (setField v i x):=by
 unfold setField updateField;split
 .refine j_ (λo=>?_) (LH _);split
  .split
   .exact (λo=>Hf a o,Tg.Sy)
   .exact Tg.Sy
  .exact Tg.Sy
 .exact Tg.Sy
def Aw(e:η)(f:χ θ):yx (W5 e f):=by
 unfold W5;show j_ (λa=>by split;show eQ _ _ _;show Tg.Sy) QRV
def BE:∀l:γ YH,yx (readyFrames l)
 |[]=>Tg.Sy
 |QA::r=>by
  unfold readyFrames;split
  .refine j_ (λo=>?_) (LH _);split
   .exact Tg.Sy
   .refine j_ (λb=>j_ (λv=>j_ (λ_=>BE r) ?_) ?_) ?_
    .exact kM λ_=>rfl
    .unfold keptBack;split
     .split
      .exact Tg.Sy
      .refine j_ QF8 ?_
       .exact Tg.Sy
       unfold underTheClaimsCaller;show j_ (λ_=>by first|show Tg.Sy|(split<;>show Tg.Sy)) AV
     .exact Tg.Sy
    .unfold behindIsImport;split
     .exact Tg.Sy
     .split
      .exact Tg.Sy
      .refine j_ QF8 QRV;show Tg.Sy
  .exact Tg.Sy
def EC(T:Xx)(vs:γ η):yx (newFields T vs):=by
 unfold newFields newObj newObjAsIs;dsimp only;split
 .exact Tg.Sy
 .refine j_ (λa=>?_) ?_
  .exact Tg.Sy
  .exact λ_=>Tg.Sy
def AF(e:η)(QA:YH):yx (Xg e QA):=by
 unfold Xg;split
 .refine j_ QF9 QRV;let XQ:∀b:Ω,yx (do setField e 1 (<-EntryCells.newEntry h (<-Ξ.frameOf QA) .ζ (R0 ‹θ›) .ζ (<-entryPlaceOf ‹θ› b))):=λb=>by
   refine j_ (λc=>j_ (λpl=>j_ (λx=>eQ _ _ _) ?_) ?_) ?_
   .exact EC _ _
   .unfold entryPlaceOf;refine j_ (λa=>by split<;>show Tg.Sy) AV
   .unfold Ξ.frameOf frameEnvs;refine j_ (λd=>j_ (λo=>by split<;>show Tg.Sy) ?_) (j_ QF8 AV)
    rotate_left
    .exact Tg.Sy
    unfold frameObject;split
    .exact Tg.Sy
    .refine j_ QF8 (BE _);show Tg.Sy
  split
  .refine j_ (λx=>?_) QRV;split
   .exact Tg.Sy
   .exact j_ (λ_=>XQ _) (eQ _ _ _)
  .exact XQ _
 .exact Tg.Sy
def Ao(QA:YH)(e:η):yx (Wi QA e):=j_ (λ_=>Aw _ _) QRW
inductive FF QKF(e T:θ)(SN a0:η)(d:χ (θ×Ω)):Prop
 |mk (oe vs oT ts:_) (_:h.Δ e<*oe) (_:(oe.SN=SN/\vs[0]?<*a0)) (_:oe.RD=.R5 vs) (_:vs[1]?<*.ν T) (_:T≠e) (_:h.Δ T<*oT) (_:oT.RD=.R5 ts) (_:ts[3]?<*.ζ) (_:∀x,d<*x->Mz oe x)
def FF.traced(x:FF h e T SN a0 d)(n:ς.Δ T=ζ):h.TracedW ς e SN a0:=by
 let⟨a,vs,b,ts,h1,h2,k,j,i,g,f,c,_⟩:=x;show(a,vs,T,b,ts,h1,h2,k,j,n,i,g,f,c)
def ny(x:h.TracedW ς e SN a0):∃T,ς.Δ T=ζ/\FF h e T SN a0 ζ:=by
 let⟨a,vs,T,b,ts,h1,h2,j,i,n,g,f,d,c⟩:=x;show(T,n,a,vs,b,ts,h1,h2,j,i,g,f,d,c,λ_ z=>nomatch z)
def Gu{h:Qx}(e:h.Δ a<*o):h.SM[a]?<*o:=by
 unfold Qx.Δ at e;split at e
 .cases e
 .exact e
def FF.up(f:FF h' e T SN a0 ζ)(k:DK h h')(g:h.Δ e<*o)(q:∀x,d<*x->Mz o x):FF h' e T SN a0 d:=by
 let⟨b,vs,c,ts,h1,h2,p,n,m,l,j,i,_⟩:=f;let⟨s,a,r⟩:=k e o (Gu g);rw[Gu h1]at a;cases a;show(b,vs,c,ts,h1,h2,p,n,m,l,j,i,λx z=>(q x z).of r)
inductive Ah QKa Z' QD' ZC QBP QD8(ev:η)QJx:Prop
 |mk (e T:θ) (C a0:η) (dd:χ (θ×Ω)) QAe (_:ev=.ν e) (_:s'.os=s.os) (_:Xf s'.Wr) QIe QRO (_:s.π.Δ e=ζ) (_:s.π.Δ T=ζ) (_:H' e=ζ) (_:H' T=ζ) (_:FF s'.π e T C a0 dd) (_:E C dd H')
def Hg{h ς:Qx}{a:γ θ}:∀{l:γ YH},h.TF ς l->(∀b∈rf l,b∈a)->h.TF (Vx h a) l
 |[],_,_=>trivial
 |QA::r,i,c=>by
  let⟨j,⟨L,o,d,n,g,k⟩,f⟩:=i;let e:rf (QA::r)=L::rf r:=by unfold rf;rw[Uw,d]
  show(j,(L,o,d,UH _ (c L (by rw[e];show Rh)),g,k),Hg f λb m=>c b (by rw[e];show QP _ m))
def Gv{h ς:Qx}:∀{l:γ YH},h.TF ς l->∀b∈rf l,∃o,h.Δ b=δ o/\∀vs,o.RD≠.R5 vs
 |QA::r,f,b,a=>by
  let⟨k,⟨L,o,g,j,d,i⟩,c⟩:=f;let e:rf (QA::r)=L::rf r:=by unfold rf;rw[Uw,g]
  rw[e]at a;rcases QW.mp a with ε|a
  .exact (o,d,i)
  .exact Gv c b a
section
variable{X:Cx}{QF:γ Z_}{σ:St}{H H':Hp}{s:ω}{h1 h2:Qx}
def g_.flown{S:γ θ}Y_(g:Un QBe [] H H' s.π h1)(x:Aj X.BT X.w H' h1)(t:∀b∈S,s.π.Δ b=ζ)(off:∀b∈S,H' b=ζ)(d:∀b o,h1.Δ b<*o->b∉S->b∉rf X.RG->h2.Δ b<*o)(D:h1.UpToSlots h2)(L:Xf g'):g_ X QF σ H' {s with π:=h2,Wr:=g',XX:=d',Qs:=t'}/\Un QBe [] H H' s.π h2/\Aj X.BT X.w H' h2:=by
 let h:∀b o,s.π.Δ b<*o->b∉S:=λb o e a=>by rw[t b a]at e;cases e
 let A:∀b∈rf X.RG,∃o,s.π.Δ b=δ o/\∀vs,o.RD≠.R5 vs:=Gv I.RG;let r:∀b∈rf X.RG,H' b=ζ:=λb a=>by
  let⟨o,J,_⟩:=A b a;show g.SA b o J (I.XZ b a) (!1)
 let l:Un QBe [] H H' s.π h2:=by
  refine(λb o e n a k=>d b o (g.UF b o e n a k) (h b o e) a,λb o e n a k=>?_,g.SA,λb o e k=>?_,g.Uk,g.frzs,g.tbls)
  .obtain ⟨F,C⟩:=g.YI b o e n a k;let⟨G,f,y⟩:=A b a;rw[e]at f;cases f;let⟨m,B⟩:=D b _ C y;show(m,B)
  .obtain ⟨E,C⟩:=g.Ut b o e k;by_cases a:b∈rf X.RG
   .obtain ⟨G,f,y⟩:=A b a;rw[e]at f;cases f;let⟨F,B⟩:=g.YI b o e (I.XZ b a) a k;let⟨m,M⟩:=D b _ B y;show(_,M)
   .exact (E,d b E C (h b o e) a)
 let i:Aj X.BT X.w H' h2:=λb u e=>(x b u e).Wq (λc v j q=>d c v q (λp=>?_) λp=>?_) QIu λ_ _ q=>q
 .exact (I.Ub (g':=g') (d':=d') (t':=t') (ch:=[]) l i L ZA,l,i)
 .rcases j with ε|j
  .rw [off c p]at e;cases e
  .rw [off c p]at j;cases j
 .rcases j with ε|j
  .rw [r c p]at e;cases e
  .rw [r c p]at j;cases j
def AM Y_(a:X.ex=[])(d:s.π.Δ b=ζ):X.U3.π.Δ b=ζ:=by
 cases e:X.U3.π.Δ b with
 |ζ=>rfl
 |δ o=>
  let⟨c,q⟩:=I.ς.Ut b o e (by rw[a];simp);rw[d]at q;cases q
def Kn(a:Aj P w H h)(d:h.Δ b=ζ):H b=ζ:=by
 cases e:H b with
 |ζ=>rfl
 |δ u=>
  obtain⟨o,q⟩:∃o,h.Δ b<*o:=by
   let z:=a b u e;cases u with
   |QM=>let⟨_,Rc,n,_,q⟩:=z;show(_,q)
   |RJ=>let⟨_,Rc,_,o,q,_⟩:=z;show(_,q)
   |dK=>let⟨_,_,vs,_,o,c,f,q,_⟩:=z;show(_,q)
   |dT=>let⟨_,_,xs,_,o,c,f,q,_⟩:=z;show(_,q)
   |US=>let⟨o,c,f,t,q,_⟩:=z;show(o,q)
   |XO=>let⟨_,_,_,q,_⟩:=z;show(_,q)
   |own=>show z
   |xd=>let⟨g,⟨o,c,f,q,_⟩,_⟩:=z;show(o,q)
   |rng=>let⟨t,u,v,q⟩:=z;show(_,q)
   |frz=>show(_,z.1)
   |tbl=>show(_,z)
   |met=>show(_,z)
   |ext=>show z.2.1
  rw[d]at q;cases q
def LI(fl:FF h e T SN a0 d)(f:h.TF ς l):T∉rf l:=λc=>by
 let⟨j,vs,k,ts,_,_,_,_,_,i,a,_⟩:=fl;let⟨o,b,g⟩:=Gv f T c;rw[i]at b;cases b;show g ts a
end
section
variable{X:Cx}{E:XK}
def um(F:X.ex=[])QBm(G:X.QA.Vy<*X.QA.SQ)(hE:∀C d H,E' C d H->E C d H){N:St}(I:g_ X k N H s)(cx:Ah X.BT X.w X.RG H s E' Y s'):Cl Y9 X.A (Wi X.QA Y) (λ_ f=>Ah X.BT X.w X.Id X.H₀ X.U3 E Y f) (λe' f=>Ah X.BT X.w X.Id X.H₀ X.U3 E e' f) s':=by
 let⟨e,T,C,a0,dd,H',ε,os,a,x,h,Z,dT,Q,R,W,q⟩:=cx;let⟨c,g,d,j,D⟩:=s';obtain ε:D=s.os:=os;let I1:g_ X k N H' {s with π:=c,Wr:=g,XX:=d,Qs:=j}:=I.Ub (g':=g) (d':=d) (t':=j) (ch:=[]) x h a ZA;let B:c.TF X.ς QBG:=WB▸I1.RG;let fl:Qx.FlyingW (Vx c QKw) QBG e C a0 c:=
  (λb o z=>Xn _ z,UH _ (!1),Hg B (by rw[<-WB];show λb z=>QP _ (QP _ z)),W.traced QQN)
 refine wx (s:=(c,g,d,j,s.os)) (Ao _ _) (wpAny_leaves_onW (s:=(c,g,d,j,s.os)) (by rw[<-WB];show I.ok.Uv) G fl λh' u up dk=>?_);let l:∀b o,c.Δ b<*o->b∉[e,T]->b∉rf X.RG->h'.Δ b<*o:=λb o z U p=>u.1 b o (VM _ z λn=>by
  rcases QW.mp n with y|n
  .exact U (by rw[y];simp)
  .rcases QW.mp n with y|n
   .exact U (by rw[y];simp)
   .exact p n)
 let⟨M,ab,m⟩:=I.flown (H':=H') (h1:=c) (h2:=h') (g':=g) (d':=d) (t':=j) (S:=[e,T]) x h (λb p=>by rcases QW.mp p with z|z;rw[z];show Z;rw[wh z];show dT)
  (λb p=>by rcases QW.mp p with z|z;rw[z];show Q;rw[wh z];show R) l up a
 let⟨T',P,i⟩:=ny u.2.2.2;let v:s.π.Δ T'=ζ/\H' T'=ζ:=by
  cases z:c.Δ T' with
  |ζ=>
   refine(3,Kn h z);cases y:s.π.Δ T' with
   |ζ=>rfl
   |δ o=>
    let⟨o',r⟩:=x.Ut T' o y (!1);rw[z]at r;cases r
  |δ o=>
   by_cases t:T'=T
   .rw [t];show(dT,R)
   .let L:T'≠e:=by let⟨_,_,_,_,_,_,_,_,z,_⟩:=i;show z
    let J:=LI i M.RG;rw[VM _ z (by simp[t,L,J])]at P;cases P
 let O:=M.ς;rw[F]at O;let⟨oe,_,_,_,g1,_,_,_,_,_,_,_,g2⟩:=W;show(e,T',C,a0,dd,H',1,M.os,a,O,m,AM I F Z,AM I F v.1,Q,v.2,i.up dk g1 g2,hE _ _ _ q)
end
section
variable{X:Cx}
end
abbrev Ot ZZ QEZ:Prop:=Ξ.W.excIn K C [.QH "ValueError",.QH "Exception",.QH "BaseException",.QH "object"] "ValueError.__new__"=ο
section
variable{P:IO}{w:QV}{K:Qt}{mg:QL->χ η}{ς:Qx}{N:γ QL}{Qz:QL}{Qy:TB}{f:θ}{cd:η}{A:Qo}{Id:γ YH}{s:ω}{H:Hp}{E:XK}
def CO(b:∀C d H,e C d H->E C d H):Ex QBC (aY QBC P w K mg ς N Qz Qy f cd A Id s H E) e:=λa g j h i s' I c=>um (X:=aY QBC P w K mg ς N Qz Qy f cd A Id s H E) ε ε ε b I c
end
def so.okX{P:IO}{w:QV}{K:Qt}{st:Rb}(F:so K x Qz st f fd)(S:s_ N ps (hY st))(Sr:∀vs H Q E,sp vs H Q E->vs.β=ps.β)(a:∀(U':η)(A:Qo)(Id:γ YH)(s:ω)(H:Hp)(vs:γ V)(Q:VK)(E:XK),am k (A.VQ (W8 Qz (hY st) s⁻¹ f U'))->sp vs H Q E->
   ∃t,Bk (aY (Ah P w) P w K mg ς N Qz (hY st) f U' A Id s H E) (n' st) t/\t {nx:=λ_ H'=>Q .UT H',rt:=Q} (WG N vs) H):aa P w K mg ς (Ah P w) (k+1) f fd ps sp:=by
 let⟨h,g,kV,Tm,pm,an,U',ct,d,ε,lk,c⟩:=F.ex;show kO lk c S Sr λA Id s H vs Q E e b=>a U' A Id s H vs Q E e b
abbrev Bi QKa Z' ZZ Z3 QMv QD6 QKb QE1 QNw:Prop:=
 ∃(f:θ)(fd:TQ),mg x=δ Ze/\V3 K Ze=ο/\ym K fd ps []/\aa P w K mg ς QBC k f fd ps sp
def Cp QRI QFH(D:Bi X.BT X.w X.K X.mg X.ς x k ps sp)(d:am k X.A)(hp:Ex (Ah X.BT X.w) X E)QTt(g:Gl X x>>>4)(c:((x==("__debug__":QL))=μ)>>>0)(h:QDW>>>4)QGq:PE X QNz (BM sp [] E t):=by
 let⟨f,fd,h1,h2,j,F⟩:=D;show oq F d g h1 h2 j .Tw hp i c h b
abbrev bq(e:θ)(C:η)(d:χ (θ×Ω)):HO:=.ext λh=>∃o,h.Δ e=δ o/\o.SN=C/\QHQ/\∀x,d<*x->Mz o x
instance Cx.YX QC9(v:η):Cx:={X with A:=X.A.mark QFa,Wm:=μ,xe:=λ_ _=>Rl}
section
variable{X:Cx}{QF:γ Z_}{σ:St}{H:Hp}{s:ω}
def g_.YX Y_(v:η):g_ QGW QF σ H s:=
 ((I.ok.mod,I.ok.Uz,I.ok.glob,I.ok.blt,I.ok.above,I.ok.Tx,I.ok.Vl,I.ok.cab,λz=>Ω.noConfusion z,I.ok.Uv,I.ok.stk,I.ok.exf,I.ok.bs,I.ok.bsz,I.ok.noex,I.ok.exfs,I.ok.funs,I.ok.frf),I.os,I.V9,I.ς,I.loc,I.R9,I.SA,I.Xs,I.pin,I.S7,I.Sr)
def g_.unheld QSq(ok:X.Ok):g_ X QF σ H s:=(ok,I.os,I.V9,I.ς,I.loc,I.R9,I.SA,I.Xs,I.pin,I.S7,I.Sr)
def g_.track Y_(l:H e=ζ)(m:X.U3.π.Δ e=ζ)(i:X.QA.SQ≠e)(j:∀x c,X.QA.UO.ρ x<*c->c≠e)(h:∀p∈X.pn++QF,p.1≠e)(k:φ s.π)(a:∃o,s.π.Δ e<*o)(st:∀h1 h2:Qx,φ h1->(∀o,h1.Δ e<*o->h2.Δ e<*o)->φ h2):g_ X QF σ (QO H e (.ext φ)) s:=by
 let d:∀b u,H b<*u->b≠e:=λb u q=>f' q l;let g:∀b o,X.U3.π.Δ b<*o->b≠e:=λb o q z=>by rw[z,m]at q;cases q
 refine(I.ok,I.os,I.V9,(I.ς.UF,I.ς.YI,λb o q n f=>?_,I.ς.Ut,λb xs q=>?_,λb o u q=>?_,λb ps q=>?_),I.loc,I.R9,3,λx c q=>?_,λp hp=>?_,λb u q=>?_,I.Sr)
 .rw [b_ QOg];show I.ς.SA b o q n f
 .let z:=I.ς.Uk b xs q;rw[b_ (d b _ z)];show z
 .let z:=I.ς.frzs b o u q;rw[b_ (d b _ z)];show z
 .obtain ⟨X2,z⟩:=I.ς.tbls b ps q;show(X2,by rw[b_ (d b _ z)];show z)
 .rw [b_ i];show I.SA
 .rw [b_ (j x c q)];show I.Xs x c q
 .obtain ⟨w,v,t⟩:=I.pin p hp;show(w,by rw[b_ (h p hp)];show v,t)
 .by_cases f:b=e
  .subst f;rw[SO]at q;cases q;show(k,a,st)
  .rw [b_ f]at q;show(I.S7 b u q).Wq (λ_ _ _ r=>r) (λc r=>by rw[b_ (d c _ r)];show r) λc xs r=>by rw[b_ (d c _ r)];show r
def g_.reframed{e:St}Y_(f:Th X.QA.SQ s.π h')(ns:h'.Ns X.QA.SQ k)(lk:∀Zi QD6(v:V),X.N[i]?<*x->e[i]?<*δ v->HI X.QA.Qy x->∃u,af v u/\Np X.QA h' k x u)(w:e.β=X.N.β):g_ X QF e H {s with π:=h',Qs:=t'}:=by
 let g:∀b o,X.U3.π.Δ b<*o->b≠X.QA.SQ:=λb o q=>RH (LT (lt_size q) I.ok.above);let j:∀b u,H b<*u->b≠X.QA.SQ:=λb u q=>f' q I.SA;refine(I.ok,I.os,I.V9,(λb o q n h a=>(f.2 b QOg).ξ (I.ς.UF b o q n h a),λb o q n h a=>?_,I.ς.SA,λb o q a=>?_,I.ς.Uk,I.ς.frzs,I.ς.tbls),(k,ns,lk),λx c q=>?_,I.SA,I.Xs,λp hp=>?_,λb u q=>?_,w)
 .obtain ⟨m,z⟩:=I.ς.YI b o q n h a;show(m,(f.2 b QOg).ξ z)
 .obtain ⟨t,z⟩:=I.ς.Ut b o q a;show(t,(f.2 b QOg).ξ z)
 .obtain ⟨v,o,z,d⟩:=I.R9 x c q;show(v,o,(f.2 c (I.cne x c q)).ξ z,d)
 .obtain ⟨B,A,l,y⟩:=I.pin p hp;show((f.2 p.1 l).ξ B,A,l,y)
 .refine (I.S7 b u q).Wq (λc v a r=>(f.2 c ?_).ξ r) (λ_ r=>r) λ_ _ r=>r;rcases a with ε|a
  .exact j c u q
  .exact j c _ a
def g_.goes2 Y_(g:X.N.Rq)(B:X.N[i]?<*n)(y:X.QA.Sh n<*.local)(q:∀s',Th X.QA.SQ s.π s'.π->s'.Wr=s.Wr->g_ X QF (σ.US i ζ) H s'->Q () s'):Cl Y9 A (do bindName X.QA n .ζ;unbindBehindTheSuite X.QA n RX) Q E s:=by
 let⟨m,p,t⟩:=id I.loc;refine wpAny_nameGoes_keeps y p (by rw[I.ok.Uz];rfl) λh' v ns b=>q _ b ε (I.reframed b ns (λj x w f hw k=>?_) (by rw[γ.length_set];show I.Sr));let a:j≠i:=λz=>by
  subst z;let e:j<σ.β:=by rw[I.Sr];show(m8 f).1
  rw[γ.getElem?_set_self e]at hw;cases hw
 rw[γ.getElem?_set_ne QH9]at hw;let d:x≠n:=λz=>a (A0 g f (by rw[z];show B));let⟨u,r,l⟩:=t j x w f hw k;refine(u,r,3);rcases l with⟨k1,k2⟩|⟨k1,c,k2,o,k3,h⟩
 .exact .RB (k1,by change (if x=n then v else m x)<*u;rw[Fr d];show k2)
 .exact .RF (k1,c,k2,o,(b.2 c (I.cne x c k2)).ξ k3,h)
def g_.goes Y_(a:X.N.Rq)(c:X.N[i]?<*n)(b:X.QA.Sh n<*.local)(q:∀s',g_ X QF (σ.US i ζ) H s'->Q () s'):Cl Y9 A (do bindName X.QA n .ζ;unbindBehindTheSuite X.QA n RX) Q E s:=I.goes2 a c b λs' _ _=>q s'
end
abbrev kI Zi(D:Y2):Y2:={nx:=λσ' H'=>D.nx (σ'.US i ζ) H',rt:=λ_ _=>Rl}
abbrev vU ZZ(R:θ)Zi(ts:TS)(D:Y2)QBR:XK:=λC d H'=>exmOne K C QQO=δ ο/\∀e,H' e=ζ->ts (kI i D) QSr QPb
def fi{Ec:XK}QRI{l:γ Z_}{U:St}QE4(hex:X.ex=[])QBm(as:X.QA.Vy<*X.QA.SQ)(nd:X.N.Rq)QNn QF0(hl:CF X.QA.Qy n)QGX(hg:Gl X x)(hm:X.mg x<*.ν R)(go:∀e C d H' Y,Ec C d H'->H' e=ζ->X.U3.π.Δ e=ζ->g_ X l (U.US i (δ Z6)) QPb Y->Cl Y9 QH_ (execs QKx X.QA) (λf s6=>Cl Y9 X.A (do bindName X.QA n .ζ;unbindBehindTheSuite X.QA n E) (λ_ s7=>Qf f s7) X.xe s6) (AsSuiteRaised Y9 QH_ X.QA n E (Xa Y9 QH_ X.QA (cameBackBy Y9 X.A X.QA X.xe))) Y)(I:g_ X l U H s)(cx:Ah X.BT X.w X.RG H s (λC d H'=>exmOne X.K C QQO=δ ο/\Ec C d H') ev s')(hd:(x==("__debug__":QL))=μ):Cl Y9 X.A (Xg ev X.QA) (λ_ s2=>Cl Y9 X.A (W5 ev ζ) (λ_ s3=>Cl Y9 X.A (handleBy ev X.QA [.ExceptHandler QKy (δ n) QKx E]) Qf X.xe s3) X.xe s2) X.xe s':=by
 let⟨e,T,C,a0,dd,H',ε,os,F,un,O,de,dT,he,hT,fT,B,q⟩:=cx;let⟨D,g,d,u,an⟩:=s';obtain ε:an=s.os:=os;let I1:g_ X l U H' {s with π:=D,Wr:=g,XX:=d,Qs:=u}:=I.Ub (g':=g) (d':=d) (t':=u) (ch:=[]) un O F ZA;let ag:D.TF X.ς QBG:=WB▸I1.RG;let fl:Qx.FlyingW (Vx D QKw) QBG e C a0 D:=
  (λb o z=>Xn _ z,UH _ (!1),Hg ag (by rw[<-WB];show λb z=>QP _ (QP _ z)),fT.traced QQN)
 let seen:∀QLY,(Vx D QKw).StaysIn h'->D.UpToSlots h'->g_ X l U H' {s with π:=h',Wr:=g,XX:=d,Qs:=u}:=λh' fk up=>
  (I.flown (H':=H') (h1:=D) (h2:=h') (g':=g) (d':=d) (t':=u) (S:=[e,T]) un O (λb P=>by rcases QW.mp P with z|z;rw[z];show de;rw[wh z];show dT)
   (λb P=>by rcases QW.mp P with z|z;rw[z];show he;rw[wh z];show hT) (λb o z hS P=>fk b o (VM _ z λj=>by
    rcases QW.mp j with y|j
    .exact hS (by rw[y];simp)
    .rcases QW.mp j with y|j
     .exact hS (by rw[y];simp)
     .exact P j)) up F).1
 refine wx (s:=(D,g,d,u,s.os)) QRW (wpAny_looks_onW (s:=(D,g,d,u,s.os)) (by rw[<-WB];show I.ok.Uv) as fl λh2 aH M aS=>wx (s:=(h2,g,d,u,s.os)) (Aw _ _) (wpAny_landsW (s:=(h2,g,d,u,s.os)) aH λZ J L aN=>?_));let I3:=seen Z J.1 (M.ξ L);let⟨oe,ar,aA⟩:=J.Ut;let ty:Looks Y9 Z (typeOf Z6) C:=aA▸(Looks.ld ar).andThen .now;refine wpAny_handleBy_cons (codeAny_handlers_test (wv (X:=X.YX Z6) (I3.YX _) hg hm ?_ hd)) (!5);refine(Ξ.W.exm_one I3.Xp ty B).here ?_;refine codeAny_handlers_suite_as (wx (s:=(Z,g,d,u,s.os)) (Aw _ _) (lands_againW (s:=(Z,g,d,u,s.os)) J λh4 Q ab aM=>?_));let I4:=seen h4 Q.1 ((M.ξ L).ξ ab);let⟨o4,v4,G,aB,au,_⟩:=Q.first;let t:∀b o,s.π.Δ b<*o->b≠e:=λb o z y=>by rw[y,de]at z;cases z
 let az:∀x,dd<*x->Mz o4 x:=λx z=>by
  let⟨ap,_,_,_,g1,_,_,_,_,_,_,_,g2⟩:=fT;let⟨o',e1,e2⟩:=((aS.ξ aN).ξ aM) e ap (Gu g1);rw[Gu G]at e1;cases e1;show(g2 x z).of e2
 let I5:=I4.track (e:=e) (φ:=λh=>∃o,h.Δ e=δ o/\o.SN=C/\QHQ/\∀x,dd<*x->Mz o x) he (AM I hex de) (by let⟨m,⟨o,es,ep,z,_⟩,_⟩:=I.loc;show t _ o z) (λy c z=>by let⟨v,o,r,_⟩:=I.R9 y c z;show t c o r)
  (λp hp=>t p.1 p.2 (I.pin p hp).1) (o4,G,aB,(v4,au),az) (o4,G) λa b aC k=>by let⟨o,y,z⟩:=aC;show(o,k o y,z)
 show Au I5 nd hi hl (v:=.ν e) ε (λY I6=>go e C dd H' Y q he (AM I hex de) I6) hf
def vt QRI{a:γ Z_}{h:St}QE4{s s':ω}(hex:X.ex=[])QBm(c:X.QA.Vy<*X.QA.SQ)(j:X.N.Rq)(m:X.N[i]?<*n)(l:X.QA.Sh n<*.local)(E:CF X.QA.Qy n)(G:X.fn n=ο\/X.QA.Qy.QI.ρ n<*.local)(F:Gl X x)(B:X.mg x<*.ν R)(y:∀v,Bk QGW (O::suite) ts)(I:g_ X a h H s)(M:Ah X.BT X.w X.RG H s (vU X.K R i ts D h) g s')(L:(x==("__debug__":QL))=μ):Cl Y9 X.A (Xg g X.QA) (λ_ s2=>Cl Y9 X.A (W5 g ζ) (λ_ r=>Cl Y9 X.A (handleBy g X.QA [.ExceptHandler (δ (.Rn x Y)) (δ n) (O::suite) k]) (SP X a D) X.xe r) X.xe s2) X.xe s':=by
 refine fi hex WB c j m l E G F B (λe C d H' p q J _ S=>?_) I M L;refine RM (y Z6 a p _ _ (kI i D) (S.YX _) (q e J)) (λf W b=>?_) λ_ _ z=>z.SG;cases f with
 |next=>
  let⟨o,T,Q,t⟩:=b;show(Q.unheld I.ok).goes j m l λU P=>(_,T,P,t)
 |ret u=>
  let⟨_,_,_,_,_,z⟩:=b;show z.SG
 |brk=>
  let⟨_,_,_,z⟩:=b;show z.SG
 |X5=>
  let⟨_,_,_,z⟩:=b;show z.SG
section
variable{X:Cx}{QF:γ Z_}{σ:St}{H:Hp}{s:ω}{x n y fx:QL}{R:θ}{i j k:υ}{np hpos RX p cp yp ap:T6}{b0:Rb}{suite:γ Rb}{ts:TS}{D:Y2}{ps:γ QL}{sp:Sp}{e:SF}{es:γ SF}{t:TA}
structure Ou QC9(x n:QL)(R:θ)Zi(b0:Rb)(suite:γ Rb)(ts:TS):Prop where
 hex:X.ex=[]
 WB:X.RG=X.QA::X.Id
 hfr:X.QA.Vy<*X.QA.SQ
 nd:X.N.Rq
 hi:X.N[i]?<*n
 hk:X.QA.Sh n<*.local
 hl:CF X.QA.Qy n
 hf:X.fn n=ο\/X.QA.Qy.QI.ρ n<*.local
 hg:Gl X x
 hm:X.mg x<*.ν R
 hs:∀v,Bk QGW QKx ts
 hd:(x==("__debug__":QL))=μ
end
section
variable{X:Cx}
end
section
variable{X:Cx}
end
end L2
namespace L2
open PySem.Spec PySem.W PyProof.Rows Builtin Builtin.ObjectAttr Builtin.Getset_descriptor
structure fE ZZ QEZ:Prop where
 ga:TU K Zq "__getattribute__"<*δ (.Qu "BaseException.__getattribute__")
 noHook:TU K Zq "__getattr__"<*ζ
 SN:TU K Zq "__class__"<*δ (.Qu "object.__class__")
 get:specialIn K (.Qu "object.__class__") "__get__"<*δ (.Qu "getset_descriptor.__get__")
 tk:takesIn K (.Qu "object.__class__")<*ο
 YQ:mroIn K C (.QH "object")<*ο
 exc:mroIn K C (.QH "BaseException")<*ο
 isC:isClsIn K C=ο
section
variable{BT:IO}{w:QV}{A:Qo}{E:η->ω->Prop}{s:ω}{K:Qt}{e C:θ}
end
end L2
namespace RA
abbrev aw Zp:LN->LN->Ω
 |c::a,d::b=>if c=d then aw L a b else decide (L.QJ c<L.QJ d)
 |_,_=>μ
abbrev zg(L a b:LN):Ω:=if a.β≠b.β then decide (a.β<b.β)else aw L a b
end RA
namespace L2
open PySem.Spec PyProof.Rows
def eV:∀{x:V},CL x=ο->Ey x x=ο:=by
 intro x h;cases x with
 |UT=>rfl
 |bl a=>show T_ a
 |QB a=>show T_ a
 |Qn a=>show T_ a
 |_=>show QG (show μ=ο from h) Ω.Q9
inductive LJ ZZ(x:V)(y:V)ZC ZV:Prop
 |mk (p q xs:_) QIY (_:y=.ν q) (_:lb K H p xs) (_:lb K H q xs) (_:xs.Tk CL=ο) (_:Q QMx H)
def zp(D:X.A.S3<UV):Ad X (Sv .Eq) (LJ X.K):=by
 intro o s N H x y v u Q I t r h;let⟨p,q,xs,ε,ε,hp,E,F,k⟩:=h;cases t;cases r;let⟨Rc,n,f,C⟩:=I.U0 hp;let⟨c,m,d,B⟩:=I.U0 E;let l1:=n.β;let l2:=m.β;refine Sa.eq_listAt (e:=λ_=>ο) f.UZ d.UZ (by simp;lia) D (λj h1 h2=>?_) QF6
 .let g:j<xs.β:=by simp at h1;show AY h1 l1
  let⟨a,J,z⟩:=n.get (i:=j) QOh;let⟨b,G,w⟩:=m.get (i:=j) QOh;let l:CL xs[j]=ο:=RE.mp F _ (RY g);let e:=C_ (A:=X.A.Xq) (s:=s) z w l l;rw[eV l]at e;let M:Rc.Θ[j]=a:=by
   have:=m8 J;let⟨_,e⟩:=this;simpa using e
  let L:c.Θ[j]=b:=by
   have:=m8 G;let⟨_,e⟩:=this;simpa using e
  rw[M,L];show e
 .have:((γ.Q' Rc.Θ.Qw).Tk λ_=>ο)=ο:=by simp
  rw[this];show k
def a_.US QA5(n:H a=ζ):a_ H (L2.QO H' a o):=λb u e=>by
 rw[b_ (f' e n)];show s b u e
def qX{J:It}{xs:γ V}{tt:TT}{s:TE}{p:St}{Q:VK}(n:θ->υ->γ V->Hp->Prop)(hz:xs.β≤Λ)(w:∀i d,a_ H d->i<xs.β->J.go i d)(v:∀i d x j,a_ H d->J.yld i d x j->j=d/\xs[i]?<*x)(u:∀d,a_ H d->J.Wb xs.β d)(C:∀D,H D=ζ->n D 0 [] (QO H D (.QM [])))(A:∀(D:θ)(i:υ)(x:V)(ys:γ V)(H':Hp)(t:VK)(R2:Hp->Prop),H D=ζ->xs[i]?<*x->a_ H H'->H' D<*.QM ys->n D i ys H'->
   (∀y h,h D<*.QM ys->a_ H QDN->n D (i+1) QAv QDN->t y h)->(∀g,a_ H g->g D<*.QM ys->n D (i+1) ys g->R2 g)->
   tt (δ x::p) H' λb g=>if b=ο then s (δ x::p) g t else R2 g)(B:∀D ys H',H D=ζ->a_ H H'->H' D<*.QM ys->n D xs.β ys H'->Q (.ν D) H'):∀D,H D=ζ->∃W:υ->υ->γ V->Hp->Prop,
 (∃m,W 0 m [] (QO H D (.QM [])))/\∀i m ys d,W i m ys d->d D=δ (.QM ys)/\((J.Wb i d/\Q (.ν D) d)\/(J.go i d/\ys.β<Λ/\∀x j,J.yld i d x j->
  tt QOi j λb g=>if b=ο then s QOi g λy h=>h D=δ QAk/\∃o,o<m/\W (i+1) o QAv QDN
   else ∃o,o<m/\W (i+1) o ys g)):=by
 intro D q;refine(λi m ys d=>m=xs.β-i/\i≤xs.β/\ys.β≤i/\a_ H d/\d D=δ QAk/\n D i ys d,(xs.β,!1,RP _,!1,a_.QO q,SO,C D q),3);rintro i m ys d⟨rfl,F,E,f,l,hp⟩;refine(l,3);by_cases k:i<xs.β
 .refine .RF (w i d f k,!6,λx j r=>?_);let⟨e,z⟩:=v i d x j f r;subst e;show A D i x ys j _ _ q z f l hp (λy h a b c=>(a,xs.β-(i+1),Eo k,1,k,by rw[u4];change ys.β+1≤i+1;show G1 E,b,SO,c)) (λg a b c=>(xs.β-(i+1),Eo k,1,k,IW E,a,b,c))
 .let e:i=xs.β:=D9 k F
  subst e;show .RB (u d f,B D ys d q f l hp)
section
variable{K:Qt}{tl:TE}{a:θ}{xs:γ V}{tt:TT}{te:TE}{σ:St}{H:Hp}{Q:VK}
end
def Eg ZZ:UJ K (.QH "tuple") (.QH "tuple")=δ ο/\UJ K (.QH "list") (.QH "list")=δ ο/\UJ K (.QH "str") (.QH "str")<*ο:=
 (by with_unfolding_all rfl,by with_unfolding_all rfl,by with_unfolding_all rfl)
def ut ZZ:UJ K (.QH "tuple") (.QH "list")<*μ:=by kernel_rfl
def uw ZZ:UJ K (.QH "int") (.QH "tuple")<*μ:=by kernel_rfl
def zF ZZ:UJ K (.QH "int") (.QH "list")<*μ:=by kernel_rfl
def uu ZZ:UJ K (.QH "str") (.QH "tuple")<*μ:=by kernel_rfl
def zD ZZ:UJ K (.QH "str") (.QH "list")<*μ:=by kernel_rfl
def zE ZZ:UJ K (.QH "str") (.QH "bool")<*μ:=by kernel_rfl
def uv ZZ:UJ K (.QH "str") (.QH "int")<*μ:=by kernel_rfl
def lx:B6 X (.Qu "isinstance") QBr:=by
 intro a s c H xs us Q I r h;let⟨x,t,b,h1,h2,d,q⟩:=h;show NB (b:=b) a s c H xs us Q I r (x,t,h1,h2,d,q)
section
variable{X:Cx}{elt UG:SF}{x:QL}{px RX:T6}{ifs:γ SF}{sc:TB}{wi:TI}{tt:TT}{te:TE}
def BW(f:W3 QAt (δ (.Rn y d)) a.XI QA=pure ο)(h:∀p,Cl M A (comprehension QAt sc QA p (newList []) μ (SR UG QA) (δ QSs)) QPc E s):Cl M A (exec (.Assign [.Rn y d] QAt a) QA) Q E s:=by
 let b:Cl M A (evalThenUse QAt QA QSs) QPc E s:=
  f_ (RM (h UG.RX) (λ_ _ q=>i_ q) λ_ _ e=>e)
 let Uo:=exec_Assign_Name_used (QA:=QA) y d QAt a f;show Uo▸f_ (UB (f_ (RM b (λ_ _ q=>i_ q) λ_ _ e=>e)))
end
def vy ZZ QDs:B6 X (.Qu "isinstance") (λxs H Q=>∃x t b,xs=[x,.ty T]/\ak K H x t/\UJ K t (.QH T)=δ b/\Q QIw H):=by
 subst a;show lx
def NE ZZ QDs:B6 X (.QH "tuple") (λxs H Q=>∃p ys,xs=[.ν p]/\((lb K H p ys/\∀l,H l=ζ->Q QFM (QO H l QSm))\/(pu K H p ys/\Q Zh H))):=by
 subst a;show Gs
section
variable{X:Cx}{elt UG:SF}{x:QL}{px RX:T6}{ifs:γ SF}{sc:TB}{wi:TI}{tt:TT}{te:TE}
end
end L2
namespace RA
open L2
abbrev lJ ZC QDf(Rs:γ QM3):Prop:=Ta.β=Rs.β/\∀Zi(r:θ),Ta[i]?<*r->∃R,Rs[i]?=δ R/\H r<*.RJ (R.QY V.QB)
def lJ.at(h:lJ H a Rs)QDJ(e:(a.QY V.ν)[i]?<*x):∃r R,x=.ν r/\a[i]?=δ r/\Rs[i]?=δ R/\H r<*.RJ (R.QY V.QB):=by
 rw[nq]at e;cases b:a[i]? with
 |ζ=>rw[b]at e;cases e
 |δ r=>
  rw[b]at e;let⟨R,h1,h2⟩:=h.2 i r b;show(r,R,(χ.δ.Tx e).QU,1,h1,h2)
abbrev vS ZC QP0 Zp(Rs:γ QM3)(Bs:γ Ω):Prop:=
 ∃(wy mk:θ)(Ta:γ θ),H m=δ (.RJ [.Qn ZU,.ν wy,.ν mk])/\H wy=δ (.RJ QBo)/\H mk=δ (.RJ (Bs.QY V.bl))/\lJ H Ta Rs
abbrev eU:V->Ω
 |.bl _=>ο
 |.QB _=>ο
 |.Qn _=>ο
 |_=>μ
abbrev aE ZC:υ->V->V->Prop
 |0,x,y=>x=y/\eU x=ο
 |d+1,x,y=>(x=y/\eU x=ο)\/∃p q xs ys,x=.ν p/\y=.ν q/\((H p=δ QCY/\H q<*.RJ ys)\/(H p=δ QEs/\H q<*.QM ys))/\xs.β=ys.β/\xs.β≤2100/\
   ∀Zi QLW,xs[i]?<*x->ys[i]?<*y->aE H d x y
def Ko(h:eU x=ο):aE H d x x:=by
 cases d with
 |V5=>show(1,h)
 |Vf d=>show Or.RB (1,h)
def Jw QBN(h:xs.Tk eU=ο):∀Zi QLW,xs[i]?<*x->xs[i]?<*y->aE H d x y:=λi x y b a=>by
 rw[b]at a;cases a;show Ko (RE.mp h x (v7 b))
def qN(R:γ ψ):(R.QY V.QB).Tk eU=ο:=by
 rw[RE];intro x a;let⟨z,_,ε⟩:=Su.mp a;rfl
def vA(R:γ Ω):(R.QY V.bl).Tk eU=ο:=by
 rw[RE];intro x a;let⟨z,_,ε⟩:=Su.mp a;rfl
def m3(h1:lJ H g Rs)(h2:lJ H f Rs)QLv:∀Zi QLW,(g.QY V.ν)[i]?<*x->(f.QY V.ν)[i]?<*y->aE H (d+1) x y:=λi x y j h=>by
 let⟨a,R,ε,_,e,l⟩:=h1.at j;let⟨b,m,ε,_,c,k⟩:=h2.at h;rw[e]at c;cases c;show Or.RF (a,b,2,.RB (l,k),1,by rw[j'];show hz R (v7 e),Jw (qN R))
def qG(h1:vS H m1 L Rs Bs)(h2:vS H m2 L Rs Bs)(k:Rs.β≤2100)(l:Bs.β≤2100)QLv:aE H 3 (.ν m1) (.ν m2):=by
 let⟨j,mk,g,s,r,q,f⟩:=h1;let⟨c,e,d,p,o,m,h⟩:=h2;refine Or.RF (m1,m2,2,.RB (s,p),1,by change 3≤2100;decide,λi x y a b=>?_);match i,a,b with
 |0,a,b=>cases a;cases b;show Ko ε
 |1,a,b=>cases a;cases b;show Or.RF (j,c,2,.RB (r,o),by rw[j',j',f.1,h.1],by rw[j',f.1];show k,m3 f h hz)
 |2,a,b=>cases a;cases b;show Or.RF (mk,e,2,.RB (q,m),1,by rw[j'];show l,Jw (vA Bs))
 |n+3,a,b=>cases a
end RA
namespace RA
section
variable{κ:Type}[R_ κ]
abbrev aZ(acc:γ κ):γ κ->γ κ
 |[]=>acc
 |k::ks=>aZ (if k∈acc then acc else acc++[k]) ks
abbrev wm QHh:γ κ:=aZ [] ks
abbrev aF QHh:LN:=ks.QY λk=>(wm ks).QJ k
def ie(k:κ):∀(ks a:γ κ),aZ a QF_=if k∈aZ a ks then aZ a ks else aZ a ks++[k]
 |[],_=>rfl
 |_::ks,_=>ie k ks _
def lf:∀QKN(k:κ),k∈b\/k∈ks↔k∈aZ b ks
 |[],b,k=>by simp[aZ]
 |a::ks,b,k=>by
  change _↔k∈aZ (if a∈b then b else b++[a]) ks;rw[<-lf ks];by_cases h:a∈b
  .rw [QC h,QW];constructor
   .rintro (x|rfl|x)
    .exact .RB x
    .exact .RB h
    .exact .RF x
   .rintro (x|x)
    .exact .RB x
    .exact .RF QP3
  .rw [Fr h,QW,Rr,S_];constructor
   .rintro (x|x|x)
    .exact .RB (.RB x)
    .exact .RB QP3
    .exact .RF x
   .rintro ((x|x)|x)
    .exact .RB x
    .exact .RF (.RB x)
    .exact .RF QP3
def Wf QFv{k:κ}:k∈wm ks↔k∈ks:=by
 rw[wm,<-lf];simp
def Ax QHh(k:κ):wm QF_=if k∈wm ks then wm ks else wm ks++[k]:=ie k ks []
def lg:∀QKN,(aZ b ks).β≤b.β+ks.β
 |[],_=>by simp[aZ]
 |a::ks,b=>by
  let h:=lg ks (if a∈b then b else b++[a]);let h2:(if a∈b then b else b++[a]).β≤b.β+1:=by
   split
   .exact Gj
   .simp
  change (aZ (if a∈b then b else b++[a]) ks).β≤_;rw[Rz];lia
def o8 QHh:(wm ks).β≤ks.β:=by
 have:=lg ks [];simpa[wm]using this
def Du{l:γ κ}{a b:κ}(c:a∈l)QTv:a=b:=by
 let h1:l.QJ a<l.β:=QE c;let h2:l.QJ b<l.β:=ID h1 h
 let e:=SE h1;let d:=SE h2;rw[<-e,<-d];congr 1
def HP{l:γ κ}{c:κ}:∀QDJ,l[i]?<*c->l.QJ c≤i:=by
 induction l with
 |Tw=>intro i e;simp at e
 |Rx a l d=>
  intro i e;by_cases b:a=c
  .subst b;rw[γ.idxOf_cons_self];show RP _
  .cases i with
   |V5=>simp at e;show QG e b
   |Vf i=>
    let h1:=d (i:=i) QB_;let h2:(a::l).QJ c=l.QJ c+1:=by
     rw[Yq,Rg.Sj b];rfl
    lia
def Jx QHh:(aF ks).β=ks.β:=by simp[aF]
def Jy QFv QDJ{k:κ}(h:ks[i]?<*k):(aF ks).Φ i 0=(wm ks).QJ k:=by
 rw[n0,aF,nq,h];rfl
def NF QFv{x:υ}(h:x∈aF ks):x<ks.β:=by
 let⟨k,a,ε⟩:=Su.mp h;show LT (QE (Wf.Sj a)) (o8 ks)
def HQ QFv{i j:υ}{a b:κ}(c:ks[i]?<*a)(d:ks[j]?<*b):(aF ks).Φ i 0=(aF ks).Φ j 0↔a=b:=by
 rw[Jy c,Jy d];constructor
 .exact Du (Wf.Sj (v7 c))
 .rintro ε;rfl
def Bz{l m:γ κ}{a:κ}(h:a∈l):(l++m).QJ a=l.QJ a:=by
 rw[γ.idxOf_append,QC h]
def oP{l:γ κ}{a:κ}(h:a∉l):(l++[a]).QJ a=l.β:=by
 rw[γ.idxOf_append,Fr h];simp
def qx{q:Type}[R_ q]:∀QBM QHh(c:γ q),ks.β=n->c.β=n->
  (∀QKe(a b:κ)(f x:q),ks[i]?<*a->ks[j]?<*b->c[i]?<*f->c[j]?<*x->(a=b↔f=x))->
  (wm ks).β=(wm c).β/\∀Zi(a:κ)(f:q),ks[i]?<*a->c[i]?<*f->(wm ks).QJ a=(wm c).QJ f:=by
 intro n;induction n with
 |V5=>
  intro ks c h1 h2 _;rw[Sq]at h1 h2;subst h1 h2;show(1,λi a f h=>by simp at h)
 |Vf n D=>
  intro ks c h1 h2 hp;obtain⟨k,l,ε⟩:∃k l,ks=l++[k]:=(ks.Ys (by intro z;rw[z]at h1;cases h1),ks.Xw,(Se _).QU);obtain⟨k',r,ε⟩:∃k l,c=l++[k]:=(c.Ys (by intro z;rw[z]at h2;cases h2),c.Xw,(Se _).QU);let l1:l.β=n:=by simpa using h1
  let l2:r.β=n:=by simpa using h2
  let s:∀{w:Type}{l:γ w}{k:w}QDJ{a:w},l[i]?<*a->(l++[k])[i]?<*a:=λ{w l k i a}e=>by
   rw[QS (m8 e).1];show e
  let p:(l++[k])[n]?<*k:=by rw[Qp (GZ l1),l1];simp
  let d:(r++[k'])[n]?<*k':=by rw[Qp (GZ l2),l2];simp
  let⟨A,y⟩:=D l r l1 l2 λi j a b f x m o F E=>hp i j a b f x (s m) (s o) (s F) (s E);let C:k∈wm l↔k'∈wm r:=by
   rw[Wf,Wf];constructor
   .intro t;let⟨i,v⟩:=RQ.mp t;let g:i<r.β:=by have:=(m8 v).1;show IZ this l1 l2
    let e:=(hp i n k k r[i] k' (s v) p (s QOh) d).mp ε;rw[<-e];show RY g
   .intro t;let⟨i,v⟩:=RQ.mp t;let g:i<l.β:=by have:=(m8 v).1;lia
    let e:=(hp i n l[i] k k' k' (s QOh) p (s v) d).Sj ε;rw[<-e];show RY g
  let split:∀QDJ{a:κ}{f:q},(l++[k])[i]?<*a->(r++[k'])[i]?<*f->(l[i]?=δ a/\r[i]?<*f)\/(i=n/\a=k/\f=k'):=λ{i a f}m o=>by
   by_cases v:i<n
   .rw [QS (!6)]at m o;show .RB (m,o)
   .have:i=n:=by
     have:=(m8 m).1;simp at this;lia
    subst this;rw[p]at m;rw[d]at o;show .RF (1,(χ.δ.Tx m).QU,(χ.δ.Tx o).QU)
  rw[Ax,Ax];by_cases t:k∈wm l
  .let u:=C.mp t;rw[QC t,QC u];refine(A,λi a f m o=>?_);rcases split m o with⟨m,o⟩|⟨rfl,ε,ε⟩
   .exact y i a f m o
   .obtain ⟨j,B⟩:=RQ.mp (Wf.mp t);let g:j<r.β:=by have:=(m8 B).1;show IZ this l1 l2
    let e:=(hp j i a a r[j] f (s B) p (s QOh) d).mp ε;show y j a f B (by rw[<-e];show h_ g)
  .let u:k'∉wm r:=λz=>t (C.Sj z);rw[Fr t,Fr u];refine(by simp[A],λi a f m o=>?_);rcases split m o with⟨m,o⟩|⟨rfl,ε,ε⟩
   .rw [Bz (Wf.Sj (v7 m)),Bz (Wf.Sj (v7 o))];show y i a f m o
   .rw [oP t,oP u,A]
def Kq QQP[R_ d]QFv{c:γ d}(l:ks.β=c.β)(hp:∀QKe(a b:κ)(k g:d),ks[i]?<*a->ks[j]?<*b->c[i]?<*k->c[j]?<*g->(a=b↔k=g)):aF ks=aF c:=by
 let⟨_,h⟩:=qx c.β ks c l ε hp;refine γ.Yv λi=>?_;by_cases m:i<ks.β
 .let f:ks[i]?<*ks[i]:=h_ m;let e:c[i]?<*(c[i]'(Ep m l)):=h_ (Ep m l);rw[aF,aF,nq,nq,f,e];show R7 δ (h i _ _ f e)
 .rw [TD (by rw[Jx];show Ci m),TD (by rw[Jx];show IS l m)]
end
abbrev BX QCF(S0:LN)Zi:υ×LN:=(S0.Φ i 0,(W.Φ i []).QY λg=>S0.Φ g 0,)
abbrev BP QCF(S0:LN):γ (υ×LN):=(γ.Q' W.β).QY (BX W S0)
abbrev Rd QCF Zg:υ->LN
 |0=>aF B
 |k+1=>aF (BP W QCq)
def FG(h:i<W.β):(BP W S0)[i]?<*BX W S0 i:=by
 rw[BP,nq,SI h];rfl
def Cq QCF(S0:LN):(BP W S0).β=W.β:=by simp[BP]
def Dv QRU{W:LL}QHP QAA:∀k,(Rd W B k).β=W.β
 |0=>by rw[Rd,Jx,h.bl]
 |k+1=>by rw[Rd,Jx,Cq]
def fz QAA(a:x∈Rd W B k):x<W.β:=by
 cases k with
 |V5=>rw[<-h.bl];show NF a
 |Vf k=>rw[<-Cq W QCq];show NF a
abbrev m_ QCF Zg(k r:υ):υ:=(Rd W B k).Φ r 0
def Jz QAA(d:r<W.β)(c:s<W.β):m_ W B 0 r=m_ W B 0 s↔B.Φ r μ=B.Φ s μ:=by
 let b:B[r]?<*(B[r]'(by rw[h.bl];show d)):=h_ _;let a:B[s]?<*(B[s]'(by rw[h.bl];show c)):=h_ _;rw[m_,m_,Rd,HQ b a,n0,n0,b,a];rfl
def B_ QAA(a:r<W.β):(W.Φ r []).β=L.β/\∀x∈W.Φ r [],x<W.β:=by
 let e:W.Φ r []=W[r]:=by rw[n0,h_ a];rfl
 rw[e];show h.YO _ QOj
abbrev Tf QCF(r i:υ):υ:=(W.Φ r []).Φ i 0
def BA QAA(a:r<W.β)(b:i<L.β):Tf W r i<W.β:=by
 let⟨h1,h2⟩:=B_ h a;rw[Tf,n0,h_ (AY b h1)];show h2 _ (RY _)
def FH Zp QCF(r c:υ):AE L W r c=Tf W r QAV:=ε
def ED QAA QMN QSt:m_ W B (k+1) r=m_ W B (k+1) s↔m_ W B k r=m_ W B k s/\∀i<L.β,m_ W B k QSu=m_ W B k QSv:=by
 rw[m_,m_,Rd,HQ (FG b) (FG a),BX,BX,Y0.mk.injEq];let⟨f,_⟩:=B_ h b;let⟨d,_⟩:=B_ h a;refine and_congr Iff.rfl (λe i c=>?_,λe=>γ.Yv λi=>?_)
 .have:=R7 (λl=>l[i]?) e;simp only[nq]at this;rw[h_ QKz,h_ QI0]at this;rw[Tf,Tf,n0 (l:=W.Φ r []),n0 (l:=W.Φ s []),h_ QKz,h_ QI0];show χ.δ.Tx this
 .by_cases c:i<L.β
  .have:=e i c;rw[Tf,Tf,n0 (l:=W.Φ r []),n0 (l:=W.Φ s []),h_ QKz,h_ QI0]at this;rw[nq,nq,h_ QKz,h_ QI0];show R7 δ this
  .rw [nq,nq,TD (Er f c),TD (Er d c)]
def Kr QAA(f:r<W.β)(d:s<W.β):∀QIX,j≤k->m_ W B k r=m_ W B k s->m_ W B j r=m_ W B j s:=by
 induction k with
 |V5=>intro j b e;rw[υ.le_zero.mp b];show e
 |Vf k c=>
  intro j b e;by_cases a:j=k+1
  .subst a;show e
  .exact c (zo64 a b) ((ED h f d).mp e).1
def JA QRU{W:LL}QHP QAA:∀{k:υ}{w:LN}{r s:υ},r<W.β->s<W.β->w.β≤k->QAS->m_ W B k r=m_ W B k s->B.Φ QJX μ=B.Φ QOk μ
 |k,[],r,s,b,a,_,_,e=>(Jz h b a).mp (Kr h b a (RP k) e)
 |0,c::w,r,s,b,a,f,_,e=>by simp at f
 |k+1,c::w,r,s,b,a,f,hw,e=>by
  let g:L.QJ c<L.β:=QE (hw c (!1));show JA h (k:=k) (w:=w) (BA h b g) (BA h a g) QRX (λd i=>hw d (by simp[i])) (((ED h b a).mp e).2 _ g)
def pC{W:LL}QHP{k:υ}QM4:∀j,Rd W B (k+j)=Rd W B k
 |0=>rfl
 |j+1=>by
  change aF (BP W (Rd W B (k+j)))=_;rw[pC e j];show e
def oG QAA QM4(q:m_ W B k r=m_ W B k s)QMN QSt QEO:m_ W B j r=m_ W B j s:=by
 by_cases c:j≤k
 .exact Kr h b a c q
 .have:=pC e (j-k);rw[show k+(j-k)=j by lia]at this;rw[m_,m_,this];show q
abbrev jK QBM(S0:LN):υ:=(γ.Q' n).countP λx=>decide (∃y,y<x/\S0.Φ y 0=S0.Φ x 0)
def LK{e:Type}{p q:e->Ω}:∀{l:γ e},(∀x∈l,p x=ο->q x=ο)->(∃x∈l,q x=ο/\p x=μ)->l.countP p<l.countP q
 |[],_,⟨x,b,_⟩=>by simp at b
 |a::l,d,⟨x,b,f,hp⟩=>by
  let g:l.countP p≤l.countP q:=γ.countP_mono_left λy c=>d y (by simp[c]);rw[γ.countP_cons,γ.countP_cons];rcases QW.mp b with ε|b
  .rw [f,hp];simp;show DF g
  .have:=LK (l:=l) (λy c=>d y (by simp[c])) (x,b,f,hp);let h1:=d a (!1);cases hpa:p a with
   |μ=>simp;lia
   |ο=>rw[h1 hpa];simp;omega
def jJ QAA(e:Rd W B (k+1)≠Rd W B k):jK W.β QEu<jK W.β QCq:=by
 refine LK (λx o hp=>?_) ?_
 .let o:=RN.mp o;let⟨y,D,f⟩:=ST hp;show Qr (y,D,((ED h (TL D o) o).mp f).1)
 .refine VH.VZ λF=>e ?_;let A:∀s,s<W.β->∀r,r<s->m_ W B k r=m_ W B k s->m_ W B (k+1) r=m_ W B (k+1) s:=by
   intro s;induction s using υ.strongRecOn with
   |_ s C=>
    intro d r g q;refine VH.VZ λp=>F (s,RN.Sj d,Qr (r,g,q),QN ?_);rintro⟨z,hz,l⟩;let l:m_ W B (k+1) z=m_ W B (k+1) s:=l;let E:=((ED h (TL hz d) d).mp l).1;rcases UD r z with c|c|c
    .exact p ((C z hz (TL hz d) r c (q.ξ E.QU)).ξ l)
    .subst c;show p l
    .exact p ((C r g (TL g d) z c (E.ξ q.QU)).QU.ξ l)
  let m:∀r s,r<W.β->s<W.β->(m_ W B (k+1) r=m_ W B (k+1) s↔m_ W B k r=m_ W B k s):=λr s g d=>by
   refine(λq=>((ED h g d).mp q).1,λq=>?_);rcases UD r s with c|c|c
   .exact A s d r c q
   .rw [c]
   .exact (A r g s c q.QU).QU
  cases k with
  |V5=>
   change aF (BP W (Rd W B 0))=aF B;refine Kq (by rw[Cq,h.bl]) λi j a b H G f n w v=>?_;let u:i<W.β:=by have:=(m8 f).1;rwa [Cq]at this
   let t:j<W.β:=by have:=(m8 n).1;rwa [Cq]at this
   rw[<-HQ f n,<-HQ w v];show m i j u t
  |Vf k=>
   change aF (BP W QEu)=aF (BP W QCq);refine Kq (by rw[Cq,Cq]) λi j a b H G f n w v=>?_;let u:i<W.β:=by have:=(m8 f).1;rwa [Cq]at this
   let t:j<W.β:=by have:=(m8 n).1;rwa [Cq]at this
   rw[<-HQ f n,<-HQ w v];show m i j u t
abbrev Td QCF Zg(k r s:υ):γ Ω:=((W.Φ r []).Xz QQQ).QY λp=>decide (m_ W B k p.1=m_ W B k p.2)
abbrev Tz QCF Zg(k r s:υ):υ:=(Td W B k r s).QJ μ
abbrev pw Zp QCF Zg:υ->υ->υ->LN
 |0,_,_=>[]
 |k+1,r,s=>L.Φ Zw 0::pw L W B k QK0 QK1
def Ks QAA QMN QSt(c:i<L.β):(Td W B k r s)[i]?<*decide (m_ W B k QSu=m_ W B k QSv):=by
 let⟨f,_⟩:=B_ h b;let⟨d,_⟩:=B_ h a;rw[Td,nq,Tf,Tf,n0 (l:=W.Φ r []),n0 (l:=W.Φ s [])];let e:((W.Φ r []).Xz QQQ)[i]?<*(QQR[i]' QKz,QQQ[i]' QI0,):=by
  rw[γ.XJ];show(h_ _,h_ _)
 rw[e,h_ QKz,h_ QI0];rfl
def Vc QAA QMN QSt:(Td W B k r s).β=L.β:=by
 let⟨d,_⟩:=B_ h b;let⟨c,_⟩:=B_ h a;rw[Td,j',γ.length_zip];lia
def ke QAA(d:r<W.β)(c:s<W.β)(l:m_ W B (k+1) r≠m_ W B (k+1) s)(n:m_ W B k r=m_ W B k s):Tz W B k r s<L.β/\m_ W B k QK0≠m_ W B k QK1/\∀i<Tz W B k r s,m_ W B k QSu=m_ W B k QSv:=by
 let m:μ∈Td W B k r s:=by
  refine VH.VZ λj=>l ((ED h d c).Sj (n,λi f=>VH.VZ λq=>j ?_));have:=Ks h (k:=k) d c f;rw[QN q]at this;show v7 this
 let a:Tz W B k r s<(Td W B k r s).β:=QE m;let g:Tz W B k r s<L.β:=by rw[Vc h d c]at a;show a
 refine(g,3,λi f=>?_)
 .let p:=SE a;let b:=Ks h (k:=k) d c g;rw[h_ a]at b;let o:decide (m_ W B k QK0=m_ W B k QK1)=μ:=by
   rw[<-χ.δ.Tx b];show p
  show of_decide_eq_false o
 .let b:=Ks h (k:=k) d c (i:=i) (GQ f g);refine VH.VZ λq=>?_;rw[QN q]at b;have:(Td W B k r s).QJ μ≤i:=by
   let e:=(m8 b);let⟨h1,h2⟩:=e;show HP b
  let t:Tz W B k r s≤i:=this;lia
def on QRU{W:LL}QHP QAA:∀{k r s:υ},r<W.β->s<W.β->m_ W B k r≠m_ W B k s->(∀j<k,m_ W B j r=m_ W B j s)->
  (pw L W B k r s).β=k/\(∀c∈pw L W B k r s,c∈L)/\B.Φ (SZ L W r QFh) μ≠B.Φ (SZ L W s QFh) μ/\
  ∀u:LN,ZK->B.Φ QJb μ≠B.Φ QJc μ->zg L u QFh=μ
 |0,r,s,o,n,z,_=>by
  refine(1,λc l=>by simp[pw]at l,λe=>z ((Jz h o n).Sj e),λu _ _=>?_);change zg L u []=μ;unfold zg;by_cases m:u.β=0
  .rw [Sq.mp m];rfl
  .rw [QC (by simpa using m)];simp
 |k+1,r,s,o,n,z,F=>by
  let⟨q,A,f⟩:=ke h o n z (F k Ji);let N:=BA h o q;let M:=BA h n q;let D:∀j<k,m_ W B j QK0=m_ W B j QK1:=λj O=>((ED h o n).mp (F (j+1) (IK O))).2 _ q;let⟨i1,i2,I,H⟩:=on h N M A D;let i:L.Φ Zw 0=L[Tz W B k r s]:=by rw[n0,h_ q];rfl
  let b:L.QJ QHR=Tz W B k r s:=by rw[i];show HN h.lt.nd q
  let w:L.Φ Zw 0∈L:=by rw[i];show RY q
  let n1:AE L W r QHR=Tf W r Zw:=by rw[FH,b]
  let G:AE L W s QHR=Tf W s Zw:=by rw[FH,b]
  refine(by rw[pw,Rz,i1],λc l=>?_,3,λu m v=>?_)
  .rw [pw,QW]at l;rcases l with ε|l
   .exact w
   .exact i2 c l
  .change B.Φ (SZ L W (AE L W r QHR) QTw) μ≠B.Φ (SZ L W (AE L W s QHR) QTw) μ;rw[n1,G];show I
  .let g:k+1≤u.β:=υ.lt_of_not_le λa=>v (JA h o n a m (F k Ji));let y:(pw L W B (k+1) r s).β=k+1:=by rw[pw,Rz,i1]
   cases u with
   |Tw=>simp at g
   |Rx c u=>
    let l:=m c (!1);let x:L.QJ c<L.β:=QE l;by_cases a:(c::u).β=k+1
    .let hpu':B.Φ (SZ L W QOl u) μ≠B.Φ (SZ L W (AE L W s c) u) μ:=v;let t:u.β=k:=by simpa using a
     let J:Tz W B k r s≤L.QJ c:=SU λC=>hpu' (JA h (BA h o x) (BA h n x) (VY t) (λd E=>m d (by simp[E])) (f _ C));unfold zg;rw[Fr (by rw[y];simpa using a),pw,aw];by_cases p:c=L.Φ Zw 0
     .rw [QC p];have:=H u (λd E=>m d (by simp[E])) (by rw[p,n1,G]at hpu';show hpu');unfold zg at this;rw[Fr (by rw[i1];simpa using t)]at this;show this
     .rw [Fr p,b];simp;omega
    .unfold zg;rw[QC (by rw[y];show a),y];simp;simp at g a;omega
abbrev jA Zp QCF Zg(r s:υ)(o:χ LN):Prop:=
 (o=ζ/\∀k,m_ W B k r=m_ W B k s)\/∃k,o=δ QFh/\m_ W B k r≠m_ W B k s/\∀j<k,m_ W B j r=m_ W B j s
def Kt QRU{W:LL}QHP QAA{k:υ}QIg:∀j≤k,jK W.β (Rd W B j)+j≤W.β
 |0,_=>by
  have:=γ.countP_le_length (p:=λx=>decide (∃y,y<x/\(Rd W B 0).Φ y 0=(Rd W B 0).Φ x 0)) (l:=γ.Q' W.β);rw[RC]at this;show this
 |j+1,a=>by
  let h1:=Kt h e j (!6);let h2:=jJ h (e j (!6));show II h2 h1
def nz QAA QIg:k≤4410000:=by
 let h1:=Kt h e k Zs;let h2:=h.n60;lia
def jA.spec(h:jA L W B r s o)QST(d:r<W.β)(b:s<W.β):(o=ζ->∀u:LN,ZK->B.Φ QJb μ=B.Φ QJc μ)/\
  ∀w,o<*w->QAS/\w.β≤W.β/\B.Φ QJX μ≠B.Φ QOk μ/\∀u:LN,ZK->B.Φ QJb μ≠B.Φ QJc μ->zg L u w=μ:=by
 rcases h with⟨f,h2⟩|⟨k,f,h2,e⟩<;>subst f
 .exact (λ_ u l=>JA a d b Zs l (h2 u.β),λw z=>by cases z)
 .refine (λz=>(by cases z),λw z=>?_);cases z;let⟨i1,i2,j,g⟩:=on a d b h2 e;refine(i2,3,j,g);rw[i1];let n:=Kt a (k:=k) (λi m z=>h2 (oG a z (e i m) d b k)) k Zs;lia
end RA
namespace L2
open PySem.Spec PyProof.Rows
section
variable{κ:Type}[R_ κ]
abbrev aL(Ri:γ QIt)(k:κ):χ V:=(Ri.find? λkv=>decide (kv.1=k)).QY QA2
def jH{p:κ×V}{r:γ QIt}{k:κ}(e:p.1=k):aL (p::r) k<*p.2:=by simp[aL,U_,e]
def jI{p:κ×V}{r:γ QIt}{k:κ}(e:¬ p.1=k):aL (p::r) k=aL r k:=by simp[aL,U_,e]
def KV.val QUQ{vs:γ (κ×η)}(r:KV Ri vs)(k:κ):aJ (aL Ri k) QPd:=by
 unfold KV at r;induction r with
 |Tw=>show Tg.Sy
 |@Rx p q ps a h t c=>
  let⟨h1,h2⟩:=h;by_cases e:p.1=k
  .let e':q.1=k:=h1.QU.ξ e;let b:WA (q::a) k<*q.2:=by simp[WA,U_,e']
   rw[jH e,b];show h2
  .let e':¬ q.1=k:=λz=>e (h1.ξ z);let b:WA (q::a) k=WA a k:=by simp[WA,U_,e']
   rw[jI e,b];show c
end
def Ov(r:af (kV k) u):(E1 P w).is k u=ο:=by
 cases k with
 |RB i=>let⟨t,e⟩:=(show ∃t,u=η.QB i t from r);subst e;show Cj P w i t
 |RF x=>let⟨t,e⟩:=(show ∃t,u=η.Qn x t from r);subst e;show No P w x t
structure pE QKa Z' ZZ QMP QUK:Prop where
 at_:∀h:Qx,K.In h->∃vs,KV Ri vs/\h.DictOf QRG d vs
 ns:(d==S4)=μ
section
variable{X:Cx}{d:θ}{Ri:γ QHI}
inductive LM QMP QUK(x:V)(y:V)ZC ZV:Prop
 |mk (k v:_) QSU (_:y=kV k) (_:aL Ri k<*v) QJR
def HR(D:pE X.BT X.w X.K d Ri):CK X (LM d Ri):=by
 intro a b f s m H x y v u Q I i g h l;let⟨k,z,ε,ε,j,q⟩:=h;cases i;let⟨vs,e,dd⟩:=D.at_ _ I.Xp;let⟨n,hw,c⟩:=aJ.some_of (v:=z) (o:=WA vs k) (by rw[<-j];show e.val k);show tail_any (ops:=[.ν d,u]) dd.Vz Ξ.F.slot_dict_getitem.ρ (wpAny_getItem_of (Ov g) dd.mapOf hw (z,H,I.X0 _,c,q)) l
end
abbrev uE QPS:η->Ω
 |.T9 c=>c==b
 |_=>μ
def HS(h:uE b v=ο):v=.T9 b:=by
 cases v with
 |T9 c=>rw[WU (show(c==b)=ο from h)]
 |_=>show QG (show μ=ο from h) Ω.Q9
abbrev EE QKa Z':Ξ.KeyKind P w Ω where
 is:=uE
 hash:=λb=>reduceHash (if b then 1 else 0)
 Tx:=λv a b ha hb=>by
  let e:=(HS ha).QU.ξ (HS hb)
  cases e
  rfl
 byValue:=λk v h=>by rw[HS h];rfl
 YK:=λ{A E s k v Q}h q=>by
  cases HS h
  refine Ξ.W.pyHash_slot (T:="bool") ε F.slot_bool_hash entry_int_hash (args_int_hash _) QGr Zv ?_
  cases k
  .exact (show Cl _ _ (do ret (<-mkInt 0)) _ _ s from f_ (X7 (i_ (9,q))))
  .exact (show Cl _ _ (do ret (<-mkInt 1)) _ _ s from f_ (X7 (i_ (9,q))))
 eqBool:=λ{A E s a b u v Q}ha hb q=>by
  cases HS ha
  cases HS hb
  let e:(a==b)=decide (a=b):=by cases a<;>cases b<;>rfl
  show Sa.U6.bool_bool a b _ _ _ _ (by rw[e];show q)
 «strs»:=λk x t v h=>QG (show μ=ο from h) Ω.Q9
@[reducible]def NK:=Nat×LN
abbrev zs(ks:LN):γ ψ:=ks.QY λ(n:υ)=>(n:ψ)
def iq(h:zs a=zs b):a=b:=by
 induction a generalizing b with
 |Tw=>cases b with
  |Tw=>rfl
  |Rx y b=>cases h
 |Rx x a c=>cases b with
  |Tw=>cases h
  |Rx y b=>
   let h:((x:ψ)::zs a)=((y:ψ)::zs b):=h;injection h with h1 h2;rw[c h2,ψ.ofNat.Tx h1]
section
variable(P:IO)(w:QV)
abbrev wu QKF(k:NK)QBz:Prop:=∃(o:UP)(n:υ)(t:Tok)(b:θ),h.Δ a=δ o/\o.SN=.QH "tuple"/\o.RD=.V8 #[.QB (k.1:ψ) t,.ν b] n/\Y1 QBT h (zs k.2) b
abbrev dR(k:NK):ψ:=reduceHash (Builtin.Wo.tupleHashOf [hashInt (k.1:ψ),tupleKeyHash QBT (zs k.2)])
end
section
variable{P:IO}{w:QV}
def wu.Tx(i:wu P w h x a)(g:wu P w h y a):x=y:=by
 let⟨o,n,t,b,h1,_,k,j⟩:=i;let⟨E,F,t',z,d,_,c,l⟩:=g;rw[h1]at d;cases d;rw[k]at c;injection c with v _;let u:[η.QB (x.1:ψ) t,.ν b]=[η.QB (y.1:ψ) t',.ν z]:=R7 Ry.Qq v;injection u with s r;injection s with q _;injection r with p _;injection p with m;subst m;let f:=iq (j.Tx l);let e:x.1=y.1:=ψ.ofNat.Tx q;let⟨D,C⟩:=x;let⟨B,A⟩:=y;simp only at f e;rw[f,e]
def wu.Tn{l m}(x:wu P w h k a)(c:h.Δ d<*o)(e:o.RD=.Ux l m)(f:Th d h h'):wu P w h' k a:=by
 let⟨i,n,t,b,h1,h2,g,j⟩:=x;refine(i,n,t,b,(f.2 a ?_).ξ h1,h2,g,j.Tn c e f);rintro ε;rw[h1]at c;cases c;rw[g]at e;cases e
def wu.RJ(x:wu P w h k a):∃t b,h.Vm a #[.QB (k.1:ψ) t,.ν b]/\Y1 QBT h (zs k.2) b:=by
 let⟨o,n,t,b,h1,h2,d,c⟩:=x;show(t,b,(o,h1,h2,n,d),c)
def qA(c:A.S3+1<UV)QSw(q:Q (dR P w k) {s with Qs:=s.Qs+(k.2.β+3)}):Cl QAC A (YK ZW) Q E s:=by
 let⟨o,n,t,b,h1,h2,f,d⟩:=x;refine Ξ.W.pyHash_slot (T:="tuple") QOW F.slot_tuple_hash F.entry_tuple_hash QM5 QGr (.RF (Fl c)) ?_;refine f_ (m:=Builtin.Wo.tupleItemsOf ZW) (wpAny_tupleItemsOf h1 f QDM);rw[<-Yt];change Cl _ _ (forIn [η.QB (k.1:ψ) t,.ν b] _ _) _ _ _;rw[U8];refine f_ (f_ (wpAny_pyHash_int QRY));dsimp only;rw[U8];refine f_ (f_ (wpAny_pyHash_tuple (knd:=SB P w) (by change A.Xq.S3<UV;rw[Qo.Vw];show c) d QRY));dsimp only;rw[WQ];refine i_ ?_;refine f_ (X7 (i_ (9,3)));let e:s.Qs+1+((zs k.2).β+1)+1=s.Qs+(k.2.β+3):=by
  have:(zs k.2).β=k.2.β:=by simp[zs]
  lia
 simpa[e,dR]using q
def iw(x:Y1 QBT h ks b):Y1 (SB g f) h ks b:=by
 let⟨o,Rc,n,h1,h2,e,c⟩:=x;refine(o,Rc,n,h1,h2,e,3);generalize Rc.Qq=l at c⊢;induction c with
 |Tw=>show .Tw
 |Rx a _ d=>show .Rx a d
def xj(D:A.S3+1<UV)(v:wu P w s.π x a)(r:wu P w s.π y b)QAa(Q:Ω->ω->Prop)QOm:Cl QAC A (eqBool ZW QCa) Q E s:=by
 by_cases g:a=b
 .subst g;let e:=v.Tx r;rw[Qr e]at q;show Sa.U6.SL ZW P w E Q q
 .obtain ⟨t,c,h1,h2⟩:=v.RJ;let⟨u,d,G,F⟩:=r.RJ;let i:A.Xq.S3<UV:=by rw[Qo.Vw];show D
  let f:Sa.U6 A.Xq s (.ν c) (.ν d) (decide (zs x.2=zs y.2)):=λH B J I C=>wpAny_eqBool_tuple (knd:=SB H B) i (iw h2) (iw F) C;let Tk:=Sa.U6.of_refs (A:=A) g (Sa.RcAt.tuples (s:=s) (e:=λj=>if j=0 then((x.1:ψ)==(y.1:ψ))else decide (zs x.2=zs y.2)) h1 G (Fl D) (λj l1 l2=>by
   match j,l1,l2 with
   |0,_,_=>show Sa.U6.int_int _ t _ u
   |1,_,_=>show f
   | n+2,l1,_=>show QG l1 (by change ¬ (n+2<2);show Go)))
  refine Tk P w E Q ?_;let e:((γ.Q' (min (#[η.QB (x.1:ψ) t,.ν c]:Ry η).Qw (#[η.QB (y.1:ψ) u,.ν d]:Ry η).Qw)).Tk (λj=>if j=0 then((x.1:ψ)==(y.1:ψ))else decide (zs x.2=zs y.2))&&(#[η.QB (x.1:ψ) t,.ν c]:Ry η).Qw==(#[η.QB (y.1:ψ) u,.ν d]:Ry η).Qw)=decide (x=y):=by
   change (((x.1:ψ)==(y.1:ψ))&&(decide (zs x.2=zs y.2)&&ο)&&ο)=_;let⟨p,o⟩:=x;let⟨m,l⟩:=y;by_cases h:p=m
   .by_cases k:o=l
    .subst h k;simp
    .have:zs o≠zs l:=λz=>k (iq z);simp[h,k,this]
   .have:¬ ((p:ψ)=(m:ψ)):=λz=>h QK2;simp[h,this]
  rw[e];show q
def Ku(x:s.π.Vm a b)(g:∀v∈b.Qq,∀(R:Ω->ω->Prop),R ο s->Cl QAC A (eqIsQuiet n v) R E s)(q:Q ο s):Cl QAC A (eqIsQuiet (n+1) ZW) Q E s:=by
 let⟨o,h1,h2,m,h⟩:=x;let d:s.Vh ZW "tuple":=QOW;unfold eqIsQuiet;refine f_ (VT d F.slot_tuple_eq.ρ (f_ (m:=isInstance ZW (.QH "tuple")) (Vs d isSubtype_tuple_tuple ?_)));simp only[Ω.not_true,Ω.YN,Xr];refine f_ (Tp h1 h QDM);change Cl _ _ (forIn b _ _) _ _ _;rw[<-Yt];refine wpAny_forIn_list _ (λXQ r s'=>r.1=ζ/\s'=s/\∀v∈XQ,v∈b.Qq) _ ?_ ?_ _ _ (5,λv e=>e)
 .rintro v XQ r s'⟨c,ε,Tk⟩;refine f_ (g v (Tk v Rh) _ ?_);simp only[Ω.not_true,Ω.YN,Xr];show i_ (5,λu f=>Tk u (QP _ f))
 .rintro⟨j,i⟩s'⟨c,ε,_⟩;simp only at c;subst c;show i_ q
def mV QSw(q:Q ο s):Cl QAC A QTx Q E s:=by
 let⟨t,b,h1,h2⟩:=x.RJ;refine Ku (n:=7) h1 QK3 q;let c:v∈[η.QB (k.1:ψ) t,.ν b]:=c;rcases QW.mp c with ε|c
 .rw [YD _ ε];show i_ r
 .rw [wh c];let⟨o,Rc,n,g,f,e,d⟩:=h2;refine Ku (n:=6) (o,g,f,n,e) QK3 r;rw[YD _ (d.byValue v c)];show i_ r
end
abbrev t7 QKa Z':HeapKind P w NK where
 is:=wu P w
 hash:=dR P w
 draws:=λk=>k.2.β+3
 room:=λA=>A.S3+1<UV
 Tx:=λa b=>a.Tx b
 Tn:=λx ho hd hs=>x.Tn ho hd hs
 YK:=λhu hk h=>qA hu hk h
 eqBool:=λhu hx hy h=>xj hu hx hy _ _ h
 quiet:=λhk h=>mV hk h
section
variable{X:Cx}{elt UG:SF}{x y:QL}{px py pt RX:T6}{kt:υ}{sc:TB}{wi:TI}{te:TE}
abbrev cZ ZZ(wi:TI)QNq:TE:=λσ H Q=>wi σ H λJ H1=>∀D,H1 D=ζ->∃W:υ->υ->γ V->Hp->Prop,
 (∃m,W 0 m [] (QO H1 D (.QM [])))/\∀i m ys H2,W i m ys H2->H2 D=δ (.QM ys)/\((J.Wb i H2/\Q (.ν D) H2)\/(J.go i H2/\ys.β<Λ/\∀x H3,J.yld i H2 x H3->
  ∃p a b,x=.ν p/\pu K H3 p [a,b]/\te (δ a::δ b::σ) H3 λy H5=>H5 D=δ (.QM ys)/\∃m',m'<m/\W (i+1) m' (ys++[y]) (QO H5 D (.QM (ys++[y])))))
end
section
variable{BT:IO}{w:QV}{A:Qo}{E:η->ω->Prop}{s:ω}{it t:θ}{i:υ}{items:Ry η}
def mU(a:s.π.XN it t i)(g:s.π.Vm t items)(f:items[i]?<*x)(j:∀h',h'.XN it t (i+1)->Th it s.π h'->Q x {s with π:=h'}):Cl ZR A QM6 Q E s:=by
 let⟨o,c,h,b⟩:=id a;let⟨k,d,_,l,e⟩:=g;unfold Builtin.Tv.nextOf;refine f_ (Sc (So:=QL.S5 "__next__") a.Vz F.V7 (SS F.V7 a.Vz F.entry_tuple_iterator_next ?_ QIh));refine f_ (m:=field QBb 0) (RL c b (x:=.ν t) ε (Ro ε (f_ (m:=field QBb 1) (RL c b (x:=.QB i 0) ε (f_ (m:=seqItems? QBZ) (Tp d e ?_))))));simp only[UC,f];refine f_ (Us c b (!1) (i_ (x,1,i_ (j _ (_,Rk _ c (TZ (SY b _)),(UP.cls_mapFields ..).ξ h,3) QSx))));rw[SY b];simp[R0]
def qz(h:A.SV=ζ)(b:s.π.XN it t i)(k:s.π.Vm t items)(j:items[i]?=ζ)(l:∀h' e,Qx.ExtBut it s.π h'->(∃o,h'.Δ e=δ o/\o.SN=.QH "StopIteration")->E Z6 {s with π:=h'}):Cl ZR A QM6 Q E s:=by
 let⟨o,d,q,g⟩:=id b;let⟨n,c,_,p,f⟩:=k;unfold Builtin.Tv.nextOf;refine f_ (Sc (So:=QL.S5 "__next__") b.Vz F.V7 (SS F.V7 b.Vz F.entry_tuple_iterator_next ?_ QIh));refine f_ (m:=field QBb 0) (RL d g (x:=.ν t) ε (Ro ε (f_ (m:=field QBb 1) (RL d g (x:=.QB i 0) ε (f_ (m:=seqItems? QBZ) (Tp c f ?_))))));simp only[UC,j];refine f_ (Ww (f_ (Us d g (!1) (f_ (m:=newExc (.QH "StopIteration") []) ?_))));simp only[newExc,newTuple];refine f_ (Sf (f_ (m:=firstArgMember _ _) (SK (a:=η.ζ) (by first|rfl|(simp only[firstArgMember];rfl)) QFo)) (by size_fits));simp only[raiseNew];refine f_ QEc;first|rw[show A.Xq.SV=ζ from h]|rw[h]
 show f_ (i_ (X6 (l _ _ (((Th.Sm ..).Wj.Ra _).Ra _) QD1)))
end
def IsTup.Tn{h h':Qx}(x:h.Vm t a)(k:∀o,h.Δ t<*o->h'.Δ t<*o):h'.Vm t a:=let⟨o,e,r⟩:=x;(o,k o e,r)
def zU(k:A.SV=ζ)(it t:θ)(d:t≠it)(a:Ry η):Draws BT w A it [it,t] a.Qw (λi v=>a[i]?<*v) (λi h=>h.XN it t i/\h.Vm t a)  where
 live:=λ_ _ st=>let⟨o,j,_⟩:=st.1;(o,j)
 Vy:=λ_ _ _ st f=>(st.1.at λo e=>f it (!1) o e,IsTup.Tn st.2 λo e=>f t (!1) o e)
 YW:=λi s Q E g st l=>mU st.1 st.2 (x:=a[i]) (by simp[g]) λh' c b=>l _ h' s.Qs (by simp[g]) (c,IsTup.Tn st.2 λo e=>(b.2 t d).ξ e) b
 done:=λs Q E st m=>qz k st.1 st.2 (!1) m
def pU:isSubtype (.QH "enumerate") (.QH "enumerate")=pure ο:=by rw[UK];kernel_rfl
section
variable{X:Cx}{elt UG:SF}{x:QL}{px RX:T6}{ifs:γ SF}{sc:TB}{wi:TI}{tt:TT}{te:TE}
end
structure EF QKa Z'(κ:Type)[R_ κ] where
 knd:HeapKind P w κ
 kin:Hp->κ->θ->Prop
 ok:∀QE4{h:Qx}{k:κ}QHz,kin H k a->Aj P w H h->knd.is h k a
 room:∀QMK,A.S3+64<UV->knd.room A.Xq/\knd.room A
 Wq:∀QG5{k:κ}QHz,(∀b xs,H b<*.RJ xs->H' b<*.RJ xs)->kin H k a->kin H' k a
abbrev FI ZC(k:γ ψ)QBz:Prop:=H a<*.RJ (k.QY V.QB)
abbrev Fa ZC(k:NK)QBz:Prop:=∃b,H a=δ QLw/\H b<*.RJ ((zs k.2).QY V.QB)
def items_int{P:IO}QE8:∀{ks:γ ψ}QBq,ae (ks.QY V.QB) us->ItemsAre QBT ks us
 |[],_,r=>by rw[γ.map_nil]at r;cases r;show .Tw
 |k::ks,_,r=>by
  rw[Tq]at r;cases r with
  |Rx h t=>
   let⟨u,ε⟩:=(show ∃t,_=η.QB k t from h);show .Rx (by change η.isInt k (.QB k u)=ο;simp[η.isInt]) (items_int t)
def mf(e:FI H k a)QHJ:Y1 QBT h k a:=by
 let⟨_,Rc,r,o,h1,h2,n,b⟩:=(show Aq P w H h a (.RJ (k.QY V.QB))from ok a _ e);show(o,Rc.Θ,n,h1,h2,b,by simpa using items_int r)
abbrev Fb QKa Z':EF P w QM3 where
 knd:=tupleKind QBT
 kin:=FI
 ok:=λe ok=>mf e ok
 room:=λ{A}hu=>(by change A.Xq.S3<UV;rw[Qo.Vw];show GV hu,by change A.S3<UV;show IM hu)
 Wq:=λs e=>s _ _ e
abbrev Eh QKa Z':EF P w NK where
 knd:=t7 P w
 kin:=Fa
 ok:=λ{H h k a}e ok=>by
  let⟨b,e1,e2⟩:=e
  let⟨_,Rc,r,o,h1,h2,n,h3⟩:=(show Aq P w H h a QLw from ok a _ e1)
  let⟨u1,u2,ε,r1,r2⟩:=b8 r
  let⟨t,ε⟩:=(show ∃t,u1=η.QB (k.1:ψ) t from r1)
  cases(show u2=η.ν b from r2)
  show(o,n,t,b,h1,h2,h3,mf e2 ok)
 room:=λ{A}hu=>(by change A.Xq.S3+1<UV;rw[Qo.Vw];show IP hu,by change A.S3+1<UV;show GV hu)
 Wq:=λs hZ1=>by let⟨b,e1,e2⟩:=hZ1;show(b,s _ _ e1,s _ _ e2)
abbrev Dc{P:IO}QE8{κ:Type}[R_ κ](knd:Ξ.KeyKind P w κ)QMP(Ri:γ QIt):HO:=.ext λh=>(d==S4)=μ/\Ri.β≤Λ/\∃vs,KV Ri vs/\h.DictOf knd d vs
instance HU(κ:Type):QFN->QOn->Prop:=λp q=>p.1=q.1/\p.2.1=q.2.1/\af p.2.2 q.2.2
abbrev Bj{P:IO}QE8{κ:Type}[R_ κ](D:EF P w κ)QMP(Ri:γ QFN):HO:=.ext λh=>(d==S4)=μ/\Ri.β≤Λ/\∃xs,Vr (HU κ) Ri xs/\
 ∃o es ep,h.Δ d=δ o/\o.ExactDict/\o.RD=.Ux es ep/\es.Qq=xs.QY (entryOfKey D.knd)/\(xs.QY Z9).Rq
section
variable{P:IO}{w:QV}{κ:Type}[R_ κ]
def kD QRZ QE4{h:Qx}{d:θ}QUQ{vs:γ (κ×η)}QHS(c:Ri.β≤Λ)(r:KV Ri vs)(dd:h.DictOf knd d vs):Aq P w H h d (Dc knd d Ri):=by
 refine((ns,c,vs,r,dd),let⟨o,_,_,e,_⟩:=dd;(o,e),λh1 h2 a b=>?_);let⟨j,i,vs,r,o,f,g,e,q⟩:=a;show(j,i,vs,r,o,f,g,b o e,q)
def g9{D:EF P w κ}QE4{h:Qx}{d:θ}QUR{xs:γ QOn}QHS(l:Ri.β≤Λ)QQS(dd:h.DictOfH D.knd d xs):Aq P w H h d (Bj D d Ri):=by
 let⟨o,c,f,e,k,j,i,_,g⟩:=dd;refine((ns,l,xs,r,o,c,f,e,k,j,i,g),(o,e),λh1 h2 a b=>?_);let⟨n,m,vs,r,o,c,f,e,q⟩:=a;show(n,m,vs,r,o,c,f,b o e,q)
def bp QRZ QE4{h:Qx}{d:θ}QUQ QHJ(e:H d<*Dc knd d Ri):(d==S4)=μ/\Ri.β≤Λ/\∃vs,KV Ri vs/\h.DictOf knd d vs:=(ok d _ e).1
def eK{D:EF P w κ}QE4{h:Qx}{d:θ}QUR QHJ QDa(f:∀x∈Ri,D.kin H x.1 x.2.1):(d==S4)=μ/\Ri.β≤Λ/\∃xs,Vr (HU κ) Ri xs/\h.DictOfH D.knd d xs:=by
 let⟨u,g,xs,r,o,m,n,s,j,i,c,b⟩:=(ok d _ e).1;refine(u,g,xs,r,o,m,n,s,j,i,c,3,b);clear c b e g;induction r with
 |Tw=>intro x a;simp at a
 |@Rx p q ps v h t k=>
  intro x a;rcases QW.mp a with ε|a
  .have:=D.ok (f p (!1)) ok;rw[<-h.1,<-h.2.1];show this
  .exact k (λy l=>f y (by simp[l])) x a
abbrev aP(Ri:γ QFN)(k:κ):χ V:=(Ri.find? λx=>decide (x.1=k)).QY (·.2.2)
def nc QUR{xs:γ QOn}QQS(k:κ):aJ (aP Ri k) QOo:=by
 induction r with
 |Tw=>show Tg.Sy
 |@Rx p q ps a h t d=>
  by_cases e:p.1=k
  .let e':q.1=k:=h.1.QU.ξ e;let c:aP (p::ps) k<*p.2.2:=by simp[aP,U_,e]
   let b:atKey (q::a) k<*q.2:=by simp[atKey,U_,e']
   rw[c,b];show h.2.2
  .let e':¬ q.1=k:=λz=>e (h.1.ξ z);let c:aP (p::ps) k=aP ps k:=by simp[aP,U_,e]
   let b:atKey (q::a) k=atKey a k:=by simp[atKey,U_,e']
   rw[c,b];show d
def iQ{d c:Type}{F:d->c->Prop}{a:d}{b:c}(h:F a b):∀{l:γ d}{m:γ c},Vr F l m->Vr F (l++[a]) (m++[b])
 |_,_,.Tw=>.Rx h .Tw
 |_,_,.Rx r t=>.Rx r (iQ h t)
def LO(r:aJ o u):o.Vg=u.Vg:=by
 cases o<;>cases u<;>first|rfl|show(show Rl from r).SG
end
section
variable{X:Cx}{QF:γ Z_}{σ:St}{H:Hp}{s:ω}{d:θ}
def g_.bigS Y_:S4<s⁻¹:=by
 let h:Q_<s⁻¹:=(I.mod.glob.Tn I.bk).lt;show TL (!0) h
abbrev x9 QKa Z' ZC QMP(y:V)(r:χ V):Prop:=
 (∃Ri k,H d=δ QEd/\y=.bl k/\r=aL Ri k) \/
 (∃Ri k b,H d=δ QEe/\QET/\y=.ν b/\Fa H k b/\r=aP Ri k) \/
 ∃Ri k b,H d=δ (Bj QRa d Ri)/\QLZ/\y=.ν b/\FI H k b/\r=aP Ri k
abbrev NG QKa Z' ZC QMP(y v:V)QAe:Prop:=
 (∃Ri k,H d=δ QEd/\y=.bl k/\aL Ri k=ζ/\Ri.β<Λ/\H'=QO H d (Dc (EE P w) d QLx)) \/
 (∃Ri k b,H d=δ QEe/\QET/\y=.ν b/\Fa H k b/\aP Ri k=ζ/\Ri.β<Λ/\H'=QO H d (Bj (Eh P w) d QDg)) \/
 ∃Ri k b,H d=δ (Bj QRa d Ri)/\QLZ/\y=.ν b/\FI H k b/\aP Ri k=ζ/\Ri.β<Λ/\H'=QO H d (Bj QRa d QDg)
abbrev NH QKa Z' ZC QMP QBM:Prop:=
 (∃Ri,H d=δ QEd/\n=Ri.β)\/∃Ri,H d=δ QEe/\n=Ri.β
def uM QFw[R_ a]QLT QIq{k:a}Zz{v:V}QMK QCw{Q:η->ω->Prop}(m:A.S3+64<UV)Y_ QDa(n:∀x∈Ri,D.kin H x.1 x.2.1)(j:D.kin H k b)(l:δ v=aP Ri k)(h:∀c s',g_ X QF σ H s'->af v c->Q c s'):Cl Y9 A (getItem QCk QCa) Q E s:=by
 let⟨_,_,xs,g,dd⟩:=eK I.S7 e n;let⟨c,hw,f⟩:=aJ.some_of (v:=v) (o:=(atKey xs k).QY QA2) (by rw[l];show nc g k);let⟨p,hp,i⟩:=AS hw;refine wpAny_getItem_heap (D.room m).1 (D.ok j I.S7) dd hp ?_;rw[i];show h c _ QRK f
def jh QFw[R_ a]QLT QIq{k:a}Zz QMK QCw{Q:η->ω->Prop}(g:A.S3+64<UV)Y_ QDa(i:∀x∈Ri,D.kin H x.1 x.2.1)(f:D.kin H k b)(h:∀s',g_ X QF σ H s'->Q (.T9 (!(aP Ri k).Vg)) s'):Cl Y9 A (Sv .NotIn QCa QCk) Q E s:=by
 let⟨ns,_,xs,c,dd⟩:=eK I.S7 e i;refine wpAny_notIn_heap (D.room g).1 (D.ok f I.S7) ns dd ?_;let q:=LO (nc c k);rw[χ.isSome_map]at q;rw[<-q];show h _ QRK
def Kv Y_(mu:Jo (H d))(f:Th d s.π h')(g:∃q,h'.Δ d<*q)(a:Aq X.BT X.w (QO H d c) h' d c):g_ X QF σ (QO H d c) {s with π:=h',Qs:=t'}:=
 I.write (x:=d) (e:=d) mu Zv (λb q h z=>(f.2 b h).ξ z) g a
def yn QFw[R_ a]QLT QIq{xs:γ (a×θ×η)}{k:a}Zz{v:V}{r:η}{h':Qx}{t':υ}Y_ QDa QHS(i:Ri.β<Λ)(c:Vr (HU a) Ri xs)(h:aP Ri k=ζ)(f:af v r)(dd:h'.DictOfH D.knd d (storedH xs k b r))(g:Th d s.π h'):g_ X QF σ QOp {s with π:=h',Qs:=t'}:=by
 let q:=aJ.none_of (show aJ ζ QOo by rw[<-h];show nc c k);rw[storedH_new (χ.map_eq_none_iff.mp q)]at dd;show Kv I (by rw[e];show Tg.Sy) g (let⟨o,_,_,q,_⟩:=dd;(o,q)) (g9 ns (by rw[u4];show i) (iQ (F:=HU a) (5,f) c) dd)
def uL{c:Type}[R_ c]{D:EF X.BT X.w c}{Ri:γ (c×θ×V)}{k:c}Zz{v:V}{r:η}QMK QCw{Q:Unit->ω->Prop}(j:A.S3+64<UV)Y_ QDa(o:∀x∈Ri,D.kin H x.1 x.2.1)(i:D.kin H k b)(m:aP Ri k=ζ)(n:Ri.β<Λ)(g:af v r)(h:∀s',g_ X QF σ QOp s'->Q () s'):Cl Y9 A (setItem QCk QCa r) Q E s:=by
 let⟨ns,hz,xs,a,dd⟩:=eK I.S7 e o;show wpAny_setItem_heap (hsz:=by rw[<-Vr.β a];show hz) (D.room j).1 (D.ok i I.S7) dd λh' f l=>h _ (yn I e ns n a m g f l)
def jf{Ri:γ (a×V)}{vs:γ (a×η)}{k:a}(b:KV Ri vs)(c:af v r):KV QLx (vs++[(k,r,)]):=iQ (F:=λ(p:a×V)(q:a×η)=>p.1=q.1/\af p.2 q.2) (1,c) b
def LP QFw[R_ a]{vs:γ (a×η)}{k:a}{r:η}(h:WA vs k=ζ):stored vs k r=vs++[(k,r,)]:=by
 unfold stored;rw[Fr];intro q;rw[WZ]at q;let⟨x,b,e⟩:=q;unfold WA at h;rw[χ.map_eq_none_iff,γ.find?_eq_none]at h;show h x b e
def oH QHS(b:s.π.Δ d<*o)(f:o.ExactDict)(e:o.RD=.Ux a i)(hz:a.Qw≤Λ)(h:∀t t',Q (.QB (a.Qw:υ) t) {s with Qs:=t'}):Cl Y9 A (Ub (.Qu "len") [.ν d]) Q E s:=by
 let c:s.Vh QCk "dict":=(o,b,f.1);let g:(a.Qw:ψ)<2^63:=by rw[Sw]at hz;lia
 refine Vn.call_function_entry kind_len plain_len entry_len (args_len1 _) ?_;unfold Builtin.«len»;refine f_ (m:=oneArg "len" _) (i_ (f_ (m:=callSpecial? QCk (QL.S5 "__len__")) (Sc (So:=QL.S5 "__len__") c F.slot_dict_len (SS F.slot_dict_len c F.entry_dict_len ?_ (F.args_dict_len_1 _)))));refine f_ (m:=dictSize d) ?_;unfold dictSize;refine f_ (wpAny_dictEntries b e (i_ (f_ (m:=Builtin.Dict.pendingCount d) (wpAny_pendingCount_other ns (f_ (X7 (i_ (0,f_ (RZ (i_ QOq))))))))));refine Ro (!1) (Ro (by simp;lia) (f_ (X7 (i_ (0,3)))));simpa using h _ _
end
section
variable{X:Cx}
inductive wJ QKa Z'(x:V)(y:V)ZC ZV:Prop
 |mk (d o:_) (_:y=.ν d) (_:x9 P w H d x o) QPe
def qk(m:X.A.S3+64<UV):Ad X QQA (wJ X.BT X.w):=by
 intro l s p H x y v u Q I a n h;let⟨d,o,ε,g,q⟩:=h;cases n;rcases g with⟨Ri,k,e,ε,ε⟩|⟨Ri,k,b,e,i,ε,f,ε⟩|⟨Ri,k,b,e,i,ε,f,ε⟩
 .cases a;let⟨ns,_,vs,c,dd⟩:=bp I.S7 e;refine wpAny_notIn_of (knd:=EE X.BT X.w) (k:=k) (show uE k (.T9 k)=ο by cases k<;>rfl) ns dd.mapOf ?_;rw[<-LO (c.val k)];show QRb
 .cases a;show jh (D:=Eh X.BT X.w) m I e i f λs' j=>(.bl _,H,j,1,q)
 .cases a;show jh (D:=Fb X.BT X.w) m I e i f λs' j=>(.bl _,H,j,1,q)
def xJ{f:St}(I:g_ X c f H s)(g:x9 X.BT X.w H d y o):s.Vh QCk "dict":=by
 rcases g with⟨Ri,k,e,_⟩|⟨Ri,k,b,e,a,_⟩|⟨Ri,k,b,e,a,_⟩
 .obtain ⟨_,_,vs,_,dd⟩:=bp I.S7 e;show dd.Vz
 .obtain ⟨_,_,vs,_,dd⟩:=eK (D:=Eh X.BT X.w) I.S7 e a;show dd.Vz
 .obtain ⟨_,_,vs,_,dd⟩:=eK (D:=Fb X.BT X.w) I.S7 e a;show dd.Vz
inductive NI QKa Z'(x:V)(y:V)ZC ZV:Prop
 |mk (d v:_) QSU (_:x9 P w H d y QFa) QJR
def uB(B:X.A.S3+64<UV):CK X (NI X.BT X.w):=by
 intro c f t s G H x y v u Q I C i h E;let⟨d,z,ε,g,q⟩:=h;cases C;refine tail_any (ops:=[.ν d,u]) (xJ I g) Ξ.F.slot_dict_getitem.ρ ?_ E;rcases g with⟨Ri,k,e,ε,l⟩|⟨Ri,k,b,e,n,ε,m,l⟩|⟨Ri,k,b,e,n,ε,m,l⟩
 .cases i;let⟨ns,_,vs,j,dd⟩:=bp I.S7 e;let⟨r,hw,a⟩:=aJ.some_of (v:=z) (o:=WA vs k) (by rw[l];show j.val k);show wpAny_getItem_of (knd:=EE X.BT X.w) (k:=k) (show uE k (.T9 k)=ο by cases k<;>rfl) dd.mapOf hw QTy
 .cases i;show uM (D:=Eh X.BT X.w) B I e n m l λr s' p a=>(z,H,p,a,q)
 .cases i;show uM (D:=Fb X.BT X.w) B I e n m l λr s' p a=>(z,H,p,a,q)
inductive Ow QKa Z'(o:V)(i:V)(v:V)ZC QLq:Prop
 |mk (d H':_) (_:o=.ν d) (_:NG P w H d i v H') (_:Q H')
def DQ(x:X.A.S3+64<UV):xZ X (Ow X.BT X.w):=by
 intro t s C H o i v E F u Q I y m l h;let⟨d,H',ε,g,q⟩:=h;cases y;rcases g with⟨Ri,k,e,ε,f,j,ε⟩|⟨Ri,k,b,e,p,ε,n,f,j,ε⟩|⟨Ri,k,b,e,p,ε,n,f,j,ε⟩
 .cases m;let⟨ns,hz,vs,a,dd⟩:=bp I.S7 e;refine wpAny_setItem_pairs (knd:=EE X.BT X.w) (k:=k) (hsz:=by rw[<-a.β];show hz) (show uE k (.T9 k)=ο by cases k<;>rfl) dd λh' c B=>(_,3,q);let z:=aJ.none_of (show aJ ζ QPd by rw[<-f];show a.val k);rw[LP z]at c;show Kv I (by rw[e];show Tg.Sy) B (let⟨o,_,_,q,_⟩:=c;(o,q)) (kD ns (by rw[u4];show j) (jf a l) c)
 .cases m;show uL (D:=Eh X.BT X.w) x I e p n f j l λs' r=>(_,r,q)
 .cases m;show uL (D:=Fb X.BT X.w) x I e p n f j l λs' r=>(_,r,q)
def DS:B6 X (.Qu "len") (λxs H Q=>∃d n,xs=[V.ν d]/\NH X.BT X.w H d n/\Q (.QB (n:υ)) H):=by
 intro i s m H xs us Q I r h;let⟨d,n,ε,g,q⟩:=h;let⟨p,ε,j⟩:=B7 r;cases j;rcases g with⟨Ri,e,ε⟩|⟨Ri,e,ε⟩
 .obtain ⟨ns,hz,vs,a,o,f,l,h1,h2,c,_,hp,_⟩:=bp I.S7 e;let b:f.Qw=Ri.β:=by rw[a.β,<-hp.β];simp
  refine oH (X:=X) ns h1 h2 c (Fs b hz) λt t'=>(.QB (Ri.β:υ),H,I.X0 _,(t,by rw[b]),q)
 .obtain ⟨ns,hz,xs,a,o,f,l,h1,h2,c,k,_⟩:=(I.S7 d _ e).1;let b:f.Qw=Ri.β:=by rw[Vr.β a,<-Ui,k,j']
  refine oH (X:=X) ns h1 h2 c (Fs b hz) λt t'=>(.QB (Ri.β:υ),H,I.X0 _,(t,by rw[b]),q)
inductive NJ where
 |bl|We|pair
abbrev xi QKa Z' QMP:NJ->HO
 |.bl=>Dc (EE P w) d []
 |.We=>Bj (Eh P w) d []
 |.pair=>Bj QRa d []
def zr QKF(a:S4<h.SM.Qw)(k:NJ):Aq P w H (h.Ra {SN:=.QH "dict",RD:=.Ux #[]}) h.SM.Qw (xi P w h.SM.Qw k):=by
 let ns:(h.SM.Qw==S4)=μ:=Rg.Sj (Ne.QU (RH a));cases k with
 |bl=>show kD (knd:=EE P w) ns QDt .Tw QSy
 |We=>show g9 (D:=Eh P w) ns QDt .Tw QEB
 |pair=>show g9 (D:=Fb P w) ns QDt .Tw QEB
inductive Ox QKa Z'(_0:St)ZC ZV:Prop
 |mk (k:_) (_:∀p,H p=ζ->Q Zh (QO H p (xi P w p k)))
def wR:PE X (.Dict [] [] RX) (Ox X.BT X.w):=λb s c H Q I⟨k,h⟩=>
 wpAny_Dict_empty (.ν s⁻¹,_,I.X3 (a:=s⁻¹) (o:=xi X.BT X.w s⁻¹ k) (t':=s.Qs) QSn Zs (zr s.π I.bigS k),1,h _ QDV)
end
namespace ZP
section
variable{BT:IO}{w:QV}{A:Qo}{E:η->ω->Prop}{s:ω}{z TI TO i1 i2:θ}{f1 f2:γ θ}{n1 n2 k:υ}{P1 P2:υ->η->Prop}{S1 S2:υ->Qx->Prop}{a b:η}
abbrev Gw QBz:UP:={SN:=.QH "tuple_iterator",RD:=.R5 #[.ν a,.QB 0 0]}
def uC QHz(d:s.π.Vm a c)(h:Q Za {s with π:=s.π.Ra (Gw a)}):Cl ZR A (YJ ZW) Q E s:=wpAny_pyIter_tuple d h
end
end ZP
def kF:∀QOb QBq,ae QAo us->XB us ns
 |[],_,r=>by rw[γ.map_nil]at r;cases r;show .Tw
 |n::ns,_,r=>by
  rw[Tq]at r;cases r with
  |Rx h t=>
   let⟨u,ε⟩:=(show ∃t,_=η.QB n t from h);show .Rx n u (kF t)
section
variable{X:Cx}
inductive rIndexB(x:V)ZF ZC ZV:Prop
 |mk (l:θ) (bs:γ Ω) QIZ (_:vs=[.bl μ]) (_:H l<*.QM QOr) (_:μ∈bs) (_:Q (.QB (bs.QJ μ:υ)) H)
def gN:LB X "list.index" rIndexB:=by
 intro B s R H x vs v us Q I E G h;let⟨l,bs,ε,ε,D,N,q⟩:=h;cases E;let⟨u,ε,J⟩:=G.Uo;cases J;let⟨z,Rc,n,r,S,e⟩:=I.lstM D;let d:Rc.β=bs.β:=by rw[<-r.β,j']
 let k:bs.QJ μ<bs.β:=QE N;let g:∀QEO(p:j<Rc.Θ.Qw),∃f:j<bs.β,Rc.Θ[j]=.T9 bs[j]:=λj p=>by
  let f:j<bs.β:=by simpa[d]using p
  refine(f,3);let⟨a,P,L⟩:=r.get (i:=j) (x:=.bl bs[j]) (by rw[nq,h_ f];rfl);cases L;let⟨_,q⟩:=m8 P;simpa using q
 let t:((bs.QJ μ:υ):ψ)<2^63-1:=by
  let O:(bs.QY V.bl).β≤Λ:=(I.QM D).XL.XL.2.2;rw[j',Sw]at O;show IQ k O
 refine call_meets F.VX (_,e,1) F.entry_list_index QLy (Sa.list_indexAt l Rc.Θ n ζ #[] (.T9 μ) (λy=>match y with|.T9 b=>b==μ|_=>μ) (bs.QJ μ) QPf t ?_ ?_) (e,3,QB6)
 .obtain ⟨f,o⟩:=g (bs.QJ μ) QPf;rw[o];have:=SE f;rw[this];rfl
 .intro m w C;let⟨f,o⟩:=g m w;rw[o];change (bs[m]==μ)=μ;cases A:bs[m]with
  |ο=>rfl
  |μ=>
   have:=RA.HP (l:=bs) (c:=μ) (i:=m) (by rw[h_ f,A]);lia
 .intro y M;let⟨j,p,ε⟩:=Ry.Y7.mp M;let⟨f,o⟩:=g j p;rw[o];show Sa.U6.bool_bool _ _
inductive LQ ZZ(x:V)(y:V)ZC ZV:Prop
 |mk (p q:θ) (xs ys:γ ψ) QIY (_:y=.ν q) (_:H p<*.QM (xs.QY V.QB)) (_:H q<*.QM (ys.QY V.QB)) (_:xs.β=ys.β) (_:Q (.bl (decide QQT)) H)
def zq(G:X.A.S3<UV):Ad X (Sv .Eq) (LQ X.K):=by
 intro o s S H x y v u Q I B w h;let⟨p,q,xs,ys,ε,ε,hp,L,T,k⟩:=h;cases B;cases w;let⟨Rc,n,g,F⟩:=I.U0 QI1;let⟨c,m,f,E⟩:=I.U0 (lb.of L);let l1:=n.β;let l2:=m.β;rw[j']at l1 l2;refine Sa.eq_listAt (e:=λj=>decide QDX) g.UZ f.UZ (by simp;lia) G (λj h1 h2=>?_) QF6
 .let r:j<xs.β:=by simp at h1;show AY h1 l1
  let d:j<ys.β:=Ep r T
  let⟨a,N,D⟩:=n.get (i:=j) (x:=.QB xs[j]) (by rw[nq,h_ r];rfl);let⟨b,M,C⟩:=m.get (i:=j) (x:=.QB ys[j]) (by rw[nq,h_ d];rfl);let⟨t,ε⟩:=D;let⟨t',ε⟩:=C;let R:Rc.Θ[j]=.QB xs[j] t:=by
   let⟨_,e⟩:=m8 N;simpa using e
  let P:c.Θ[j]=.QB ys[j] t':=by
   let⟨_,e⟩:=m8 M;simpa using e
  rw[R,P];let O:decide QDX=(xs[j]==ys[j]):=by
   rw[n0,n0,h_ r,h_ d];by_cases z:xs[j]=ys[j]<;>simp[z]
  change Sa.U6 _ _ _ _ (decide QDX);rw[O];show Sa.U6.int_int _ t _ t'
 .let e:((γ.Q' Rc.Θ.Qw).Tk λj=>decide QDX)=decide QQT:=by
   let J:Rc.Θ.Qw=xs.β:=by simp;lia
   rw[J];by_cases z:xs=ys
   .subst z;simp
   .rw [QN z,Ω.Yw];intro Tk;refine z (γ.Yv λi=>?_);rw[RE]at Tk;by_cases l:i<xs.β
    .have:=ST (Tk i (RN.Sj l));rw[n0,n0,h_ l,h_ (Ep l T)]at this;rw[h_ l,h_ (Ep l T)];show R7 δ this
    .rw [TD (Ci l),TD (IS T l)]
  rw[e];show k
end
abbrev Kw QBz QBM:It:=⟨λi H=>∃xs,H a=δ QEs/\xs.β=n/\i<n,λi H v H'=>H'=H/\∃xs,H a=δ QEs/\xs[n-1-i]?<*v,λi _=>i=n⟩
def rO QCI(a it:θ)QBM:gp P w K Z (Kw a n) [it] it (λi h=>h.IsRevIter it a ((n:ψ)-1-(i:ψ)))  where
 mem:=by simp
 YQ:=λi h st b j=>by
  let e:b=it:=by simpa using j
  subst e;let⟨o,e,c,d⟩:=st;show(o,e,λv z=>by rw[d]at z;cases z)
 UF:=λi h h' st k=>st.at λo e=>k it (!1) o e
 YW:=by
  intro X y hw A N i f s J H E I r st l;subst y hw A;let⟨xs,M,hl,hi⟩:=l;let G:(n:ψ)-1-(i:ψ)=((n-1-i:υ):ψ):=Iv hi
  rw[G]at st;let L:xs[n-1-i]?<*(xs[n-1-i]'(!2)):=h_ _;let⟨Rc,O,p,hz⟩:=I.U0 (lb.of M);let⟨u,R,Q⟩:=O.get L;let⟨m,F,U,D,C,B⟩:=r it (!1);refine wpAny_pyNext_rev_item st p.UZ (x:=u) (by simpa using R) λh' g q=>?_;let Y:g_ X f J H {s with π:=h'}:=I.TC (t':=s.Qs) (λb o j e=>(q.2 b j).ξ e) m F D C B;let W:((n-1-i:υ):ψ)-1=(n:ψ)-1-((i+1:υ):ψ):=by lia
  rw[W]at g;let⟨o,S,t,T⟩:=id g;refine(u,1,eM (s:={s with π:=h'}) S t T (!0) (_,H,Y,Q,(1,xs,M,L),g,λb j=>?_));let e:b=it:=by simpa using j
  subst e;show m
 done:=by
  intro X y hw A N i f s J H E I r st l;subst y hw A;let l:i=n:=l;let G:(n:ψ)-1-(i:ψ)=-1:=by lia
  rw[G]at st;let⟨m,F,U,D,C,B⟩:=r it (!1);show wpAny_pyNext_rev_end (I.ok.hd N) st λh' q=>(1,I.TC (t':=s.Qs) (λb o j e=>q b o j e) m F D C B)
 self:=λ_ _ _ _ _ st h=>wpAny_pyIter_revIter st h
inductive Oy QA1 ZF QCi:Prop
 |mk QTm QCv (_:H1 a<*.QM xs) (_:R (Kw a xs.β) H1)
abbrev LR QG3:TI:=λσ H R=>t σ H (Oy R)
def zd{l a:SF}QFH(y:Gl X "reversed")(x:X.mg "reversed"=ζ)(B:PA X [a] m)(v:QJ3>>>4)(i:QBh>>>4):PI X l (.Tl (.Rn "reversed" p) [a] [] RX) (LR m):=by
 intro f s k H R I h;refine RT (va I y x boot_reversed (Sz.Ws.S8 (oh (B RX f s k H _ I h) λus d z=>?_) v i));let⟨vs,C,g,t,b,xs,ε,w,q⟩:=z;let⟨D,ε,r⟩:=B7 t;cases r;let⟨Rc,n,u,hz⟩:=g.U0 (lb.of w);let hsz:Rc.Θ.Qw=xs.β:=by rw[n.β];simp
 refine call_reversed_list u.UZ ?_;let j:(d.π.Ra QKO).IsRevIter d⁻¹ b ((xs.β:ψ)-1-((0:υ):ψ)):=(_,QK _ ε,1,by rw[hsz];simp[revObj]);refine wpAny_pyIter_revIter (s:={d with π:=d.π.Ra QKO}) j ?_;refine(_,[d⁻¹],_,Kw b xs.β,C,1,g.WE (t':=d.Qs) λb o e=>ol _ e,rO b _ _,j,λc A=>?_,q);let e:c=d⁻¹:=by simpa using A
 subst e;show g.fpOk Zs (g.S7.SW Zs)
end L2
namespace RA
def gQ Zp(c d:υ):∀QPU,aw L a b=ο->aw L (a++[c]) (b++[d])=ο
 |[],_,h=>by simp[aw]at h
 |_::_,[],h=>by simp[aw]at h
 |x::a,y::b,h=>by
  rw[Vq,Vq,aw];rw[aw]at h;by_cases e:x=y
  .rw [QC e]at h⊢;show gQ L c d h
  .rw [Fr e]at h⊢;show h
def NL Zp QMM:∀QPU,a.β=b.β->aw L (a++[c]) (b++[c])=ο->aw L a b=ο
 |[],[],_,h=>by simp[aw]at h
 |[],_::_,e,_=>by simp at e
 |_::_,[],e,_=>by simp at e
 |x::a,y::b,e,h=>by
  rw[Vq,Vq,aw]at h;rw[aw];by_cases q:x=y
  .rw [QC q]at h⊢;show NL L c QB_ h
  .rw [Fr q]at h⊢;show h
def gR Zp{c d:υ}(b:L.QJ c<L.QJ d):∀a:LN,aw L (a++[c]) (a++[d])=ο
 |[]=>by
  rw[γ.nil_append,γ.nil_append,aw,Fr (λe=>by rw[e]at b;lia)];show Qr b
 |x::a=>by
  rw[Vq,Vq,aw,QC ε];show gR L b a
def d7 Zp:∀QPU,aw L a b=ο->aw L b a=μ
 |[],_,h=>by simp[aw]at h
 |_::_,[],h=>by simp[aw]at h
 |x::a,y::b,h=>by
  rw[aw]at h⊢;by_cases e:x=y
  .rw [QC e]at h;rw[QC e.QU];show d7 L h
  .rw [Fr e]at h;rw[Fr (Ne.QU e)];have:=ST h;show QN (!6)
def dY Zp:∀{a b c:LN},aw L a b=ο->aw L b c=ο->aw L a c=ο
 |[],_,_,h,_=>by simp[aw]at h
 |_::_,[],_,h,_=>by simp[aw]at h
 |_::_,_::_,[],_,h=>by simp[aw]at h
 |x::a,y::b,z::c,h,k=>by
  rw[aw]at h k⊢;by_cases e:x=y
  .subst e;rw[QC ε]at h;by_cases f:x=z
   .rw [QC f]at k⊢;show dY L h k
   .rw [Fr f]at k⊢;show k
  .rw [Fr e]at h;let h1:=ST h;by_cases f:y=z
   .subst f;rw[Fr e];show h
   .rw [Fr f]at k;let k1:=ST k;rw[Fr (λg=>by rw[g]at h1;lia)];show Qr (!6)
def dZ QRU:∀QPU,a.β=b.β->QTz->(∀c∈b,c∈L)->aw L a b=ο\/a=b\/aw L b a=ο
 |[],[],_,_,_=>.RF Zv
 |[],_::_,e,_,_=>by simp at e
 |_::_,[],e,_,_=>by simp at e
 |x::a,y::b,e,f,g=>by
  rw[aw,aw];by_cases q:x=y
  .subst q;rw[QC ε,QC ε];rcases dZ (a:=a) (b:=b) QB_ (λc d=>f c (by simp[d])) (λc d=>g c (by simp[d]))with h|h|h
   .exact .RB h
   .exact .RF (.RB (by rw[h]))
   .exact .RF (.RF h)
  .rw [Fr q,Fr (Ne.QU q)];rcases UD (L.QJ x) (L.QJ y)with h|h|h
   .exact .RB (Qr h)
   .exact QG (Du (f x (!1)) h) q
   .exact .RF (.RF (Qr h))
section
variable{L a b c:LN}
def HV(h:a.β<b.β):zg L a b=ο:=by
 unfold zg;rw[QC (Jh h)];show Qr h
def EG(h:a.β=b.β):zg L a b=aw L a b:=by
 unfold zg;rw[Fr QB']
def Hh QHq:a.β≤b.β:=by
 by_cases e:a.β=b.β
 .exact GZ e
 .unfold zg at h;rw[QC e]at h;have:=ST h;show Es this
def BF(x y:υ)QHq:zg L QSz (b++[y])=ο:=by
 let d:=Hh h;by_cases e:a.β=b.β
 .rw [EG (by simp[e])];rw[EG e]at h;show gQ L x y h
 .exact HV (by simp;show zo39 e d)
def Cr(h:L.QJ x<L.QJ y):zg L QSz (a++[y])=ο:=by
 rw[EG (!1)];show gR L h a
def Kx QHq:zg L b a=μ:=by
 let d:=Hh h;by_cases e:a.β=b.β
 .rw [EG e]at h;rw[EG e.QU];show d7 L h
 .unfold zg;rw[QC (Ne.QU e)];show QN (IV d)
def AG QHq(k:zg L b c=ο):zg L a c=ο:=by
 let h1:=Hh h;let h2:=Hh k;by_cases e:a.β=c.β
 .rw [EG (!6)]at h k;rw[EG e];show dY L h k
 .exact HV (!6)
def xH:zg L a []=μ:=by
 unfold zg;by_cases e:a.β=([]:LN).β
 .rw [Fr QB_];cases a<;>simp[aw]
 .rw [QC e];simp
def LS(f:∀x∈a,x∈L)QS0:zg L a b=ο\/a=b\/zg L b a=ο:=by
 by_cases e:a.β=b.β
 .rw [EG e,EG e.QU];show dZ e f d
 .by_cases h:a.β<b.β
  .exact .RB (HV h)
  .exact .RF (.RF (HV (!6)))
def jk(e:∀x∈a,x∈L)QS0(h:zg L b a=μ)(k:zg L c b=μ):zg L c a=μ:=by
 cases q:zg L c a with
 |μ=>rfl
 |ο=>
  rcases LS e d with t|t|t
  .rw [AG q t]at k;cases k
  .rw [<-t,q]at k;cases k
  .rw [t]at h;cases h
def lc(x:υ)(h:zg L b a=μ):zg L (b++[x]) QSz=μ:=by
 cases q:zg L (b++[x]) QSz with
 |μ=>rfl
 |ο=>
  let d:=Hh q;by_cases e:b.β=a.β
  .rw [EG (by simp[e])]at q;rw[EG e,NL L x e q]at h;cases h
  .rw [HV (by simp at d;show zo39 e d)]at h;cases h
end
section
variable{κ:Type}[R_ κ]
abbrev ba QLa Zp(s:κ)QFZ:κ:=w.foldl (λt c=>g t QAV) s
def LU QLa Zp(s:κ)QFZ QMM:ba g L s (w++[c])=g QOs QAV:=by
 unfold ba;rw[γ.Yu];rfl
structure Bf QLa Zp(s:κ)(ts:γ κ)(ws:LL)(n k:υ):Prop where
 Sr:ts.β=ws.β
 nd:ts.Rq
 t0:ts[0]?<*s
 w0:ws[0]?<*[]
 srt:∀QKe(a b:LN),i<j->ws[i]?<*a->ws[j]?<*b->zg L a b=ο
 lead:∀Zi(t:κ)(a:LN),ts[i]?<*t->ws[i]?<*a->QTz/\ba g L s a=t
 par:∀QEO(b:LN),ws[j]?<*b->b=[]\/∃(p q:υ)(a:LN),ws[p]?=δ a/\q<L.β/\b=a++[L.Φ q 0]/\(p<n\/(p=n/\q<k))
 fin:∀(r q:υ)(t:κ)(a:LN),QS1->q<L.β->ts[r]?<*t->ws[r]?<*a->∃(j:υ)(b:LN),ts[j]?=δ (g t q)/\ws[j]?=δ b/\zg L QLb b=μ
variable{g:κ->υ->κ}{L:LN}{s:κ}{ts:γ κ}{ws:LL}{n k:υ}
def Bf.WG QLa Zp(s:κ):Bf g L s [s] [[]] 0 0 where
 Sr:=ε
 nd:=by simp
 t0:=ε
 w0:=ε
 srt:=λi j a b l f d=>by
  have:=(m8 d).1;simp at this;lia
 lead:=λi t a e f=>by
  match i,e,f with
  |0,e,f=>cases e;cases f;show(λc m=>by simp at m,1)
  |i+1,e,_=>simp at e
 par:=λj b d=>by
  match j,d with
  |0,d=>cases d;show .RB ε
  |j+1,d=>simp at d
 fin:=λr q t a h=>by lia
def Bf.behind QG1(d:L.Rq){a:LN}(i:ws[n]?<*a)(f:k<L.β)QIX{b:LN}(l:ws[j]?<*b):zg L b (a++[L.Φ k 0])=ο:=by
 rcases h.par j b l with ε|⟨p,q,r,hp,e,ε,c⟩
 .exact HV (!1)
 .rcases c with c|⟨rfl,c⟩
  .exact BF _ _ (h.srt p n r a c hp i)
  .rw [i]at hp;cases hp;refine Cr ?_;let o:L.QJ (L.Φ q 0)=q:=by rw[n0,h_ e];show HN d e
   let m:L.QJ (L.Φ k 0)=k:=by rw[n0,h_ f];show HN d f
   rw[o,m];show c
def oE(h:r<n\/(r=n/\q<k+1)):QS1\/(r=n/\q=k):=by lia
def Bf.old QG1(u:L.Rq){t:κ}{a:LN}(v:ts[n]?<*t)(o:ws[n]?<*a)(y:k<L.β)(x:g t k∈ts):Bf g L s ts ws n (k+1):=
 {h with
  par:=λj b z=>by
   rcases h.par j b z with e|⟨p,q,i,h1,h2,A,B⟩
   .exact .RB e
   .exact .RF (p,q,i,h1,h2,A,IA B)
  fin:=λr q t' i f w c d=>by
   rcases oE f with f|⟨rfl,ε⟩
   .exact h.fin r q t' i f w c d
   .rw [v]at c;rw[o]at d;cases c;cases d;let⟨j,m⟩:=RQ.mp x;let l:j<ws.β:=by rw[<-h.Sr];show(m8 m).1
    show(j,ws[j],m,h_ l,Kx (h.behind u o y (h_ l)))}
def Bf.new QG1(N:L.Rq){t:κ}{a:LN}(F:ts[n]?<*t)(E:ws[n]?<*a)(C:k<L.β)(R:g t k∉ts):Bf g L s (ts++[g t k]) QOt n (k+1):=by
 let O:L.Φ k 0=L[k]:=by rw[n0,h_ C];rfl
 let w:∀{o:Type}{l:γ o}{x y:o}QDJ,l[i]?<*y->QH'[i]?<*y:=λ{o l x y i}e=>by
  rw[QS (m8 e).1];show e
 let split:∀{o:Type}{l:γ o}{x y:o}QDJ,QH'[i]?<*y->l[i]?<*y\/(i=l.β/\y=x):=λ{o l x y i}e=>by
  by_cases S:i<l.β
  .rw [QS S]at e;show .RB e
  .rw [Qp (Ci S)]at e;have:i-l.β=0:=by
    have:=(m8 e).1;simp at this;omega
   rw[this]at e;show .RF (GN this S,(χ.δ.Tx e).QU)
 let A:(ts++[g t k])[ts.β]?<*g t k:=by rw[Qp Zs,XC];rfl
 let u:QOt[ws.β]?<*(a++[L.Φ k 0]):=by rw[Qp Zs,XC];rfl
 let⟨H,B⟩:=h.lead n t a F E;refine(by simp[h.Sr],3,w h.t0,w h.w0,λi j x y I d z=>?_,λi t' x f d=>?_,λj b J=>?_,λr q t' x G Q f d=>?_)
 .rw [γ.Ym];show(h.nd,!1,λx d y z e=>R (by rw[wh z]at e;rw[<-e];show d))
 .rcases split z with z|⟨rfl,ε⟩
  .rcases split d with d|⟨rfl,ε⟩
   .exact h.srt i j x y I d z
   .have:=(m8 z).1;lia
  .rcases split d with d|⟨rfl,ε⟩
   .exact h.behind N E C d
   .lia
 .rcases split f with f|⟨rfl,ε⟩
  .rcases split d with d|⟨rfl,ε⟩
   .exact h.lead i t' x f d
   .have:=(m8 f).1;rw[h.Sr]at this;lia
  .rcases split d with d|⟨_,ε⟩
   .have:=(m8 d).1;rw[h.Sr]at this;lia
   .refine (λc D=>?_,3)
    .rcases Rr.mp D with D|D
     .exact H c D
     .rw [wh D,O];show RY C
    .rw [LU,B,O,HN N C]
 .rcases split J with J|⟨rfl,ε⟩
  .rcases h.par j b J with e|⟨p,q,Y,h1,h2,T,h4⟩
   .exact .RB e
   .exact .RF (p,q,Y,w h1,h2,T,IA h4)
  .exact .RF (n,k,a,w E,C,1,.RF (1,Rv k))
 .let P:r≤n:=by lia
  let Z:=(m8 F).1;let m:ts[r]?<*t':=by rw[QS (Fn Z P)]at f;show f
  let v:ws[r]?<*x:=by rw[QS (by rw[<-h.Sr];show Fn Z P)]at d;show d
  rcases oE G with G|⟨rfl,ε⟩
  .obtain ⟨j,b,X,W,U⟩:=h.fin r q t' x G Q m v;show(j,b,w X,w W,U)
  .rw [F]at m;rw[E]at v;cases m;cases v;refine(ts.β,_,A,by rw[h.Sr];show u,3);cases M:zg L QLb QLb with
   |μ=>rfl
   |ο=>show M.QU.ξ (Kx M)
def Bf.next(h:Bf g L s ts ws n L.β):Bf g L s ts ws (n+1) 0:=
 {h with
  par:=λj b f=>by
   rcases h.par j b f with e|⟨p,q,m,h1,h2,l,u⟩
   .exact .RB e
   .exact .RF (p,q,m,h1,h2,l,!6)
  fin:=λr q t a o d c i=>h.fin r q t a (!6) d c i}
def Bf.told(h:Bf g L s ts ws ts.β 0)(F:L.Rq):∀QFZ QJ4,w.β=m->QAS->∃(j:υ)(b:LN),ts[j]?=δ QOs/\ws[j]?=δ b/\zg L w b=μ:=by
 intro w m;induction m generalizing w with
 |V5=>
  intro e _;rw[Sq.mp e];show((0),[],h.t0,h.w0,xH)
 |Vf m u=>
  intro e hw;obtain⟨c,v,ε⟩:∃c v,w=v++[c]:=(w.Ys (by intro z;rw[z]at e;cases e),w.Xw,(Se _).QU);let y:∀x∈v,x∈L:=λx d=>hw x (by simp[d]);let l:c∈L:=hw c (!1);let⟨r,a,i,t,E⟩:=u v QB_ y;let A:=(m8 i).1;let f:L.QJ c<L.β:=QE l;let⟨j,b,q,p,o⟩:=h.fin r QAV _ a (.RB A) f i t;let D:L.Φ QAV 0=c:=by rw[n0,h_ f];show SE f
  rw[D]at o;let⟨C,_⟩:=h.lead r _ a i t;refine(j,b,by rw[LU];show q,p,3);let⟨B,_⟩:=h.lead j _ b q p;refine jk (b:=a++[c]) B (λx d=>?_) o (lc c E);rcases Rr.mp d with d|d
  .exact C x d
  .rw [wh d];show l
abbrev BG(U ts:γ κ):υ:=U.countP λx=>!decide (x∈ts)
def gU{U ts:γ κ}{x:κ}(b:x∈U)(a:x∉ts):BG U (ts++[x])<BG U ts:=by
 refine LK (λz hz h=>?_) (x,b,3,3)
 .simp only[Xb,decide_eq_false_iff_not]at h⊢;show λq=>h (U1 _ q)
 .simp only[Xb,decide_eq_false_iff_not];show a
 .simp only[Ω.not_eq_false',SX];show Rj _ QGY
end
end RA
namespace L2
open PySem.Spec PyProof.Rows
abbrev Dd(J:It)QBz(o:HO)QBI:Prop:=∀H2:Hp,H2 a<*o->(∀i,i<xs.β->J.go i H2)/\(∀i x H3,i<xs.β->J.yld i H2 x H3->H3=H2/\xs[i]?<*x)/\J.Wb xs.β H2
def zk QCI:Dd (Fy K a) a QEs xs:=λf e=>
 (λi h=>(xs,xs[i],lb.of e,h_ h),λi x d _ b=>by let⟨c,h⟩:=b;show(c,h xs (lb.of e)),(xs,lb.of e,QD _))
def zj QCI:Dd (HJ K a) a QCY xs:=λf e=>
 (λi h=>(xs,xs[i],pu.of e,h_ h),λi x d _ b=>by let⟨c,h⟩:=b;show(c,h xs QFB),(xs,pu.of e,QD _))
inductive LV QA1(x:V)QCi:Prop
 |mk (a o xs:_) QDc QM7 (_:H1 a<*o) (_:∀J,Dd J a o xs->R J H1)
abbrev JB(tl:TE):TI:=λσ H R=>tl σ H (LV R)
def BQ(y:PE X l n):PI X A l (JB n):=by
 intro f s m H R I h;refine oh (y f s m H _ I h) λv c i=>?_;let⟨x,j,g,t,u⟩:=i;let⟨a,o,xs,e,w,k,q⟩:=u;subst e;cases t;let d:∀b∈[c⁻¹],aX X f j b:=λb z=>by
  let e:b=c⁻¹:=by simpa using z
  subst e;show g.fpOk Zs (g.S7.SW Zs)
 rcases w with ε|rfl
 .obtain ⟨Rc,r,p,hz⟩:=g.U0 (lb.of k);refine Vi p.UZ ?_;show(c⁻¹,[c⁻¹],7,j,1,g.WE (t':=c.Qs) λb o e=>ol _ e,gv a _,QBB,d,q _ zk)
 .obtain ⟨Rc,r,p,hz⟩:=g.T7 (pu.of k);refine wpAny_pyIter_tuple (show c.π.Vm a Rc.Θ from p) ?_;show(c⁻¹,[c⁻¹],7,j,1,g.WE (t':=c.Qs) λb o e=>ol _ e,cY a _,QBB,d,q _ zj)
def Ky{g:TG}{k:TS}QTn(u:Dd J a o xs)(d:υ->St->Hp->Prop)(B:d 0 b H)(w:∀i b H,d i b H->H a<*o)(v:∀i x b H,xs[i]?<*x->d i b H->g x b H λf j=>k {D with nx:=d (i+1),ct:=d (i+1),bk:=D.nx} f j)(A:∀b H,d xs.β b H->D.nx b H):∃W:υ->υ->St->Hp->Prop,QFb/\∀i m b H,W i m b H->
   (J.Wb i H/\D.nx b H)\/(J.go i H/\∃N:St->Hp->Prop,(∀h H',N h H'->∃l,l<m/\W (i+1) l h H')/\∀x H',J.yld i H x H'->g x b H' λf j=>k {D with nx:=N,ct:=N,bk:=D.nx} f j):=by
 refine(λi m b H=>m=xs.β-i/\i≤xs.β/\d i b H,(xs.β,!1,RP _,B),3);rintro i m b H⟨rfl,z,p⟩;let⟨s,r,q⟩:=u H (w i b H p);by_cases c:i<xs.β
 .refine .RF (s i c,d (i+1),λh H' t=>(xs.β-(i+1),Ul _ _ c,1,c,t),λx H' y=>?_);let⟨e,n⟩:=r i x H' c y;subst e;show v i x b _ n p
 .let e:i=xs.β:=WO z (SU c);subst e;show .RB (q,A b H p)
def LW{tt:TT}{u:TE}{q:St}{Q:VK}(B:Dd J a o xs)(I:H a<*o)(l:θ->υ->γ V->Hp->Prop)(hz:xs.β≤Λ)(L:∀D,H D=ζ->l D 0 [] (QO H D (.QM [])))(E:∀(D:θ)(i:υ)(x:V)(ys:γ V)(H':Hp)(v:VK)(R2:Hp->Prop),H D=ζ->xs[i]?<*x->a_ H H'->H' D<*.QM ys->l D i ys H'->
   (∀y h,h D<*.QM ys->a_ H QDN->l D (i+1) QAv QDN->v y h)->(∀g,a_ H g->g D<*.QM ys->l D (i+1) ys g->R2 g)->
   tt (δ x::q) H' λb g=>if b=ο then u (δ x::q) g v else R2 g)(F:∀D ys H',H D=ζ->a_ H H'->H' D<*.QM ys->l D xs.β ys H'->Q (.ν D) H'):∀D,H D=ζ->∃W:υ->υ->γ V->Hp->Prop,
 (∃m,W 0 m [] (QO H D (.QM [])))/\∀i m ys f,W i m ys f->f D=δ (.QM ys)/\((J.Wb i f/\Q (.ν D) f)\/(J.go i f/\ys.β<Λ/\∀x p,J.yld i f x p->
  tt (δ x::q) p λb g=>if b=ο then u (δ x::q) g λy h=>h D=δ QAk/\∃n,n<m/\W (i+1) n QAv QDN
   else ∃n,n<m/\W (i+1) n ys g)):=by
 intro D r;refine(λi m ys f=>m=xs.β-i/\i≤xs.β/\ys.β≤i/\a_ H f/\f D=δ QAk/\l D i ys f,(xs.β,!1,RP _,!1,a_.QO r,SO,L D r),3);rintro i m ys f⟨rfl,G,t,j,k,hp⟩;refine(k,3);let⟨A,z,w⟩:=B f (j _ _ I);by_cases d:i<xs.β
 .refine .RF (A i d,Rw t (LT d hz),λx p s=>?_);let⟨e,C⟩:=z i x p d s;subst e;show E D i x ys p _ _ r C j k hp (λy h a b c=>(a,xs.β-(i+1),Ul _ _ d,1,d,by rw[u4];show U4 t,b,SO,c)) (λg a b c=>(xs.β-(i+1),Ul _ _ d,1,d,Vd t,a,b,c))
 .let e:i=xs.β:=WO G (SU d);subst e;show .RB (w,F D ys f r j k hp)
def DU ZZ QDs:CK X (sN K):=by
 subst a;show cG
def Gx ZZ QDs:CK X (mG K):=by
 subst a;show ef
def qK QRI QKa Z'(a:X.A.S3+64<UV)(b:(X.BT=P)>>>4)(hw:(X.w=w)>>>4):CK X (NI P w):=by
 subst b hw;show uB a
def sZ:Dd (Kw a ys.β) a QAk ys.Ru:=λj e=>by
 refine(λi h=>(ys,e,1,by simpa using h),λi x g c h=>?_,3)
 .obtain ⟨f,xs,b,d⟩:=h;rw[e]at b;cases b;refine(f,3);rw[γ.getElem?_reverse QH2];show d
 .change ys.Ru.β=ys.β;rw[Te]
def LX QBN(h:t≤xs.β):Af xs ζ (δ (t:ψ))=xs.Rp t:=by
 unfold Af;rw[HT.Cn,HT.Dr,γ.drop_zero,υ.sub_zero,υ.min_eq_left h]
end L2
namespace RA
open L2
inductive KS where
 |RB QPS
 |RF (k:NK)
instance:DecidableEq KS:=λa b=>match a,b with
 |.inl a,.inl b=>if h:a=b then isTrue (by rw[h])else isFalse λz=>h (KS.inl.inj z)
 |.inr a,.inr b=>if h:a=b then isTrue (by rw[h])else isFalse λz=>h (KS.inr.inj z)
 |.inl _,.inr _=>isFalse λz=>by cases z
 |.inr _,.inl _=>isFalse λz=>by cases z
abbrev Kz:KS->Ω
 |.RB _=>μ
 |.RF _=>ο
abbrev lK ZC:KS->V->Prop
 |.RB b,x=>x=.bl b
 |.RF k,x=>∃p,x=.ν p/\Fa H k p
def Ay Z7(h:Fa H k a):Fa H' k a:=by
 let⟨b,d,c⟩:=h;show(b,s _ _ d,s _ _ c)
def lK.Wq Z7(h:lK H k x):lK H' k x:=by
 cases k with
 |RB b=>show h
 |RF k=>
  let⟨p,e,h⟩:=h;show(p,e,Ay s h)
def JC{g f:Type}[R_ f](b:g->f)(c:g->V)(k:f):∀(Ri:γ g)QBM,(∀i x,Ri[i]?<*x->c x=.QB ((n+i:υ):ψ))->
  (Ri.find? λx=>decide (b x=k)).QY c=if k∈Ri.QY b then δ (.QB ((n+(Ri.QY b).QJ k:υ):ψ))else ζ
 |[],n,_=>by simp
 |a::Ri,n,h=>by
  by_cases e:b a=k
  .let m:=h 0 a ε;rw[QC (by simp[e])];subst e;simp[U_,m]
  .let j:=JC b c k Ri (n+1) λi x l=>by
    have:=h (i+1) x (by simpa using l);rw[this];congr 2;show F'
   let o:(Ri.QY b).QJ k+1=((a::Ri).QY b).QJ k:=by
    rw[Tq,Yq,Rg.Sj e];rfl
   rw[U_,QN e];change (Ri.find? λx=>decide (b x=k)).QY c=_;rw[j];by_cases d:k∈Ri.QY b
   .rw [QC d,QC (by rw[Tq];show QP _ d),<-o];congr 3;show Ft
   .rw [Fr d,Fr (by rw[Tq,QW];rintro(z|z);show e z.QU;show d z)]
abbrev vb QKa Z' ZC QMP(We:Ω)(ks:γ KS):Prop:=
 (We=μ/\∃Ri:γ (Ω×V),H d=δ QEd/\(Ri.QY λx=>(KS.RB x.1:KS))=wm ks/\∀Zi(x:Ω×V),Ri[i]?<*x->x.2=V.QB (i:ψ)) \/
 (We=ο/\∃Ri:γ (NK×θ×V),H d=δ QEe/\QET/\(Ri.QY λx=>(KS.RF x.1:KS))=wm ks/\∀Zi(x:NK×θ×V),Ri[i]?<*x->x.2.2=V.QB (i:ψ))
section
variable{P:IO}{w:QV}{H:Hp}{d:θ}{We:Ω}{ks:γ KS}
abbrev jc(ks:γ KS)(k:KS):χ V:=if k∈wm ks then δ (.QB ((wm ks).QJ k:υ))else ζ
def vb.get QCA(j:lK H k x)(g:Kz k=We):x9 P w H d x (jc ks k):=by
 rcases h with⟨rfl,Ri,e,f,c⟩|⟨rfl,Ri,e,l,f,c⟩
 .cases k with
  |RF k=>cases g
  |RB b=>
   refine .RB (Ri,b,e,j,3);have:=JC (λx:Ω×V=>(KS.RB x.1:KS)) QA2 (KS.RB b) Ri 0 (λi x a=>by rw[c i x a,υ.TJ]);rw[f]at this;unfold jc aL;rw[υ.TJ]at this;rw[<-this];congr 2;funext x;show YY.Sj (λz=>KS.RB.Tx z,λz=>by rw[z])
 .cases k with
  |RB k=>cases g
  |RF b=>
   let⟨p,n,m⟩:=j;refine .RF (.RB (Ri,b,p,e,l,n,m,3));have:=JC (λx:NK×θ×V=>(KS.RF x.1:KS)) (·.2.2) (KS.RF b) Ri 0 (λi x a=>by rw[c i x a,υ.TJ]);rw[f]at this;unfold jc aP;rw[υ.TJ]at this;rw[<-this];congr 2;funext x;show YY.Sj (λz=>KS.RF.Tx z,λz=>by rw[z])
def vb.Sr QCA:NH P w H d (wm ks).β:=by
 rcases h with⟨_,Ri,e,a,_⟩|⟨_,Ri,e,_,a,_⟩
 .exact .RB (Ri,e,by rw[<-a,j'])
 .exact .RF (Ri,e,by rw[<-a,j'])
def vb.SL QCA(a:k∈wm ks):vb P w H d We QF_:=by
 unfold vb at h⊢;rw[Ax,QC a];show h
def vb.Ti QCA QA5:vb P w H' d We ks:=by
 rcases h with⟨a,Ri,e,c⟩|⟨a,Ri,e,g,c⟩
 .exact .RB (a,Ri,s _ _ e,c)
 .exact .RF (a,Ri,s _ _ e,λx f=>Ay (λb xs z=>s _ _ z) (g x f),c)
def vb.Uk QCA(e:H'=QO H d c):∀b xs,H b<*.RJ xs->H' b<*.RJ xs:=λb xs z=>by
 rw[e,b_ (λq=>?_)]
 .exact z
 .subst q;rcases h with⟨_,Ri,a,_⟩|⟨_,Ri,a,_⟩
  .rw [a]at z;cases z
  .rw [a]at z;cases z
def tR(h:¬ j<n)(h2:j-n<1):j=n:=Iw h2 h
def vb.put QCA(u:lK H k x)(t:Kz k=We)(c:k∉wm ks)(A:(wm ks).β<Λ):∃v,NG P w H d x (.QB ((wm ks).β:υ)) (QO H d v)/\vb P w (QO H d v) d We QF_:=by
 let l:jc ks k=ζ:=Fr c;let q:=h.get u t;rw[l]at q;let D:=h;rcases h with⟨rfl,Ri,e,m,o⟩|⟨rfl,Ri,e,B,m,o⟩
 .cases k with
  |RF k=>cases t
  |RB b=>
   let f:(wm ks).β=Ri.β:=by rw[<-m,j']
   let g:aL Ri b=ζ:=by
    have:=JC (λx:Ω×V=>(KS.RB x.1:KS)) QA2 (KS.RB b) Ri 0 (λi x s=>by rw[o i x s,υ.TJ]);rw[m,Fr c]at this;unfold aL;rw[<-this];congr 2;funext x;show YY.Sj (λz=>by rw[z],λz=>KS.RB.Tx z)
   refine(_,.RB (Ri,b,e,u,g,by rw[<-f];show A,1),.RB (1,Ri++[(b,.QB ((wm ks).β:υ),)],SO,3,λi y a=>?_))
   .rw [Ax,Fr c,Q2,m];rfl
   .by_cases n:i<Ri.β
    .rw [QS n]at a;show o i y a
    .rw [Qp (SU n)]at a;let r:=tR n (m8 a).1;rw[r,XC]at a;cases a;change V.QB ((wm ks).β:υ)=_;rw[f,r]
 .cases k with
  |RB k=>cases t
  |RF b=>
   let f:(wm ks).β=Ri.β:=by rw[<-m,j']
   let⟨p,E,C⟩:=u;let g:aP Ri b=ζ:=by
    have:=JC (λx:NK×θ×V=>(KS.RF x.1:KS)) (·.2.2) (KS.RF b) Ri 0 (λi x s=>by rw[o i x s,υ.TJ]);rw[m,Fr c]at this;unfold aP;rw[<-this];congr 2;funext x;show YY.Sj (λz=>by rw[z],λz=>KS.RF.Tx z)
   let j:=D.Uk (H':=QO H d (Bj (Eh P w) d (Ri++[QLc]))) ε;refine(_,.RF (.RB (Ri,b,p,e,B,E,C,g,by rw[<-f];show A,1)),.RF (1,Ri++[QLc],SO,λy a=>?_,3,λi y a=>?_))
   .rcases Rr.mp a with a|a
    .exact Ay j (B y a)
    .rw [wh a];show Ay j C
   .rw [Ax,Fr c,Q2,m];rfl
   .by_cases n:i<Ri.β
    .rw [QS n]at a;show o i y a
    .rw [Qp (SU n)]at a;let r:=tR n (m8 a).1;rw[r,XC]at a;cases a;change V.QB ((wm ks).β:υ)=_;rw[f,r]
def vb.new QKa Z' ZC QJP(We:Ω):vb P w (QO H p (xi P w p (if We=ο then .We else .bl))) p We []:=by
 cases We with
 |μ=>show .RB (1,[],SO,1,λi x h=>by simp at h)
 |ο=>show .RF (1,[],SO,λx h=>by simp at h,1,λi x h=>by simp at h)
end
def tV(bs:γ Ω):aF (bs.QY λb=>(KS.RB b:KS))=aF bs:=Kq (by rw[j']) λi j a b f e h1 h2 d c=>by
 rw[nq,d]at h1;rw[nq,c]at h2;cases h1;cases h2;show(λz=>KS.RB.Tx z,λz=>by rw[z])
def tT(bs:γ NK):aF (bs.QY λb=>(KS.RF b:KS))=aF bs:=Kq (by rw[j']) λi j a b f e h1 h2 d c=>by
 rw[nq,d]at h1;rw[nq,c]at h2;cases h1;cases h2;show(λz=>KS.RF.Tx z,λz=>by rw[z])
def fo{a b x:υ}(h:a=b)(c:x<b):x<a:=υ.lt_of_lt_of_eq c h.QU
def Oz(h:i<j+1)(n:¬ i=j):i<j:=υ.Wg (UE h) n
def vG QE'(h:n≤2100):-QOQ≤(n:ψ)/\(n:ψ)<2^62:=by lia
def vF{r:ψ}QE'(a:0≤r)(h1:r<n):r.RW<n:=(ψ.toNat_lt a).Sj h1
def yr(h:¬ j<n)(h2:j-n<1):j=n:=Iw h2 h
def xS QE'(h:1≤n):(0:ψ)<(n:ψ):=ψ.ofNat_lt.Sj h
def xQ(h:i<t):t-1-i<t:=Ir h
def zZ(h:i<t):∃u,t-i=u+1/\t-1-i=u/\t-(i+1)=u:=(t-i-1,!6,!6,!6)
def OA(h1:w=i)(h2:i<t)(b:t<k+1)(a:k≤4410000):w+1≤16777216:=by lia
def LY(h:k≤4410000):k+1<Λ:=by
 have:16777216≤Λ:=nt (!0);lia
def xR(z:ψ)(b m:υ)(a:0<m):∃n:υ,(n:ψ)=(b:ψ)+z%(m:ψ)/\b≤n/\n<b+m:=by
 let c:=ψ.YE z (show(m:ψ)≠0 by lia);let h1:=ψ.Xv z (show(0:ψ)<(m:ψ) by lia);show(b+(z%(m:ψ)).RW,!6,!6,!6)
def z4(h:l+i=26)(a:i≤3):1≤l/\l≤26:=by lia
def OB QE'(h:n≤26):(n:ψ)<1073741824:=by lia
def zY(h1:a≤n)(h2:b≤n)(c:n≤26):a+b≤16777216:=by lia
def xP{x:ψ}(h:0≤x):(x+1).RW=x.RW+1:=by lia
def xT(h:k<l)(a:l+i=26):min k l+(l-(k+1))+(i+1)=26:=by lia
def JD(ws:LN):b' ws=(zs ws).QY V.QB:=by
 unfold b' zs;rw[map_map];rfl
def ip(ws:LN):(zs ws).β=ws.β:=by simp[zs]
def d_(ws:LN):(b' ws).β=ws.β:=by simp[b']
def Ca(h:i<ws.β):QM1[i]?<*.QB ((ws.Φ i 0:υ):ψ):=by
 unfold b';rw[nq,n0,h_ h];rfl
def De{ns:LN}(h:r<ns.β):Am QI2 (r:ψ)<*.QB ((ns.Φ r 0:υ):ψ):=Av (Ca h)
def Bu QFw QKj{x:a}(h:l[i]?<*x):l.Rp (i+1)=l.Rp i++[x]:=by
 rw[Vu,h];rfl
def cQ Zl:decide (V.QB (a:ψ)=V.QB (b:ψ))=decide (a=b):=by
 by_cases h:a=b
 .subst h;simp
 .have:¬ V.QB (a:ψ)=V.QB (b:ψ):=λz=>h (by injection z with z;show ψ.ofNat.Tx z);rw[QN h,QN this]
abbrev Hi ZC(S0:γ θ)QCF Zg:Prop:=∀Zi(r:θ),S0[i]?<*r->H r<*.QM (b' (Rd W B i))
def Hi.SL(h:Hi H S0 W B)QA5:Hi H' S0 W B:=λi r e=>s _ _ (h i r e)
def kU(g:j<n)(k:f j=μ):μ∈(γ.Q' n).QY f/\((γ.Q' n).QY f).QJ μ<n/\f (((γ.Q' n).QY f).QJ μ)=μ/\∀i<((γ.Q' n).QY f).QJ μ,f i=ο:=by
 let get:∀i,i<n->((γ.Q' n).QY f)[i]?<*f i:=λi d=>by rw[nq,SI d];rfl
 let c:μ∈(γ.Q' n).QY f:=Su.Sj (j,RN.Sj g,k);let b:=QE c;let a:((γ.Q' n).QY f).QJ μ<n:=by simpa using b
 refine(c,a,3,λi d=>?_)
 .let e:=get _ a;rw[h_ b,SE b]at e;show(χ.δ.Tx e).QU
 .let e:=get i (GQ d a);cases h:f i with
  |ο=>rfl
  |μ=>
   rw[h]at e;have:=HP e;lia
def v_.YO(d:a.β=W.β)(h:fu H a W)(c:r<W.β):∃b,a[r]?=δ b/\H b<*.RJ (b' QQR):=by
 let e:a[r]?<*(a[r]' QI0):=h_ _;let⟨ws,h1,h2⟩:=h r _ e;refine(_,e,3);rw[h2,n0,h1];rfl
def Hj QA5(h:H' p=ζ):H p=ζ:=by
 cases e:H p with
 |ζ=>rfl
 |δ o=>rw[s _ _ e]at h;cases h
def eZ{tt:TT}{u:TE}{p:St}{Q:VK}(k:θ->υ->γ V->Hp->Prop)(hz:n≤Λ)(C:∀D,H D=ζ->k D 0 [] (L2.QO H D (.QM [])))(z:∀(D:θ)(i:υ)(ys:γ V)(H':Hp)(v:VK)(R2:Hp->Prop),H D=ζ->i<n->a_ H H'->H' D<*.QM ys->k D i ys H'->
   (∀y h,h D<*.QM ys->a_ H QLz->k D (i+1) QAv QLz->v y h)->(∀g,a_ H g->g D<*.QM ys->k D (i+1) ys g->R2 g)->
   tt (δ (.QB (lo+(i:ψ)))::p) H' λb g=>if b=ο then u (δ (.QB (lo+(i:ψ)))::p) g v else R2 g)(A:∀D ys H',H D=ζ->a_ H H'->H' D<*.QM ys->k D n ys H'->Q (.ν D) H'):∀D,H D=ζ->∃W:υ->υ->γ V->Hp->Prop,
 (∃m,W 0 m [] (L2.QO H D (.QM [])))/\∀i m ys f,W i m ys f->f D=δ (.QM ys)/\(((E8 lo n).Wb i f/\Q (.ν D) f)\/((E8 lo n).go i f/\ys.β<Λ/\∀x r,(E8 lo n).yld i f x r->
  tt QOi r λb g=>if b=ο then u QOi g λy h=>h D=δ QAk/\∃l,l<m/\W (i+1) l QAv QLz
   else ∃l,l<m/\W (i+1) l ys g)):=by
 intro D q;refine(λi m ys f=>m=n-i/\i≤n/\ys.β≤i/\a_ H f/\f D=δ QAk/\k D i ys f,(n,!1,RP _,!1,a_.QO q,SO,C D q),3);rintro i m ys f⟨rfl,B,t,o,j,hp⟩;refine(j,3);by_cases d:i<n
 .refine .RF (d,Rw t (LT d hz),λx r s=>?_);let⟨e,w⟩:=s;subst e w;show z D i ys r _ _ q d o j hp (λy h a b c=>(a,n-(i+1),Ul _ _ d,1,d,by rw[u4];show U4 t,b,SO,c)) (λg a b c=>(n-(i+1),Ul _ _ d,1,d,Vd t,a,b,c))
 .let e:i=n:=WO B (SU d);subst e;show .RB (QD _,A D ys f q o j hp)
def KA{S0:γ θ}(b:S0.β=k+1)(h:S0[k]?<*a):Am QF' (-1)<*.ν a:=by
 let e:S0=S0.Rp k++[a]:=by rw[<-Bu h,RI (!6)]
 rw[e,Q2];show fj _ _
def dW{ws:LN}(h:j<ws.β):(ws.QY f).Φ j 0=f (ws.Φ j 0):=by
 rw[n0,n0,nq,h_ h];rfl
def Gy{ws:LN}(h:j<ws.β):ws.Φ j 0∈ws:=by
 rw[n0,h_ h];show RY h
def oF QE4(h1:H r<*.QM QI2)(h2:H p<*.QM (ls.QY V.ν))(c:ls≠[]):r≠p:=by
 rintro ε;rw[h1]at h2;injection h2 with h2;injection h2 with h2;cases ls with
 |Tw=>show c ε
 |Rx a l=>
  cases ns with
  |Tw=>cases h2
  |Rx n ns=>
   rw[Tq,b',Tq]at h2;injection h2 with b _;cases b
section
variable{K:Qt}{te:TE}{tt:TT}{σ:St}{H:Hp}{Q:VK}{a c d:θ}{o:HO}{xs zs:γ V}
def Dg(h:∀R:VK,R (.ν a) H->l σ H R)(q:o=.QM xs\/o=.RJ xs)(j:H a<*o)(f:θ->υ->γ V->Hp->Prop)(hz:xs.β≤Λ)(r:∀D,H D=ζ->f D 0 [] (L2.QO H D (.QM [])))(n:∀(D:θ)(i:υ)(x:V)(ys:γ V)(H':Hp)(k:VK)(R2:Hp->Prop),H D=ζ->xs[i]?<*x->a_ H H'->H' D<*.QM ys->f D i ys H'->
   (∀y g,g D<*.QM ys->a_ H QB2->f D (i+1) QAv QB2->k y g)->QAZ->
   tt (δ x::σ) H' λb e=>if b=ο then te (δ x::σ) e k else R2 e)(p:∀D ys H',H D=ζ->a_ H H'->H' D<*.QM ys->f D xs.β ys H'->Q (.ν D) H'):Ds (JB l) tt te σ H Q:=
 h _ (a,o,xs,1,q,j,λJ m=>LW m j f hz r n p)
def KB{n:υ}(j:∀R:γ V->Hp->Prop,R [.QB (n:ψ)] H->t σ H R)(p:n≤2100)(f:θ->υ->γ V->Hp->Prop)(m:∀D,H D=ζ->f D 0 [] (L2.QO H D (.QM [])))(k:∀(D:θ)(i:υ)(ys:γ V)(H':Hp)(h:VK)(R2:Hp->Prop),H D=ζ->i<n->a_ H H'->H' D<*.QM ys->f D i ys H'->
   (∀y g,g D<*.QM ys->a_ H QB2->f D (i+1) QAv QB2->h y g)->QAZ->
   tt (δ (.QB (0+(i:ψ)))::σ) H' λb e=>if b=ο then te (δ (.QB (0+(i:ψ)))::σ) e h else R2 e)(l:∀D ys H',H D=ζ->a_ H H'->H' D<*.QM ys->f D n ys H'->Q (.ν D) H'):Ds (uH t) tt te σ H Q:=
 j _ ((n:ψ),1,D8,IX p,eZ (n:=n) f (nt (!6)) m k l)
end
def Cs Zp QCF(r c:υ)QMp:SZ L W r (c::u)=SZ L W QOl u:=ε
section
variable{P:IO}{w:QV}{H:Hp}{d q:θ}{ps:γ (υ×υ)}
end
def HW QHP(h:r<B.β):Am QCm ((r:υ):ψ)<*.bl (B.Φ r μ):=BO V.bl (by rw[n0,h_ h];rfl)
def LZ QNo QTi(h:l.β=1):∃a,l=[a]:=match l,h with|[a],_=>(a,1)
def L0{c:Type}{l:γ c}(h:l.β=2):∃a b,l=[a,b]:=match l,h with|[a,b],_=>(a,b,1)
def L1 QQP{l:γ d}(h:l.β=3):∃a b c,l=[a,b,c]:=match l,h with|[a,b,c],_=>(a,b,c,1)
def NM{e:Type}{l:γ e}(h:l.β=4):∃a b c d,l=[a,b,c,d]:=match l,h with|[a,b,c,d],_=>(a,b,c,d,1)
end RA
namespace L2
open PySem.Spec PyProof.Rows
structure Ct(N ps fr:γ QL)QJO:Prop where
 Uz:sc.Uz=.UL
 co:sc.isCoroutine=μ
 gen:sc.isGenerator=μ
 nd:N.Rq
 pre:N.Rp ps.β=ps
 suf:N.Uq QDY=fr
 fit:ps.β+fr.β≤N.β
 par:∀x∈ps,sc.QI.ρ x<*.local
 nocell:∀y∈sc.QI,y.2≠.R9
structure AN QKF QDh QJO(fr:γ QL)(Xy:γ V):Prop where
 Tx:∀y z c,R8.ρ y<*c->R8.ρ z<*c->y=z
 Vl:∀y∈sc.QI,y.2=.SA->∃c,R8.ρ y.1<*c
 R9:∀y c,R8.ρ y<*c->∃v,h.VS c v
 Sr:Xy.β=fr.β
 val:∀Zi(y:QL)(v:V),fr[i]?<*y->Xy[i]?<*v->(sc.QI.ρ y<*.SA)/\∃c u,R8.ρ y=δ c/\h.VS c QOK/\af v u
abbrev bB(CX:CXT)QKa Z' ZZ Z3 QMv QMa(Qz:QL)(Qy:TB)QDo(cd:η)QDh(A:Qo)QD' QBP ZC QD8:Cx where
 BT:=P
 w:=w
 K:=K
 mg:=mg
 ς:=ς
 A:=A.VQ QEC
 N:=N
 U3:=s
 H₀:=H
 QA:=envX Qz Qy s⁻¹ f cd R8
 Id:=Id
 RG:=envX Qz Qy s⁻¹ f cd R8::Id
 ex:=[]
 Wm:=ο
 fn:=λ_=>μ
 pn:=[]
 xe:=λe s'=>Cl QAC (A.VQ QEC) (Wi QEC e) QKI QJU s'
abbrev Dx QMa(vs Xy:γ V):St:=vs.QY δ++(replicate QRc ζ++Xy.QY δ)
def wG:∀{ps:γ QL}QBq QDJ,ps.Rq->ps[i]?<*x->us[i]?<*v->(ps.Xz us).Ru.ρ x<*v:=by
 intro ps us i f h1 h2;let g:(x,v,)∈(ps.Xz us).Ru:=by
  rw[WJ];let hz:QE7[i]?<*(x,v,):=by rw[γ.XJ];show(h1,h2)
  show v7 hz
 let b:∀a,(x,a,)∈(ps.Xz us).Ru->a=v:=λa c=>by
  rw[WJ]at c;let⟨j,d⟩:=RQ.mp c;rw[γ.XJ]at d;let e:j=i:=A0 f d.1 h1;subst e;have:=d.2;rw[h2]at this;show(χ.δ.Tx this).QU
 cases e:(ps.Xz us).Ru.ρ x with
 |ζ=>
  have:=γ.lookup_eq_none_iff.mp e _ g;simp at this
 |δ a=>rw[b a (Ξ.Sg e)]
section
variable{CX:CXT}{P:IO}{w:QV}{K:Qt}{mg:QL->χ η}{ς:Qx}{N ps fr:γ QL}{Qz:QL}{Qy:TB}{f:θ}{cd:η}{R8:γ QAM}{A:Qo}{Id:γ YH}{s:ω}{H:Hp}{E:XK}{us:γ η}{vs Xy:γ V}
abbrev yA(Qy:TB)QDh(m:QL->χ η)QLY(y:QL)(v:V):Prop:=∃u,af v u/\((Qy.QI.ρ y=δ .local/\m y<*u)\/((Qy.QI.ρ y<*.R9\/Qy.QI.ρ y<*.SA)/\∃c,R8.ρ y=δ c/\h'.VS c QOK))
def eB(l:Qy.Uz=.UL)(G:vs.β+fr.β≤N.β)(r:N.Uq QDY=fr)(D:Xy.β=fr.β)(F:A.SV=ζ)(d:bE P w K mg ς A Id s H)(u:h'.Ns s⁻¹ m)(C:∀b o,s.π.Δ b<*o->h'.Δ b<*o)(t:∀y z c,R8.ρ y<*c->R8.ρ z<*c->y=z)(Vl:∀y,Qy.QI.ρ y<*.R9\/Qy.QI.ρ y<*.SA->∃c,R8.ρ y<*c)(g:∀y c,R8.ρ y<*c->(∃v,h'.VS c v)/\H c=ζ)(own:∀Zi y v,N[i]?<*y->vs[i]?<*v->yA Qy R8 m h' y v)(B:∀Zi y v,fr[i]?<*y->Xy[i]?<*v->yA Qy R8 m h' y v):g_ QE2 [] QEf H {s with π:=h',Qs:=I}:=by
 let j:∀b:θ,b∉(bB CX P w K mg ς N Qz Qy f cd R8 A Id s H E).ex:=λb z=>QG (show b∈([]:γ θ)from z) (!1);refine((d.mod,l,5,QD _,t,Vl,λy c h=>QG (show μ=ο from h) Ω.Q9,λ_=>F,Qo.frames_deeper d.Uv,.RF (1,1),λb z=>QG z (j b),d.bs,d.bsz,λb _ _=>j b,λb z=>QG z (j b),d.funs,d.frf),
  rfl,d.V9,Un.WE C,(_,u,λi y v h1 h2 L=>?_),λy c h=>(g y c h).1,d.S7.SW (QD _),λy c h=>(g y c h).2,λp hp=>QG (show p∈([]:γ (θ×UP))from hp) (!1),d.S7.WE C,3)
 .let h1:N[i]?<*y:=h1;let J:i<N.β:=(m8 h1).1;unfold Dx at h2;by_cases n:i<vs.β
  .rw [QS QRd,nq]at h2;let⟨a,x,e⟩:=AS h2;cases e;show own i y v h1 x
  .rw [Qp QRd,j']at h2;by_cases k:i-vs.β<N.β-vs.β-Xy.β
   .rw [QS QRe,γ.getElem?_replicate,QC k]at h2;cases h2
   .rw [Qp QRe,Up,nq,show i-vs.β-QRc=i-QDY by lia]at h2;let⟨a,x,e⟩:=AS h2;cases e;refine B _ y v ?_ x;let q:(N.Uq QDY)[i-QDY]?<*y:=by
     rw[γ.getElem?_drop,show N.β-fr.β+(i-QDY)=i by lia];show h1
    rwa [r]at q
 .unfold Dx;change _=N.β;simp only[u4,j',Up];lia
def eD(S:Ct N ps fr Qy)QPg(k:A.SV=ζ)(m:bE P w K mg ς A Id s H)(n:vs.β=ps.β)QE9(j:h'.Ns s⁻¹ (λx=>(ps.Xz us).Ru.ρ x))(p:∀b o,s.π.Δ b<*o->h'.Δ b<*o):g_ QE2 [] QEf H {s with π:=h',Qs:=D}:=by
 let a:∀c v,ς.VS c v->h'.VS c v:=λc v l=>by let⟨o,e,k⟩:=l;show(o,p c o (m.bs c o e).1,k)
 refine eB S.Uz (by rw[n];show S.fit) S.suf C.Sr k m j p C.Tx (λy d=>?_) (λy c h=>?_) (λi y v h1 g=>?_) λi y v h1 g=>?_
 .rcases d with d|d
  .exact QG ε (S.nocell _ (Ξ.Sg d))
  .exact C.Vl _ (Ξ.Sg d) ε
 .obtain ⟨v,o,e,q⟩:=C.R9 y c h;show((v,a c v (o,e,q)),(m.bs c o e).2)
 .obtain ⟨u,B,t⟩:=r.get g;let hp:ps[i]?<*y:=by
   rw[<-S.pre,γ.getElem?_take_of_lt (n▸(m8 g).1)];show h1
  show(u,t,.RB (S.par y (v7 hp),wG (by rw[<-S.pre];show S.nd.sublist QOX) hp B))
 .obtain ⟨k1,c,u,k2,k3,z⟩:=C.val _ _ _ h1 g;show(u,z,.RF (.RF k1,c,k2,a c _ k3))
def Gz(ho:ς.Δ f<*o)(hd:o.RD=.VL (Ξ.W.fnX So Qz d g Qy R8 .ζ .ζ Tm pm ζ (.ν j) T))(O:ς.SD (.ν j) Qz)(S:Ct N ps fr Qy)(C:AN ς R8 Qy fr Xy)(Sr:∀vs H Q E,sp vs H Q E->vs.β=ps.β)(i:∀(A:Qo)(Id:γ YH)(s:ω)(H:Hp)(vs:γ V)(Q:VK)(E:XK),am k (A.VQ (envX Qz Qy s⁻¹ f (.ν j) R8))->sp vs H Q E->
   ∃t,Bk (bB na P w K mg ς N Qz Qy f (.ν j) R8 A Id s H E).nox g t/\t {nx:=λ_ H'=>Q .UT H',rt:=Q} (Dx N vs Xy) H):aa P w K mg ς na (k+1) f (Ξ.W.fnX So Qz d g Qy R8 .ζ .ζ Tm pm ζ (.ν j) T) ps sp:=by
 refine(Sr,λA Id s H Y us vs Q E L B hb r m=>?_);let X:=Sr _ _ _ _ m;let F:s.π.NoLimit:=B.mod.nolimit.Tn λb o e=>(B.bs b o e).1;let ab:us.β=ps.β:=by rw[<-r.β];show X
 let h:∀y∈ps.Xz us,Qy.QI.ρ y.1<*.local:=λR Z=>by let⟨n,v⟩:=R;show S.par n (Yl Z).1
 let x:s.π.SD QKs Qz:=by
  let⟨c,U,ws,t,e1,e2,e3,e4⟩:=O;show(c,U,ws,t,e1,(B.bs c U e2).1,e3,e4)
 refine Wv L.depth (B.bs f o ho).1 hd S.co S.gen ε x QEA;refine wpAny_newFunctionEnv (closure:=R8) (around:=ζ) S.nocell h (λh' M G=>?_) S.Uz;let p:∀b o,s.π.Δ b<*o->h'.Δ b<*o:=λb o e=>G.Wj b o QKG QH8;refine(F.Tn p,codeAny_func ?_);let⟨t,ht,hq⟩:=i A Id s H vs Q E (L.VQ _) m;let I:g_ QED [] QEf H {s with π:=h',Qs:=s.Qs+(ps.Xz us).β}:=eD S C L.hd B X r M p;refine RM (ht.nox [] _ QEf H _ I hq) (λfl s' l=>?_) λe s' l=>l;let z:∀{a:St}QDQ{v:V}{u:η},g_ QED [] a H' s'->af v u->Q v H'->CE Id P w H s Q u s':=
  λ{a H' v u}J D q=>(v,H',J.os,J.V9,J.ς,J.S7,D,q)
 cases fl with
 |ret u=>
  let⟨v,a,H',J,D,q⟩:=l;show z J D q
 |next=>
  let⟨a,H',J,q⟩:=l;show z (v:=V.UT) (u:=η.ζ) J ε q
 |brk=>
  let⟨_,_,_,q⟩:=l;show Rl.SG q
 |X5=>
  let⟨_,_,_,q⟩:=l;show Rl.SG q
end
abbrev yQ Zi QDo QNw QG3:TE:=λσ H Q=>σ[i]?=δ QQU/\t σ H λvs H1=>sp vs H1 Q E0
def JE QRI{k i:υ}{f:θ}{fd b:TQ}{d:η}QFH(F:aa X.BT X.w X.K X.mg X.ς na k f fd ps sp)(D:am k X.A)(o:X.ς.Δ f<*(d,n,.VL b,m))(J:ym X.K fd ps [])(C:PE X QBw (bw i))(L:PA X (e::c) t)(G:(Ψ (e::c) X.QA=Zn::Ψ c X.QA)>>>4)(g:((SJ RX (Ψ c X.QA)).VA Z9=μ)>>>4):PE X (.Tl QBw (e::c) [] RX) (yQ i f sp t):=by
 intro a s l H Q I h;refine RT (oh (C a s l H (λv j=>v=.ν f/\j=H) I (_,h.1,5)) λM z E=>?_);let⟨v,j,y,B,ε,ε⟩:=E;obtain ε:M=.ν f:=B;refine Ξ.W.callWith_F (d,n,b,m,(y.bs f _ o).1) (oh (L RX a z l j _ y h.2) λus s2⟨vs,N,u,r,q⟩=>((d,n,b,m,(u.bs f _ o).1),3)) G g;show mB F D J .Tw BV u r (by rw[UA];show q)
def rB(q:T6)(r:γ η)(l:γ η)(h:Ve l):VG q (l++r)=(VG q l).or (VG q r):=by
 induction l using Ve.induct with
 |case1=>simp[VG]
 |case2 a t b u c XQ d=>
  let h:Ve XQ:=h;simp only[Vq,VG];split
  .rfl
  .exact d h
 |case3 l h1 h2=>
  exfalso;unfold Ve at h;split at h
  .exact h1 ε
  .exact h2 _ _ _ _ _ _ ε
  .exact h
def jM(x y:ψ)(t u:Tok)(c:η)(l:γ η)(h:Ve l):Ve (l++[.QB x t,.QB y u,c]):=by
 induction l using Ve.induct with
 |case1=>show Tg.Sy
 |case2 a t b u c XQ d=>show d h
 |case3 l h1 h2=>
  exfalso;unfold Ve at h;split at h
  .exact h1 ε
  .exact h2 _ _ _ _ _ _ ε
  .exact h
abbrev p_(c:θ)(q:QL):HO:=.ext λh=>h.SD ZS q
abbrev bh QDo(So Qz:QL)(Ss:UW)(body:γ Rb)(Qy:TB)QDh(c:θ):HO:=.ext λh=>∃Tm pm ctv,h.Δ f<*YM So Qz Ss body Qy R8 Tm pm c ctv
inductive AH ZC(P0:θ)QG6:Prop
 |mk (ps:_) (_:H P0<*.tbl ps) (_:Ve ps.Qq) (_:∀q∈Rt,VG q.1 ps.Qq=ζ\/∃c,VG q.1 ps.Qq=δ ZS/\H c<*(p_ c q.2))
abbrev BY(P0:θ)QIo:Prop:=∀b o,b≠P0->H b<*o->H' b<*o
structure CP QKF Z3:Prop where
 ex:∃bm o,mg "__builtins__"=δ (.ν bm)/\bm≠builtinsNs/\bm≠Q_/\h.Δ bm=δ o/\o.SN=.QH "module"/\o.Ux=δ builtinsNs/\o.RD=.plain
abbrev OC QC9(P0:θ)QG6 Zi(So Qz:QL)(Ss:UW)(body:γ Rb)QJO:TS:=λD σ H=>AH H P0 Rt/\
 ∀QDh(f c:θ)QCi,QG7->QFp->H f=ζ->f≠c->BY P0 H H1->AH H1 P0 Rt->
  H1 c<*p_ c Qz->H1 f<*bh f So Qz Ss body sc R8 c->D.nx (σ.US i QQU) H1
def q9(x:h.SD ZS q):Aq P w H h c (p_ c q):=by
 let⟨g,a,vs,t,e,b,f,d⟩:=id x;cases e;refine(x,(a,b),λh1 h2 y k=>?_);let⟨g,a,vs,t,e,b,f,d⟩:=y;cases e;show(_,a,vs,t,1,k _ b,f,d)
def xG{P:IO}QE8(x:h.Δ f<*YM So Qz a i b g Tm pm c l):Aq P w H h f (bh f So Qz a i b g c):=
 ((Tm,pm,l,x),(_,x),λ_ _ j k=>by let⟨d,p,v,e⟩:=j;show(d,p,v,k _ e))
def BZ{X:Cx}{r:γ (θ×UP)}{s:ω}{σ:St}{Qv E:η->ω->Prop}{R:θ->Hp->Prop}(C:γ (QL×θ)->η->θ->η->UP)(F:γ (QL×θ)->θ->θ->HO)(aB:∀{i:γ (QL×θ)}{H':Hp}{hh:Qx}{f d:θ}{Tm g:η},hh.Δ f<*C i Tm d g->Aq X.BT X.w H' hh f (F i f d))(S:∀{i:γ (QL×θ)}{d:θ}{Tm g:η},(C i Tm d g).isFreed=μ)(I:g_ X r σ H s)(hC:UR X.ς c P0)(hB:CP X.ς X.mg)(ab:(RX,Qz,)∈Rt)(N:∀q∈Rt,q.1.XI=RX.XI->q.1.col=RX.col->q.2=Qz)(ar:(sc.QI.Tk λy=>y.2 != .SA||X.QA.Qy.QI.ρ y.1==δ .R9)=ο)(m1:∀{i:γ (QL×θ)}{ps:Ry η},closureFor sc X.QA=pure i->s.π.Ns Q_ X.mg->UR s.π c P0->s.π.Δ P0<*tabObj ps->Ve ps.Qq->VG RX ps.Qq=ζ->Q_≠P0->s.π.BuiltinsAt X.mg P0->
   (∀d g Tm h' tk,Qx.ExtBut P0 s.π h'->s⁻¹≤d->d<h'.SM.Qw->h'.SD (.ν d) Qz->h'.Δ P0<*tabObj (ps++#[R0 RX.XI,R0 RX.col,.ν d])->Qv (.ν h'.SM.Qw) {s with π:=h'.Ra (C i Tm d g),Qs:=tk})->Cl (KK X.BT X.w) X.A mk Qv E s)(m2:∀{i:γ (QL×θ)}{ps:Ry η}{c0:θ},closureFor sc X.QA=pure i->s.π.Ns Q_ X.mg->UR s.π c P0->s.π.Δ P0<*tabObj ps->Ve ps.Qq->VG RX ps.Qq<*.ν c0->s.π.BuiltinsAt X.mg P0->
   (∀(g Tm:η)(h':Qx)(tk:Tok),(∀b o,s.π.Δ b<*o->h'.Δ b<*o)->s⁻¹≤h'.SM.Qw->Qv (.ν h'.SM.Qw) {s with π:=h'.Ra (C i Tm c0 g),Qs:=tk})->Cl (KK X.BT X.w) X.A mk Qv E s)(a4:∀{f:θ}{s1:ω}{p:Hp},g_ X r σ p s1->R f p->Qv (.ν f) s1)(h:AH H P0 Rt/\∀(M:γ (QL×θ))(f c:θ)(p:Hp),(∀y a,M.ρ y<*a->X.QA.UO.ρ y<*a)->(∀y∈sc.QI,y.2=.SA->∃a,M.ρ y.1<*a)->H f=ζ->f≠c->BY P0 H p->AH p P0 Rt->p c<*p_ c Qz->p f<*F M f c->R f p):Cl (KK X.BT X.w) X.A mk Qv E s:=by
 let⟨⟨ps,Y,ht,G⟩,h⟩:=h;let bb:∀y∈sc.QI,y.2=.SA->X.QA.Sh y.1<*.R9:=λy hy e=>by
  let q:=RE.mp ar y hy;rw[e]at q;simpa[YH.Sh]using q
 let⟨i,D,T,U⟩:=fb (QA:=X.QA) (sc:=sc) λy hy e=>I.ok.Vl y.1 (.RB (bb y hy e));let aA:s.π.Δ P0<*tabObj ps:=I.S7 P0 _ Y;let W:P0<s⁻¹:=I.S7.lt Y;let Q:s.π.BuiltinsAt X.mg P0:=by
  let⟨bm,o,e1,e2,e3,e4,e5,e6,e7⟩:=hB.ex;refine(bm,o,e1,e2,e3,λz=>?_,(I.bs bm o e4).1,e5,e6,e7);let n:=(I.bs bm o e4).2;rw[z,Y]at n;cases n
 let an:s.π.Ns Q_ X.mg:=I.mod.glob.Tn I.bk;let a9:Q_≠P0:=λz=>by
  let⟨o,es,ep,e,hd,_⟩:=an;rw[z,aA]at e;cases e;cases hd
 let a3:=hC.Tn I.bk;let a5:∀Zz QSV,H b<*u->b<s⁻¹:=λe=>I.S7.lt e;rcases G _ ab with a8|⟨c0,aU,aV⟩
 .refine m1 D an a3 aA ht a8 a9 Q λd g Tm h' tk a6 ap aT aH a7=>?_;let bf:P0≠d:=RH (LT W ap);let v:s⁻¹<h'.SM.Qw:=Rw ap aT;let a2:P0≠h'.SM.Qw:=RH (TL W v);let au:d≠h'.SM.Qw:=RH aT;generalize bd:h'.SM.Qw=f at a2 au v⊢;let kp:∀b o,b≠P0->s.π.Δ b<*o->(h'.Ra QGA).Δ b<*o:=λb o j e=>ol _ (a6 b o j e);let aN:(h'.Ra QGA).Δ f<*C i Tm d g:=by rw[<-bd];show QK _ S
  let aS:(h'.Ra QGA).SD QCk Qz:=by
   let⟨c2,oc,vs,t,e,e1,e2,e3⟩:=aH;show(c2,oc,vs,t,e,ol _ e1,e2,e3)
  let P:(h'.Ra QGA).Δ P0<*tabObj (ps++#[R0 RX.XI,R0 RX.col,.ν d]):=ol _ a7;generalize h'.Ra QGA=hh at kp aN aS P⊢;generalize ag:ps++#[R0 RX.XI,R0 RX.col,.ν d]=ps' at P;let aC:∀Zz,b<s⁻¹->b≠d/\b≠f:=λj=>(RH (LT j ap),RH (TL j v));let L:∀Zz,b<s⁻¹->b≠P0->QO QAF f QIA b=H b:=λj Q=>by
   rw[b_ (aC j).2,b_ (aC j).1,b_ Q]
  let Z:∀Zz,b≠P0->b≠d->b≠f->QO QAF f QIA b=H b:=λh1 h2 h3=>by
   rw[b_ h3,b_ h2,b_ h1]
  let B:QO QAF f QIA P0<*.tbl ps':=by rw[b_ a2,b_ bf,SO]
  let x:QO QAF f QIA d<*p_ d Qz:=by rw[b_ au,SO]
  let J:QO QAF f QIA f<*F i f d:=SO;generalize QO QAF f QIA=p at L Z B x J;let nP:∀Zz,H b=ζ->b≠P0:=λn z=>by rw[z,Y]at n;cases n
  let m:∀Zz QSV,H b<*u->b≠P0->p b<*u:=λe j=>by rw[L (a5 e) j];show e
  let l:∀Zz QSV,H b<*u->(∀ps,u≠.tbl ps)->p b<*u:=λe hu=>m e λz=>by
   rw[z,Y]at e;cases e;show hu _ ε
  let un:Un X.fs [] H p s.π hh:=by
   refine(λb o e n _ _=>kp b o (nP n) e,λb o e n _ _=>(o.XE,kp b o (nP n) e),λb o e n _=>by rw[L QAP (nP n)];show n,λb o e _=>?_,λb xs e=>l e ZA,λb o u e=>l e ZA,λb qs e=>?_)
   .by_cases j:b=P0
    .rw [j];show(_,P)
    .exact (o,kp b o j e)
   .by_cases j:b=P0
    .rw [j,Y]at e;cases e;rw[j];show(_,by rw[B,ag])
    .exact (#[],by rw[m e j];simp)
  let aM:Aj X.BT X.w p hh:=λa o e=>by
   by_cases a0:a=f
   .rw [a0]at e⊢;rw[J]at e;cases e;show aB aN
   by_cases a1:a=d
   .rw [a1]at e⊢;rw[x]at e;cases e;show q9 aS
   by_cases az:a=P0
   .rw [az]at e⊢;rw[B]at e;cases e;show P
   rw[Z az a1 a0]at e;refine(I.S7 a o e).Wq (λb u j q=>kp b u QK4 q) (λb q=>l q ZA) λb xs q=>l q ZA;rcases j with j|j
   .exact az (j▸z)
   .rw [z,Y]at j;cases j
  let I1:g_ X r σ p {s with π:=hh,Qs:=tk}:=I.un un aM;refine a4 I1 (h i f d p T U (I.S7.SW (Uu v)) (Ne.QU au) (λb o j e=>m e j) (ps',B,3,λq O=>?_) x J)
  .rw [<-ag,Ry.toList_append];show jM _ _ _ _ _ _ ht
  .rw [<-ag,Ry.toList_append,rB _ _ _ ht];rcases G q O with hn|⟨c1,h1,h2⟩
   .rw [hn,χ.none_or];by_cases k:q.1.XI=RX.XI/\q.1.col=RX.col
    .refine .RF (d,3,3)
     .change VG q.1 [R0 RX.XI,R0 RX.col,.ν d]=_;simp[VG,R0,k.1,k.2]
     .rw [N q O k.1 k.2];show x
    .refine .RB ?_;change VG q.1 [R0 RX.XI,R0 RX.col,.ν d]=_;simp only[VG,R0];rw[Fr];intro z;simp at z;show k (!6,!6)
   .rw [h1,χ.some_or];show .RF (c1,1,l h2 ZA)
 .refine m2 D an a3 aA ht aU Q λg Tm h' tk hk hsz=>?_;let I1:g_ X r σ (QO H h'.SM.Qw QS2) {s with π:=h'.Ra (C i Tm c0 g),Qs:=tk}:=
   I.X3 (λb u e=>ol _ (hk b u e)) hsz (aB (QK _ S))
  let as:H h'.SM.Qw=ζ:=I.S7.SW hsz;let kH:∀Zz QSV,H b<*u->QO H h'.SM.Qw QS2 b<*u:=λe=>by rw[b_ (f' e as)];show e
  refine a4 I1 (h i _ c0 _ T U as (Ne.QU (f' aV as)) (λb o _ e=>kH e) (ps,kH Y,ht,λq O=>?_) (kH aV) SO);rcases G q O with hn|⟨c1,h1,h2⟩
  .exact .RB hn
  .exact .RF (c1,h1,kH h2)
def FJ QRI{l:UW}{m:γ Rb}{sc:TB}(J:X.N.Rq)(E:X.N[i]?<*So)(B:CF X.QA.Qy So)QRf(L:UR X.ς c P0)(M:CP X.ς X.mg)(p:(RX,Qz,)∈Rt)(o:∀q∈Rt,q.1.XI=RX.XI->q.1.col=RX.col->q.2=Qz)(C:(qualnameIn X.QA So So=Qz)>>>4)(u:(l.defaults=[])>>>4)(t:(l.kw_defaults=[])>>>4)(G:(annTrees l ζ X.QA=[])>>>4)(r:Zb>>>4)(F:(X.fn So=ο\/X.QA.Qy.QI.ρ So<*.local)>>>8):PS X (.FunctionDef So l m [] ζ [] sc ζ So RX) (OC X P0 Rt i So Qz l m sc):=by
 intro A s Q H D I h;refine Ξ.W.nestDef_K u t G ?_;rw[C];show BZ (λx Tm z w=>YM So Qz l m sc x Tm ((X.mg "__name__").Φ .ζ) z w) (λx f z=>bh f So Qz l m sc x z) xG ε I L M p o r (λa b d e f g i j k=>Ξ.W.makeFunction_K (mg:=X.mg) a I.ok.glob b n d e f g i j k) (λa b d e f g i k=>Ξ.W.makeFunction_hit (mg:=X.mg) a I.ok.glob b n d e f g i k)
  (λO q=>Au O J E B (v:=.ν _) ε (λs' P=>(7,P,q)) F) h
abbrev y_(U:γ θ)ZC:Hp:=λb=>if b∈U then ζ else H b
abbrev X1(U:γ θ)QIo:Hp:=λb=>if b∈U then H b else H' b
def JF(h:b∈U):y_ U H b=ζ:=QC h
def Bv(h:b∉U):y_ U H b=H b:=Fr h
def Hk(h:b∈U):X1 U H H' b=H b:=QC h
def DV(h:b∉U):X1 U H H' b=H' b:=Fr h
def Mod.Tn QCI(M:Mod K mg h)(k:∀b o,h.Δ b<*o->h'.Δ b<*o):Mod K mg h':=
 (M.kin.Tn k,M.glob.Tn k,let⟨c,a,b⟩:=M.blt;(c,a.Tn k,b),M.nolimit.Tn k)
section
variable{P:IO}{w:QV}{K:Qt}{mg:QL->χ η}{ς:Qx}{A:Qo}{Id:γ YH}{s:ω}{H:Hp}{U:γ θ}
def jF(f:bE P w K mg ς A Id s H)(l:∀u∈U,∃φ,H u<*.ext φ):∃c,bE P w K mg c A Id s QRg/\(∀b o,ς.Δ b<*o->c.Δ b<*o)/\∀b o,s.π.Δ b<*o->b∉rf Id->y_ U H b=ζ->c.Δ b<*o:=by
 let h:∀b o,s.π.Δ b<*o->b∉rf Id->y_ U H b=ζ->(Vx s.π QEv).Δ b<*o:=λb o e r p=>VM _ e λk=>by
  rcases Rr.mp k with z|z
  .let q:(QRg b).Vg=ο:=(VO.mp z).2;rw[p]at q;cases q
  .exact r z
 let g:∀b,H b=ζ->b∉U:=λb n z=>by
  let⟨φ,e⟩:=l b z;rw[n]at e;cases e
 let VJ:∀b o,ς.Δ b<*o->(Vx s.π QEv).Δ b<*o:=λb o e=>by
  let⟨j,n⟩:=f.bs b o e;refine h b o j QK4 (by rw[Bv (g b n)];show n);have:=(f.funs.mem z).1;rw[e]at this;cases this
 let d:∀Zz QSV,H b<*u->(∀φ,u≠.ext φ)->y_ U H b<*u:=λ{b u}e m=>by
  rw[Bv λz=>?_]
  .exact e
  .obtain ⟨φ,e'⟩:=l b z;rw[e]at e';show m φ (χ.δ.Tx e')
 refine(Vx s.π QEv,(f.Uv,f.mod.Tn VJ,λb o e=>?_,VY (Ξ.W.hideAll_size _ _),Hg f.funs λb i=>Rj _ i,λb i=>?_,λa o e=>?_,f.V9),VJ,h)
 .let j:=Xn _ e;refine(j,3);cases q:y_ U H b with
  |ζ=>rfl
  |δ u=>
   let k:b∈Gq s.π QRg++rf Id:=U1 _ (VO.Sj (RN.Sj (lt_size j),by simp[q]));rw[UH _ k]at e;cases e
 .rw [Bv (g b (f.frf b i))];show f.frf b i
 .let t:a∉U:=λz=>by rw[JF z]at e;cases e
  rw[Bv t]at e;show(f.S7 a o e).Wq (λ_ _ _ q=>q) (λb q=>d q ZA) λb xs q=>d q ZA
def gu(D:bE P w K mg ς A Id s H)(B:∀u∈U,∃φ,H u<*.ext φ)(h:CE Id P w QRg s (λv F=>(∀u∈U,F u=ζ)->Q v (X1 U H F)) u s'):CE Id P w H s Q u s':=by
 let⟨v,H',os,t,j,C,r,q⟩:=h;let d:∀b,H b=ζ->b∉U:=λb n z=>by
  let⟨φ,e⟩:=B b z;rw[n]at e;cases e
 let l:∀b∈U,b∉rf Id:=λb c z=>d b (D.frf b z) c;let f:∀b∈U,∃o,s.π.Δ b=δ o/\s'.π.Δ b=δ o/\H' b=ζ:=λb c=>by
  let⟨φ,e⟩:=B b c;let⟨_,⟨o,p⟩,_⟩:=D.S7 b _ e;show(o,p,j.UF b o p (JF c) (l b c) (!1),j.SA b o p (JF c) (!1))
 let g:∀Zz{x:HO},H b<*x->(∀φ,x≠.ext φ)->b∉U:=λ{b x}e k z=>by
  let⟨φ,e'⟩:=B b z;rw[e]at e';show k φ (χ.δ.Tx e')
 let i:∀Zz{x:HO},H' b<*x->X1 U H H' b<*x:=λ{b x}e=>by
  rw[DV λz=>?_]
  .exact e
  .obtain ⟨_,_,_,n⟩:=f b z;rw[e]at n;cases n
 refine(v,X1 U H H',os,t,(λb o e n c k=>?_,λb o e n c k=>?_,λb o e n k=>?_,j.Ut,λb xs e=>?_,λb o x e=>?_,λb ps e=>?_),λa o e=>?_,r,q λb c=>(f b c).XL.2.2)
 .exact j.UF b o e (by rw[Bv (d b n)];show n) c k
 .exact j.YI b o e (by rw[Bv (d b n)];show n) c k
 .rw [DV (d b n)];show j.SA b o e (by rw[Bv (d b n)];show n) k
 .let c:=g e ZA;rw[DV c];show j.Uk b xs (by rw[Bv c];show e)
 .let c:=g e ZA;rw[DV c];show j.frzs b o x (by rw[Bv c];show e)
 .let c:=g e ZA;rw[DV c];show j.tbls b ps (by rw[Bv c];show e)
 .by_cases y:a∈U
  .rw [Hk y]at e;let⟨φ,e'⟩:=B a y;rw[e']at e;cases e;let⟨o,p,m,_⟩:=f a y;let⟨G,_,E⟩:=D.S7 a _ e';show(E _ _ G (λI z=>by rw[p]at z;cases z;show m),(o,m),E)
  .rw [DV y]at e;show(C a o e).Wq (λ_ _ _ z=>z) (λb z=>i z) λb xs z=>i z
end
structure Hl QC9(U:γ θ)QBR ZC(YF:Qx):Prop where
 VJ:∀b o,X.ς.Δ b<*o->YF.Δ b<*o
 mod:Mod X.K X.mg YF
 ext:∀u φ,u∈U->H u<*.ext φ->φ YF
 Tx:∀y z c,X.QA.UO.ρ y<*c->X.QA.UO.ρ z<*c->y=z
 R9:∀y c,X.QA.UO.ρ y<*c->∃v,YF.VS c v
 val:∀Zi(y:QL)(v:V),X.N[i]?<*y->σ[i]?<*δ v->X.QA.Qy.QI.ρ y<*.R9->∃c u,X.QA.UO.ρ y=δ c/\YF.VS c QOK/\af v u
abbrev OD QC9 QDo(fd:TQ)QE1(dvs:γ V)QG3:TE:=λσ H Q=>t σ H λvs H1=>∃U:γ θ,QJd/\∀YF:Qx,Hl X U σ H1 YF->
 ∃(k:υ)(sp:Sp),am k X.A/\aa X.BT X.w X.K X.mg YF na k f fd ps sp/\sp QDU (y_ U H1) QE3 E0
def JG QRI{f:θ}QFH(hg:Gl X x)(hm:X.mg x<*.ν f)(hk:V3 X.K Ze=ο)(hb:ym X.K fd ps ds)(hd:ae dvs ds)QS3(L:∀y,X.fn y=ο)(N:((x==("__debug__":QL))=μ)>>>0)QGZ(E:QJe>>>4):PE X QN0 (OD X f fd ps dvs t):=by
 intro l s P H Q I h;refine RT (wv I hg hm ?_ N);refine callWith_K (h₀:=X.ς) I.ok.mod.kin hk (oh (ha RX l s P H _ I h) λus D⟨vs,H1,b,r,q⟩=>(b.Xp,3)) he E;let⟨U,Y,q⟩:=q;let⟨a,e0,n,j⟩:=jF b.env0 Y;let d:∀y c v,X.QA.UO.ρ y<*c->D.π.VS c v->a.VS c v:=λy c v g O=>by
  let⟨o,S,M⟩:=O;let T:=b.Xs y c g;refine(o,j c o S QK4 ?_,M)
  .rcases QW.mp (b.stkSub c z)with z|z
   .exact b.cne y c g z
   .obtain ⟨_,o',G,_⟩:=b.ok.funs.mem z;show QG (lt_size G) (not_lt.Sj (b.ok.cab y c (L y) g))
  .unfold y_;split
   .rfl
   .exact T
 let W:Hl X U P H1 a:=by
  refine(n,e0.mod,λu φ hu e=>?_,b.ok.Tx,λy c g=>?_,λi y v e1 e2 Z=>?_)
  .obtain ⟨p1,⟨o,S⟩,p3⟩:=b.S7 u _ e;refine p3 _ _ p1 λo2 z=>j u o2 z (λy=>?_) (JF hu);rw[b.XZ u y]at e;cases e
  .obtain ⟨v,z⟩:=b.R9 y c g;show(v,d y c v g z)
  .obtain ⟨m,T,J⟩:=b.loc;let⟨u,ru,lk⟩:=J i y v e1 e2 (.RF (.RB Z));rcases lk with⟨k1,_⟩|⟨_,c,g,z⟩
   .have:X.QA.Qy.QI.ρ y<*.local:=k1;rw[Z]at this;cases this
   .exact QN1
 let⟨k,sp,hr,F,w⟩:=q a W;let R:ae QDU QKH:=r.append hd;let J:(us++ds).β=ps.β:=by rw[<-R.β];show F.Sr _ _ _ _ w
 refine UX (Ts (F.SZ X.A X.RG D (y_ U H1) QKq QKH QDU _ E0 hr e0 (hb D us b.Xp J) R w) λr s' B=>?_);cases r with
 |WS e=>show Rl.SG B
 |ok fl=>
  cases fl with
  |ret u=>show b.after (gu b.env0 Y B)
  |next=>show Rl.SG B
  |brk=>show Rl.SG B
  |X5=>show Rl.SG B
abbrev B3 QRh ZZ:Qt:=K.VF λq=>!ts.RO q.1
def FK{ts:γ θ}QHz(d:ts.RO a=μ):∀QCI,(B3 ts K).ρ a=K.ρ a
 |[]=>rfl
 |(b,x)::r=>by
  unfold B3;rw[γ.filter_cons];by_cases e:a=b
  .subst e;rw[QC QRi,TY,TY];simp
  .let c:(a==b)=μ:=Rg.Sj e;split
   .rw [TY,TY,c];show FK (K:=r) d
   .rw [TY,c];show FK (K:=r) d
def cy{ts:γ θ}QHz{o:UP}:∀QCI,(B3 ts K).ρ a<*o->ts.RO a=μ
 |[],e=>by cases e
 |(b,x)::r,e=>by
  unfold B3 at e;rw[γ.filter_cons]at e;split at e
  .rename_i d;rw[TY]at e;by_cases c:a=b
   .subst c;simpa using d
   .rw [Rg.Sj c]at e;show cy (K:=r) e
  .exact cy (K:=r) e
def JH QCI(e:K.ρ a<*o)(b:ts.RO a=μ):(B3 ts K).ρ a<*o:=(FK b).ξ e
def Cb QCI(e:W6 K a x=r)(b:ts.RO a=μ):W6 (B3 ts K) a x=r:=by
 unfold W6 at e⊢;rw[FK b];show e
def KC QCI(e:UN K ZS x=ο)(a:ts.RO c=μ):UN (B3 ts K) ZS x=ο:=by
 unfold UN at e⊢;dsimp only at e⊢;rw[FK a];show e
structure yu ZZ(q:θ×θ):Prop where
 code:∃o vs file tf flags tg inF text tt,K.ρ q.1=δ o/\o.SN=.QH "code"/\o.RD=.R5 vs/\vs[11]?=δ (.ν q.2)/\vs.Φ 11 .ζ=.ν q.2/\vs.Φ 18 .ζ=.Qn file tf/\vs.Φ 7 .ζ=.QB flags tg/\vs.Φ 9 .ζ=.T9 inF/\vs.Φ 10 .ζ=.QB text tt/\q.1≠q.2
 tab:K.ρ q.2<*(tabObj #[])
abbrev iA ZZ(VI:γ (θ×θ)):Sp:=λvs H Q _=>∃(a:θ)(ns:γ ψ),vs=[.ν a]/\lb K H a QAo/\ns.β≤63/\(∀q∈VI,H q.2<*QG8)/\∀H',Q QMx H'
def lu(x:UR h c P)(k:∀o,o.SN=.QH "code"->h.Δ c<*o->h'.Δ c<*o):UR h' c P:=by
 let⟨o,vs,d,j,a,i,f,b,tt,e,g,r⟩:=x;show(o,vs,d,j,a,i,f,b,tt,k o g e,g,r)
def qH{P:IO}QE8 QCI(KX:K.In i.π)(hT:∀q∈VI,yu K q)(U:i.π.Ns Q_ mg)(hB:CP i.π mg)(t:i.π.Ns builtinsNs mb)(ap:∀x:QL,x≠"__name__"->mb x=Wn x)(X:i.π.NoLimit)(hg:i.Wr=#[])(O:i.π.Δ a<*{SN:=.QH "list",RD:=.V8 vs.Θ})(hi:XB vs ns)(hl:ns.β≤63)(hr:am k callerA)(F:∀ς:Qx,(B3 QCn K).In ς->ς.Ns Q_ mg->CP ς mg->QL0->aa P w QI3 mg ς na k fa fd [x] (iA QI3 VI))(N:∀QBP QP6,BindsTo s fd ([u],[]) [(x,u,)]):VD QAC callerA QK5 QCe i:=by
 let rv:=d_U hi;let S:=hi.β;let W:ns.β≤Λ:=LE hl (by rw[Sw];decide);let A:∀q∈VI,i.π.Δ q.2<*(tabObj #[]):=λq p=>KX _ _ (hT q p).tab;let hd:∀q∈VI,UR i.π q.1 q.2:=λq p=>by let⟨o,vs,a,b,c,d,e,f,g,l,r⟩:=(hT q p).code;show(o,vs,a,b,c,d,e,f,g,KX _ _ l,r)
 let inT:∀Zz,(VI.QY QA2).RO b=ο->∃q∈VI,q.2=b:=λ{b}t=>by
  rw[Ur]at t;let⟨q,p,e⟩:=Su.mp t;show(q,p,e)
 let D:∀{q:θ×θ},q∈VI->(VI.QY QA2).RO q.2=ο:=λ{q}p=>by
  rw[Ur];show γ.mem_map_of_mem p
 let aT:(VI.QY QA2).RO a=μ:=by
  cases z:(VI.QY QA2).RO a with
  |μ=>rfl
  |ο=>
   let⟨q,p,e⟩:=inT z;let C:=A q p;rw[e,O]at C;cases C
 let L:∀H:Hp,lb QI3 H a QAo->Aj P w H i.π->(∀b,H b=ζ\/(b=a/\K.ρ a=ζ/\H b<*.frz {SN:=.QH "list",RD:=.V8 vs.Θ} (.QM QAo))\/((VI.QY QA2).RO b=ο/\H b<*QG8))->
   (∀q∈VI,H q.2<*QG8)->
   VD QAC callerA QK5 QCe i:=by
  intro H hS T hO as;let j:∀Zz{o:UP},i.π.Δ b<*o->H b=ζ->(eJ i.π H).Δ b<*o:=λe n=>uI e n;let freeOf:∀Zz{o:UP},i.π.Δ b<*o->b≠a->o≠tabObj #[]->H b=ζ:=λ{b o}e M an=>by
   rcases hO b with z|⟨z,_⟩|⟨z,_⟩
   .exact z
   .exact QG z M
   .obtain ⟨q,p,J⟩:=inT z;let C:=A q p;rw[J,e]at C;show QG (χ.δ.Tx C) an
  let E:∀Zz QGj,i.π.Ns b m->(eJ i.π H).Ns b m:=λ{b m}ar=>by let⟨o,es,ep,e,d,r⟩:=ar;show(o,es,ep,j e (freeOf e (λz=>by rw[z,O]at e;cases e;cases d) (λz=>by rw[z]at d;cases d)),d,r)
  let Z:(B3 QCn K).In QHT:=λb o e=>by
   let hn:=cy e;let C:=KX b o ((FK hn).QU.ξ e);refine j C ?_;rcases hO b with z|⟨z,R,_⟩|⟨z,_⟩
   .exact z
   .rw [FK hn,z,R]at e;cases e
   .rw [hn]at z;cases z
  let az:CP QHT mg:=by
   let⟨bm,o,C,J,e3,Q,e5,e6,e7⟩:=hB.ex;show(bm,o,C,J,e3,j Q (freeOf Q (λz=>by rw[z,O]at Q;cases Q;cases e7) (λz=>by rw[z]at e7;cases e7)),e5,e6,e7)
  let au:∀q∈VI,UR QHT q.1 q.2:=λq p=>lu (hd q p) λo Y e=>j e (freeOf e (λz=>by rw[z,O]at e;cases e;injection Y with Y;show QG Y (!0)) (λz=>by rw[z]at Y;cases Y));let hM:Mod QI3 mg QHT:=(Z,E U,(mb,E t,ap),let⟨mc,h1,h2⟩:=X;(mc,E h1,h2));let e0:bE P w QI3 mg QHT callerA [] i H:=(1,hM,λb o e=>w4 e,VY (qP _ _),trivial,λb t=>QG (show b∈([]:γ θ)from t) (!1),T,.of_eq hg);refine Ts ((F _ Z (E U) az au).SZ callerA [] i H ([.ν a],[]) [.ν a] [.ν a] (λv _=>v=.bl ο) (λ_ _ _=>Rl) hr e0 (N i ZW) QCr (a,ns,1,hS,hl,as,λ_=>rfl)) λr s' h=>?_;cases r with
  |WS e=>show Rl.SG h
  |ok fl=>
   cases fl with
   |next=>show Rl.SG h
   |brk=>show Rl.SG h
   |X5=>show Rl.SG h
   |ret u=>
    let⟨v,H',os,ab,un,I,r',q⟩:=h;let q':v=.bl ο:=q;subst q';obtain ε:u=η.T9 ο:=r';refine(1,(λb o e=>?_,λb o e=>un.Ut b o e (!1)),os,ab);rcases hO b with z|⟨z1,_,z⟩|⟨z1,z⟩
    .exact .RB (un.UF b o e z (by intro y;show QG (show b∈([]:γ θ)from y) (!1)) (!1))
    .obtain ⟨C,_⟩:=T b _ z;let⟨J,_⟩:=I b _ (un.frzs b _ _ z);rw[e]at C;cases C;show .RB J
    .obtain ⟨q,p,J⟩:=inT z1;let⟨X2,z3⟩:=un.tbls b _ z;let e3:s'.π.Δ b<*{SN:=.ζ,RD:=.R5 (#[]++X2)}:=I b _ z3;let Q:=A q p;rw[J,e]at Q;cases Q;refine .RF (.RB (3,1,#[],X2,1,e3));have:=((hd q p).tab (A q p)).isCodeTable;rw[J]at this;show this
 let ag:∀QE4 Zz,(VI.QY QA2).RO b=ο->Aq P w H i.π b QG8:=λ{H b}z=>by
  let⟨q,p,e⟩:=inT z;let C:=A q p;rw[e]at C;show C
 cases hk:K.ρ a with
 |δ o=>
  let e:=KX a o hk;rw[O]at e;cases e;refine L (λb=>if (VI.QY QA2).RO b=ο then δ QG8 else ζ) (.RF (_,vs.Θ,_,(FK aT).ξ hk,5,1,by rw[QZ,S];show W,by simpa using rv)) (λb u z=>?_) (λb=>?_) (λq p=>QC (D p))
  .by_cases t:(VI.QY QA2).RO b=ο
   .let G:=(QC t).QU.ξ z;cases G;show ag t
   .let G:=(Fr t).QU.ξ z;cases G
  .by_cases t:(VI.QY QA2).RO b=ο
   .exact .RF (.RF (t,QC t))
   .exact .RB (Fr t)
 |ζ=>
  refine L (λb=>if b=a then δ (.frz {SN:=.QH "list",RD:=.V8 vs.Θ} (.QM QAo))else if (VI.QY QA2).RO b=ο then δ QG8 else ζ) (.RB (.RF ({SN:=.QH "list",RD:=.V8 vs.Θ},QC ε))) (λb u z=>?_) (λb=>?_) (λq p=>?_)
  .by_cases t:b=a
   .let G:=(QC t).QU.ξ z;cases G;subst t;show(O,by rw[j'];show W,vs,_,rv,O)
   .let G:=(Fr t).QU.ξ z;by_cases B:(VI.QY QA2).RO b=ο
    .let R:=(QC B).QU.ξ G;cases R;show ag B
    .let R:=(Fr B).QU.ξ G;cases R
  .by_cases t:b=a
   .exact .RF (.RB (t,hk,QC t))
   .by_cases B:(VI.QY QA2).RO b=ο
    .exact .RF (.RF (B,(Fr t).ξ (QC B)))
    .exact .RB ((Fr t).ξ (Fr B))
  .let M:q.2≠a:=λz=>by
    have:=D p;rw[z,aT]at this;cases this
   show(Fr M).ξ (QC (D p))
def FL{l:Ξ.W.OpenLaw}{K:Params->Qt}(H:l.most<*63)(r:d.Ss.defaults=[])(E:am k callerA)(M:∀p,∀q∈VI,yu (K p) q)(F:∀(w:QV)(mg:QL->χ η)(fa:θ)(h:Qx),(B3 (VI.QY (·.2)) (K w.Ss)).In h->h.Ns Q_ mg->mg d.So<*.ν fa->
   ∃fd:TQ,(∀QBP QP6,BindsTo s fd ([u],[]) [(x,u,)])/\∀ς:Qx,(B3 QCn (K w.Ss)).In ς->ς.Ns Q_ mg->CP ς mg->QL0->
    aa l.BT w (B3 (VI.QY (·.2)) (K w.Ss)) mg ς na k fa fd [x] (iA (B3 (VI.QY (·.2)) (K w.Ss)) VI)):Ξ.W.WalkO q loose XP (λw h=>(K w.Ss).In h) l.YO.toRowW d [] (λf vs=>Ξ.Ub f vs):=by
 refine Att.Co H r λw A c mg U fa o pm cd Tm a vs ns G Y X B J n j i m I=>?_;let C:(K w.Ss).In c.π:=Y;let S:(B3 QCn (K w.Ss)).In c.π:=λb o e=>C b o ((FK (cy e)).QU.ξ e);let⟨fd,L,N⟩:=F w mg fa _ S G.T.g n;let⟨bm,D,R,Q,y,P,O,v⟩:=G.T.bmain;let t:bm≠Q_:=λz=>by
  let⟨o,Z,ep,e,B,_⟩:=G.T.g;rw[z,e]at y;cases y;rw[B]at v;cases v
 show qH C (M w.Ss) G.T.g (bm,D,R,Q,t,y,P,O,v) G.T.b G.T.builtins G.T.nolimit I j i m E N L
inductive Sd where
 |tx QD6 (k:Tok)|tp (a:θ)|ls (a:θ)
namespace Sd
abbrev vl:Sd->V
 |.tx x _=>.Qn x
 |.tp a=>.ν a
 |.ls a=>.ν a
abbrev vu:Sd->η
 |.tx x t=>.Qn x t
 |.tp a=>.ν a
 |.ls a=>.ν a
abbrev pl:Sd->θ->υ->Qx->Prop
 |.tx x t,it,i,h=>ZP.Dt x t it i h
 |.tp a,it,i,h=>h.XN it a i
 |.ls a,it,i,h=>h.IsListIter it a i
abbrev it0:Sd->UP
 |.tx x t=>ZP.EB x t
 |.tp a=>ZP.Gw a
 |.ls a=>{SN:=.QH "list_iterator",RD:=.R5 #[.ν a,.QB 0 0]}
abbrev hp:Sd->Ry η->Qx->Prop
 |.tx _ _,_,_=>Tg
 |.tp a,Rc,h=>h.Vm a Rc
 |.ls a,Rc,h=>h.IsList a Rc
abbrev Vl:Sd->Hp->γ V->Prop
 |.tx x _,_,xs=>xs=x.V4.Qq.QY λc=>V.Qn ⟨#[c]⟩
 |.tp a,H,xs=>H a<*.RJ xs
 |.ls a,H,xs=>H a<*.QM xs
end Sd
def nh QRj(e:h.Δ it<*d.it0):d.pl it 0 h:=by
 cases d with
 |tx x t=>show(_,e,5)
 |tp a=>show(_,e,5)
 |ls a=>show(_,e,5)
def eh(d:Sd):d.it0.isFreed=μ:=by cases d<;>rfl
namespace ZP
abbrev ue QKF(o1 o2:UP):Qx:=
 ((((h.Ra o1).Ra o2).Ra {SN:=.QH "tuple",RD:=.V8 #[.ν h.SM.Qw,.ν QQV]}).Ra {SN:=.QH "tuple",RD:=.V8 #[.ζ,.ζ]}).Ra
  {SN:=.QH "zip",RD:=.R5 #[.ζ,.T9 μ,.T9 μ,.ν (h.SM.Qw+2),.ν (h.SM.Qw+3)]}
section
variable{BT:IO}{w:QV}{A:Qo}{E:η->ω->Prop}{s:ω}
def uD(c:s.π.IsList a b)(h:Q Za {s with π:=s.π.Ra (Sd.ls a).it0}):Cl ZR A (YJ ZW) Q E s:=Vi c h
def xz(h:Q Za {s with π:=s.π.Ra (Sd.tx x t).it0}):Cl ZR A (YJ QKk) Q E s:=qL h
def xy(c:s.π.Vm a b)(h:Q Za {s with π:=s.π.Ra (Sd.tp a).it0}):Cl ZR A (YJ ZW) Q E s:=uC c h
end
instance OE QMQ:Prop:=∀xs ys:Ry η,Meets (Builtin.«zip.__new__» ([.QH "zip",d1.vu,d2.vu],[])) (λ_ R s=>d1.hp xs s.π/\d2.hp ys s.π/\R (.ok (.ret (.ν (s⁻¹+4)))) {s with π:=ue s.π d1.it0 d2.it0})
def JI QRj(hp:d.hp Rc s.π)(h:Q Za {s with π:=s.π.Ra d.it0}):Cl ZR A (YJ d.vu) Q E s:=by
 cases d with
 |tx x t=>show xz h
 |tp a=>show xy hp h
 |ls a=>show uD hp h
def xA QRj(h:d.hp Rc g):d.hp Rc (g.Ra o):=by
 cases d with
 |tx x t=>show h
 |tp a=>show IsTup.Tn h λo e=>ol _ e
 |ls a=>show Qx.IsList.Ra h _
def L3 QMQ:OE d1 d2:=λxs ys=>.of_wp λBT w A R s h=>by
 let⟨hp,g,d,e,os⟩:=s;let⟨c,a,h⟩:=h;let b:=sub_zip;let a:=xA (o:=d1.it0) a;change Cl _ _ (Builtin.«zip.__new__» ([.QH "zip",d1.vu,d2.vu],[])) _ _ _
 wp_walk using JI c,JI a
 refine(0,3);simp only[ue]at h;simpa[Tb,Builtin.Tv.ownedTupleFields,υ.add_assoc]using h
section
variable{BT:IO}{w:QV}{A:Qo}{E:η->ω->Prop}{s:ω}
def Dy{d1 d2:Sd}(j:d1.hp xs s.π)(i:d2.hp ys s.π)(h:∀h',YG h' (s⁻¹+4) (s⁻¹+2) (s⁻¹+3) .ζ->UQ h' (s⁻¹+2) (.ν s⁻¹) (.ν (s⁻¹+1))->UQ h' (s⁻¹+3) .ζ .ζ->
   d1.pl s⁻¹ 0 h'->d2.pl (s⁻¹+1) 0 h'->(∀c o,s.π.Δ c<*o->h'.Δ c<*o)->Q (.ν (s⁻¹+4)) {s with π:=h'}):Cl (KK BT w) A (Ub (.QH "zip") [d1.vu,d2.vu]) Q E s:=by
 refine callType_new F.called_zip (!0) (F.typeCall_zip_2 _ _) (F.newCall_zip_2 _ _) (λb=>F.args_object_init_3 b _ _) F.entry_zip_new (L3 d1 d2 xs ys) (j,i,3);let a:∀(g:Qx)(o:UP)QBM,g.SM.Qw=n->o.isFreed=μ->(g.Ra o).Δ n<*o:=λg o n e f=>by rw[<-e];show QK g f
 let d:YG (ue s.π d1.it0 d2.it0) (s⁻¹+4) (s⁻¹+2) (s⁻¹+3) .ζ:=a _ _ _ (by simp[Tb]) ε;show((_,d,1),h _ d (ol _ (ol _ (a _ _ _ (by simp[Tb]) ε))) (ol _ (a _ _ _ (by simp[Tb]) ε))
  (nh (ol _ (ol _ (ol _ (ol _ (a _ _ _ ε (eh _))))))) (nh (ol _ (ol _ (ol _ (a _ _ _ (by simp[Tb]) (eh _))))))
  λc o e=>ol _ (ol _ (ol _ (ol _ (ol _ e)))))
end
end ZP
abbrev GA(d1 d2:Sd):It:=⟨λi H=>∃xs ys a b,d1.Vl H xs/\d2.Vl H ys/\xs[i]?=δ a/\ys[i]?<*b,λi H v H'=>∃p xs ys a b,d1.Vl H xs/\d2.Vl H ys/\xs[i]?=δ a/\ys[i]?=δ b/\v=.ν p/\H p=ζ/\H'=QO H p (.RJ [a,b]),
 λi H=>∃xs ys,d1.Vl H xs/\d2.Vl H ys/\xs.β=ys.β/\i=xs.β⟩
def bN QRj(x:d.pl it i h):∃o,h.Δ it=δ o/\∀v,o.RD≠.R9 v:=by
 cases d with
 |tx y t=>let⟨o,e,_,dd⟩:=x;show(o,e,λv q=>by rw[dd]at q;cases q)
 |tp a=>let⟨o,e,_,dd⟩:=x;show(o,e,λv q=>by rw[dd]at q;cases q)
 |ls a=>let⟨o,e,_,dd⟩:=x;show(o,e,λv q=>by rw[dd]at q;cases q)
def GB QRj(x:d.pl it i h)(k:∀o,h.Δ it<*o->h'.Δ it<*o):d.pl it i h':=by
 cases d with
 |tx y t=>let⟨o,e,r⟩:=x;show QT0
 |tp a=>let⟨o,e,r⟩:=x;show QT0
 |ls a=>let⟨o,e,r⟩:=x;show QT0
def jX{f:St}QRj(I:g_ X b f H s)QI4:∃Rc,d.hp Rc s.π:=by
 cases d with
 |tx y t=>show(#[],Tg.Sy)
 |tp a=>
  let⟨Rc,_,p,_⟩:=I.T7 (pu.of (show H a=_ from h));show(_,p)
 |ls a=>
  let⟨Rc,_,⟨o,n,e,c,_,dd⟩,_⟩:=I.U0 (lb.of (show H a=_ from h));show(Rc.Θ,o,e,c,n,dd)
def GC QRI{G:St}QRj(I:g_ X F G H s)(E:A.SV=ζ)QI4(k:H it=ζ)(hp:d.pl it i s.π):∃f P S,Draws X.BT X.w A it f xs.β P S/\(∀c∈f,c=it\/∃u,H c<*u)/\S i s.π/\(∀j g,S j g->d.pl it j g)/\∀j v x,P j v->xs[j]?<*x->af x v:=by
 cases d with
 |tx y t=>
  let h:xs=y.V4.Qq.QY λc=>V.Qn ⟨#[c]⟩:=h;refine([it],λi v=>∃c u,y.V4[i]?=δ c/\v=.Qn ⟨#[c]⟩ u,ZP.Dt y t it,?_,λc q=>.RB (wh q),hp,λj g z=>z,λj v x b m=>?_)
  .let e:xs.β=y.V4.Qw:=by rw[h];simp
   rw[e];show ZP.draws E it y t
  .obtain ⟨c,u,L,ε⟩:=b;rw[h,nq,WC,L]at m;cases m;show(u,1)
 |tp a=>
  let⟨Rc,r,p,_⟩:=I.T7 (pu.of (show H a=_ from h));let C:s.π.Vm a Rc.Θ:=p;let l:a≠it:=λz=>by rw[<-z,show H a=_ from h]at k;cases k
  let e:xs.β=Rc.Θ.Qw:=by rw[r.β];simp
  refine([it,a],λi v=>Rc.Θ[i]?<*v,λi h=>h.XN it a i/\h.Vm a Rc.Θ,by rw[e];show zU E it a l Rc.Θ,λc q=>?_,(hp,C),λj g z=>z.1,λj v x b m=>?_)
  .rcases QW.mp q with z|z
   .exact .RB z
   .rw [wh z];show .RF (_,h)
  .obtain ⟨u,D,B⟩:=r.get m;let b:Rc.Θ[j]?<*v:=b;rw[γ.W7,D]at b;cases b;show B
 |ls a=>
  let⟨Rc,r,⟨o,n,J,M,_,dd⟩,_⟩:=I.U0 (lb.of (show H a=_ from h));let C:s.π.IsList a Rc.Θ:=(o,J,M,n,dd);let l:a≠it:=λz=>by rw[<-z,show H a=_ from h]at k;cases k
  let e:xs.β=Rc.Θ.Qw:=by rw[r.β];simp
  refine([it,a],λi v=>Rc.Θ[i]?<*v,λi h=>h.IsListIter it a i/\h.IsList a Rc.Θ,by rw[e];show Draws.U0 E it a l Rc.Θ,λc q=>?_,(hp,C),λj g z=>z.1,λj v x b m=>?_)
  .rcases QW.mp q with z|z
   .exact .RB z
   .rw [wh z];show .RF (_,h)
  .obtain ⟨u,D,B⟩:=r.get m;let b:Rc.Θ[j]?<*v:=b;rw[γ.W7,D]at b;cases b;show B
namespace ZP
section
variable{BT:IO}{w:QV}{A:Qo}{E:η->ω->Prop}{s:ω}{z TI TO i1 i2:θ}{f1:γ θ}{n1:υ}{P1:υ->η->Prop}{S1:υ->Qx->Prop}
def Vv(d:s.Vh QEw "zip")(h:Cl ZR A.Xq (Builtin.«zip.__next__» QOu) (λa s'=>∃v,a=.done (.ret v)/\Q QFa s') (λe s'=>∃o e',e=.ν e'/\s'.π.Δ e'=δ o/\o.SN=.QH "StopIteration"/\Q ζ s') s):Cl ZR A QM8 Q E s:=by
 unfold WD;refine f_ (V6 (Sc (So:=QL.S5 "__next__") d F.slot_zip_next (SS F.slot_zip_next d F.entry_zip_next (RM h (λa s' c=>?_) λe s' c=>?_) (F.args_zip_next_1 _))))
 .obtain ⟨v,ε,q⟩:=c;show(v,1,i_ q)
 .obtain ⟨o,e',ε,f,g,q⟩:=c;show f_ (Vs (T:="StopIteration") (b:=ο) (o,f,g) isSubtype_stop (i_ q))
def Hm(t:Draws BT w A i1 f1 n1 P1 S1)QG9(p:V_ z TI TO i1 i2 TI TI)QCx(g:UQ s.π TI QC0 QD0)(h1:S1 n1 s.π)(D:∀h' e v,QEE->(∃o,h'.Δ e=δ o/\o.SN=.QH "StopIteration")->E Z6 {s with π:=h',Qs:=v}):Cl ZR A (Builtin.«zip.__next__» QOu) Q E s:=by
 unfold Builtin.«zip.__next__»;refine f_ (SK (a:=QH7) ε (f_ (RL hz ε (x:=.T9 μ) ε (f_ (RL hz ε (x:=.ν TI) ε (f_ (Tp g ε (Ro (!1) QDM))))))));unfold Builtin.Tv.YU;refine f_ (RL hz ε (x:=.ζ) ε (i_ (Xj (!0) (f_ (Ww (f_ (RL hz ε (x:=.ν TO) ε (f_ (VN hz (!1) λG u h=>?_)))))))));simp only[γ.zipIdx_cons,γ.zipIdx_nil,U8,WQ];let y:S1 n1 G:=t.Vy _ _ _ h1 λc b o e=>by
  rcases m1 c b with ε|C
  .exact (h.2 _ p.i1z).ξ e
  .exact (h.2 c λq=>C (by simp[q])).ξ e
 refine f_ (f_ (f_ (wpAny_onRaise (f_ (m:=Builtin.Tv.nextOf QC0) (t.done _ _ _ y λk e j f=>?_)))));let⟨B,d,l⟩:=f;let i:YG k z TI TO .ellipsis:=j z _ p.i1z.QU u;refine VN (s:={s with π:=k,Qs:=s.Qs}) i (!1) λF _ n=>D F e s.Qs (λc o b q=>?_) (B,(n.2 e λq=>?_).ξ d,l)
 .exact (n.2 c λr=>b (by simp[r])).ξ (j c o (λr=>b (by simp[r])) ((h.2 c λr=>b (by simp[r])).ξ q))
 .rw [q]at d;have:=R7 (χ.QY UP.SN) (d.QU.ξ i);rw[χ.map_some,χ.map_some,l]at this;show QG (show η.QH "StopIteration"=η.QH "zip" from χ.δ.Tx this) (!0)
end
end ZP
section
variable{X:Cx}{QF:γ Z_}{σ:St}{H:Hp}{s:ω}{z TI TO i1 i2:θ}{d1 d2:Sd}{k:υ}{A:Qo}{E:η->ω->Prop}{xs ys:γ V}{Q:χ η->ω->Prop}
def iz(a:b∈[z,TO,i1,i2]):b∈[z,TI,TO,i1,i2]:=by simp at a⊢;rcases a with q|q|q|q<;>simp[q]
def JJ(a:∀b∈[z,TI,TO,i1,i2],aX X QF H b)(h:c=i1\/∃u,H c<*u):c=i1\/c∉[z,TO,i1,i2]:=h.imp id λ⟨u,e⟩=>o9 (λb d=>(a b (iz d)).1) e
def gr QUS(Z:V_ z TI TO i1 i2 TI TI)Y_ QHr QCx(r:UQ s.π TI QC0 QD0)(q:UQ s.π TO c d)(D:d1.pl i1 k s.π)(s2:d2.pl i2 k s.π)(N:d1.Vl H xs)(M:d2.Vl H ys)(C:xs[k]?<*a)(f:ys[k]?<*b)(O:∀h' i,g_ X QF σ QEx {s with π:=h',Qs:=i}->YG h' z TI TO (R0 s⁻¹)->UQ h' TI QC0 QD0->(∃a b,UQ h' TO a b)->d1.pl i1 (k+1) h'->d2.pl i2 (k+1) h'->Q (δ Za) {s with π:=h',Qs:=i}):Cl Y9 A QM8 Q E s:=by
 let⟨f1,P1,S1,D1,m1,l,Y,G⟩:=GC (A:=A.Xq) I B N (h i1 (!1)).1 D;let⟨f2,P2,S2,D2,m2,j,W,F⟩:=GC (A:=A.Xq) I B M (h i2 (!1)).1 s2;refine ZP.Vv (_,hz,1) (ZP.Jv D1 D2 (λc n=>(m1 c n).imp id λp=>by let⟨u,e⟩:=p;show o9 QM9 e) (λc n=>(m2 c n).imp id λo=>by let⟨u,e⟩:=o;show o9 QM9 e) Z hz r q l j (m8 C).1 (m8 f).1 λy x g i L J P v t U T m R=>?_);show O g i (I.turnedNew (S:=[z,TO,i1,i2]) R (λb f=>h b (iz f)) (nt (by change 2≤16777216;decide),[y,x],.Rx (G k y a L C) (.Rx (F k x b J f) .Tw),(_,m,1,(0),1))) P v (7,t) (Y _ _ U) (W _ _ T)
def jD(p:A.SV=ζ)(u:V_ z TI TO i1 i2 TI TI)Y_(f:∀b∈[z,TI,TO,i1,i2],aX X QF H b)QCx(j:UQ s.π TI QC0 QD0)(l:d1.pl i1 xs.β s.π)(m:d1.Vl H xs)(r:∀h' a,g_ X QF σ H {s with π:=h',Qs:=a}->Q ζ {s with π:=h',Qs:=a}):Cl Y9 A QM8 Q E s:=by
 let⟨y,P1,C,v,m1,d,B,x⟩:=GC (A:=A.Xq) I p m (f i1 (!1)).1 l;show ZP.Vv (_,hz,1) (ZP.Hm v (λc h=>JJ f (m1 c h)) u hz j d λg e a t i=>by let⟨o,n,h⟩:=i;show(o,e,1,n,h,r g a (I.turnedL (S:=[z,TO,i1,i2]) t λb q=>f b (iz q))))
end
def pL QCI QMQ(z TI TO i1 i2:θ)(t:V_ z TI TO i1 i2 TI TI):gp P w K (.Wo es kt pt) (GA d1 d2) [z,TI,TO,i1,i2] z (λi h=>YG h z TI TO .ζ/\UQ h TI QC0 QD0/\(∃a b,UQ h TO a b)/\d1.pl i1 i h/\d2.pl i2 i h)  where
 mem:=by simp
 YQ:=λi h D c r=>by
  let⟨hz,f,⟨a,b,j⟩,n,s2⟩:=D;simp only[QW,Si,T8]at r;rcases r with ε|rfl|rfl|rfl|rfl
  .exact (_,hz,λv q=>by cases q)
  .exact (_,f,λv q=>by cases q)
  .exact (_,j,λv q=>by cases q)
  .exact bN n
  .exact bN s2
 UF:=λi h h'⟨hz,f,⟨a,b,j⟩,n,s2⟩k=>
  (k z (!1) _ hz,k TI (!1) _ f,(a,b,k TO (!1) _ j),GB n (k i1 (!1)),GB s2 (k i2 (!1)))
 YW:=by
  rintro X F hw G r i x s T H E I B⟨hz,f,⟨a,b,j⟩,n,s2⟩⟨xs,ys,Q,O,l,p,A,y⟩;subst F hw G;refine gr QK6 t I B hz f j n s2 l p A y λg C N W M⟨c,d,L⟩g1 Z=>(0,wpAny_letOwnedTupleGo_zip (s:={s with π:=g,Qs:=C}) W λg' J Y=>?_);let R:∀b∈[z,TI,TO,i1,i2],QO H s⁻¹ (.RJ [Q,O]) b=ζ:=λb m=>by
   let U:b<s⁻¹:=by
    let⟨o1,e1,_⟩:=bN n;let⟨o2,e2,_⟩:=bN s2;simp only[QW,Si,T8]at m;rcases m with ε|rfl|rfl|rfl|rfl
    .exact lt_size hz
    .exact lt_size f
    .exact lt_size j
    .exact lt_size e1
    .exact lt_size e2
   rw[b_ (RH U)];show(B b m).1
  let u:∀b o,b≠z->g.Δ b<*o->g'.Δ b<*o:=λb o m e=>(Y.2 b m).ξ e;show(.ν s⁻¹,_,N.turnedL (S:=[z]) (t':=C) (λb o m e=>u b o (λq=>m (by simp[q])) e) (λb m=>by rw[wh m];show(R z (!1),(B z (!1)).2)),1,
   (_,xs,ys,Q,O,l,p,A,y,1,I.S7.SW (QD _),1),(J,u _ _ t.TIz M,(7,u _ _ t.TOz L),GB g1 λo e=>u _ o t.i1z e,GB Z λo e=>u _ o t.i2z e),R)
 done:=by
  rintro X F hw G r i x s T H E I B⟨hz,f,_,n,s2⟩⟨xs,ys,l,p,hl,ε⟩;subst F hw G;show jD QK6 t I B hz f n l λg C N=>(1,N)
 self:=λ_ _ _ _ _ st h=>wpAny_pyIter_zip st.1 h
def JK QRj QI4(s:∀b o,H b<*o->H' b<*o):d.Vl H' xs:=by
 cases d with
 |tx x k=>show h
 |tp a=>show s _ _ h
 |ls a=>show s _ _ h
abbrev Sd.X0:Sd->Tok->Sd
 |.tx x _,k=>.tx x k
 |d,_=>d
def JL QRj QI4:(d.X0 k).Vl H xs:=by cases d<;>show h
def rF QRj(e:af d.vl u):∃k,u=(d.X0 k).vu:=by
 cases d with
 |tx x k=>show(show ∃t,u=η.Qn x t from e)
 |tp a=>cases e;show((0),1)
 |ls a=>cases e;show((0),1)
inductive uG QA1 ZF QCi:Prop
 |mk QMQ QRB (_:vs=[d1.vl,d2.vl]) (_:d1.Vl H1 xs) (_:d2.Vl H1 ys) (_:∀k1 k2,R (GA (d1.X0 k1) (d2.X0 k2)) H1)
abbrev kG QG3:TI:=λσ H R=>t σ H (uG R)
def HX{P:γ SF}{z:υ}{y:T6}QFH(G:Gl X "zip")(F:X.mg "zip"=ζ)(J:PA X [a,b] w)(E:QIi>>>4)(j:((SJ RX (Ψ [b] X.QA)).VA Z9=μ)>>>4):PI X (.Wo P z y) (.Tl (.Rn "zip" p) [a,b] [] RX) (kG w):=by
 intro e s v H R I h;refine RT (va I G F boot_zip (Sz.Ws.S8 (oh (J RX e s v H _ I h) λus d l=>?_) E j));let⟨vs,U,i,x,d1,d2,xs,ys,O,D,C,q⟩:=l;subst O;let⟨Y,W,ε,S,Q⟩:=b8 x;let⟨k1,ε⟩:=rF S;let⟨k2,ε⟩:=rF Q;let q:=q k1 k2;let⟨B,r⟩:=jX i (JL (k:=k1) D);let⟨A,o⟩:=jX i (JL (k:=k2) C);generalize d1.X0 k1=d1 at q r;generalize d2.X0 k2=d2 at q o;refine ZP.Dy r o λg u n m N M L=>wpAny_pyIter_zip (s:={d with π:=g}) u ?_;let T:V_ (d⁻¹+4) QS4 (d⁻¹+3) d⁻¹ (d⁻¹+1) QS4 QS4:=by
  constructor<;>show Km (!6)
 refine(_,[d⁻¹+4,d⁻¹+2,d⁻¹+3,d⁻¹,d⁻¹+1],_,GA d1 d2,U,1,i.WE (t':=d.Qs) L,pL d1 d2 _ _ _ _ _ T,
  (u,n,(7,m),N,M),λc t=>?_,q)
 let f:d⁻¹≤c:=by
  simp only[QW,Si,T8]at t;rcases t with ε|rfl|rfl|rfl|rfl<;>first|show VP _ _|show QD _
 show i.fpOk f (i.S7.SW f)
abbrev EH(fv:Ω)(x:ψ)(v:η):Prop:=(fv=ο/\∃b:Ω,v=.T9 b/\x=if b then 1 else 0)\/(fv=μ/\∃t,v=.QB x t)
abbrev NN QKa Z'(fv:Ω)(x:ψ):ψ:=if fv=ο then reduceHash x else(SB P w).hash x
section
variable{P:IO}{w:QV}{fv:Ω}
def EH.Tx QRC(b:EH fv y v):x=y:=by
 rcases a with⟨rfl,c,ε,ε⟩|⟨rfl,t,ε⟩
 .rcases b with⟨_,d,e,ε⟩|⟨e,_⟩
  .cases e;rfl
  .cases e
 .rcases b with⟨e,_⟩|⟨_,t',e⟩
  .cases e
  .cases e;rfl
def EH.YK QRC(q:Q (NN P w fv x) {s with Qs:=s.Qs+1}):Cl QAC A (YK v) Q E s:=by
 rcases a with⟨rfl,b,ε,ε⟩|⟨rfl,t,ε⟩
 .exact (EE P w).YK (k:=b) (by cases b<;>rfl) q
 .exact (SB P w).YK (k:=x) QGs q
def EH.eq(a:EH fv x u)(b:EH fv y v):Sa.U6 A s u v (decide (x=y)):=by
 rcases a with⟨rfl,c,ε,ε⟩|⟨rfl,t,ε⟩
 .rcases b with⟨_,d,ε,ε⟩|⟨e,_⟩
  .let h:=Sa.U6.bool_bool (A:=A) (s:=s) c d;rw[show(c==d)=decide ((if c then(1:ψ)else 0)=if d then 1 else 0) by cases c<;>cases d<;>rfl]at h;show h
  .cases e
 .rcases b with⟨e,_⟩|⟨_,t',ε⟩
  .cases e
  .let h:=Sa.U6.int_int (A:=A) (s:=s) x t y t';rw[show(x==y)=decide (x=y) by rw[Ω.TV];simp]at h;show h
def EH.byValue QRC:carriedByValue v=ο:=by
 rcases a with⟨rfl,c,ε,ε⟩|⟨rfl,t,ε⟩<;>rfl
end
section
variable(P:IO)(w:QV)(fv:Ω)
abbrev EI QKF(k:γ ψ)QBz:Prop:=∃(o:UP)(n:υ)(v:η)(b:θ)(x:ψ)(ks:γ ψ),k=x::ks/\h.Δ a=δ o/\o.SN=.QH "tuple"/\o.RD=.V8 #[v,.ν b] n/\EH fv x v/\Y1 QBT h ks b
abbrev iu:γ ψ->ψ
 |[]=>0
 |x::ks=>reduceHash (Builtin.Wo.tupleHashOf [NN P w fv x,tupleKeyHash QBT ks])
end
section
variable{P:IO}{w:QV}{fv:Ω}
def EI.Tx(g:EI P w fv h x a)(f:EI P w fv h y a):x=y:=by
 let⟨o,n,v,b,A,xs,ε,h1,_,k,j,i⟩:=g;let⟨B,C,e,u,z,ys,ε,d,_,c,m,l⟩:=f;rw[h1]at d;cases d;rw[k]at c;injection c with t _;let s:[v,η.ν b]=[e,.ν u]:=R7 Ry.Qq t;injection s with r q;injection q with p _;cases p;subst r;rw[j.Tx m,i.Tx l]
def EI.Tn{p q}(x:EI P w fv h k a)(c:h.Δ d<*o)(e:o.RD=.Ux p q)(f:Th d h h'):EI P w fv h' k a:=by
 let⟨j,n,v,b,i,xs,ε,h1,h2,g,m,l⟩:=x;refine(j,n,v,b,i,xs,1,(f.2 a ?_).ξ h1,h2,g,m,l.Tn c e f);rintro ε;rw[h1]at c;cases c;rw[g]at e;cases e
def EJ(d:A.S3+1<UV)QPh(q:Q (iu P w fv k) {s with Qs:=s.Qs+(k.β+2)}):Cl QAC A (YK ZW) Q E s:=by
 let⟨o,n,v,b,c,xs,ε,h1,h2,h,g,f⟩:=x;refine Ξ.W.pyHash_slot (T:="tuple") QOW F.slot_tuple_hash F.entry_tuple_hash QM5 QGr (.RF (Fl d)) ?_;refine f_ (m:=Builtin.Wo.tupleItemsOf ZW) (wpAny_tupleItemsOf h1 h QDM);rw[<-Yt];change Cl _ _ (forIn [v,η.ν b] _ _) _ _ _;rw[U8];refine f_ (f_ (g.YK QRY));dsimp only;rw[U8];refine f_ (f_ (wpAny_pyHash_tuple (knd:=SB P w) (by change A.Xq.S3<UV;rw[Qo.Vw];show d) f QRY));dsimp only;rw[WQ];refine i_ (f_ (X7 (i_ (9,3))));let e:s.Qs+1+(xs.β+1)+1=s.Qs+((c::xs).β+2):=by rw[Rz];lia
 simpa[e,iu]using q
def yF(B:A.S3+1<UV)(p:EI P w fv s.π x a)(m:EI P w fv s.π y b)QAa(Q:Ω->ω->Prop)QOm:Cl QAC A (eqBool ZW QCa) Q E s:=by
 by_cases h:a=b
 .subst h;rw[Qr (p.Tx m)]at q;show Sa.U6.SL ZW P w E Q q
 .obtain ⟨o,n,v,c,g,xs,ε,h1,h2,F,D,C⟩:=p;let⟨u,z,l,k,f,ys,ε,L,J,I,H,G⟩:=m;let i:A.Xq.S3<UV:=by rw[Qo.Vw];show B
  let d:Sa.U6 A.Xq s (.ν c) (.ν k) (decide (xs=ys)):=λO r S R t=>wpAny_eqBool_tuple (knd:=SB O r) i (iw C) (iw G) t;let Tk:=Sa.U6.of_refs (A:=A) h (Sa.RcAt.tuples (s:=s) (e:=λj=>if j=0 then decide (g=f)else decide (xs=ys)) (o,h1,h2,n,F) (u,L,J,z,I) (Fl B) (λj l1 l2=>by
   match j,l1,l2 with
   |0,_,_=>show D.eq H
   |1,_,_=>show d
   | n+2,l1,_=>show QG l1 (by change ¬ (n+2<2);show Go)))
  refine Tk P w E Q ?_;let e:((γ.Q' (min (#[v,.ν c]:Ry η).Qw (#[l,.ν k]:Ry η).Qw)).Tk (λj=>if j=0 then decide (g=f)else decide QQT)&&(#[v,.ν c]:Ry η).Qw==(#[l,.ν k]:Ry η).Qw)=decide (g::xs=f::ys):=by
   change (decide (g=f)&&(decide QQT&&ο)&&ο)=_;by_cases N:g=f<;>by_cases M:xs=ys<;>simp[N,M]
  rw[e];show q
def pK QPh(q:Q ο s):Cl QAC A QTx Q E s:=by
 let⟨o,n,v,b,l,xs,ε,h1,h2,f,e,d⟩:=x;refine Ku (n:=7) (o,h1,h2,n,f) (λu c R r=>?_) q;rcases QW.mp (show u∈[v,.ν b]from c)with ε|c
 .rw [YD _ e.byValue];show i_ r
 .rw [wh c];let⟨o,Rc,n,j,i,h,g⟩:=d;refine Ku (n:=6) (o,j,i,n,h) QK3 r;rw[YD _ (g.byValue v c)];show i_ r
end
abbrev v6 QKa Z'(fv:Ω):HeapKind P w QM3 where
 is:=EI P w fv
 hash:=iu P w fv
 draws:=λk=>k.β+2
 room:=λA=>A.S3+1<UV
 Tx:=λa b=>a.Tx b
 Tn:=λx ho hd hs=>x.Tn ho hd hs
 YK:=λhu hk h=>EJ hu hk h
 eqBool:=λhu hx hy h=>yF hu hx hy _ _ h
 quiet:=λhk h=>pK hk h
abbrev uJ(fv:Ω)(x:ψ):V:=if fv=ο then .bl (decide (x=1))else .QB x
abbrev L4(fv:Ω)ZC(k:γ ψ)QBz:Prop:=∃(b:θ)(x:ψ)(ks:γ ψ),k=x::ks/\(fv=ο->x=0\/x=1)/\H a=δ QPi/\FI H ks b
abbrev NO QKa Z'(fv:Ω):EF P w QM3 where
 knd:=v6 P w fv
 kin:=L4 fv
 ok:=λ{H h k a}e ok=>by
  let⟨b,x,ks,ε,e0,e1,e2⟩:=e
  let⟨_,Rc,r,o,h1,h2,n,h3⟩:=(show Aq P w H h a QPi from ok a _ e1)
  let⟨u1,u2,ε,r1,r2⟩:=b8 r
  cases(show u2=η.ν b from r2)
  refine(o,n,u1,b,x,ks,1,h1,h2,h3,3,mf e2 ok)
  cases fv with
  |ο=>
   cases(show u1=η.T9 (decide (x=1))from r1)
   rcases e0 ε with ε|rfl
   .exact .RB (1,μ,5)
   .exact .RB (1,ο,5)
  |μ=>
   let⟨t,ε⟩:=(show ∃t,u1=η.QB x t from r1)
   show .RF (1,t,1)
 room:=λ{A}hu=>(by change A.Xq.S3+1<UV;rw[Qo.Vw];show IP hu,by change A.S3+1<UV;show GV hu)
 Wq:=λs hZ1=>by let⟨b,x,ks,e,e0,e1,e2⟩:=hZ1;show(b,x,ks,e,e0,s _ _ e1,s _ _ e2)
inductive TK where
 |i|t|q|p
 deriving R_
abbrev dK QKa Z':TK->EF P w QM3
 |.q=>NO P w ο
 |.p=>NO P w μ
 |_=>Fb P w
def KE(k:ψ)QHd:η.isInt k (.QB k t)=ο:=by simp[η.isInt]
abbrev pF QKa Z' ZC QMP(y:V)(r:χ V):Prop:=
 (∃Ri k,H d=δ (Dc QBT d Ri)/\y=.QB k/\r=aL Ri k) \/
 ∃ti Ri k b,H d=δ QM_/\QCM/\y=.ν b/\(dK P w ti).kin H k b/\r=aP Ri k
abbrev yB QKa Z' ZC QMP(y v:V)QAe:Prop:=
 (∃Ri k,H d=δ (Dc QBT d Ri)/\y=.QB k/\aL Ri k=ζ/\Ri.β<Λ/\H'=QO H d (Dc QBT d QLx)) \/
 ∃ti Ri k b,H d=δ QM_/\QCM/\y=.ν b/\(dK P w ti).kin H k b/\aP Ri k=ζ/\Ri.β<Λ/\H'=QO H d (Bj QFO d QDg)
section
variable{X:Cx}
inductive wI QKa Z'(x:V)(y:V)ZC ZV:Prop
 |mk (d o:_) (_:y=.ν d) (_:pF P w H d x o) QPe
def qj(m:X.A.S3+64<UV):Ad X QQA (wI X.BT X.w):=by
 intro f s r H x y v u Q I c j h;let⟨d,o,ε,g,q⟩:=h;cases j;rcases g with⟨Ri,k,e,ε,ε⟩|⟨i,Ri,k,b,e,n,ε,l,ε⟩
 .obtain ⟨t,ε⟩:=(show ∃t,v=η.QB k t from c);let⟨ns,_,vs,a,dd⟩:=bp I.S7 e;refine wpAny_notIn_of (knd:=SB X.BT X.w) (k:=k) QRk ns dd.mapOf ?_;rw[<-LO (a.val k)];show QRb
 .cases c;show jh (D:=dK X.BT X.w i) m I e n l λs' p=>(.bl _,H,p,1,q)
def vn{c:St}QLS(g:pF X.BT X.w H d y o):s.Vh QCk "dict":=by
 rcases g with⟨Ri,k,e,_⟩|⟨f,Ri,k,b,e,h,_⟩
 .obtain ⟨_,_,vs,_,dd⟩:=bp I.S7 e;show dd.Vz
 .obtain ⟨_,_,vs,_,dd⟩:=eK (D:=dK X.BT X.w f) I.S7 e h;show dd.Vz
inductive L5 QKa Z'(x:V)(y:V)ZC ZV:Prop
 |mk (d v:_) QSU (_:pF P w H d y QFa) QJR
def uA(C:X.A.S3+64<UV):CK X (L5 X.BT X.w):=by
 intro c f m s L H x y v u Q I r j h E;let⟨d,z,ε,g,q⟩:=h;cases r;refine tail_any (ops:=[.ν d,u]) (vn I g) Ξ.F.slot_dict_getitem.ρ ?_ E;rcases g with⟨Ri,k,e,ε,l⟩|⟨p,Ri,k,b,e,G,ε,B,l⟩
 .obtain ⟨t,ε⟩:=(show ∃t,u=η.QB k t from j);let⟨ns,_,vs,i,dd⟩:=bp I.S7 e;let⟨n,hw,a⟩:=aJ.some_of (v:=z) (o:=WA vs k) (by rw[l];show i.val k);show wpAny_getItem_of (knd:=SB X.BT X.w) (k:=k) QRk dd.mapOf hw QTy
 .cases j;show uM (D:=dK X.BT X.w p) C I e G B l λn s' J a=>(z,H,J,a,q)
inductive OF QKa Z'(o:V)(i:V)(v:V)ZC QLq:Prop
 |mk (d H':_) (_:o=.ν d) (_:yB P w H d i v H') (_:Q H')
def pZ(B:X.A.S3+64<UV):xZ X (OF X.BT X.w):=by
 intro n s G H o i v J z u Q I r m l h;let⟨d,H',ε,g,q⟩:=h;cases r;rcases g with⟨Ri,k,e,ε,f,j,ε⟩|⟨p,Ri,k,b,e,E,ε,y,f,j,ε⟩
 .obtain ⟨t,ε⟩:=(show ∃t,z=η.QB k t from m);let⟨ns,hz,vs,a,dd⟩:=bp I.S7 e;refine wpAny_setItem_pairs (knd:=SB X.BT X.w) (k:=k) (hsz:=by rw[<-a.β];show hz) QRk dd λh' c C=>(_,3,q);let x:=aJ.none_of (show aJ ζ QPd by rw[<-f];show a.val k);rw[LP x]at c;show Kv I (by rw[e];show Tg.Sy) C (let⟨o,_,_,q,_⟩:=c;(o,q)) (kD ns (by rw[u4];show j) (jf a l) c)
 .cases m;show uL (D:=dK X.BT X.w p) B I e E y f j l λs' F=>(_,F,q)
abbrev tZ QKa Z' QMP:TK->HO
 |.i=>Dc QBT d []
 |k=>Bj (dK P w k) d []
def xg QKF(a:S4<h.SM.Qw)(k:TK):Aq P w H (h.Ra {SN:=.QH "dict",RD:=.Ux #[]}) h.SM.Qw (tZ P w h.SM.Qw k):=by
 let ns:(h.SM.Qw==S4)=μ:=Rg.Sj (Ne.QU (RH a));cases k with
 |i=>show kD (knd:=SB P w) ns QDt .Tw QSy
 |t=>show g9 (D:=dK P w .t) ns QDt .Tw QEB
 |q=>show g9 (D:=dK P w .q) ns QDt .Tw QEB
 |p=>show g9 (D:=dK P w .p) ns QDt .Tw QEB
def xh(h:k≠.i):tZ P w d k=Bj (dK P w k) d []:=by
 cases k with
 |i=>show QG ε h
 |_=>rfl
abbrev OG QKa Z'(tk tv:TE):TE:=λσ H Q=>∃ti:TK,∀p,H p=ζ->tk σ (QO H p (tZ P w p ti)) λx H1=>tv σ H1 λy H2=>H2 p=δ (tZ P w p ti)/\
 ((ti=.i/\∃k,x=.QB k/\Q Zh (QO H2 p (Dc QBT p [(k,y,)])))\/(ti≠.i/\∃b k,x=.ν b/\(dK P w ti).kin H2 k b/\Q Zh (QO H2 p (Bj QFO p [(k,b,y,)]))))
def wO(N:X.A.S3+64<UV)(R:PE X k C)(M:PE X v B):PE X (.Dict [δ k] [v] RX) (OG X.BT X.w C B):=by
 intro e s m H Q I h;let⟨f,h⟩:=h;let P:=I.S7.SW (QD s⁻¹);let T:=I.X3 (a:=s⁻¹) (o:=tZ X.BT X.w s⁻¹ f) (t':=s.Qs) (λ_ _ q=>ol {SN:=.QH "dict",RD:=.Ux #[]} q) Zs (xg s.π I.bigS f);let j:=zip_pairTrees [δ k] [v] X.QA RX ε ε;rw[arm_eval_Dict,j,dictDisplay_pairs (pairTrees [δ k] [v] X.QA RX) (!5) (by change 1<17;decide)];refine f_ (UB QDM);unfold subDict;refine f_ (wpAny_alloc (f_ (RZ ?_)));rw[QC (show(pairTrees [δ k] [v] X.QA RX).β≤15 by change 1≤15;decide)];refine f_ (pairTrees_cons_walk (oh (R e _ m _ _ T (h _ P)) λu E⟨x,U,S,p,G⟩=>oh (M e E m U _ S G) λr s2⟨y,W,i,n,hp,g⟩=>pairTrees_nil_walk (RZ QDM)));rw[U8];rcases g with⟨rfl,k,ε,g⟩|⟨O,b,k,ε,J,g⟩
 .obtain ⟨t,ε⟩:=(show ∃t,u=η.QB k t from p);let⟨ns,hz,vs,c,dd⟩:=bp (knd:=SB X.BT X.w) (Ri:=[]) i.S7 hp;refine f_ (f_ (wpAny_dictSet_pairs (knd:=SB X.BT X.w) (k:=k) (hsz:=by rw[<-c.β];show hz) QRk dd λh' d l=>i_ ?_));dsimp only;rw[WQ];refine i_ QHU;let F:=aJ.none_of (show aJ ζ QPd from c.val k);rw[LP F]at d;show Kv i (by rw[hp];show Tg.Sy) l (let⟨o,_,_,q,_⟩:=d;(o,q)) (kD ns (nt (by change 1≤16777216;decide)) (jf (Ri:=[]) c n) d)
 .cases p;rw[xh O]at hp;let⟨ns,hz,xs,c,dd⟩:=eK (D:=dK X.BT X.w f) (Ri:=[]) i.S7 hp (λx L=>by simp at L);refine f_ (f_ (wpAny_dictSet_heap (knd:=(dK X.BT X.w f).knd) (hsz:=by rw[<-Vr.β c];show hz) ((dK X.BT X.w f).room N).2 ((dK X.BT X.w f).ok J i.S7) dd λh' d l=>i_ ?_));dsimp only;rw[WQ];refine i_ QHU;show yn (D:=dK X.BT X.w f) (Ri:=[]) i hp ns (nt (by change 1≤16777216;decide)) c ε n d l
end
end L2
namespace RA
open L2
abbrev bC:TK->Hp->LN->θ->Prop
 |.q,H,k,b=>∃(c:θ)(x:υ)(ks:LN),k=x::ks/\x≤1/\H b=δ (.RJ [.bl (decide (x=1)),.ν c])/\H c<*.RJ (b' ks)
 |.p,H,k,b=>∃(c:θ)(x:υ)(ks:LN),k=x::ks/\H b=δ (.RJ [.QB (x:ψ),.ν c])/\H c<*.RJ (b' ks)
 |_,H,k,b=>H b<*.RJ (b' k)
abbrev Ai(ti:TK)ZC QES(v:V):Prop:=if ti=.i then ∃n:υ,k=[n]/\v=.QB (n:ψ)else ∃b,v=.ν b/\bC ti H k b
def bC.SL(h:bC f H k b)Z7:bC f H' k b:=by
 cases f with
 |q=>
  let⟨c,x,ks,e,g,d,a⟩:=h;show(c,x,ks,e,g,s _ _ d,s _ _ a)
 |p=>
  let⟨c,x,ks,e,d,a⟩:=h;show(c,x,ks,e,s _ _ d,s _ _ a)
 |_=>show s _ _ h
def jB QES:(zs k).QY V.QB=b' k:=by rw[zs,b',map_map];rfl
def bC.kin(h:bC g H k b):(dK P w g).kin H (zs k) b:=by
 let a:∀{ks:LN}{c:θ},H c<*.RJ (b' ks)->FI H (zs ks) c:=λe=>by unfold FI;rw[jB];show e
 cases g with
 |q=>
  let⟨c,x,ks,ε,i,f,d⟩:=h;refine(c,(x:ψ),zs ks,1,λ_=>?_,3,a d)
  .lia
  .rw [f,show uJ ο (x:ψ)=.bl (decide ((x:ψ)=1))from ε,show decide ((x:ψ)=1)=decide (x=1) by rw[Ω.TV];simp;lia]
 |p=>
  let⟨c,x,ks,ε,f,d⟩:=h;show(c,(x:ψ),zs ks,1,λz=>(by cases z),f,a d)
 |_=>show a h
def Ai.SL(h:Ai a H k v)Z7:Ai a H' k v:=by
 unfold Ai at h⊢;split
 .rename_i c;rw[QC c]at h;show h
 .rename_i c;rw[Fr c]at h;let⟨b,e,d⟩:=h;show(b,e,d.SL s)
abbrev Ei:LL->υ->γ (ψ×V)
 |[],_=>[]
 |k::r,n=>(((k.headD 0:υ):ψ),.QB (n:ψ),)::Ei r (n+1)
def oM:∀(ts:LL)QBM,(Ei ts n).β=ts.β
 |[],_=>rfl
 |k::r,n=>by rw[Ei,Rz,Rz,oM r]
def kC QES:∀(ts:LL)QBM,Ei (ts++[k]) n=Ei ts n++[(((k.headD 0:υ):ψ),.QB ((n+ts.β:υ):ψ),)]
 |[],n=>rfl
 |t::r,n=>by
  rw[Vq,Ei,kC k r (n+1),Ei,Vq,Rz,show n+1+r.β=n+(r.β+1) from Ft]
abbrev DW(ts:LL)QES:χ υ:=if k∈ts then δ (ts.QJ k)else ζ
def kE(h:t≠k):DW (t::r) k=(DW r k).QY (·+1):=by
 unfold DW;by_cases a:k∈r
 .rw [QC (QP _ a),QC a,Yq,show(t==k)=μ from Rg.Sj h];rfl
 .rw [Fr (λz=>(QW.mp z).SG (λy=>h y.QU) a),Fr a];rfl
def jg{m:υ}:∀{ts:LL}QE',(∀t∈ts,∃a,t=[a])->aL (Ei ts n) (m:ψ)=(DW ts [m]).QY λ(i:υ)=>V.QB ((n+i:υ):ψ)
 |[],_,_=>rfl
 |t::r,n,h=>by
  let⟨a,ε⟩:=h t (!1);by_cases e:a=m
  .subst e;rw[Ei,jH (k:=(a:ψ)) (show((([a]:LN).headD 0:υ):ψ)=(a:ψ)from ε),DW,QC (!1),γ.idxOf_cons_self];rfl
  .rw [Ei,jI (λz=>e QK2),jg (n:=n+1) (λt b=>h t (by simp[b])),kE (λz=>e (by injection z))];cases DW r [m]with
   |ζ=>rfl
   |δ i=>
    change δ QN2<*V.QB ((n+(i+1):υ):ψ);rw[show n+1+i=n+(i+1) from Ft]
abbrev z8 QKa Z' ZC QMP(ti:TK)(ts:LL):Prop:=
 if ti=.i then H d=δ (Dc QBT d (Ei ts 0))/\∀t∈ts,∃a,t=[a]
 else ∃Ri:γ (γ ψ×θ×V),H d=δ QM_/\QCM/\Ri.β=ts.β/\∀Zi QES(x:γ ψ×θ×V),ts[i]?<*k->Ri[i]?<*x->x.1=zs k/\x.2.2=.QB (i:ψ)
def nU:∀QE',Ri.β=ts.β->(∀Zi QES(x:γ ψ×θ×V),ts[i]?<*k->Ri[i]?<*x->x.1=zs k/\x.2.2=.QB ((n+i:υ):ψ))->aP Ri (zs k)=(DW ts k).QY λ(i:υ)=>V.QB ((n+i:υ):ψ):=by
 induction Ri generalizing ts with
 |Tw=>
  intro n a h;cases ts with
  |Tw=>rfl
  |Rx t r=>cases a
 |Rx x xs d=>
  intro n a h;cases ts with
  |Tw=>cases a
  |Rx t r=>
   let⟨b,j⟩:=h 0 t x ε ε;by_cases e:t=k
   .subst e;rw[DW,QC (!1),γ.idxOf_cons_self];simp[aP,U_,b,j]
   .let e':¬ x.1=zs k:=λz=>e (iq (b.QU.ξ z));let l:aP (x::xs) (zs k)=aP xs (zs k):=by simp[aP,U_,e']
    rw[l,d (n:=n+1) (by simpa using a) (λi k' c h1 h2=>by
     let⟨g,f⟩:=h (i+1) k' c h1 h2;show(g,by rw[f,show n+(i+1)=n+1+i from F'])),kE e]
    cases DW r k with
    |ζ=>rfl
    |δ i=>
     change δ QN2<*V.QB ((n+(i+1):υ):ψ);rw[show n+1+i=n+(i+1) from Ft]
section
variable{P:IO}{w:QV}{H:Hp}{d:θ}{ti:TK}{ts:LL}{k:LN}{v:V}
def z8.get QIa(e:Ai ti H k v):pF P w H d v ((DW ts k).QY λ(i:υ)=>V.QB (i:ψ)):=by
 unfold z8 at h;unfold Ai at e;by_cases c:ti=.i
 .subst c;rw[QC ε]at h e;let⟨n,ε,ε⟩:=e;refine .RB (7,h.1,1,3);rw[jg h.2];simp
 .rw [Fr c]at h e;let⟨Ri,h1,h2,j,g⟩:=h;let⟨b,ε,f⟩:=e;refine .RF (ti,Ri,zs k,b,h1,h2,1,f.kin,3);rw[nU (n:=0) j (λi k x a b=>by rw[υ.TJ];show g i k x a b)];simp
def z8.put QIa(m:Ai ti H k v)(y:k∉ts)(r:ts.β<Λ):∃f,yB P w H d v (.QB (ts.β:ψ)) (L2.QO H d f)/\z8 P w (L2.QO H d f) d ti (ts++[k]):=by
 let o:DW ts k=ζ:=Fr y;let A:∀b xs,H b<*.RJ xs->∀φ,H d<*.ext φ->∀f,L2.QO H d f b<*.RJ xs:=λb xs e φ C f=>by
  rw[b_ (n7 e C (!5))];show e
 unfold z8 at h;unfold Ai at m;by_cases c:ti=.i
 .subst c;rw[QC ε]at h m;let⟨n,ε,ε⟩:=m;refine(Dc QBT d (Ei (ts++[[n]]) 0),.RB (7,h.1,1,3,by rw[oM];show r,3),3)
  .rw [jg h.2,o];rfl
  .rw [kC,υ.TJ];rfl
  .unfold z8;rw[QC ε];refine(SO,λt u=>?_);rcases Rr.mp u with z|z
   .exact h.2 t z
   .exact (n,wh z)
 .rw [Fr c]at h m;let⟨Ri,h1,h2,l,s⟩:=h;let⟨b,ε,B⟩:=m;let p:(dK P w ti).kin H (zs k) b:=B.kin;let WB:∀f b xs,H b<*.RJ xs->L2.QO H d f b<*.RJ xs:=λf b xs e=>A b xs e _ h1 f;refine(Bj QFO d (Ri++[(zs k,b,.QB (ts.β:ψ),)]),.RF (ti,Ri,zs k,b,h1,h2,1,p,3,by rw[l];show r,1),3)
  .rw [nU (n:=0) l (λi k x a b=>by rw[υ.TJ];show s i k x a b),o];rfl
  .unfold z8;rw[Fr c];refine(_,SO,λx g=>?_,by rw[u4,u4,l];rfl,λi k' x j g=>?_)
   .rcases Rr.mp g with z|z
    .exact (dK P w ti).Wq (WB _) (h2 x z)
    .rw [wh z];show(dK P w ti).Wq (WB _) p
   .by_cases q:i<ts.β
    .rw [QS q]at j;rw[QS (by rw[l];show q)]at g;show s i k' x j g
    .rw [Qp (SU q)]at j;rw[Qp (by rw[l];show SU q),l]at g;let hz:i-ts.β=0:=by
      have:=(m8 j).1;simp at this;omega
     rw[hz]at j g;cases j;cases g;show(1,by rw[show i=ts.β from GN hz q])
def z8.SL QIa(s:∀b o,H b<*o->(b=d\/∃xs,o=.RJ xs)->H' b<*o):z8 P w H' d ti ts:=by
 unfold z8 at h⊢;by_cases c:ti=.i
 .subst c;rw[QC ε]at h⊢;show(s _ _ h.1 Zv,h.2)
 .rw [Fr c]at h⊢;let⟨Ri,h1,h2,g,f⟩:=h;show(Ri,s _ _ h1 Zv,λx a=>(dK P w ti).Wq (λb xs e=>s _ _ e (.RF QAy)) (h2 x a),g,f)
end
end RA
namespace L2
open PySem.Spec PyProof.Rows
namespace ZP
abbrev Dh(T:θ)QPS(TI TO:θ):UP:={SN:=.QH "zip",Ux:=ζ,RD:=.R5 #[R0 T,.T9 b,.T9 μ,.ν TI,.ν TO],XE:=#[]}
section
variable{BT:IO}{w:QV}{A:Qo}{E:η->ω->Prop}{s:ω}{z TI TO i1 i2 T:θ}{f1 f2:γ θ}{n1 n2 k:υ}{P1 P2:υ->η->Prop}{S1 S2:υ->Qx->Prop}{b1:Ω}{oT:UP}
def oB QK7(a:s.π.Δ T<*oT)(h:∀h',h'.Δ z<*Dh T ο TI TO->Th z s.π h'->Q μ {s with π:=h'}):Cl ZR A (Builtin.Tv.YU QEw) Q E s:=by
 unfold Builtin.Tv.YU;refine f_ (RL hz ε (x:=R0 T) ε ?_);change Cl _ _ (loadIfAlive ((T:ψ).RW)>>=_) _ _ _;rw[UC];refine f_ (Ξ.W.kdx_alive a ?_);refine Ro (!1) (f_ (RL hz ε (x:=.T9 b1) ε ?_));cases b1 with
 |ο=>show Ro (!0) (i_ (h _ hz (1,λ_ _=>rfl)))
 |μ=>show Xj (!0) (f_ (VN hz (!1) λh' e c=>i_ (h h' e c)))
def JM{Q:η->ω->Prop}(G:Draws BT w A i1 f1 n1 P1 S1)(F:Draws BT w A i2 f2 n2 P2 S2)(m1:∀c∈f1,c=i1\/c∉[z,TO,i1,i2])(m2:∀c∈f2,c=i2\/c∉[z,TO,i1,i2])(b:V_ z TI TO i1 i2 TI TI)(hz:s.π.Δ z<*Dh T b1 TI TO)(P:s.π.Δ T<*oT)(i:UQ s.π TI (.ν i1) (.ν i2))(h1:S1 k s.π)(h2:S2 k s.π)(l1:k<n1)(l2:k<n2)(R:∀x y h' J,P1 k x->P2 k y->h'.Δ z<*Dh T ο TI TO->UQ h' TI (.ν i1) (.ν i2)->S1 (k+1) h'->S2 (k+1) h'->UQ h' s⁻¹ x y->
   (∀c o,c∉[z,TO,i1,i2]->s.π.Δ c<*o->h'.Δ c<*o)->Q (.ν s⁻¹) {s with π:=h',Qs:=J}):Cl (KK BT w) A (Builtin.«zip.__next__» ([.ν z],[])) (λB s'=>∃v,B=.done (.ret v)/\Q v s') E s:=by
 unfold Builtin.«zip.__next__»;refine f_ (SK (a:=QH7) ε (f_ (RL hz ε (x:=.T9 μ) ε (f_ (RL hz ε (x:=.ν TI) ε (f_ (Tp i ε (Ro (!1) (f_ (oB hz P λU I C=>Ro (!0) ?_))))))))));dsimp only;let k1:b7 [z,TO,i1,i2] s.π U:=.Uo C (!1);let l:∀QIX{g g':Qx},QAY->S1 j g->QJY->S1 j g':=λk st e=>G.Vy _ _ _ st λc h=>by
  rcases m1 c h with ε|u
  .exact e
  .exact λo q=>k c o u q
 let D:∀QIX{g g':Qx},QAY->S2 j g->QJZ->S2 j g':=λk st e=>F.Vy _ _ _ st λc h=>by
  rcases m2 c h with ε|u
  .exact e
  .exact λo q=>k c o u q
 rw[<-Yt];change Cl _ _ QIB _ _ _;simp only[U8,WQ];refine f_ (f_ (f_ (RZ (f_ (m:=Builtin.Tv.nextOf QC0) (G.YW k _ _ _ l1 (l k1.2 h1 λo e=>(C.2 i1 b.i1z).ξ e) λx X W O d1 p=>i_ ?_)))));dsimp only;refine i_ (f_ (f_ (RZ (f_ (m:=Builtin.Tv.nextOf QD0) (F.YW k _ _ _ l2 (D (k1.ξ QJa).2 h2 λo e=>(p.2 i2 b.i12.QU).ξ ((C.2 i2 b.i2z).ξ e)) λy d L N d2 n=>i_ ?_)))));dsimp only;refine i_ (i_ (f_ (wpAny_newTuple (hsz:=nt (by change 2≤16777216;decide)) (i_ (0,3)))));let k3:b7 [z,TO,i1,i2] s.π d:=(k1.ξ QJa).ξ (.Uo n (!1));let H:d.Δ z<*Dh T ο TI TO:=(n.2 z b.i2z.QU).ξ ((p.2 z b.i1z.QU).ξ I);let r:UQ d TI QC0 QD0:=k3.2 TI _ (by simp[b.TIz,b.TITO,b.TIi1,b.TIi2]) i;let M:d.SM.Qw=s⁻¹:=k3.1;let t:S1 (k+1) d:=l (b7.Uo (S:=[z,TO,i1,i2]) n (!1)).2 d1 λo e=>(n.2 i1 b.i12).ξ e;let f:UQ (d.Ra {SN:=.QH "tuple",RD:=.V8 #[x,y]}) d.SM.Qw x y:=QK _ ε;change Q (.ν d.SM.Qw) _;rw[M]at f⊢;show R x y _ L O N (ol _ H) (ol _ r) (G.Vy _ _ _ t λc _ o e=>ol _ e) (F.Vy _ _ _ d2 λc _ o e=>ol _ e) f λc o h e=>ol _ (k3.2 c o h e)
def Hn(g:Draws BT w A i1 f1 n1 P1 S1)QG9(y:V_ z TI TO i1 i2 TI TI)QK7(p:s.π.Δ T<*oT)(d:UQ s.π TI QC0 QD0)(h1:S1 n1 s.π)(t:∀h' e i,QEE->(∃o,h'.Δ e=δ o/\o.SN=.QH "StopIteration")->E Z6 {s with π:=h',Qs:=i}):Cl ZR A (Builtin.«zip.__next__» QOu) Q E s:=by
 unfold Builtin.«zip.__next__»;refine f_ (SK (a:=QH7) ε (f_ (RL hz ε (x:=.T9 μ) ε (f_ (RL hz ε (x:=.ν TI) ε (f_ (Tp d ε (Ro (!1) (f_ (oB hz p λv B f=>Ro (!0) ?_))))))))));dsimp only;rw[<-Yt];change Cl _ _ QIB _ _ _;simp only[U8,WQ];let j:S1 n1 v:=g.Vy _ _ _ h1 λc b o e=>by
  rcases m1 c b with ε|l
  .exact (f.2 _ y.i1z).ξ e
  .exact (f.2 c λq=>l (by simp[q])).ξ e
 refine f_ (f_ (f_ (RZ (f_ (m:=Builtin.Tv.nextOf QC0) (g.done _ _ _ j λu e h n=>?_)))));show t u e s.Qs (λc o b q=>h c o (λr=>b (by simp[r])) ((f.2 c λr=>b (by simp[r])).ξ q)) n
end
def Di:Ye (.QH "zip") "__len__"=pure ζ:=by rw[Ty,Sb];kernel_rfl
def Cu:Ye (.QH "zip") "__length_hint__"=pure ζ:=by rw[Ty,Sb];kernel_rfl
end ZP
section
variable{X:Cx}{QF:γ Z_}{σ:St}{H:Hp}{s:ω}{z TI TO i1 i2 S:θ}{d1 d2:Sd}{k:υ}{A:Qo}{E:η->ω->Prop}{xs ys:γ V}
abbrev EK(z TI TO i1 i2:θ)QMQ QKb ZC QKF:Prop:=
 ((YG h z TI TO .ζ/\∃a b,UQ h TO a b)\/∃T b1 ws,h.Δ z=δ (ZP.Dh T b1 TI TO)/\H T<*.RJ ws)/\UQ h TI QC0 QD0/\d1.pl i1 k h/\d2.pl i2 k h
def EK.UF(st:EK z TI TO i1 i2 d1 d2 k H h)(c:∀b∈[z,TI,TO,i1,i2],∀o,h.Δ b<*o->h'.Δ b<*o)(g:∀T ws,H T<*.RJ ws->H' T<*.RJ ws):EK z TI TO i1 i2 d1 d2 k H' h':=
 (st.1.imp (λf=>by let⟨e,a,b,q⟩:=f;show(c z (!1) _ e,a,b,c TO (!1) _ q)) λd=>by let⟨T,i,ws,e,q⟩:=d;show(T,i,ws,c z (!1) _ e,g T ws q),c TI (!1) _ st.2.1,GB st.2.2.1 (c i1 (!1)),GB st.2.2.2 (c i2 (!1)))
def EK.ty QHs:s.Vh QEw "zip":=st.1.SG (λe=>(_,e.1,1)) λ⟨_,_,_,e,_⟩=>(_,e,1)
def rE(q:A.SV=ζ)(R:V_ z TI TO i1 i2 TI TI)Y_(j:∀b∈[z,TI,TO,i1,i2],aX X QF H b)QHs(N:d1.Vl H xs)(M:d2.Vl H ys)(t:xs[k]?<*a)(f:ys[k]?<*b)(O:∀h' i,g_ X QF σ QEx {s with π:=h',Qs:=i}->EK z TI TO i1 i2 d1 d2 (k+1) QEx h'->Q (δ Za) {s with π:=h',Qs:=i}):Cl Y9 A QM8 Q E s:=by
 obtain⟨⟨hz,c,d,y⟩|⟨T,P,ws,hz,B⟩,l,L,s2⟩:=id st
 .exact gr q R I j hz l y L s2 N M t f λh' i I' C h _ F D=>O h' i I' (.RF (7,_,C,SO),h,F,D)
 .obtain ⟨f1,P1,S1,D1,m1,n,P,W⟩:=GC (A:=A.Xq) I q N (j i1 (!1)).1 L;let⟨f2,P2,S2,D2,m2,m,b2,U⟩:=GC (A:=A.Xq) I q M (j i2 (!1)).1 s2;obtain⟨oT,eT⟩:∃o,s.π.Δ T<*o:=by let⟨_,_,_,o,e,_⟩:=I.S7 T _ B;show(o,e)
  refine ZP.Vv st.ty (ZP.JM D1 D2 (λc r=>(m1 c r).imp id λv=>by let⟨u,e⟩:=v;show o9 QM' e) (λc r=>(m2 c r).imp id λx=>by let⟨u,e⟩:=x;show o9 QM' e) R hz eT l n m (m8 t).1 (m8 f).1 λJ G g i Z Y C h F D p gk=>?_);show O g i (I.turnedNew (S:=[z,TO,i1,i2]) gk (λb f=>j b (iz f)) (nt (by change 2≤16777216;decide),[J,G],.Rx (W k J a Z t) (.Rx (U k G b Y f) .Tw),(_,p,1,(0),1))) (.RF (7,ws,C,(b_ (f' B I.SW)).ξ B),h,P _ _ F,b2 _ _ D)
def vY(p:A.SV=ζ)(r:V_ z TI TO i1 i2 TI TI)Y_ QHr(st:EK z TI TO i1 i2 d1 d2 xs.β H s.π)(n:d1.Vl H xs)(q:∀h' f,g_ X QF σ H {s with π:=h',Qs:=f}->Q ζ {s with π:=h',Qs:=f}):Cl Y9 A QM8 Q E s:=by
 obtain⟨⟨hz,c,d,v⟩|⟨T,C,ws,hz,x⟩,a,m,s2⟩:=id st
 .exact jD p r I h hz a m n q
 .obtain ⟨J,P1,L,D,m1,i,C,F⟩:=GC (A:=A.Xq) I p n (h i1 (!1)).1 m;obtain⟨G,B⟩:∃o,s.π.Δ T<*o:=by let⟨_,_,_,o,e,_⟩:=I.S7 T _ x;show(o,e)
  show ZP.Vv st.ty (ZP.Hn D (λc j=>JJ h (m1 c j)) r hz B a i λg e f y l=>by let⟨o,t,j⟩:=l;show(o,e,1,t,j,q g f (I.turnedL (S:=[z,TO,i1,i2]) y λb u=>h b (iz u))))
structure L6(H0:Hp)(S:θ)QRB ZC QRh:Prop where
 QM:H S<*.QM QEg
 Rc:∀Zi(t:θ),ts[i]?<*t->∃x y,xs[i]?=δ x/\ys[i]?=δ y/\H t<*.RJ [x,y]
 nd:ts.Rq
 new:H0 S=ζ
 SL:a_ H0 H
def jC{h:η}{R:Result->ω->Prop}{H0:Hp}(O:A.SV=ζ)(P:V_ z TI TO i1 i2 TI TI)(W:xs.β=ys.β)QQW(D:d1.Vl H0 xs)(U:d2.Vl H0 ys)(Z:∀H s ts,g_ X QF σ H s->ts.β=xs.β->L6 H0 S xs ys H ts->R (.ok (.ret h)) s):∀QJ4 ZC QBP QRh,ts.β+m=xs.β->g_ X QF σ H s->(∀b∈[z,TI,TO,i1,i2],aX X QF H b/\b<s⁻¹)->EK z TI TO i1 i2 d1 d2 ts.β H s.π->L6 H0 S xs ys H ts->
   VD Y9 A (.Qu "list.extend.loop" ([.ν S,.ν z,h],[])) R s
 |0,H,s,ts,G,I,d,st,L=>by
  refine S' F.entry_extend_loop ?_;rw[Qo.Ug F.Vk _];rw[show ts.β=xs.β from G]at st;show f_ (vY (A:=A.Xq) O P I QRl st (JK D L.SL) λh' v j=>i_ (Z H _ ts j G L))
 |m+1,H,s,ts,G,I,d,st,L=>by
  refine S' F.entry_extend_loop ?_;rw[Qo.Ug F.Vk _];let h1:ts.β<xs.β:=by lia
  let h2:ts.β<ys.β:=W▸h1;let fr:=I.SW;refine f_ (rE (A:=A.Xq) O P I QRl st (JK D L.SL) (JK U L.SL) (h_ h1) (h_ h2) λh' v j B=>?_);let p:∀Zz QSV,H b<*u->b≠s⁻¹:=λe=>f' e fr;let C:=(b_ (H:=H) (o:=.RJ [xs[ts.β],ys[ts.β]]) (p L.QM)).ξ L.QM;let lt:s⁻¹<h'.SM.Qw:=j.S7.lt SO;let⟨_,Rc,n,r,el,e⟩:=j.lstM C;let Y:Rc.Θ.Qw=ts.β:=by rw[QZ,<-el,j']
  let J:=j.lset (its':=Rc++[.ν s⁻¹]) (ys:=(ts++[s⁻¹]).QY V.ν) (f:=(·.Ra Za)) (t':=v) C e (!1) (by rw[Q2];show r.append QCr) (by rw[j',u4,Sw];simp only[γ.YV];lia);let Q:∀Zz QSV,b≠S->H b<*u->QO (QO H s⁻¹ (.RJ [xs[ts.β],ys[ts.β]])) S (.QM ((ts++[s⁻¹]).QY V.ν)) b<*u:=λc e=>(b_ c).ξ ((b_ (p e)).ξ e);let nS:∀Zz{ws:γ V},H b<*.RJ ws->b≠S:=λe q=>by rw[q,L.QM]at e;cases e
  let sS:s⁻¹≠S:=λq=>p L.QM q.QU;let fS:∀b∈[z,TI,TO,i1,i2],b≠S:=λb c q=>by rw[q]at c;have:=(d S c).1.1;rw[L.QM]at this;cases this
  refine f_ (m:=Builtin.γ.listUpdate QGB (·.Ra Za)) (show Cl _ _ (updateSeq S _) _ _ _ from V' (s:={s with π:=h',Qs:=v}) e ε (i_ (U7 F.Vk _,jC O P W hn D U Z m _ _ (ts++[s⁻¹]) ?_ J (λb c=>((3,(d b c).1.2),3)) ?_ (SO,λi t g=>?_,3,L.new,λb o q=>?_))) ?_ ?_)
  .rw [u4,γ.YV];lia
  .rw [b_ (fS b c),b_ (RH (d b c).2)];show(d b c).1.1
  .rw [Qx.size_update];show TL (d b c).2 lt
  .rw [u4];refine B.UF (λb c o q=>(Re _ _ (Ne.QU (fS b c))).ξ q) λT ws q=>(b_ λy=>?_).ξ q;rw[y,C]at q;cases q
  .by_cases N:i<ts.β
   .rw [QS N]at g;let⟨x,y,q1,q2,l⟩:=L.Rc i t g;show(x,y,q1,q2,Q (nS l) l)
   .let M:=(m8 g).1;rw[u4,γ.YV]at M;obtain ε:i=ts.β:=by lia
    rw[Qp Zs,XC]at g;cases g;show(7,h_ h1,h_ h2,(b_ sS).ξ SO)
  .refine γ.Ym.Sj (L.nd,!1,λa ha b c q=>?_);let⟨i,g⟩:=RQ.mp ha;let⟨_,_,_,_,l⟩:=L.Rc i a g;show p l (q.ξ (wh c))
  .exact Q (λy=>by rw[y,L.new]at q;cases q) (L.SL b o q)
  .rw [Y,Sw];lia
  .change (Rc.Θ.Ra _).Qw≤_;rw[Ry.Tb,Y,Sw];lia
def uk(hh:A.SV=ζ)(ap:V_ z TI TO i1 i2 TI TI)Y_(D:∀b∈[z,TI,TO,i1,i2],aX X QF H b/\b<s⁻¹)QCx(st:EK z TI TO i1 i2 d1 d2 0 H s.π)(hl:xs.β=ys.β)QQW(Z:d1.Vl H xs)(Y:d2.Vl H ys)(hQ:∀H' s' ts,g_ X QF σ H' s'->ts.β=xs.β->L6 H s⁻¹ xs ys H' ts->Q Za s'):Cl Y9 A (Ub (.QH "list") [.ν z]) Q E s:=by
 refine callType_codes (Q₁:=λv c=>v=.ν s⁻¹/\c={s with π:=s.π.Ra {SN:=.QH "list",RD:=.V8 #[]} }) F.called_list (F.typeCall_list_1 _) F.entry_list_init
  (code_list_new _ (1,1)) λv c C=>?_
 let⟨rfl,ε⟩:=C;let M:(s.π.Ra {SN:=.QH "list",RD:=.V8 #[]}).Δ s⁻¹<*{SN:=.QH "list",RD:=.V8 #[]}:=QK _ ε;refine((_,M,1),F.args_list_init_2 _ _,3);let N:=I.SW;let O:=I.lnew (Rc:=[]) (t':=s.Qs) .Tw QDt;let B:∀b∈[z,TI,TO,i1,i2],b<(s.π.Ra {SN:=.QH "list",RD:=.V8 #[]}).SM.Qw:=λb a=>by rw[Tb];show υ.W_ (D b a).2
 let u:EK z TI TO i1 i2 d1 d2 0 QI5 (s.π.Ra {SN:=.QH "list",RD:=.V8 #[]}):=st.UF (λb a o e=>ol _ e) λT ws q=>(b_ (f' q N)).ξ q;let p:∀b∈[z,TI,TO,i1,i2],b≠s⁻¹:=λb a=>RH (D b a).2;let j:a_ H QI5:=λb o e=>(b_ (f' e N)).ξ e;let R:∀b∈[z,TI,TO,i1,i2],aX X QF QI5 b:=λb a=>((b_ (p b a)).ξ (D b a).1.1,(D b a).1.2);let W:∀b o,s.π.Δ b<*o->(s.π.Ra {SN:=.QH "list",RD:=.V8 #[]}).Δ b<*o:=λb o e=>ol _ e;generalize s.π.Ra {SN:=.QH "list",RD:=.V8 #[]}=g at M O u B W;generalize ab:s⁻¹=S at *;let O:g_ X QF σ (QO H S QBD) {s with π:=g,Qs:=s.Qs}:=O;change Cl _ _ (do let P <-Builtin.γ.listItems QGB;Builtin.γ.listUpdate QGB (λ_=>#[]);letGo P.Qq.Ru;Builtin.γ.Wh QGB QEw .ζ) _ _ _;refine f_ ?_;unfold Builtin.γ.listItems;refine f_ (Tp M ε QA8);change Cl _ _ (updateSeq S (λ_=>#[])>>=λ_=>letGo (#[]:Ry η).Qq.Ru>>=λ_=>Builtin.γ.Wh QGB QEw .ζ) _ _ _;refine f_ (V' M ε QOq);let m:=Rk QBs M ε;let r:(g.Sm S QBs).SM.Qw=g.SM.Qw:=Qx.size_update ..;let f:=u.UF (h':=g.Sm S QBs) (λb a o e=>(Re _ _ (Ne.QU (p b a))).ξ e) λ_ _ q=>q;let l:∀b o,b≠S->g.Δ b<*o->(g.Sm S QBs).Δ b<*o:=λb o a e=>(Re _ _ QH9).ξ e;generalize g.Sm S QBs=n at m l r f;let U:=f.ty (s:={s with π:=n});unfold Builtin.γ.Wh;refine f_ (XY U ?_);let e1:Builtin.γ.listSameRef QGB QEw=μ:=by simp[Builtin.γ.listSameRef,Ne.QU (p z (!1))]
 let e2:(η.QH "zip"==η.QH "list")=μ:=by decide
 let e3:(η.QH "zip"==η.QH "tuple")=μ:=by decide
 simp only[e1,e2,e3,Ω.T8,Ω.YN,Xr];refine f_ (wpAny_pyIter_zip (s:={s with π:=n}) (l z _ (p z (!1)) (W z _ hz)) (f_ (RZ ?_)));unfold Builtin.γ.Xo;refine f_ (VT U ZP.Di ?_);change Cl _ _ (specialOf (η.ν z) (QL.S5 "__length_hint__")>>=_) _ _ _;refine f_ (VT U ZP.Cu QA8);change Cl _ _ (Xl "list.extend.makes-room" >>= λ_=>Builtin.γ.listTouch QGB>>=λ_=>again (.Qu "list.extend.loop" ([.ν S,.ν z,.ζ],[]))) _ _ _;refine f_ (Ww QDM);change Cl _ _ (updateSeq S (·.Ra .ζ)>>=λ_=>updateSeq S (·.pop)) _ _ _;refine f_ (V' (s:={s with π:=n}) m ε ?_);let J:=Rk QEh m ε;refine V' (hz:=by seq_fits) J ε ?_;let G:=Rk QIC J ε;let d:∀b o,b≠S->n.Δ b<*o->((n.Sm S QEh).Sm S QIC).Δ b<*o:=λb o a e=>(Re _ _ QH9).ξ ((Re _ _ QH9).ξ e);refine i_ (U7 F.Vk _,jC (A:=A.Xq) (S:=S) (H0:=H) hh ap hl hn Z Y (λH' s' ts I' h1 L=>(1,hQ H' s' ts I' h1 L)) xs.β _ _ [] (υ.TJ _) (O.write (x:=S) (e:=S) (h':=(n.Sm S QEh).Sm S QIC) (t':=s.Qs) (o:=.QM []) (by rw[SO];trivial) Zv (λb o a e=>d b o a (l b o a e)) (_,G) (RP _,[],_,.Tw,G)) (λb a=>(3,3)) (f.UF (λb a o e=>d b o (p b a) e) λT ws q=>?_) (SO,λi t h=>by simp at h,γ.nodup_nil,N,λb o e=>(b_ (f' e N)).ξ (j b o e)))
 .exact ((b_ (p b a)).ξ (R b a).1,(D b a).1.2)
 .change b<((n.Sm _ _).Sm _ _).SM.Qw;rw[Qx.size_update,Qx.size_update,r];show B b a
 .exact (b_ λy=>by rw[y,SO]at q;cases q).ξ q
end
def HY QRj(a:d.Vl H xs)(b:d.Vl H ys):xs=ys:=by
 cases d with
 |tx x k=>show(show xs=_ from a).ξ (show ys=_ from b).QU
 |tp c=>
  let a:H c=_:=a;let b:H c=_:=b;rw[a]at b;cases b;rfl
 |ls c=>
  let a:H c=_:=a;let b:H c=_:=b;rw[a]at b;cases b;rfl
def uV{g:TG}{n:TS}QTn(t:xs.β=ys.β)QHF(z:c 0 b H)(u:∀i b H,c i b H->d1.Vl H xs/\d2.Vl H ys)(s:∀i x y p b H,xs[i]?<*x->ys[i]?<*y->H p=ζ->c i b H->g Zh b (QO H p (.RJ [x,y])) λd l=>n {D with nx:=c (i+1),ct:=c (i+1),bk:=D.nx} d l)(w:∀b H,c xs.β b H->D.nx b H):∃W:υ->υ->St->Hp->Prop,QFb/\∀i m b H,W i m b H->
   ((GA d1 d2).Wb i H/\D.nx b H)\/((GA d1 d2).go i H/\∃N:St->Hp->Prop,(∀f H',N f H'->∃o,o<m/\W (i+1) o f H')/\∀v H',(GA d1 d2).yld i H v H'->g v b H' λd l=>n {D with nx:=N,ct:=N,bk:=D.nx} d l):=by
 refine(λi m b H=>m=xs.β-i/\i≤xs.β/\c i b H,(xs.β,!1,RP _,z),3);rintro i m b H⟨rfl,G,p⟩;let⟨h1,h2⟩:=u i b H p;by_cases k:i<xs.β
 .refine .RF ((xs,ys,xs[i],ys[i]'(Ep k t),h1,h2,h_ _,h_ _),c (i+1),λf H' r=>(xs.β-(i+1),Eo k,1,k,r),λv H' q=>?_);let⟨a,j,h,x,y,F,E,C,B,ε,A,ε⟩:=q;have:=HY F h1;have:=HY E h2;subst j h;show s i x y a b H C B A p
 .let e:i=xs.β:=D9 k G
  subst e;show .RB ((xs,ys,h1,h2,t,1),w b H p)
def vX(h:H a<*.RJ xs\/H a<*.QM xs)(b:∀d2:Sd,(∀H':Hp,H' a=H a->d2.Vl H' xs)->∀k,R (GA (.tx x k) d2) H):uG R [.Qn x,.ν a] H:=by
 rcases h with h|h
 .exact (.tx x 0,.tp a,_,xs,5,h,λk _=>b (.tp a) QT1 k)
 .exact (.tx x 0,.ls a,_,xs,5,h,λk _=>b (.ls a) QT1 k)
structure lL ZZ(x Qz:QL)QRH QDo(fd:TQ):Prop where
 ex:∃(oc:η)(od:χ θ)(dV kV Tm pm:η)(an:χ θ)(U' ct:η)(osl:Ry QKu),
  fd=U9 x Qz QQJ QQK QHO dV kV Tm pm an U' ct/\K.ρ f=δ QRS/\UN K U' Qz=ο
 kp:V3 K Ze=ο
def lL.ok{P:IO}{w:QV}{K:Qt}{st:Rb}(F:lL K x Qz st f fd)(S:s_ N ps (hY st))(Sr:∀vs H Q E,sp vs H Q E->vs.β=ps.β)(a:∀(U':η)(A:Qo)(Id:γ YH)(s:ω)(H:Hp)(vs:γ V)(Q:VK)(E:XK),am k (A.VQ (W8 Qz (hY st) s⁻¹ f U'))->sp vs H Q E->
   ∃t,Bk (aY na P w K mg ς N Qz (hY st) f U' A Id s H E).nox (n' st) t/\t {nx:=λ_ H'=>Q .UT H',rt:=Q} (WG N vs) H):aa P w K mg ς na (k+1) f fd ps sp:=by
 let⟨i,g,j,kV,Tm,pm,an,U',ct,d,ε,lk,c⟩:=F.ex;refine kO lk c S Sr λA Id s H vs Q E e b=>?_;let⟨t,h,q⟩:=a U' A Id s H vs Q E e b;show(t,h.nox,q)
def oY{P:IO}{w:QV}{K:Qt}{mg:QL->χ η}{ς:Qx}{st:Rb}{g d kV Tm pm ct:η}(lk:K.ρ f<*(g,h,.VL (U9 x Qz (t_ st) (n' st) (hY st) d kV Tm pm an (.ν c) ct),e))(b:UN K (.ν c) Qz=ο)(S:s_ N ps (hY st))(Sr:∀vs H Q E,sp vs H Q E->vs.β=ps.β)(a:∀(A:Qo)(Id:γ YH)(s:ω)(H:Hp)(vs:γ V)(Q:VK)(E:XK),am k (A.VQ (W8 Qz (hY st) s⁻¹ f (.ν c)))->sp vs H Q E->
   ∃t,Bk (aY na P w K mg ς N Qz (hY st) f (.ν c) A Id s H E) (n' st) t/\t {nx:=λ_ H'=>Q .UT H',rt:=Q} (WG N vs) H):aa P w K mg ς na (k+1) f (U9 x Qz (t_ st) (n' st) (hY st) d kV Tm pm an (.ν c) ct) ps sp:=kO lk b S Sr a
end L2
namespace RA
open L2
structure GD ZC(cW wk:θ)Zp(t wd y m:θ):Prop where
 ex:∃dx,H wk<*.XO cW dx [("letters",.Qn ZU,),("things",.ν t,),("words",.ν wd,),("ways",.ν y,),("marks",.ν m,)]
abbrev ms(ws:LL):γ V:=ws.QY λw=>V.Qn QNL
abbrev bD(ti:TK)ZC(ks:LL)ZF:Prop:=vs.β=ks.β/\∀Zi QES(v:V),ks[i]?<*k->vs[i]?<*v->Ai ti H k v
def bD.SL(h:bD c H ks vs)Z7:bD c H' ks vs:=(h.1,λi k v a b=>(h.2 i k v a b).SL s)
def bD.snoc(h:bD d H ks vs)(f:Ai d H k v):bD d H QF_ (vs++[v]):=by
 refine(by rw[u4,u4,h.1];rfl,λi k' e a b=>?_);by_cases c:i<ks.β
 .rw [QS c]at a;rw[QS (by rw[h.1];show c)]at b;show h.2 i k' e a b
 .rw [Qp (SU c)]at a;rw[Qp (by rw[h.1];show SU c),h.1]at b;let hz:i-ks.β=0:=by
   have:=(m8 a).1;simp at this;omega
  rw[hz]at a b;cases a;cases b;show f
abbrev Dj ZC QDf(R:LL):Prop:=Ta.β=R.β/\∀Zi QBz(r:LN),Ta[i]?<*a->R[i]?<*r->H a<*.QM (b' r)
structure Cv QF1(nL:υ)(ks:LL)(R:LL):Prop where
 YO:∀QPT(YO:LN)QES,R[r]?<*YO->ks[r]?<*k->YO.β=nL/\∀(q x:υ),YO[q]?<*x->ks[x]?<*g k q
inductive HZ(ti:TK)Zp QF1(U:LL)QFI ZF ZC ZV Zk:Prop
 |mk (k v:_) QKD (_:Ai ti H k v) (_:k∈U) QN3 (_:∀gs xs H',a_ H H'->(H' gs<*.RJ xs\/(H gs=ζ/\H' gs<*.QM xs))->xs.β=L.β->(∀QUT(x:V),xs[q]?<*x->Ai ti H' (g k q) x)->Q (.ν gs) H')
inductive bG(ti:TK)QTd(U:LL)QFI ZF ZC ZV Zk:Prop
 |mk (k v:_) QKD (_:Ai ti H k v) (_:k∈U) QN3 (_:∀H',a_ H H'->Q (.bl (mk k)) H')
abbrev dU:χ υ->V
 |ζ=>.UT
 |δ n=>.QB (n:ψ)
inductive rY(cW:θ)ZF ZC ZV Zk:Prop
 |mk (x dx L v:_) (_:vs=[.ν x,.Qn ZU,v]) (_:H x<*.XO cW dx []) (_:∀t wd y m H',t≠wd->t≠y->t≠m->wd≠y->wd≠m->y≠m->H t=ζ->H wd=ζ->H y=ζ->H m=ζ->(∀b o,b≠x->H b<*o->H' b<*o)->GD H' cW x L t wd y m->H' t<*.QM [v]->H' wd<*.QM [.Qn (tx [])]->H' y<*.QM []->H' m<*.QM []->Q .UT H')
inductive H_(cW:θ)(ti:TK)Zp QF1 QTd(U:LL)QFI(fg fm:θ)ZF ZC ZV Zk:Prop
 | mk (s:LN) (sv:V) (most:χ υ) (_:vs=[.Qn (tx L),sv,.ν fg,.ν fm,dU most]) (_:BL L) (_:Ai ti H s sv) (_:s∈U) (_:(∀k∈U,∀q,q<L.β->g k q∈U)) (_:U.β≤100000) (_:Rest H) (_:∀(wk t wd y m:θ)(ks:LL)(vks:γ V)(ws:LL)(Ta:γ θ)(R:LL)(B:γ Ω)(H':Hp),a_ H H'->GD H' cW wk L t wd y m->H' t<*.QM vks->bD ti H' ks vks->H' wd<*.QM (ms ws)->H' y<*.QM (Ta.QY V.ν)->Dj H' Ta R->H' m<*.QM (B.QY V.bl)->
  Bf g L s ks ws R.β 0->Cv g L.β ks R->B.β=R.β->(∀(r:υ)(k:LN)(b:Ω),ks[r]?<*k->B[r]?<*b->b=mk k)->(∀k∈ks,k∈U)->ks.β≤U.β->(R.β=ks.β\/∃n,most=δ n/\n<ks.β)->Q (.ν wk) H')
end RA
namespace L2
open PySem.Spec PyProof.Rows
namespace ZP
set_option maxHeartbeats 1000000 in
def ua(d1:Sd)(Rc:Ry η):Meets (Builtin.«enumerate.__new__» ([.QH "enumerate",d1.vu],[])) (λ_ R s=>d1.hp Rc s.π/\
   R (.ok (.ret (.ν (s.π.Ra d1.it0).SM.Qw))) {s with π:=(s.π.Ra d1.it0).Ra {SN:=.QH "enumerate",RD:=.R5 #[.ζ,.T9 μ,.ν s⁻¹,R0 0,.ζ,.ζ]} }):=
 .of_wp λBT w A R s h=>by
  let⟨hp,g,d,e,os⟩:=s;let⟨a,h⟩:=h;let b:=pU
  wp_walk using JI a
  refine wpAny_stack_any λst=>i_ ?_;split
  .rename_i c _ _ _ _ _;cases(c==η.QH "enumerate")<;>(wp_walk using JI a;show(0,h))
  .wp_walk using JI a
   show(0,h)
def FM QRj(f:d.hp Rc s.π)(h:∀h',IsEnum h' QAb s⁻¹ 0 .ζ->d.pl s⁻¹ 0 h'->QAn->Q (.ν QAb) {s with π:=h'}):Cl ZR A (Ub (.QH "enumerate") [d.vu]) Q E s:=by
 refine callType_new F.called_enumerate (!0) (F.typeCall_enumerate_1 _) (F.newCall_enumerate_1 _) QI6 F.entry_enumerate_new (ua d Rc) (f,3);generalize c:s.π.Ra d.it0=G;let hz:G.SM.Qw=s⁻¹+1:=by rw[<-c];show Tb ..
 let e:IsEnum (G.Ra {SN:=.QH "enumerate",RD:=.R5 #[.ζ,.T9 μ,.ν s⁻¹,R0 0,.ζ,.ζ]}) QAb s⁻¹ 0 .ζ:=by
  let q:=QK G (o:={SN:=.QH "enumerate",RD:=.R5 #[.ζ,.T9 μ,.ν s⁻¹,R0 0,.ζ,.ζ]}) ε;rw[hz]at q;show q
 change _/\_;rw[hz];show((_,e,1),h _ e (nh (ol _ (by rw[<-c];show QK _ (eh _)))) λb o x=>ol _ (by rw[<-c];show ol _ x))
end ZP
abbrev Ia(d:Sd):It:=⟨λi H=>∃xs x,d.Vl H xs/\xs[i]?<*x,λi H v H'=>∃p x xs,d.Vl H xs/\xs[i]?=δ x/\v=.ν p/\H p=ζ/\H'=QO H p QDu,λi H=>∃xs,d.Vl H xs/\i=xs.β⟩
def v9 QCI(d:Sd)(e it:θ)(n:e≠it):gp P w K (.Wo es kt pt) (Ia d) [e,it] e (λi h=>(∃a,IsEnum h e it i a)/\d.pl it i h)  where
 mem:=by simp
 YQ:=λi h M c r=>by
  let⟨⟨a,f⟩,l⟩:=M;simp only[QW,Si,T8]at r;rcases r with ε|rfl
  .exact (_,f,λv q=>by cases q)
  .exact bN l
 UF:=λi h h' L k=>by let⟨⟨a,f⟩,l⟩:=L;show((a,k e (!1) _ f),GB l λo q=>k it (!1) _ q)
 YW:=by
  rintro X O hw Q r i t s Z H E I p⟨⟨a,f⟩,l⟩⟨xs,x,B,G⟩;subst O hw Q;let⟨W,P1,S1,T,m1,m,Y,U⟩:=GC (A:=X.A.Xq) I QK6 B (p it (!1)).1 l;let J:e∉W:=λz=>(m1 e z).SG n λ⟨u,y⟩=>by rw[(p e (!1)).1]at y;cases y
  refine wpAny_pyNext_enum_itemD T f m (m8 G).1 n J λv g D pv ho st F hsz gk=>(0,3);refine wpAny_letOwnedTupleGo_enum (s:={s with π:=g,Qs:=D+1}) ho λg' ge R=>?_;let C:∀b o,b≠e->g.Δ b<*o->g'.Δ b<*o:=λb o j q=>(R.2 b j).ξ q;let ne:s⁻¹≠e:=XH (lt_size f);let RJ:Aq X.BT X.w (QO H s⁻¹ QDu) g' s⁻¹ QDu:=
   (nt (by change 2≤16777216;decide),[.QB i D,v],.Rx QAy (.Rx (U i v x pv G) .Tw),(_,C _ _ ne F,1,(0),1))
  refine(.ν s⁻¹,_,I.turnedNew (S:=[e,it]) (h':=g') (t':=D+1) (λb o j q=>C b o (λz=>j (by simp[z])) (gk b o (λz=>j (by simp[z])) (λz=>j (by simp[z])) q)) p RJ,1,
   (_,x,xs,B,G,1,I.S7.SW (QD _),1),((_,by rw[ψ.natCast_succ];show ge),GB (Y _ _ st) λo q=>C _ o (λz=>n z.QU) q),λb j=>?_)
  let lt:b<s⁻¹:=by
   let⟨o1,e1,_⟩:=bN l;simp only[QW,Si,T8]at j;rcases j with ε|rfl
   .exact lt_size f
   .exact lt_size e1
  rw[b_ (RH lt)];show(p b j).1
 done:=by
  rintro X O hw Q r i t s Z H E I p⟨⟨a,f⟩,l⟩⟨xs,B,ε⟩;subst O hw Q;let⟨W,P1,S1,T,m1,m,Y,U⟩:=GC (A:=X.A.Xq) I QK6 B (p it (!1)).1 l;refine wpAny_pyNext_enum_endD T f m λg R=>(1,3);show I.turnedL (S:=[e,it]) (λb o j q=>R b o (λz=>j (by simp[z])) q) p
 self:=λ_ _ _ _ _ N h=>by let⟨⟨_,f⟩,_⟩:=N;show wpAny_pyIter_enum f h
inductive L7 QA1 ZF QCi:Prop
 |mk (d:Sd) QBI (_:vs=[d.vl]) (_:d.Vl H1 xs) (_:∀k,R (Ia (d.X0 k)) H1)
abbrev L8 QG3:TI:=λσ H R=>t σ H (L7 R)
def oo{F:γ SF}{w:υ}{v:T6}QFH(B:Gl X "enumerate")(A:X.mg "enumerate"=ζ)(C:PA X [a] r)(x:QJ3>>>4)(j:QBh>>>4):PI X (.Wo F w v) (.Tl (.Rn "enumerate" p) [a] [] RX) (L8 r):=by
 intro e s o H R I h;refine RT (va I B A Sz.Ws.boot_enumerate (Sz.Ws.S8 (oh (C RX e s o H _ I h) λus b z=>?_) x j));let⟨vs,G,i,u,d,xs,ε,y,q⟩:=z;let⟨J,ε,t⟩:=B7 u;let⟨k,ε⟩:=rF t;let q:=q k;let⟨Rc,l⟩:=jX i (JL (k:=k) y);generalize d.X0 k=d at q l;refine ZP.FM l λg n E D=>wpAny_pyIter_enum (s:={b with π:=g}) n ?_;refine(_,[b⁻¹+1,b⁻¹],_,Ia d,G,1,i.WE (t':=b.Qs) D,v9 d _ _ (Km (!6)),((_,n),E),λc m=>?_,q);let f:b⁻¹≤c:=by
  simp only[QW,Si,T8]at m;rcases m with ε|rfl
  .exact VP _ _
  .exact QD _
 show i.fpOk f (i.S7.SW f)
def Ho{g:TG}{k:TS}QTn(b:υ->St->Hp->Prop)(u:b 0 a H)(r:∀i a H,b i a H->d.Vl H xs)(o:∀i x p a H,xs[i]?<*x->H p=ζ->b i a H->g Zh a (QO H p QDu) λc j=>k {D with nx:=b (i+1),ct:=b (i+1),bk:=D.nx} c j)(s:∀a H,b xs.β a H->D.nx a H):∃W:υ->υ->St->Hp->Prop,QFd/\∀i m a H,W i m a H->((Ia d).Wb i H/\D.nx a H)\/((Ia d).go i H/\∃N:St->Hp->Prop,(∀e H',N e H'->∃l,l<m/\W (i+1) l e H')/\∀v H',(Ia d).yld i H v H'->g v a H' λc j=>k {D with nx:=N,ct:=N,bk:=D.nx} c j):=by
 refine(λi m a H=>m=xs.β-i/\i≤xs.β/\b i a H,(xs.β,!1,RP _,u),3);rintro i m a H⟨rfl,w,p⟩;let h:=r i a H p;by_cases f:i<xs.β
 .refine .RF ((xs,xs[i],h,h_ f),b (i+1),λe H' n=>(xs.β-(i+1),Eo f,1,f,n),3);rintro v H'⟨q,x,ys,h1,h2,ε,t,ε⟩;obtain ε:=HY h1 h;show o i x q a H h2 t p
 .obtain ε:i=xs.β:=D9 f w
  show .RB ((xs,h,1),s a H p)
end L2
namespace RA
open L2
def EL(h:n≤100000):n<Λ:=by rw[Sw];lia
def OH{A B:Prop}(h:A):if (!decide (V.QB n=V.UT))=ο then A else B:=by
 rw[QN (λz=>by cases z)];show ay h
structure WI QKa Z'(H0 H:Hp)(cW:θ)(ti:TK)Zp(wk t wd y m d:θ)(ks:LL)(vks:γ V)(ws:LL)QDf(R:LL)Zg:Prop where
 sm:a_ H0 H
 YQ:GD H cW wk L t wd y m
 ht:H t<*.QM vks
 th:bD ti H ks vks
 hw:H wd<*.QM (ms ws)
 hy:H y<*.QM QBo
 wr:Dj H Ta R
 hm:H m<*.QM QCm
 rm:z8 P w H d ti ks
 n1:H0 t=ζ
 n2:H0 wd=ζ
 n3:H0 y=ζ
 n4:H0 m=ζ
 n5:H0 d=ζ
 d1:t≠wd
 d2:t≠y
 d3:t≠m
 d4:wd≠y
 d5:wd≠m
 d6:y≠m
 e1:d≠t
 e2:d≠wd
 e3:d≠y
 e4:d≠m
 e5:d≠wk
 nr:∀a∈Ta,a≠t/\a≠wd/\a≠y/\a≠m/\a≠d
section
variable{P:IO}{w:QV}{H0 H:Hp}{cW:θ}{ti:TK}{L:LN}{wk t wd y m d:θ}{ks:LL}{vks:γ V}{ws:LL}{Ta:γ θ}{R:LL}{B:γ Ω}
def WI.VA Z8 QA5:WI P w H0 H' cW ti L wk t wd y m d ks vks ws Ta R B:=
 {h with
  sm:=h.sm.ξ s
  YQ:=let⟨dx,e⟩:=h.YQ.ex;(dx,s _ _ e)
  ht:=s _ _ h.ht
  th:=h.th.SL λb xs e=>s _ _ e
  hw:=s _ _ h.hw
  hy:=s _ _ h.hy
  wr:=(h.wr.1,λi a r h1 h2=>s _ _ (h.wr.2 i a r h1 h2))
  hm:=s _ _ h.hm
  rm:=h.rm.SL λb o e _=>s _ _ e}
def WI.beside Z8(j:H a<*.QM xs)(k:H0 a=ζ)(v:a≠t)(s:a≠wd)(q:a≠y)(p:a≠m)(n:a≠d)(l:a∉Ta):WI P w H0 QE6 cW ti L wk t wd y m d ks vks ws Ta R B:=by
 let f:∀Zz QSV,H b<*u->b≠a->QO H a o b<*u:=λe g=>by rw[b_ g];show e
 let c:∀b zs,H b<*.RJ zs->QO H a o b<*.RJ zs:=λb zs e=>f e (n7 e j (!5));show {h with
  sm:=a_.US h.sm k
  YQ:=let⟨dx,e⟩:=h.YQ.ex;(dx,f e (n7 e j (!5)))
  ht:=f h.ht (Ne.QU v)
  th:=h.th.SL c
  hw:=f h.hw (Ne.QU s)
  hy:=f h.hy (Ne.QU q)
  wr:=(h.wr.1,λi b r h1 h2=>f QPj λz=>l (by rw[<-z];show v7 h1))
  hm:=f h.hm (Ne.QU p)
  rm:=h.rm.SL λb u e g=>by
   rcases g with ε|⟨zs,ε⟩
   .exact f e (Ne.QU n)
   .exact c b zs e}
def WI.new Z8(A:Ai ti H k v)(s:z8 P w (QO H d n) d ti QF_):WI P w H0 (QO QHt wd QK8) cW ti L wk t wd y m d QF_ (vks++[v]) (ws++[a]) Ta R B:=by
 let o:∃φ,H d<*.ext φ:=by
  let j:=h.rm;unfold z8 at j;by_cases c:ti=.i
  .rw [QC c]at j;show(_,j.1)
  .rw [Fr c]at j;let⟨Ri,e,_⟩:=j;show(_,e)
 let⟨φ,o⟩:=o;let l:∀Zz QSV,H b<*u->b≠d->b≠t->b≠wd->QO QHt wd QK8 b<*u:=λe h1 h2 D=>by rw[b_ D,b_ h2,b_ h1];show e
 let g:∀b zs,H b<*.RJ zs->QO (QO (QO H d n) t (.QM (vks++[v]))) wd (.QM (ms ws++[.Qn (tx a)])) b<*.RJ zs:=λb zs e=>l e (n7 e o (!5)) (n7 e h.ht (!5)) (n7 e h.hw (!5));let E:=h.YQ.ex;let⟨dx,q⟩:=E;show {h with
  sm:=a_.US (a_.US (a_.US h.sm h.n5) h.n1) h.n2
  YQ:=(dx,l q (Ne.QU h.e5) (n7 q h.ht (!5)) (n7 q h.hw (!5)))
  ht:=by rw[b_ h.d1,SO]
  th:=(h.th.SL g).snoc (A.SL g)
  hw:=by rw[SO,ms,ms,Q2];rfl
  hy:=l h.hy (Ne.QU h.e3) (Ne.QU h.d2) (Ne.QU h.d4)
  wr:=(h.wr.1,λi b r h1 h2=>l QPj (h.nr b QNA).2.2.2.2 (h.nr b QNA).1 (h.nr b QNA).2.1)
  hm:=l h.hm (Ne.QU h.e4) (Ne.QU h.d3) (Ne.QU h.d5)
  rm:=s.SL λb u e C=>by
   rcases C with ε|⟨zs,ε⟩
   .rw [b_ h.e2,b_ h.e1];show e
   .let p:b≠d:=λz=>by
     rw[z,SO]at e;let f:=s;unfold z8 at f;by_cases c:ti=.i
     .rw [QC c,SO]at f;rw[e]at f;cases f.1
     .rw [Fr c]at f;let⟨Ri,x,_⟩:=f;rw[SO,e]at x;cases x
    rw[b_ p]at e;show g b zs e}
def WI.YO Z8(o:H a<*.QM (b' r))(x:a≠t)(v:a≠wd)(l:a≠y)(s:a≠m)(q:a≠d):WI P w H0 (QO H y QK9) cW ti L wk t wd y m d ks vks ws (Ta++[a]) (R++[r]) B:=by
 let f:∀Zz QSV,H b<*u->b≠y->QO H y QK9 b<*u:=λe g=>by rw[b_ g];show e
 let c:∀b zs,H b<*.RJ zs->QO H y (.QM (Ta.QY V.ν++[.ν a])) b<*.RJ zs:=λb zs e=>f e (n7 e h.hy (!5));let p:=h.YQ.ex;let⟨dx,k⟩:=p;show {h with
  sm:=a_.US h.sm h.n3
  YQ:=(dx,f k (n7 k h.hy (!5)))
  ht:=f h.ht h.d2
  th:=h.th.SL c
  hw:=f h.hw h.d4
  hy:=by rw[SO,Q2];rfl
  wr:=by
   refine(by rw[u4,u4,h.wr.1];rfl,λi b n h1 h2=>?_);by_cases j:i<Ta.β
   .rw [QS j]at h1;rw[QS (by rw[<-h.wr.1];show j)]at h2;show f (h.wr.2 i b n h1 h2) (h.nr b QNA).2.2.1
   .rw [Qp (SU j)]at h1;rw[Qp (by rw[<-h.wr.1];show SU j),<-h.wr.1]at h2;let hz:i-Ta.β=0:=by
     have:=(m8 h1).1;simp at this;omega
    rw[hz]at h1 h2;cases h1;cases h2;show f o l
  hm:=f h.hm (Ne.QU h.d6)
  rm:=h.rm.SL λb u e g=>by
   rcases g with ε|⟨zs,ε⟩
   .exact f e h.e3
   .exact c b zs e
  nr:=λb g=>by
   rcases Rr.mp g with z|z
   .exact h.nr b z
   .rw [wh z];show(x,v,l,s,q)}
def WI.mark Z8:WI P w H0 (QO H m QLd) cW ti L wk t wd y m d ks vks ws Ta R (B++[b]):=by
 let f:∀{c:θ}QSV,H c<*u->c≠m->QO H m QLd c<*u:=λe g=>by rw[b_ g];show e
 let a:∀c zs,H c<*.RJ zs->QO H m (.QM (B.QY V.bl++[.bl b])) c<*.RJ zs:=λc zs e=>f e (n7 e h.hm (!5));let k:=h.YQ.ex;let⟨dx,j⟩:=k;show {h with
  sm:=a_.US h.sm h.n4
  YQ:=(dx,f j (n7 j h.hm (!5)))
  ht:=f h.ht h.d3
  th:=h.th.SL a
  hw:=f h.hw h.d5
  hy:=f h.hy h.d6
  wr:=(h.wr.1,λi c r h1 h2=>f (h.wr.2 i c r h1 h2) (h.nr c QNA).2.2.2.1)
  hm:=by rw[SO,Q2];rfl
  rm:=h.rm.SL λc u e g=>by
   rcases g with ε|⟨zs,ε⟩
   .exact f e h.e4
   .exact a c zs e}
end
def KF QGk(x:υ):b' QH'=b' l++[V.QB (x:ψ)]:=by simp[b']
def cJ QFw QKj{x y:a}QDJ(h:l[i]?<*y):QH'[i]?<*y:=by
 rw[QS (m8 h).1];show h
def L9 QFw QKj{x y:a}(b:i<l.β)(h:QH'[i]?<*y):l[i]?<*y:=by
 rw[QS b]at h;show h
def Ej QFw QKj{x y:a}(e:QH'[i]?<*y):l[i]?<*y\/(i=l.β/\y=x):=by
 by_cases b:i<l.β
 .rw [QS b]at e;show .RB e
 .rw [Qp (Ci b)]at e;have:i-l.β=0:=by
   have:=(m8 e).1;simp at this;omega
  rw[this]at e;show .RF (GN this b,(χ.δ.Tx e).QU)
def ng(h:k∈ts):DW ts k=δ (ts.QJ k)/\ts[ts.QJ k]?<*k:=(QC h,by rw[h_ (QE h),SE])
structure Cw QF1(L s0:LN)QTd(U ks ws R:LL)Zg QUT:Prop where
 bf:Bf g L s0 ks ws R.β q
 le:R.β≤ks.β
 ways:Cv g L.β ks R
 bl:B.β=R.β
 mks:∀QPT QES QPS,ks[r]?<*k->B[r]?<*b->b=mk k
 VJ:∀k∈ks,k∈U
 left:BG U ks+ks.β≤U.β
 wl:∀a∈ws,a.β≤ks.β
abbrev Ek QF1(ks:LL)QBM(r:LN)QUT:Prop:=r.β=q/\∀(q' x:υ)QES,ks[n]?<*k->r[q']?<*x->ks[x]?<*g k q'
section
variable{g:LN->υ->LN}{L s0:LN}{mk:LN->Ω}{U ks ws R:LL}{B:γ Ω}{q n:υ}{r a k0:LN}
def Cw.WG(c:s0∈U):Cw g L s0 mk U [s0] [[]] [] [] 0 where
 bf:=Bf.WG g L s0
 le:=RP _
 ways:=⟨λr d k h=>by simp at h⟩
 bl:=ε
 mks:=λr k b _ h=>by simp at h
 VJ:=λk e=>by rw[wh e];show c
 left:=by
  let h1:=gU (U:=U) (ts:=[]) c (!1);let h2:BG U ([]:LL)≤U.β:=γ.countP_le_length;simp at h1⊢;lia
 wl:=λa f=>by rw[wh f];show RP _
def Cw.old QK_(b:L.Rq)QT2(f:ws[R.β]?<*a)(c:q<L.β)(d:g k0 q∈ks):Cw g L s0 mk U ks ws R B (q+1):=
 {h with bf:=h.bf.old b e f c d}
def Cw.new QK_(j:L.Rq)(d:ks[R.β]?<*k0)(f:ws[R.β]?<*a)(o:q<L.β)(e:g k0 q∉ks)(i:g k0 q∈U):Cw g L s0 mk U (ks++[g k0 q]) (ws++[a++[L.Φ q 0]]) R B (q+1) where
 bf:=h.bf.new j d f o e
 le:=by rw[u4];show LE h.le QKM
 ways:=⟨λr c k h1 h2=>by
  let m:r<ks.β:=LT (m8 h1).1 h.le;let⟨t,s⟩:=h.ways.YO r c k h1 (L9 m h2);show(t,λq x l=>cJ (s q x l))⟩
 bl:=h.bl
 mks:=λr k b h1 h2=>h.mks r k b (L9 (LT (by rw[<-h.bl];show(m8 h2).1) h.le) h1) h2
 VJ:=λk d=>by
  rcases Rr.mp d with z|z
  .exact h.VJ k z
  .rw [wh z];show i
 left:=by
  let h1:=gU (U:=U) (ts:=ks) i e;let h2:=h.left;rw[u4];change BG U (ks++[g k0 q])+(ks.β+1)≤U.β;show II h1 h2
 wl:=λb p=>by
  rw[u4];rcases Rr.mp p with z|z
  .exact LE (h.wl b z) QKM
  .rw [wh z,u4];show υ.add_le_add_right (h.wl a (v7 f)) 1
def Cw.next(h:Cw g L s0 mk U ks ws R B L.β)QT2(d:Ek g ks R.β r L.β):Cw g L s0 mk U ks ws (R++[r]) (B++[mk k0]) 0 where
 bf:=by rw[u4];show h.bf.next
 le:=by rw[u4];show(m8 e).1
 ways:=⟨λi c k h1 h2=>by
  rcases Ej h1 with z|⟨rfl,ε⟩
  .exact h.ways.YO i c k z h2
  .exact (d.1,λq x f=>d.2 q x k h2 f)⟩
 bl:=by rw[u4,u4,h.bl];rfl
 mks:=λi k b h1 h2=>by
  rcases Ej h2 with z|⟨rfl,ε⟩
  .exact h.mks i k b h1 z
  .rw [h.bl,e]at h1;cases h1;rfl
 VJ:=h.VJ
 left:=h.left
 wl:=h.wl
def Ek.Tw:Ek g ks n [] 0:=(1,λq x k _ h=>by simp at h)
def Ek.grow(h:Ek g ks n r q)(c:n<ks.β):Ek g (ks++[x]) n r q:=(h.1,λb y k h1 h2=>cJ (h.2 b y k (L9 c h1) h2))
def Ek.snoc(h:Ek g ks n r q)(d:ks[n]?<*k0)(c:g k0 q∈ks):Ek g ks n (r++[ks.QJ QNB]) (q+1):=by
 refine(by rw[u4,h.1];rfl,λb x k h1 h2=>?_);rcases Ej h2 with z|⟨rfl,ε⟩
 .exact h.2 b x k h1 z
 .rw [d]at h1;cases h1;rw[h.1];show(ng c).2
end
abbrev gW QCF QES QUT:LN:=[(W.Φ QQX []).Φ q 0]
abbrev uW QCF:LL:=(γ.Q' W.β).QY λn=>[n]
abbrev mkW Zg QES:Ω:=B.Φ QQX μ
def rG:[n]∈uW W↔n<W.β:=by
 unfold uW;rw[Su];constructor
 .rintro⟨m,a,e⟩;injection e with e;rw[<-e];show RN.mp a
 .exact λh=>(n,RN.Sj h,1)
def rH QCF:(uW W).β=W.β:=by rw[uW,j',RC]
def lQ(h:k∈uW W):∃n,k=[n]/\n<W.β:=by
 unfold uW at h;let⟨n,a,e⟩:=Su.mp h;show(n,e.QU,RN.mp a)
def OI QIb:∀k∈uW W,∀q,q<L.β->gW W k q∈uW W:=λk c q a=>by
 let⟨n,ε,b⟩:=lQ c;refine rG.Sj ?_;change (W.Φ n []).Φ q 0<W.β;let e:W.Φ n []=W[n]:=by rw[n0,h_ b];rfl
 rw[e];let⟨h1,h2⟩:=d.YO W[n] (RY b);let f:W[n].Φ q 0=W[n][q]'(by rw[h1];show a):=by rw[n0,h_ (by rw[h1];show a)];rfl
 rw[f];show h2 _ (RY _)
def dE QPT:∀QJ4 QFZ,w.β=m->ba QJf L [r] w=[SZ L W r w]:=by
 intro m;induction m with
 |V5=>
  intro w hw;rw[Sq.mp hw];rfl
 |Vf m a=>
  intro w hw;obtain⟨c,v,ε⟩:∃c v,w=v++[c]:=(w.Ys (by intro z;rw[z]at hw;cases hw),w.Xw,(Se _).QU);rw[LU,a v QCl,Ef];rfl
def v_.Uk QNm Z7:v_ H' m L W B:=by
 let⟨d,mk,c,h1,h2,j,g,f⟩:=h;show(d,mk,c,s _ _ h1,s _ _ h2,s _ _ j,g,λi r e=>let⟨ws,a,b⟩:=f i r e;(ws,a,s _ _ b))
def FN(s:BY P0 H H')(a:AH H P0 Rt):∀b xs,H b<*.RJ xs->H' b<*.RJ xs:=λb xs e=>s b _ (λz=>by
 let⟨ps,c,_⟩:=a;rw[z,c]at e;cases e) e
def JN(a:BY P0 H g)(b:BY P0 g f):BY P0 H f:=λc o d e=>b c o d (a c o d e)
def sH QA5:BY P0 H H':=λb o _ e=>s b o e
def vo QE'(h:n≠0):decide (V.QB (n:ψ)=V.QB 0)=μ:=QN λz=>h (ψ.ofNat_inj.mp (V.QB.Tx z))
def jL:Ve (#[]:Ry η).Qq:=trivial
def GE(h:AH H P0 Rt)QA5:AH H' P0 Rt:=by
 let⟨ps,c,h2,d⟩:=h;show(ps,s _ _ c,h2,λx b=>(d x b).imp id λa=>by let⟨g,f,e⟩:=a;show(g,f,s _ _ e))
end RA
namespace L2
open PySem.Spec PyProof.Rows
section
variable{X:Cx}
def re(w:X.Wm=ο):B6 X (.Qu "max") (λxs H Q=>∃(a:θ)(ns:γ ψ),xs=[V.ν a]/\H a=δ (.QM QAo)/\0<ns.β/\∀M∈ns,QS5->Q (.QB M) H):=by
 intro d s A H xs us Q I r h;let⟨a,ns,ε,y,g,q⟩:=h;let⟨B,ε,n⟩:=B7 r;cases n;let⟨Rc,m,p,hz⟩:=I.U0 (lb.of y);let l:=kF m;let i:s.π.IsList a Rc.Θ:=p.UZ;let⟨xs,e⟩:=l.allInts.items;let b:ns=xs.Qq.QY Z9:=by rw[<-l.numsOf,<-nums_intItems,<-e]
 let hsz:0<xs.Qw:=by
  rw[b,j',Ui]at g;show g
 rw[e]at i;refine max_intList (I.ok.hd w) i hsz λv h' C o u=>?_;let⟨t,ε⟩:=intItems_at o;let⟨h1,h2⟩:=argBest_gt (numAt xs) (xs.Qw-1);refine(.QB _,H,I.WE u,(t,1),q _ ?_ λx f=>?_)
 .rw [b,numAt_eq];show Ξ.getD_mem (by rw[j',Ui];show Ld hsz h1)
 .rw [b]at f;let⟨j,k⟩:=RQ.mp f;let c:=(m8 k).1;rw[j',Ui]at c;have:=h2 j (!6);let z:numAt xs j=x:=by
   rw[numAt_eq,n0,k];rfl
  rw[<-z];show this
inductive rIndexI(x:V)ZF ZC ZV:Prop
 |mk (l:θ) QFA (n:ψ) QIZ (_:vs=[.QB n]) (_:H l<*.QM QAo) (_:n∈ns) (_:Q (.QB (ns.QJ n:υ)) H)
def qC:LB X "list.index" rIndexI:=by
 intro D s U H x vs v us Q I L M h;let⟨l,bs,d,ε,ε,G,R,q⟩:=h;cases L;let⟨u,ε,N⟩:=M.Uo;let⟨J,ε⟩:=(show ∃t,u=η.QB d t from N);let⟨z,Rc,n,r,W,e⟩:=I.lstM G;let f:Rc.β=bs.β:=by rw[<-r.β,j']
 let o:bs.QJ d<bs.β:=QE R;let k:∀QEO(A:j<Rc.Θ.Qw),∃(g:j<bs.β)(t:Tok),Rc.Θ[j]=.QB bs[j] t:=λj A=>by
  let g:j<bs.β:=by simpa[f]using A
  refine(g,3);let⟨a,T,O⟩:=r.get (i:=j) (x:=.QB bs[j]) (by rw[nq,h_ g];rfl);let⟨t,ε⟩:=(show ∃t,a=η.QB bs[j] t from O);let⟨_,q⟩:=m8 T;show(t,by simpa using q)
 let B:((bs.QJ d:υ):ψ)<2^63-1:=by
  let S:(bs.QY V.QB).β≤Λ:=(I.QM G).XL.XL.2.2;rw[j',Sw]at S;show IQ o S
 refine call_meets F.VX (_,e,1) F.entry_list_index QLy (Sa.list_indexAt l Rc.Θ n ζ #[] (.QB d J) (λy=>match y with|.QB b _=>b==d|_=>μ) (bs.QJ d) QPk B ?_ ?_) (e,3,QB6)
 .obtain ⟨g,t,w⟩:=k (bs.QJ d) QPk;rw[w];change (bs[bs.QJ d]==d)=ο;rw[SE g];show T_ d
 .intro m C E;let⟨g,t,w⟩:=k m C;rw[w];change (bs[m]==d)=μ;by_cases p:bs[m]=d
  .have:=RA.HP (l:=bs) (c:=d) (i:=m) (by rw[h_ g,p]);lia
  .exact Rg.Sj p
 .intro y P;let⟨j,A,ε⟩:=Ry.Y7.mp P;let⟨g,t,w⟩:=k j A;rw[w];show Sa.U6.int_int _ _ _ _
def iM ZZ(b:PE X e a)(c:Uj e f X.QA QFJ=SR e X.QA)(d:(X.K=K)>>>4):PE X QF3 (Nw K a f):=by
 subst d;show Bt b c
def qg{c a:T6}(K:Qt)(i:PE X o to)(j:PA X [e] t)(k:(X.K=K)>>>4)(f:(Uj o "index" X.QA (SR o X.QA)=SR o X.QA)>>>4)(g:(((SJ a (Ψ [e] X.QA)).Tk (λx=>!x.1)&&(Ya a (WP [] X.QA)).Tk (λx=>x.1.Vg)
   && decide ([e].β+([]:γ Xe).β+(if ([]:γ Xe).Xd then 0 else 1)<30))=ο)>>>4)(d:((c.endLine==a.XI)=ο)>>>4)(h:(Ψ [e] X.QA=(μ,SR e X.QA,)::Ψ [] X.QA)>>>4)(b:((SJ a (Ψ [] X.QA)).VA (·.1)=μ)>>>4):PE X (.Tl (.TH o "index" c) [e] [] a) (BK K "list" rIndexI to t):=by
 subst k;show Bn XS VX Y4 qC i j f g d h b
end
end L2
namespace RA
open L2
abbrev yw ZC QDf QCF:Prop:=∀Zi(r:θ),Ta[i]?<*r->∃ws,W[i]?=δ ws/\∃o,(o=.QM QM1\/o=.RJ QM1)/\H r<*o
def uc:∀{ns:LN},0<ns.β->∃M∈ns,∀x∈ns,x≤M
 |[],h=>by simp at h
 |[a],_=>(a,!1,λx c=>by rw[wh c];show QD _)
 |a::b::r,_=>by
  let⟨M,h1,h2⟩:=uc (ns:=b::r) (!1);by_cases h:a≤M
  .exact (M,QP _ h1,λx c=>by
    rcases QW.mp c with ε|z
    .exact h
    .exact h2 x z)
  .exact (a,!1,λx c=>by
    rcases QW.mp c with ε|z
    .exact QD _
    .have:=h2 x z;lia)
def rD QBM:∀QGk,(zs l).QJ (n:ψ)=l.QJ n
 |[]=>rfl
 |x::l=>by
  change ((x:ψ)::zs l).QJ (n:ψ)=_;rw[Yq,Yq,rD n l];by_cases h:x=n
  .rw [h];simp
  .rw [Rg.Sj h,Rg.Sj (λe=>h (ψ.ofNat_inj.mp e))]
end RA
namespace RA
section
variable{κ:Type}[R_ κ]
def KG:∀QKN,∃r,aZ b ks=b++r
 |[],b=>([],(UA b).QU)
 |a::ks,b=>by
  change ∃r,aZ (if a∈b then b else b++[a]) ks=b++r;by_cases h:a∈b
  .rw [QC h];show KG ks b
  .rw [Fr h];let⟨r,e⟩:=KG ks (b++[a]);show([a]++r,by rw[e,Tt])
def jo:∀QKN,b.Rq->(aZ b ks).Rq
 |[],_,h=>h
 |a::ks,b,h=>by
  change (aZ (if a∈b then b else b++[a]) ks).Rq;by_cases c:a∈b
  .rw [QC c];show jo ks b h
  .rw [Fr c];refine jo ks _ ?_;rw[γ.Ym];refine(h,!1,λx d y f e=>?_);rw[wh f]at e;rw[e]at d;show c d
def vm QHh:(wm ks).Rq:=jo ks [] γ.nodup_nil
def tW QFv(h:0<ks.β):(aF ks).Φ 0 0=0:=by
 cases ks with
 |Tw=>simp at h
 |Rx k ks=>
  rw[Jy (k:=k) ε];let⟨r,e⟩:=KG ks [k];have:wm (k::ks)=[k]++r:=by
   change aZ (if k∈[]then[]else[]++[k]) ks=_;rw[Fr (!1)];show e
  rw[this];simp
def gM QFv{M j:υ}(h:M∈aF ks)(e:j≤M):j∈aF ks:=by
 let⟨k,d,ε⟩:=Su.mp h;let a:j<(wm ks).β:=Rw e (QE (Wf.Sj d));let c:(wm ks)[j]∈ks:=Wf.mp QOj;refine Su.Sj ((wm ks)[j],c,3);let b:=vm ks;let h2:(wm ks).QJ (wm ks)[j]<(wm ks).β:=QE QOj;show(getElem_inj b).mp (SE h2)
end
section
variable{L:LN}{W:LL}{B:γ Ω}{k:υ}
def L_ QAA:(Rd W B k).Φ 0 0=0:=by
 cases k with
 |V5=>show tW (by rw[h.bl];show h.n1)
 |Vf k=>show tW (by rw[Cq];show h.n1)
def pD(h:M∈Rd W B k)(a:j≤M):j∈Rd W B k:=by
 cases k with
 |V5=>show gM h a
 |Vf k=>show gM h a
end
abbrev Ap(R:LL)(S0:LN)QJ4:LL:=(γ.Q' m).QY λj=>(R.Φ QOv []).QY λg=>S0.Φ g 0
abbrev Cy QKf(S0:LN)QJ4:γ Ω:=(γ.Q' m).QY λj=>Bm.Φ QOv μ
def ib(h:j<m):(Ap R S0 m).Φ j []=(R.Φ QOv []).QY λg=>S0.Φ g 0:=by
 rw[Ap,n0,nq,SI h];rfl
def qR(h:j<m):(Cy Bm S0 m).Φ j μ=Bm.Φ QOv μ:=by
 rw[Cy,n0,nq,SI h];rfl
structure bj(S0:LN)QJ4:Prop where
 RX:0<m
 lt:∀x∈S0,x<m
 Vl:∀j<m,j∈S0
section
variable{L:LN}{R:LL}{Bm:γ Ω}{k m:υ}
def qQ{l:LN}(h:i<l.β):l.Φ i 0∈l:=by
 rw[n0,h_ h];show RY h
def Cd QMq QA7(c:j<m):(Rd R Bm k).QJ j<R.β/\m_ R Bm k QID=j:=by
 let h1:=QE (b.Vl j c);refine(by rw[Dv a]at h1;show h1,3);rw[m_,n0,h_ h1];show SE h1
def mY(c:bj ZG m)QA7(b:r<R.β):m_ R Bm k r<m:=c.lt _ (qQ (by rw[Dv a];show b))
def Hq QMq QA7:hI L QA_ QGC where
 lt:=a.lt
 n1:=by rw[Ap,j',RC];show b.RX
 n60:=by
  rw[Ap,j',RC];let h1:=fz a (b.Vl (m-1) (by have:=b.RX;show Fj this));have:=a.n60;lia
 bl:=by rw[Cy,Ap,j',j']
 YO:=λws h=>by
  rw[Ap]at h;let⟨j,c,ε⟩:=Su.mp h;let c:=RN.mp c;let⟨h1,h2⟩:=B_ a (Cd b a c).1;refine(by rw[j'];show h1,λx d=>?_);let⟨g,e,ε⟩:=Su.mp d;rw[Ap,j',RC];show mY b a (h2 g e)
def uZ QMq QA7:(Ap R ZG m).β≤R.β:=by
 rw[Ap,j',RC];let h1:=fz a (b.Vl (m-1) (by have:=b.RX;show Fj this));lia
def uY(d:bj ZG m)QA7 QAl(b:r<R.β)(i:c∈L):AE L QA_ QIE c=m_ R Bm k (AE L R r c):=by
 let g:L.QJ c<L.β:=QE i;let f:=mY d a b;let⟨h,j⟩:=Cd d a f;let p:m_ R Bm (k+1) QBp=m_ R Bm (k+1) r:=by
  change (Rd R Bm (k+1)).Φ _ 0=(Rd R Bm (k+1)).Φ _ 0;rw[st];show j
 let o:=((ED a h b).mp p).2 _ g;unfold AE;rw[ib f];let e:L.QJ c<(R.Φ QBp []).β:=by rw[(B_ a h).1];show g
 rw[n0,nq,h_ e];change (Rd R Bm k).Φ _ 0=_;let n:Tf R QBp QAV=(R.Φ QBp [])[L.QJ c]:=by
  rw[Tf,n0 (l:=R.Φ _ []),h_ e];rfl
 rw[<-n];show o
def GF(e:bj ZG m)QA7 QAl:∀{w:LN}{r:υ},r<R.β->QAS->SZ L QA_ QIE w=m_ R Bm k (SZ L R r w)
 |[],_,_,_=>rfl
 |c::w,r,b,hw=>by
  let f:c∈L:=hw c (!1);change SZ L QA_ (AE L QA_ QIE c) w=m_ R Bm k (SZ L R (AE L R r c) w);rw[uY e a st b f];show GF e a st (BA a b (QE f)) λd g=>hw d (by simp[g])
def JO(c:bj ZG m)QA7(b:r<R.β):(Cy Bm ZG m).Φ QIE μ=Bm.Φ r μ:=by
 let d:=mY c a b;let⟨e,f⟩:=Cd c a d;rw[qR d];show(Jz a e b).mp (Kr a e b (RP k) f)
def Ma QMq QA7 QAl QEi:(Cy Bm ZG m).Φ (SZ L QA_ 0 w) μ=Bm.Φ QOw μ:=by
 let e:m_ R Bm k 0=0:=L_ a;have:=GF b a st a.n1 hw;rw[e]at this;rw[this];show JO b a (B9 a a.n1 hw)
end
section
variable{L:LN}{W:LL}{B:γ Ω}{ks ws R:LL}{Bm:γ Ω}
def pJ(b:hI L W B)(k:Bf QJf L [0] ks ws ks.β 0)QB0(c:R.β=ks.β)QGt(f:ks.β≤W.β):hI L R Bm where
 lt:=b.lt
 n1:=by rw[c];show(m8 k.t0).1
 n60:=by rw[c];show LE f b.n60
 bl:=bl
 YO:=λr h=>by
  let⟨i,e⟩:=RQ.mp h;let d:i<ks.β:=by rw[<-c];show(m8 e).1
  let⟨h1,h2⟩:=a.YO i r _ e (h_ d);refine(h1,λx g=>?_);let⟨q,j⟩:=RQ.mp g;rw[c];show(m8 (h2 q x j)).1
def cT(j:hI L W B)(p:Bf QJf L [0] ks ws ks.β 0)QB0(i:R.β=ks.β):∀QBM QFZ,w.β=n->QAS->ks[SZ L R 0 w]?<*[SZ L W 0 w]:=by
 intro n;induction n with
 |V5=>
  intro w hw _;rw[Sq.mp hw];show p.t0
 |Vf n g=>
  intro w hw f;obtain⟨c,v,ε⟩:∃c v,w=v++[c]:=(w.Ys (by intro z;rw[z]at hw;cases hw),w.Xw,(Se _).QU);let h1:=g v QCl λx h=>f x (by simp[h]);let b:L.QJ c<L.β:=QE (f c (!1));let e:SZ L R 0 v<R.β:=by rw[i];show(m8 h1).1
  let⟨d,o⟩:=a.YO _ _ _ (h_ e) h1;let m:=o QAV _ (h_ (by rw[d];show b));rw[Ef,Ef];let k:AE L R (SZ L R 0 v) c=R[SZ L R 0 v][L.QJ c]'(by rw[d];show b):=by
   unfold AE;rw[n0 (l:=R),h_ e];change (R[SZ L R 0 v]).Φ _ 0=_;rw[n0,h_ (by rw[d];show b)];rfl
  rw[k];show m
def lO(e:hI L W B)(h:Bf QJf L [0] ks ws ks.β 0)QB0(g:R.β=ks.β)QGt(d:∀QPT QES QPS,ks[r]?<*k->Bm[r]?<*b->b=mkW B k)QEi:Bm.Φ QOw μ=B.Φ (SZ L W 0 w) μ:=by
 let h1:=cT e h a g _ w ε hw;let f:SZ L R 0 w<Bm.β:=by rw[bl,g];show(m8 h1).1
 rw[n0,h_ f];show d _ _ _ h1 (h_ f)
end
inductive DX Zp QCF Zg(W':LL)QHG:Prop
 |mk (ks ws R:LL) QKf (k m:υ) (_:Bf QJf L [0] ks ws ks.β 0) (_:Cv QJf L.β ks R) (_:R.β=ks.β) (_:Bm.β=R.β) (_:(∀QPT QES QPS,ks[r]?<*k->Bm[r]?<*b->b=mkW B k)) (_:(∀k∈ks,k∈uW W)) (_:ks.β≤W.β) QI7 (_:Rd R Bm (k+1)=Rd R Bm k) (_:bj ZG m) (_:W'=Ap R ZG m) (_:B'=Cy Bm ZG m)
def DX.VB(h:DX L W B c d):hI L c d:=by
 let⟨ks,ws,R,Bm,k,m,_,_,_,_,_,_,_,a,_,b,ε,ε⟩:=h;show Hq b a
def DX.Sr(h:DX L W B c f):c.β≤W.β:=by
 let⟨ks,ws,R,Bm,k,m,_,_,e,_,_,_,d,a,_,b,ε,ε⟩:=h;have:=uZ b a;lia
def DX.takes(h:DX L W B j l)(b:hI L W B)QEi:l.Φ (SZ L j 0 w) μ=B.Φ (SZ L W 0 w) μ:=by
 let⟨ks,ws,R,Bm,k,m,i,a,g,bl,d,_,n,e,st,f,ε,ε⟩:=h;rw[Ma f e st hw];show lO b i a g bl d hw
end RA
namespace L2
open PySem.Spec PyProof.Rows
def ik(C:X.Wm=ο):B6 X (.Qu "all") (λxs H Q=>∃(a:θ)(bs:γ Ω),xs=[V.ν a]/\H a=δ (.QM QOr)/\(∀b∈bs,b=ο)/\Q QMx H):=by
 intro k s J H xs us Q I r h;let⟨a,bs,ε,E,D,q⟩:=h;let⟨L,ε,z⟩:=B7 r;cases z;let⟨Rc,j,p,hz⟩:=I.U0 (lb.of E);let f:s.π.IsList a Rc.Θ:=p.UZ;let d:a<s⁻¹:=by
  let⟨o,e,_⟩:=f;show lt_size e
 refine call_all_walk (Vi f ?_);refine(s⁻¹,7,7,_,λ_=>ο,1,Walks.U0 (BT:=X.BT) (w:=X.w) (A:=X.A.Xq) QQL s⁻¹ a (RH d) Rc.Θ,(QBB,f.at λo e=>ol _ e),3,λh' t B=>?_)
 .intro i v s' M N l F;let m:i<bs.β:=by
   have:=(Ry.Sl.mp l).1;let h2:=j.β;rw[j']at h2;simp at this;show AY this h2
  let⟨y,G,u⟩:=j.get (i:=i) (x:=.bl bs[i]) (by rw[nq,h_ m];rfl);have:v=y:=by
   let c:Rc.Θ[i]?<*v:=l;rw[γ.W7,G]at c;show(χ.δ.Tx c).QU
  subst this;cases u;let g:=D _ (RY m);rw[g];show To F
 .let e:(γ.Q' Rc.Θ.Qw).Tk QOx=ο:=by simp
  rw[e];show(.bl ο,H,I.WE (t':=t) λb o n=>B b o (by simp;show RH (lt_size n)) (ol _ n),1,q)
end L2
namespace RA
section
variable{κ:Type}[R_ κ]
def lh:∀(a b c:γ κ),aZ c (a++b)=aZ (aZ c a) b
 |[],_,_=>rfl
 |x::a,b,c=>lh a b _
def dQ QFv{i j:υ}(o:i<ks.β)(e:j<(aF ks).Φ i 0):∃i1,i1<i/\(aF ks).Φ i1 0=j:=by
 let d:ks[i]?<*ks[i]:=h_ o;rw[Jy d]at e;let⟨r,l⟩:=KG (ks.Uq (i+1)) QRm;let f:wm ks=wm QAz++r:=by
  have:=lh QAz (ks.Uq (i+1)) [];rw[Vt]at this;show this.ξ l
 let m:ks[i]∈ks.Rp (i+1):=by
  rw[RQ];show(i,by rw[γ.YL,QC (Rv i)];show d)
 let b:ks[i]∈wm QAz:=Wf.Sj m;rw[f,Bz b]at e;let n:=QE b;let a:j<(wm QAz).β:=TL e n;let⟨i1,c⟩:=RQ.mp (Wf.mp QOj);let h1:i1<i+1:=by
  have:=(m8 c).1;rw[S6]at this;lia
 rw[γ.YL,QC h1]at c;let k:=vm QAz;let g:(wm QAz).QJ QRm[j]=j:=by
  let h2:(wm QAz).QJ QRm[j]<(wm QAz).β:=QE QOj;show(getElem_inj k).mp (SE h2)
 let q:(wm ks).QJ QRm[j]=j:=by
  rw[f,Bz QOj];show g
 refine(i1,3,by rw[Jy c];show q);by_cases h:i1=i
 .rw [h,d]at c;let p:=χ.δ.Tx c;rw[<-p]at g;lia
 .exact Fp h1 h
end
section
variable{L:LN}{R:LL}{Bm:γ Ω}{k m:υ}
def vO QA7(c:i<R.β)(b:j<m_ R Bm k i):∃i1,i1<i/\m_ R Bm k i1=j:=by
 cases k with
 |V5=>show dQ (by rw[a.bl];show c) b
 |Vf k=>show dQ (by rw[Cq];show c) b
def oV(f:bj ZG m)(c:hI L R Bm)(d:a<b)(g:b<m):(Rd R Bm k).QJ a<(Rd R Bm k).QJ b:=by
 let⟨j,h⟩:=Cd f c g;let⟨i1,h1,h2⟩:=vO c j (by rw[h];show d);refine Rw (HP (i:=i1) ?_) h1;let e:i1<(Rd R Bm k).β:=by rw[Dv c];show GQ h1 j
 rw[h_ e];rw[m_,n0,h_ e]at h2;show R7 δ h2
def yo QA7(c:i<R.β):(Rd R Bm k).QJ (m_ R Bm k i)≤i:=by
 let b:i<(Rd R Bm k).β:=by rw[Dv a];show c
 refine HP ?_;rw[m_,n0,h_ b];rfl
def KH QA7:∀QKb{r s:υ},r<R.β->s<R.β->(∀u:LN,ZK->Bm.Φ (SZ L R r u) μ=Bm.Φ (SZ L R s u) μ)->m_ R Bm k r=m_ R Bm k s
 |0,r,s,d,b,h=>(Jz a d b).Sj (h [] λc g=>by simp at g)
 | k+1,r,s,d,b,h=>(ED a d b).Sj (KH a k d b h,λi f=>KH a k (BA a d f) (BA a b f) λu j=>by
   let e:=h (L[i]::u) λc g=>by
    rcases QW.mp g with ε|z
    .exact RY f
    .exact j c z
   rw[Cs,Cs,FH,FH,HN a.lt.nd f]at e;show e)
end
def DX.unlike(h:DX L W B f q)(o:r<f.β)(n:s<f.β)(e:∀u:LN,ZK->q.Φ (SZ L f r u) μ=q.Φ (SZ L f s u) μ):r=s:=by
 let⟨ks,ws,R,Bm,k,m,x,j,w,bl,t,_,v,a,st,b,ε,ε⟩:=h;rw[Ap,j',RC]at o n;let⟨i,l⟩:=Cd b a o;let⟨g,s2⟩:=Cd b a n;have:=KH a k i g λu d=>by
  let p:=e u d;rw[<-l,<-s2,GF b a st i d,GF b a st g d,JO b a (B9 a i d),JO b a (B9 a g d)]at p;show p
 rw[l,s2]at this;show this
section
variable{L:LN}{W:LL}{B:γ Ω}{ks ws R:LL}
def jd QNo QTi(c:l.Rq){i j:υ}{a:b}(e:l[i]?<*a)(d:l[j]?<*a):i=j:=by
 let⟨h1,g⟩:=m8 e;let⟨h2,f⟩:=m8 d;show(getElem_inj c).mp (g.ξ f.QU)
def pI QIb(b:Bf QJf L [0] ks ws ks.β 0)QB0(f:R.β=ks.β)QHu:QAS/\SZ L R 0 w=i:=by
 let e:i<ks.β:=by rw[b.Sr];show(m8 hw).1
 let⟨l1,l2⟩:=b.lead i ks[i] w (h_ e) hw;refine(l1,3);let h1:=cT d b a f _ w ε l1;rw[dE 0 _ w ε]at l2;rw[l2]at h1;show jd b.nd h1 (h_ e)
def lP QIb(e:Bf QJf L [0] ks ws ks.β 0)QB0(l:R.β=ks.β)QHu(f:∀c∈v,c∈L)(k:SZ L R 0 v=i):zg L v w=μ:=by
 let⟨j,b,h,g,m⟩:=e.told d.lt.nd v _ ε f;rw[dE 0 _ v ε]at h;let h1:=cT d e a l _ v ε f;rw[k]at h1;have:j=i:=jd e.nd h h1;rw[this,hw]at g;cases g;show m
end
structure vT Zp(W':LL)QPl:Prop where
 Xm:∀j,j<W'.β->(∀c∈v j,c∈L)/\SZ L W' 0 (v j)=j
 lt:∀i j,i<j->j<W'.β->zg L (v i) (v j)=ο
 least:∀u:LN,ZK->zg L u (v QNC)=μ
def DX.firsts(h:DX L W B H J)(p:hI L W B):∃v,vT L H v:=by
 let⟨ks,ws,R,Bm,k,m,q,d,x,bl,D,_,I,a,st,n,ε,ε⟩:=h;let f:(Ap R ZG m).β=m:=by rw[Ap,j',RC]
 let s:ws.β=R.β:=by rw[x,q.Sr]
 let b:∀QDJ,i<R.β->ws[i]?<*ws.Φ i []:=λ{i}E=>by
  rw[n0,h_ (by rw[s];show E)];rfl
 let l0:m_ R Bm k 0=0:=L_ a;let A:∀{u:LN},ZK->SZ L QA_ 0 u=m_ R Bm k (SZ L R 0 u):=λ{u}l=>by
  have:=GF n a st a.n1 l;rw[l0]at this;show this
 refine(λj=>ws.Φ QID [],(λj g=>?_,λi j w g=>?_,λu l=>?_))
 .rw [f]at g;let⟨G,F⟩:=Cd n a g;let⟨y,C⟩:=pI p q d x (b G);refine(y,3);rw[A y,C];show F
 .rw [f]at g;let o:=oV n a w g;show q.srt _ _ _ _ o (b (TL o (Cd n a g).1)) (b (Cd n a g).1)
 .rw [A l];let r:=B9 a a.n1 l;let t:=yo (k:=k) a r;let h1:=lP p q d x (b r) l ε;rcases υ.lt_or_eq_of_le t with z|z
  .let h2:=q.srt _ _ _ _ z (b (TL z r)) (b r);cases e:zg L u QAN with
   |μ=>rfl
   |ο=>rw[AG e h2]at h1;cases h1
  .change zg L u QAN=μ;rw[z];show h1
def mD{rs:LN}(o:∀(i j a b:υ),i<j->rs[i]?<*a->rs[j]?<*b->a<b)(d:∀r∈rs,r<m)(c:∀j<m,j∈rs):rs.β=m/\∀(i r:υ),rs[i]?<*r->r=i:=by
 let l:∀(i r:υ),rs[i]?<*r->i≤r:=by
  intro i;induction i with
  |V5=>show λr _=>RP r
  |Vf i f=>
   intro r e;let g:i<rs.β:=TL (Rv i) (m8 e).1;let h1:=f _ QOh;let h2:=o i (i+1) _ _ (Rv i) QOh e;show Jd h2 h1
 let k:∀(n i r:υ),i<n->rs[i]?<*r->r=i:=by
  intro n;induction n with
  |V5=>show λi r h=>QG h (XG i)
  |Vf n f=>
   intro i r g e;let h1:=l i r e;let q:=d r (v7 e);let⟨p,hp⟩:=RQ.mp (c i (Fn q h1));let h2:=l p i hp;rcases UD p i with z|z|z
   .have:=f p i (!6) hp;lia
   .rw [z,e]at hp;show χ.δ.Tx hp
   .lia
 refine(3,λi r e=>k (i+1) i r (Rv i) e);rcases UD rs.β m with z|z|z
 .obtain ⟨p,hp⟩:=RQ.mp (c rs.β z);let h1:=(m8 hp).1;have:=k (p+1) p _ (Rv p) hp;lia
 .exact z
 .let e:=h_ z;have:=k (m+1) m _ (Rv m) e;let h2:=d _ (RY z);lia
structure Az Zp QCF Zg QPl:Prop where
 VB:hI L W B
 fs:vT L W v
 un:∀{r s:υ},r<W.β->s<W.β->(∀u:LN,ZK->B.Φ QJb μ=B.Φ QJc μ)->r=s
def DX.canon(h:DX L W B d g)(c:hI L W B):∃v,Az L d g v:=by
 let⟨v,f⟩:=h.firsts c;show(v,h.VB,f,λb a e=>h.unlike b a e)
def u6 Zp QCF QPT(a b:LN):SZ L W r (a++b)=SZ L W (SZ L W r a) b:=by
 unfold SZ;rw[γ.Yu]
section
variable{L:LN}{W1 W2:LL}{B1 B2:γ Ω}{v1 v2:υ->LN}
def Az.move(l:Az L W1 B1 v1)(d:Az L W2 B2 v2)QAE(g:∀c∈a,c∈L)(f:∀c∈b,c∈L)(e:SZ L W1 0 a=SZ L W1 0 b):SZ L W2 0 a=SZ L W2 0 b:=by
 refine d.un (B9 d.VB d.VB.n1 g) (B9 d.VB d.VB.n1 f) λu j=>?_;let o:∀{x:LN},(∀c∈x,c∈L)->∀c∈x++u,c∈L:=λi c k=>by
  rcases Rr.mp k with z|z
  .exact i c z
  .exact j c z
 rw[<-u6,<-u6,<-h _ (o g),<-h _ (o f),u6,u6,e]
def Az.word(e:Az L W1 B1 v1)(a:Az L W2 B2 v2)QAE(g:j<W1.β):v2 QIj=v1 j:=by
 let⟨b,m⟩:=e.fs.Xm j g;let i:=B9 a.VB a.VB.n1 b;let⟨d,l⟩:=a.fs.Xm _ i;let l2:=a.fs.least (v1 j) b;let k:SZ L W1 0 (v2 QIj)=j:=by
  rw[a.move e (λu f=>(h u f).QU) d b l];show m
 let l1:=e.fs.least _ d;rw[k]at l1;rcases LS b d with z|z|z
 .rw [z]at l2;cases l2
 .exact z.QU
 .rw [z]at l1;cases l1
def Cz(f:Az L W1 B1 v1)(e:Az L W2 B2 v2)QAE:W1.β=W2.β/\∀j<W1.β,SZ L W2 0 (v1 j)=j:=by
 let g:=mD (rs:=(γ.Q' W1.β).QY λj=>SZ L W2 0 (v1 j)) (m:=W2.β) (λi j a b l t p=>?_) (λr x=>?_) (λj d=>?_)
 .refine (by have:=g.1;rwa [j',RC]at this,λj d=>?_);refine g.2 j _ ?_;rw[nq,SI d];rfl
 .let d:j<W1.β:=by have:=(m8 p).1;rwa [j',RC]at this
  let n:i<W1.β:=TL l d;rw[nq,SI n]at t;rw[nq,SI d]at p;cases t;cases p;let h1:=f.fs.lt i j l d;let v:=B9 e.VB e.VB.n1 (f.fs.Xm i n).1;rcases UD (SZ L W2 0 (v1 i)) QIj with z|z|z
  .exact z
  .let o:=f.word e h n;let q:=f.word e h d;rw[z]at o;rw[<-o,q]at h1;rw[Kx h1]at h1;cases h1
  .let h2:=e.fs.lt _ _ z v;rw[f.word e h n,f.word e h d]at h2;rw[Kx h2]at h1;cases h1
 .obtain ⟨j,d,ε⟩:=Su.mp x;show B9 e.VB e.VB.n1 (f.fs.Xm j (RN.mp d)).1
 .obtain ⟨s,q⟩:=e.fs.Xm j d;let k:=B9 f.VB f.VB.n1 s;refine Su.Sj (SZ L W1 0 (v2 j),RN.Sj k,3);let⟨w,o⟩:=f.fs.Xm _ k;change SZ L W2 0 (v1 (SZ L W1 0 (v2 j)))=j;rw[f.move e h w s o];show q
def vw(a:Az L W1 B1 v1)(g:Az L W2 B2 v2)QAE:W1=W2/\B1=B2:=by
 let⟨p,x⟩:=Cz a g h;let k:∀{u:LN},ZK->SZ L W2 0 u=SZ L W1 0 u:=λ{u}n=>by
  let f:=B9 a.VB a.VB.n1 n;let⟨b,d⟩:=a.fs.Xm _ f;rw[<-x _ f];show(a.move g h b n d).QU
 refine(YC p λj h1 h2=>?_,YC (by rw[a.VB.bl,g.VB.bl,p]) λj h1 h2=>?_)
 .obtain ⟨b,d⟩:=a.fs.Xm j h1;let⟨r,C⟩:=a.VB.YO _ (RY h1);let⟨A,B⟩:=g.VB.YO _ (RY h2);refine YC (by rw[r,A]) λq m v=>?_;let o:q<L.β:=by rw[<-r];show m
  let i:∀c∈v1 j++[L[q]],c∈L:=λc y=>by
   rcases Rr.mp y with z|z
   .exact b c z
   .rw [wh z];show RY o
  let e:=k i;let w:=HN a.VB.lt.nd o;rw[Ef,Ef,k b,d,FH,FH,w]at e;let t:Tf W1 j q=W1[j][q]:=by
   rw[Tf,n0 (l:=W1),h_ h1];change (W1[j]).Φ q 0=_;rw[n0,h_ m];rfl
  let s:Tf W2 j q=W2[j][q]:=by
   rw[Tf,n0 (l:=W2),h_ h2];change (W2[j]).Φ q 0=_;rw[n0,h_ v];rfl
  rw[<-t,<-s];show e.QU
 .let f:j<W1.β:=by rw[<-a.VB.bl];show h1
  let⟨b,d⟩:=a.fs.Xm j f;let e:=h _ b;rw[k b,d,n0,n0,h_ h1,h_ h2]at e;show e
end
end RA
namespace L2
open PySem.Spec PyProof.Rows
def xU QNo[R_ b](d:b)(xs ys:γ b):((γ.Q' QS6).Tk (λj=>decide (xs.Φ j d=ys.Φ j d))&&xs.β==ys.β)=decide QQT:=by
 by_cases a:xs.β=ys.β
 .let c:(xs.β==ys.β)=ο:=by simpa using a
  rw[c,Ω.and_true];rw[Ω.TV,RE,decide_eq_true_iff];constructor
  .intro h;refine YC a λj h1 h2=>?_;have:=ST (h j (RN.Sj (!6)));rw[n0,n0,h_ h1,h_ h2]at this;show this
  .rintro ε j e;show Qr ε
 .let c:(xs.β==ys.β)=μ:=by simpa using a
  rw[c,Ω.and_false];show(QN λz=>a (by rw[z])).QU
section
variable{X:Cx}{QF:γ Z_}{σ:St}{H:Hp}{s:ω}
end
end L2
namespace RA
open L2
section
variable{X:Cx}{QF:γ Z_}{σ:St}{H:Hp}{s:ω}
end
end RA
namespace L2
open PySem.Spec PyProof.Rows
def nQ:∀QBN QBq,xs.β=us.β->(∀Zi(x:V)QP6,xs[i]?<*x->us[i]?<*u->af x u)->ae xs us
 |[],[],_,_=>.Tw
 |[],_::_,h,_=>by simp at h
 |_::_,[],h,_=>by simp at h
 |x::xs,u::us,h,k=>.Rx (k 0 x u ε ε) (nQ QB' λi y v a b=>k (i+1) y v (by simpa using a) QIF)
inductive pS ZV ZF QCi:Prop
 |mk QBM (_:vs=[.QB (n:ψ)]) (_:n≤2100) (_:∀l,H1 l=ζ->Q QFM (QO H1 l (.QM QI8)))
abbrev rV QTZ:TE:=λσ H Q=>ta σ H (pS Q)
def iL{p j RX d:T6}(S:X.Wm=ο)(A:Gl X "list")(y:X.mg "list"=ζ)(z:Gl X "range")(v:X.mg "range"=ζ)(T:PA X [a] G)(D:(Ψ [.Tl (.Rn "range" j) [a] [] d] X.QA=[(μ,SR (.Tl (.Rn "range" j) [a] [] d) X.QA,)])>>>4)(r:QHM>>>4):PE X (.Tl (.Rn "list" p) [.Tl (.Rn "range" j) [a] [] d] [] RX) (rV G):=by
 intro g s E H Q I h;refine RT (va I A y WY ?_);refine Sz.Ws.S8 (e:=.Tl (.Rn "range" j) [a] [] d) (XQ:=[]) ?_ D ε;rw[D];change Cl _ _ (spliced ((μ,SR (.Tl (.Rn "range" j) [a] [] d) X.QA,)::SJ RX [])) _ _ s;refine Vn.Yi (RT (va I z v Sz.Ws.boot_range (Sz.Ws.S8 (oh (T d g s E H _ I h) λus s1 B=>?_) r ε)));let⟨vs,H1,C,L,n,U,P,q⟩:=B;subst U;let⟨Z,ε,t,ε⟩:=B7 L;refine call_range_1 ?_;refine Vn.spliced_nil ?_;let hsz:Builtin.Wp.YT 0 (n:ψ) 1=(n:ψ):=by rw[rangeSize_one];split<;>lia
 refine call_list_range (C.ok.hd S) (IsRange.new ..) (small_one G7 G6 D8 (IX P)) hsz (!6) λh' F k c M e f=>?_;obtain⟨l,ε⟩:∃l:γ η,k=l.Θ:=(k.Qq,Ry.toArray_toList.QU);let N:ae QI8 l:=by
  refine nQ (by rw[RA.d_,RC,<-f.1,QZ]) λi x u m O=>?_;let R:i<n:=by have:=(m8 m).1;rwa [RA.d_,RC]at this
  rw[RA.b',nq,SI R]at m;cases m;let⟨J,ε⟩:=f.2 i u (by rw[γ.W7];show O);show(J,!1)
 let Y:=C.X3 (t':=F) (h':=h') (λb o W=>M b o (ol _ W)) (by rw[Tb];show Yo _) (show Aq X.BT X.w _ h' _ (.QM QI8)from(by rw[RA.d_,RC];show nt (LE P (!0)),l,c,N,e));show(.ν _,_,Y,1,q _ (C.S7.SW (by rw[Tb];show Yo _)))
def ig QBN(h:t≤xs.β):Af xs (δ (t:ψ)) ζ=xs.Uq t:=by
 unfold Af;rw[HT.Cn,HT.Dr,υ.min_eq_left h,RI (by rw[WM];show QD _)]
section
variable{X:Cx}{elt UG:SF}{x y:QL}{px py pt RX:T6}{kt:υ}{sc:TB}{wi:TI}{te:TE}{tt:TT}{ifs:γ SF}
abbrev iy ZZ(wi:TI)(tt:TT)QNq:TE:=λσ H Q=>wi σ H λJ H1=>∀D,H1 D=ζ->∃W:υ->υ->γ V->Hp->Prop,
 (∃m,W 0 m [] (QO H1 D (.QM [])))/\∀i m ys H2,W i m ys H2->H2 D=δ (.QM ys)/\((J.Wb i H2/\Q (.ν D) H2)\/(J.go i H2/\ys.β<Λ/\∀x H3,J.yld i H2 x H3->
  ∃p a b,x=.ν p/\pu K H3 p [a,b]/\tt (δ a::δ b::σ) H3 λbo H4=>if bo=ο then te (δ a::δ b::σ) H4 λy H5=>H5 D=δ (.QM ys)/\∃m',m'<m/\W (i+1) m' (ys++[y]) (QO H5 D (.QM (ys++[y])))else ∃m',m'<m/\W (i+1) m' ys H4))
def mZ{st:ω}(Z:υ->ω->Prop)(I:∀k t,Z k t->Cl (KK pg d) B (WD p) (λr o=>match r with
   |ζ=>Rf QQY o
   | δ u=>Cl (KK pg d) B (Y8 m p u) (λ_ A=>Cl (KK pg d) B (Yz m g u) (λ_ w=>
     Cl (KK pg d) B (forIn ifs ο λc r=>if r=ο then do let ok <-isTrue c g (SR c g);pure (Xi.yield ok)else pure (Xi.yield r)) (λi n=>
      if i=ο then Cl QOy B (SR elt g) (λz v=>Cl QOy B (Ub (.Qu "list.append") [C,z]) (λ_ s=>∃j,j<k/\Z j s) QFx v) QFx n
      else ∃j,j<k/\Z j n) (Xa (KK pg d) B g λe s'=>Rf (.WS e) s') w) (Xa (KK pg d) B g λe s'=>Rf (.WS e) s') A) (Xa (KK pg d) B g λe s'=>Rf (.WS e) s') o) (Xa (KK pg d) B g λe s'=>Rf (.WS e) s') t)(k:υ)(hz:Z k st):VD (KK pg d) B (.compLoop (.Ue elt [(m,UG,ifs,(0))] sc RX) 0 p C g) Rf st:=by
 let b:∀{q:Type}{x:Sem q}{Q1 D:q->ω->Prop}{N:η->ω->Prop}{t:ω},Cl QOy B x Q1 N t->(∀a t',Q1 a t'->D a t')->Cl QOy B x D N t:=λh f=>RM h f λ_ _ z=>z;refine codeAny_loop ε Z (λk t E=>?_) k hz;change Cl _ B ((compTurn (.Ue elt [(m,UG,ifs,(0))] sc RX) 0 p C g).onRaise λx=>do Xg x g;theTreesLotGoes x) _ _ t;refine wpAny_noted ?_;rw[compTurn_list];refine f_ (UB (f_ (b (I k t E) λr o h1=>?_)));match r,h1 with
 |ζ,h1=>show i_ h1
 |δ u,h1=>
  refine f_ (b h1 λ_ A h2=>f_ (b h2 λ_ w H=>f_ (b H λi n l=>?_)));match i,l with
  |μ,l=>show i_ (1,l)
  |ο,l=>show f_ (f_ (b l λz v G=>f_ (b G λ_ s F=>i_ (i_ (1,F)))))
end
section
variable{X:Cx}{elt UG tg:SF}{x y:QL}{px py pt RX:T6}{kt:υ}{sc:TB}{wi:TI}{te:TE}{tt:TT}{ifs:γ SF}
instance vR QJO(fnx:QL->Ω):Prop:=∀{M:Model}QMK QCw{s:ω}{g:θ}{cl:γ QAM}{Qz:QL}{VL:χ θ}{code:η}{Id:YH}{bl:θ}{Q:YH->ω->Prop},
  (∀h' cl',h'.Ns s⁻¹ (λ_=>ζ)->(∀b o,s.π.Δ b<*o->h'.Δ b<*o)->(∀y c,γ.ρ y cl'<*c->fnx y=μ/\cl.ρ y<*c\/fnx y=ο/\s⁻¹<c/\∃v o,h'.Δ c=δ o/\o.RD=.R9 v)->(∀y c,fnx y=μ->cl.ρ y<*c->γ.ρ y cl'<*c)->(∀y,fnx y=ο->∃c,γ.ρ y cl'<*c)->
   Q (newEnv sc s⁻¹ g cl' Qz VL code (δ Id) bl) {s with π:=h'})->Cl M A (newFunctionEnv sc g cl [] Qz VL code (δ Id) bl) Q E s
def y'{xx:Cx->η->ω->Prop}{fnx:QL->Ω}{ns:γ QL}{gx:V->Hp->γ V->Prop}(G:γ QL)(hc:X.Wm=ο)(b5:(ns++G).Rq)(hi:PI X tg UG wi)(a:∀(Y:γ (QL×θ))(C:θ)(F:γ θ)(s:ω)(H:Hp),FE {l_ X x sc Y C F s H with N:=ns++G,fn:=fnx} ifs tt/\PE (Cx.wish {l_ X x sc Y C F s H with N:=ns++G,fn:=fnx} (xx {l_ X x sc Y C F s H with N:=ns++G,fn:=fnx})) elt te)(bU:∀(Y:γ (QL×θ))(C:θ)(F:γ θ)(s0:ω)(H0:Hp)(g:γ (θ×UP))(s:ω)(M:St)(os:γ (χ V))(H:Hp)(y:V)(u:η)(vs:γ V),os.β=ns.β->gx y H vs->g_ {l_ X x sc Y C F s0 H0 with N:=ns++G,fn:=fnx} g (os++M) H s->af y u->Cl (KK X.BT X.w) X.A (Yz tg (compEnvC sc Y C X.QA) u) (λ_ s'=>g_ {l_ X x sc Y C F s0 H0 with N:=ns++G,fn:=fnx} g (vs.QY δ++M) H s') (λ_ _=>Rl) s)(ar:sc.Uz=.UL)(au:∀y∈sc.QI,y.2=.local->sc.QI.ρ y.1<*.local)(a7:vR sc fnx)(as:∀y∈sc.QI,y.2=.R9->fnx y.1=ο)(aS:∀y,fnx y=ο->y=x/\y∈ns/\sc.QI.ρ y<*.R9)(aT:(sc.QI.Tk λy=>y.2 != .SA||X.QA.Qy.QI.ρ y.1==δ .R9||X.QA.Qy.QI.ρ y.1==δ .SA)=ο)(b0:(G.Tk λy=>sc.QI.ρ y != δ .local)=ο)(b1:G.β=X.N.β)(bS:((G.Xz X.N).Tk λy=>y.1==y.2||sc.QI.ρ y.1==ζ)=ο)(hs:∀x,Tr UG X.QA x=pure x){M:St}{Q:VK}(I:g_ X g M H s)(h:wi M H R)(hR:∀J H1,R J H1->∀D,H1 D=ζ->∃W:υ->υ->γ V->Hp->Prop,(∃m,W 0 m [] (QO H1 D (.QM [])))/\∀i m ys l,W i m ys l->l D=δ (.QM ys)/\((J.Wb i l/\Q (.ν D) l)\/(J.go i l/\ys.β<Λ/\∀x H3,J.yld i l x H3->
   ∃vs,vs.β=ns.β/\gx x H3 vs/\tt (vs.QY δ++M) H3 λbo H4=>if bo=ο then te (vs.QY δ++M) H4 λy H5=>H5 D=δ (.QM ys)/\∃m',m'<m/\W (i+1) m' (ys++[y]) (QO H5 D (.QM (ys++[y])))else ∃m',m'<m/\W (i+1) m' ys H4)))(cf:∀{s2 s4:ω}{l H3:Hp}{F:γ θ}{Y:γ (QL×θ)}{D C:θ}{os:γ (χ V)},g_ X g M l s2->(∀b∈F,aX X g l b)->(∀b o,s2.π.Δ b<*o->b≠C)->s2⁻¹≤C->g_ {l_ X x sc Y C F s2 l with N:=ns++G,fn:=fnx} [] (os++M) H3 s4->Q (.ν D) H3->compPost (KK X.BT X.w) X.A X.xe use QQ (.ν D) C (.ok .next) s4)(b3:∀{s2:ω}{l:Hp}{F:γ θ}{Y:γ (QL×θ)}{D C:θ}{ev:η}{s3:ω},g_ X g M l s2->(∀b∈F,aX X g l b)->s2⁻¹≤C->xx {l_ X x sc Y C F s2 l with N:=ns++G,fn:=fnx} ev s3->Xa (KK X.BT X.w) X.A (compEnvC sc Y C X.QA) (λe s4=>compPost (KK X.BT X.w) X.A X.xe use QQ (.ν D) C (.WS e) s4) ev s3:=by show λ_ _ _ f=>f.SG):Cl (KK X.BT X.w) X.A (comprehension (.Ue elt [(tg,UG,ifs,(0))] sc RX) sc X.QA p (newList []) μ (SR UG X.QA) use) QQ X.xe s:=by
 let bf:∀y∈sc.QI,y.2=.SA->(X.QA.Sh y.1<*.R9\/X.QA.Sh y.1<*.SA):=λy hy e=>by
  let q:=RE.mp aT y hy;rw[e]at q;simpa[YH.Sh]using q
 let a8:∀y∈G,sc.QI.ρ y≠δ .local:=λy hy e=>by
  let q:=RE.mp b0 y hy;rw[e]at q;simp at q
 let⟨Y,aU,t,aC⟩:=fb (QA:=X.QA) (sc:=sc) λy hy e=>I.ok.Vl y.1 (bf y hy e);refine wpAny_comprehension_free ε hs aU ar au (oh (hi g s M H _ I h) λv s1 h1=>oh h1 λct s2 h2=>?_);let⟨it,F,tn,J,l,e,j,T,aM,f2,hW⟩:=h2;subst e

 refine Sf ?_;refine a7 λP ag L k lk a5 bP=>?_;dsimp only at L k lk⊢;generalize aV:s2.π.Ra {SN:=.QH "list",Ux:=ζ,RD:=.V8 ([]:γ η).Θ}=Ha at L k lk⊢;let hC:Ha.SM.Qw=s2⁻¹+1:=by rw[<-aV,Tb]
 let E:s2⁻¹≤Ha.SM.Qw:=by rw[hC];show Yo _
 let bM:∀b o,s2.π.Δ b<*o->b≠Ha.SM.Qw:=λb o e=>RH (LT QAP E);let Z:∀b o,s2.π.Δ b<*o->P.Δ b<*o:=λb o e=>k b o (aV▸ol _ e);let bg:P.Δ s2⁻¹<*{SN:=.QH "list",Ux:=ζ,RD:=.V8 ([]:γ η).Θ}:=k _ _ (aV▸QK _ ε);let a2:∀{y:QL}{c:θ},Y.ρ y<*c->c<s2⁻¹:=λ{y c}e=>by
  let⟨v,o,ho,_⟩:=j.R9 y c (t y c e);show lt_size ho
 let a1:∀{y:QL},sc.QI.ρ y<*.SA\/y∈G->fnx y=μ:=λ{y}hy=>by
  cases q:fnx y with
  |μ=>rfl
  |ο=>
   let⟨_,z,w⟩:=aS y q;rcases hy with e|e
   .rw [e]at w;cases w
   .exact QG e ((γ.Ym.mp b5).2.2 y z y · ε)
 generalize ab:s2⁻¹=D at *;generalize cw:Ha.SM.Qw=C at *;let bi:l D=ζ:=j.S7.SW (VY ab);let b6:l C=ζ:=j.S7.SW QS7;let⟨W,⟨m0,w0⟩,a3⟩:=hR _ _ hW D bi;let U:∀b∈F,b<D:=λb a=>by
  let⟨o,e,_⟩:=T.YQ _ _ aM b a;rw[<-ab];show lt_size e
 let bl:∀{b},b∈F->∀{y c},γ.ρ y ag<*c->c≠b:=λ{b}a{y c}e=>by
  rcases lk y c e with⟨_,w⟩|⟨_,w,_⟩
  .exact (f2 b a).2.2.2.2.1 y c (t y c w)
  .exact XH (TL (U b a) QRn)
 let aH:∀{y},sc.QI.ρ y<*.SA->∃c,γ.ρ y ag<*c:=λ{y}e=>by
  let⟨c,az⟩:=aC _ (Ξ.Sg e) ε;show(c,a5 y c (a1 (.RB e)) az)
 letI X':Cx:={l_ X x sc ag C F s2 l with N:=ns++G,fn:=fnx}
 let aA:∀b∈F,b∉rf X.RG:=λb a z=>by
  rcases QW.mp (j.stkSub b z)with e|e
  .exact (f2 b a).2.1 e
  .exact (f2 b a).2.2.1 e
 let bt:X'.Ok:=by
  refine(j.ok.mod,ar,j.ok.glob,j.ok.blt,3,λy z c e1 e2=>?_,λy hy=>?_,λy c e e2=>?_,j.ok.hd,j.ok.Uv,.RB ε,λb a=>(3,λy c e=>?_),j.bs,
   LE j.ok.bsz j.sz,λb o e a=>?_,aA,j.RG,j.XZ)
  .change s2⁻¹≤C;show Fq hC ab
  .rcases lk y c e1 with⟨_,w1⟩|⟨z1,w1,_⟩<;>rcases lk z c e2 with⟨_,w2⟩|⟨z2,w2,_⟩
   .exact j.ok.Tx y z c (t y c w1) (t z c w2)
   .exact QG (Rw E w2) (υ.lt_asymm (a2 w1))
   .exact QG (Rw E w1) (υ.lt_asymm (a2 w2))
   .rw [(aS y z1).1,(aS z z2).1]
  .rcases hy with hy|hy
   .rcases ux (show(Yj sc X.QA).QI.ρ y<*.R9 from hy)with e|⟨_,e,_⟩
    .exact bP y (as _ (Ξ.Sg e) ε)
    .exact aH e
   .rcases ux (show(Yj sc X.QA).QI.ρ y<*.SA from hy)with e|⟨e,_⟩
    .exact aH e
    .cases e
  .rcases lk y c e2 with⟨w,_⟩|⟨_,w,_⟩
   .rw [show fnx y=ο from e]at w;cases w
   .exact ab▸Uu QRn
  .exact RH (LT (U b a) (by omega:D≤C))
  .exact bl a e
  .rcases (f2 b a).2.2.2.1 with z|z
   .exact j.ok.noex b o e z
   .exact QG (LT (LT QAP j.ok.bsz) z) QOJ
 let I4:∀tk,g_ X' [] (replicate ns.β ζ++M) (QO l D QBD) {s2 with π:=P,Qs:=tk}:=λtk=>by
  refine(bt,1,j.V9,Un.X3 Z (VY ab) bi,(_,L,λi O v e1 e2 e3=>?_),λy c e=>?_,3,λy c e=>?_,λp hp=>?_,j.S7.X3 Z (VY ab) ?_,3)
  .let e1:(ns++G)[i]?<*O:=e1;by_cases bb:i<ns.β
   .rw [QS (by rw[Up];show bb),γ.getElem?_replicate,QC bb]at e2;cases e2
   .rw [Qp (by rw[Up];show Ci bb),Up]at e2;rw[Qp (Ci bb)]at e1;let e0:=e1;generalize i-ns.β=i at e0 e1 e2;let e3:HI (Yj sc X.QA) O:=e3;let aN:O∈G:=v7 e0;let S:sc.QI.ρ O=δ .SA/\(Yj sc X.QA).QI.ρ O≠δ .local:=by
     rcases e3 with e|e|e
     .rcases ux e with q|⟨q,_⟩
      .exact QG q (a8 O aN)
      .cases q
     .rcases ux e with q|⟨_,q,_⟩
      .exact QG ((a1 (.RF aN)).QU.ξ (as _ (Ξ.Sg q) ε)) Ω.Q9
      .exact (q,by rw[e];decide)
     .rcases ux e with q|⟨q,_⟩
      .exact (q,by rw[e];decide)
      .cases q
    let e1:X.N[i]?<*O:=by
     let hi:i<G.β:=(m8 e0).1;let bd:i<X.N.β:=Ep hi b1
     let hm:(O,X.N[i],)∈G.Xz X.N:=by
      let hz:(G.Xz X.N)[i]?<*(O,X.N[i],):=by
       rw[γ.XJ];show(e0,h_ bd)
      show v7 hz
     let q:=RE.mp bS _ hm;rcases Ω.or_eq_true_iff.mp q with q|q
     .have:O=X.N[i]:=WU q;rw[h_ bd,<-this]
     .let q2:sc.QI.ρ O=ζ:=by simpa using q
      rw[S.1]at q2;cases q2
    let kc:X.QA.Sh O<*.R9\/X.QA.Sh O<*.SA:=bf _ (Ξ.Sg S.1) ε;let⟨m,hn,hl⟩:=j.loc;let⟨u,ru,lk⟩:=hl i O v e1 e2 (.RF kc);rcases lk with⟨q,_⟩|⟨_,c,b4,⟨o,ho,hd⟩⟩
    .rcases kc with z|z<;>(rw[z]at q;cases q)
    .obtain ⟨c',az⟩:=aC _ (Ξ.Sg S.1) ε;let e4:=t _ _ az;rw[b4]at e4;cases e4;refine(u,ru,.RF (3,c,a5 _ _ (a1 (.RF aN)) az,(o,Z c o ho,hd)));rcases e3 with e|e|e
     .exact QG e S.2
     .exact .RB e
     .exact .RF e
  .rcases lk y c e with⟨_,w⟩|⟨_,_,v,o,w⟩
   .obtain ⟨v,o,ho,hd⟩:=j.R9 y c (t y c w);show(v,o,Z c o ho,hd)
   .exact (v,o,w)
  .change QO l D QBD C=ζ;rw[b_ (Km (!6))];show b6
  .change QO l D QBD c=ζ;rcases lk y c e with⟨_,w⟩|⟨_,w,_⟩
   .rw [b_ (RH (a2 w))];show j.Xs y c (t y c w)
   .rw [b_ (XH QRn)];show j.S7.SW (ab▸Uu QRn)
  .exact QG (show p∈([]:γ Z_)from hp) (!1)
  .exact (RP _,[],(0),.Tw,bg)
  .change (replicate ns.β ζ++M).β=(ns++G).β;rw[u4,u4,Up,j.Sr,b1]
 let⟨ch,cn⟩:=a ag C F s2 l;let a0:∀{ap:γ Z_}QDQ,QRo->(∀p∈ap,p.1∉F)->∀b∈F,aX X' ap H' b:=λhn hp b a=>by
  refine(hn b a,3,aA b a,.RB a,λy c e=>bl a e,λp q z=>?_)
  .exact RH (LT (U b a) (by omega:D≤C))
  .rcases Rr.mp q with q|q
   .exact QG (show p∈([]:γ Z_)from q) (!1)
   .exact hp p q (by rw[z];show a)
 let aB:∀tk,VD Y9 X.A (.compLoop (.Ue elt [(tg,UG,ifs,(0))] sc RX) 0 QBb Z5 (compEnvC sc ag C X.QA)) (compPost Y9 X.A X.xe use QQ Z5 C) {s2 with π:=P,Qs:=tk}:=λtk=>by
  refine mZ (λn s'=>∃i ys os H',os.β=ns.β/\g_ X' [] (os++M) H' s'/\tn i s'.π/\QRo/\W i n ys H') ?_ m0 ((0),[],7,Up,I4 tk,T.UF _ _ _ aM λb a o e=>Z b o e,λb a=>?_,w0)
  .rintro n s3⟨i,ys,os,H3,bV,I3,a4,bk,w3⟩;let⟨cv,cg⟩:=a3 i n ys H3 w3;rcases cg with⟨Wb,qn⟩|⟨go,a9,step⟩
   .refine RM (T.done X' ε ε ε hc i [] s3 _ H3 QFP I3 (a0 bk (!1)) a4 Wb) (λr s4 B=>?_) λ_ _ f=>f.SG;let⟨hr,cp⟩:=B;subst hr;show cf j f2 bM QS7 cp qn
   .refine RM (T.YW X' ε ε ε hc i [] s3 _ H3 QFP I3 (a0 bk (!1)) a4 go) (λr s4 B=>?_) λ_ _ f=>f.SG;let⟨u,hr,h4⟩:=B;subst hr;refine RM h4 (λ_ s5 B=>?_) λ_ _ f=>f.SG;let⟨z,H5,I5,r5,y5,an,ce⟩:=B;let co:=I5.pinned (a0 ce (!1)) (T.YQ _ _ an);let⟨vs,a6,b2,bT⟩:=step z _ y5;refine RM (bU ag C F s2 l _ s5 M os H5 z u vs bV b2 co r5) (λ_ s6 I6=>?_) λ_ _ f=>f.SG;refine RM (ch _ s6 _ _ _ I6 bT) (λbm s7 B=>?_) λ_ _ f=>f.SG;let⟨H7,I7,q7⟩:=B;cases bm with
    |μ=>
     let⟨m',hm,w8⟩:=q7;refine(m',hm,i+1,ys,7,by rw[j'];show a6,I7.unpinned,T.UF _ _ _ an λb a o e=>(I7.pin QMW QDB).1,λb a=>?_,w8);let⟨o,e,d⟩:=T.YQ _ _ an b a;show(I7.pin QMW QDB).2.1
    |ο=>
    refine RM (cn _ s7 _ _ _ (I7.wish _) q7) (λz s8 B=>?_) λev s8 f=>b3 j f2 QS7 f;let⟨yv,H8,I8,r8,cd,q8⟩:=B;let I8:=I8.Wz;refine RM (gO (X:=X') _ s8 _ H8 Z5 [yv] Z5 [z] (λ_ H9=>H9=QO H8 D (.QM (ys++[yv]))) I8 ε (.Rx r8 .Tw) (D,ys,yv,5,cd,a9,1)) (λ_ s9 B=>?_) λ_ _ f=>f.SG;let⟨_,H9,I9,_,e9⟩:=B;subst e9;let⟨m',hm,w8⟩:=q8;refine(m',hm,i+1,7,_,by rw[j'];show a6,I9.unpinned,T.UF _ _ _ an λb a o e=>(I9.pin QMW QDB).1,λb a=>?_,w8);let⟨o,e,d⟩:=T.YQ _ _ an b a;show(I9.pin QMW QDB).2.1
  .change QO l D QBD b=ζ;rw[b_ (RH (U b a))];show(f2 b a).1
 show codeAny_compStart_list (aB _) (T.self _ _ _ _ _ (T.UF _ _ _ aM λb a o e=>Z b o e) (aB _))
def KI{fnx:QL->Ω}{t l:St}(M:g_ X f t s s2)(k:∀b∈F,aX X f s b)(g:∀b o,s2.π.Δ b<*o->b≠C)(a:g_ {l_ X x sc O C F s2 s with N:=N,fn:=fnx} [] l h B)(I:Q Z5 h):compPost Y9 X.A X.xe ζ (EP X f t Q) Z5 C QQY B:=by
 let⟨L,p,_⟩:=a.loc;refine(L,p,λh' d=>?_);let E:∀b u,h b<*u->b≠C:=λb u e z=>by rw[z]at e;rw[show h C=ζ from a.SA]at e;cases e
 let i:Aj X.BT X.w h h':=λb u e=>(a.S7 b u e).Wq (λc v r q=>d.Wj c v (by
  rcases r with z|z
  .rw [z];show E b u e
  .exact E c _ z) q) (λ_ q=>q) λ_ _ q=>q
 let G:Un QBe F s h s2.π h':=
  (λb o e n1 n m=>d.Wj b o (g b o e) (a.ς.UF b o e n1 n m),λb o e n1 n m=>by
    let⟨H,q⟩:=a.ς.YI b o e n1 n m;show(H,d.Wj b _ (g b o e) q),a.ς.SA,λb o e n1=>by
    let⟨J,q⟩:=a.ς.Ut b o e n1;show(J,d.Wj b _ (g b o e) q),a.ς.Uk,a.ς.frzs,a.ς.tbls)
 show(.ν D,h,M.call' (s':={B with π:=h'}) a.os G i a.V9 λb j=>((k b j).2.2.2.1,(k b j).2.1,(k b j).2.2.2.2.1,(k b j).2.2.2.2.2),1,I)
def JP(d:sc.Uz=.UL)(f:∀y∈sc.QI,y.2≠.R9):vR sc λ_=>μ:=λ{_ _ _ s _ j _ _ _ _ _ _}i=>by
 refine wpAny_newFunctionEnv f (λy h=>QG h (!1)) (λg c a=>i g j c (λb o e=>a.Wj b o QKG QH8) (λ_ _ e=>.RB (1,e)) (λ_ _ _ e=>e) λ_ e=>nomatch e) d
def ku{P:QL->Prop}:∀y,(λ_=>μ:QL->Ω) y=ο->P y:=λ_ e=>nomatch e
def JQ(h:(x::k).Rq)(m:CF (Yj sc X.QA) x)(q:fnx x=ο\/(Yj sc X.QA).QI.ρ x<*.local)(b:γ QAM)QEZ(j:γ θ)(e:ω)(H0:Hp)(a:γ Z_)QBP(d:St)(os:γ (χ V))ZC(y:V)QP6 ZF(n:os.β=1)(p:vs=[y])(I:g_ {l_ X x sc b C j e H0 with N:=[x]++k,fn:=fnx} a (os++d) H s)(r:af y u):Cl Y9 X.A (Yz QGa (compEnvC sc b C X.QA) u) (λ_ s'=>g_ {l_ X x sc b C j e H0 with N:=[x]++k,fn:=fnx} a (vs.QY δ++d) H s') QFP s:=by
 let⟨o,ε⟩:=γ.length_eq_one_iff.mp n;refine RM (cu (X:={l_ X x sc b C j e H0 with N:=[x]++k,fn:=fnx}) (i:=0) (RX:=px) h ε m q _ s _ H y u (λc H'=>c=δ y::d/\H'=H) I r (1,1)) (λ_ B g=>?_) λ_ _ f=>f;let⟨l,D,z,v,t⟩:=g;subst v t p;show z
def JR{g:St}QTa{J:It}{W:υ->υ->γ V->Hp->Prop}(h:∀i m ys a,W i m ys a->a D=δ QAk/\(QRp\/(J.go i a/\ys.β<Λ/\∀x d,J.yld i a x d->tt (δ x::g) d λj f=>if j=ο then te (δ x::g) f λy e=>e D=δ QAk/\∃c,c<m/\W (i+1) c QAv (QO e D ZM)else ∃c,c<m/\W (i+1) c ys f))):∀i m ys a,W i m ys a->a D=δ QAk/\(QRp\/(J.go i a/\ys.β<Λ/\∀x d,J.yld i a x d->∃vs:γ V,vs.β=1/\vs=[x]/\tt (vs.QY δ++g) d λj f=>if j=ο then te (vs.QY δ++g) f λy e=>e D=δ QAk/\∃c,c<m/\W (i+1) c QAv (QO e D ZM)else ∃c,c<m/\W (i+1) c ys f)):=
 λi m ys a w=>(h i m ys a w).imp id λb=>b.imp id λb=>(b.1,b.2.1,λx d k=>([x],5,b.2.2 x d k))
def B4(f:γ QL)(A:X.Wm=ο)QOC(z:PI X QGa UG wi)(B:∀(u:γ QAM)QEZ(t:γ θ)QBP ZC,FE {l_ X x sc u C t s H with N:=x::f} ifs tt/\PE {l_ X x sc u C t s H with N:=x::f} elt te)(p:QBd>>>4)QL1(c:Zf>>>3)QSW(d:Zb>>>4)(l:QCE>>>4)(n:QND>>>4)(k:QBJ>>>4)(w:QAJ>>>7):PE X Zt QFQ:=by
 intro o s M H Q I h;rw[eval_ListComp];refine y' (xx:=λ_ _ _=>Rl) (fnx:=λ_=>μ) (ns:=[x]) (gx:=λy _ vs=>vs=[y]) f A i z B QIk a c (JP a b) QFR ku (RE.Sj λy v=>by rw[RE.mp d y v];rfl) l n k w I h (λJ O r D E=>?_) λL F j _ G q=>KI L F j G q;let⟨W,m,g⟩:=r D E;show(W,m,JR g)
def Mb(f:γ QL)(z:X.Wm=ο)QOC(w:PI X QGa UG wi)(A:∀(u:γ QAM)QEZ(t:γ θ)QBP ZC,FE {l_ X x sc u C t s H with N:=x::f} ifs tt/\PE {l_ X x sc u C t s H with N:=x::f} elt te)(p:QBd>>>4)QL1(c:Zf>>>3)QSW(d:QAI>>>4)(l:QCE>>>4)(n:QND>>>4)(k:QBJ>>>4)(v:QAJ>>>7):PE X Zt QFQ:=by
 intro o s L H Q I h;rw[eval_ListComp];refine y' (xx:=λ_ _ _=>Rl) (fnx:=λ_=>μ) (ns:=[x]) (gx:=λy _ vs=>vs=[y]) f z i w A QIk a c (JP a b) QFR ku d l n k v I h (λJ M r D B=>?_) λG E j _ F q=>KI G E j F q;let⟨W,m,g⟩:=r D B;show(W,m,JR g)
def oa QTk QIX{y:QL}{P O:St}QUL(hj:X.N[j]?<*y)(S:CF X.QA.Qy y)(W:X.fn y=ο\/X.QA.Qy.QI.ρ y<*.local)(J:g_ X h P H2 s2)(M:∀b∈fp,aX X h H2 b)(l:∀b o,s2.π.Δ b<*o->b≠C)(ag:s2⁻¹≤C)(d:g_ {l_ X x sc cl C fp s2 H2 with N:=N} [] O k L)(qn:A2 j Z5 P k DD.nx):compPost Y9 X.A X.xe (δ (Yz (.Rn y py) X.QA)) (λ_ s'=>SP X h DD .next s') Z5 C QQY L:=by
 let⟨mC,H,_⟩:=d.loc;let nC:∀b u,k b<*u->b≠C:=λb u e z=>by rw[z]at e;rw[show k C=ζ from d.SA]at e;cases e
 let un:Un QBe fp H2 k s2.π L.π:=
  (λb o e n1 F n=>d.ς.UF b o e n1 F n,λb o e n1 F n=>d.ς.YI b o e n1 F n,d.ς.SA,λb o e n1=>d.ς.Ut b o e n1,d.ς.Uk,d.ς.frzs,d.ς.tbls)
 let I5:g_ X h P k L:=J.call' (s':=L) d.os un d.S7 d.V9 λb B=>((M b B).2.2.2.1,(M b B).2.1,(M b B).2.2.2.2.1,(M b B).2.2.2.2.2);let⟨oC,ap,an,U,_⟩:=id H;let s:∃o,s2.π.Δ X.QA.SQ<*o:=by let⟨m,⟨o,es,ep,z,_⟩,_⟩:=J.loc;show(o,z)
 let E:X.QA.SQ≠C:=by let⟨o,z⟩:=s;show l _ o z
 let g:∀y c,X.QA.UO.ρ y<*c->c≠C:=λy c e=>by let⟨v,o,r,_⟩:=J.R9 y c e;show l c o r
 dsimp only[compPost];refine wpAny_assign_Name (gw I5 hN hj S (v:=.ν D) ε (λR Z T=>?_) W);let⟨a,sb,ha⟩:=T;let I:C≠a:=by
  rcases ha with z|z
  .rw [z];show Ne.QU E
  .exact Ne.QU (g _ _ z)
 let G:R.π.Δ C<*oC:=(sb.2 C I).ξ U;refine(mC,H.sameBut sb I,λi f=>?_);let ab:C<i.SM.Qw:=by rw[f.1];show lt_size G
 let t:Aj X.BT X.w k i:=λb u e=>(Z.S7 b u e).Wq (λc v Y q=>f.Wj c v (by
  rcases Y with z|z
  .rw [z];show nC b u e
  .exact nC c _ z) q) (λ_ q=>q) λ_ _ q=>q
 let Q:Un QBe [C] k k R.π i:=
  (λb o e n1 F n=>f.Wj b o (λz=>n (by simp[z])) e,λb o e n1 F n=>(o.XE,f.Wj b o (λz=>n (by simp[z])) e),λb o e n1 _=>n1,λb o e n1=>(o,f.Wj b o (λz=>n1 (by simp[z])) e),λ_ _ q=>q,λ_ _ _ q=>q,λb ps q=>(#[],by rw[Ry.append_empty];show q))
 refine(_,k,Z.call' (s':={R with π:=i}) ε Q t Z.V9 (λb B=>?_),qn);let eb:b=C:=by simpa using B
 subst eb;refine(.RF (LE J.sz (!2)),Ne.QU E,g,λp hp z=>?_);let⟨z1,_⟩:=J.pin p hp;show l p.1 p.2 z1 z
def KJ(g:γ QL){py d:T6}(U:X.Wm=ο)(Z:X.N.Rq)(k:(x::g).Rq)(S:X.N[j]?<*y)(p:CF X.QA.Qy y)(T:PI X QGa UG wi)(Y:∀(L:γ QAM)QEZ(G:γ θ)QBP ZC,FE {l_ X x sc L C G s H with N:=x::g} ifs tt/\PE {l_ X x sc L C G s H with N:=x::g} elt te)(F:QBd>>>4)QL1(c:Zf>>>3)QSW(f:Zb>>>4)(t:((g.Tk λy=>sc.QI.ρ y != δ .local)=ο)>>>4)(w:(g.β=X.N.β)>>>4)(o:(((g.Xz X.N).Tk λy=>y.1==y.2||sc.QI.ρ y.1==ζ)=ο)>>>4)(R:QAJ>>>7)(q:(W3 Zt (δ (.Rn y py)) d.XI X.QA=pure ο)>>>4)(z:QG_>>>8):PS X (.Assign [.Rn y py] Zt d) (aQ QFQ (A2 j)):=by
 intro E s B H M I h;refine BW q λ_=>y' (xx:=λ_ _ _=>Rl) (fnx:=λ_=>μ) (Q:=λv l=>A2 j v B l M.nx) (ns:=[x]) (gx:=λy _ vs=>vs=[y]) g U k T Y (JQ k (.RB (Sk F)) (.RF (Sk F))) a c (JP a b) QFR ku (RE.Sj λy P=>by rw[RE.mp f y P];rfl) t w o R I h (λJ l r D hD=>?_) λI2 f2 n u A O=>oa Z S p z I2 f2 n u A O;let⟨W,m,i⟩:=r D hD;show(W,m,JR (Q:=λv l=>A2 j v B l M.nx) i)
def rM(I:X.Wm=ο)(g:(x::y::t).Rq)(E:sc.QI.ρ x<*.local)(D:sc.QI.ρ y<*.local)(j:γ QAM)QEZ(q:γ θ)(m:ω)(H0:Hp)(c:γ Z_)QBP(l:St)(os:γ (χ V))ZC(v:V)QP6 ZF(F:os.β=2)(G:∃p a b,v=.ν p/\pu X.K H p [a,b]/\vs=[a,b])(Q:g_ {l_ X x sc j C q m H0 with N:=[x,y]++t} c (os++l) H s)(B:af v u):Cl Y9 X.A (Yz QBi (compEnvC sc j C X.QA) u) (λ_ s'=>g_ {l_ X x sc j C q m H0 with N:=[x,y]++t} c (vs.QY δ++l) H s') QFP s:=by
 obtain⟨o,h,ε⟩:∃o h,os=[o,h]:=match os,F with|[o,h],_=>(o,h,1)
 let⟨p,O,M,ε,hp,ε⟩:=G;let e:(Yj sc X.QA).QI.ρ x<*.local:=Sk E;let d:(Yj sc X.QA).QI.ρ y<*.local:=Sk D;let r:PG {l_ X x sc j C q m H0 with N:=[x,y]++t} QBi (Nt X.K 2 (uU (A2 0) (uU (A2 1) gNil))):=dI I (Ev (cu (i:=0) g ε (.RB e) (.RF e)) (Ev (cu (i:=1) g ε (.RB d) (.RF d)) Jq));refine RM (r _ s _ H Zh u (λk H'=>k=δ O::δ M::l/\H'=H) Q B (p,0,hp,1,9,2,5)) (λ_ R n=>?_) λ_ _ f=>f;let⟨z,S,P,L,J⟩:=n;subst L J;show P

def KL(j:γ QL)(A:X.Wm=ο)(l:(x::y::j).Rq)(S:PI X QBi UG wi)(T:∀(E:γ QAM)QEZ(B:γ θ)QBP ZC,FE {l_ X x sc E C B s H with N:=x::y::j} ifs tt/\PE {l_ X x sc E C B s H with N:=x::y::j} elt te)(O:QBd>>>4)(M:QPm>>>4)(c:QEF>>>4)(f:Zf>>>3)(d:QA6>>>3)(g:QAI>>>4)(t:((j.Tk λy=>sc.QI.ρ y != δ .local)=ο)>>>4)(u:(j.β=X.N.β)>>>4)(o:(((j.Xz X.N).Tk λy=>y.1==y.2||sc.QI.ρ y.1==ζ)=ο)>>>4)(R:QAJ>>>7):PE X (.Ue elt [(.Wo [.Rn x px,.Rn y py] kt pt,UG,ifs,(0))] sc RX) (iy X.K wi tt te):=by
 intro z s σ H Q I h;rw[eval_ListComp];refine y' (xx:=λ_ _ _=>Rl) (fnx:=λ_=>μ) (ns:=[x,y]) (gx:=λv H vs=>∃p a b,v=.ν p/\pu X.K H p [a,b]/\vs=[a,b]) j A l S T (rM A l O M) c f (JP c d) (λy h e=>QG e (d y h)) ku g t u o R I h (λJ H1 r D U=>?_) λI2 Y n _ Z q=>KI I2 Y n Z q
 .obtain ⟨W,m,k⟩:=r D U;show(W,m,λi m ys H2 w=>(k i m ys H2 w).imp id λb=>b.imp id λb=>(b.1,b.2.1,λv H3 L=>by
   let⟨p,G,F,e,hp,P⟩:=b.2.2 v H3 L;show([G,F],1,(p,G,F,e,hp,1),P)))
def NP{QA:YH}:∀{a:γ (QL×Ud)}QTp,a.ρ x<*.R9->
  (a.QY λ(n,k)=>if (k==Ud.SA&&QA.Qy.Uz==.UL&&QA.Sh n==δ .R9)then(n,Ud.R9,)else(n,k,)).ρ x<*.R9
 |[],_,h=>by simp at h
 |(n,k)::r,x,h=>by
  rw[Tq];by_cases z:x=n
  .subst z;rw[γ.lookup_cons_self]at h;cases h;change γ.ρ x ((x,Ud.R9,)::_)=_;show γ.lookup_cons_self
  .let zb:(x==n)=μ:=Rg.Sj z;let h2:r.ρ x<*.R9:=by simpa only[γ.ρ,zb]using h
   let b:=NP (QA:=QA) h2;dsimp only;split
   .simp only[γ.ρ,zb];show b
   .simp only[γ.ρ,zb];show b
def tY(f:∀n a,YZ n sc.QI a=(x,n,)::a)(d:∀h:Qx,pushCells h sc.QI=h.Ra {SN:=.QH "cell",RD:=.R9 ζ}):vR sc λy=>y==x:=λ{_ _ _ s _ a _ _ _ Id _ _}g=>by
 unfold newFunctionEnv;rw[show(δ Id).Vg=ο from ε,QC ε];refine f_ (wpAny_alloc (f_ (wpAny_layCells _ (λ_ k _=>by cases q:k==Ud.R9<;>simp only[q]<;>rfl) _ _ _ _ ?_)));rw[f,d];let e:({s with π:=s.π.Ra {SN:=.QH "dict",RD:=.Ux #[]} }:ω).π.SM.Qw=s⁻¹+1:=Tb ..;rw[e];refine f_ ?_;rw[WQ];refine i_ (i_ (g _ (QC1::a) ?_ (λb o z=>ol _ (ol _ z)) (λy c e=>?_) (λy c z e=>?_) λy z=>(s⁻¹+1,by cases WU z;show γ.lookup_cons_self)))
 .exact (Qx.Ns.new s.π (.QH "dict")).Tn λb o z=>ol _ z
 .cases z:y==x<;>simp only[γ.ρ,z]at e
  .exact .RB (z,e)
  .cases e;have:=QK (s.π.Ra {SN:=.QH "dict",RD:=.Ux #[]}) (o:={SN:=.QH "cell",RD:=.R9 ζ}) ε;rw[Tb]at this;show .RF (z,Rv _,ζ,_,this,1)
 .simp only[γ.ρ,z];show e
def sV(f:γ QL)(F:X.Wm=ο)QOC(E:PI X QGa UG wi)(G:∀(j:γ QAM)QEZ(z:γ θ)QBP ZC,FE {l_ X x sc j C z s H with N:=x::f,fn:=λy=>y==x} ifs tt/\PE {l_ X x sc j C z s H with N:=x::f,fn:=λy=>y==x} elt te)(w:(sc.QI.ρ x<*.R9)>>>4)(u:(∀n j,YZ n sc.QI j=(x,n,)::j)>>>7)(o:(∀h:Qx,pushCells h sc.QI=h.Ra {SN:=.QH "cell",RD:=.R9 ζ})>>>7)(b:QEF>>>4)(a:Zf>>>3)(d:(∀y∈sc.QI,y.2=.R9->y.1=x)>>>3)(c:Zb>>>4)(p:QCE>>>4)(t:QND>>>4)(l:QBJ>>>4)(B:QAJ>>>7):PE X Zt QFQ:=by
 intro v s R H Q I h;rw[eval_ListComp];refine y' (xx:=λ_ _ _=>Rl) (fnx:=λy=>y==x) (ns:=[x]) (gx:=λy _ vs=>vs=[y]) f F i E G (JQ i (.RF (NP w)) (.RB (T_ x))) b a (tY u o) (λy h e=>Ua.Sj (d y h e)) (λy e=>by cases WU e;show(1,Rh,w)) (RE.Sj λy A=>by rw[RE.mp c y A];rfl) p t l B I h (λJ S r D L=>?_) λP M k _ O q=>KI P M k O q;let⟨W,m,g⟩:=r D L;show(W,m,JR g)
end
section
variable{X:Cx}{elt UG:SF}{x y:QL}{px py pt RX:T6}{kt:υ}{sc:TB}{wi:TI}{te:TE}
def JS(e:γ QL)(p:X.Wm=ο)(i:(x::y::e).Rq)(o:PI X QBi UG wi)(q:∀(k:γ QAM)QEZ(j:γ θ)QBP ZC,PE {l_ X x sc k C j s H with N:=x::y::e} elt te)(m:QBd>>>4)(l:QPm>>>4)(b:QEF>>>4)(a:Zf>>>3)(d:QA6>>>3)(c:QAI>>>4)(g:((e.Tk λy=>sc.QI.ρ y != δ .local)=ο)>>>4)(h:(e.β=X.N.β)>>>4)(f:(((e.Xz X.N).Tk λy=>y.1==y.2||sc.QI.ρ y.1==ζ)=ο)>>>4)(n:QAJ>>>7):PE X (.Ue elt [(.Wo [.Rn x px,.Rn y py] kt pt,UG,[],(0))] sc RX) (cZ X.K wi te):=KL e p i o (λk C j s H=>(AZ,q k C j s H)) m l b a d c g h f n
end
def NQ{K:Qt}{J:It}{tt:TT}{C:TE}{r:St}{Q:VK}(F:υ->V->V->Prop)(o:θ->υ->γ V->Hp->Prop)(hz:n≤Λ)(L:∀i d,a_ H d->i<n->J.go i d)(I:∀i d x j,a_ H d->i<n->J.yld i d x j->∃p a b,x=.ν p/\F i a b/\d p=ζ/\j=QO d p (.RJ [a,b]))(G:∀d,a_ H d->J.Wb n d)(P:∀D,H D=ζ->o D 0 [] (QO H D (.QM [])))(M:∀(D:θ)(i:υ)(a b:V)(ys:γ V)(H' j:Hp)(E:VK)(R2:Hp->Prop),H D=ζ->i<n->F i a b->a_ H H'->H' D<*.QM ys->o D i ys H'->a_ H' j->
   (∀y k,k D<*.QM ys->a_ H (QO k D ZM)->o D (i+1) QAv (QO k D ZM)->E y k)->(∀h,a_ H h->h D<*.QM ys->o D (i+1) ys h->R2 h)->
   tt (δ a::δ b::r) j λc h=>if c=ο then C (δ a::δ b::r) h E else R2 h)(N:∀D ys H',H D=ζ->a_ H H'->H' D<*.QM ys->o D n ys H'->Q (.ν D) H'):∀D,H D=ζ->∃W:υ->υ->γ V->Hp->Prop,
   (∃m,W 0 m [] (QO H D (.QM [])))/\∀i m ys d,W i m ys d->d D=δ (.QM ys)/\((J.Wb i d/\Q (.ν D) d)\/(J.go i d/\ys.β<Λ/\∀x j,J.yld i d x j->
    ∃p a b,x=.ν p/\pu K j p [a,b]/\tt (δ a::δ b::r) j λR h=>if R=ο then C (δ a::δ b::r) h λy k=>k D=δ (.QM ys)/\∃q,q<m/\W (i+1) q (ys++[y]) (QO k D (.QM (ys++[y])))else ∃q,q<m/\W (i+1) q ys h)):=by
 intro D s;refine(λi m ys d=>m=n-i/\i≤n/\ys.β≤i/\a_ H d/\d D=δ QAk/\o D i ys d,(n,!1,RP _,!1,a_.QO s,SO,P D s),3);rintro i m ys d⟨rfl,O,u,g,l,hp⟩;refine(l,3);by_cases f:i<n
 .refine .RF (L i d g f,Rw u (LT f hz),λx j t=>?_);let⟨p,a,b,ε,w,v,ε⟩:=I i d x j g f t;show(p,a,b,1,pu.of SO,M D i a b ys d _ _ _ s f w g l hp (a_.QO v) (λy k B A z=>(B,n-(i+1),Ul _ _ f,1,f,by rw[u4];show U4 u,A,SO,z)) (λh B A z=>(n-(i+1),Ul _ _ f,1,f,Vd u,B,A,z)))
 .let e:i=n:=WO O (SU f);subst e;show .RB (G d g,N D ys d s g l hp)
abbrev oJ QDo(Qz:QL)(Ss:UW)(body:SF)(Qy:TB)QDh(c:θ):HO:=.ext λh=>∃pm ctv,h.Δ f<*YB "<lambda>" Qz Ss body Qy R8 pm c ctv
def ur{P:IO}QE8(x:h.Δ f<*YB "<lambda>" Qz a g b d pm c j):Aq P w H h f (oJ f Qz a g b d c):=
 ((pm,j,x),(_,x),λ_ _ i k=>by let⟨p,v,e⟩:=i;show(p,v,k _ e))
abbrev Me QC9(P0:θ)QG6(Qz:QL)(Ss:UW)(body:SF)QJO:TE:=λ_ H Q=>AH H P0 Rt/\
 ∀QDh(f c:θ)QCi,QG7->QFp->H f=ζ->f≠c->BY P0 H H1->AH H1 P0 Rt->
  H1 c<*p_ c Qz->H1 f<*oJ f Qz Ss body sc R8 c->Q Ze H1
def bO QRI{l:UW}{m:SF}{sc:TB}QRf(B:UR X.ς c P0)(C:CP X.ς X.mg)(r:(RX,Qz,)∈Rt)(p:∀q∈Rt,q.1.XI=RX.XI->q.1.col=RX.col->q.2=Qz)(A:(X.QA.Qz++"<lambda>"=Qz)>>>4)(u:(defaultsOf l X.QA=([],[],))>>>4)(t:Zb>>>4):PE X (.Uy l m sc RX) (Me X P0 Rt Qz l m sc):=by
 intro z s E H Q I h;refine Ξ.W.kla_eval u ?_;rw[A];show BZ (λx _ v o=>YB "<lambda>" Qz l m sc x ((X.mg "__name__").Φ .ζ) v o) (λx f v=>oJ f Qz l m sc x v) ur ε I B C r p t (λa b d e f g i j k=>Ξ.W.kla_makeFunction (mg:=X.mg) a I.ok.glob b n d e f g i j λv o h' w=>k v o .ζ h' w) (λa b d e f g i k=>Ξ.W.kla_makeFunctionHit (mg:=X.mg) a I.ok.glob b n d e f g i λo h' w=>k o .ζ h' w)
  (λD q=>(.ν _,_,D,1,q)) h
def bY{P:IO}{w:QV}{K:Qt}{mg:QL->χ η}{ς:Qx}{N ps X:γ QL}{Qz:QL}{a:TB}{f:θ}{d:γ (QL×θ)}{Xy:γ V}{k:υ}{g:UW}{h:SF}{pm B:η}{l:θ}{sp:Sp}{o:UP}(ho:ς.Δ f<*o)(hd:o.RD=.VL (kla_fn "<lambda>" Qz g h a d pm (.ν l) B))(R:ς.SD (.ν l) Qz)(S:Ct N ps X a)(C:AN ς d a X Xy)(Sr:∀vs H Q E,sp vs H Q E->vs.β=ps.β)(j:∀(A:Qo)(Id:γ YH)(s:ω)(H:Hp)(vs:γ V)(Q:VK)(E:XK),am k (A.VQ (envX Qz a s⁻¹ f (.ν l) d))->sp vs H Q E->
   ∃t,PE (bB na P w K mg ς N Qz a f (.ν l) d A Id s H E).nox h t/\t (Dx N vs Xy) H Q):aa P w K mg ς na (k+1) f (kla_fn "<lambda>" Qz g h a d pm (.ν l) B) ps sp:=by
 refine(Sr,λA Id s H Y us vs Q E M z hb r m=>?_);let hl:=Sr _ _ _ _ m;let F:s.π.NoLimit:=z.mod.nolimit.Tn λb o e=>(z.bs b o e).1;let i:∀y∈ps.Xz us,a.QI.ρ y.1<*.local:=λT hy=>by let⟨n,v⟩:=T;show S.par n (Yl hy).1
 let x:s.π.SD QFM Qz:=by
  let⟨c,U,ws,t,e1,e2,e3,e4⟩:=R;show(c,U,ws,t,e1,(z.bs c U e2).1,e3,e4)
 refine Ξ.W.kla_callFunE M.depth (z.bs f o ho).1 hd S.co S.gen ε x QEA;refine wpAny_newFunctionEnv (closure:=d) (around:=ζ) S.nocell i (λh' O G=>?_) S.Uz;let p:∀b o,s.π.Δ b<*o->h'.Δ b<*o:=λb o e=>G.Wj b o QKG QH8;refine(F.Tn p,Ξ.W.kla_codeExpr ?_);let⟨t,ht,hq⟩:=j A Id s H vs Q E (M.VQ _) m;let I:g_ (bB na P w K mg ς N Qz a f QFM d A Id s H E) [] QEf H {s with π:=h',Qs:=s.Qs+(ps.Xz us).β}:=eD S C M.hd z hl r O p;refine RM (ht [] _ QEf H _ QMV hq) (λu s' L=>?_) λe s' L=>L.SG;let⟨v,H',J,Z,q⟩:=L;let D:=J.Wz;show(v,H',D.os,D.V9,D.ς,D.S7,Z,q)
section
variable{BT:IO}{w:QV}{A:Qo}{E:η->ω->Prop}{s:ω}
end
section
variable{X:Cx}{elt UG:SF}{x:QL}{px RX:T6}{ifs:γ SF}{sc:TB}{wi:TI}{tt:TT}{te:TE}
end
end L2
namespace RA
open L2
def m5(h1:v_ H m1 L W B)(h2:v_ H m2 L W B)(c:hI L W B):aE H 3 (.ν m1) (.ν m2):=by
 let d:∀{m:θ},v_ H m L W B->vS H m L (W.QY zs) B:=λ{m}h=>by
  let⟨e,mk,b,q,p,o,n,l⟩:=h;refine(e,mk,b,q,p,o,by rw[j'];show n,λi a k=>?_);let⟨ws,j,g⟩:=l i a k;show(zs ws,by rw[nq,j];rfl,by rw[jB];show g)
 refine qG (d h1) (d h2) (by rw[j'];show LE c.n60 (!0)) (by rw[c.bl];show LE c.n60 (!0)) λR f=>?_;let⟨ws,hw,ε⟩:=Su.mp f;rw[ip,(c.YO ws hw).1];show LE c.lt.hi (!0)
def Md{K:Qt}{m:St}(A:∀R:γ V->Hp->Prop,R [.ν c] H->t m H R)(E:o=.QM xs\/o=.RJ xs)(q:H c<*o)(f:θ->υ->γ V->Hp->Prop)(hz:xs.β≤Λ)(J:∀D,H D=ζ->f D 0 [] (L2.QO H D (.QM [])))(B:∀(D:θ)(i:υ)(x:V)(ys:γ V)(H' j:Hp)(l:VK)(R2:Hp->Prop),H D=ζ->xs[i]?<*x->a_ H H'->H' D<*.QM ys->f D i ys H'->a_ H' j->
   (∀y g,g D<*.QM ys->a_ H QB2->f D (i+1) QAv QB2->l y g)->QAZ->
   tt (δ (.QB (i:ψ))::δ x::m) j λc e=>if c=ο then w (δ (.QB (i:ψ))::δ x::m) e l else R2 e)(C:∀D ys H',H D=ζ->a_ H H'->H' D<*.QM ys->f D xs.β ys H'->Q (.ν D) H'):iy K (L8 t) tt w m H Q:=by
 let u:∀(D:θ)Zi(a b:V)QS8(H' j:Hp)(l:VK)(R2:Hp->Prop),H D=ζ->i<xs.β->(a=.QB (i:ψ)/\xs[i]?<*b)->a_ H H'->H' D<*.QM ys->f D i ys H'->a_ H' j->
   (∀y g,g D<*.QM ys->a_ H QB2->f D (i+1) QAv QB2->l y g)->QAZ->
   tt (δ a::δ b::m) j λc e=>if c=ο then w (δ a::δ b::m) e l else R2 e:=by
  rintro D i a b ys H' j l R2 I _⟨rfl,G⟩Y X W U T S;show B D i b ys H' j l R2 I G Y X W U T S
 obtain⟨d,z,F,v⟩:∃d:Sd,[V.ν c]=[d.vl]/\d.Vl H xs/\∀k QAe,H' c<*o->(d.X0 k).Vl H' xs:=by
  rcases E with ε|rfl
  .exact (.ls c,1,q,λ_ _ h=>h)
  .exact (.tp c,1,q,λ_ _ h=>h)
 refine A _ (d,xs,z,F,λk=>NQ (K:=K) (n:=xs.β) (λi a b=>a=.QB (i:ψ)/\xs[i]?<*b) f hz (λi r s h=>(xs,xs[i],v k r (s _ _ q),h_ h)) ?_ (λr s=>(xs,v k r (s _ _ q),1)) J u C);rintro i r x j s h⟨p,y,zs,P,O,N,M,L⟩;obtain ε:=HY P (v k r (s _ _ q));show(p,_,y,N,(1,O),M,L)
def qZ{m:St}(p:∀R:γ V->Hp->Prop,R [.ν c] H->t m H R)(s:o=.QM xs\/o=.RJ xs)(u:H c<*o)(h:θ->υ->γ V->Hp->Prop)(hz:xs.β≤Λ)(v:∀D,H D=ζ->h D 0 [] (L2.QO H D (.QM [])))(q:∀(D:θ)(i:υ)(x:V)(ys:γ V)(H' l:Hp)(j:VK),H D=ζ->xs[i]?<*x->a_ H H'->H' D<*.QM ys->h D i ys H'->a_ H' l->
   (∀y k,k D<*.QM ys->a_ H (L2.QO k D (.QM (ys++[y])))->h D (i+1) (ys++[y]) (L2.QO k D (.QM (ys++[y])))->j y k)->n (δ (.QB (i:ψ))::δ x::m) l j)(r:∀D ys H',H D=ζ->a_ H H'->H' D<*.QM ys->h D xs.β ys H'->Q (.ν D) H'):cZ K (L8 t) n m H Q:=Md (tt:=Yg) p s u h hz v (λD i x ys H' l j R2 a b c d e f g _=>hG (q D i x ys H' l j a b c d e f g)) r
def NR{d1 d2:Sd}{xs zs:γ V}{j:St}(o:∀R:γ V->Hp->Prop,R [d1.vl,d2.vl] H->t j H R)(h1:d1.Vl H xs)(h2:d2.Vl H zs)(u:xs.β=zs.β)(d:θ->υ->γ V->Hp->Prop)(hz:xs.β≤Λ)(B:∀D,H D=ζ->d D 0 [] (L2.QO H D (.QM [])))(q:∀(D:θ)(i:υ)(x z:V)(ys:γ V)(H' e:Hp)(f:VK),H D=ζ->xs[i]?<*x->zs[i]?<*z->a_ H H'->H' D<*.QM ys->d D i ys H'->a_ H' e->
   (∀y g,g D<*.QM ys->a_ H (L2.QO g D (.QM (ys++[y])))->d D (i+1) (ys++[y]) (L2.QO g D (.QM (ys++[y])))->f y g)->m (δ x::δ z::j) e f)(r:∀D ys H',H D=ζ->a_ H H'->H' D<*.QM ys->d D xs.β ys H'->Q (.ν D) H'):iy K (kG t) Yg m j H Q:=by
 refine o _ (d1,d2,xs,zs,1,h1,h2,λk1 k2=>?_);let l:∀{c:Hp},a_ H c->(d1.X0 k1).Vl c xs:=λs=>JK (JL h1) s;let k:∀{c:Hp},a_ H c->(d2.X0 k2).Vl c zs:=λs=>JK (JL h2) s;refine NQ (K:=K) (J:=GA (d1.X0 k1) (d2.X0 k2)) (n:=xs.β) (λi a b=>xs[i]?=δ a/\zs[i]?<*b) d hz (λi c s h=>(xs,zs,xs[i],zs[i]'(Ep h u),l s,k s,h_ h,h_ _)) ?_ (λc s=>(xs,zs,l s,k s,u,1)) B ?_ r
 .rintro i c x e s h⟨p,W,bs,a,b,M,L,I,G,F,E,C⟩;obtain ε:=HY M (l s);obtain ε:=HY L (k s);show(p,a,b,F,(I,G),E,C)
 .rintro D i a b ys H' e f R2 A U⟨w,v⟩T S P O N X;show hG (q D i a b ys H' e f A w v T S P O N)
def NS{d1 d2:Sd}{xs zs:γ V}{c:St}(g:∀R:γ V->Hp->Prop,R [d1.vl,d2.vl] H->t c H R)(h1:d1.Vl H xs)(h2:d2.Vl H zs)(k:xs.β=zs.β)(a:θ->υ->γ V->Hp->Prop)(hz:xs.β≤Λ)(l:∀D,H D=ζ->a D 0 [] (L2.QO H D (.QM [])))(h:∀(D:θ)(i:υ)(x z:V)(ys:γ V)(H' e:Hp)(d:VK),H D=ζ->xs[i]?<*x->zs[i]?<*z->a_ H H'->H' D<*.QM ys->a D i ys H'->a_ H' e->
   (∀y b,b D<*.QM ys->a_ H (L2.QO b D (.QM (ys++[y])))->a D (i+1) (ys++[y]) (L2.QO b D (.QM (ys++[y])))->d y b)->f (δ x::δ z::c) e d)(j:∀D ys H',H D=ζ->a_ H H'->H' D<*.QM ys->a D xs.β ys H'->Q (.ν D) H'):cZ K (kG t) f c H Q:=NR g h1 h2 k a hz l h j
def lr{xs zs:γ V}{e:St}(j:∀R:γ V->Hp->Prop,R [.ν c,.ν d] H->t e H R)(o:H c<*.QM xs)(n:H d<*.QM zs)(m:xs.β=zs.β)(a:θ->υ->γ V->Hp->Prop)(hz:xs.β≤Λ)(p:∀D,H D=ζ->a D 0 [] (L2.QO H D (.QM [])))(k:∀(D:θ)(i:υ)(x z:V)(ys:γ V)(H' g:Hp)(f:VK),H D=ζ->xs[i]?<*x->zs[i]?<*z->a_ H H'->H' D<*.QM ys->a D i ys H'->a_ H' g->
   (∀y b,b D<*.QM ys->a_ H (L2.QO b D (.QM (ys++[y])))->a D (i+1) (ys++[y]) (L2.QO b D (.QM (ys++[y])))->f y b)->h (δ x::δ z::e) g f)(l:∀D ys H',H D=ζ->a_ H H'->H' D<*.QM ys->a D xs.β ys H'->Q (.ν D) H'):cZ K (kG t) h e H Q:=NS (d1:=.ls c) (d2:=.ls d) j o n m a hz p k l
def Mf QGk:(b' l).Tk CL=ο:=by
 rw[b',γ.all_map,RE];show λ_ _=>rfl
end RA
namespace RA
section
variable{L:LN}{W:LL}{B:γ Ω}{ls:LN}{W2:LL}{B2:γ Ω}
end
section
variable{κ:Type}[R_ κ]{g:κ->υ->κ}{L:LN}{s:κ}{ts ts':γ κ}{ws ws':LL}
end
abbrev gA QCF QES QUT:LN:=k.QY λr=>(W.Φ r []).Φ q 0
section
variable{L:LN}{W ks ws R:LL}{B:γ Ω}
end
end RA
namespace RA
open L2
inductive Wc ZF ZC ZV Zk:Prop
 |mk QP0 (v:θ) (o:HO) Zp QCF Zg QES QQZ QAx QB8 QI9 (_:H v<*o) (_:k.β≤60) QPn (_:∀(l:θ)(ls:γ θ)QAe,a_ H H'->H' l<*.QM (ls.QY V.ν)->ls.β=L.β->(∀QUT QBz,ls[q]?<*a->H' a<*.QM (b' (gA W k q)))->Q QFM H')
def kL QFw QTe(x:a):QH'[l.β]?<*x:=by simp
def kr QQP[R_ d]:∀{a b:γ d},a.Rq->(∀c∈a,c∈b)->a.β≤b.β
 |[],_,_,_=>RP _
 |x::a,b,h,k=>by
  rw[nodup_cons]at h;let e:x∈b:=k x Rh;have:=kr (a:=a) (b:=b.erase x) h.2 λc f=>(γ.mem_erase_of_ne (λz:c=x=>h.1 (by rw[<-z];show f))).Sj (k c (QP _ f));rw[γ.length_erase_of_mem e]at this;have:=γ.length_pos_of_mem e;rw[Rz];lia
end RA
namespace L2
open PySem.Spec PyProof.Rows
structure KM QMa QD6(fr:γ QL)QJO:Prop where
 Uz:sc.Uz=.UL
 co:sc.isCoroutine=μ
 gen:sc.isGenerator=μ
 nd:N.Rq
 pre:N.Rp 1=[x]
 suf:N.Uq QDY=fr
 fit:1+fr.β≤N.β
 par:sc.QI.ρ x<*.R9
 only:∀y∈sc.QI,y.2=.R9->y.1=x
 lay:∀n acc,YZ n sc.QI acc=(x,n,)::acc
 Ra:∀h,pushCells h sc.QI=h.Ra {SN:=.QH "cell",RD:=.R9 ζ}
def FO{M:Model}QMK QCw{s:ω}{a:TB}{globals:θ}{code:η}(S:KM N x q a)(n:∀h' j,h'.Ns s⁻¹ QKp->h'.VS QAb QOK->QAn->Q (newEnv a s⁻¹ globals (QC1::d) Qz VL code ζ builtins) {s with π:=h',Qs:=j}):Cl M A (newFunctionEnv a globals d [(x,u,)] Qz VL code ζ builtins) Q E s:=by
 simp only[χ.isSome_none,newFunctionEnv,Xr,Ω.YN];refine f_ (wpAny_alloc (f_ (wpAny_layCells _ (λnm l cs=>by cases z:l==Ud.R9<;>simp[z]) _ _ _ _ ?_)));rw[S.lay,S.Ra];let i:(s.π.Ra {SN:=.QH "frame",RD:=.Ux #[]}).SM.Qw=s⁻¹+1:=Tb ..;let k1:∀b o,s.π.Δ b<*o->((s.π.Ra {SN:=.QH "frame",RD:=.Ux #[]}).Ra {SN:=.QH "cell",RD:=.R9 ζ}).Δ b<*o:=λb o e=>ol _ QH8;let g:((s.π.Ra {SN:=.QH "frame",RD:=.Ux #[]}).Ra {SN:=.QH "cell",RD:=.R9 ζ}).VS QAb ζ:=(_,by rw[<-i];show QK _ ε,1);let f:((s.π.Ra {SN:=.QH "frame",RD:=.Ux #[]}).Ra {SN:=.QH "cell",RD:=.R9 ζ}).Ns s⁻¹ QKp:=(Qx.Ns.new s.π (.QH "frame")).Tn λb o e=>ol _ e;dsimp only;rw[i];generalize (s.π.Ra {SN:=.QH "frame",RD:=.Ux #[]}).Ra {SN:=.QH "cell",RD:=.R9 ζ}=p at k1 g f⊢;refine f_ ?_;rw[U8];let lk:(QC1::d).ρ x<*QAb:=by rw[TY];simp
 refine f_ (f_ (wpAny_storeName_cell (c:=s⁻¹+1) (v₀:=ζ) S.Uz S.par lk g λh' m h=>i_ ?_));dsimp only;rw[WQ];refine i_ QA8;let k:∀Zz{o:UP},s.π.Δ b<*o->b≠s⁻¹+1:=λe=>RH (υ.W_ QAP);show n h' _ (f.sameBut h QQE) m λb o e=>h.Wj b o (k e) (k1 b o e)
abbrev pf(CX:CXT)QKa Z' ZZ Z3 QMv QMa QD6(Qz:QL)(Qy:TB)QDo(cd:η)QDh(A:Qo)QD' QBP ZC QD8:Cx:=bB CX P w K mg ς N Qz Qy f cd (QC1::R8) A Id s H E
section
variable{CX:CXT}{P:IO}{w:QV}{K:Qt}{mg:QL->χ η}{ς:Qx}{N fr:γ QL}{x:QL}{Qz:QL}{Qy:TB}{f:θ}{cd:η}{R8:γ QAM}{A:Qo}{Id:γ YH}{s:ω}{H:Hp}{E:XK}{u:η}{v:V}{Xy:γ V}
def ni(S:KM N x fr Qy)QPg QUS(n:bE P w K mg ς A Id s H)QHi(t:h'.Ns s⁻¹ QKp)(e:h'.VS QAb QOK)(G:∀b o,s.π.Δ b<*o->h'.Δ b<*o):g_ (pf CX P w K mg ς N x Qz Qy f cd R8 A Id s H E) [] QNE H {s with π:=h',Qs:=T}:=by
 let g:∀c v,ς.VS c v->h'.VS c v:=λc v D=>by let⟨o,l,B⟩:=D;show(o,G c o (n.bs c o l).1,B)
 let d:∀y c,R8.ρ y<*c->c≠s⁻¹+1:=λy c h=>by
  let⟨v,o,l,_⟩:=C.R9 y c h;show RH (υ.W_ (lt_size (n.bs c o l).1))
 let j:(QC1::R8).ρ x<*QAb:=by rw[TY];simp
 let k:∀{y},y≠x->(QC1::R8).ρ y=R8.ρ y:=λ{y}h=>by rw[TY,show(y==x)=μ by simpa using h]
 let lk:∀{y c},(QC1::R8).ρ y<*c->(y=x/\c=s⁻¹+1)\/R8.ρ y<*c:=λ{y c}h=>by
  by_cases z:y=x
  .rw [z,j]at h;show .RB (z,(χ.δ.Tx h).QU)
  .exact .RF ((k z).QU.ξ h)
 refine eB S.Uz S.fit S.suf C.Sr B n t G (λy z c h1 h2=>?_) (λy m=>?_) (λy c h=>?_) (λi y I h1 p=>?_) λi y I h1 p=>?_
 .rcases lk h1 with⟨R,Q⟩|a<;>rcases lk h2 with⟨O,M⟩|b
  .rw [R,O]
  .exact QG Q (d _ _ b)
  .exact QG M (d _ _ a)
  .exact C.Tx y z c a b
 .by_cases z:y=x
  .rw [z];show(_,j)
  .rw [k z];rcases m with m|m
   .exact QG (S.only _ (Ξ.Sg m) ε) z
   .exact C.Vl _ (Ξ.Sg m) ε
 .rcases lk h with⟨_,z⟩|z
  .rw [z];show((_,e),n.S7.SW (Yo _))
  .obtain ⟨v,o,l,q⟩:=C.R9 y c z;show((v,g c v (o,l,q)),(n.bs c o l).2)
 .obtain ε:i=0:=υ.lt_one_iff.mp (m8 p).1;cases p;let F:(N.Rp 1)[0]?<*y:=by rw[γ.getElem?_take_of_lt (!0)];show h1
  rw[S.pre]at F;cases F;show(u,r,.RF (.RB S.par,_,j,e))
 .obtain ⟨k1,c,J,k2,k3,L⟩:=C.val _ _ _ h1 p;show(J,L,.RF (.RF k1,c,(k λz=>by rw[z,S.par]at k1;cases k1).ξ k2,g c _ k3))
def zR(Z:ς.Δ f<*o)(hd:o.RD=.VL (Ξ.W.fnX So Qz d g Qy R8 .ζ .ζ Tm pm ζ (.ν j) M))(L:ς.SD (.ν j) Qz)(S:KM N x fr Qy)(C:AN ς R8 Qy fr Xy)(Sr:∀vs H Q E,sp vs H Q E->vs.β=[x].β)(i:∀(A:Qo)(Id:γ YH)(s:ω)(H:Hp)(v:V)(Q:VK)(E:XK),am k (A.VQ (envX Qz Qy s⁻¹ f (.ν j) ((x,s⁻¹+1,)::R8)))->sp [v] H Q E->
   ∃t,Bk (pf na P w K mg ς N x Qz Qy f (.ν j) R8 A Id s H E).nox g t/\t {nx:=λ_ H'=>Q .UT H',rt:=Q} (Dx N [v] Xy) H):aa P w K mg ς na (k+1) f (Ξ.W.fnX So Qz d g Qy R8 .ζ .ζ Tm pm ζ (.ν j) M) [x] sp:=by
 refine(Sr,λA Id s H R us vs Q E F z hb r m=>?_);let hl:=Sr _ _ _ _ m;obtain⟨v,ε⟩:∃v,vs=[v]:=by
  match vs,hl with
  |[v],_=>show(v,1)
 let⟨u,ε,U⟩:=B7 r;let D:s.π.NoLimit:=z.mod.nolimit.Tn λb o e=>(z.bs b o e).1;let p:s.π.SD QKs Qz:=by
  let⟨c,O,ws,t,e1,e2,e3,e4⟩:=L;show(c,O,ws,t,e1,(z.bs c O e2).1,e3,e4)
 refine Wv F.depth (z.bs f o Z).1 hd S.co S.gen ε p QEA;refine FO S λh' T G h n=>?_;refine(D.Tn n,codeAny_func ?_);let⟨t,X,Y⟩:=i A Id s H v Q E (F.VQ _) m;let I:g_ QD2 [] QNE H {s with π:=h',Qs:=T}:=ni S C F.hd z U G h n;refine RM (X.nox [] _ QNE H _ I Y) (λfl s' l=>?_) λe s' l=>l;let y:∀{a:St}QDQ{v:V}{u:η},g_ QD2 [] a H' s'->af v u->Q v H'->CE Id P w H s Q u s':=
  λ{a H' v u}J B q=>(v,H',J.os,J.V9,J.ς,J.S7,B,q)
 cases fl with
 |ret u=>
  let⟨v,a,H',J,B,q⟩:=l;show y J B q
 |next=>
  let⟨a,H',J,q⟩:=l;show y (v:=V.UT) (u:=η.ζ) J ε q
 |brk=>
  let⟨_,_,_,q⟩:=l;show Rl.SG q
 |X5=>
  let⟨_,_,_,q⟩:=l;show Rl.SG q
end
instance vBM:γ η:=[.QH "ValueError",.QH "Exception",.QH "BaseException",.QH "object"]
instance w_ QEZ(dd:χ θ)(a0:η):UP:={SN:=.ν C,Ux:=dd,RD:=.R5 #[a0,.ζ,.ζ,.ζ,.T9 μ,.ζ]}
section
variable{P:IO}{w:QV}{A:Qo}{E:η->ω->Prop}{h:Qx}{g:Ry GenState}{d:Drawn}{t:υ}{os:OsState}
variable{nm q:QL}{C N:θ}{bs bm:γ η}{X4:Ω}{sn:γ QL}{VJ:γ η}{ab:Ω}{col:χ Ω}{dd:χ θ}{k0 k1 k2 k3 k5:χ η}
def ve(i:OwnTail h vBM bm)(f:h.Δ C<*Vp nm q C N bs bm X4 sn VJ ab col dd k0 k1 k2 k3 k5 "ValueError.__new__")(u:h.Ns N k)(v:k "__init__"<*.ν fI)(G:h.Δ fI<*s)(F:s.SN=.QH "function")(x:us.β≤Λ)(D:∀h' e,h.SM.Qw≤e->Qx.MadeExcOf h h' e Zq us->Cl QAC A QL2 (λr s'=>r=.ζ/\Q (.done (.ret Z6)) s') E QNF):Cl QAC A (Builtin.«type.__call__» (.ν C::us,[])) Q E QJg:=by
 let a:=Xt;let n:vBM.RO (.QH "ValueError")=ο:=ε;repeat (first|with_reducible refine U2 f ?_|with_reducible refine wpAny_madeBy_exc f ?_|wp_step)
 refine codeAny_call_builtin_code (Code.quiet_builtin _ a.quiet) (wpAny_check_new_subU a n i f ?_);refine codeAny_exc_new_subU a n a i f ?_ x;change Cl _ _ _ _ _ _;let c:∀b o,h.Δ b<*o->((h.Ra {SN:=.QH "tuple",RD:=.V8 us.Θ}).Ra QC2).Δ b<*o:=λb o z=>ol _ (ol _ z);let m:=c _ _ f;let H:=c _ _ G;let n1:((h.Ra {SN:=.QH "tuple",RD:=.V8 us.Θ}).Ra QC2).Ns N k:=let⟨o,I,J,z,r⟩:=u;(o,I,J,c _ _ z,r);let l:((h.Ra {SN:=.QH "tuple",RD:=.V8 us.Θ}).Ra QC2).Δ QQV<*w_ C ζ (.ν h.SM.Qw):=by heap_get
 let j:(η.ν C::bm).RO Zq=ο:=by simp
 let p:=i.Tn (h':=(h.Ra {SN:=.QH "tuple",RD:=.V8 us.Θ}).Ra QC2) c;unfold isInstance;repeat (first|with_reducible refine U2 l ?_|(with_reducible refine wpAny_isSubtype_exc m ?_;rw[j])|wp_step)
 change Cl _ _ (Ye Zq _) _ _ _;refine wpAny_typeLookup_tail m n1 p a.mroIs a.init.ρ ?_;rw[v];refine RZ QDM;unfold bindSpecial;refine f_ (XY (T:="function") (_,H,F) ?_);rw[QC (!0)];refine i_ (f_ (RM (D _ QQV (Yo _) (c,Qx.get?_none_of_le (Yo _),h.SM.Qw,l,Qx.get?_none_of_le Zs,3)) (λr s' y=>?_) λ_ _ z=>z))
 .exact ol _ QNG
 .obtain ⟨rfl,B⟩:=y
  wp_walk
  show B
def kX(c:OwnTail h vBM bm)(a:h.Δ C<*Vp nm q C N bs bm X4 sn VJ ab col dd k0 k1 k2 k3 k5 "ValueError.__new__")(i:h.Ns N j)(l:j "__init__"<*.ν fI)(p:h.Δ fI<*f)(o:f.SN=.QH "function")(m:us.β≤Λ)(n:∀h' e,h.SM.Qw≤e->Qx.MadeExcOf h h' e Zq us->Cl QAC (A.under (.Qu "type.__call__" (.ν C::us,[]))) QL2 (λr s'=>r=.ζ/\Q Z6 s') E QNF):Cl QAC A QMZ Q E QJg:=by
 let u:=tc_lookup;let s:=tc_bind Zq;let b:(QJg:ω).Vh Zq "type":=(_,a,1);refine UX (codeAny_of_tree ?_);change Cl _ _ (callAny Zq _) _ _ _;repeat (any_goals (first|assumption|with_reducible refine U2 a ?_|wp_step))
 refine(1,3);refine codeAny_call_builtin_at (Code.quiet_builtin _ (!3)) entry_typeCall (wpAny_check_type_call_sub a (ve c a i l p o m λh' e k mk=>?_));show n h' e k mk
def qS(f:OwnTail h vBM bm)(l:h.Δ C<*Vp nm q C N bs bm X4 sn VJ ab col dd k0 k1 k2 k3 k5 "ValueError.__new__")(a:h.Δ e<*w_ C ζ QGD)(k:∀h',(∀b o,b≠e->h.Δ b<*o->h'.Δ b<*o)->h'.Δ e<*w_ C ζ (.ν h.SM.Qw)->Q .ζ QNF):Cl QAC A (Ub (.Qu "ValueError.__init__") [.ν e,u]) Q E QJg:=by
 let c:=Xt;let i:e≠h.SM.Qw:=RH (lt_size a);refine UX (U5 c.init.plain c.initEntry (wpAny_check_init_subU c f l a ε ?_))
 wp_walk
 refine k _ (λb o j z=>?_) ?_
 .rw [Re _ _ (Ne.QU j)];show ol _ z
 .rw [Rk _ (ol _ a) ε];rfl
def mE(a:bm.RO (.QH "BaseException")=ο)(i:A.SV=ζ)(k:Cl M A x (λv b=>∃e d2 a0,v=.ν e/\b.π.Δ C=δ (Vp nm q C N bs bm X4 sn VJ ab col dd k0 k1 k2 k3 k5 "ValueError.__new__")/\b.π.Δ e=δ (w_ C d2 a0)/\E Z6 b) E s):Cl M A (raiseStmt QA (δ x) ζ) Q E s:=by
 let c:(η.ν C::bm).RO (.QH "BaseException")=ο:=by rw[γ.contains_cons,a,Ω.or_true]
 unfold raiseStmt;refine f_ (RM k (λv b h1=>?_) λ_ _ z=>z);let⟨e,d2,a0,ε,f,l,j⟩:=h1;let⟨hp,g,d,m,os⟩:=b;repeat (first|with_reducible refine U2 l ?_|with_reducible refine U2 f ?_|(with_reducible refine wpAny_isSubtype_exc f ?_;rw[c])|wp_step)
 show wpAny_raiseNew_none i j
end
abbrev Ce ZZ(C f:θ):Prop:=∃bm N nm qn bs X4 sn VJ ab col dd k0 k1 k2 k3 k5,K.ρ C=δ (Vp nm qn C N bs bm X4 sn VJ ab col dd k0 k1 k2 k3 k5 "ValueError.__new__")/\Ξ.W.tailIn K vBM bm=ο/\Ξ.W.nsOkIn K N=ο/\W6 K N "__init__"<*δ Ze
def w6 QCI QOz(G:h.Ns N m)(e:W6 K N n<*δ v):m n<*v:=by
 let⟨o,f,g,a,d,_,b⟩:=G;unfold W6 at e;split at e
 .rename_i q;let z:=X _ _ q;rw[a]at z;cases z;cases d;split at e
  .rename_i c;rw[<-b];unfold nsFind findBy;rw[<-Ry.find?_toList,c];injection e
  .split at e<;>cases e
 .cases e
def Ce.YQ QCI(q:Ce K C f)QOz:∃bm N nm d bs X4 sn VJ ab col dd k0 k1 k2 k3 k5 e,h.Δ C=δ (Vp nm d C N bs bm X4 sn VJ ab col dd k0 k1 k2 k3 k5 "ValueError.__new__")/\h.Ns N e/\e "__init__"=δ Ze/\OwnTail h vBM bm:=by
 let⟨bm,N,nm,d,bs,X4,sn,VJ,ab,col,dd,k0,k1,k2,k3,k5,a,g,b,c⟩:=q;let G:h.Ns _ _:=.of_isNs (Ξ.W.isNs_of_in X b);show(bm,N,nm,d,bs,X4,sn,VJ,ab,col,dd,k0,k1,k2,k3,k5,_,X _ _ a,G,w6 X G c,Ξ.W.tail_of_in X g)
abbrev NT:η->Ω
 |.ν _=>ο
 |_=>μ
abbrev iV(l:γ η):Ω:=l.dropWhile NT==vBM
def qh(e:iV l=ο):(∀a,refuseLoop a "__setattr__" l=pure ())/\l.RO (.QH "object")=ο/\l.Xd=μ:=by
 induction l with
 |Tw=>cases e
 |Rx v r b=>
  unfold iV at e b;rw[γ.dropWhile_cons]at e;cases h:NT v with
  |μ=>
   rw[h,Fr Ω.Q9]at e;rw[WU e];show(λa=>Ξ.F.store_ValueError.passes a,!0,1)
  |ο=>
   rw[h,QC ε]at e;let⟨h1,h2,_⟩:=b e;obtain⟨c,ε⟩:∃c,v=.ν c:=by cases v<;>first|show QAy|cases h
   show(λa=>(refuseLoop_ref a _ c r).ξ (h1 a),by rw[γ.contains_cons,h2,Ω.or_true],1)
def ow{BT:IO}QE8 QMK QCI QDz(I:Ξ.W.InstAt s.π x ox C t)(hp:(Ξ.W.clsIn K C).VA (λi=>iV i.mro)=ο)(m:takerIn K C So<*ζ)(h:∀b,Cl ZR A.Xq (Builtin.ObjectAttr.storeInOwnDict QBX Zq (.Qn So d) So v b) (λg s'=>match g with|.done f=>R (.ok f) s'|.again k=>k.quiet=ο/\VD ZR A k R s') (λe s'=>R (.WS e) s') s):VD ZR A (.Ub (.Qu "object.__setattr__") ([.ν x,.Qn So d,v],[])) R s:=by
 let⟨i,j,o⟩:=any_some hp;let⟨c,Vl,l⟩:=qh o;let VJ:Looks ZR s.π (isInstance QBX (.QH "object")) ο:=I.QH.andThen (Ξ.W.looks_mroIn X (by unfold Ξ.W.mroIn;rw[j,χ.bind_some,Fr (by rw[l];decide),Vl]));let⟨attr,q,n⟩:=χ.bind_eq_some_iff.mp m;let r:Looks ZR s.π (Builtin.ObjectAttr.storeTaker? attr) ζ:=by
  cases attr with
  |ζ=>show .now
  |δ a=>
   let⟨b,p,e⟩:=AS n;cases b
   .exact (Ξ.W.looks_takesIn X p).andThen .now
   .cases e
 refine U5 Yh.YI.plain Yh.entry (@Ξ.W.check_slot ZR _ _ s "object.__setattr__" "object" "__setattr__" QBX [.Qn So d,v] [] _ Yh.Uz Yh.split VJ (Yh.args QBX (.Qn So d) v) ?_);rw[Ξ.W.osa_eq,refuse_eq];refine f_ (f_ (I.QH.here (f_ (((looks_clsIn X j).andThen .now:Looks ZR s.π (mroOf Zq) i.mro).here ?_))));rw[c];show i_ (f_ (I.QH.here (f_ ((Ξ.W.Yn X q).here (f_ (r.here (h _)))))))
structure lG ZZ QEZ:Prop where
 sa:Ξ.W.TU K Zq "__setattr__"<*δ (.Qu "object.__setattr__")
 po:(Ξ.W.clsIn K C).VA (λcd=>iV cd.mro)=ο
 hd:Ξ.W.hasDictIn K C=ο
structure vV ZZ(R:θ):Prop where
 ga:Ξ.W.specialIn K QQO "__getattribute__"<*δ (.Qu "type.__getattribute__")
 rd:Ξ.W.readsIn K R (.QH "type")=ο
 fc:Ξ.W.findCls K QQO (.QH "type") "__init__"<*.val (.Qu "ValueError.__init__")
section
variable{BT:IO}{w:QV}{A:Qo}{E:η->ω->Prop}{s:ω}{K:Qt}{x C dx:θ}{a0:η}{So:QL}{v:η}{mA:QL->χ η}
def su QDz(h:s.π.Δ x<*w_ C ζ a0)(c:lG K C)(u:takerIn K C So<*ζ)(G:∀h' d,s⁻¹≤d->h'.Δ x<*w_ C QRq a0->h'.Ns1 d (λy=>if y=So then δ v else ζ)->(∀b o,b≠x->s.π.Δ b<*o->h'.Δ b<*o)->Q () {s with π:=h',Qs:=s.Qs+2}):Cl ZR A QH4 Q E s:=by
 let J:Ξ.W.InstAt s.π x (w_ C ζ a0) C ζ:=(h,5,trivial);refine set_plain X J c.sa (ow (s:={s with Qs:=s.Qs+1}) X J c.po u λb=>?_);let⟨H,D,k⟩:=any_some c.hd;refine f_ (i_ (f_ (f_ (wpAny_loadPart h (f_ (Looks.here (s:={s with Qs:=s.Qs+1}) (looks_clsIn X D) ?_))))));rw[k];let n:(s.π.Ra {SN:=.QH "dict",RD:=.Ux #[]}).Δ x<*w_ C ζ a0:=ol _ h;let f:x≠s⁻¹:=RH (lt_size h);refine f_ (wpAny_alloc' (f_ (wpAny_update' n (i_ QDM))));let j:((s.π.Ra {SN:=.QH "dict",RD:=.Ux #[]}).Sm x λo=>{o with Ux:=δ s⁻¹}).Δ s⁻¹<*{SN:=.QH "dict",RD:=.Ux #[]}:=
  (Qx.get?_update_ne _ _ _ _ f.QU).ξ QNG
 let i:((s.π.Ra {SN:=.QH "dict",RD:=.Ux #[]}).Sm x λo=>{o with Ux:=δ s⁻¹}).Ns s⁻¹ QKp:=(_,#[],_,j,1,λe B=>QG B (!1),λ_=>rfl);refine i_ (f_ (wpAny_nsSet1 (Qx.Ns1.of_empty i) λh' g m=>?_));let l:=g.count (Within.Rx So v Within.Tw);let⟨t,_,_,r,q,p⟩:=l;let a:t.RD.pastItsLine=ζ:=q▸pastItsLine_dict (LE p (by rw[Sw];change 1≤_;lia));refine f_ (wpAny_lookBehind r a ?_);refine i_ (G _ _ Zs ?_ g λb o F z=>?_)
 .exact (m.2 x f).ξ (Rk _ n ε)
 .exact (m.2 b (RH (lt_size z))).ξ ((Qx.get?_update_ne _ _ _ _ F).ξ (ol _ z))
def ss QDz(i:s.π.Δ x<*w_ C (δ dx) a0)(h:s.π.Ns1 dx mA)(c:lG K C)(n:takerIn K C So<*ζ)QQB(hsz:ns.β≤Λ)(q:∀h',h'.Ns1 dx QHn->Th dx s.π h'->Q () {s with π:=h',Qs:=s.Qs+2}):Cl ZR A QH4 Q E s:=by
 let⟨m,o,t⟩:=Lu h;let J:Ξ.W.InstAt s.π x (w_ C (δ dx) a0) C (δ m):=(i,5,o);refine set_plain X J c.sa (ow (s:={s with Qs:=s.Qs+1}) X J c.po n λb=>?_);let⟨u,p,f⟩:=any_some c.hd;refine f_ (i_ (f_ (f_ (wpAny_loadPart i (f_ (Looks.here (s:={s with Qs:=s.Qs+1}) (looks_clsIn X p) ?_))))));rw[f];refine i_ (a:=δ dx) (f_ (i_ QDM));refine wpAny_nsSet1 (s:={s with Qs:=s.Qs+1}) h λh' d e=>?_;let g:=d.count QNt;let⟨r,_,_,l,k,j⟩:=g;refine f_ (wpAny_lookBehind l (k▸pastItsLine_dict (LE j (by rw[Rz];show G1 hsz))) ?_);show i_ (q _ d e)
end
abbrev r_(e C:θ)(dd:χ θ):HO:=.ext λh=>∃t0:θ,h.Δ e<*w_ C dd (.ν t0)
abbrev AW(dx:θ)QSO:HO:=.ext λh=>∃mA,h.Ns1 dx mA/\QLV/\Ξ.Within mA QSX
abbrev Bw ZC(e:θ):Hp:=λb=>if b=e then ζ else H b
def CQ(h:b≠e):Bw H e b=H b:=Fr h
def KN:Bw H e e=ζ:=QC ε
section
variable{X:Cx}{QF:γ Z_}{σ:St}{H:Hp}{s:ω}{a C dx:θ}{fs:γ QEr}{f:QL}{y:V}{u:η}{A:Qo}{E:η->ω->Prop}
def OJ(M:X.ex=[])Y_(e:H a<*r_ a C ζ)(c:lG X.K C)QHo(J:af y u)(O:∀d s',H d=ζ->d≠a->g_ X QF σ (QO (QO H a (r_ a C QRq)) d (AW d [(f,y,)])) s'->Q () s'):Cl Y9 A QJ0 Q E s:=by
 let⟨⟨a0,P⟩,_,_⟩:=I.S7 a _ e;refine su I.Xp P c n.taker λh' d D i ns j=>?_;let F:s.π.Δ d=ζ:=Qx.get?_none_of_le D;let l:H d=ζ:=I.S7.SW D;let G:d≠a:=(f' e l).QU;let R:=I.write (x:=a) (e:=a) (o:=r_ a C QRq) (h':=h') (t':=s.Qs+2) (by rw[e];show Tg.Sy) Zv j (_,i) ((a0,i),(_,i),λh1 h2 B k=>by let⟨z,q⟩:=B;show QS9);let h:∀b o,s.π.Δ b<*o->b≠d:=λb o q z=>by rw[z,F]at q;cases q
 refine O d _ l G (R.track (e:=d) (by rw[b_ G];show l) (AM I M F) ?_ (λx c q=>?_) (λp hp=>?_) (_,ns,λg=>?_,λg N=>?_) ?_ ?_)
 .obtain ⟨m,⟨o,S,T,z,_⟩,_⟩:=I.loc;show h _ o z
 .obtain ⟨v,o,r,_⟩:=I.R9 x c q;show h c o r
 .exact h p.1 p.2 (I.pin p hp).1
 .change aJ (γ.ρ g [(f,y,)]) (if g=f then δ u else ζ);by_cases q:g=f
  .let t:(g==f)=ο:=Ua.Sj q;rw[QC q];simp only[γ.ρ,t];show J
  .let t:(g==f)=μ:=Rg.Sj q;rw[Fr q];simp only[γ.ρ,t];show Tg.Sy
 .by_cases q:g=f
  .rw [q];show S_.Sj ε
  .exact QG (show(if g=f then δ u else ζ)=ζ by rw[Fr q]) N
 .obtain ⟨o,_,_,z,_⟩:=ns;show(o,z)
 .exact λh1 h2⟨L,z,r⟩k=>(L,z.at k,r)
def OL Y_(e:H a<*r_ a C (δ dx))(l:H dx<*AW dx fs)(c:lG X.K C)QHo(G:fs.β<1000)(p:af y u)(D:∀s',g_ X QF σ (QO H dx (AW dx (al f y fs))) s'->Q () s'):Cl Y9 A QJ0 Q E s:=by
 let⟨⟨a0,F⟩,_,_⟩:=I.S7 a _ e;let⟨⟨d,t,r,i⟩,_,_⟩:=I.S7 dx _ l;let hz:(fs.QY Z9).β≤Λ:=by rw[j',Sw];show F1 G
 refine ss I.Xp F t c n.taker i hz λh' ns m=>D _ ?_;let j:∃o,h'.Δ dx<*o:=let⟨o,_,_,z,_⟩:=ns;(o,z);refine I.write (x:=dx) (e:=dx) (by rw[l];show Tg.Sy) Zv (λb q B z=>(m.2 b B).ξ z) j ((_,ns,λg=>?_,λg v=>?_),j,λh1 h2 h k=>by let⟨d,z,r⟩:=h;show(d,z.at k,r))
 .change aJ QRL (if g=f then δ u else d g);rw[CH];by_cases q:g=f
  .rw [QC q,QC q];show p
  .rw [Fr q,Fr q];show r g
 .by_cases q:g=f
  .rw [q];show(Js f y fs).1
  .refine (Js f y fs).2 g (i g λz=>v ?_);change (if g=f then δ u else d g)=ζ;rw[Fr q];show z
end
inductive yZ ZZ QNl(D:Y2)QBR(y:V)(x:V)(H2:Hp):Prop
 | mk (a C:_) (_:x=.ν a) (_:lG K C) (_:Ae K C f) (_:((H2 a=δ (r_ a C ζ)/\∀d,H2 d=ζ->d≠a->D.nx σ (QO (QO H2 a (r_ a C (δ d))) d (AW d [(f,y,)]))) \/
  ∃dx fs,H2 a=δ (r_ a C (δ dx))/\H2 dx=δ (AW dx fs)/\fs.β<1000/\D.nx σ (QO H2 dx (AW dx (al f y fs)))))
abbrev OM ZZ(ta tv:TE)QNl:TS:=λD σ H=>tv σ H λy H1=>ta σ H1 (yZ K f D σ y)
def iI(G:X.ex=[])(N:PE X o z)(J:PE X b w)(L:W3 b (δ (.TH o f i)) RX.XI X.QA=pure μ):PS X (.Assign [.TH o f i] b RX) (OM X.K z w f):=by
 intro g s j H D I h;refine plainObj_wpAny_Assign_Attribute (oh (J g s j H _ I h) λu B⟨y,S,R,t,q⟩=>oh (N g B j S _ R q) λF s2 k=>?_) L;let⟨x,T,v,E,a,C,O,c,n,r⟩:=k;subst O;obtain ε:F=η.ν a:=E;rcases r with⟨e,m⟩|⟨dx,fs,e,P,l,m⟩
 .exact OJ G v e c n t λd A M Q p=>(j,_,p,m d M Q)
 .exact OL v e P c n l t λA p=>(j,_,p,m)
inductive wf ZZ ZV ZF QCi:Prop
 |mk (e C f u:_) (_:vs=[.ν e,u]) (_:H1 e<*r_ e C ζ) (_:Ce K C f) (_:Q .UT H1)
abbrev yR ZZ QG3:TE:=λσ H Q=>t σ H (wf K Q)
def sW{p a RX:T6}{pl:Sem Ω}(B:vV X.K R)(Y:X.mg x<*.ν R)(ha:PA X (e::c) t)(Z:Gl X x>>>4)(hd:((x==("__debug__":QL))=μ)>>>0)(he:(Ψ (e::c) X.QA=(μ,SR e X.QA,)::Ψ c X.QA)>>>4)(v:((SJ RX (Ψ c X.QA)).VA (·.1)=μ)>>>4)(U:(SR (.Tl (.TH (.Rn x p) "__init__" a) (e::c) [] RX) X.QA=(do
   let F <-SR QBw X.QA
   standAt a.atName
   let(f,first,) <-holding [F] (getMethod F "__init__" pl)
   callWith RX f first (SJ RX (Ψ (e::c) X.QA)) (Ya RX (WP [] X.QA))))>>>4):PE X (.Tl (.TH (.Rn x p) "__init__" a) (e::c) [] RX) (yR X.K t):=by
 intro l s L H Q I h;refine Ξ.W.methodCall_KW (pl:=pl) (wv I Z Y ?_ hd) U;refine Ξ.W.method_cls I.Xp B.ga (Ξ.W.cls_value I.Xp B.rd B.fc ε ?_);let G:=ha RX l {s with Qs:=s.Qs+1} L H _ QRK h;rw[he]at G⊢;let n:(SJ RX (Zn::Ψ c X.QA)).VA Z9=μ:=by
  change (μ||(SJ RX (Ψ c X.QA)).VA Z9)=μ;rw[v];rfl
 refine Vn.callWith_builtin n (Vn.Xu (oh G λus s2 y=>?_));let⟨vs,E,D,r,j,C,f,u,ev,A,T,q⟩:=y;subst ev;let⟨M,u2,ε,S,ru⟩:=b8 r;obtain ε:M=η.ν j:=S;let⟨⟨a0,eO⟩,_,_⟩:=D.S7 j _ A;let⟨bm,N,nm,qn,bs,X4,sn,VJ,ab,col,dd,k0,k1,k2,k3,k5,mN,cO,nO,iO,O⟩:=T.YQ D.Xp;let⟨hh,g,d,P,os⟩:=s2;refine qS O cO eO λh' m i=>(.UT,E,3,1,q);let J:=D.write (x:=j) (e:=j) (o:=r_ j C ζ) (h':=h') (t':=P) (by rw[A];show Tg.Sy) Zv m (_,i) ((_,i),(_,i),λh1 h2 w k=>by let⟨z,q⟩:=w;show QS9);let eu:QO E j (r_ j C ζ)=E:=by
  funext b;unfold QO;split
  .rename_i z;rw[z,A]
  .rfl
 rw[eu]at J;show J
section
variable{X:Cx}{CX:CXT}{k:υ}{f C:θ}{fd:TQ}{ps:γ QL}{sp:Sp}{E E':XK}{x:QL}{np cpos RX:T6}{e0:SF}{es:γ SF}{t:TA}
def wE{j:St}QTa(S:X.ex=[])QHv(Z:isFn X.K Ze=ο)Zx(U:am (k+1) X.A)(Y:ym X.K fd ps [])(hp:Ex CX X E')(I:g_ X b j H s)QE9(T:us.β≤Λ)(h:∀e,H e=ζ->sp QK' QDv QMc E'):Cl Y9 X.A QMZ (λu s'=>∃e H',u=.ν e/\X.U3.π.Δ e=ζ/\g_ X b j H' s'/\Q Z6 H') X.xe s:=by
 let⟨bm,N,nm,qn,bs,X4,sn,VJ,ab,col,dd,k0,k1,k2,k3,k5,mN,cO,P,R,J⟩:=M.YQ I.Xp;obtain⟨n,fO,fc⟩:∃n,s.π.Δ f=δ n/\n.SN=.QH "function":=by
  let⟨o,q,e⟩:=AS (show χ.QY (λx:UP=>x.SN) (γ.ρ f X.K)<*.QH "function"from Ua.mp Z);show(o,I.Xp _ _ q,e)
 let⟨hh,g,d,m,os⟩:=s;refine kX J cO P R fO fc T λh' e es mk=>?_;let⟨t0,G,tn,tO⟩:=mk.Ut;let l:g_ X b j QDv (h',g,d,m,os):=I.X3 (a:=e) (o:=r_ e C ζ) (h':=h') (t':=m) mk.Tn es ((_,G),(_,G),λh1 h2 p k=>by let⟨z,q⟩:=p;show QS9);let D:=h e (I.S7.SW es);let B:ae (V.ν e::vs) QD3:=.Rx ε r;let W:(η.ν e::us).β=ps.β:=by
  let z:=B.β;rw[F.Sr _ _ _ _ D]at z;show z.QU
 let i:=Y (h',g,d,m,os) QD3 l.Xp;rw[UA]at i;refine UX (Ts (F.SZ _ X.RG _ _ QT3 QD3 _ _ E' (U.make C us []) (l.env0.make C us []) (i W) B D) λr s' c=>?_);cases r with
 |WS y=>show hp b j _ _ y s' l c
 |ok fl=>
  cases fl with
  |ret u=>
   let⟨v,H',I3,L,y,O⟩:=l.after c;subst y;show(L,e,H',1,AM I S mk.new,I3,O)
  |next=>show Rl.SG c
  |brk=>show Rl.SG c
  |X5=>show Rl.SG c
abbrev QX QEZ QD8:VK:=λv H=>match v with
 |.ν e=>∃d,H e=δ QS_/\E Zq QEG QD4
 |_=>Rl
abbrev pA QC9 QD8:Prop:=∀ZJ QBR ZC QBP(e C:θ)(d:χ θ),g_ X QF σ H s->H e<*r_ e C d->X.U3.π.Δ e=ζ->E Zq QEG QD4->X.xe Z6 s
def xv(Y:X.ex=[])QBm(L:X.QA.Vy<*X.QA.SQ){Q:St}(I:g_ X m Q H s)(j:H e<*r_ e C d)QQa(q:E Zq QEG QD4):Cl Y9 X.A (Wi X.QA Z6) (λ_ l=>Ah X.BT X.w X.Id X.H₀ X.U3 E Z6 l) (λe' l=>Ah X.BT X.w X.Id X.H₀ X.U3 E e' l) s:=by
 let J:s.π.TF X.ς QBG:=WB▸I.RG;let⟨⟨a0,eO⟩,_,_⟩:=I.S7 e _ j;let VJ:∀b∈rf QBG,b∈e::rf X.RG:=λb a=>QP _ (WB▸a);let r:∀b u,H b<*u->b≠e->Bw H e b<*u:=λb u z n=>(CQ n).ξ z;refine wx (Ao _ _) (wpAny_leaving_firstW (ς:=Vx s.π QO0) (a0:=.ν a0) (by rw[<-WB];show I.ok.Uv) (Hg J VJ) L eO QS' (UH _ Rh) ε ε ε λh' hL dk=>?_);let⟨k1,⟨_,_,k2⟩,k3,S⟩:=hL;let fr:∀b∈rf X.RG,∃o,s.π.Δ b=δ o/\∀vs,o.RD≠.R5 vs:=Gv I.RG;let g:∀b o,s.π.Δ b<*o->b≠e->b∉rf X.RG->h'.Δ b<*o:=λb o z n a=>k1 b o (VM _ z λp=>(QW.mp p).SG n a);let⟨T,W,D⟩:=ny k3;let O:∀b,H b=ζ->b≠e:=λb z y=>by rw[y,j]at z;cases z
 let G:Un QBe [] H QD4 s.π h':=by
  refine(λb o z n a _=>g b o z (O b n) a,λb o z n a _=>?_,λb o z n _=>by rw[CQ (O b n)];show n,λb o z _=>?_,λb xs z=>r b _ z (n7 z j (by intro y;cases y)),λb o u z=>r b _ z (n7 z j (by intro y;cases y)),λb ps z=>(#[],3))
  .obtain ⟨o',h,M⟩:=fr b a;rw[z]at h;cases h;show S b _ z M
  .by_cases a:b∈rf X.RG
   .obtain ⟨o',h,M⟩:=fr b a;rw[z]at h;cases h;let⟨sl,F⟩:=S b _ z M;show(_,F)
   .by_cases Z:b=e
    .subst Z;let⟨oe,_,_,_,F,_⟩:=D;show(oe,F)
    .exact (o,g b o z Z a)
  .rw [Ry.append_empty];show r b _ z (n7 z j (by intro y;cases y))
 let i:Aj X.BT X.w QD4 h':=λb u z=>by
  let a:b≠e:=λy=>by rw[y,KN]at z;cases z
  rw[CQ a]at z;refine(I.S7 b u z).Wq (λc v B y=>?_) (λc y=>r c _ y (n7 y j (!5))) λc xs y=>r c _ y (n7 y j (!5));let hH:∃R,H c=δ R/\c≠e:=by
   rcases B with ε|B
   .exact (u,z,a)
   .exact (_,B,n7 B j (!5))
  let⟨R,hw,N⟩:=hH;show g c v y N λp=>by rw[I.XZ c p]at hw;cases hw
 let P:g_ X m Q QD4 {s with π:=h',Wr:=s.Wr,XX:=s.XX,Qs:=s.Qs}:=I.Ub (g':=s.Wr) (d':=s.XX) (t':=s.Qs) (ch:=[]) G i I.V9 ZA;let dT:s.π.Δ T=ζ:=by
  cases z:s.π.Δ T with
  |ζ=>rfl
  |δ o=>
   let h1:=LI D P.RG;let h2:T≠e:=by let⟨_,_,_,_,_,_,_,_,y,_⟩:=D;show y
   rw[VM _ z λp=>(QW.mp p).SG h2 h1]at W;cases W
 let U:=P.ς;rw[Y]at U;let TN:=Kn I.S7 dT;show⟨e,T,.ν C,.ν a0,d.QY (·,ο,),Bw H e,ε,P.os,I.V9,U,i,d0,AM I Y dT,KN,by rw[CQ (O T TN)];show TN,D.up dk eO (λx z=>by
  let⟨y,hy,ε⟩:=AS z;show(hy,λ_=>rfl)),q⟩
abbrev nX(s0:Qx)QEZ QNw(E E':XK)QG3:TS:=λ_ σ H=>t σ H λvs H1=>vs.β≤Λ/\∀e,H1 e=ζ->sp QK' (QO H1 e (r_ e C ζ)) (λv H2=>v=.UT/\∃d,H2 e=δ QS_/\E Zq QEG (Bw H2 e)) E'
def qd(Y:X.ex=[])QRA(hT:pA X E)QHv(fn:isFn X.K Ze=ο)Zx(hr:am (k+1) X.A)QQb(hp:Ex CX X E')QTA(ha:PA X QRr t)(hg:Gl X x>>>4)(hd:((x==("__debug__":QL))=μ)>>>0)(O:(Ψ QRr X.QA=(μ,SR e0 X.QA,)::Ψ es X.QA)>>>4)(p:((SJ cpos QEY).VA Z9=μ)>>>4):PS X (.Raise (δ (.Tl (.Rn x np) QRr [] cpos)) ζ RX) (nX X.ς C sp E E' t):=by
 intro b s n H D I h;let⟨bm,N,nm,L,bs,X4,sn,VJ,ab,col,dd,k0,k1,k2,k3,k5,mN,cO,nO,iO,S⟩:=M.YQ I.ok.mod.kin;rw[arm_exec_Raise];refine f_ (UB (mE (C:=C) (nm:=nm) (q:=L) (N:=N) (bs:=bs) (bm:=bm) (X4:=X4) (sn:=sn) (VJ:=VJ) (ab:=ab) (col:=col) (dd:=dd) (k0:=k0) (k1:=k1) (k2:=k2) (k3:=k3) (k5:=k5) (S.hasType Xt.hasBase) (I.ok.hd hc)
  (f_ (RM (wpAny_Call_ofName (wv I hg hm ?_ hd)) (λv J h3=>f_ (UB (i_ h3))) λ_ _ z=>z))))
 let P:=ha cpos b s n H _ I h;let o:(SJ cpos (Ψ QRr X.QA)).VA Z9=μ:=by rw[O];change QLu=μ;rw[p];rfl
 let R:∀{m:St}QDQ{s':ω},g_ X b m H' s'->s'.π.Δ C<*Vp nm L C N bs bm X4 sn VJ ab col dd k0 k1 k2 k3 k5 "ValueError.__new__":=λI'=>I'.bk _ _ cO;unfold callWith;refine f_ (RZ (RM (Q:=λ(a:Args)s2=>a.kw=[]/\∃vs g,g_ X b n g s2/\ae vs a.RX/\vs.β≤Λ/\∀e,g e=ζ->sp QK' (QO g e (r_ e C ζ)) (λv l=>v=.UT/\∃d,l e=δ QS_/\E Zq QEG (Bw l e)) E') ?_ QNH λ_ _ z=>z))
 .rw [O]at P⊢;show Vn.Xu (oh P λus s2 y=>by let⟨vs,g,j,i,r,q⟩:=y;show(1,vs,g,j,i,r,q))
 let⟨c,B⟩:=a;let⟨u,vs,g,j,i,r,q⟩:=h2;obtain ε:B=[]:=u;let⟨ag,g2,d2,T,W⟩:=s2;simp only[o];refine f_ (wpAny_keeperOf_exc (R j) ?_);refine f_ (RM (wE (Q:=QX C E) Y M fn F hr hb hp j i (by change c.β≤Λ;let z:vs.β=c.β:=i.β;rw[<-z];show r) λe hn=>q e hn) (λv J Z=>f_ QN4) λ_ _ z=>z);let⟨e,l,ε,d0,G,d,h1,h2⟩:=Z;let⟨⟨U,eO⟩,_,_⟩:=G.S7 e _ h1;show(e,d,.ν U,1,R G,eO,hT b n l J e C d G h1 d0 h2)
def jN{P:IO}QE8 QCI QEN{ς:Qx}QTk:pA (aY QBC P w K mg ς N Qz a f g A Id s H E) E:=
 λb h j i e C d I h1 h2 c=>xv (X:=aY QBC P w K mg ς N Qz a f g A Id s H E) ε ε ε I h1 h2 c
end
section
variable{X:Cx}{QF:γ Z_}{σ:St}{H:Hp}{s:ω}{x y fx:QL}{R:θ}{j k:υ}{np hpos RX p cp yp ap:T6}{b0:Rb}{suite:γ Rb}{ts:TS}{D:Y2}{ps:γ QL}{sp:Sp}{e:SF}{es:γ SF}{t:TA}
end
end L2
namespace RA
open L2
inductive yy ZC(wy mk p:θ)QCF Zg(most:υ)QJ4 QBR QAe:Prop
 |mk QKb (S0:γ θ) (s4 s5:χ V) (_:m=jK W.β QCq) (_:σ=[δ (.ν wy),δ (.ν mk),δ (.QB (most:ψ)),δ Zh,s4,s5]) (_:a_ H H') (_:H' p<*.QM QF') QOD (_:Hi H' S0 W B) (_:∀i<k,Rd W B (i+1)≠Rd W B i)
def Dj.sameL(h:Dj H b R)QA5:Dj H' b R:=(h.1,λi a r d c=>s _ _ (h.2 i a r d c))
def Dj.YO(h:Dj H b R)(c:r<R.β):∃a,b[r]?=δ a/\H a<*.QM (b' (R.Φ r [])):=by
 let d:r<b.β:=by rw[h.1];show c
 refine(b[r],h_ d,3);rw[n0,h_ c];show h.2 r _ _ (h_ d) (h_ c)
def Dj.toQ(h:Dj H a R):yw H a R:=λi r e=>by
 let b:i<R.β:=by rw[<-h.1];show(m8 e).1
 show(R[i],h_ b,_,.RB ε,h.2 i r _ e (h_ b))
abbrev fJ:υ->LL
 |0=>[[]]
 |n+1=>fJ n++(fJ n).QY (·++[n])
def jQ:∀n,(fJ n).β=2^n
 |0=>rfl
 |n+1=>by
  rw[fJ,u4,j',jQ n,υ.pow_succ];lia
def jR(h:n≤8):(fJ n).β≤256:=by
 rw[jQ];show υ.pow_le_pow_right (!0) h
def KO(p:υ->Ω):∀n,(γ.Q' n).VF p∈fJ n
 |0=>by simp[fJ]
 |n+1=>by
  rw[γ.range_succ,γ.filter_append,fJ];cases h:p n with
  |μ=>
   rw[γ.filter_cons_of_neg (by simp[h]),γ.filter_nil,UA];show U1 _ (KO p n)
  |ο=>
   rw[γ.filter_cons_of_pos h,γ.filter_nil];show Rj _ (Su.Sj (_,KO p n,1))
abbrev bA QCF(S:LN)QEO:LN:=(γ.Q' W.β).VF λr=>S.RO (Tf W r j)
abbrev Bo QCF Zg:LN:=(γ.Q' W.β).VF λr=>B.Φ r μ
abbrev uK(S:LN):Ω:=S.RO 0
section
variable{L:LN}{W:LL}{B:γ Ω}{g:LN->υ->LN}{s:LN}{mk:LN->Ω}{ks ws R:LL}{Bm:γ Ω}
def JT(k:BL L)(l:Bf g L s ks ws ks.β 0)QCN(b:R.β=ks.β)QGt(e:ks.β≤2100):hI L R Bm where
 lt:=k
 n1:=by rw[b];show(m8 l.t0).1
 n60:=by rw[b];show e
 bl:=bl
 YO:=λr h=>by
  let⟨i,d⟩:=RQ.mp h;let c:i<ks.β:=by rw[<-b];show(m8 d).1
  let⟨h1,h2⟩:=a.YO i r _ d (h_ c);refine(h1,λx f=>?_);let⟨q,j⟩:=RQ.mp f;rw[b];show(m8 (h2 q x j)).1
def KP(v:LN)QMM:ba g L s (v++[c])=g (ba g L s v) QAV:=by
 unfold ba;rw[γ.Yu];rfl
def Mg(p:Bf g L s ks ws ks.β 0)QCN(j:R.β=ks.β):∀QBM QFZ,w.β=n->QAS->ks[SZ L R 0 w]?<*ba g L s w:=by
 intro n;induction n with
 |V5=>
  intro w hw _;rw[Sq.mp hw];show p.t0
 |Vf n h=>
  intro w hw f;obtain⟨c,v,ε⟩:∃c v,w=v++[c]:=(w.Ys (by intro z;rw[z]at hw;cases hw),w.Xw,(Se _).QU);let h1:=h v QCl λx i=>f x (by simp[i]);let b:L.QJ c<L.β:=QE (f c (!1));let e:SZ L R 0 v<R.β:=by rw[j];show(m8 h1).1
  let⟨d,o⟩:=a.YO _ _ _ (h_ e) h1;let m:=o QAV _ (h_ (by rw[d];show b));rw[Ef,KP];let k:AE L R (SZ L R 0 v) c=R[SZ L R 0 v][L.QJ c]'(by rw[d];show b):=by
   unfold AE;rw[n0 (l:=R),h_ e];change (R[SZ L R 0 v]).Φ _ 0=_;rw[n0,h_ (by rw[d];show b)];rfl
  rw[k];show m
def JU(h:Bf g L s ks ws ks.β 0)QCN(f:R.β=ks.β)QGt(d:∀QPT QES QPS,ks[r]?<*k->Bm[r]?<*b->b=mk k)QEi:Bm.Φ QOw μ=mk QOs:=by
 let h1:=Mg h a f _ w ε hw;let e:SZ L R 0 w<Bm.β:=by rw[bl,f];show(m8 h1).1
 rw[n0,h_ e];show d _ _ _ h1 (h_ e)
def rN(e:hI L W B):∀QMp,ZK->∀r,r<W.β->((ba (bA W) L QRs u).RO r=B.Φ (SZ L W r u.Ru) μ):=by
 intro u f;obtain⟨n,b⟩:∃n,u.β=n:=QAy;induction n generalizing u with
 |V5=>
  intro r a;rw[Sq.mp b];change (Bo W B).RO r=_;unfold Bo;rw[Ω.TV,Ur,VO,RN];show QQc
 |Vf n h=>
  intro r a;obtain⟨c,v,ε⟩:∃c v,u=v++[c]:=(u.Ys (by intro z;rw[z]at b;cases b),u.Xw,(Se _).QU);let j:c∈L:=f c (!1);let d:Tf W r QAV<W.β:=BA e a (QE j);rw[KP,γ.reverse_append];change _=B.Φ (SZ L W QOl v.Ru) μ;rw[<-h v (λx i=>f x (by simp[i])) QIF _ (by rw[FH];show d),FH];unfold bA;rw[Ω.TV,Ur,VO,RN];show QQc
def lY QST(b:∀c∈u,c∈L):uK (ba (bA W) L QRs u)=B.Φ (SZ L W 0 u.Ru) μ:=rN a u b 0 a.n1
end
def eE(a:υ):∀S:LN,Hb QO1 (b' S)=S.RO a
 |[]=>rfl
 |x::S=>by
  let e:Hb QO1 (b' (x::S))=(((x:ψ)==(a:ψ))||Hb QO1 (b' S)):=ε;rw[e,eE a S,γ.contains_cons];congr 1;rw[Ω.TV,Ua,Ua];constructor
  .intro z;show(ψ.ofNat_inj.mp z).QU
  .intro z;rw[z]
def Ab:(γ.Q' (i+1)).VF p=(γ.Q' i).VF p++(if p i then[i]else[]):=by
 rw[γ.range_succ,γ.filter_append];cases h:p i with
 |μ=>rw[γ.filter_cons_of_neg (by simp[h]),γ.filter_nil];rfl
 |ο=>rw[γ.filter_cons_of_pos h,γ.filter_nil];rfl
end RA
namespace L2
open PySem.Spec PyProof.Rows
section
variable{X:Cx}{elt UG:SF}{x:QL}{px RX:T6}{ifs:γ SF}{sc:TB}{wi:TI}{tt:TT}{te:TE}
end
def mK ZZ QDs:Ad X (Sv .In) (Ny K μ):=by
 subst a;show gK
inductive mh ZV ZF QCi:Prop
 |mk (a b xs ys:_) QQd (_:H1 a<*.RJ xs) (_:H1 b<*.RJ ys) (_:xs.β=ys.β) (_:xs.β≤1000000) (_:∀(l:θ)QRh(H2:Hp),ts.β=xs.β->ts.Rq->H1 l=ζ->a_ H1 H2->H2 l<*.QM QEg->(∀Zi(t:θ)QLW,ts[i]?<*t->xs[i]?<*x->ys[i]?<*y->H2 t<*.RJ [x,y])->Q QFM H2)
abbrev pR QTZ:TE:=λσ H Q=>ta σ H (mh Q)
def kf{p m RX f:T6}(w:X.Wm=ο)(F:Gl X "list")(D:X.mg "list"=ζ)(E:Gl X "zip")(C:X.mg "zip"=ζ)(ha:PA X [a,b] Y)(S:(Ψ [.Tl (.Rn "zip" m) [a,b] [] f] X.QA=[(μ,SR (.Tl (.Rn "zip" m) [a,b] [] f) X.QA,)])>>>4)(B:QIi>>>4)(r:((SJ f (Ψ [b] X.QA)).VA Z9=μ)>>>4):PE X (.Tl (.Rn "list" p) [.Tl (.Rn "zip" m) [a,b] [] f] [] RX) (pR Y):=by
 intro l s U H Q I h;refine RT (va I F D WY ?_);refine Sz.Ws.S8 (e:=.Tl (.Rn "zip" m) [a,b] [] f) (XQ:=[]) ?_ S ε;rw[S];change Cl _ _ (spliced ((μ,SR (.Tl (.Rn "zip" m) [a,b] [] f) X.QA,)::SJ RX [])) _ _ s;refine Vn.Yi (RT (va I E C boot_zip (Sz.Ws.S8 (oh (ha f l s U H _ I h) λus v G=>?_) B r)));let⟨vs,H1,k,Z,A,z,xs,ys,ev,o,n,hl,u,q⟩:=G;subst ev;let⟨u1,u2,ε,e1,e2⟩:=b8 Z;cases e1;cases e2;let⟨ag,px⟩:=jX (d:=.tp A) k o;let⟨ab,py⟩:=jX (d:=.tp z) k n;refine ZP.Dy (d1:=.tp A) (d2:=.tp z) px py λg J O N g1 g2 gk=>Vn.spliced_nil ?_;let M:v⁻¹+5≤g.SM.Qw:=lt_size J;refine uk (d1:=.tp A) (d2:=.tp z) (s:={v with π:=g}) (k.ok.hd w) (by constructor<;>show Km (!6)) (k.WE (t':=v.Qs) gk) (λc w=>?_) J (.RB (J,7,N),O,g1,g2) hl u o n λT s2 ts I2 W L=>(.ν g.SM.Qw,T,I2,1,q g.SM.Qw ts T W L.nd L.new L.SL L.QM λi t x y h1 h2 h3=>?_)
 .let j:v⁻¹≤c/\c<g.SM.Qw:=by
   simp only[QW,Si,T8]at w;rcases w with ε|rfl|rfl|rfl|rfl<;>show(by first|show VP _ _|show QD _,LT (by first|show υ.lt_add_of_pos_right (!0)|show υ.add_lt_add_left (!0) _) M)
  show(k.fpOk j.1 (k.S7.SW j.1),j.2)
 .obtain ⟨_,_,R,P,q3⟩:=L.Rc i t h1;rw[h2]at R;rw[h3]at P;cases R;cases P;show q3
def GG(Wd:Hl X U l H d)QCh QBv(m:Xy.β=f.β)(n:∀Zi(y:QL)(v:V),f[i]?<*y->Xy[i]?<*v->(∃j:υ,X.N[j]?=δ y/\l[j]?<*δ v)/\X.QA.Qy.QI.ρ y=δ .R9/\sc.QI.ρ y<*.SA):AN d b sc f Xy:=by
 refine(λy z c h1 h2=>Wd.Tx y z c QQe QQf,Vl,λy c h=>Wd.R9 y c QTB,m,λi y v h1 h2=>?_);let⟨⟨j,t,s⟩,r,k⟩:=n i y v h1 h2;let⟨a,e⟩:=Vl (y,.SA,) (Ξ.Sg k) ε;let⟨c,u,q,p,o⟩:=Wd.val j y v t s r;let g:=VJ _ _ e;rw[q]at g;cases g;show(k,_,u,e,p,o)
def jq(b:∀y,a.ρ y=ζ)(f:∀y∈sc.QI,y.2≠.SA):AN h a sc [] []:=by
 refine(λy z c h1 _=>?_,λy d e=>QG e (f y d),λy c e=>?_,1,λi y v h1 _=>by simp at h1)
 .rw [b]at h1;cases h1
 .rw [b]at e;cases e
def Ib{P:IO}{w:QV}{K:Qt}{mg:QL->χ η}{ς:Qx}{st:Rb}{g d kV Tm pm ct:η}(lk:K.ρ f<*(g,h,.VL (U9 x Qz (t_ st) (n' st) (hY st) d kV Tm pm an (.ν c) ct),e))(b:UN K (.ν c) Qz=ο)(S:s_ N ps (hY st))(Sr:∀vs H Q E,sp vs H Q E->vs.β=ps.β)(a:∀(A:Qo)(Id:γ YH)(s:ω)(H:Hp)(vs:γ V)(Q:VK)(E:XK),am k (A.VQ (W8 Qz (hY st) s⁻¹ f (.ν c)))->sp vs H Q E->
   ∃t,Bk (aY (Ah P w) P w K mg ς N Qz (hY st) f (.ν c) A Id s H E) (n' st) t/\t {nx:=λ_ H'=>Q .UT H',rt:=Q} (WG N vs) H):aa P w K mg ς (Ah P w) (k+1) f (U9 x Qz (t_ st) (n' st) (hY st) d kV Tm pm an (.ν c) ct) ps sp:=kO lk b S Sr a
abbrev B5 QIo:Prop:=∀b o,(∀ps,o≠.tbl ps)->H b<*o->H' b<*o
def B5.of QA5:B5 H H':=λb o _ e=>s b o e
def B5.ξ(a:B5 H d)(b:B5 d H'):B5 H H':=λx o c e=>b x o c (a x o c e)
def B5.ofX(s:BY P0 H H')(c:AH H P0 Rt):B5 H H':=λb o a e=>s b o (λz=>by
 let⟨ps,d,_⟩:=c;rw[z,d]at e;cases e;show a _ ε) e
def B5.RJ QO2:∀b xs,H b<*.RJ xs->H' b<*.RJ xs:=λb xs e=>s b _ ZA e
def B5.QM QO2(e:H b<*.QM xs):H' b<*.QM xs:=s b _ ZA e
abbrev JV ZC QBz QBI:Prop:=H a<*.RJ xs\/H a<*.QM xs
def JV.SL(h:JV H a xs)QG' QHA:JV H' a xs:=h.imp (t _ _) (l _ _)
inductive rIxV(x:V)(y:V)ZC ZV:Prop
 |mk QJP QBI (i:ψ) (z:V) QIY QLt (_:JV H p xs) (_:Am xs i<*z) (_:Q z H)
def zK:CK X rIxV:=by
 intro a b c s e H x y v u Q I g f h j;obtain⟨p,xs,i,z,m,l,d|d,k,q⟩:=h
 .exact ef a b c s e H x y v u Q I g f (p,xs,i,z,m,l,pu.of d,k,q) j
 .exact cG a b c s e H x y v u Q I g f (p,xs,i,z,m,l,lb.of d,k,q) j
end L2
namespace RA
open L2
inductive Dk ZC QP0 Zp QCF Zg:Prop
 |mk QUP QDf QHp QTu (_:JV H mk QCm) QMo (_:∀Zi QBz,Ta[i]?<*a->∃ws,W[i]?=δ ws/\H a<*.RJ QM1)
def Dk.UF QNp QG' QHA:Dk H' m L W B:=by
 let⟨d,mk,c,h1,h2,j,g,f⟩:=h;refine(d,mk,c,t _ _ h1,t _ _ h2,j.SL t l,g,λi a e=>?_);let⟨ws,n,k⟩:=f i a e;show(ws,n,t _ _ k)
def v_.l:v_ H m L W B->Dk H m L W B:=λ⟨b,c,a,h1,h2,f,e,d⟩=>(b,c,a,h1,h2,.RB f,e,d)
def Dk.SL QNp QA5:Dk H' m L W B:=h.UF (λb xs e=>s b _ e) λb xs e=>s b _ e
def Dk.ofT QNp QO2:Dk H' m L W B:=h.UF s.RJ λb xs e=>s.QM e
def yf QO2 QML:lb K H' a xs:=by
 rcases h with(h|⟨o,h⟩)|h
 .exact .RB (.RB (s.QM h))
 .exact .RB (.RF (o,s _ _ ZA h))
 .exact .RF h
inductive KQ(cW P0:θ)QG6 ZF ZC ZV Zk:Prop
 | mk (m:θ) (L:LN) (W:LL) (B:γ Ω) (_:vs=[.ν m]) (_:Dk H m L W B) (_:hI L W B) (_:AH H P0 Rt) (_:∀(wk t wd y md:θ)(ks:LL)(vks:γ V)(ws:LL)(Ta:γ θ)(R:LL)(Bm:γ Ω)(H':Hp),BY P0 H H'->AH H' P0 Rt->GD H' cW wk L t wd y md->H' t<*.QM vks->bD .i H' ks vks->H' wd<*.QM (ms ws)->H' y<*.QM (Ta.QY V.ν)->Dj H' Ta R->H' md<*.QM (Bm.QY V.bl)->
  Bf (gW W) L [0] ks ws ks.β 0->Cv (gW W) L.β ks R->R.β=ks.β->Bm.β=R.β->(∀(r:υ)(k:LN)(b:Ω),ks[r]?<*k->Bm[r]?<*b->b=mkW B k)->(∀k∈ks,k∈uW W)->ks.β≤W.β->Q (.ν wk) H')
abbrev gP QJ5 QES QEO:LN:=[Tf W1 (k.Φ 0 0) j,Tf W2 (k.Φ 1 0) j]
abbrev uP(n1 n2:υ):LL:=(γ.Q' n1).flatMap λa=>(γ.Q' n2).QY λb=>[a,b]
abbrev NU QIG QEQ QES:Ω:=Xl (B1.Φ (k.Φ 0 0) μ) (B2.Φ (k.Φ 1 0) μ)
def rJ(e:a<n1)(d:b<c):[a,b]∈uP n1 c:=by
 unfold uP;rw[X_];show(a,RN.Sj e,Su.Sj (b,RN.Sj d,1))
def lT(h:k∈uP n1 c):∃a b,k=[a,b]/\a<n1/\b<c:=by
 unfold uP at h;let⟨a,e,h⟩:=X_.mp h;let⟨b,d,ε⟩:=Su.mp h;show(a,b,1,RN.mp e,RN.mp d)
def yD(n1 a:υ):(uP n1 a).β=n1*a:=by
 unfold uP;rw[γ.length_flatMap];simp[γ.map_const',γ.sum_replicate_nat]
def ya(h1:n1≤8)(h2:a≤8):(uP n1 a).β≤64:=by
 rw[yD];show υ.mul_le_mul h1 h2
def ON(h1:hI L d j)(h2:hI L c i):∀k∈uP d.β c.β,∀q,q<L.β->gP d c k q∈uP d.β c.β:=λk f q e=>by
 let⟨a,b,ε,h,g⟩:=lT f;show rJ (BA h1 h e) (BA h2 g e)
def NV QRU{e d:LL}:∀QMp(a b:υ),ba (gP e d) L [a,b] u=[SZ L e a u,SZ L d b u]
 |[],_,_=>rfl
 |c::u,a,b=>NV u (Tf e a QAV) (Tf d b QAV)
inductive dh QIG ZF ZC ZV Zk:Prop
 |mk (a b:Ω) (_:vs=[.bl a,.bl b]) (_:Q (.bl (Xl a b)) H)
structure OO QKa Z' ZZ Z3 ZC(g cg:θ)QIG:Prop where
 ex:∃(Qz:QL)(Ss:UW)(body:SF)(sc:TB)(R8:γ QAM),H g=δ (oJ g Qz Ss body sc R8 cg)/\H cg=δ (p_ cg Qz)/\
  (∀(YF:Qx)(pm ctv:η),YF.Δ g<*YB "<lambda>" Qz Ss body sc R8 pm cg ctv->YF.SD (.ν cg) Qz->aa P w K mg YF na 1 g (kla_fn "<lambda>" Qz Ss body sc R8 pm (.ν cg) ctv) ["one","two"] (dh Xl))/\
  ∀pm ctv:η,ym K (kla_fn "<lambda>" Qz Ss body sc R8 pm (.ν cg) ctv) ["one","two"] []
end RA
namespace L2
open PySem.Spec PyProof.Rows
section
variable{X:Cx}{elt UG:SF}{x y:QL}{px py pt RX:T6}{kt:υ}{sc:TB}{wi:TI}{te:TE}
end
def rz(bs:γ Ω):(γ.Q' bs.β).VA (λi=>bs.Φ i μ)=bs.VA id:=by
 rw[Ω.TV,WZ,WZ];constructor
 .rintro⟨i,a,h⟩;let a:=RN.mp a;rw[n0,h_ a]at h;show(bs[i],RY a,h)
 .rintro⟨b,c,h⟩;let⟨i,a,ε⟩:=γ.Y7.mp c;refine(i,RN.Sj a,3);rw[n0,h_ a];show h
def ij(E:X.Wm=ο):B6 X (.Qu "any") (λxs H Q=>∃(a:θ)(bs:γ Ω),xs=[V.ν a]/\H a=δ (.QM QOr)/\Q (.bl (bs.VA id)) H):=by
 intro j s J H xs us Q I r h;let⟨a,bs,ε,t,q⟩:=h;let⟨L,ε,C⟩:=B7 r;cases C;let⟨Rc,g,p,hz⟩:=I.U0 (lb.of t);let m:s.π.IsList a Rc.Θ:=p.UZ;let f:a<s⁻¹:=I.S7.lt t;let l:Rc.Θ.Qw=bs.β:=by
  let h2:=g.β;rw[j']at h2;simp;lia
 refine call_any_walk (Vi m ?_);refine(s⁻¹,7,7,_,λi=>bs.Φ i μ,1,Walks.U0 (BT:=X.BT) (w:=X.w) (A:=X.A.Xq) (I.ok.hd E) s⁻¹ a (RH f) Rc.Θ,(QBB,m.at λo e=>ol _ e),3,λh' z D=>?_)
 .intro i v s' G M k d;let n:i<bs.β:=by rw[<-l];show(Ry.Sl.mp k).1
  let⟨y,F,B⟩:=g.get (i:=i) (x:=.bl bs[i]) (by rw[nq,h_ n];rfl);have:v=y:=by
   let c:Rc.Θ[i]?<*v:=k;rw[γ.W7,F]at c;show(χ.δ.Tx c).QU
  subst this;cases B;let e:bs.Φ i μ=bs[i]:=by rw[n0,h_ n];rfl
  let d:G (bs.Φ i μ) s':=d;rw[e]at d;show To d
 .rw [l,rz];show(.bl (bs.VA id),H,I.WE (t':=z) λb o u=>D b o (by simp;show RH (lt_size u)) (ol _ u),1,q)
abbrev e_ QJ4:LN:=(γ.Q' 8).VF λk=>m.Vj k
abbrev av(led:Ω)(ks:LN):Va:=(if ks.β<5 then 7 else 31,ks.Θ,#[],(0),led,if ks.β<5 then 0 else 1,ο)
abbrev AL(ks:LN)QKb:υ:=(ks.VF (· < k)).β
abbrev vh(ks:LN)QKb:LN:=ks.Rp (AL ks k)++k::ks.Uq (AL ks k)
abbrev DY(t:Va)(ks:LN):Va:={t with Tz:=ks.Θ}
abbrev jy(led:Ω)(m k:υ):Ω:=
 letI ks:=e_ m
 letI t:=av led ks
 letI ks':=vh ks k
 ks.RO k||(decide (t.freeSlot (k:ψ)<*(k,μ,))&&decide (t.put k=(DY t ks',AL ks k,))&&(DY t ks').fits ks'.β &&
  (if (DY t ks').tooFull then decide ((DY t ks').relaid (ks'.QY λ(n:υ)=>(n:ψ)).Θ (Va.grown ks'.β)<*(av led ks',(γ.Q' ks'.β).Θ,))&&coversAll (γ.Q' ks'.β).Θ ks'.β&&(av led ks').fits ks'.β
   else decide (DY t ks'=av led ks'))&&decide (ks'=e_ (m ||| 2^k)))
def vH(h:∀j,j<8->(γ.Q' 32).Tk (λm=>p (32*j+m))=ο):(γ.Q' 256).Tk p=ο:=by
 rw[RE];intro m a;let a:=RN.mp a;have:=RE.mp (h (m/32) (!6)) (m%32) (RN.Sj (υ.mod_lt _ (!0)))
 rwa [υ.div_add_mod]at this
def OP:(γ.Q' 256).Tk (λm=>(γ.Q' 8).Tk λk=>jy ο m k&&jy μ m k)=ο:=vH fun
 |0,_=>by decide +kernel
 |1,_=>by decide +kernel
 |2,_=>by decide +kernel
 |3,_=>by decide +kernel
 |4,_=>by decide +kernel
 |5,_=>by decide +kernel
 |6,_=>by decide +kernel
 |7,_=>by decide +kernel
 |n+8,h=>QG h Gh
abbrev yd(m k:υ):Ω:=(!(e_ m).RO k||decide (m ||| 2^k=m))&&decide (m ||| 2^k<256)&&decide ((e_ m).β≤8)&&(e_ m).Tk (· < 8)
set_option maxRecDepth 100000 in
def OQ:(γ.Q' 256).Tk (λm=>(γ.Q' 8).Tk λk=>yd m k)=ο:=by decide +kernel
def iB(b:m<256)(c:k<8):(k∈e_ m->m ||| 2^k=m)/\m ||| 2^k<256/\(e_ m).β≤8/\∀x∈e_ m,x<8:=by
 let h:=RE.mp (RE.mp OQ m (RN.Sj b)) k (RN.Sj c);simp only[yd,Sx,Yk,Xb,SX]at h;let⟨⟨⟨h1,h2⟩,e⟩,d⟩:=h;refine(λz=>h1.SG (λy=>?_) id,h2,e,λx a=>ST (RE.mp d x a));rw[Ur.Sj z]at y;cases y
def OR(a:Ω)(e:m<256)(f:k<8)(d:k∉e_ m):(av a ZQ).freeSlot (k:ψ)=δ (k,μ,)/\(av a ZQ).put k=(DY (av a ZQ) QC3,AL ZQ k,)/\(DY (av a ZQ) QC3).fits (vh ZQ k).β=ο/\vh ZQ k=e_ (m ||| 2^k)/\
  (if (DY (av a (e_ m)) (vh (e_ m) k)).tooFull=ο then(DY (av a (e_ m)) (vh (e_ m) k)).relaid ((vh (e_ m) k).QY λ(n:υ)=>(n:ψ)).Θ (Va.grown (vh (e_ m) k).β)=δ (av a (vh (e_ m) k),(γ.Q' (vh (e_ m) k).β).Θ,)/\coversAll (γ.Q' (vh (e_ m) k).β).Θ (vh (e_ m) k).β=ο/\(av a (vh (e_ m) k)).fits (vh (e_ m) k).β=ο
   else DY (av a (e_ m)) (vh (e_ m) k)=av a (vh (e_ m) k)):=by
 let h:=RE.mp (RE.mp OP m (RN.Sj e)) k (RN.Sj f);let h:jy a m k=ο:=by
  rw[Sx]at h;cases a
  .exact h.2
  .exact h.1
 unfold jy at h;try dsimp only at h
 rw[Yk]at h;rcases h with h|h
 .exact QG (Ur.mp h) d
 .simp only[Sx,SX]at h;let⟨⟨⟨⟨h1,h2⟩,i⟩,b⟩,g⟩:=h;refine(h1,h2,i,g,3);split at b
  .rename_i c;rw[QC c];simpa[and_assoc]using b
  .rename_i c;rw[Fr c];simpa using b
abbrev UM(ks:LN)(ts:γ Tok):γ (ψ×η):=γ.zipWith (λ(k:υ)t=>((k:ψ),η.QB (k:ψ) t,)) ks ts
def Dl(h:ts.β=ks.β):(UM ks ts).β=ks.β:=by simp[UM,h]
def kY:∀{ks:LN}QL3,ts.β=ks.β->(UM ks ts).QY Y0.fst=ks.QY λ(n:υ)=>(n:ψ)
 |[],[],_=>rfl
 |k::ks,t::ts,h=>by
  have:=kY (ks:=ks) (ts:=ts) QB';change (k:ψ)::(UM ks ts).QY Y0.fst=_;rw[this];rfl
def vg{ks:LN}(h:ts.β=ks.β):UM (ks.Rp p++k::ks.Uq p) (ts.Rp p++t::ts.Uq p)=(UM ks ts).Rp p++QFC::(UM ks ts).Uq p:=by
 unfold UM;rw[γ.zipWith_append (by simp[h]),γ.zipWith_cons_cons,γ.take_zipWith,γ.drop_zipWith]
def Mh QTe(p:υ)(x:a):Va.insertAt l.Θ p x=(l.Rp p++x::l.Uq p).Θ:=by
 unfold Va.insertAt;simp only[γ.extract_toArray,γ.push_toArray,γ.append_toArray];congr 1;simp[RI]
def gI QFw QTe:∀n,(γ.Q' n).WR (λi=>l[i]?)=l.Rp n
 |0=>rfl
 |n+1=>by
  rw[γ.range_succ,γ.filterMap_append,gI l n,Vu];cases q:l[n]?<;>simp[q]
def sP QFw QTe:(γ.Q' l.β).Θ.WR (λi=>l.Θ[i]?)=l.Θ:=by
 rw[γ.filterMap_toArray];congr 1;let h:=gI l l.β;rw[Uh]at h;simpa using h
abbrev aD Z':Ω:=!w.Ss.WF "set-order"
abbrev bv Z' QKF QBz QJ4:Prop:=∃(o:UP)(ts:γ Tok)(ep:υ),h.Δ a=δ o/\o.ExactSet/\ts.β=(e_ m).β/\o.RD=.US (UM ZQ ts).Θ ep QBa
abbrev cz(led:Ω)(m i:υ):Ω:=
 letI ks:=e_ m
 !(decide (i≤ks.β))||decide (Va.below ks.Θ (if i=0 then 0 else ks.Φ (i-1) 0+1)=i)&&(av led ks).fits ks.β
def w9:(γ.Q' 256).Tk (λm=>(γ.Q' 9).Tk λi=>cz ο m i&&cz μ m i)=ο:=vH fun
 |0,_=>by decide +kernel
 |1,_=>by decide +kernel
 |2,_=>by decide +kernel
 |3,_=>by decide +kernel
 |4,_=>by decide +kernel
 |5,_=>by decide +kernel
 |6,_=>by decide +kernel
 |7,_=>by decide +kernel
 |n+8,h=>QG h Gh
def bW(a:Ω)(b:m<256)(c:i≤(e_ m).β):Va.below (e_ m).Θ (if i=0 then 0 else(e_ m).Φ (i-1) 0+1)=i/\(av a ZQ).fits (e_ m).β=ο:=by
 let d:=(iB (k:=0) b (!0)).2.2.1;let h:=RE.mp (RE.mp w9 m (RN.Sj b)) i (RN.Sj (!6));let h:cz a m i=ο:=by
  rw[Sx]at h;cases a
  .exact h.2
  .exact h.1
 unfold cz at h;try dsimp only at h
 rw[Qr c]at h;simpa using h
section
variable{P:IO}{w:QV}{A:Qo}{E:η->ω->Prop}{s:ω}{a:θ}{m k:υ}
def eL(h:k<8):(SB P w).hash (k:ψ)=(k:ψ):=by
 rcases k with _|_|_|_|_|_|_|_|k;any_goals rfl
 lia
def EM:∀{ks:LN}QL3{e:ψ×η},e∈UM ks ts->∃k∈ks,∃t,e=QFC
 |[],_,e,h=>by simp[UM]at h
 |_::_,[],e,h=>by simp[UM]at h
 |k::ks,t::ts,e,h=>by
  rcases QW.mp (show e∈QFC::UM ks ts from h)with ε|h
  .exact (k,!1,t,1)
  .obtain ⟨k',b,t',e'⟩:=EM h;show(k',by simp[b],t',e')
def vf(h:∀x∈ks,x<8):ElemsOf QBT (UM ks ts):=λe c=>by
 let⟨k,b,t,ε⟩:=EM c;show(((k:ψ),intKind_is _ _ _ _,(eL (h k b)).QU),1)
def o7:∀{ks:LN}QL3,ts.β=ks.β->((UM ks ts).findIdx? QDi).Vg=decide (k∈ks)
 |[],_,_=>by simp[UM]
 |k'::ks,t::ts,h=>by
  let b:=o7 (ks:=ks) (ts:=ts) QB';let e:(SB P w).is (k:ψ) QTC=decide (k'=k):=by
   change η.isInt (k:ψ) QTC=_;by_cases c:k'=k
   .subst c;simp[η.isInt]
   .rw [QN c];simp[η.isInt,show ¬ (k':ψ)=(k:ψ)from λz=>c QK2]
  rw[show UM (k'::ks) (t::ts)=((k':ψ),η.QB (k':ψ) t,)::UM ks ts from ε,γ.findIdx?_cons];dsimp only;rw[e];by_cases c:k'=k
  .subst c;simp
  .rw [Fr QH2,χ.isSome_map,b];simp[show ¬ k=k' from λz=>c z.QU]
def Mi(R:m<256)(L:k<8)(hS:bv w s.π a m)(h:∀b h',Th a s.π h'->bv w h' a (m ||| 2^k)->Q b {s with π:=h'}):Cl QAC A (setAddHashed a QL4 QN5) Q E s:=by
 let⟨o,ts,ep,C,O,D,G⟩:=hS;let⟨s1,s2,s3,s4⟩:=iB R L;let hz:(UM ZQ ts).Θ.Qw=(e_ m).β:=by rw[QZ,Dl D]
 let hf:(av QJ6 ZQ).fits (UM ZQ ts).Θ.Qw=ο:=by rw[hz];show(bW _ R QDt).2
 let F:ElemsOf QBT (UM ZQ ts).Θ.Qq:=vf s4;let hs:(UM ZQ ts).Θ.Qw<scanBound:=by rw[hz];show Rw s3 (!0)
 unfold setAddHashed setAddHashedIn;refine RZ (f_ (UU C G hf ?_));dsimp only;rw[byScan_of (knd:=SB P w) (x:=.QB (k:ψ) t) ε hs F,QC ε];unfold setAddByScan;refine f_ (f_ (Ww (f_ (wpAny_setScan_of (knd:=SB P w) QGs C G hf F ?_))));let g:=o7 (P:=P) (w:=w) (k:=k) D;by_cases i:k∈e_ m
 .rw [Qr i]at g;let⟨j,S⟩:=χ.isSome_iff_exists.mp g;rw[show γ.findIdx? _ (UM ZQ ts).Θ.Qq<*j from S];dsimp only;refine i_ QA8;have:=h μ s.π (Th.YS a s.π) (by rw[s1 i];show(o,ts,ep,C,O,D,G));show this
 .rw [QN i]at g;let S:γ.findIdx? QDi QT4=ζ:=by
   cases q:γ.findIdx? QDi QT4 with
   |ζ=>rfl
   |δ j=>rw[q]at g;cases g
  rw[show γ.findIdx? _ (UM ZQ ts).Θ.Qq=ζ from S];dsimp only;let⟨c1,c2,W,c4,I⟩:=OR QJ6 R L i;let f:(ts.Rp QO3++t::ts.Uq QO3).β=(vh ZQ k).β:=by simp[vh,D]
  let hL:layNew QBa (UM ZQ ts).Θ QN5 QL4=((UM QC3 QA').Θ,DY QBa QC3,μ,μ,):=by
   unfold layNew;rw[eL L,c1];dsimp only;rw[c2];dsimp only;rw[Mh,<-vg D];let M:(UM ((e_ m).Rp QO3++k::(e_ m).Uq QO3) QA').Θ.Qw=(vh ZQ k).β:=by rw[QZ];show Dl f
   rw[M,Va.orStandIn,QC W,W];rfl
  rw[hL];dsimp only;let B:(DY QBa QC3).plain=ο:=ε;let l:=kY f;let d:=Dl f;generalize hT:DY QBa QC3=T at B c2 W I⊢;let p:∀QLY(v:UP)QPT(T':Va),Th a s.π h'->h'.Δ a<*v->v.ExactSet->v.RD=.US (UM QC3 QA').Θ r T'->T'=av QJ6 QC3->Q ο {s with π:=h'}:=by
   rintro h' v r T' H U g3 g4 ε;rw[c4]at g4 f;show h ο h' H (v,_,r,U,g3,f,g4)
  generalize UM QC3 QA'=c at l d p⊢;let y:c.Θ.Qw≤Λ:=by
   rw[QZ,d,c4,Sw];have:=(iB s2 L).2.2.1;show Eu this
  let u:∀(h1:Qx)(J:UP)(M:Ry (ψ×η))(n1:υ)(Y N:Va),h1.Δ a<*J->J.RD=.US M n1 Y->(h1.Sm a QRt).Δ a<*{J with RD:=.US c.Θ (n1+1) N}:=by
   intro h1 J M n1 Y N z1 X;let z:=Rk QRt z1 (by rw[putSet_of _ _ X];rfl);rw[putSet_of _ _ X]at z;show z
  refine f_ QA8;rw[QC B,hashByValue_scannable 8 (x:=.QB (k:ψ) t) ε];refine f_ QA8;rw[show plainKind QL4=ο from ε];simp only[if_true,Ω.not_false,Ω.true_and];refine f_ (wpAny_storeSet_of C G ?_ y);let H:=u _ _ _ _ _ T C G;let Z:=Th.Sm s.π a (UP.putSet c.Θ T);by_cases ct:T.tooFull=ο
  .rw [QC ct]at I⊢;let⟨d1,d2,d3⟩:=I;let hR:relayAll T c.Θ (Va.grown c.Θ.Qw)=(c.Θ,av QJ6 QC3,μ,):=by
    unfold relayAll;rw[show c.Θ.QY Z9=((vh ZQ k).QY λ(n:υ)=>(n:ψ)).Θ by rw[γ.map_toArray,<-l],QZ,d,d1];dsimp only;rw[<-d,sP,QZ,d,d2,d3];rfl
   rw[hR];refine f_ (i_ (f_ (wpAny_storeSet_of H ε ?_ y)));let U:=u _ _ _ _ _ (av QJ6 QC3) H ε;show i_ (i_ (p _ _ _ _ (Z.ξ (Th.Sm _ a _)) U O ε ε))
  .rw [Fr ct]at I⊢;show i_ (i_ (p _ _ _ _ Z H O ε I))
def cL{ns:LN}(h:i<ns.β):ns.Φ i 0=ns[i]:=by rw[n0,h_ h];rfl
abbrev Dz QT5:υ:=ns.foldl (λm k=>m ||| 2^k) 0
def qD QT5 QKb:Dz (ns++[k])=Dz ns ||| 2^k:=by simp[Dz,γ.Yu]
def cE(h:∀x∈ns,x<8):Dz ns<256:=by
 have:∀QT5 QJ4,(∀x∈ns,x<8)->m<256->ns.foldl (λm k=>m ||| 2^k) m<256:=by
  intro ns;induction ns with
  |Tw=>show λm _ b=>b
  |Rx k r d=>show λm c b=>d _ (λx e=>c x (by simp[e])) (iB b (c k (!1))).2.1
 show this ns 0 h (!0)
def bv.UF(x:bv w h a m)(e:∀o,h.Δ a<*o->h'.Δ a<*o):bv w h' a m:=by
 let⟨o,ts,c,b,r⟩:=x;show(o,ts,c,e o b,r)
def OS{St:υ->Qx->Prop}(W:Walks P w A.Xq I X wr n Y St)(l:S∉X)(N:ns.β=n)(D:∀x∈ns,x<8)(M:∀i v,Y i v->∃t,v=.QB ((ns.Φ i 0:υ):ψ) t):∀(j i:υ)QBP,n-i=j->i≤n->St i s.π->bv w s.π S (Dz (ns.Rp i))->
   (∀QLY(f:υ),(∀b o,b∉S::wr->s.π.Δ b<*o->h'.Δ b<*o)->bv w h' S (Dz ns)->R (.ok (.ret .ζ)) {s with π:=h',Qs:=f})->VD QAC A (.Qu "set.update.loop" ([.ν S,.ν I],[])) R s:=by
 let hw:S∉wr:=λz=>l (W.VJ _ z);intro j;induction j with
 |V5=>
  intro i s Q T st x q;cases(show i=n by lia);refine S' Sz.Ws.F.entry_set_update_loop ?_;rw[Qo.Ug Sz.Ws.F.plain_set_update_loop _];change Cl _ A.Xq (WD QEy>>=_) _ _ s;refine f_ (W.done s _ _ st λh' f g=>?_);rw[<-N,Uh]at x;show i_ (q h' f (λb o d e=>g b o (λz=>d (by simp[z])) e) (x.UF λo e=>g S o hw e))
 |Vf j J=>
  intro i s Q T st x q;let h:i<n:=by lia
  refine S' Sz.Ws.F.entry_set_update_loop ?_;rw[Qo.Ug Sz.Ws.F.plain_set_update_loop _];change Cl _ A.Xq (WD QEy>>=_) _ _ s;refine f_ (W.YW i s _ _ h st λv h' f pv r g=>?_);let⟨t,ε⟩:=M i v pv;let c:i<ns.β:=AY h N
  let O:ns.Φ i 0<8:=by rw[cL c];show D _ (RY c)
  let H:=x.UF (h':=h') λo e=>g S o hw e;change Cl _ A.Xq (holding [η.QB ((ns.Φ i 0:υ):ψ) t] (setAdd S (.QB ((ns.Φ i 0:υ):ψ) t))>>=_) _ _ _;refine f_ (RZ ?_);unfold setAdd;refine RZ (f_ ((SB P w).YK (k:=((ns.Φ i 0:υ):ψ)) QGs ?_));refine Mi (cE λy L=>D y (γ.mem_of_mem_take L)) O (s:={s with π:=h',Qs:=f+1}) H λb h2 C B=>?_;rw[<-qD,cL c,γ.take_append_getElem c]at B;refine i_ (U7 Sz.Ws.F.plain_set_update_loop _,J (i+1) _ (!6) h (W.Vy _ _ _ r λb d o e=>?_) B λU p u G=>?_)
  .exact (C.2 b (λz=>l (z▸d))).ξ e
  .refine q U p (λb o d e=>u b o d ?_) G;show(C.2 b (λz=>d (by simp[z]))).ξ (g b o (λz=>d (by simp[z])) e)
def Mj QP6(q:Q1 Za {s with π:=s.π.Ra {SN:=.QH "set",Ux:=ζ,RD:=.US #[] 0 QAp} }):VD QAC A (.Ub (.Qu "set.__new__") ([.QH "set",u],[])) (wants Q1 E) s:=by
 refine codeAny_of_tree (show Cl _ A.Xq (do checkBuiltinCall "set.__new__" ([.QH "set",u],[]);again (.Qu "set.__new__" ([.QH "set",u],[]))) _ _ s from ?_);refine f_ (SK (Ξ.F.newCall_set_1 u) (i_ (U7 Ξ.F.plain_set_new _,S' Ξ.F.entry_set_new ?_)));rw[Qo.Ug Ξ.F.plain_set_new _];unfold Builtin.«set.__new__» Builtin.Frozenset.newClass;let z:=sub_set_self;let⟨hp,g,d,b,os⟩:=s;dsimp only
 wp_walk
 refine Wy QA8;dsimp only;simp only[newObj];show f_ (wpAny_alloc (i_ (i_ q)))
def xF(b:h.Δ a<*{SN:=.QH "set",Ux:=ζ,RD:=.US #[] 0 QAp}):bv w h a 0:=(_,[],(0),b,(5,1),5)
def OT{Rc:γ η}(Y:A.SV=ζ)(y:s.π.IsList l Rc.Θ)(X:ns.β=Rc.β)(Z:∀x∈ns,x<8)(W:∀Zi(v:η),Rc[i]?<*v->∃t,v=.QB ((ns.Φ i 0:υ):ψ) t)(q:∀QLY(f:υ),bv w h' s⁻¹ (Dz ns)->QAn->Q Za {s with π:=h',Qs:=f}):Cl QAC A (Ub (.QH "set") [.ν l]) Q E s:=by
 let⟨c,tl,T⟩:=W9.mro;let G:=W9.made;let VJ:=W9.VJ;refine UX (codeAny_of_tree (show Cl _ _ (callAny (.QH "set") _) _ _ _ from ?_));refine i_ (Code.quiet_builtin _ (!3),S' Ξ.F.entry_type_call ?_);rw[Qo.under_plain (weight_type_call_type "set" [.ν l] []) ε];let k1:=W9.notType;let k2:=W9.canCreate;let k3:=Ξ.F.typeCall_set_1 QFM;repeat (any_goals (first|assumption|wp_step))
 refine Ts (Mj QFM (E:=E) (Q1:=λD C=>D=.ν s⁻¹/\C={s with π:=s.π.Ra {SN:=.QH "set",Ux:=ζ,RD:=.US #[] 0 QAp} }) (1,1)) λr C p=>?_;cases r with
 |WS e=>show p
 |ok fl=>
  cases fl with
  |ret D=>
   let⟨rfl,ε⟩:=p;let J:(s.π.Ra {SN:=.QH "set",Ux:=ζ,RD:=.US #[] 0 QAp}).Δ s⁻¹<*{SN:=.QH "set",Ux:=ζ,RD:=.US #[] 0 QAp}:=QK _ ε;let tS:ω.Vh {s with π:=s.π.Ra {SN:=.QH "set",Ux:=ζ,RD:=.US #[] 0 QAp} } Za "set":=(_,J,1);let k4:=W9.init.ρ;let k5:=W9.init.bind Za;repeat (any_goals (first|assumption|wp_step))
   refine Ts (U5 (R:=wants (λr s2=>r=.ζ/\∃h' f,s2={s with π:=h',Qs:=f}/\bv w h' s⁻¹ (Dz ns)/\∀b o,s.π.Δ b<*o->h'.Δ b<*o) E) W9.init.plain Ξ.F.entry_set_init (check_set_init_1 tS ?_)) λL s2 d=>?_
   .let hlS:l<s⁻¹:=let⟨_,z,_⟩:=y;lt_size z;let g:=y.Ra {SN:=.QH "set",Ux:=ζ,RD:=.US #[] 0 QAp};let⟨M,u,j,O,h⟩:=y;let⟨oc,N,oD,os⟩:=M;simp only at j h;subst j;subst h;let H:(s.π.Ra {SN:=.QH "set",Ux:=ζ,RD:=.US #[] 0 QAp}).Δ l<*{SN:=.QH "list",Ux:=N,RD:=.V8 Rc.Θ O,XE:=os}:=ol _ u;let k6:=Ξ.F.sub_list_set;let k7:=Ξ.F.sub_list_frozenset;let k8:(η.QH "list"==η.QH "dict")=μ:=by decide
    unfold Builtin.«set.__init__» noKeywords Builtin.Frozenset.updateFrom;generalize B:YJ=PI
    wp_walk
    subst B;refine Vi g (f_ (wpAny_runValue ?_));let U:A.Xq.Xq.Xq.SV=ζ:=by simp[Y]
    let n1:l≠(s.π.Ra {SN:=.QH "set",Ux:=ζ,RD:=.US #[] 0 QAp}).SM.Qw:=by rw[Tb];show RH (υ.W_ hlS)
    let S:s⁻¹∉[(s.π.Ra {SN:=.QH "set",Ux:=ζ,RD:=.US #[] 0 QAp}).SM.Qw,l]:=by
     rw[Tb];simp only[QW,Si,T8,not_or];show(RH (Rv _),XH hlS)
    refine OS (Walks.U0 U _ l n1 Rc.Θ) S (by rw[X,QZ]) Z (λi v z=>W i v (by simpa using z)) _ 0 _ ε QDt (QBB,g.Ra _) (xF (ol _ J)) λh' f n x=>?_;refine i_ (i_ (1,h',f,1,x,λb o e=>n b o ?_ (ol _ QH8)));let I:=lt_size e;simp only[QW,Si,T8,not_or];refine(RH I,3);rw[Tb];show RH (υ.W_ I)
   .cases L with
    |WS e=>show d
    |ok f2=>
     cases f2 with
     |ret r=>
      let⟨rfl,h',f,ε,x,n⟩:=d;repeat (any_goals (first|assumption|wp_step))
      show q _ _ x n
     |_=>show d.SG
  |_=>show p.SG
end
def b_N:Slot "set_iterator" "__next__" "set_iterator.__next__":=.of (owner:="set_iterator") (n:="__next__") (by rw[Ty,Sb];kernel_rfl) (!3) (!3) (!3) (by first|show .RB (!3)|show .RF (!3)) (by rw[UK];kernel_rfl)
def NW:Slot "set_iterator" "__iter__" "set_iterator.__iter__":=.of (owner:="set_iterator") (n:="__iter__") (by rw[Ty,Sb];kernel_rfl) (!3) (!3) (!3) (by first|show .RB (!3)|show .RF (!3)) (by rw[UK];kernel_rfl)
def NX:entryFor table "set_iterator.__next__"<*Builtin.«set_iterator.__next__»:=entryFor_of_fast QAR
def gg:entryFor table "set_iterator.__iter__"<*Builtin.«dict_keyiterator.__iter__»:=entryFor_alias (id':="dict_keyiterator.__iter__") QAR ε (!3) QAR
def jj:entryFor table "set.__iter__"<*Builtin.«frozenset.__iter__»:=entryFor_alias (id':="frozenset.__iter__") QAR ε (!3) QAR
def NY(a:η):argsOk "set_iterator.__next__" QKP:=by unfold argsOk;kernel_rfl
def jw(a:η):argsOk "set_iterator.__iter__" QKP:=by unfold argsOk;kernel_rfl
def vi QFw:∀QKj QDJ(h:i<l.β),(l[i]::l.eraseIdx i).Perm l
 |x::l,0,_=>.YS _
 |x::l,i+1,h=>by
  let h':i<l.β:=by simpa using h
  change (l[i]::x::l.eraseIdx i).Perm (x::l);show(Perm.swap _ _ _).ξ ((vi h').Rx x)
def sQ QNo(next:υ->υ):∀(n k:υ)(l:γ b)(X8:Ry b),l.β=n->(WH.go next n k l X8).Qq.Perm (X8.Qq++l)
 |0,k,l,X8,h=>by
  cases Sq.mp h;simp[WH.go]
 |n+1,k,l,X8,h=>by
  let a:next k%l.β<l.β:=υ.mod_lt _ (!6);unfold WH.go;rw[h_ a];dsimp only;refine(sQ next n (k+1) _ _ (by rw[γ.length_eraseIdx_of_lt a];lia)).ξ ?_;rw[Ry.toList_push,Tt];refine Perm.append_left _ ?_;show vi a
def qf(next:υ->υ)QTe:(WH next l.Θ).Qq.Perm l:=by
 unfold WH;have:=sQ next l.Θ.Qw 0 l.Θ.Qq #[] ε;simpa using this
abbrev dD Z' QBz QJ4(ts:γ Tok)(ep:υ):γ η:=
 if w.Ss.WF "set-order"=ο then(WH QCb (UM ZQ ts).Θ).Qq.QY QA2 else(UM ZQ ts).QY QA2
def f_q:(dD w a m ts b).Perm ((UM ZQ ts).QY QA2):=by
 unfold dD;split
 .exact (qf _ _).QY _
 .exact .YS _
abbrev Wu Z'(m i:υ):υ:=if w.Ss.WF "set-order"=ο then 0 else if i=0 then 0 else(e_ m).Φ (i-1) 0+1
section
variable{P:IO}{w:QV}{A:Qo}{E:η->ω->Prop}{s:ω}{a I:θ}{m i ep:υ}{oS:UP}{ts:γ Tok}
def jW(n:m<256)QRu(l:s.π.Δ a<*oS)(p:oS.RD=.US (UM ZQ ts).Θ ep QBa)(q:i≤(e_ m).β)(h1:∀v,QT6[i]?<*v->Q (δ (v,Wu w m (i+1),)) s)(h2:i=(e_ m).β->Q ζ s):Cl QAC A (setNext a QTD i ep) Q E s:=by
 let hz:(UM ZQ ts).Θ.Qw=(e_ m).β:=by rw[QZ,Dl f]
 let o:(av QJ6 ZQ).fits (UM ZQ ts).Θ.Qw=ο:=by rw[hz];show(bW _ n QDt).2
 let h:(dD w a m ts ep).β=(e_ m).β:=by rw[f_q.length_eq,j',Dl f]
 unfold setNext;refine f_ (UU l p o ?_);dsimp only;unfold setsByText;refine f_ (f_ (Wy QA8));dsimp only;by_cases c:w.Ss.WF "set-order"=ο
 .rw [show(KK P w).w.Ss.WF "set-order"=ο from c,QC ε];rw[Fr (!1)];let k:Wu w m i=0:=by unfold Wu;rw[QC c]
  let j:Wu w m (i+1)=0:=by unfold Wu;rw[QC c]
  rw[k];unfold setWalk;refine f_ (f_ (UU l p o ?_));dsimp only;unfold setsByText;refine f_ (f_ (Wy QA8));dsimp only;rw[show(KK P w).w.Ss.WF "set-order"=ο from c,QC ε];refine f_ (Wy QGV);let e:dD w a m ts ep=(WH QCb (UM ZQ ts).Θ).Qq.QY QA2:=QC c;rw[j,e]at h1;rw[e,j']at h;by_cases b:i<(e_ m).β
  .let hlt':i<(WH QCb (UM ZQ ts).Θ).Qq.β:=AY b h
   let g:=h1 _ (by rw[nq,h_ hlt'];rfl);change Q QHV s;rw[<-WC,h_ hlt'];show g
  .change Q QHV s;rw[<-WC,TD (Er h b)];show h2 (D9 b q)
 .let cf:w.Ss.WF "set-order"=μ:=by simpa using c
  rw[show(KK P w).w.Ss.WF "set-order"=μ from cf];rw[Fr Ω.Q9];refine VV QMd λ_=>?_;let d:aD w=ο:=by unfold aD;rw[cf];rfl
  refine f_ (show Cl _ _ (if (! QJ6&&!(UM ZQ ts).Θ.Xd)=ο then _ else _) _ _ _ from ?_);rw[d];refine VV QMd λ_=>i_ ?_;let k:Wu w m i=if i=0 then 0 else(e_ m).Φ (i-1) 0+1:=by unfold Wu;rw[Fr c]
  let j:Wu w m (i+1)=(e_ m).Φ i 0+1:=by unfold Wu;rw[Fr c,Fr (!6)];rfl
  let r:Va.below (av ο ZQ).Tz QTD=i:=by rw[k];show(bW ο n q).1
  let e:dD w a m ts ep=(UM ZQ ts).QY QA2:=Fr c;rw[j,e]at h1;refine i_ ?_;rw[r];by_cases b:i<(e_ m).β
  .let hlt':i<(UM ZQ ts).β:=by rw[Dl f];show b
   let g:=h1 _ (by rw[nq,h_ hlt'];rfl);rw[show(UM ZQ ts).Θ[i]?<*QT4[i] by simp[hlt'],show(av ο ZQ).Tz[i]?<*ZQ[i] by simp[av,b]];rw[cL b]at g;show g
  .rw [show(UM ZQ ts).Θ[i]?=ζ by simp[Dl f];show Ci b];show h2 (D9 b q)
abbrev Ml Z' QKF(I a:θ)(m i ep:υ):Prop:=∃o,h.Δ I=δ o/\o.SN=.QH "set_iterator"/\o.RD=.R5 #[R0 QTD,R0 i,.ν a,R0 (e_ m).β,R0 ep]
def Ml.QH(x:Ml w s.π I a m i ep):s.Vh QEy "set_iterator":=let⟨o,b,c,_⟩:=x;(o,b,c)
def OU(H:A.SV=ζ)(p:m<256)(j:ts.β=(e_ m).β)(t:oS.RD=.US (UM ZQ ts).Θ ep QBa)(u:a≠I):Walks P w A I [I,a] [I] (e_ m).β QIl (λi h=>Ml w h I a m i ep/\h.Δ a<*oS) where
 VJ:=λb l=>by simp at l;simp[l]
 Vy:=λi h h' st k=>by
  let⟨⟨o,f,r⟩,g⟩:=st;show((o,k I (!1) o f,r),k a (!1) _ g)
 YW:=λi s Q E D st q=>by
  let⟨x,g⟩:=st;let d:=x.QH;let⟨o,f,F,c⟩:=x;let y:(av QJ6 ZQ).fits (UM ZQ ts).Θ.Qw=ο:=by rw[QZ,Dl j];show(bW _ p QDt).2
  unfold WD;refine f_ (V6 (Sc (So:=QL.S5 "__next__") d b_N QNI));refine f_ QIH;change Cl _ _ QRv _ _ s;unfold setEntries;refine f_ QQg;rw[QZ,Dl j];refine VV QT7 λ_=>?_;refine f_ (jW (i:=i) p j g t (Uu D) (λv n=>?_) λz=>QG z (RH D));change Cl _ _ (setField QEy 0 (R0 (Wu w m (i+1)))>>=_) _ _ s;let G:=Rk (Tc QDj) f (TZ (SY c _));let d1:=SY c QDj;refine f_ (Us f c (!1) (f_ (Us G d1 (!1) ?_)));let J:=Rk (Tc QEz) G (TZ (SY d1 _));let d2:=SY d1 QEz;let B:=(Th.Sm s.π I (Tc QDj)).ξ (Th.Sm _ I (Tc QEz));refine i_ (0,i_ (q v _ s.Qs n ((_,J,3,3),(B.2 a u).ξ g) λb C l e=>(B.2 b (λz=>l (by simp[z]))).ξ e))
  .rw [UP.cls_mapFields,UP.cls_mapFields];show F
  .rw [d2];simp[R0]
 done:=λs Q E st q=>by
  let⟨x,g⟩:=st;let d:=x.QH;let⟨o,f,F,c⟩:=x;let y:(av QJ6 ZQ).fits (UM ZQ ts).Θ.Qw=ο:=by rw[QZ,Dl j];show(bW _ p QDt).2
  unfold WD;refine f_ (V6 (Sc (So:=QL.S5 "__next__") d b_N QNI));refine f_ QIH;change Cl _ _ QRv _ _ s;unfold setEntries;refine f_ QQg;rw[QZ,Dl j];refine VV QT7 λ_=>?_;refine f_ (jW (i:=(e_ m).β) p j g t Zs (λv n=>?_) λ_=>?_)
  .rw [TD (by rw[f_q.length_eq,j',Dl j];show QD _)]at n;cases n
  .change Cl _ _ (setField QEy 2 .ζ>>=_) _ _ s;refine f_ (Us f c (!1) QDM);simp only[newExc,newTuple];refine f_ QFo;refine f_ (m:=firstArgMember _ _) (SK (a:=η.ζ) (by first|rfl|(simp only[firstArgMember];rfl)) QFo);simp only[raiseNew];refine f_ QEc;rw[show A.Xq.SV=ζ from H];refine f_ (i_ (X6 ?_));refine f_ (Vs (T:="StopIteration") (b:=ο) QD1 isSubtype_stop (i_ (q _ s.Qs λb C l e=>?_)));show((Th.Sm s.π I (Tc (·.RU 2 .ζ))).Wj.Ra _).Ra _ b C (λz=>l (by simp[z])) e
 self:=λi s Q E st q=>by
  let d:=st.1.QH;refine wpAny_pyIter_slot d NW (SS NW d gg (show Cl _ _ (ret QEy) _ _ s from ?_) (jw _));show i_ (0,"set_iterator",_,d,b_N.ρ,q)
def OV(j:m<256)QRu(b:s.π.Δ a<*oS)(h:oS.ExactSet)(d:oS.RD=.US (UM ZQ ts).Θ ep QBa)(q:Q Za {s with π:=s.π.Ra {SN:=.QH "set_iterator",RD:=.R5 #[R0 (Wu w m 0),R0 (0:υ),.ν a,R0 (e_ m).β,R0 ep]} }):Cl QAC A (YJ ZW) Q E s:=by
 let g:s.Vh ZW "set":=(oS,b,h.1);let c:(av QJ6 ZQ).fits (UM ZQ ts).Θ.Qw=ο:=by rw[QZ,Dl f];show(bW _ j QDt).2
 refine wpAny_pyIter_slot g Ξ.F.slot_set_iter (SS Ξ.F.slot_set_iter g jj ?_ (Ξ.F.args_set_iter_1 _));unfold Builtin.«frozenset.__iter__»;refine f_ (show Cl _ _ (pure a) _ _ s from i_ ?_);unfold Builtin.Frozenset.sizeOf setEntries;refine f_ (f_ (f_ (UU b d c QGV)));unfold setDrawn;refine f_ (f_ (UU b d c ?_));unfold setsByText;refine f_ (f_ (Wy QGV));let e:(!(KK P w).w.Ss.WF "set-order"&&μ)=μ:=by simp
 refine VV (λz=>QG (e.QU.ξ z) Ω.Q9) λ_=>f_ QA8;unfold setEpoch;refine f_ (f_ (UU b d c QA8));refine f_ (Sf (i_ (0,"set_iterator",_,QD1,b_N.ρ,3)));let k:(Wu w m 0:ψ)=0:=by unfold Wu;split<;>rfl
 rw[k]at q;simpa[R0,Dl f]using q
def OW(d:s.Vh ZW "set")(h:Q μ s):Cl QAC A (Builtin.γ.Xo ZW) Q E s:=by
 unfold Builtin.γ.Xo;refine f_ (VT d Ξ.F.slot_set_len.ρ ?_);generalize c:("set.__len__":Xx)=e
 wp_delta
 rw[show splitId e<*("set","__len__",)from by subst c;decide +kernel];subst c;refine f_ (Vs (T:="set") (b:=ο) d (by rw[UK];kernel_rfl) (VV (λz=>QG z (!0)) λ_=>?_));show VV (λ_=>f_ (XY d (i_ h))) λz=>QG (!3) z
def Mm(d:m<256)(e:ts.β=(e_ m).β)(c:oS.ExactSet)(f:oS.RD=.US (UM ZQ ts).Θ ep QBa):Ξ.W.KdlSrc P w "set" a a (e_ m).β QIl (λh=>h.Δ a<*oS) where
 QH:=λ_ b=>(oS,b,c.1)
 Ut:=λ_ b=>(lt_size b,lt_size b)
 UF:=λ_ _ b k=>k a Zv _ b
 notList:=by decide
 notTuple:=by decide
 hint:=λ_ _ _ _ b q=>OW (oS,b,c.1) q
 UG:=λ_ _ g b=>(7,(λ_ _ q=>OV d e b c f q),OU g d e f (RH (lt_size b)),(QBB,ol _ b))
def o6:∀{ks:LN}QL3,ts.β=ks.β->XB ((UM ks ts).QY QA2) (ks.QY λ(n:υ)=>(n:ψ))
 |[],_,_=>.Tw
 |k::ks,t::ts,h=>.Rx (k:ψ) t (o6 QB')
def qM(p:g.Perm l):∀QOb,XB l ns->∃b,XB g b/\b.Perm ns:=by
 induction p with
 |Tw=>show λh=>(_,h,.YS _)
 |Rx x p j=>
  intro ns h;cases h with
  |Rx n t h=>
   let⟨b,d,c⟩:=j h;show(n::b,.Rx n t d,c.Rx n)
 |swap x y l=>
  intro ns h;cases h with
  |Rx n t h=>cases h with
   |Rx f t' h=>show(_,.Rx f t' (.Rx n t h),.swap _ _ _)
 |ξ r q i1 i2=>
  intro ns h;let⟨n1,d,c⟩:=i2 h;let⟨e,o,k⟩:=i1 d;show(e,o,k.ξ c)
def xN QJ4:((e_ m).QY λ(n:υ)=>(n:ψ)).Pairwise (·≤·):=by
 rw[γ.pairwise_map];show((γ.pairwise_lt_range (n:=8)).VF _).imp λh=>by lia
def OX(K:Ξ.W.KdlSrc P w T a a n u OK)QUS(j:OK s.π)(v:n≤Λ)(q:∀QLY(h:υ)(d:Ry η),s⁻¹≤h'.SM.Qw->QAn->ItemsOf u d n->R d.Qq {s with π:=h',Qs:=h}):Cl QAC A (collect ZW) R E s:=by
 let t:=(K.Ut _ j).1;unfold collect;refine f_ (wpAny_runValue (S' entry_proto_collect' ?_));rw[Qo.Ug Ξ.F.plain_proto_collect _];refine(show Cl _ A.Xq (newList []>>=λl=>again (.Qu "list.__iadd__" ([l,.ν a],[]))) _ _ s from f_ (Sf (i_ (U7 Ξ.F.Y6 _,S' entry_list_iadd' ?_))));rw[Qo.Ug Ξ.F.Y6 _];let C:(s.π.Ra {SN:=.QH "list",RD:=.V8 ([]:γ η).Θ}).Δ s⁻¹<*{SN:=.QH "list",RD:=.V8 #[]}:=QK _ ε;let p:=Ξ.W.kdl_extend (A:=A) (s:={s with π:=s.π.Ra {SN:=.QH "list",RD:=.V8 ([]:γ η).Θ} })
  (R:=λ(r:Result)(s':ω)=>∃(h':Qx)(h:υ)(d:Ry η)(c:υ),r=.ok (.ret (.ν s⁻¹))/\s'={s with π:=h',Qs:=h}/\(∀b o,s.π.Δ b<*o->h'.Δ b<*o)/\
   h'.Δ s⁻¹=δ {SN:=.QH "list",Ux:=ζ,RD:=.V8 d c,XE:=#[]}/\ItemsOf u d n)
  K B (K.UF _ _ j λb _ o e=>ol _ e) s⁻¹ (XH t) (XH t) Za 0 C
  (λh' h d c k g z=>(h',h,d,c,5,λb o e=>k b o QKG QH8,g,z)) v
 refine(show Cl _ A.Xq (Builtin.γ.Wh Za ZW Za) _ _ _ from RM p (λf s' x=>?_) λe s' x=>?_)
 .cases f with
  |done f=>
   let⟨h',h,d,c,e,ε,k,g,z⟩:=x;cases e;show(show Cl _ A QTE _ _ _ from f_ QFS)
  |again D=>
   refine(x.1,Ts x.2 λr s2 y=>?_);let⟨h',h,d,c,ε,ε,k,g,z⟩:=y;show(show Cl _ A QTE _ _ _ from f_ QFS)
 .obtain ⟨_,_,_,_,e',_⟩:=x;cases e'
def OY(M:A.SV=ζ)(t:m<256)(R:bv w s.π a m)(q:∀QJP QLY(h n:υ)(vs:γ η),s⁻¹≤p->QAn->XB vs QKQ->h'.Δ p<*{SN:=.QH "list",RD:=.V8 vs.Θ n}->Q Zh {s with π:=h',Qs:=h}):Cl QAC A (Ub (.Qu "sorted") [.ν a]) Q E s:=by
 let⟨oS,ts,ep,L,J,u,O⟩:=R;refine Ξ.Vn.call_function_entry kind_sorted plain_sorted entry_sorted (args_sorted1 _) ?_;unfold Builtin.«sorted»;refine f_ (m:=checkCount "sorted" 1 1 _) (i_ (f_ (OX (A:=A.Xq) (Mm (P:=P) t u J O) M L (by rw[Sw];have:=(iB (k:=0) t (!0)).2.2.1;show Eu this) λh' h c hsz C f=>?_)));let d:c.Qq.β=(e_ m).β:=by rw[Ui];show f.1
 let T:=(iB (k:=0) t (!0)).2.2.1;let r:(dD w a m ts ep).β=(e_ m).β:=by rw[f_q.length_eq,j',Dl u]
 let g:c.Qq=dD w a m ts ep:=by
  refine YC (by rw[d,r]) λj G F=>?_;have:QT6[j]?<*c.Qq[j]:=f.2 j c.Qq[j] (by rw[<-WC];show h_ G);rw[h_ F]at this;show(χ.δ.Tx this).QU
 refine f_ (wpAny_newList ?_ (by rw[d,Sw];show Eu T));let v:(h'.Ra {SN:=.QH "list",RD:=.V8 c.Qq.Θ}).Δ h'.SM.Qw<*seqObj "list" c.Qq.Θ 0:=QK _ ε;let B:∃ns,XB c.Qq ns/\ns.Perm QKQ:=by
  rw[g];show qM f_q (o6 u)
 let⟨ns,B,hp⟩:=B;refine f_ (RZ ?_);refine SS slot_list_sort (_,v,1) entry_list_sort (list_sort_tree v B (by rw[d];lia) λX8 l i1 i2 H=>?_) (args_list_sort _);let S:l=(e_ m).QY λ(n:υ)=>(n:ψ):=Perm.eq_of_pairwise (λx y _ _ h1 h2=>ψ.WO h1 h2) H (xN m) (i2.ξ hp);subst S;refine(0,i_ (0,3));let⟨e,N⟩:=sortedHeap_at (X8:=X8) v;refine q h'.SM.Qw _ h e X8.Qq ?_ (λb o z=>?_) i1 (by simpa using N)
 .exact hsz
 .let D:=lt_size (C b o z);show(sortedHeap_old (RH D) (by rw[size_push'];show υ.W_ D)).ξ (ol _ (C b o z))
end
def Mo{f:St}(o:f[j]?<*δ (.Qn x))(d:θ->υ->γ V->Hp->Prop)(hz:x.β≤Λ)(r:∀D,H D=ζ->d D 0 [] (QO H D (.QM [])))(p:∀(D:θ)(i:υ)(v:V)(ys:γ V)(H':Hp)(l:VK)(R2:Hp->Prop),H D=ζ->(x.V4.Qq.QY λc=>V.Qn ⟨#[c]⟩)[i]?<*v->a_ H H'->H' D<*.QM ys->d D i ys H'->
   (∀y h,h D<*.QM ys->a_ H QDN->d D (i+1) QAv QDN->l y h)->(∀a,a_ H a->a D<*.QM ys->d D (i+1) ys a->R2 a)->
   tt (δ v::f) H' λb a=>if b=ο then n (δ v::f) a l else R2 a)(q:∀D ys H',H D=ζ->a_ H H'->H' D<*.QM ys->d D x.β ys H'->Q (.ν D) H'):Ds (zM (bw j)) tt n f H Q:=by
 let g:(x.V4.Qq.QY λc=>V.Qn ⟨#[c]⟩).β=x.β:=by rw[j',Ui];rfl
 refine(_,o,x,1,qX (J:=E9 x) (xs:=x.V4.Qq.QY λc=>V.Qn ⟨#[c]⟩) d (by rw[g];show hz) ?_ ?_ ?_ r p (by rw[g];show q))
 .intro i m _ k;rw[g]at k;show k
 .rintro i m v t _⟨e,c,s,ε⟩;show(e,by rw[nq,WC,s];rfl)
 .intro m _;rw[g];first|show QD _|rfl|show WL _
end L2
namespace RA
open PyProof.Rows L2
abbrev yW Z' QBz QJ4:HO:=.ext λh=>bv w h a m
def wB(x:bv w h a m):Aq P w H h a (yW w a m):=(x,let⟨o,_,_,e,_⟩:=x;(o,e),λh1 h2 z k=>bv.UF z λo e=>k o e)
def oO:∀{ns:LN}QBq,ae QI2 us->∀Zi(v:η),us[i]?<*v->∃t,v=.QB ((ns.Φ i 0:υ):ψ) t
 |[],_,r,i,v,e=>by cases r;simp at e
 |n::ns,_,r,i,v,e=>by
  cases r with
  |Rx q a=>
   let⟨t,ε⟩:=q;cases i with
   |V5=>cases e;show(t,1)
   |Vf i=>show oO a i v e
def d_U:∀{ns:LN}QQF,XB vs (ns.QY λ(n:υ)=>(n:ψ))->ae QI2 vs
 |[],_,h=>by cases h;show .Tw
 |n::ns,_,h=>by cases h with|Rx _ t h=>show .Rx (t,1) (d_U h)
section
variable{X:Cx}
def rc(i:X.Wm=ο):B6 X (.QH "set") (λxs H Q=>∃(p:θ)(ns:LN),xs=[.ν p]/\lb X.K H p QI2/\(∀n∈ns,n<8)/\∀a,H a=ζ->Q ZW (QO H a (yW X.w a (Dz ns)))):=by
 intro c s k H xs us Q I r h;let⟨p,ns,ε,g,j,q⟩:=h;let⟨u,ε,e⟩:=B7 r;cases e;let⟨Rc,b,pl,hz⟩:=I.U0 g;refine OT (ns:=ns) (I.ok.hd i) pl.UZ (by rw[<-b.β];simp[b']) j (oO b) λh' d x f=>?_;show(.ν s⁻¹,_,I.X3 (t':=d) f Zs (wB x),1,q _ QDV)
def nH(i:X.Wm=ο):B6 X (.Qu "sorted") (λxs H Q=>∃(a:θ)(m:υ),xs=[.ν a]/\m<256/\H a=δ (yW X.w a m)/\∀p,H p=ζ->Q Zh (QO H p (.QM (b' ZQ)))):=by
 intro b s t H xs us Q I r h;let⟨a,m,ε,c,j,q⟩:=h;let⟨u,ε,e⟩:=B7 r;cases e;refine OY (I.ok.hd i) c (show bv X.w s.π a m from(I.S7 a _ j).1) λp h' d n vs hp f l g=>?_;refine(.ν p,_,I.X3 (t':=d) (o:=.QM (b' ZQ)) f hp (3,vs,n,d_U l,g),1,q _ (I.S7.SW hp));have:=(iB (k:=0) c (!0)).2.2.1;rw[b',j',Sw];show Eu this
end
end RA
namespace RA
section
variable{g:LN->υ->LN}{s:LN}{L:LN}{ks ws R:LL}{Bm:γ Ω}{k m:υ}
def cR(b:Bf g L s ks ws ks.β 0)QCN(e:R.β=ks.β)QHu:QAS/\SZ L R 0 w=i:=by
 let d:i<ks.β:=by rw[b.Sr];show(m8 hw).1
 let⟨l1,l2⟩:=b.lead i ks[i] w (h_ d) hw;refine(l1,3);let h1:=Mg b a e _ w ε l1;rw[l2]at h1;show jd b.nd h1 (h_ d)
def jG(n:BL L)QN6 QCN(l:R.β=ks.β)QHu(e:∀c∈v,c∈L)(h:SZ L R 0 v=i):zg L v w=μ:=by
 let⟨j,b,p,f,o⟩:=d.told n.nd v _ ε e;let h1:=Mg d a l _ v ε e;rw[h]at h1;have:j=i:=jd d.nd p h1;rw[this,hw]at f;cases f;show o
def kN QA7 QAl QMq(l:r<(Ap R ZG m).β)(j:t<(Ap R ZG m).β)(e:∀u:LN,ZK->(Cy Bm ZG m).Φ (SZ L QA_ r u) μ=(Cy Bm ZG m).Φ (SZ L QA_ t u) μ):r=t:=by
 rw[Ap,j',RC]at l j;let⟨h,i⟩:=Cd b a l;let⟨f,s2⟩:=Cd b a j;have:=KH a k h f λu d=>by
  let n:=e u d;rw[<-i,<-s2,GF b a st h d,GF b a st f d,JO b a (B9 a h d),JO b a (B9 a f d)]at n;show n
 rw[i,s2]at this;show this
def JW(q:Bf g L s ks ws ks.β 0)(d:Cv g L.β ks R)(x:R.β=ks.β)QA7 QAl(h:bj ZG m):∃v,Az L QA_ QGC v:=by
 let f:(Ap R ZG m).β=m:=by rw[Ap,j',RC]
 let r:ws.β=R.β:=by rw[x,q.Sr]
 let b:∀QDJ,i<R.β->ws[i]?<*ws.Φ i []:=λ{i}D=>by
  rw[n0,h_ (by rw[r];show D)];rfl
 let l0:m_ R Bm k 0=0:=L_ a;let A:∀{u:LN},ZK->SZ L QA_ 0 u=m_ R Bm k (SZ L R 0 u):=λ{u}o=>by
  have:=GF h a st a.n1 o;rw[l0]at this;show this
 refine(λj=>ws.Φ QID [],Hq h a,(λj l=>?_,λi j w l=>?_,λu o=>?_),λn C e=>kN a st h n C e)
 .rw [f]at l;let⟨F,E⟩:=Cd h a l;let⟨y,B⟩:=cR q d x (b F);refine(y,3);rw[A y,B];show E
 .rw [f]at l;let p:=oV h a w l;show q.srt _ _ _ _ p (b (TL p (Cd h a l).1)) (b (Cd h a l).1)
 .rw [A o];let n:=B9 a a.n1 o;let t:=yo (k:=k) a n;let h1:=jG a.lt q d x (b n) o ε;rcases υ.lt_or_eq_of_le t with z|z
  .let h2:=q.srt _ _ _ _ z (b (TL z n)) (b n);cases e:zg L u QAN with
   |μ=>rfl
   |ο=>rw[AG e h2]at h1;cases h1
  .change zg L u QAN=μ;rw[z];show h1
end
end RA
namespace L2
open RA
abbrev ci QC_ ZC:Prop:=∀p∈ts,AH H p.1 p.2
structure KT QC_ QIo:Prop where
 sm:B5 H H'
 tb:ci ts H->ci ts H'
section
variable{ts:γ ZX}{H H1 H':Hp}
def KT.of QA5:KT ts H H':=(B5.of s,λh p hp=>GE (h p hp) s)
def KT.ξ(a:KT ts H H1)(b:KT ts H1 H'):KT ts H H':=(a.sm.ξ b.sm,λh=>b.tb (a.tb h))
def Mn QP1 QMr(i:P1≠P0)QOE:AH H' P1 a:=by
 let⟨e,c,_⟩:=j;let⟨ps,k,g,b⟩:=h;refine QAO;rw[z,c]at d;cases d
def KT.ofX(c:(ts.QY Y0.fst).Rq)(d:(P,Rt,)∈ts)(s:BY P H H')(h:AH H P Rt)(h':AH H' P Rt):KT ts H H':=by
 refine(B5.ofX s h,λa p hp=>?_);by_cases e:p.1=P
 .have:p=(P,Rt,):=by
   let⟨i,g,ε⟩:=γ.getElem_of_mem hp;let⟨j,f,b⟩:=γ.getElem_of_mem d;let k:(ts.QY Y0.fst)[i]'(by rw[j'];show g)=(ts.QY Y0.fst)[j]'(by rw[j'];show f):=by
    rw[γ.getElem_map,γ.getElem_map,b];show e
   have:=(getElem_inj c).mp k;subst this;show b
  rw[this];show h'
 .exact Mn s h e (a p hp)
def KT.VB QDw QNm:v_ H' m L W B:=h.Uk k.sm.RJ
end
abbrev AX Zp QCF Zg QMp:Ω:=B.Φ (SZ L W 0 u) μ
abbrev tu(P Q:LN->Ω)QMp:Prop:=∃x v,u=x++v/\P x=ο/\Q v=ο
abbrev tq(P:LN->Ω)QMp:Prop:=P u.Ru=ο
abbrev yi(P:LN->Ω)QMp:Prop:=P u=μ
abbrev dO(r:Ω->Ω->Ω)(P Q:LN->Ω)QMp:Prop:=r (P u) (Q u)=ο
def JX(h:m≤8):(Ap R l m).β≤8:=by rw[Ap,j',RC];show h
end L2
namespace RA
open L2
abbrev BR QGk:LN:=e_ (Dz l)
def kx{x:υ}:∀{l:LN}{m:υ},(l.foldl (λm k=>m ||| 2^k) m).Vj x=(m.Vj x||decide (x∈l))
 |[],m=>by simp
 |k::r,m=>by
  rw[γ.foldl_cons,kx (l:=r),υ.testBit_or,υ.testBit_two_pow];by_cases e:k=x
  .subst e;simp
  .simp [e,show ¬ x=k from λz=>e z.QU]
def vr QMR:x∈BR l↔x∈l:=by
 unfold BR e_;rw[VO,RN,Dz,kx];simp;show λh=>a x h
abbrev EN QBM:LL:=((γ.Q' 256).flatMap λm=>[0::e_ m,1::e_ m]).VF λk=>k.tail.Tk (· < n)
def nV QBM:(EN n).β≤512:=by
 unfold EN;refine LE QL5 ?_;rw[γ.length_flatMap];simp only[Rz,γ.length_nil];decide +kernel
def Cf QMR(e:b≤1)(d:∀x∈l,x<n):b::BR l∈EN n:=by
 unfold EN;rw[VO,X_];refine((Dz l,RN.Sj (cE a),3),3)
 .have:b=0\/b=1:=by lia
  rcases this with ε|rfl
  .exact Rh
  .exact QP _ Rh
 .rw [RE];show λx c=>Qr (d x ((vr a).mp c))
def rK(h:k∈EN n):∃b S,k=b::S/\b≤1/\(∀x∈S,x<n)/\S.β≤8:=by
 unfold EN at h;rw[VO,X_]at h;let⟨⟨m,f,d⟩,c⟩:=h;let e:=(iB (k:=0) (RN.mp f) (!0)).2.2.1;simp only[QW,Si,T8]at d;rcases d with ε|rfl
 .exact ((0),0,!0,λx a=>ST (RE.mp c x a),e)
 .exact ((1),0,!0,λx a=>ST (RE.mp c x a),e)
abbrev nE Zg QGk:LN:=if l.VA QFq=ο then 1::BR (l++[0])else 0::BR l
abbrev Ic QCF Zg QES QUT:LN:=nE B (gA W k.tail q)
abbrev zw QES:Ω:=decide (k.headD 0=1)
section
variable{L:LN}{W:LL}{B:γ Ω}
def ia(f:hI L W B)(e:∀x∈S,x<W.β)(d:q<L.β):∀x∈gA W S q,x<W.β:=by
 intro x b;let⟨r,c,ε⟩:=Su.mp b;let hw:=B_ f (e r c);let a:q<(W.Φ r []).β:=by rw[hw.1];show d
 rw[n0,h_ a];show hw.2 _ QOj
def vj(d:W.β≤8)(h1:1≤W.β)(b:∀x∈l,x<W.β):nE B l∈EN W.β:=by
 let c:∀x∈l,x<8:=λx a=>LT (b x a) d;unfold nE;split
 .refine Cf (λx a=>?_) (!0) (λx a=>?_)
  .rcases Rr.mp a with z|z
   .exact c x z
   .rw [wh z];decide
  .rcases Rr.mp a with z|z
   .exact b x z
   .rw [wh z];show h1
 .exact Cf c (!0) b
def FP QST(f:W.β≤8):∀k∈EN W.β,∀q,q<L.β->Ic W B k q∈EN W.β:=by
 intro k d q c;let⟨b,S,ε,_,e,_⟩:=rK d;show vj f a.n1 (ia a e c)
inductive Ag(T:LN->Ω):LN->Prop
 |Tw:Ag T []
 |X2 {x v:LN}:Ag T x->v≠[]->T v=ο->Ag T (x++v)
def Ag.last(h:Ag T u)(a:u≠[]):∃x v,u=x++v/\v≠[]/\Ag T x/\T v=ο:=by
 cases h with
 |Tw=>show QG ε a
 |@X2 x v h1 h2 b=>show(x,v,1,h2,h1,b)
def di{u x v:LN}(h:u++[c]=x++v)(b:v≠[]):∃a,v=a++[c]/\u=x++a:=by
 rcases γ.eq_nil_or_concat v with ε|⟨a,d,ε⟩
 .exact QG ε b
 .rw [γ.concat_eq_append,<-Tt]at h;let⟨h1,h2⟩:=γ.append_inj' h ε;cases h2;show(a,!1,h1)
def z9 QRD(F:W.β≤8):∀QBM QMp,u.β=n->ZK->
  ∃b S,ba QRw L [1,0] u=b::S/\(b=1↔Ag QAG u)/\(∀x∈S,x<W.β)/\∀r,r∈S↔∃x v,u=x++v/\Ag QAG x/\r=SZ L W 0 v:=by
 intro n;induction n with
 |V5=>
  intro u i _;cases Sq.mp i;refine((1),[0],1,(λ_=>.Tw,λ_=>rfl),λx d=>by rw[wh d];show m.n1,λr=>?_);rw[S_];constructor
  .rintro ε;show([],[],1,.Tw,1)
  .rintro⟨x,v,e,_,ε⟩;let⟨_,ε⟩:=γ.append_eq_nil_iff.mp e.QU;rfl
 |Vf n y=>
  intro u i o;rcases γ.eq_nil_or_concat u with ε|⟨u,c,ε⟩
  .cases i
  rw[γ.concat_eq_append]at i o⊢;let⟨b,S,J,O,I,s⟩:=y u (by simpa using i) λx d=>o x (by simp[d]);let D:c∈L:=o c (!1);let C:L.QJ c<L.β:=γ.idxOf_lt_length_iff.Sj D;let f:=ia m I C;let p:∀x∈gA W S QAV,x<8:=λx d=>LT (f x d) F;let j:∀r,r∈gA W S QAV↔∃x v,u=x++v/\Ag QAG x/\r=SZ L W 0 (v++[c]):=by
   intro r;unfold gA;rw[Su];constructor
   .rintro⟨w,l,ε⟩;let⟨x,v,h1,h2,ε⟩:=(s w).mp l;show(x,v,h1,h2,by rw[Ef];rfl)
   .rintro⟨x,v,h1,h2,ε⟩;show(SZ L W 0 v,(s _).Sj QNJ,by rw[Ef];rfl)
  let a:(gA W S QAV).VA QFq=ο↔Ag QAG QNK:=by
   rw[WZ];constructor
   .rintro⟨r,A,E⟩;let⟨x,v,ε,h2,ε⟩:=(j r).mp A;rw[Tt];show .X2 h2 (!1) E
   .intro h;let⟨x,v,h1,h2,H,G⟩:=h.last (!1);let⟨k,ε,ε⟩:=di h1 h2;show(_,(j _).Sj (x,k,1,H,1),G)
  let WB:∀r,(∃x v,u++[c]=x++v/\Ag QAG x/\r=SZ L W 0 v)↔r∈gA W S QAV\/(Ag QAG QNK/\r=0):=by
   intro r;constructor
   .rintro⟨x,v,h1,h2,ε⟩;by_cases q:v=[]
    .subst q;rw[UA]at h1;subst h1;show .RF (h2,1)
    .obtain ⟨k,ε,ε⟩:=di h1 q;show .RB ((j _).Sj (x,k,1,h2,1))
   .rintro (h|⟨h,ε⟩)
    .obtain ⟨x,v,ε,h2,ε⟩:=(j r).mp h;show(x,v++[c],by rw[Tt],h2,1)
    .exact QRx
  rw[KP,J];change ∃M N,nE B (gA W S QAV)=M::N/\_;unfold nE;by_cases g:(gA W S QAV).VA QFq=ο
  .rw [QC g];let t:∀x∈gA W S QAV++[0],x<8:=λx d=>by
    rcases Rr.mp d with z|z
    .exact p x z
    .rw [wh z];decide
   refine((1),0,(λ_=>a.mp g,λ_=>rfl),λx d=>?_,λr=>?_)
   .rcases Rr.mp ((vr t).mp d)with z|z
    .exact f x z
    .rw [wh z];show m.n1
   .rw [vr t,WB,Rr,S_];constructor
    .rintro (z|z)
     .exact .RB z
     .exact .RF (a.mp g,z)
    .rintro (z|⟨_,z⟩)
     .exact .RB z
     .exact .RF z
  .rw [Fr g];refine((0),0,(λz=>(by cases z),λz=>QG (a.Sj z) g),λx d=>f x ((vr p).mp d),λr=>?_);rw[vr p,WB];constructor
   .exact .RB
   .rintro (z|⟨z,_⟩)
    .exact z
    .exact QG (a.Sj z) g
def vJ QIb(e:W.β≤8)(a:∀c∈u,c∈L):zw (ba QRw L [1,0] u)=ο↔Ag QAG u:=by
 let⟨b,S,g,f,_⟩:=z9 d e _ u ε a;rw[g];change decide (b=1)=ο↔_;rw[decide_eq_true_iff];show f
def Ag.congr(h:Ag T u):(∀v,QT8->T v=T' v)->Ag T' u:=by
 induction h with
 |Tw=>show λ_=>.Tw
 |@X2 x v h1 h2 d b=>
  intro k;refine .X2 (b λw hw=>k w λc a=>by simp[hw c a]) h2 ?_;rw[<-k v λc a=>by simp[a]];show d
end
section
variable{T:LN->Ω}{w:LN}{i k:υ}{gl:γ Ω}
end
abbrev El(n1 n2:υ):LL:=((γ.Q' n1).flatMap λr=>(γ.Q' 256).QY λm=>r::e_ m).VF λk=>k.tail.Tk (· < n2)
def vZ(a:υ)(h:n1≤8):(El n1 a).β≤2048:=by
 unfold El;refine LE QL5 ?_;rw[γ.length_flatMap];simp only[j',RC,γ.map_const',γ.sum_replicate_nat];lia
def FQ QMR(d:r<n1)(e:∀x∈l,x<b):r::BR l∈El n1 b:=by
 unfold El;rw[VO,X_];refine((r,RN.Sj d,Su.Sj (Dz l,RN.Sj (cE a),1)),3);rw[RE];show λx c=>Qr (e x ((vr a).mp c))
def lR(h:k∈El n1 a):∃r S,k=r::S/\r<n1/\(∀x∈S,x<a)/\S.β≤8:=by
 unfold El at h;rw[VO,X_]at h;let⟨⟨r,d,f⟩,c⟩:=h;let⟨m,e,ε⟩:=Su.mp f;show(r,0,RN.mp d,λx b=>ST (RE.mp c x b),(iB (k:=0) (RN.mp e) (!0)).2.2.1)
abbrev inT QQh QPT QGk:LN:=if B1.Φ r μ=ο then l++[0]else l
abbrev gh QQh QPT QGk:LN:=r::BR (inT B1 r l)
abbrev Ie(W1:LL)QQh(W2:LL)QES QUT:LN:=gh B1 (Tf W1 QQX q) (gA W2 k.tail q)
abbrev zv(B2:γ Ω)QES:Ω:=k.tail.VA λr=>B2.Φ r μ
section
variable{L:LN}{W1 W2:LL}{B1 B2:γ Ω}
def je:x∈inT B1 r l↔x∈l\/(B1.Φ r μ=ο/\x=0):=by
 unfold inT;split
 .rename_i c;rw[Rr,S_];show(λz=>z.imp id λy=>(c,y),λz=>z.imp id λy=>y.2)
 .rename_i c;show(.RB,λz=>z.SG id λy=>QG y.1 c)
def eF(b:∀x∈l,x<n)(h1:1≤n):∀x∈inT B1 r l,x<n:=λx a=>by
 rcases je.mp a with z|⟨_,ε⟩
 .exact b x z
 .exact h1
def kZ(d:W2.β≤8)(h1:1≤W2.β)(c:r<W1.β)(a:∀x∈l,x<W2.β):gh B1 r l∈El W1.β W2.β:=
 FQ (λx b=>LT (eF a h1 x b) d) c (eF a h1)
def xE(b:hI L W1 B1)(a:hI L W2 B2)(g:W2.β≤8):∀k∈El W1.β W2.β,∀q,q<L.β->Ie W1 B1 W2 k q∈El W1.β W2.β:=by
 intro k e q c;let⟨r,S,ε,d,f,_⟩:=lR e;show kZ g a.n1 (BA b d c) (ia a f c)
def yG(y:hI L W1 B1)(b:hI L W2 B2)(j:W2.β≤8):∀QBM QMp,u.β=n->ZK->
  ∃S,ba QII L QJh u=SZ L W1 0 u::S/\(∀x∈S,x<W2.β)/\∀r,r∈S↔∃x v,u=x++v/\B1.Φ QIJ μ=ο/\r=SZ L W2 0 v:=by
 intro n;induction n with
 |V5=>
  intro u d _;cases Sq.mp d;let a0:∀x∈inT B1 0 [],x<W2.β:=eF (!1) b.n1;refine(BR (inT B1 0 []),1,λx a=>a0 x ((vr λx a=>LT (a0 x a) j).mp a),λr=>?_);rw[vr λx a=>LT (a0 x a) j,je];constructor
  .rintro (z|⟨z,ε⟩)
   .simp at z
   .exact ([],[],1,z,1)
  .rintro⟨x,v,e,h,ε⟩;let⟨rfl,ε⟩:=γ.append_eq_nil_iff.mp e.QU;show .RF (h,1)
 |Vf n q=>
  intro u d i;rcases γ.eq_nil_or_concat u with ε|⟨u,c,ε⟩
  .cases d
  rw[γ.concat_eq_append]at d i⊢;let⟨S,C,B,m⟩:=q u QRi λx a=>i x (by simp[a]);let w:c∈L:=i c (!1);let s:L.QJ c<L.β:=γ.idxOf_lt_length_iff.Sj w;let g:=ia b B s;let t:∀r,r∈gA W2 S QAV↔∃x v,u=x++v/\B1.Φ QIJ μ=ο/\r=SZ L W2 0 (v++[c]):=by
   intro r;unfold gA;rw[Su];constructor
   .rintro⟨p,f,ε⟩;let⟨x,v,h1,h2,ε⟩:=(m p).mp f;show(x,v,h1,h2,by rw[Ef];rfl)
   .rintro⟨x,v,h1,h2,ε⟩;show(SZ L W2 0 v,(m _).Sj QNJ,by rw[Ef];rfl)
  rw[KP,C];let A:Tf W1 (SZ L W1 0 u) QAV=SZ L W1 0 QNK:=by rw[Ef];rfl
  let a0:∀x∈inT B1 (SZ L W1 0 QNK) QNM,x<W2.β:=eF g b.n1;let k:=λ{x:υ}=>vr (x:=x) λx a=>LT (a0 x a) j;refine(BR (inT B1 (SZ L W1 0 QNK) QNM),3,λx a=>a0 x (k.mp a),λr=>?_)
  .change gh B1 (Tf W1 (SZ L W1 0 u) QAV) QNM=_;rw[A];rfl
  .rw [k,je,t];constructor
   .rintro (⟨x,v,ε,h2,ε⟩|⟨h,ε⟩)
    .exact (x,v++[c],by rw[Tt],h2,1)
    .exact QRx
   .rintro⟨x,v,h1,h2,ε⟩;by_cases l:v=[]
    .subst l;rw[UA]at h1;subst h1;show .RF (h2,1)
    .obtain ⟨o,ε,ε⟩:=di h1 l;show .RB (x,o,1,h2,1)
def rR(b:hI L W1 B1)(a:hI L W2 B2)(h:W2.β≤8)(e:∀c∈u,c∈L):zv B2 (ba QII L QJh u)=ο↔∃x v,u=x++v/\B1.Φ QIJ μ=ο/\B2.Φ (SZ L W2 0 v) μ=ο:=by
 let⟨S,j,_,d⟩:=yG b a h _ u ε e;rw[j];change (S.VA λr=>B2.Φ r μ)=ο↔_;rw[WZ];constructor
 .rintro⟨r,f,g⟩;let⟨x,v,h1,h2,ε⟩:=(d r).mp f;show(x,v,h1,h2,g)
 .rintro⟨x,v,h1,h2,i⟩;show(_,(d _).Sj QNJ,i)
end
section
variable{T1 T2:LN->Ω}{w:LN}{i k:υ}{gl:γ Ω}
end
end RA
namespace L2
open PySem.Spec PyProof.Rows
abbrev yI QC9 Zi QE1 QG3:TE:=λσ H Q=>∃f,σ[i]?=δ QQU/\(∃nm Qz ar bd sc cl c,H f<*bh f nm Qz ar bd sc cl c)/\t σ H λvs H1=>(∃nm Qz ar bd sc cl c,H1 f<*bh f nm Qz ar bd sc cl c)/\∃U:γ θ,QJd/\∀YF:Qx,Hl X U σ H1 YF->
 ∃(k:υ)(sp:Sp)(fd:TQ),am k X.A/\ym X.K fd ps []/\aa X.BT X.w X.K X.mg YF na k f fd ps sp/\sp vs (y_ U H1) QE3 E0
def oZ{j:St}(I:g_ X a j H s)(h:∃nm Qz i d sc b c,H f<*bh f nm Qz i d sc b c):∃m l fd k,s.π.Δ f<*(m,l,.VL fd,k):=by
 let⟨nm,Qz,i,d,sc,b,c,e⟩:=h;let⟨⟨Tm,pm,n,g⟩,_⟩:=I.S7 f _ e;show(7,7,g)
def sU QE1 QFH(hv:PE X QBw (bw i))QS3(N:∀y,X.fn y=ο)QGZ(J:QJe>>>4):PE X QN0 (yI X i ps t):=by
 intro j s E H Q I h;let⟨f,h0,hf,h⟩:=h;refine RT (oh (hv j s E H (λv D=>v=.ν f/\D=H) I (_,h0,5)) λfv s0 n=>?_);let⟨v,H0,I0,rv,ε,ε⟩:=n;obtain ε:fv=.ν f:=rv;refine Ξ.W.callWith_F (oZ I0 hf) (oh (ha RX j s0 E H0 _ I0 h) λus G⟨vs,D,b,r,O,q⟩=>(oZ b O,3)) he J;let⟨U,Y,q⟩:=q;let⟨a,e0,w,l⟩:=jF b.env0 Y;let d:∀y c v,X.QA.UO.ρ y<*c->G.π.VS c v->a.VS c v:=λy c v g R=>by
  let⟨o,S,P⟩:=R;let T:=b.Xs y c g;refine(o,l c o S QK4 ?_,P)
  .rcases QW.mp (b.stkSub c z)with z|z
   .exact b.cne y c g z
   .obtain ⟨_,o',L,_⟩:=b.ok.funs.mem z;show QG (lt_size L) (not_lt.Sj (b.ok.cab y c (N y) g))
  .unfold y_;split
   .rfl
   .exact T
 let W:Hl X U E D a:=by
  refine(w,e0.mod,λu φ hu e=>?_,b.ok.Tx,λy c g=>?_,λi y v e1 e2 Z=>?_)
  .obtain ⟨p1,⟨o,S⟩,p3⟩:=b.S7 u _ e;refine p3 _ _ p1 λo2 z=>l u o2 z (λy=>?_) (JF hu);rw[b.XZ u y]at e;cases e
  .obtain ⟨v,z⟩:=b.R9 y c g;show(v,d y c v g z)
  .obtain ⟨m,T,M⟩:=b.loc;let⟨u,ru,lk⟩:=M i y v e1 e2 (.RF (.RB Z));rcases lk with⟨k1,_⟩|⟨_,c,g,z⟩
   .have:X.QA.Qy.QI.ρ y<*.local:=k1;rw[Z]at this;cases this
   .exact QN1
 let⟨k,sp,fd,hr,hb,F,B⟩:=q a W;let M:us.β=ps.β:=by rw[<-r.β];show F.Sr _ _ _ _ B
 refine UX (Ts (F.SZ X.A X.RG G (y_ U D) QKq us vs _ E0 hr e0 (by have:=hb G us b.Xp (by rw[UA];show M);rwa [UA]at this) r B) λr s' n=>?_);cases r with
 |WS e=>show Rl.SG n
 |ok fl=>
  cases fl with
  |ret u=>show b.after (gu b.env0 Y n)
  |next=>show Rl.SG n
  |brk=>show Rl.SG n
  |X5=>show Rl.SG n
end L2
namespace L2
section
variable{X:Cx}{a b e e1 e2 e3 e4:SF}{ta tb te t1 t2 t3 t4:TE}{RX p:T6}{o:SF}{x:QL}
def mq QEa(c:QCB>>>4):PA X [e] QJi:=By h Ck c
def q4(h1:PE X e1 t1)(h2:PE X e2 t2)(c:(Ψ [e1,e2] X.QA=QT9::Ψ [e2] X.QA)>>>4)(s2:(Ψ [e2] X.QA=QT_::Ψ [] X.QA)>>>4):PA X [e1,e2] (Al t1 (Al t2 tNil)):=By h1 (mq h2 s2) c
def AI(h1:PE X e1 t1)(h2:PE X e2 t2)(f:PE X e3 t3)(d:(Ψ [e1,e2,e3] X.QA=QT9::Ψ [e2,e3] X.QA)>>>4)(s2:(Ψ [e2,e3] X.QA=QT_::Ψ [e3] X.QA)>>>4)(c:(Ψ [e3] X.QA=(μ,SR e3 X.QA,)::Ψ [] X.QA)>>>4):PA X [e1,e2,e3] (Al t1 (Al t2 (Al t3 tNil))):=By h1 (q4 h2 f s2 c) d
def EO(f:PE X a ta)(d:PE X b tb)(c:jz b>>>7):PE X QOZ (Ew (mG X.K) ta tb):=l' ef f d c
def z7(f:PE X a ta)(d:PE X b tb)(c:jz b>>>7):PE X QOZ (Ew (sN X.K) ta tb):=l' cG f d c
def o_ Zi{k:ψ}{j}{c:T6}(h:QJW>>>4)(f:HI X.QA.Qy x>>>8)(g:((x==("__debug__":QL))=μ)>>>0)(d:((x==("__classdict__":QL))=μ)>>>0):PE X (.Xh QBw (.Constant (.QB k) j c) RX) (Ew (mG X.K) (bw i) (tC (.QB k))):=l' ef (pv i h f g d) c_ ZL
def Ar(f:X.mg "len"=ζ)QEa(g:(Gl X "len")>>>4)(d:QCB>>>4)(c:QBh>>>4):PE X (.Tl (.Rn "len" p) [e] [] RX) (Bc QB5 QJi):=BN Hc g f XM (mq h d) (!0) (!0) d c
def DZ(f:X.mg "len"=ζ)QEa(g:(Gl X "len")>>>4)(d:QCB>>>4)(c:QBh>>>4):PE X (.Tl (.Rn "len" p) [e] [] RX) (Bc QDp QJi):=BN Nz g f XM (mq h d) (!0) (!0) d c
def D0(d:PE X a ta)(c:PE X b tb):PT X (.Compare a [.NotEq] [b] RX) (jO (Ew rNe ta tb)):=AT yg d c QAq
def zl(d:PE X a ta)(c:PE X b tb):PT X (.Compare a [.Eq] [b] RX) (jO (Ew rEq ta tb)):=AT Ed d c QAq
def n_ Zi{c:T6}(k:X.N.Rq)(j:PE X e te)(g:QJW>>>4)(d:CF X.QA.Qy x>>>8)(f:(W3 e (δ (.Rn x c)) RX.XI X.QA=pure μ)>>>4)(h:QAH>>>8):PS X (.Assign [.Rn x c] e RX) (aQ te (A2 i)):=za k g d j f h
def As Zi(g:X.N.Rq)(d:QJW>>>4)(c:CF X.QA.Qy x>>>8)(f:QAH>>>8):PG X QD7 (A2 i):=cu g d c f
def EQ{d c:T6}(g:PE X o t1)QEa(k:(Uj o "append" X.QA (SR o X.QA)=SR o X.QA)>>>4)(j:(((SJ c (Ψ [e] X.QA)).Tk (λx=>!x.1)&&(Ya c (WP [] X.QA)).Tk (λx=>x.1.Vg)&&decide ([e].β+([]:γ Xe).β+(if ([]:γ Xe).Xd then 0 else 1)<30))=ο)>>>4)(i:((d.endLine==c.XI)=ο)>>>4)(f:QCB>>>4)(hp:((SJ c QO4).VA Z9=μ)>>>4):PE X (.Tl (.TH o "append" d) [e] [] c) (BK X.K "list" rAppend t1 QJi):=Bn XS Ξ.F.slot_list_append Ξ.F.type_list_append gO g (mq h f) k j i f hp
def BH{c:T6}(i:X.mg "isinstance"=ζ)(j:X.mg n=ζ)(g:Wn n<*.QH T)QEa(l:(Gl X "isinstance")>>>4)(k:Gl X n>>>4)(n1:(n≠"__name__")>>>0)(f:((n==("__debug__":QL))=μ)>>>0)(d:(Ψ [e,.Rn n c] X.QA=Zn::Ψ [.Rn n c] X.QA)>>>4)(s2:(Ψ [.Rn n c] X.QA=(μ,SR (.Rn n c) X.QA,)::Ψ [] X.QA)>>>4)(hp:((SJ RX (Ψ [.Rn n c] X.QA)).VA Z9=μ)>>>4):PE X (.Tl (.Rn "isinstance" p) [e,.Rn n c] [] RX) (Bc QBr (Al te (Al (tC (.ty T)) tNil))):=BN (lx (T:=T)) l i boot_isinstance (q4 h (iN (v:=.ty T) k j g ε n1 f) d s2) (!0) (!0) d hp
section
variable{K:Qt}{H:Hp}{Q:VK}{c:θ}{xs:γ V}{v x0 x1 x2 x3:V}{i:ψ}{l:γ V}
def CA(d:H c<*.RJ xs)(f:Am xs i<*v)(q:Q v H):mG K ZS QIv H Q:=(c,_,2,pu.of d,f,q)
def z_(d:H c<*.QM xs)(f:Am xs i<*v)(q:Q v H):sN K ZS QIv H Q:=(c,_,2,lb.of d,f,q)
def k_(g:H c<*.RJ xs)(h:Am xs i<*v)(q:Q v H)(f:(d[n]?<*δ ZS)>>>4):Ew (mG K) (bw n) (tC QIv) d H Q:=(_,f,c,_,2,pu.of g,h,q)
def ad:Am (x0::l) 0<*x0:=Av (j:=0) ε
def aq:Am (x0::x1::l) 1<*x1:=Av (j:=1) ε
def be:Am (x0::x1::x2::l) 2<*x2:=Av (j:=2) ε
end
end
abbrev NZ(N P:γ QL)QJO:Ω:=(match sc.Uz with|.UL=>ο|_=>μ)&&!sc.isCoroutine&&!sc.isGenerator&&decide N.Rq&&decide (N.Rp P.β=P)&&P.Tk (λx=>match sc.QI.ρ x with|δ .local=>ο|δ .R9=>ο|_=>μ)&&sc.QI.Tk λy=>match y.2 with|.SA=>μ|_=>ο
def v5(h:NZ N P sc=ο:=by kernel_rfl):s_ N P sc:=by
 unfold NZ at h;simp only[Sx,SX,Xb,RE]at h;let⟨⟨⟨⟨⟨⟨a,b⟩,c⟩,d⟩,e⟩,f⟩,g⟩:=h;refine(3,b,c,d,e,λx j=>?_,λy i z=>?_)
 .revert a;cases sc.Uz<;>intro a<;>first|rfl|cases a
 .have:=f x j;revert this;cases sc.QI.ρ x with
  |ζ=>intro a;cases a
  |δ k=>cases k<;>intro a<;>first|show .RB ε|show .RF ε|cases a
 .have:=g y i;rw[z]at this;cases this
abbrev Mp ZZ QD6 QRH QDo:Prop:=∃fd,so K x x st f fd
def Bp(e:K.ρ f<*(c,b,.VL fd,a)):V3 K Ze=ο:=by
 unfold V3;dsimp only;rw[show γ.ρ f K=_ from e]
def JY{kV Tm pm ct:η}(l:K.ρ f<*(e,d,.VL (U9 x x QQJ QQK QHO .ζ kV Tm pm an QCa ct),a))(c:UN K QCa x=ο):Mp K x st f:=QTF
def D3 QNo QTi(h:l.β=1):∃a,l=[a]:=γ.length_eq_one_iff.mp h
def Hr{c:Type}{l:γ c}(h:l.β=2):∃a b,l=[a,b]:=by
 cases l with
 |Tw=>cases h
 |Rx a t=>let⟨b,ε⟩:=D3 QGE;show(a,b,1)
def Mq QQP{l:γ d}(h:l.β=3):∃a b c,l=[a,b,c]:=by
 cases l with
 |Tw=>cases h
 |Rx a t=>let⟨b,c,ε⟩:=Hr QGE;show(a,b,c,1)
def Mr{e:Type}{l:γ e}(h:l.β=4):∃a b c d,l=[a,b,c,d]:=by
 cases l with
 |Tw=>cases h
 |Rx a t=>let⟨b,c,d,ε⟩:=Mq QGE;show(a,b,c,d,1)
def OZ{f:Type}{l:γ f}(h:l.β=5):∃a b c d e,l=[a,b,c,d,e]:=by
 cases l with
 |Tw=>cases h
 |Rx a t=>let⟨b,c,d,e,ε⟩:=Mr QGE;show(a,b,c,d,e,1)
def AA QCy(h:∀QEP QJ1(U' ct a:η),bindArgs Zy QKP=pure ([q0].Xz [a]):=by intros;rfl):ym K fd [q0] []:=F.binds λ_ _ _ _ _ _ us b=>by let⟨_,ε⟩:=D3 b;show h _ _ _ _ _ _ _
def AO QCy(h:∀QEP QJ1(U' ct b a:η),bindArgs Zy ([b,a],[])=pure ([q0,c].Xz [b,a]):=by intros;rfl):ym K fd [q0,c] []:=F.binds λ_ _ _ _ _ _ us d=>by let⟨_,_,ε⟩:=Hr d;show h _ _ _ _ _ _ _ _
def Fc QCy(h:∀QEP QJ1(U' ct c b a:η),bindArgs Zy ([c,b,a],[])=pure ([q0,e,d].Xz [c,b,a]):=by intros;rfl):ym K fd [q0,e,d] []:=F.binds λ_ _ _ _ _ _ us g=>by let⟨_,_,_,ε⟩:=Mq g;show h _ _ _ _ _ _ _ _ _
def O0 QCy(h:∀QEP QJ1(U' ct d c b a:η),bindArgs Zy ([d,c,b,a],[])=pure ([q0,i,g,e].Xz [d,c,b,a]):=by intros;rfl):ym K fd [q0,i,g,e] []:=F.binds λ_ _ _ _ _ _ us j=>by let⟨_,_,_,_,ε⟩:=Mr j;show h _ _ _ _ _ _ _ _ _ _
def O1 QCy(h:∀QEP QJ1(U' ct e d c b a:η),bindArgs Zy ([e,d,c,b,a],[])=pure ([q0,k,j,i,g].Xz [e,d,c,b,a]):=by intros;rfl):ym K fd [q0,k,j,i,g] []:=F.binds λ_ _ _ _ _ _ us l=>by let⟨_,_,_,_,_,ε⟩:=OZ l;show h _ _ _ _ _ _ _ _ _ _ _
end L2
namespace L2
open PySem.Spec PyProof.Rows
def so.okA{P:IO}{w:QV}{K:Qt}{st:Rb}(F:so K x Qz st f fd)(S:s_ N ps (hY st))(a:∀(U':η)(A:Qo)(Id:γ YH)(s:ω)(H:Hp)(vs:γ V)(Q:VK)(E:XK),am k (A.VQ (W8 Qz (hY st) s⁻¹ f U'))->sp vs H Q E->
   ∃t,Bk (aY na P w K mg ς N Qz (hY st) f U' A Id s H E).nox (n' st) t/\t {nx:=λ_ H'=>Q .UT H',rt:=Q} (WG N vs) H)(Sr:∀vs H Q E,sp vs H Q E->vs.β=ps.β:=by intro _ _ _ _ h;first|(cases h;subst_vars;rfl)|((repeat let⟨_,h⟩:=h);subst_vars;rfl)):aa P w K mg ς na (k+1) f fd ps sp:=F.ok S Sr a
def JZ{c:CXT}{P:IO}QE8 QCI QEN{ς h:Qx}QOz(G:h.Ns Q_ mg)QTp{k:υ}{ps:γ QL}{sp:Sp}{st:Rb}(l:∃f,W6 K Q_ x=δ QQU/\Mp K x st f)(o:∀f fd,mg x<*.ν f->so K x x st f fd->ym K fd ps []/\aa P w K mg ς c k f fd ps sp):∃f fd,mg x=δ Ze/\V3 K Ze=ο/\ym K fd ps []/\aa P w K mg ς c k f fd ps sp:=by
 let⟨f,a,fd,F⟩:=l;let⟨b,o⟩:=o f fd (T0 X G a) F;show(f,fd,T0 X G a,F.kp,b,o)
inductive FR ZZ QD6 QRH(dv:η)(cd:θ):Prop
 |mk QDo (oc:η) (od an:χ θ) (sl:Ry QKu) (kV dc pm ct:η) (_:W6 K Q_ x<*δ Ze) (_:K.ρ f<*(oc,od,.VL (U9 x x QQJ QQK QHO dv kV dc pm an (.ν cd) ct),sl)) (_:UN K (.ν cd) x=ο)
abbrev N0 ZZ:γ QL->Prop
 |[]=>Tg
 |x::l=>W6 K Q_ x=δ ζ/\N0 K l
abbrev Aa ZZ QD6 QRH:Prop:=∃f,W6 K Q_ x=δ QQU/\Mp K x st f
abbrev fh QC9 ZJ(F:St->XK):η->ω->Prop:=λev s'=>∃σ' H' s1,g_ X QF σ' H' s1/\Ah X.BT X.w X.RG H' s1 (F σ') ev s'
abbrev PX QC9 QRH(t:QIK->TS):Prop:=
 ∀ZJ QBP QBR ZC(D:Y2)(F:St->XK),g_ X QF σ H s->t F D σ H->Cl Y9 X.A (exec st X.QA) QKm (fh X QF F) s
section
variable{X:Cx}{QF:γ Z_}{σ:St}{H:Hp}{s:ω}{x n y fx:QL}{R:θ}{i j k:υ}{np hpos RX p cp yp ap:T6}{st a b b0:Rb}{suite:γ Rb}{ts:TS}{D:Y2}{ps:γ QL}{sp:Sp}{e c:SF}{es:γ SF}{t:TA}{tc:TT}{τ τ':QIK->TS}
def FS(F:Bi X.BT X.w X.K X.mg X.ς fx k ps sp)(E:am k X.A)(N:PA X.nox QIy t)(L:Gl X fx)(o:(fx==("__debug__":QL))=μ)(M:Ψ QIy X.QA=Zn::Ψ es X.QA)(m:(SJ cp QEY).VA Z9=μ)Y_(h:t σ H λvs g=>sp vs g C (G σ)):Cl Y9 X.A (SR (.Tl (.Rn fx p) QIy [] cp) X.QA) (EP X QF σ C) (fh X QF G) s:=by
 let⟨f,fd,h1,h2,O,F⟩:=F;refine RT (wv I L h1 (callWith_K (h₀:=X.ς) I.ok.mod.kin h2 (RM (N cp QF s σ H _ QMV h) (λus l v=>?_) λ_ _ z=>z.SG) M m) o);let⟨vs,g,P,r,q⟩:=v;let J:g_ X QF σ g l:=P.Wz;refine(J.Xp,UX (Ts (F.SZ X.A X.RG l g QKq us vs C _ E J.env0 ?_ r q) λr s' d=>?_))
 .let B:=O l us J.Xp;rw[UA]at B;show B (by rw[<-r.β];show F.Sr _ _ _ _ q)
 .cases r with
  |WS Q=>show(σ,g,l,J,d)
  |ok fl=>
   cases fl with
   |ret u=>show J.after d
   |next=>show Rl.SG d
   |brk=>show Rl.SG d
   |X5=>show Rl.SG d
def ER QOF Y_(q:τ G D σ H):Cl Y9 X.A (execs [st] X.QA) QKm (fh X QF G) s:=by
 refine Wx (oh (h QF s σ H D G I q) λf d q=>?_);cases f with
 |next=>show VW q
 |ret v=>show q
 |brk=>show q
 |X5=>show q
abbrev O2 ZZ(R:θ)Zi(τ:QIK->TS)(ts:TS):TS:=λD σ H=>τ (λσ'=>vU K R i ts D σ') D σ H
def wL(G:Ou X x n R i b0 suite ts)QOF:PS X (.Try [st] [.ExceptHandler QKy (δ n) QKx hpos] [] [] RX) (O2 X.K R i τ ts):=by
 intro QF s σ H D I q;refine wpAny_Try_except (RM (ER h I q) (λf l q=>?_) λo s' d=>by let⟨g,H',l,J,m⟩:=d;show vt G.hex G.WB G.hfr G.nd G.hi G.hk G.hl G.hf G.hg G.hm G.hs J m G.hd);cases f with
 |next=>show VW q
 |ret v=>show q
 |brk=>show q
 |X5=>show q
end
end L2
namespace L2
open PySem.Spec PySem.W PyProof.Rows Builtin Builtin.ObjectAttr
def qT{BT:IO}QE8 QMK QCI(F:fE K C)QDz(J:InstAt s.π e o C (δ p))(x:hasDictIn K C=ο)(q:Ae K C f)(u:lookIn f p<*δ v)(k:handedIn v=ο)(h:Q v {s with Qs:=s.Qs+1}):Cl ZR A (getAttr Z6 f n) Q E s:=by
 let⟨hp,g,d,t,os⟩:=s;let b:=J.QH (M:=KK BT w);let y:=Yn (M:=KK BT w) X F.ga;let c:=Yn (M:=KK BT w) X F.noHook;let i:=looks_mroIn (M:=KK BT w) X F.exc;let l:=looks_find (M:=KK BT w) X J (findObj_own x q ε u);let m:=Ξ.F.attrBase_ValueError.ga.bind Z6;unfold getAttr getAttrBy;refine f_ (wpAny_mkText (RZ (f_ (b.at (f_ (y.at ?_))))));let a:(onTheHeap Zq&&η.Qu "BaseException.__getattribute__"==η.Qu "object.__getattribute__")=μ:=by
  rw[show(η.Qu "BaseException.__getattribute__"==η.Qu "object.__getattribute__")=μ by decide +kernel,Ω.and_false]
 refine Ro (by rw[a];decide) ?_;unfold getAttrByItsOwn hookBefore callGetattribute boundAndCalled;let j:(n&&onTheHeap (η.Qu "BaseException.__getattribute__"))=μ:=by cases n<;>rfl
 refine f_ (Xj (!4) (c.at (f_ (V6 (RZ (Ro (by rw[j];decide) (f_ (SK m (UX ?_)))))))));refine U5 Ξ.F.attrBase_ValueError.ga.plain Ξ.F.entry_bexc_ga ?_;let r:builtinKind "BaseException.__getattribute__"<*.YI:=by decide +kernel
 let sp:splitId "BaseException.__getattribute__"<*("BaseException","__getattribute__",):=by decide +kernel
 let z:=Ξ.F.args_bexc_ga Z6 (.Qn f t);simp only[checkBuiltinCall,r,sp];refine f_ ?_;unfold isInstance;refine f_ (b.at (i.at ?_));refine Ro (!0) (SK z ?_);refine f_ (i_ (f_ (i_ (f_ (b.at (f_ (l.at ?_)))))));refine i_ ?_;change Cl _ _ (handedOut v) _ _ _;rw[handedOut_of k];show i_ h
inductive ix ZZ QNl ZV(x:V)QCi:Prop
 |mk (e C d fs v:_) (_:x=.ν e) (_:H1 e<*bq e Zq QRq) (_:H1 d.1<*(AW d.1 fs)) (_:fE K C) (_:lG K C) QPz (_:fs.ρ f<*v) (_:Q v H1)
abbrev nZ ZZ(ta:TE)QNl:TE:=λσ H Q=>ta σ H (ix K f Q)
def wQ(z:PE X e k)(A:QLA>>>4):PE X QF3 (nZ X.K k f):=by
 intro c s j H Q I h;refine Dq A (oh (z c s j H _ I h) λu P i=>?_);let⟨x,N,g,m,a,C,d,fs,v,J,L,M,F,xc,n,l,q⟩:=i;subst J;obtain ε:u=η.ν a:=m;let⟨⟨o,G,E,⟨vs,D⟩,B⟩,_⟩:=g.S7 a _ L;let⟨⟨t,p,r,_⟩,_⟩:=g.S7 d.1 _ M;let⟨R,w,y⟩:=Lu p;let⟨O,hw,b⟩:=aJ.some_of (v:=v) (o:=t f) (by rw[<-l];show r f);show qT F g.Xp (G,E,by unfold notCls;rw[D],by rw[show o.Ux<*d.1 from(B d ε).1];show w) xc.hd n (by rw[y,hw]) (hV b) (v,N,g.X0 _,b,q)
end L2
namespace L2
open PySem.Spec PyProof.Rows
section
variable{X:Cx}{x:QL}{R:θ}{np hpos RX:T6}{st b0:Rb}{suite:γ Rb}{ts:TS}{τ:QIK->TS}
end
abbrev x8 QKF QBz(x:η):Prop:=∃o vs,h.Δ a=δ o/\o.RD=.R5 vs/\vs[2]?<*x
def gf:entryFor table "proto.unchain"<*Builtin.«proto.unchain»:=entryFor_of_tree QAR
section
variable{BT:IO}{w:QV}{A:Qo}{s:ω}{R:Except η Ξ.Flow->ω->Prop}{e:θ}
def j6 QMO(g:A.SV<*.ν h)(m:s.π.Δ h<*d)(l:d.RD=.R5 c)(k:c[2]?<*.ζ)(f:h≠e)(a:s.π.Δ e<*o)(i:o.RD=.R5 vs)(hz:2<vs.Qw)(j:E Z6 {s with π:=s.π.Sm e QN7}):Cl ZR A (raiseNew Z6:Sem b) Q E s:=by
 unfold raiseNew;refine f_ QEc;rw[g];dsimp only;rw[QC QRX];refine f_ (RZ (wpAny_runValue (S' gf ?_)));unfold Builtin.«proto.unchain»;dsimp only;refine f_ (RL m l k ?_);rw[QC (show(η.ζ==η.ζ)=ο by decide)];refine i_ ?_;unfold updateField;refine f_ (f_ (Yd a ?_));rw[i];dsimp only;rw[QC hz];show wpAny_update a (X6 j)
end
section
variable{X:Cx}{QF:γ Z_}{σ:St}{H:Hp}{s:ω}
def g_.sink Y_(i:H e<*r_ e C d)(a:∀b o,s.π.Δ b<*o->b≠e->b∉rf X.RG->h'.Δ b<*o)(t:s.π.UpToSlots h')(h:∃E,h'.Δ e<*E):g_ X QF σ QD4 {s with π:=h'}:=by
 let k:∀b u,H b<*u->b≠e->Bw H e b<*u:=λb u z n=>(CQ n).ξ z;let A:∀b∈rf X.RG,∃o,s.π.Δ b=δ o/\∀vs,o.RD≠.R5 vs:=Gv I.RG;let B:∀b,H b=ζ->b≠e:=λb z y=>by rw[y,i]at z;cases z
 let m:Un QBe [] H QD4 s.π h':=by
  refine(λb o z n g _=>a b o z (B b n) g,λb o z n g _=>?_,λb o z n _=>by rw[CQ (B b n)];show n,λb o z _=>?_,λb xs z=>k b _ z (n7 z i (by intro y;cases y)),λb o u z=>k b _ z (n7 z i (by intro y;cases y)),λb ps z=>(#[],3))
  .obtain ⟨F,f,p⟩:=A b g;rw[z]at f;cases f;show t b _ z p
  .by_cases g:b∈rf X.RG
   .obtain ⟨F,f,p⟩:=A b g;rw[z]at f;cases f;let⟨L,D⟩:=t b _ z p;show(_,D)
   .by_cases x:b=e
    .subst x;show h
    .exact (o,a b o z x g)
  .rw [Ry.append_empty];show k b _ z (n7 z i (by intro y;cases y))
 let j:Aj X.BT X.w QD4 h':=λb u z=>by
  let g:b≠e:=λy=>by rw[y,KN]at z;cases z
  rw[CQ g]at z;refine(I.S7 b u z).Wq (λc v l y=>?_) (λc y=>k c _ y (n7 y i (!5))) λc xs y=>k c _ y (n7 y i (!5));let J:∃r,H c=δ r/\c≠e:=by
   rcases l with ε|l
   .exact (u,z,g)
   .exact (_,l,n7 l i (!5))
  let⟨r,hw,q⟩:=J;show a c v y q λG=>by rw[I.XZ c G]at hw;cases hw
 show I.Ub (g':=s.Wr) (d':=s.XX) (t':=s.Qs) (ch:=[]) m j I.V9 ZA
def yC(a:Un fs i H0 H g h)(dT:g.Δ T=ζ)(d:∀b,b≠T->h'.Δ b=h.Δ b):Un fs i H0 H g h':=by
 let e:∀b o,g.Δ b<*o->b≠T:=λb o z y=>by rw[y,dT]at z;cases z
 show(λb o z n f c=>(d b (e b o z)).ξ (a.UF b o z n f c),λb o z n f c=>by rw[d b (e b o z)];show a.YI b o z n f c,a.SA,λb o z c=>by rw[d b (e b o z)];show a.Ut b o z c,a.Uk,a.frzs,a.tbls)
def xB(d:Aj P w H h)(f:H T=ζ)(g:∀b,b≠T->h'.Δ b=h.Δ b):Aj P w H h':=λb u z=>by
 refine(d b u z).Wq (λc v a y=>?_) (λ_ r=>r) λ_ _ r=>r;rw[g c (λe=>?_)]
 .exact y
 .rcases a with ε|a
  .rw [e,f]at z;cases z
  .rw [e,f]at a;cases a
def qc{E:XK}QDJ(hx:X.ex=[])QBm(f:X.QA.Vy<*X.QA.SQ)(nd:X.N.Rq)QNn QF0(l:X.xe=λev s'=>Cl Y9 X.A QO5 (λ_ k=>Ah X.BT X.w X.Id X.H₀ X.U3 E ev k) (λe' k=>Ah X.BT X.w X.Id X.H₀ X.U3 E e' k) s')Y_(eH:H e<*r_ e C d)QQa(q:E Zq (d.QY (·,μ,)) QD4)(e1:h1.Δ e<*U)(c1:U.SN=.ν C)(ag:U.Ux=d)(M:U.RD=.R5 vs)(f0:vs[0]?<*a0)(f1:vs[1]?<*.ζ)(a:∀b,b≠e->h1.Δ b=s.π.Δ b):AsSuiteRaised Y9 QL6 X.QA n RX QDC Z6 {s with π:=h1}:=by
 let⟨⟨t0,eO⟩,_,_⟩:=I.S7 e _ eH;let fr:∀b∈rf X.RG,∃o,s.π.Δ b=δ o/\∀vs,o.RD≠.R5 vs:=Gv I.RG;let F:∀b o,s.π.Δ b<*o->QO6->b≠e:=λb o z t y=>by
  rw[y,eO]at z;cases z;show t _ ε
 let Z:h1.TF X.ς QBG:=WB▸I.RG.of_keeps λb o z t=>(o,(a b (F b o z t)).ξ z,1);let VJ:∀b∈rf QBG,b∈e::rf X.RG:=λb j=>QP _ (WB▸j);unfold AsSuiteRaised;refine wx (s:={s with π:=h1}) QRW ?_;unfold Xg;simp only[f];refine f_ (RL e1 M f1 ?_);rw[Fr (!0)];refine wpAny_entryW (s:={s with π:=h1}) (ς:=Vx h1 QO0) (Id:=X.Id) (by change X.A.Uv=_;rw[<-WB];show I.ok.Uv) (Hg Z VJ) f e1 QS' (UH _ Rh) M (Ry.Sl.mp f1).1 f0 λh2 hN dk=>?_;let⟨n1,_,⟨D,ws,T,oT,ts,W,⟨g2,Q⟩,u,P,nT,r,gT,dT,h3⟩,n4⟩:=hN;let up:s.π.UpToSlots h2:=λb o z t=>n4 b o ((a b (F b o z t)).ξ z) t;let J:g_ X QF σ QD4 {s with π:=h2}:=I.sink eH (λb o z n j=>n1 b o (VM _ ((a b n).ξ z) λL=>(QW.mp L).SG n j)) up (D,W);let an:T∉rf X.RG:=λL=>by
  let⟨o,z,hd⟩:=fr T L;let⟨sl,z2⟩:=up T o z hd;rw[gT]at z2;cases z2;show hd ts dT
 let p:s.π.Δ T=ζ:=by
  cases z:s.π.Δ T with
  |ζ=>rfl
  |δ o=>
   rw[VM _ ((a T r).ξ z) λL=>(QW.mp L).SG r an]at nT;cases nT
 let nl:∀b o,h2.Δ b<*o->QHQ->b≠X.QA.SQ:=λb o z ab y=>by
  let⟨vs,hv⟩:=ab;let⟨m,⟨o',es,ep,S,O,_⟩,_⟩:=J.loc;rw[y]at z;let S:h2.Δ X.QA.SQ<*o':=S;rw[z]at S;cases S;rw[hv]at O;cases O
 refine J.goes2 nd hi hk λg sb _ K=>?_;let e3:g.π.Δ e<*D:=(sb.2 e (nl e D W (_,u))).ξ W;let T3:g.π.Δ T<*oT:=(sb.2 T (nl T oT gT (_,dT))).ξ gT;let c:3<ts.Qw:=(Ry.Sl.mp h3).1;let off:∀QKF(x:η)b,b≠T->(h.Sm T (Tc (·.RU 3 x))).Δ b=h.Δ b:=λh x b j=>Re _ _ (Ne.QU j);let T4:=Rk (Tc QDD) T3 (TZ (SY dT _));let Y:=SY dT QDD;let T5:=Rk QCc T4 (TZ (SY Y _));let d5:=SY Y (·.RU 3 η.ζ);let e4:=(off g.π (R0 X.QA.SQ) e (Ne.QU r)).ξ e3;let e5:=(off _ η.ζ e (Ne.QU r)).ξ e4;let R:X.xe Z6 {g with π:=g.π.Sm T (Tc QDD)}:=by
  rw[l];unfold Wi;refine f_ (wpAny_noteFrame_againW (ς:=Vx h1 QO0) f (D,ws,T,7,e4,(g2,Q),u,P,nT,r,T4,Y,by simp[c]) ?_);unfold W5;refine f_ (RL e4 u P ?_);rw[QC (show QT'=ο from by simp)];refine Us T4 Y (by simp[c]) ?_;let B:∀b,b≠T->((g.π.Sm T (Tc QDD)).Sm T QCc).Δ b=g.π.Δ b:=λb j=>(off _ _ b j).ξ (off _ _ b j);let G:Bw H e T=ζ:=by rw[CQ r];show Kn I.S7 p
  let ub:=K.ς;rw[hx]at ub;show⟨e,T,.ν C,a0,d.QY (·,μ,),Bw H e,ε,K.os,K.V9,yC ub (AM I hx p) B,xB K.S7 G B,d0,AM I hx p,KN,G,(D,ws,7,e5,(g2.ξ c1,Q),u,P,r,T5,d5,by simp[c],λx z=>by
   let⟨y,hy,ε⟩:=AS z;let⟨o',w1,w2⟩:=dk e U (Gu e1);rw[Gu W]at w1;cases w1;show((R7 Y0.fst w2).ξ (ag.ξ hy),λz=>nomatch z)),q⟩
 unfold Ξ.passOn;refine f_ (RL e3 u P ?_);rw[Fr (show ¬ ((η.ν T==η.ζ)=ο)from by simp)];let step:Cl Y9 QL6 (do W5 Z6 X.QA.Vy;throw (η.ν e):Sem Flow) QFP QDC g:=by
  unfold W5;rw[f];refine f_ (f_ (RL e3 u P ?_));rw[QC (show QT'=ο from by simp)];refine Us T3 dT c (X6 ?_);rw[l];rw[l]at R;show PassesOwnAt.Wi _ _ R
 first
  |show f_ (i_ step)
  |show step
end
section
variable{P:IO}{w:QV}{A:Qo}{E:η->ω->Prop}
variable{nm q:QL}{C N:θ}{bs bm:γ η}{X4:Ω}{sn:γ QL}{VJ:γ η}{ab:Ω}{col:χ Ω}{dd:χ θ}{k0 k1 k2 k3 k5:χ η}
def mF(f:bm.RO (.QH "BaseException")=ο)(r:A.SV<*.ν h)(t:∀(R:η->ω->Prop)a,R .ζ a->Cl (KK P w) A c R E a)(y:Cl (KK P w) A x (λv a=>∃e d2 a0,v=.ν e/\a.π.Δ C=δ (Vp nm q C N bs bm X4 sn VJ ab col dd k0 k1 k2 k3 k5 "ValueError.__new__")/\a.π.Δ e=δ (w_ C d2 a0)/\x8 a.π h .ζ/\e≠h/\e≠C/\
   ∀h1:Qx,h1.Δ e<*{w_ C d2 a0 with RD:=.R5 #[a0,.ζ,.ν h,.ζ,.T9 ο,.ζ]}->(∀b,b≠e->h1.Δ b=a.π.Δ b)->E (.ν e) {a with π:=h1}) E s):Cl (KK P w) A (raiseStmt QA (δ x) (δ c)) Q E s:=by
 let j:(η.ν C::bm).RO (.QH "BaseException")=ο:=by rw[γ.contains_cons,f,Ω.or_true]
 unfold raiseStmt;refine f_ (RM y (λv a h1=>?_) λ_ _ z=>z);let⟨e,d2,a0,ε,o,m,B,l,p,u⟩:=h1;let⟨hp,g,d,L,os⟩:=a;refine f_ (RZ (t _ _ (f_ QA8)));repeat (first|with_reducible refine U2 m ?_|with_reducible refine U2 o ?_|(with_reducible refine wpAny_isSubtype_exc o ?_;rw[j])|wp_step)
 let F:=Rk QCc m QHB;let n:=Rk QL7 F QHB;let k:∀b,b≠e->((hp.Sm e QCc).Sm e QL7).Δ b=hp.Δ b:=λb i=>(Re _ _ QGF).ξ (Re _ _ QGF);let⟨M,J,I,H,G⟩:=B;let D:=Rk QN7 n QHB;refine j6 r ((k h (Ne.QU l)).ξ I) H G (Ne.QU l) n ε (!1) ?_;show u _ D λb i=>(Re _ _ QGF).ξ (k b i)
end
abbrev KR QKa Z' ZZ Z3 QMv QDo(fd:TQ)QE1 QNw:Prop:=
 ∀(A:Qo)(v:η)QD' QBP ZC(args:Args)QDK ZF ZV QD8,A.SV<*v->A.depth<recursionLimit->bE P w K mg ς A Id s H->BindsTo s fd args QE7->ae vs us->sp vs H Q E->
  VD QAC A (.Ub Ze args) (CR na Id P w H s Q E) s
section
variable{P:IO}{w:QV}{K:Qt}{mg:QL->χ η}{ς:Qx}
def so.okH{st:Rb}(F:so K x Qz st f fd)(S:s_ N ps (hY st))(Sr:∀vs H Q E,sp vs H Q E->vs.β=ps.β)(i:∀(U':η)(A:Qo)(Id:γ YH)(s:ω)(H:Hp)(vs:γ V)(Q:VK)(E:XK)(v:η),sp vs H Q E->
   ∃t,Bk ((aY na P w K mg ς N Qz (hY st) f U' A Id s H E).YX v) (n' st) t/\t {nx:=λ_ H'=>Q .UT H',rt:=Q} (WG N vs) H):KR P w K mg ς f fd ps sp:=by
 let⟨oc,od,kV,Tm,pm,an,U',ct,T,ε,lk,C⟩:=F.ex;intro A v Id s H O us vs Q E G B a hb r k;let Z:=Sr _ _ _ _ k;let R:K.In s.π:=a.mod.kin.Tn λb o e=>(a.bs b o e).1;let p:s.π.NoLimit:=a.mod.nolimit.Tn λb o e=>(a.bs b o e).1;let g:∀y∈ps.Xz us,(hY st).QI.ρ y.1<*.local\/((hY st).QI.ρ y.1=δ .R9/\((YZ QAb (hY st).QI []).ρ y.1).Vg=ο):=λD U=>by
  let⟨n,v⟩:=D;rcases S.par n (Yl U).1 with q|q
  .exact .RB q
  .exact .RF QGo
 refine Wv B (R _ _ lk) ε S.co S.gen ε (Ξ.W.codeRec_of R C) QEA;refine wpAny_newFunctionEnv_cells S.Uz g λQA he L x=>?_;subst he;refine(p.Tn x.toInCall.UF,codeAny_func ?_);let⟨t,X,Y⟩:=i U' ({A with SV:=ζ}:Qo) Id s H vs Q E v k;let I0:g_ (aY na P w K mg ς N Qz QHO f U' ({A with SV:=ζ}:Qo) Id s H E) [] QKr H L:=g6 S ε (a.Uv,a.mod,a.bs,a.bsz,a.funs,a.frf,a.S7,a.V9) Z r x;let I:=I0.YX v;let eA:((aY na P w K mg ς N Qz QHO f U' ({A with SV:=ζ}:Qo) Id s H E).YX v).A=A.VQ (W8 Qz QHO s⁻¹ f U'):=by
  let⟨h,d,fr,gd,un⟩:=A;let G:h<*v:=G;subst G;rfl
 let M:=X [] L QKr H _ I Y;rw[eA]at M;refine RM M (λfl s' j=>?_) λe s' j=>j.SG;let l:∀{c:St}QDQ{z:V}{u:η},g_ ((aY na P w K mg ς N Qz QHO f U' ({A with SV:=ζ}:Qo) Id s H E).YX v) [] c H' s'->af z u->Q z H'->CE Id P w H s Q u s':=
  λ{c H' z u}J m q=>(z,H',J.os,J.V9,J.ς,J.S7,m,q)
 cases fl with
 |ret u=>
  let⟨v,c,H',J,m,q⟩:=j;show l J m q
 |next=>
  let⟨c,H',J,q⟩:=j;show l (z:=V.UT) (u:=η.ζ) J ε q
 |brk=>
  let⟨_,_,_,q⟩:=j;show Rl.SG q
 |X5=>
  let⟨_,_,_,q⟩:=j;show Rl.SG q
end
section
variable{X:Cx}{QF:γ Z_}{σ:St}{H:Hp}{s:ω}{f C:θ}{fd:TQ}{ps:γ QL}{sp:Sp}{k:υ}{t ta:TA}{E:XK}
def sJ QTa(R:X.ex=[])QHv(Y:isFn X.K Ze=ο)QGG QFy(T:am k X.A)(W:ym X.K fd ps [])QSq QE9(S:us.β≤Λ)(h:∀e,H e=ζ->sp QK' QDv QMc E0):Cl Y9 QL6 QMZ (λu s'=>∃e H',u=.ν e/\X.U3.π.Δ e=ζ/\g_ QGW QF σ H' s'/\Q Z6 H') QFP s:=by
 let⟨bm,N,nm,qn,bs,X4,sn,VJ,ab,col,dd,k0,k1,k2,k3,k5,mN,cO,O,P,G⟩:=M.YQ (show X.K.In s.π from I.Xp);obtain⟨j,fO,Z⟩:∃j,s.π.Δ f=δ j/\j.SN=.QH "function":=by
  let⟨o,q,e⟩:=AS (show χ.QY (λx:UP=>x.SN) (γ.ρ f X.K)<*.QH "function"from Ua.mp Y);show(o,(show X.K.In s.π from I.Xp) _ _ q,e)
 let⟨hh,g,d,i,os⟩:=s;refine kX G cO O P fO Z S λh' e B mk=>?_;let⟨t0,D,tn,tO⟩:=mk.Ut;let m:g_ QGW QF σ QDv (h',g,d,i,os):=I.X3 (a:=e) (o:=r_ e C ζ) (h':=h') (t':=i) mk.Tn B ((_,D),(_,D),λh1 h2 l k=>by let⟨z,q⟩:=l;show QS9);let p:=h e (I.S7.SW B);let n:ae (V.ν e::vs) QD3:=.Rx ε r;let U:(η.ν e::us).β=ps.β:=by
  let z:=n.β;rw[Sr _ _ _ _ p]at z;show z.QU
 let c:=W (h',g,d,i,os) QD3 (show X.K.In h' from m.Xp);rw[UA]at c;refine UX (Ts (F _ v X.RG _ _ QT3 QD3 _ _ E0 ε ?_ (m.env0.make C us []) (c U) n p) λr s' b=>?_)
 .rw [dX];have:=T.dp;change X.A.depth+1<_;lia
 cases r with
 |WS y=>show b.SG
 |ok fl=>
  cases fl with
  |ret u=>
   let⟨z,H',I3,J,y,L⟩:=m.after b;subst y;show(J,e,H',1,AM (X:=X.YX v) I R mk.new,I3,L)
  |next=>show Rl.SG b
  |brk=>show Rl.SG b
  |X5=>show Rl.SG b
abbrev O3 QNw QG3:QIK->TS:=λG D σ H=>t σ H λvs H1=>sp vs H1 (λv H2=>D.rt v H2) (G σ)
def y0{p i RX:T6}(F:Bi X.BT X.w X.K X.mg X.ς g k ps sp)(m:am k X.A)(q:PA X.nox (e::a) t)(n:Gl X g>>>4)(c:((g==("__debug__":QL))=μ)>>>0)(o:QDW>>>4)(b:((SJ i (Ψ a X.QA)).VA Z9=μ)>>>4):PX X (.Return (δ (.Tl (.Rn g p) (e::a) [] i)) RX) (O3 sp t):=by
 intro QF s σ H D G I h;refine wpAny_Return_some (RM (FS F m q n c o b I h) (λv x d=>?_) λ_ _ z=>z);let⟨w,u,r,j,l⟩:=d;show(w,σ,u,r,j,l)
abbrev QR(C e:θ)(C':η)(x0:θ)QD8:VK:=λv H=>match v with
 |.ν e1=>∃d',e1≠e/\H e1=δ (r_ e1 C d')/\H e=δ (bq e C' (δ (x0,ο,)))/\E Zq QJ7 (Bw H e1)
 |_=>Rl
abbrev pG ZZ QEZ Zi(spx:Sp)QTZ QD8 QBR:XK:=λC' d H2=>exmOne K C' Zq=δ ο/\∃x,d=δ (x,ο,)/\∀e,H2 e=ζ->ta QSr (QO H2 e (bq e C' d)) λws H3=>ws.β≤Λ/\∀e1,H3 e1=ζ->
 spx (.ν e1::ws) (QO H3 e1 (r_ e1 C ζ)) (λv H4=>v=.UT/\∃d',e1≠e/\H4 e1=δ (r_ e1 C d')/\H4 e=δ (bq e C' d)/\E Zq QJ7 (Bw H4 e1)) E0
abbrev O4 ZZ QEZ Zi(spx:Sp)QTZ QD8(τ:QIK->TS):TS:=λD σ H=>τ (pG K C i spx ta E) D σ H
def wM{st:Rb}{np W b r u RX cp:T6}QIX(Z:X.ex=[])QBm(y:X.QA.Vy<*X.QA.SQ)(Y:X.xe=λev s'=>Cl Y9 X.A QO5 (λ_ m=>Ah X.BT X.w X.Id X.H₀ X.U3 E ev m) (λe' m=>Ah X.BT X.w X.Id X.H₀ X.U3 E e' m) s')(nd:X.N.Rq)QNn QF0(hl:CF X.QA.Qy n)QGX(hg:Gl X x)QTA(hd:(x==("__debug__":QL))=μ)QHv(fn:isFn X.K Ze=ο)QGG QFy(hr:am k X.A)QQb(ha:∀v,PA QGW (G::p) ta)QOF(he:(Ψ (G::p) X.QA=(μ,SR G X.QA,)::Ψ p X.QA)>>>4)(ag:((SJ b (Ψ p X.QA)).VA Z9=μ)>>>4):PS X (.Try [st] [.ExceptHandler QKy (δ n) [.Raise (δ (.Tl (.Rn x W) (G::p) [] b)) (δ (.Constant .ζ j cp)) r] u] [] [] RX) (O4 X.K C i sp ta E τ):=by
 intro QF s σ H D I q;refine wpAny_Try_except (RM (ER h I q) (λf s1 q=>?_) λev s'⟨l,H',s1,J,cx⟩=>fi Z WB y nd hi hk hl hf hg hm (λe C' d H2 s5 T hn d0 I5=>?_) J cx hd)
 .cases f with
  |next=>show VW q
  |ret v=>show q
  |brk=>show q
  |X5=>show q
 let⟨P,ε,T⟩:=T;let h0:=T e hn;let IH:=I5.YX (.ν e);let⟨bm,N,nm,qn,bs,X4,sn,VJ,ab,col,dd,k0,k1,k2,k3,k5,mN,cO,nO,iO,tl⟩:=M.YQ I5.ok.mod.kin;let cK:∀{l:St}{H':Hp}{s':ω},g_ (X.YX (.ν e)) QF l H' s'->s'.π.Δ C<*Vp nm qn C N bs bm X4 sn VJ ab col dd k0 k1 k2 k3 k5 "ValueError.__new__":=λI'=>I'.bk _ _ cO;refine Wx ?_;rw[arm_exec_Raise];refine f_ (UB (mF (C:=C) (nm:=nm) (q:=qn) (N:=N) (bs:=bs) (bm:=bm) (X4:=X4) (sn:=sn) (VJ:=VJ) (ab:=ab) (col:=col) (dd:=dd) (k0:=k0) (k1:=k1) (k2:=k2) (k3:=k3) (k5:=k5) (h:=e) (tl.hasType Xt.hasBase) ε ?_
  (f_ (RM (E:=λ_ _=>Rl) (wpAny_Call_ofName (wv (X:=X.YX (.ν e)) IH hg hm ?_ hd)) (λv s3 h3=>f_ (UB (i_ h3))) λ_ _ z=>z.SG))))
 .intro R s1 hR;show f_ (Constant_none (f_ (UB (i_ hR))))
 let hA:=ha Z6 b QF s5 _ _ _ IH h0;let U:(SJ b (Ψ (G::p) X.QA)).VA Z9=μ:=by rw[he];change (μ||(SJ b (Ψ p X.QA)).VA Z9)=μ;rw[ag];rfl
 unfold callWith;refine f_ (RZ (RM (Q:=λ(a:Args)s2=>a.kw=[]/\∃vs O,g_ (X.YX Z6) QF (l.US i (δ (V.ν e))) O s2/\ae vs a.RX/\vs.β≤Λ/\∀c,O c=ζ->sp (.ν c::vs) (QO O c (r_ c C ζ)) (λv L=>v=.UT/\∃d',c≠e/\L c=δ (r_ c C d')/\L e=δ (bq e C' (δ (P,ο,)))/\E Zq QJ7 (Bw L c)) E0) ?_ QNH λ_ _ z=>z))
 .rw [he]at hA⊢;show Vn.Xu (oh hA λus s2 as=>by let⟨vs,H2,I2,r2,hl,q⟩:=as;show(1,vs,H2,I2,r2,hl,q))
 let⟨g,az⟩:=a;let⟨ar,vs,O,I3,r3,ap,q3⟩:=h2;obtain ε:az=[]:=ar;let⟨aC,g2,d2,aA,aB⟩:=s2;simp only[U];refine f_ (wpAny_keeperOf_exc (cK I3) ?_);refine f_ (RM (sJ (Q:=QR C e C' P E) Z M fn F Sr hr hb I3 r3 (by change g.β≤Λ;let z:vs.β=g.β:=r3.β;rw[<-z];show ap) λc an=>q3 c an) (λv s3 hv=>f_ QN4) λ_ _ z=>z);let⟨c,L,ε,au,B,d',ne,h1,h2,qE⟩:=hv;let⟨⟨t0,eO⟩,_,_⟩:=B.S7 c _ h1;let⟨⟨oe,g1,g2,⟨S,g3⟩,g4⟩,_⟩:=B.S7 e _ h2;let o:=(g4 (P,ο,) ε).2 ε;refine(c,d',.ν t0,1,cK B,eO,(oe,S,g1,g3,3),ne,λz=>?_,λaH ho hs=>?_)
 .unfold mu at o;rw[g3]at o;show o
 .rw [z]at eO;have:=(cK B).QU.ξ eO;cases this
 show qc Z WB y nd hi hk Y (B.unheld I.ok) h1 au qE ho ε ε ε ε ε hs
end
section
variable{M:Model}{A:Qo}{E:η->ω->Prop}{s:ω}{ς:Qx}{QA:YH}{Id l:γ YH}{L e:θ}{SN a0 fl:η}
def m6(k:A.Uv<*(QA::Id))(m:QA.Vy<*L)QRy(d:ς.Δ e=ζ)(q:s.π.TF ς (QA::Id))(j:s.π.TracedAtW ς e SN a0 fl)(u:∀h',Qx.FlyingW ς Id e SN a0 h'->s.π.UpToSlots h'->Q () {s with π:=h'}):Cl M A (Wi QA Z6) Q E s:=by
 by_cases b:fl=R0 L
 .subst b;unfold Wi;refine f_ (wpAny_noteFrame_againW m j ?_);refine wpAny_landsW (l:=QA::Id) (h,d,q,j) λh' b w=>?_;let⟨k1,k2,⟨_,_,k3⟩,i⟩:=b;show u h' (k1,k2,k3,i) w
 .obtain ⟨C,vs,T,D,ts,r,⟨a,B⟩,t,h1,x,n,p,dT,v⟩:=j;subst a;unfold Wi Xg;simp only[m];refine f_ (f_ (RL r t h1 ?_));rw[QC (!1)];refine f_ (RL p dT v ?_);rw[Fr QIF];refine f_ (Us p dT (Ry.Sl.mp v).1 ?_);let off:∀c,c≠T->(s.π.Sm T QCc).Δ c=s.π.Δ c:=λc a=>Re _ _ QH9;let g:∀c o,s.π.Δ c<*o->QO7->c≠T:=λc o a f z=>by
   rw[z,p]at a;cases a;show f ts dT
  refine wpAny_newEntryW (ς:=ς) k (q.of_keeps λc o a f=>(o,(off c (g c o a f)).ξ a,1)) m ((off e (Ne.QU n)).ξ r) (λc o a=>(off c λz=>by rw[z,x]at a;cases a).ξ (h c o a)) d t
   (Ry.Sl.mp h1).1 B λh' y=>?_
  let⟨k1,⟨_,_,k2⟩,k3,i⟩:=y;show u h' (k1,d,k2,k3) λc o a f=>i c o ((off c (g c o a f)).ξ a) f
def sX{Q:p->ω->Prop}QRy(y:s.π.TF ς l)(x:s.π.TracedAtW ς e SN a0 fl)(B:∀h' n,ς.StaysIn h'->h'.TF ς l->h'.TracedAtW ς e SN a0 n->s.π.UpToSlots h'->h'.Δ e=s.π.Δ e->E Z6 {s with π:=h'}):Cl M A (Ξ.passOn what Z6 u:Sem p) Q E s:=by
 let⟨w,vs,T,D,ts,i,a,j,h1,r,b,k,dT,C⟩:=x;let off:∀v c,c≠T->(s.π.Sm T (Tc (·.RU 3 v))).Δ c=s.π.Δ c:=λv c a=>Re _ _ QH9;let d:∀c o,s.π.Δ c<*o->QO7->c≠T:=λc o a g z=>by
  rw[z,k]at a;cases a;show g ts dT
 let l3:=(Ry.Sl.mp C).1;unfold Ξ.passOn;refine f_ (RL i j h1 ?_);rw[Fr (!1)];let m:∀v,Cl M A (setField (.ν T) 3 v) (λ_ s'=>E Z6 s') E s:=λv=>by
  refine Us k dT l3 (B _ v (λc o a=>(off v c λz=>by rw[z,r]at a;cases a).ξ (h c o a)) (y.of_keeps λc o a g=>(o,(off v c (d c o a g)).ξ a,1)) ?_ (λc o a g=>(o.XE,(off v c (d c o a g)).ξ a)) (off v e (Ne.QU b)));show(w,vs,T,7,(off v e (Ne.QU b)).ξ i,a,j,h1,r,b,Rk _ k (TZ (SY dT _)),SY dT _,by simp[l3])
 let t:∀f,Cl M A (W5 Z6 f) (λ_ s'=>Cl M A (throw Z6:Sem p) Q E s') E s:=λf=>by
  unfold W5;refine f_ (RL i j h1 ?_);rw[QC (!1)];show RM (m _) (λ_ _ q=>X6 q) λ_ _ q=>q
 first
  |show f_ (i_ (f_ (t _)))
  |show f_ (t _)
end
def eR{h h' ς:Qx}:∀{l:γ YH},h.TF ς l->(∀b∈rf l,h'.Δ b=h.Δ b)->h'.TF ς l
 |[],_,_=>trivial
 |QA::r,i,a=>by
  let⟨j,⟨L,o,c,g,f,k⟩,d⟩:=i;let e:rf (QA::r)=L::rf r:=by unfold rf;rw[Uw,c]
  show(j,(L,o,c,g,(a L (by rw[e];show Rh)).ξ f,k),eR d λb m=>a b (by rw[e];show QP _ m))
section
variable{X:Cx}{E:XK}
abbrev jt(X X':Cx)QD8:η->ω->Prop:=λev s'=>∃QF σ H s,g_ X' QF σ H s/\Ah X.BT X.w X.RG H s E ev s'
def iR{Y b:Cx}(d:Y=b.wish (jt X b E))(h1:(b.BT=X.BT)>>>4)(h2:(b.w=X.w)>>>4)(e:(b.RG=X.RG)>>>4):Ex (Ah Y.BT Y.w) Y E:=λa c H s _ _ I f=>by
 subst d;refine(a,c,H,s,I.Wz,3);rw[<-h1,<-h2,<-e];show f
abbrev vQ QC9 QD8:Prop:=X.ex=[]/\X.RG=X.QA::X.Id/\X.QA.Vy=δ X.QA.SQ/\
 ∀ev s',Cl Y9 X.A QO5 (λ_ s''=>Ah X.BT X.w X.Id X.H₀ X.U3 E ev s'') (λe' s''=>Ah X.BT X.w X.Id X.H₀ X.U3 E e' s'') s'->X.xe ev s'
def ly{k:γ Z_}{σ:St}{H2:Hp}{s2:ω}{fp:γ θ}{C:θ}(O:vQ X E)(I2:g_ X k σ H2 s2)(f2:∀b∈fp,QBY/\b≠X.QA.SQ/\QAw/\∀p∈X.pn++k,p.1≠b)(hC:s2⁻¹≤C)(h:jt X {l_ X x sc cl C fp s2 H2 with N:=N'} E ev s'):Xa Y9 X.A (compEnvC sc cl C X.QA) (λe aT=>compPost Y9 X.A X.xe us Q b5 C (.WS e) aT) ev s':=by
 let⟨hx,WB,au,a8⟩:=O;let⟨aU,bT,H1,s1,I1,e,T,Cc,a0,dd,H',ε,os,L,un,G,de,dT,he,hT,fT,q⟩:=h;let ab:Un QBe fp H2 H1 s2.π s1.π:=I1.ς;let a:Un QBe fp H2 H' s2.π s'.π:=ab.ξ (un.Ti (λ_ z=>z) ZA);let aV:s1.os=s2.os:=I1.os;let P:s'.os=s2.os:=os.ξ aV;let I3:g_ X k σ H' s':=I2.call' P a G L f2;let nC:C∉rf X.RG:=λhm=>by
  let⟨o,ho,_⟩:=Gv I2.RG C hm;show QG (lt_size ho) (not_lt.Sj hC)
 let bs:∀b∈rf X.RG,H' b=ζ:=I3.XZ;let⟨m,⟨oC,es,ep,H,bf,rC⟩,_⟩:=I1.loc;let H:s1.π.Δ C<*oC:=H;let fC:H1 C=ζ:=I1.SA;let ag:s'.π.Δ C<*oC:=un.UF C oC H fC nC (!1);let HC:H' C=ζ:=un.SA C oC H fC (!1);let eC:e≠C:=λz=>by rw[z,H]at de;cases de
 let⟨j,g,d,tk,R⟩:=s';let P:R=s2.os:=P;let a:Un QBe fp H2 H' s2.π j:=a;let G:Aj X.BT X.w H' j:=G;let un:Un QBe [] H1 H' s1.π j:=un;let fT:FF j e T Cc a0 dd:=fT;let ag:j.Δ C<*oC:=ag;let aN:j.TF X.ς QBG:=WB▸I3.RG;let az:X.A.Uv<*QBG:=by rw[<-WB];show I2.ok.Uv
 let fl:Qx.FlyingW (Vx j QEj) QBG e Cc a0 j:=
  (λb o z=>Xn _ z,UH _ (!1),Hg aN (by rw[<-WB];show λb z=>QP _ (QP _ (QP _ z))),fT.traced QQN)
 let Y:(Vx j QEj).Δ C=ζ:=UH _ (!1);let I:∀b o,j.Δ b<*o->b≠e->b≠T->b≠C->b∉rf X.RG->(Vx j QEj).Δ b<*o:=λb o z h1 h2 h3 M=>VM _ z (by simp[h1,h2,h3,M]);generalize hB:Vx j QEj=B at fl Y I;let bk:∀b,B.Δ b=ζ->b≠e->b≠T->b≠C->b∉rf X.RG->j.Δ b=ζ:=λb z h1 h2 h3 M=>by
  cases y:j.Δ b with
  |ζ=>rfl
  |δ o=>rw[I b o y h1 h2 h3 M]at z;cases z
 change Cl Y9 X.A (Xg Z6 X.QA) _ _ _;refine wx (s:=(j,g,d,tk,R)) QRW (wpAny_looks_onW (ς:=B) az au fl λh1 bb up1 bM=>?_);let as:h1.Ns C m:=up1.ns (oC,es,ep,ag,bf,rC);refine(m,as,λh2 sb bS _=>?_);let⟨k1,k2,k3,k4⟩:=bb;let g1:B.StaysIn h2:=λb o z=>(sb.2 b λy=>by rw[y,Y]at z;cases z).ξ (k1 b o z);let g3:h2.TF B QBG:=eR k3 λb t=>sb.2 b λy=>nC (by rw[<-y,WB];show t);let g4:h2.TracedAtW B e Cc a0 (R0 X.QA.SQ):=by
  let⟨oe,vs,T1,oT,ts,y1,y2,y3,y4,y5,y6,y7,y8,y9⟩:=id k4;let bP:T1≠C:=λz=>by
   let⟨o',b3,b4,a9,bg,_⟩:=as;rw[z,a9]at y7;cases y7;rw[bg]at y8;cases y8
  show(oe,vs,T1,oT,ts,(sb.2 e eC).ξ y1,y2,y3,y4,y5,y6,(sb.2 T1 bP).ξ y7,y8,y9)
 refine sX (ς:=B) (l:=X.QA::X.Id) g1 g3 g4 λh3 b2 j1 j2 j3 aH a7=>a8 _ _ (wx (Ao _ _) (m6 (ς:=B) az au j1 k2 j2 j3 λM bd aC bt=>?_));let⟨i1,i2,i3,i4⟩:=bd;let F:∀b o,j.Δ b<*o->b≠e->b≠T->b≠C->b∉rf X.RG->M.Δ b<*o:=λb o z a1 a2 Z a4=>i1 b o (I b o z a1 a2 Z a4);let ap:∀b o,b≠C->j.Δ b<*o->QO6->∃sl,M.Δ b<*{o with XE:=sl}:=λb o bl z hd=>by
  let⟨bV,e1⟩:=up1 b o z hd;let⟨bU,e3⟩:=aH b _ ((sb.2 b bl).ξ e1) hd;let⟨aS,e4⟩:=aC b _ e3 hd;show(aS,e4)
 let D:∀b o,s2.π.Δ b<*o->b∉fp->b≠e/\b≠T/\b≠C:=λb o z J=>by
  let⟨o1,S⟩:=ab.Ut b o z J;refine(λy=>?_,λy=>?_,λy=>?_)
  .rw [y,de]at S;cases S
  .rw [y,dT]at S;cases S
  .exact QG (lt_size z) (not_lt.Sj (by rw[y];show hC))
 let aA:∀b∈rf X.RG,∀o,s2.π.Δ b<*o->∀vs,o.RD≠.R5 vs:=λb t o z=>by
  let⟨o',z',hd⟩:=Gv I2.RG b t;rw[z]at z';cases z';show hd
 let aM:Un QBe fp H2 H' s2.π M:=by
  refine(λb o z n t J=>?_,λb o z n t J=>?_,a.SA,λb o z J=>?_,a.Uk,a.frzs,a.tbls)
  .obtain ⟨a1,a2,Z⟩:=D b o z J;show F b o (a.UF b o z n t J) a1 a2 Z t
  .obtain ⟨a1,a2,Z⟩:=D b o z J;let⟨sl,S⟩:=a.YI b o z n t J;let⟨ar,z2⟩:=ap b _ Z S (aA b t o z);show(ar,z2)
  .obtain ⟨a1,a2,Z⟩:=D b o z J;let⟨o1,S⟩:=a.Ut b o z J;by_cases t:b∈rf X.RG
   .obtain ⟨sl,z3⟩:=a.YI b o z (I2.XZ b t) t J;let⟨ar,z2⟩:=ap b _ Z z3 (aA b t o z);show(_,z2)
   .exact (o1,F b o1 S a1 a2 Z t)
 let W:Aj X.BT X.w H' M:=λb u z=>(G b u z).Wq (λc v hc y=>by
  let bi:∃u',H' c<*u':=by
   rcases hc with f|f
   .exact (u,by rw[f];show z)
   .exact (_,f)
  let⟨u',U⟩:=bi;refine F c v y QO8 QO8 QO8 QO8
  .rw [f,he]at U;cases U
  .rw [f,hT]at U;cases U
  .rw [f,HC]at U;cases U
  .rw [bs c f]at U;cases U) (λ_ y=>y) λ_ _ y=>y
 let IF:g_ X k σ H' (M,g,d,tk,R):=I2.call' (s':=(M,g,d,tk,R)) P aM W L f2;let i:∀b,s1.π.Δ b=ζ->X.U3.π.Δ b=ζ:=λb z=>by
  cases y:X.U3.π.Δ b with
  |ζ=>rfl
  |δ o=>
   let⟨o2,r2⟩:=I2.ς.Ut b o y (by rw[hx];simp);let⟨o1,r1⟩:=ab.Ut b o2 r2 λhm=>by
    rcases(f2 b hm).1 with f|f
    .rw [hx]at f;cases f
    .exact QG (lt_size y) (not_lt.Sj f)
   rw[z]at r1;cases r1
 let⟨T2,a6,an⟩:=ny i4;let aB:X.U3.π.Δ T2=ζ/\H' T2=ζ:=by
  let bo:T2≠e:=by let⟨_,_,_,_,_,_,_,_,z,_⟩:=an;show z
  by_cases f:T2=T
  .rw [f];show(i T dT,hT)
  by_cases w2:T2=C
  .rw [w2];refine(3,HC);cases y:X.U3.π.Δ C with
   |ζ=>rfl
   |δ o=>show QG (lt_size y) (not_lt.Sj (LE I2.sz hC))
  let bm:=LI an IF.RG;let z:=bk T2 a6 bo f w2 bm;refine(i T2 ?_,Kn G z);cases y:s1.π.Δ T2 with
  |ζ=>rfl
  |δ o=>
   let⟨o',r⟩:=un.Ut T2 o y (!1);rw[z]at r;cases r
 let ub:=IF.ς;rw[hx]at ub;let⟨a5,_,_,_,u1,_,_,_,_,_,_,_,u2⟩:=fT;let⟨b1,v1,v2⟩:=bM e a5 (Gu u1);let⟨b0,_,_,_,_,y1,_⟩:=k4;rw[Gu y1]at v1;cases v1;let y3:=a7.ξ ((sb.2 e eC).ξ y1);show(e,T2,Cc,a0,dd,H',1,IF.os,L,ub,W,i e de,aB.1,he,aB.2,an.up bt y3 (λx z=>(u2 x z).of v2),q)
end
section
variable{X:Cx}{elt UG:SF}{x:QL}{px RX:T6}{ifs:γ SF}{sc:TB}{wi:TI}{tt:TT}{te:TE}
end
def zi{P:IO}QE8 QCI QEN{ς:Qx}QTk:vQ (aY QBC P w K mg ς N Qz a f b A Id s H E) E:=(5,1,λ_ _ h=>h)
section
variable{X:Cx}{elt UG:SF}{x:QL}{px RX:T6}{ifs:γ SF}{sc:TB}{wi:TI}{tt:TT}{te:TE}
def j9(i:γ QL){T g:T6}(O:vQ X E)QRA QUL(q:(x::i).Rq)(hj:X.N[j]?<*y)(z:CF X.QA.Qy y)(hi:PI X QGa UG wi)(n:∀(M:γ QAM)QEZ(L:γ θ)QBP ZC,FE {l_ X x sc M C L s H with N:=x::i} ifs tt/\PE (({l_ X x sc M C L s H with N:=x::i}:Cx).wish (jt X {l_ X x sc M C L s H with N:=x::i} E)) elt te)(Z:QBd>>>4)QL1(d:Zf>>>3)(c:QA6>>>3)(l:Zb>>>4)(B:((i.Tk λy=>sc.QI.ρ y != δ .local)=ο)>>>4)(F:(i.β=X.N.β)>>>4)(w:(((i.Xz X.N).Tk λy=>y.1==y.2||sc.QI.ρ y.1==ζ)=ο)>>>4)(hs:QAJ>>>7)(A:(W3 Zt (δ (.Rn y T)) g.XI X.QA=pure ο)>>>4)(G:QG_>>>8):PS X (.Assign [.Rn y T] Zt g) (aQ QFQ (A2 j)):=by
 intro U s S H DD I h;refine BW A λ_=>y' (xx:=λY=>jt X Y E) (fnx:=λ_=>μ) (Q:=λv t=>A2 j v S t DD.nx) (ns:=[x]) (gx:=λy _ vs=>vs=[y]) i hc q hi n (JQ q (.RB (Sk Z)) (.RF (Sk Z))) a d (JP a c) (λy h e=>QG e (c y h)) ku (RE.Sj λy hy=>by rw[RE.mp l y hy];rfl) B F w hs I h (λJ t r D hD=>?_) (λR o u k P qn=>oa hN hj z G R o u k P qn) λR o k f=>ly O R (λb n=>((o b n).2.2.2.1,(o b n).2.1,(o b n).2.2.2.2.1,(o b n).2.2.2.2.2)) k f;let⟨W,m,p⟩:=r D hD;show(W,m,JR (Q:=λv t=>A2 j v S t DD.nx) p)
end
inductive nY(C:ι->θ)(m:QL)(sp:ι->Sp)QD8 ZV(x:V)QCi:Prop
 |mk (i a dx fs:_) QDc (_:H1 a<*.XO (C i) dx fs) (_:fs.ρ m=ζ) (_:sp i [x] H1 Q E)
abbrev rT{ι:Type}(C:ι->θ)(m:QL)(sp:ι->Sp)QD8(ta:TE):TE:=λσ H Q=>ta σ H (nY C m sp E Q)
section
variable{X:Cx}{CX:CXT}{k:υ}{ps:γ QL}{E:XK}{m x:QL}{p RX apos:T6}{o e:SF}{ta te:TE}{ι:Type}{C f:ι->θ}{fd:ι->TQ}{sp:ι->Sp}
def GH(D:PE X o ta)(c:∀i,CI X.K (C i))(j:∀i,aR X.K (C i) m (f i))(F:∀i,aa X.BT X.w X.K X.mg X.ς CX k (f i) (fd i) ps (sp i))(B:am k X.A)(G:∀i,ym X.K (fd i) ps [])(t:Ex CX X E)(v:(SR (.Tl (.TH o m apos) [] [] RX) X.QA=(do
   let g <-SR o X.QA
   standAt apos.atName
   let(f,first,) <-holding [g] (getMethod g m pl)
   callWith RX f first (SJ RX (Ψ [] X.QA)) (Ya RX (WP [] X.QA))))>>>4):PE X (.Tl (.TH o m apos) [] [] RX) (rT C m sp E ta):=by
 intro b s n H Q I h;refine Ξ.W.methodCall_KW (pl:=pl) (oh (D b s n H _ I h) λu L z=>?_) v;let⟨y,M,d,r,i,a,dx,fs,ε,J,l,q⟩:=z;cases r;refine eP d J (c i) (j i) l (Ξ.W.callWith_K0 (first:=[.ν a]) d.Xp (j i).kp ?_);show mB (us:=[.ν a]) (vs:=[.ν a]) (F i) B (G i) .Tw t d QCr q
structure J0 ZZ QEZ:Prop where
 makes:makesIn K C=ο
 init:Ξ.W.TU K Zq "__init__"<*δ (.Qu "object.__init__")
 kp:V3 K Zq=ο
 mro:Ξ.W.mroIn K C (.QH "object")<*ο
abbrev yO QEZ:TE:=λ_ H Q=>∀x dx,H x=ζ->H dx=ζ->dx≠x->Q QBX QF4
def Ms{C:θ}(M:J0 X.K C)(j:Gl X x)(i:X.mg x<*.ν C)(c:((x==("__debug__":QL))=μ)>>>0):PE X (.Tl QBw [] [] RX) (yO C):=by
 intro g s l H Q I h;let d:=g_.made (C:=C) I;let⟨q,O,_⟩:=Jt (a:=s⁻¹+1) (C:=C) (dx:=s⁻¹) (fs:=[]) d.S7 SO;let⟨n,J,_⟩:=O.look;refine RT (wv I j i (Ξ.W.callWith_K0 I.Xp M.kp (UX ?_)) c);refine qF I.Xp M.makes M.init (λb=>.of_pure (Ξ.W.oi_bind b)) ?_;refine U5 Ξ.W.oi_plain Ξ.W.entry_oi ?_;refine Ξ.W.check_slot (XQ:=[]) (kw:=[]) Ξ.W.oi_kind Ξ.W.oi_split (J.QH.andThen (Ξ.W.looks_mroIn d.Xp M.mro)) (Ξ.W.oi_args _) ?_;rw[Ξ.W.oi_run];show i_ (1,V.ν _,_,d,1,h _ _ QTo QDV QQE)
def vx:B6 X (.Qu "isinstance") (λxs H Q=>∃x t b,xs=[x,.ν D]/\ak X.K H x t/\UJ X.K t Z5=δ b/\Q QIw H):=by
 intro a s j H xs us Q I r h;let⟨y,t,b,ε,h2,i,q⟩:=h;let⟨u,l,ε,g,d⟩:=b8 r;cases d;show gZ I g h2 i λc=>(.bl b,H,I.X0 c,1,q)
end
end L2
namespace RA
open L2
inductive K0 where
 |TW|WW|VA
inductive K1 where
 |Uf|TC|again
inductive K2 where
 |Wk|less|both|XW
inductive Pt where
 |TR (k:K0)
 |Um QMM
 |Uo (k:K1) (x:Pt)
 |Vb (k:K2) (x y:Pt)
inductive Kd where
 |TR (k:K0)
 |Um
 |Uo (k:K1)
 |Vb (k:K2)
abbrev Pt.kd:Pt->Kd
 |.TR k=>.TR k
 |.Um _=>.Um
 |.Uo k _=>.Uo k
 |.Vb k _ _=>.Vb k
abbrev Pt.WX:Pt->υ
 |.TR _=>1
 |.Um _=>1
 |.Uo _ x=>x.WX+1
 |.Vb _ x y=>max x.WX y.WX+1
def Pt.Wl QDR:1≤t.WX:=by
 cases t<;>simp only[Pt.WX]<;>lia
abbrev FT:K0->QL
 |.TW=>"never"
 |.WW=>"empty"
 |.VA=>"any"
abbrev Dn:K1->QL
 |.Uf=>"outside"
 |.TC=>"turned"
 |.again=>"again"
abbrev CS:K2->QL
 |.Wk=>"either"
 |.less=>"less"
 |.both=>"both"
 |.XW=>"then"
abbrev O5:Kd->QL
 |.TR .TW=>"Never"
 |.TR .WW=>"Empty"
 |.TR .VA=>"AnySign"
 |.Um=>"Sign"
 |.Uo .Uf=>"Outside"
 |.Uo .TC=>"Turned"
 |.Uo .again=>"Again"
 |.Vb .Wk=>"Either"
 |.Vb .less=>"Less"
 |.Vb .both=>"Both"
 |.Vb .XW=>"Then"
abbrev Em{α:Type}(a1 a2 a3 a4 a5 a6 a7 a8 a9 a10 a11:α):Kd->α
 |.TR .TW=>a1
 |.TR .WW=>a2
 |.TR .VA=>a3
 |.Um=>a4
 |.Uo .Uf=>a5
 |.Uo .TC=>a6
 |.Uo .again=>a7
 |.Vb .Wk=>a8
 |.Vb .less=>a9
 |.Vb .both=>a10
 |.Vb .XW=>a11
def Hs{p:Kd->Prop}(h1:p (.TR .TW))(h2:p (.TR .WW))(i:p (.TR .VA))(h:p .Um)(g:p (.Uo .Uf))(f:p (.Uo .TC))(e:p (.Uo .again))(d:p (.Vb .Wk))(c:p (.Vb .less))(b:p (.Vb .both))(a:p (.Vb .XW)):∀k,p k
 |.TR .TW=>h1
 |.TR .WW=>h2
 |.TR .VA=>i
 |.Um=>h
 |.Uo .Uf=>g
 |.Uo .TC=>f
 |.Uo .again=>e
 |.Vb .Wk=>d
 |.Vb .less=>c
 |.Vb .both=>b
 |.Vb .XW=>a
abbrev Bd QFG ZC:Pt->V->Prop
 |.TR k,v=>∃a dx,v=.ν a/\H a<*.XO (c QQi) dx []
 |.Um z,v=>∃a dx,v=.ν a/\H a<*.XO (c .Um) dx (al "sign" (.Qn (tx [z])) [])
 |.Uo k x,v=>∃a dx u,v=.ν a/\H a=δ (.XO QQj dx (al "inner" u []))/\Bd c H x u
 |.Vb k x y,v=>∃a dx u w,v=.ν a/\H a=δ (.XO QQk dx (al "right" w (al "left" u [])))/\Bd c H x u/\Bd c H y w
abbrev ah ZC:Pt->V->Prop
 |.TR k,v=>∃a,v=.ν a/\H a<*.RJ [.Qn QRz]
 |.Um z,v=>∃a,v=.ν a/\H a<*.RJ [.Qn "sign",.Qn (tx [z])]
 |.Uo k x,v=>∃a u,v=.ν a/\H a=δ (.RJ [.Qn QR0,u])/\ah H x u
 |.Vb k x y,v=>∃a u w,v=.ν a/\H a=δ (.RJ [.Qn QIL,u,w])/\ah H x u/\ah H y w
abbrev Kp QIo:Prop:=∀b o,H b<*o->(∀xs,o≠.QM xs)->H' b<*o
def a_.kp(h:a_ H H'):Kp H H':=λb o e _=>h b o e
def Bd.kp{c:Kd->θ}QG5(h:Kp H H'):∀QIc{v:V},Bd c H t v->Bd c H' t v
 |.TR _,_,⟨a,dx,e,b⟩=>(a,dx,e,h _ _ b ZA)
 |.Um _,_,⟨a,dx,e,b⟩=>(a,dx,e,h _ _ b ZA)
 |.Uo _ x,_,⟨a,dx,u,e,b,d⟩=>(a,dx,u,e,h _ _ b ZA,Bd.kp h (t:=x) d)
 |.Vb _ x y,_,⟨a,dx,u,w,e,b,d,f⟩=>(a,dx,u,w,e,h _ _ b ZA,Bd.kp h (t:=x) d,Bd.kp h (t:=y) f)
def ah.kp QG5(h:Kp H H'):∀QIc{v:V},ah H t v->ah H' t v
 |.TR _,_,⟨a,e,b⟩=>(a,e,h _ _ b ZA)
 |.Um _,_,⟨a,e,b⟩=>(a,e,h _ _ b ZA)
 |.Uo _ x,_,⟨a,u,e,b,c⟩=>(a,u,e,h _ _ b ZA,ah.kp h (t:=x) c)
 |.Vb _ x y,_,⟨a,u,w,e,b,c,d⟩=>(a,u,w,e,h _ _ b ZA,ah.kp h (t:=x) c,ah.kp h (t:=y) d)
def Bd.XO{c:Kd->θ}QE4:∀QIc{v:V},Bd c H t v->∃a dx fs,v=.ν a/\H a=δ QPo/\fs.ρ ("shape":QL)=ζ
 |.TR _,_,⟨a,dx,e,b⟩=>(a,dx,_,e,b,1)
 |.Um _,_,⟨a,dx,e,b⟩=>(a,dx,_,e,b,by rw[CH,Fr (!3)];rfl)
 |.Uo _ x,_,⟨a,dx,u,e,b,d⟩=>(a,dx,_,e,b,by rw[CH,Fr (!3)];rfl)
 |.Vb _ x y,_,⟨a,dx,u,w,e,b,d,f⟩=>(a,dx,_,e,b,by rw[CH,Fr (!3),CH,Fr (!3)];rfl)
def xm(u:V):(al "sign" u []).ρ ("sign":QL)<*u:=by rw[CH,QC ε]
def uh(u:V):(al "inner" u []).ρ ("inner":QL)<*u:=by rw[CH,QC ε]
def xn(u w:V):(al "right" w (al "left" u [])).ρ ("left":QL)<*u:=by rw[CH,Fr (!3),CH,QC ε]
def uf(u w:V):(al "right" w (al "left" u [])).ρ ("right":QL)<*w:=by rw[CH,QC ε]
def J1 QE4:∀{d d':υ}{x y:V},aE H d x y->d≤d'->aE H d' x y
 |0,0,_,_,h,_=>h
 |0,d'+1,_,_,h,_=>.RB h
 |d+1,0,_,_,_,h=>QG h (υ.not_succ_le_zero d)
 |d+1,d'+1,_,_,.RB h,_=>.RB h
 |d+1,d'+1,_,_,.RF ⟨p,q,xs,ys,k,j,h,e,g,a⟩,f=>.RF (p,q,xs,ys,k,j,h,e,g,λi x y c b=>J1 (a i x y c b) (υ.le_of_succ_le_succ f))
def J2(h1:H p<*.RJ xs)(h2:H q<*.RJ ys)(a:xs.β=ys.β)(hz:xs.β≤2100)(h:∀Zi QLW,xs[i]?<*x->ys[i]?<*y->aE H d x y):aE H (d+1) Zh QI_:=
 .RF (p,q,xs,ys,5,.RB (h1,h2),a,hz,h)
def J3 QE4:∀QIc{x y:V},ah H t x->ah H t y->aE H t.WX x y
 |.TR _,_,_,⟨a,e,h1⟩,⟨b,d,h2⟩=>by
  subst e d;show J2 h1 h2 ε (by change 1≤2100;decide) (Jw ε)
 |.Um _,_,_,⟨a,e,h1⟩,⟨b,d,h2⟩=>by
  subst e d;show J2 h1 h2 ε (by change 2≤2100;decide) (Jw ε)
 |.Uo _ x,_,_,⟨a,u,e,h1,k1⟩,⟨b,j,d,h2,k2⟩=>by
  subst e d;refine J2 h1 h2 ε (by change 2≤2100;decide) λi h g c f=>?_;match i with
  |0=>cases c;cases f;show Ko ε
  |1=>cases c;cases f;show J3 k1 k2
  |n+2=>simp at c
 |.Vb _ x y,_,_,⟨a,u,w,e,h1,k1,l1⟩,⟨b,j,k,d,h2,k2,l2⟩=>by
  subst e d;refine J2 h1 h2 ε (by change 3≤2100;decide) λi h g c f=>?_;match i with
  |0=>cases c;cases f;show Ko ε
  |1=>cases c;cases f;show J1 (J3 k1 k2) QFT
  |2=>cases c;cases f;show J1 (J3 l1 l2) QGH
  |n+3=>simp at c
structure vP ZZ(C cP:θ):Prop where
 cl:CI K C
 ha:Ξ.W.TU K Zq "__class__"<*δ (.Qu "object.__class__")
 hn:Ξ.W.specialIn K (.Qu "object.__class__") "__get__"<*δ (.Qu "getset_descriptor.__get__")
 htk:Ξ.W.takesIn K (.Qu "object.__class__")<*ο
 hm:Ξ.W.mroIn K C (.QH "object")<*ο
 ki:UJ K Zq (.ν cP)<*ο
 nS:Ae K C "sign"
 nL:Ae K C "left"
 nR:Ae K C "right"
 nI:Ae K C "inner"
inductive sd ZZ QD6 ZF ZC ZV Zk:Prop
 |mk (p v C dx:_) (_:vs=[.ν p,v]) QQl QNv (_:Ae K C x) (_:∀H',QI'->H' p<*.XO C dx (al x v [])->Q .UT H')
inductive yV ZZ(x y:QL)ZF ZC ZV Zk:Prop
 |mk (p v u C dx:_) (_:vs=[.ν p,v,u]) QQl QNv (_:Ae K C x) (_:Ae K C y) (_:∀H',QI'->H' p<*.XO C dx (al y u (al x v []))->Q .UT H')
def FU(c:H x=ζ)(a:H dx=ζ)(h:∀b o,(QO (QO H dx QRP) x o0) b<*o->b≠x->H' b<*o):a_ H H':=λb o e=>
 h b o (by rw[b_ (f' e c),b_ (f' e a)];show e) (f' e c)
inductive cj QFG QBM(k:Kd)ZF ZC ZV Zk:Prop
 |mk QBz QDR QCv QGu (_:t.kd=k) QB9 (_:∀v H',a_ H H'->ah H' t v->Q v H')
structure fD QKa Z' ZZ Z3 QMv QFG(cP:θ):Prop where
 kP:mg "Pattern"<*.ν cP
 kc:∀k,mg (O5 k)<*.ν (c k)
 pc:∀k,vP K (c k) cP
 mk0:∀k,J0 K (c QQi)
 iS:∃f fd,Mk K (c .Um) f/\aa P w K mg ς na 1 f fd ["self","sign"] (sd K "sign")/\ym K fd ["self","sign"] []
 iU:∃f fd,(∀k,Mk K QQj f)/\aa P w K mg ς na 1 f fd ["self","inner"] (sd K "inner")/\ym K fd ["self","inner"] []
 iP:∃f fd,(∀k,Mk K QQk f)/\aa P w K mg ς na 1 f fd ["self","left","right"] (yV K "left" "right")/\ym K fd ["self","left","right"] []
 sh:∃(f:Kd->θ)(fd:Kd->TQ),(∀k,aR K (c k) "shape" (f k))/\(∀k,ym K (fd k) ["self"] [])/\∀n k,aa P w K mg ς na n (f k) (fd k) ["self"] QTG
abbrev bu QL8:υ:=(ts.QY Pt.WX).sum
def J4 QL8 QDR:bu (ts++[t])=bu ts+t.WX:=by
 unfold bu;rw[Q2,γ.sum_append];simp
abbrev ES:K2->υ
 |.Wk=>0
 |.less=>0
 |.both=>1
 |.XW=>2
abbrev c0:K0->υ
 |.TW=>48
 |.WW=>49
 |.VA=>46
abbrev m2:K2->LN
 |.Wk=>[124]
 |.less=>[45]
 |.both=>[38]
 |.XW=>[]
abbrev strP:Pt->υ
 |.TR _=>5
 |.Um _=>5
 |.Uo .again _=>5
 |.Uo _ _=>4
 |.Vb k _ _=>ES k+1
abbrev Fd QPS QFZ:LN:=if b=ο then 40::(w++[41])else w
abbrev aK:Pt->LN
 |.TR k=>[c0 k]
 |.Um c=>[c]
 |.Uo .again x=>Fd (decide (strP x<5)) QGI++[42]
 |.Uo .Uf x=>33::Fd (decide QTH) QGI
 |.Uo .TC x=>60::Fd (decide QTH) QGI
 |.Vb k x y=>Fd (decide QGJ) QGI++m2 k++Fd (decide QLB) (aK y)
abbrev Pt.sz:Pt->υ
 |.TR _=>1
 |.Um _=>1
 |.Uo _ x=>x.sz+1
 |.Vb _ x y=>x.sz+y.sz+1
def FV QPS QFZ:(Fd b w).β≤w.β+2:=by
 unfold Fd;split
 .simp
 .lia
def Ht:∀t:Pt,(aK t).β≤5*t.sz
 |.TR _=>by change 1≤5;decide
 |.Um _=>by change 1≤5;decide
 |.Uo k x=>by
  let h:=Ht x;let h1:=FV (decide (strP x<5)) QGI;let h2:=FV (decide QTH) QGI;cases k<;>simp only[aK,Pt.sz,u4,Rz,γ.length_nil]<;>lia
 |.Vb k x y=>by
  let h:=Ht x;let h':=Ht y;let h1:=FV (decide QGJ) QGI;let h2:=FV (decide QLB) (aK y);let a:(m2 k).β≤1:=by cases k<;>decide
  simp only[aK,Pt.sz,u4];lia
abbrev Pt.Xm Zp:Pt->Prop
 |.TR _=>Tg
 |.Um c=>c∈L
 |.Uo _ x=>x.Xm L
 |.Vb _ x y=>x.Xm L/\y.Xm L
abbrev bZ:γ QHI:=[(.RF "never",.Qn (tx [48]),),(.RF "empty",.Qn (tx [49]),),(.RF "any",.Qn (tx [46]),),(.RF "either",.Qn (tx [124]),),(.RF "less",.Qn (tx [45]),),(.RF "both",.Qn (tx [38]),),(.RF "then",.Qn (tx []),),(.RF "outside",.Qn (tx [33]),),(.RF "turned",.Qn (tx [60]),),(.RF "again",.Qn (tx [42]),)]
abbrev gm:γ QHI:=[(.RF "either",.QB 1,),(.RF "less",.QB 1,),(.RF "both",.QB 2,),(.RF "then",.QB 3,),(.RF "outside",.QB 4,),(.RF "turned",.QB 4,),(.RF "again",.QB 5,),(.RF "never",.QB 5,),(.RF "empty",.QB 5,),(.RF "sign",.QB 5,),(.RF "any",.QB 5,)]
abbrev KU:Pt->QL
 |.TR k=>FT k
 |.Um _=>"sign"
 |.Uo k _=>Dn k
 |.Vb k _ _=>CS k
def jS QDR:aL gm (.RF (KU t))<*.QB (strP t:υ):=by
 cases t with
 |TR k=>cases k<;>(show aL gm (.RF _)<*.QB ((5:υ):ψ);decide +kernel)
 |Um c=>change aL gm (.RF "sign")<*.QB ((5:υ):ψ);decide +kernel
 |Uo k x=>cases k with
  |again=>change aL gm (.RF "again")<*.QB ((5:υ):ψ);decide +kernel
  |Uf=>change aL gm (.RF "outside")<*.QB ((4:υ):ψ);decide +kernel
  |TC=>change aL gm (.RF "turned")<*.QB ((4:υ):ψ);decide +kernel
 |Vb k x y=>change aL gm (.RF QIL)<*.QB ((ES k+1:υ):ψ);cases k<;>decide +kernel
def O6(k:K0):aL bZ (.RF QRz)<*.Qn (tx [c0 k]):=by cases k<;>decide +kernel
abbrev m1:K1->υ
 |.Uf=>33
 |.TC=>60
 |.again=>42
def sj(k:K1):aL bZ (.RF QR0)<*.Qn (tx [m1 k]):=by cases k<;>decide +kernel
def O7(k:K2):aL bZ (.RF QIL)<*.Qn (tx (m2 k)):=by cases k<;>decide +kernel
section
variable{c:Kd->θ}{cD:θ}{H H':Hp}{d dx pa wa:θ}{us:γ V}{ps:γ Pt}{ws:γ Wt}
end
def xK QMM QGk:decide (c∈l)=l.RO c:=by
 by_cases h:c∈l
 .rw [Qr h];simp[h]
 .rw [QN h];simp[h]
def w5 QGk QMM:(!(Builtin.QL.occurrences QDq ⟨#[c]⟩ 0 (tx l).β 1).Xd)=l.RO c:=by
 let e:=ND l c;unfold VR.RO at e;rw[<-xK];show e
inductive jU QBM ZF ZC ZV Zk:Prop
 |mk (v:V) QDR QKD QBQ QB9 QEX (_:Q QCR H)
inductive rZ QBM ZF ZC ZV Zk:Prop
 |mk (v:V) QDR QJ4 (_:vs=[v,.QB (m:ψ)]) QBQ QB9 QEX (_:Q (.Qn (tx (Fd (decide (strP t<m)) (aK t)))) H)
inductive dg QFG QBM ZF ZC ZV Zk:Prop
 |mk QBz QDR QCv QGu QB9 QEX (_:∀H',a_ H H'->Q QCR H')
abbrev gq Z':γ DictEntry->γ QHI->Prop
 |[],[]=>Tg
 |e::es,kv::Ri=>(∃x t,e.key=.Qn x t/\kv.1=.RF x/\e.hash=PyData.keyHash w.Ss x)/\af kv.2 e.val/\gq w es Ri
 |_,_=>Rl
def gq.Tk{P:IO}QE8:∀{b:γ DictEntry}{Ri:γ QHI},gq w b Ri->(∀e∈b,∃k,(E1 P w).is k e.key=ο/\e.hash=(E1 P w).hash k)/\∃vs,KV Ri vs/\Pairs QRG b vs
 |[],[],_=>(λe a=>by simp at a,[],.Tw,.Tw)
 |e::b,(k,v)::Ri,⟨⟨x,t,j,c,i⟩,g,h⟩=>by
  let⟨i1,vs,i2,f⟩:=gq.Tk (P:=P) h;let c:k=.RF x:=c;subst c;let d:(E1 P w).is (Sum.RF x) e.key=ο:=by rw[j];show No P w x t
  refine(λe' a=>?_,(Sum.RF x,e.val,)::vs,.Rx (1,g) i2,.Rx d ε f);rcases QW.mp a with ε|a
  .exact (Sum.RF x,d,i)
  .exact i1 e' a
def li(l:K.ρ d<*{SN:=.QH "dict",RD:=.Ux c n})(h:gq w c.Qq Ri)(b:(Ri.QY Z9).Rq)(g:(d==S4)=μ):pE P w K d Ri:=by
 let⟨i1,vs,i2,a⟩:=h.Tk (P:=P);refine(λj X=>(vs,i2,_,c,n,X _ _ l,(5,1),1,λe i=>i1 e (Ry.mem_toList_iff.Sj i),a,3),g);have:Ri.QY Z9=vs.QY Z9:=by
  clear b h l i1 a;induction i2 with
  |Tw=>rfl
  |Rx h t f=>rw[Tq,Tq,f,h.1]
 rw[<-this];show b
structure yt QKa Z' ZZ Z3 QMv QFG:Prop where
 tx:∃f fd,(∀k,aR K (c k) "text" f)/\ym K fd ["self"] []/\∀n,aa P w K mg ς na QJA f fd ["self"] (dg c n)
def t8:(bZ.QY Z9).Rq:=by decide +kernel
def zu:(gm.QY Z9).Rq:=by decide +kernel
abbrev AQ(R:Pt->V->Prop):γ V->γ Pt->Prop
 |[],[]=>Tg
 |v::vs,t::ts=>R t v/\AQ R vs ts
 |_,_=>Rl
section
variable{R R':Pt->V->Prop}
def AQ.Sr:∀QBN QKR,AQ R xs ts->xs.β=ts.β
 |[],[],_=>rfl
 |_::_,_::_,h=>by rw[Rz,Rz,AQ.Sr h.2]
def AQ.imp(k:∀t v,R t v->R' t v):∀QBN QKR,AQ R xs ts->AQ R' xs ts
 |[],[],_=>trivial
 |_::_,_::_,h=>(k _ _ h.1,AQ.imp k h.2)
def AQ.snoc{v:V}QIc(a:R t v):∀QBN QKR,AQ R xs ts->AQ R (xs++[v]) (ts++[t])
 |[],[],_=>(a,trivial)
 |_::_,_::_,h=>(h.1,AQ.snoc a h.2)
def AQ.last:∀QBN QKR,AQ R xs ts->0<xs.β->∃ys v us t,xs=ys++[v]/\ts=us++[t]/\AQ R ys us/\R t v
 |[],[],_,h=>QG h (WL 0)
 |[v],[t],h,_=>([],v,[],t,5,trivial,h.1)
 |[_],_::_::_,h,_=>h.2.SG
 |_::_::_,[_],h,_=>h.2.SG
 |x::y::xs,t::u::ts,h,_=>by
  let⟨ys,v,us,t',b,a,h1,h2⟩:=AQ.last (xs:=y::xs) (ts:=u::ts) h.2 (!1);show(x::ys,v,t::us,t',by rw[b];rfl,by rw[a];rfl,(h.1,h1),h2)
end
abbrev br QL8:υ:=(ts.QY Pt.sz).sum
def J5 QL8 QDR:br (ts++[t])=br ts+t.sz:=by
 unfold br;rw[Q2,γ.sum_append];simp
def Bd.ins'{c:Kd->θ}QE4(m:QL)(d:m≠"sign"/\m≠"inner"/\m≠"left"/\m≠"right"):∀QIc{v:V},Bd c H t v->∃a dx fs,v=.ν a/\H a=δ QPo/\fs.ρ m=ζ
 |.TR _,_,⟨a,dx,e,b⟩=>(a,dx,_,e,b,1)
 |.Um _,_,⟨a,dx,e,b⟩=>(a,dx,_,e,b,by rw[CH,Fr d.1];rfl)
 |.Uo _ x,_,⟨a,dx,u,e,b,f⟩=>(a,dx,_,e,b,by rw[CH,Fr d.2.1];rfl)
 |.Vb _ x y,_,⟨a,dx,u,w,e,b,f,g⟩=>(a,dx,_,e,b,by rw[CH,Fr d.2.2.2,CH,Fr d.2.2.1];rfl)
def ET:gq w [] []:=trivial
def D4(h1:e.key=.Qn x t)(h2:a.1=.RF x)(c:e.hash=PyData.keyHash w.Ss x)(b:af a.2 e.val)(r:gq w d Ri):gq w (e::d) (a::Ri):=((x,t,h1,h2,c),b,r)
def O8(h:y=x):af QHL (.Qn y t):=(t,by rw[h])
section
variable{α:Type}{R R':α->V->Prop}
end
abbrev Wd Zp QMp:Prop:=∀c∈u,c∈L
abbrev Lg Zp QCF Zg:LN->Prop:=λu=>Wd L u/\AX L W B u=ο
abbrev js QER:LN->Prop:=λu=>∃x v,u=x++v/\A x/\C v
abbrev fR QBn:LN->Prop:=λu=>A u.Ru
abbrev Ig QER:LN->Prop:=λu=>A u\/C u
abbrev rA QER:LN->Prop:=λu=>A u/\C u
abbrev c6 QER:LN->Prop:=λu=>A u/\¬ C u
abbrev kh Zp QBn:LN->Prop:=λu=>Wd L u/\¬ A u
inductive aI QBn:LN->Prop
 |Tw:aI A []
 |X2 {x v:LN}:aI A x->A v->aI A (x++v)
section
variable{A C D:LN->Prop}{L:LN}{W W1 W2:LL}{B B1 B2:γ Ω}
def cb(h:∀u,A u↔C u):A=C:=funext λu=>propext (h u)
def d_T:Wd L (x++v)↔Wd L x/\Wd L v:=(λh=>(λc a=>h c (U1 _ a),λc a=>h c (Rj _ a)),λh c a=>(Rr.mp a).SG (h.1 c) (h.2 c))
def ir:Wd L u.Ru↔Wd L u:=(λh c a=>h c (WJ.Sj a),λh c a=>h c (WJ.mp a))
def aI.Uo(h:A v):aI A v:=by
 have:=aI.Tw.X2 h
 rwa [γ.nil_append]at this
def aI.app(c:aI A x)(b:aI A y):aI A (x++y):=by
 induction b with
 |Tw=>rw[UA];show c
 |X2 _ h a=>rw[<-Tt];show a.X2 h
def xr(h:∀u:LN,ZK->(AX L W B u=ο↔tu QCO QGK u)):Lg L W B=js QCP QEk:=cb λu=>by
 constructor
 .rintro⟨a,e⟩;let⟨x,v,ε,d,b⟩:=(h u a).mp e;show(x,v,1,((d_T.mp a).1,d),(d_T.mp a).2,b)
 .rintro⟨x,v,ε,⟨h1,d⟩,h2,b⟩;let a:=d_T.Sj (h1,h2);show(a,(h _ a).Sj (x,v,1,d,b))
def ul(h:∀u:LN,ZK->(AX L W B u=ο↔Ag QCO u)):Lg L W B=aI QCP:=cb λu=>by
 constructor
 .rintro⟨d,f⟩;let e:=(h u d).mp f;clear h f;induction e with
  |Tw=>show .Tw
  |X2 _ _ i b=>show(b (d_T.mp d).1).X2 ((d_T.mp d).2,i)
 .intro s;let a:Wd L u/\Ag QCO u:=by
   induction s with
   |Tw=>show(λc g=>(nomatch g),.Tw)
   |@X2 x v _ h1 b=>
    refine(d_T.Sj (b.1,h1.1),3);by_cases e:v=[]
    .rw [e,UA];show b.2
    .exact b.2.X2 e h1.2
  show(a.1,(h u a.1).Sj a.2)
def xq(h:∀u:LN,ZK->(AX L W B u=ο↔tq QCO u)):Lg L W B=fR QCP:=cb λu=>(λ⟨a,e⟩=>(ir.Sj a,(h u a).mp e),λ⟨a,e⟩=>(ir.mp a,(h u (ir.mp a)).Sj e))
def zy(h:∀u:LN,ZK->(AX L W B u=ο↔yi QCO u)):Lg L W B=kh L QCP:=cb λu=>by
 constructor
 .rintro⟨a,e⟩;show(a,λz=>by let b:=z.2;rw[show AX L W1 B1 u=μ from(h u a).mp e]at b;cases b)
 .rintro⟨a,e⟩;show(a,(h u a).Sj (Ω.Yw.Sj λz=>e (a,z)))
def O9(h:∀u:LN,ZK->(AX L W B u=ο↔dO QNN QCO QGK u)):Lg L W B=Ig QCP QEk:=cb λu=>by
 constructor
 .rintro⟨d,e⟩;show((Yk _ _).mp QL9).imp (⟨d,·⟩) (⟨d,·⟩)
 .rintro (⟨d,e⟩|⟨d,e⟩)
  .exact (d,(h u d).Sj ((Yk _ _).Sj (.RB e)))
  .exact (d,(h u d).Sj ((Yk _ _).Sj (.RF e)))
def zA(h:∀u:LN,ZK->(AX L W B u=ο↔dO QNO QCO QGK u)):Lg L W B=rA QCP QEk:=cb λu=>by
 constructor
 .rintro⟨d,e⟩;have:=(Sx _ _).mp QL9;show((d,this.1),d,this.2)
 .rintro⟨⟨d,g⟩,_,f⟩;show(d,(h u d).Sj ((Sx _ _).Sj (g,f)))
def xu(h:∀u:LN,ZK->(AX L W B u=ο↔dO QL_ QCO QGK u)):Lg L W B=c6 QCP QEk:=cb λu=>by
 constructor
 .rintro⟨d,e⟩;have:=(Sx _ _).mp QL9;show((d,this.1),λz=>by rw[z.2]at this;cases this.2)
 .rintro⟨⟨d,g⟩,f⟩;show(d,(h u d).Sj ((Sx _ _).Sj (g,by rw[Xb];show Ω.Yw.Sj λz=>f (d,z))))
def xt(c:Az L W1 B1 f)(b:Az L W2 B2 d)(h:Lg L W1 B1=Lg L W2 B2):W1=W2/\B1=B2:=vw c b λu a=>by
 have:=congrFun h u;rw[Ω.TV];show(λe=>(this▸((a,e):Lg L W1 B1 u):Lg L W2 B2 u).2,λe=>(this.QU▸((a,e):Lg L W2 B2 u):Lg L W1 B1 u).2)
end
abbrev KW Zp:K1->QGb->LN->Prop
 |.Uf=>kh L
 |.TC=>fR
 |.again=>aI
abbrev KY:K2->QGb->QGb->LN->Prop
 |.Wk=>Ig
 |.less=>c6
 |.both=>rA
 |.XW=>js
abbrev CT Zp(we:Ω)(S:LN):LN->Prop:=λu=>(u=[]/\we=ο)\/∃c∈L,c∈S/\u=[c]
abbrev aj Zp:Pt->LN->Prop
 |.TR .TW=>CT L μ []
 |.TR .WW=>CT L ο []
 |.TR .VA=>CT L μ L
 |.Um c=>CT L μ [c]
 |.Uo k x=>KW L k QKS
 |.Vb k x y=>KY k QKS (aj L y)
abbrev CU(L S:LN):LL:=[L.QY λc=>if S.RO c then 1 else 2,L.QY λ_=>2,L.QY λ_=>2]
section
variable{L S:LN}{we:Ω}
def ck(d:BL L):hI L QCS [we,ο,μ]:=by
 refine(d,by change 1≤3;decide,by change 3≤2100;decide,1,λws h=>?_);let a:ws.β=L.β/\∀x∈ws,x<3:=by
  rcases QW.mp h with ε|h
  .refine QUA;let⟨c,_,ε⟩:=Su.mp b;split<;>decide
  .have:ws=L.QY λ_=>2:=by
    rcases QW.mp h with ε|h
    .rfl
    .exact wh h
   subst this;refine QUA;let⟨c,_,ε⟩:=Su.mp b;decide
 show a
def dq(b:c∈L):AE L QCS 0 c=(if S.RO c then 1 else 2)/\AE L QCS 1 c=2/\AE L QCS 2 c=2:=by
 let a:=QE b;let e:∀f:υ->υ,(L.QY f).Φ QAV 0=f c:=λf=>by
  rw[n0,nq,h_ a,SE];rfl
 show(e _,e _,e _)
def sq:∀{u:LN},Wd L u->SZ L QCS 2 u=2
 |[],_=>rfl
 |c::u,h=>by
  change SZ L QCS (AE L QCS 2 c) u=2;rw[(dq (h c Rh)).2.2];show sq λx a=>h x (QP _ a)
def O_:Lg L QCS [we,ο,μ]=CT L we S:=cb λu=>by
 match u with
 |[]=>show(λh=>.RB (1,h.2),λh=>(λc a=>(nomatch a),h.SG And.right λ⟨_,_,_,z⟩=>(nomatch z)))
 |[c]=>
  constructor
  .rintro⟨b,e⟩;let a:=b c Rh;let e:[we,ο,μ].Φ QHC μ=ο:=e;rw[(dq a).1]at e;by_cases d:S.RO c=ο
   .exact .RF (c,a,Ur.mp d,1)
   .rw [Fr d]at e;cases e
  .rintro (⟨z,_⟩|⟨i,a,d,z⟩)
   .cases z
   .cases z;refine(λx f=>by rw[wh f];show a,3);show[we,ο,μ].Φ QHC μ=ο;rw[(dq a).1,QC (Ur.Sj d)];rfl
 |c::g::u=>
  constructor
  .rintro⟨b,e⟩;let h1:=dq (S:=S) (b c Rh);let h2:=dq (S:=S) (b g (QP _ Rh));let e:[we,ο,μ].Φ (SZ L QCS (AE L QCS QHC g) u) μ=ο:=e;let z:AE L QCS QHC g=2:=by
    rw[h1.1];split
    .exact h2.2.1
    .exact h2.2.2
   rw[z,sq λx f=>b x (QP _ (QP _ f))]at e;cases e
  .rintro (⟨z,_⟩|⟨_,_,_,z⟩)<;>cases z
end
structure Mc ZC QP0 Zp QCF Zg:Prop where
 mt:v_ H m L W B
 ma:hI L W B
 le:W.β≤8
def Mc.kt(h:Mc H m L W B)QDw:Mc H' m L W B:=(k.VB h.mt,h.ma,h.le)
def ah.kt QTI QG5 QDw:∀QIc{v:V},ah H t v->ah H' t v
 |.TR _,_,⟨a,e,b⟩=>(a,e,k.sm.RJ _ _ b)
 |.Um _,_,⟨a,e,b⟩=>(a,e,k.sm.RJ _ _ b)
 |.Uo _ x,_,⟨a,u,e,b,c⟩=>(a,u,e,k.sm.RJ _ _ b,ah.kt k (t:=x) c)
 |.Vb _ x y,_,⟨a,u,w,e,b,c,d⟩=>(a,u,w,e,k.sm.RJ _ _ b,ah.kt k (t:=x) c,ah.kt k (t:=y) d)
def jV(h:ah H t v)(a:t.WX≤n+1):(∃k,t=.TR k)\/(∃c,t=.Um c)\/∃(p:θ)(nm:QL)(us:γ V)(ps:γ Pt),v=.ν p/\H p=δ (.RJ (.Qn nm::us))/\us.β=ps.β/\1≤us.β/\us.β≤2/\nm≠"sign"/\
  (∀QEO(u:V),us[j]?<*u->∃x,ps[j]?=δ x/\ah H x u/\x.WX≤n)/\((∃k x,t=.Uo k x/\nm=Dn k/\ps=[x])\/∃k x y,t=.Vb k x y/\nm=CS k/\ps=[x,y]):=by
 cases t with
 |TR k=>show .RB (k,1)
 |Um c=>show .RF (.RB (c,1))
 |Uo k x=>
  let⟨p,u,e,hp,b⟩:=h;let a:x.WX+1≤n+1:=a;refine .RF (.RF (p,_,[u],[x],e,hp,1,QD _,by change 1≤2;decide,by cases k<;>decide +kernel,λj d e=>?_,.RB (k,x,5,1)));match j with
  |0=>cases e;show(x,1,b,υ.le_of_succ_le_succ a)
  |j+1=>simp at e
 |Vb k x y=>
  let⟨p,u,w,e,hp,b,f⟩:=h;let a:max x.WX y.WX+1≤n+1:=a;refine .RF (.RF (p,_,[u,w],[x,y],e,hp,1,by change 1≤2;decide,QD _,by cases k<;>decide +kernel,λj d e=>?_,.RF (k,x,y,5,1)));match j with
  |0=>cases e;show(x,1,b,Kj a)
  |1=>cases e;show(y,1,f,Ip a)
  |j+2=>simp at e
def _root_.L2.KT.US QTf QDw(l:H D=ζ)(c:H' D<*.QM ys):KT ts H (QO H' D (.QM zs)):=by
 refine(λb o j e=>by rw[b_ (f' e l)];show k.sm b o j e,λh p hp=>?_);let⟨ps,d,i,a⟩:=k.tb h p hp;refine(ps,by rw[b_ (n7 d c (!5))];show d,i,λx g=>(a x g).imp id λ⟨n,m,f⟩=>(n,m,3));rw[b_ (n7 f c (!5))];show f
def Mc.US QTf(h:Mc H m L W B)(a:H D<*.QM ys):Mc QTJ m L W B:=by
 refine(h.mt.Uk λb xs e=>?_,h.ma,h.le);rw[b_ (n7 e a (!5))];show e
end RA
namespace L2
open PySem.Spec PyProof.Rows RA
def Do{p:TE}{k:St}QTa(v:Dd J a QCY xs)(g:θ->υ->γ V->Hp->Prop)QGp(w:∀D i ys H',g D i ys H'->H' a=δ QCY/\H' D=δ QAk/\ys.β=i)(G:∀D,H D=ζ->g D 0 [] (QO H D QBD))(B:∀(D:θ)Zi(x:V)QS8 QAe(q:VK),H D=ζ->xs[i]?<*x->g D i ys H'->(∀y f,f D<*.QM ys->g D (i+1) QAv QQm->q y f)->p (δ x::k) H' q)(C:∀D ys H',H D=ζ->g D xs.β ys H'->Q Z5 H'):∀D,H D=ζ->∃W:υ->υ->γ V->Hp->Prop,
 (∃m,W 0 m [] (QO H D (.QM [])))/\∀i m ys d,W i m ys d->d D=δ (.QM ys)/\((J.Wb i d/\Q (.ν D) d)\/(J.go i d/\ys.β<Λ/\∀x j,J.yld i d x j->
  Yg (δ x::k) j λb r=>if b=ο then p (δ x::k) r λy f=>f D=δ QAk/\∃h,h<m/\W (i+1) h QAv QQm
   else ∃h,h<m/\W (i+1) h ys r)):=by
 intro D o;refine(λi m ys d=>m=xs.β-i/\i≤xs.β/\g D i ys d,(xs.β,!1,RP _,G D o),3);rintro i m ys d⟨rfl,E,hp⟩;let⟨F,n,z⟩:=w D i ys d hp;refine(n,3);let⟨u,t,s⟩:=v d F;by_cases c:i<xs.β
 .refine .RF (u i c,Rw (VY z) (LT c hz),λx j l=>?_);let⟨e,A⟩:=t i x j c l;subst e;show hG (B D i x ys j _ o A hp λy f a b=>(a,xs.β-(i+1),Ul _ _ c,1,c,b))
 .let e:i=xs.β:=WO E (SU c);subst e;show .RB (s,C D ys d o hp)
def qW{P1:θ->Hp->Prop}(e:∀R:VK,(∀a b,P1 a b->b a<*.RJ xs->R ZW b)->k g H R)(c:Hp->θ->υ->γ V->Hp->Prop)QGp(n:∀b a D i ys H',b a<*.RJ xs->c b D i ys H'->H' a=δ QCY/\H' D=δ QAk/\ys.β=i)(q:∀b D,b D=ζ->c b D 0 [] (QO b D QBD))(o:∀QBz(b:Hp)(D:θ)Zi(x:V)QS8 QAe(d:VK),P1 a b->b D=ζ->xs[i]?<*x->c b D i ys H'->(∀y f,f D<*.QM ys->c b D (i+1) QAv QQm->d y f)->l (δ x::g) H' d)(p:∀a b D ys H',P1 a b->b D=ζ->c b D xs.β ys H'->Q Z5 H'):Ds (JB k) Yg l g H Q:=
 e _ λa b h j=>(a,_,xs,1,.RF ε,j,λ_ m=>Do m (c b) hz (λD i ys H'=>n b a D i ys H' j) (q b) (λD i x ys H' d=>o a b D i x ys H' d h) λD ys H'=>p a b D ys H' h)
def Fe{f:QL}{RX:T6}ZZ(b:PE X e a)(d:(X.K=K)>>>4)(c:QLA>>>4):PE X QF3 (nZ K a f):=by
 subst d;show wQ b c
section
variable{X:Cx}{k j:υ}{ps:γ QL}{sp:Sp}{m y:QL}{p RX apos cp yp ap:T6}{o e c e1 e2:SF}{es:γ SF}{ta:TE}{t:TA}{ι:Type}{C:ι->θ}{f:θ}{fd:TQ}
abbrev yH(C:ι->θ)(m:QL)QEO QNw(ta:TE)QG3:QIK->TS:=λG D σ H=>ta σ H λx H0=>∃i a dx fs,x=.ν a/\H0 a=δ (.XO (C i) dx fs)/\fs.ρ m=ζ/\t σ H0 λvs H1=>sp (x::vs) H1 (λv H2=>D.nx (σ.US j QFa) H2) (G σ)
def wK{pl:Sem Ω}(nd:X.N.Rq)(he:PE X.nox o ta)(cl:∀i,CI X.K (C i))(Z:∀i,aR X.K (C i) m f)(F:aa X.BT X.w X.K X.mg X.ς (Ah X.BT X.w) k f fd ps sp)(hr:am k X.A)(B:ym X.K fd ps [])(ha:PA X.nox (e::es) t)(hj:X.N[j]?<*y)(hy:CF X.QA.Qy y)(WB:(Ψ (e::es) X.QA=(μ,SR e X.QA,)::Ψ es X.QA)>>>4)(M:((SJ cp (Ψ es X.QA)).VA (·.1)=μ)>>>4)(ht:(SR (.Tl (.TH o m apos) (e::es) [] cp) X.QA=(do
   let Y <-SR o X.QA
   standAt apos.atName
   let(f,first,) <-holding [Y] (getMethod Y m pl)
   callWith cp f first (SJ cp (Ψ (e::es) X.QA)) (Ya cp (WP [] X.QA))))>>>4)(hs:(W3 (.Tl (.TH o m apos) (e::es) [] cp) (δ (.Rn y yp)) ap.XI X.QA=pure μ)>>>4)(hf:(X.fn y=ο\/X.QA.Qy.QI.ρ y<*.local)>>>8):PX X (.Assign [.Rn y yp] (.Tl (.TH o m apos) (e::es) [] cp) ap) (yH C m j sp ta t):=by
 intro b s d H D G I h;refine wpAny_Assign_Name (RM (Q:=EP X b d λv n=>D.nx (d.US j QFa) n) ?_ (λv S O=>by let⟨w,R,L,r1,q1⟩:=O;show Au L nd hj hy r1 (λs2 E=>(_,R,E,q1)) hf) λ_ _ z=>z) hs;refine Ξ.W.methodCall_KW (pl:=pl) (RM (he b s d H _ QMV h) (λu S P=>?_) λ_ _ z=>z.SG) ht;let⟨x,R,L,rx,i,a,dx,fs,ex,ea,l,q⟩:=P;subst ex;obtain ε:u=η.ν a:=rx;refine eP L.Wz ea (cl i) (Z i) l ?_;refine callWith_K (first:=[.ν a]) (h₀:=X.ς) I.ok.mod.kin (Z i).kp (RM (ha cp b S d R _ L q) (λus s2⟨vs,n,E,r,U⟩=>(E.Xp,3)) λ_ _ z=>z.SG) WB M;let J:g_ X b d n s2:=E.Wz;let T:ae (V.ν a::vs) QNP:=.Rx ε r;refine UX (Ts (F.SZ X.A X.RG s2 n (η.ν a::us,[]) QNP (V.ν a::vs) _ _ hr J.env0 ?_ T U) λr s' g=>?_)
 .let B:=B s2 QNP J.Xp;rw[UA]at B;show B (by rw[<-T.β];show F.Sr _ _ _ _ U)
 .cases r with
  |WS ev=>show(d,n,s2,J,g)
  |ok fl=>
   cases fl with
   |ret u=>show J.after g
   |next=>show Rl.SG g
   |brk=>show Rl.SG g
   |X5=>show Rl.SG g
variable{V:LN}{T T1 T2:(υ->Pt)->Pt}{x1:ExprCtx}
end
def lj(h:ys.β=n+1):Af QRE ζ (δ (-((n+1:υ):ψ)))=xs:=by
 unfold Af HT.Wa;dsimp only;rw[QC (!2),u4,h,show(-((n+1:υ):ψ)+((xs.β+(n+1):υ):ψ)).RW=xs.β by lia];simp
def rk QBI(a b:V):Am (xs++[a]++[b]) (-2)<*a:=by
 let e:DN (xs++[a]++[b]).β (-2)<*xs.β:=by
  unfold DN;rw[Fr (!0)];simp;lia
 unfold Am;rw[e];simp
def pj(d:0≤a)(c:0≤b)QE'(h:b≤a+(n:ψ)):(gn ns (δ a) (δ b)).β≤n:=by
 unfold gn HT.Wa;dsimp only;rw[Fr (G5 c),Fr (G5 d),S6,WM];show Jm h
abbrev CB ZZ(x q:QL)QRH QDo:Prop:=∃fd,so K x q st f fd
section
variable{K:Qt}{x q:QL}{st:Rb}{f:θ}{fd:TQ}{q0 q1 q2:QL}
def Hu{kV Tm pm ct:η}(l:K.ρ f<*(e,d,.VL (U9 x q QQJ QQK QHO .ζ kV Tm pm an QCa ct),a))(c:UN K QCa q=ο):CB K x q st f:=QTF
end
structure fF ZZ(C cP f fM:θ):Prop where
 pc:vP K C cP
 me:aR K C "shape" f
 mm:aR K C "machine" fM
end L2
namespace RA
open L2
section
variable{A C D:LN->Prop}{L:LN}{x y z:Pt}
section
variable{t s:Pt}{n d c i e c' i':υ}
end
end
section
def Mt(h:5<r)(h':r<10):∃k:K2,Am [V.Qn "either",.Qn "less",.Qn "both",.Qn "then"] (r-6)<*.Qn QIL:=by
 rcases(by lia:r=6\/r=7\/r=8\/r=9)with ε|rfl|rfl|rfl
 .exact (.Wk,1)
 .exact (.less,1)
 .exact (.both,1)
 .exact (.XW,1)
def Mu(h:0≤r)(h':r<4):∃k:K1,Am [V.Qn "again",.Qn "outside",.Qn "turned",.Qn "again"] r<*.Qn QR0:=by
 rcases(by lia:r=0\/r=1\/r=2\/r=3)with ε|rfl|rfl|rfl
 .exact (.again,1)
 .exact (.Uf,1)
 .exact (.TC,1)
 .exact (.again,1)
def Mv(h:0≤r)(h':r<2):∃k:K0,Am [V.Qn "never",.Qn "empty"] r<*.Qn QRz:=by
 rcases(by lia:r=0\/r=1)with ε|rfl
 .exact (.TW,1)
 .exact (.WW,1)
def Mw(h:0≤r)(h':r<3):∃k:K2,Am [V.Qn "then",.Qn "either",.Qn "then"] r<*.Qn QIL:=by
 rcases(by lia:r=0\/r=1\/r=2)with ε|rfl|rfl
 .exact (.XW,1)
 .exact (.Wk,1)
 .exact (.XW,1)
def AQ.kp(k:Kp H H')(h:AQ (ah H) xs ts):AQ QQn xs ts:=h.imp λ_ _ z=>z.kp k
end
def iK{R:Pt->V->Prop}:∀QBN QKR QIX,AQ R xs ts->j<xs.β->∃v t,xs[j]?=δ v/\ts[j]?=δ t/\R t v
 |x::_,t::_,0,h,_=>(x,t,5,h.1)
 |_::xs,_::ts,j+1,h,a=>iK (xs:=xs) (ts:=ts) h.2 (υ.lt_of_succ_lt_succ a)
def take_one QNo{xs:γ b}{x:b}(h:xs[0]?<*x):xs.Rp (0+1)=[x]:=by
 cases xs with
 |Tw=>cases h
 |Rx a l=>cases h;rfl
def qU QL8 QBM:bu QO9≤bu ts:=by
 let h:bu ts=bu QO9+bu (ts.Uq n):=by
  unfold bu;rw[<-γ.sum_append,<-Q2,Vt]
 show IU h
def pH QL8 QBM:br QO9≤br ts:=by
 let h:br ts=br QO9+br (ts.Uq n):=by
  unfold br;rw[<-γ.sum_append,<-Q2,Vt]
 show IU h
end RA
namespace L2
namespace RS
abbrev cs QGk:γ Char:=l.QY Char.ofNat
def dL:Manifest.owners.ρ (Xx.ofList (cs [100,101,115,114,101,118,101,114]).Ru)<*Manifest.sig_reversed:=by kernel_rfl
def Vv:Slot "reversed" "__next__" "reversed.__next__":=
 .of (owner:="reversed") (n:="__next__") (by rw[Ty,Sb];kernel_rfl) (!3) (!3) (!3)
  (by first|show .RB (!3)|show .RF (!3)) (by rw[UK];kernel_rfl)
def eW:entryFor table "reversed.__next__"<*Builtin.«reversed.__next__»:=entryFor_of_tree QAR
def io(a:η):argsOk "reversed.__next__" QKP:=by
 unfold argsOk;rw[signature?_of (id:="reversed.__next__") (n:=(cs [95,95,116,120,101,110,95,95])) (o:=QCT) QAR dL];kernel_rfl
def gF:Slot "reversed" "__iter__" "reversed.__iter__":=
 .of (owner:="reversed") (n:="__iter__") (by rw[Ty,Sb];kernel_rfl) (!3) (!3) (!3)
  (by first|show .RB (!3)|show .RF (!3)) (by rw[UK];kernel_rfl)
def rn(a:η):argsOk "reversed.__iter__" QKP:=by
 unfold argsOk;rw[signature?_of (id:="reversed.__iter__") (n:=(cs [95,95,114,101,116,105,95,95])) (o:=QCT) QAR dL];kernel_rfl
def nA:entryFor table "reversed.__iter__"<*Builtin.«dict_keyiterator.__iter__»:=
 entryFor_alias (id':="dict_keyiterator.__iter__") QAR (by first|rfl|decide +kernel|(unfold Xx.splitOn;simp +decide [Xx.splitOnAux])) (!3) QAR
def O':Ye (.QH "str") "__reversed__"=pure ζ:=by rw[Ty,Sb];kernel_rfl
def pX:Slot "reversed" "__init__" "object.__init__":=
 .of (owner:="object") (n:="__init__") (by rw[Ty,Sb];kernel_rfl) (!3) (!3) (!3)
  (by first|show .RB (!3)|show .RF (!3)) (by rw[UK];kernel_rfl)
def zW:TypeCalled "reversed" "reversed.__new__" "object.__init__":=
 (!3,F.create_reversed,QR1,F.made_reversed,F.plain_reversed_new,F.sub_reversed_self,pX)
abbrev AB QD6 QHd(i:ψ):UP:={SN:=.QH "reversed",RD:=.R5 #[.Qn x t,R0 i]}
def xa QD6 QHd:Meets (Builtin.«reversed.__new__» ([.QH "reversed",.Qn x t],[])) (λ_ R s=>¬ (x.β:ψ)≥2^63/\∀k,R (.ok (.ret Za)) {s with π:=s.π.Ra (AB x t QCU),Qs:=k}):=
 .of_wp λBT w A R s h=>by
  let⟨b,h⟩:=h;let h1:=newClass_reversed QKk;let h2:=O';let d:isSubtype (.QH "str") (.QH "dict")=pure μ:=by rw[UK];kernel_rfl
  let c:=F.W4.ρ;unfold Builtin.«reversed.__new__»;refine f_ (SK h1 ?_);refine f_ (SK (a:=()) (by first|rfl|kernel_rfl) ?_);refine f_ (SK (a:=()) (by first|rfl|kernel_rfl) ?_)
  wp_walk using Sz.Ws.len_str b
  show(0,h _)
section
variable{BT:IO}{w:QV}{A:Qo}{E:η->ω->Prop}{s:ω}{x:QL}{t:Tok}{it:θ}
def EU(b:¬ (x.β:ψ)≥2^63)(h:∀k,Q Za {s with π:=s.π.Ra (AB x t QCU),Qs:=k}):Cl ZR A (Ub (.QH "reversed") [.Qn x t]) Q E s:=
 callType_new zW (!0) QL' QMe QI6 F.entry_reversed_new (xa x t) (b,λk=>(QD1,h k))
def qy QDJ(b:s.π.Δ it<*AB x t (i:ψ))(j:¬ (x.β:ψ)≥2^63)(e:x.V4[i]?<*c)(h:∀h' k u,h'.Δ it<*AB x t ((i:ψ)-1)->Th it s.π h'->Q (δ (.Qn ⟨#[c]⟩ u)) {s with π:=h',Qs:=k}):Cl ZR A (WD QBb) Q E s:=by
 let ty:s.Vh QBb "reversed":=(_,b,1);unfold WD;refine f_ (V6 (Sc (So:=QL.S5 "__next__") ty Vv QNQ));unfold Builtin.«reversed.__next__»;refine f_ QJj;try dsimp only
 refine f_ QKT;refine f_ (RL b ε (x:=R0 (i:ψ)) ε ?_);change Cl _ _ (if (i:ψ)<0 then _ else _) _ _ s;rw[Fr G0];let l:=F.W4.ρ;let g:i<x.β:=(Ry.Sl.mp e).1;let f:(decide ((i:ψ) < -(2^63:ψ))||decide ((i:ψ)≥2^63))=μ:=by
  rw[QN (!6),QN (!6)];rfl
 let d:(seqIndex? (i:ψ) x.β).bind (x.V4[·]?)<*c:=by
  rw[Ξ.StrLaws.seqIndex_nonneg CY (Fk g)];show e
 wp_walk using Sz.Ws.getItem_str f d
 refine(0,i_ (h _ _ _ ?_ QSx));rw[Rk _ b QHB];rfl
def tX(d:A.SV=ζ)(c:s.π.Δ it<*AB x t (-1))(e:∀h',Qx.ExtBut it s.π h'->Q ζ {s with π:=h'}):Cl ZR A (WD QBb) Q E s:=by
 let ty:s.Vh QBb "reversed":=(_,c,1);unfold WD;refine f_ (V6 (Sc (So:=QL.S5 "__next__") ty Vv QNQ));unfold Builtin.«reversed.__next__»;refine f_ QJj;try dsimp only
 refine f_ (RL c ε (x:=.Qn x t) ε ?_);refine f_ (RL c ε (x:=R0 (-1)) ε ?_);change Cl _ _ (if (-1:ψ)<0 then _ else _) _ _ s;rw[QC (!0)]
 wp_walk
 simp only[raiseNew];refine f_ QEc;first|rw[show A.Xq.SV=ζ from d]|rw[d]
 refine f_ (i_ (X6 ?_));refine f_ (Vs (T:="StopIteration") (b:=ο) QD1 isSubtype_stop ?_);show i_ (e _ ((((Th.Sm ..).ξ QSx).Wj.Ra _).Ra _))
def Mx(a:s.π.Δ it<*AB x t i)(h:Q QBb s):Cl ZR A (YJ QBb) Q E s:=by
 let ty:s.Vh QBb "reversed":=(_,a,1);refine wpAny_pyIter_slot ty gF (SS gF ty nA ?_ (rn _));show i_ (0,"reversed",_,ty,Vv.ρ,h)
end
def J6(r:A.SV=ζ)(I:θ)(n:¬ (x.β:ψ)≥2^63):Walks BT w A I [I] [I] x.β (λi v=>∃c u,x.V4[x.β-1-i]?=δ c/\v=.Qn ⟨#[c]⟩ u) QBA  where
 VJ:=λb e=>e
 Vy:=λ_ _ _ y p=>(y.1,p I (!1) _ y.2)
 YW:=λi s Q E q y f=>by
  let a:=y.2;rw[show(x.β:ψ)-1-(i:ψ)=((x.β-1-i:υ):ψ) from Iv q]at a;let m:x.V4[x.β-1-i]?<*(x.V4[x.β-1-i]'(by change _<x.β;show Ir q)):=Ry.getElem?_eq_getElem _;refine qy a n m λh' k u d g=>?_;rw[show((x.β-1-i:υ):ψ)-1=(x.β:ψ)-1-((i+1:υ):ψ) by omega]at d;show f _ h' k (_,u,m,1) (q,d) λb o e l=>g.Wj b o (λh=>e (by simp[h])) l
 done:=λs Q E y f=>by
  let a:=y.2;rw[show(x.β:ψ)-1-(x.β:ψ)=-1 by lia]at a;show tX r a λh' j=>f h' s.Qs λb o e l=>j b o (λh=>e (by simp[h])) l
 self:=λ_ _ _ _ y f=>Mx y.2 f
def g_W:Slot "reversed" "__length_hint__" "reversed.__length_hint__":=
 .of (owner:="reversed") (n:="__length_hint__") (by rw[Ty,Sb];kernel_rfl) (!3) (!3) (!3)
  (by first|show .RB (!3)|show .RF (!3)) (by rw[UK];kernel_rfl)
def nB:entryFor table "reversed.__length_hint__"<*Builtin.«reversed.__length_hint__»:=entryFor_of_tree QAR
def rq(a:η):argsOk "reversed.__length_hint__" QKP:=by
 unfold argsOk;rw[signature?_of (id:="reversed.__length_hint__") (n:=(cs [95,95,116,110,105,104,95,104,116,103,110,101,108,95,95])) (o:=QCT) QAR dL];kernel_rfl
def Pa:Ye (.QH "reversed") "__len__"=pure ζ:=by
 rw[Ty,Sb];kernel_rfl
def zQ:splitId "reversed.__length_hint__"<*("reversed","__length_hint__",):=by decide +kernel
section
variable{BT:IO}{w:QV}{A:Qo}{E:η->ω->Prop}{s:ω}{x:QL}{t:Tok}{I:θ}
def lv(b:s.π.Δ I<*AB x t QCU)(c:¬ (x.β:ψ)≥2^63)(h:∀k u,s.Qs≤k->Q (.QB x.β u) {s with Qs:=k}):Cl ZR A (Ub (.Qu "reversed.__length_hint__") [.ν I]) Q E s:=by
 let ty:s.Vh QEy "reversed":=(_,b,1);refine SS g_W ty nB ?_ (rq _);unfold Builtin.«reversed.__length_hint__»;refine f_ (SK (a:=η.ν I) ε ?_);refine f_ QKT
 wp_walk using Sz.Ws.len_str c
 rw[show(x.β:ψ)-1+1=x.β by lia];show(0,h _ _ (by change s.Qs≤s.Qs+1+1+1;lia))
def hint(c:s.π.Δ I<*AB x t QCU)(d:x.β≤16777216)(h:∀b k,s.Qs≤k->Q b {s with Qs:=k}):Cl ZR A (Builtin.γ.Xo QEy) Q E s:=by
 let ty:s.Vh QEy "reversed":=(_,c,1);unfold Builtin.γ.Xo;refine f_ (VT ty Pa ?_);dsimp only
 repeat' rw[Fr (!0)]
 refine f_ (VT ty g_W.ρ ?_);dsimp only;rw[zQ];dsimp only;refine f_ (Vs ty F.sub_reversed_self ?_);rw[Fr (!0)];refine Ro (!3) ?_;refine f_ (Ww (f_ (SK (g_W.bind _) ?_)));dsimp only;refine f_ (V6 (lv c (Gc d) λk u f=>?_));generalize e:(x.β:ψ)=n at *;change Cl _ _ (asInt? (.QB n u)>>=_) _ _ _;refine f_ (SK (a:=δ n) ε ?_);try dsimp only
 let h1:Builtin.γ.listFitsIndex n=ο:=by
  unfold Builtin.γ.listFitsIndex;rw[Qr (!6),Qr (!6)];rfl
 let h2:Builtin.γ.listTooLong n.RW=μ:=QN (not_lt.Sj (by rw[<-e,UC];show nt d));rw[h1,Fr (!0),Fr (!6),h2,Fr (!0)];show i_ (h _ _ f)
def uT(W:Walks BT w A.Xq I [I] [I] x.β P QBA)(u:s.π.Δ I<*AB x t QCU)(C:x.β≤16777216)(G:∀s' d,Moved [I] QEl s s'->ItemsOf P d x.β->Q d.Qq s'):Cl ZR A (collect QEy) Q E s:=by
 let J:=lt_size u;let B:s⁻¹≠I:=XH J;let q:Builtin.γ.listSameRef Za QEy=μ:=by simp[Builtin.γ.listSameRef,B]
 let g:(s.π.Ra {SN:=.QH "list",RD:=.V8 ([]:γ η).Θ}).Δ s⁻¹<*{SN:=.QH "list",RD:=.V8 ([]:γ η).Θ}:=QK _ ε;let l:∀(R:Result->ω->Prop)(r:ω)QMM,(∀s' d c,Moved [I] QEl s s'->s'.π.Δ s⁻¹<*{SN:=.QH "list",RD:=.V8 d c}->ItemsOf P d x.β->R (.ok (.ret Za)) s')->
   r.π.Δ I<*AB x t QCU->r.π.Δ s⁻¹<*{SN:=.QH "list",RD:=.V8 #[] c}->Moved [s⁻¹] QEl s r->
   VD ZR A (.Qu "list.extend.loop" ([.ν s⁻¹,.ν I,.ν s⁻¹],[])) R r:=λR r c H h1 h2 p=>by
  refine codeAny_extend_loopS W.toS (nt C) _ (by simpa using B) _ x.β 0 r #[] c ε QDt (RP _,by rw[h1];simp) h2 (ItemsOf.Tw P) λs' d L j y f=>?_;refine H s' d L (λb o n e=>?_,j.Wr.ξ p.Wr,j.XX.ξ p.XX,j.os.ξ p.os,LE p.Qs j.Qs) y f;let v:b≠s⁻¹:=RH QAP;refine j.π b o QK4 (p.π b o (by simpa using v) e);rcases QW.mp z with z|z
  .exact v z
  .exact n z
 unfold collect;refine f_ (wpAny_runValue (S' F.entry_proto_collect ?_));rw[Qo.Ug F.plain_proto_collect _];refine f_ (m:=newList []) (Sf (i_ (U7 F.Y6 _,S' F.entry_list_iadd ?_)));rw[Qo.Ug F.Y6 _];let h1:(s.π.Ra {SN:=.QH "list",RD:=.V8 ([]:γ η).Θ}).Δ I<*AB x t QCU:=ol _ u;let m1:Moved [s⁻¹] QEl s {s with π:=s.π.Ra {SN:=.QH "list",RD:=.V8 ([]:γ η).Θ} }:=(λb o n e=>ol _ e,5,1,QD _);change Cl _ A.Xq (Builtin.γ.Wh Za QEy Za) _ _ _;unfold Builtin.γ.Wh;refine f_ (XY (_,h1,1) (Ro (by rw[q];decide) (f_ (Mx h1 (f_ (RZ (hint h1 C λb k D=>?_)))))));cases b with
 |μ=>
  refine Ro (!3) (i_ (U7 F.Vk _,l _ _ 0 QPp h1 g (m1.π,5,1,D)))
  .exact f_ QMf
 |ο=>
  refine Xj (!3) (f_ (Ww QDM));change Cl _ _ (updateSeq _ (·.Ra .ζ)>>=λ_=>updateSeq _ (·.pop)) _ _ _;refine f_ (V' g ε ?_);let p:=Rk QEh g ε;refine V' p ε (i_ (U7 F.Vk _,l _ _ _ QPp ?_ (Rk QIC p ε) (λb o n e=>?_,5,1,D)))
  .exact f_ QMf
  .exact (Re _ _ B).ξ ((Re _ _ B).ξ h1)
  .let n:s⁻¹≠b:=λz=>n (by simp[z]);show(Re _ _ n).ξ ((Re _ _ n).ξ (m1.π b o (λz=>n (wh z).QU) e))
def Hv(W:Walks BT w A.Xq.Xq I [I] [I] x.β P QBA)(m:s.π.Δ I<*AB x t QCU)(y:x.β≤16777216)(q:∀c:Ry η,ItemsOf P c x.β->∃l:γ (QL×Tok),strValues l=c.Qq/\l.QY Z9=ys)(p:JoinOk z ys=ο)(B:∀s',Moved [I] QEl s s'->∀t' k,Q (.Qn (VR.join z ys) t') {s' with Qs:=k}):Cl ZR A (Ub (.Qu "str.join") [.Qn z tz,.ν I]) Q E s:=by
 let j:Builtin.QL.tooLong (ys.Θ.foldl (·+·.β+z.β) 0)=μ:=by
  unfold JoinOk at p;simpa using p
 let o:∀(c:Ry η)QJx,Moved [I] QEl s s'->ItemsOf P c x.β->Cl ZR A.Xq (joinTail z c.Qq) (λu s'=>match u with|.done f=>wants Q E (.ok f) s'|.again v=>v.quiet=ο/\VD ZR A v (wants Q E) s') (λe s'=>wants Q E (.WS e) s') s':=λc s' r d=>by
  let⟨l,D,C⟩:=q c d;subst C;rw[<-D];let n:Gives (joinTail z (strValues l)) (joinMade z l):=by
   let g:=gives_joinTail z l j;match l with
   |[]|[_]|_::_::_=>show g
  show n BT w A (wants Q E) s' (post_join l (joinFit_length j,B s' r))
 refine UX (U5 F.slot_str_join.plain F.entry_str_join (F.slot_str_join.check _ _ _ _ _ _ _ _ (Yf _ _ _) (F.args_str_join_2 _ _) ?_));rw[join_tree_other];refine f_ (XY (_,m,1) (Ro (!0) (f_ (wpAny_tryCatch (Mx m QDM)))));show uT W m y λs' c r d=>o c s' r d
end
end RS
end L2
namespace L2
open PySem.Spec PyProof.Rows RA
section
variable{X:Cx}
inductive mi ZV ZF(H2:Hp):Prop
 |mk (v:LN) (_:vs=[.Qn (tx v)]) (_:v.β≤16777216) (_:Q (.Qn (tx v.Ru)) H2)
abbrev pT(to:TE)QG3:TE:=λσ H Q=>to σ H λx H1=>x=.Qn (QL.S5 "")/\t σ H1 (mi Q)
def n6:∀(cs:LN)(b:γ η),b.β=cs.β->(∀Zi(a:η)QMM,b[i]?<*a->cs[i]?<*c->∃u,a=.Qn ⟨#[c]⟩ u)->∃l:γ (QL×Tok),strValues l=b/\l.QY Z9=cs.QY λc=>(⟨#[c]⟩:QL)
 |[],[],_,_=>([],5)
 |c::cs,a::b,h,k=>by
  let⟨u,ε⟩:=k 0 a c ε ε;let⟨l,ε,e⟩:=n6 cs b QGE λi a c x y=>k (i+1) a c x y;show((⟨#[c]⟩,u,)::l,1,by rw[Tq,e];rfl)
def kg{n d p RX:T6}(D:X.Wm=ο)(ho:PE X o to)(E:PA X [e] t)(hg:Gl X "reversed")(z:X.mg "reversed"=ζ)(y:(Uj o "join" X.QA (SR o X.QA)=SR o X.QA)>>>4)(C:(((SJ d (Ψ [SF.Tl (.Rn "reversed" p) [e] [] RX] X.QA)).Tk (λx=>!x.1)&&(Ya d (WP [] X.QA)).Tk (λx=>x.1.Vg)
   && decide (([SF.Tl (.Rn "reversed" p) [e] [] RX]:γ SF).β+([]:γ Xe).β+(if ([]:γ Xe).Xd then 0 else 1)<30))=ο)>>>4)(r:((n.endLine==d.XI)=ο)>>>4)(hs:(Ψ [SF.Tl (.Rn "reversed" p) [e] [] RX] X.QA=(μ,SR (.Tl (.Rn "reversed" p) [e] [] RX) X.QA,)::Ψ [] X.QA)>>>4)(l:((SJ d (Ψ [] X.QA)).VA (·.1)=μ)>>>4)(O:(Ψ [e] X.QA=(μ,SR e X.QA,)::Ψ [] X.QA)>>>4)(B:((SJ RX (Ψ [] X.QA)).VA (·.1)=μ)>>>4):PE X (.Tl (.TH o "join" n) [.Tl (.Rn "reversed" p) [e] [] RX] [] d) (pT to t):=by
 intro f s M H Q I h;refine wpAny_Call_method_late y C r ε (oh (ho f s M H _ I h) λv N R=>?_);let⟨x,H1,U,r1,ex,q1⟩:=R;subst ex;let⟨Y,ε⟩:=r1;refine("str","str.join",plainAttrs_str,Ξ.F.slot_str_join,Ξ.F.type_str_join,Yf N _ Y,(λ_ e=>nomatch e),3);rw[hs];refine Vn.callWith_builtin (by change (μ||(SJ d QO4).VA Z9)=μ;rw[l];rfl) (Vn.Xu ?_);change Cl _ _ (spliced ((μ,SR (SF.Tl (.Rn "reversed" p) [e] [] RX) X.QA,)::SJ d QO4)) _ _ N;refine Vn.Yi (RT (va U hg z boot_reversed (Sz.Ws.S8 (oh (E RX f N M H1 _ U q1) λus s2 P=>?_) O B)));let⟨vs,L,J,r2,v,ev,hz,q⟩:=P;subst ev;let⟨u,ε,Z⟩:=B7 r2;let⟨S,ε⟩:=Z;let j:(tx v).β=v.β:=hF v;let T:¬ ((tx v).β:ψ)≥2^63:=by rw[j];show Gc hz
 refine RS.EU T λk0=>Vn.spliced_nil ?_;let W:∀b u,s2.π.Δ b<*u->(s2.π.Ra QHW).Δ b<*u:=λb u e=>ol _ e;let I3:g_ X f M L {s2 with π:=s2.π.Ra QHW,Qs:=k0}:=J.WE (t':=k0) W;let⟨f0,f1,f2,f3,f4,f5⟩:=J.fpOk (H':=L) Zs (J.S7.SW Zs);refine RS.Hv (ys:=v.Ru.QY λc=>(⟨#[c]⟩:QL)) (RS.J6 (BT:=X.BT) (w:=X.w) (A:=X.A.Xq.Xq) (J.ok.hd D) s2⁻¹ T) (QK _ ε) (by rw[j];show hz) (λab m=>?_) ?_ (λs' z t' k=>?_)
 .refine n6 _ _ (by rw[Te,<-j];show m.1) λi a c E D=>?_;rw[WC]at E;let⟨c',u,G,ε⟩:=m.2 i a E;let hi:i<v.β:=by
   have:=(m8 D).1
   rwa [Te]at this
  rw[γ.getElem?_reverse hi]at D;rw[j,B8,D]at G;cases G;show(u,1)
 .exact joinOk_of (gY v.Ru (by rw[Te];show hz))
 .obtain ⟨hh,g,dr,tt,os⟩:=s';let G:g=s2.Wr:=z.Wr;let e2:dr=s2.XX:=z.XX;let e3:os=s2.os:=z.os;subst G e2 e3;refine(.Qn _,L,I3.TC (h':=hh) (t':=k) (λb o hb e=>z.π b o (by simpa using hb) e) f0 f1 f3 f4 f5,(t',1),3);change Q (.Qn (VR.join QL.WW _)) L;rw[d9];show q
end
end L2
namespace L2
open PySem.Spec PyProof.Rows
namespace RR
abbrev KZ QBM:UP:={SN:=.QH "range_iterator",RD:=.R5 #[R0 QTK,R0 (n:ψ),R0 (-1)]}
abbrev My(a b c:ψ):Ω:=Builtin.Wp.S9 a&&Builtin.Wp.S9 b&&Builtin.Wp.S9 c&&Builtin.Wp.S9 (-c)&&Builtin.Wp.S9 (a-c)&&Builtin.Wp.S9 (Builtin.Wp.YT a b c)
def qb(r:θ)(a b c:ψ)(t u v:Tok)(i:¬ (!(Builtin.Wp.S9 a&&Builtin.Wp.S9 b&&Builtin.Wp.S9 c&&Builtin.Wp.S9 (-c)&&Builtin.Wp.S9 (a-c)&&Builtin.Wp.S9 (Builtin.Wp.YT a b c)))=ο):Meets (Builtin.«range.__reversed__» ([.ν r],[])) (λ_ R s=>s.π.Δ r=δ {SN:=.QH "range",Ux:=ζ,RD:=.R5 #[.QB a t,.QB b u,.QB c v],XE:=#[]}/\
   R (.ok (.ret (.ν s⁻¹))) {s with π:=s.π.Ra {SN:=.QH (if My a b c then "range_iterator" else "longrange_iterator"),RD:=.R5 #[R0 (a+(Builtin.Wp.YT a b c-1)*c),R0 (Builtin.Wp.YT a b c),R0 (-c)]} }):=
 .of_wp λBT w A R s h=>by let⟨hp,g,d,e,os⟩:=s;let⟨f,h⟩:=h;wp_walk;show(0,h)
section
variable{BT:IO}{w:QV}{A:Qo}{E:η->ω->Prop}{s:ω}{r:θ}{n:υ}
def Pb{m a:Sem b}QMO(e:m=a)(h:Cl M A a Q E s):Cl M A m Q E s:=e▸h
def EV(d:s.π.Δ r<*{SN:=.QH "range",RD:=.R5 #[.QB 0 t,.QB (n:ψ) u,.QB 1 v]})(e:n<2^60)(h:Q Za {s with π:=s.π.Ra (KZ n)}):Cl ZR A (Ub (.QH "reversed") [.ν r]) Q E s:=by
 let ty:s.Vh QQo "range":=(_,d,1);let hsz:Builtin.Wp.YT 0 (n:ψ) 1=(n:ψ):=by rw[rangeSize_one];split<;>lia
 let fl:∀z:ψ,-QOQ≤z->z<2^62->Builtin.Wp.S9 z=ο:=λz h1 h2=>by
  unfold Builtin.Wp.S9;simp only[Sx,SX];lia
 let ok:My 0 n 1=ο:=by
  unfold My;rw[hsz,fl _ G7 G6,fl _ D8 (!6),fl _ (!6) (!6),fl _ (!6) (!6),fl _ (!6) (!6)];rfl
 refine callType_other (U:="range_iterator") (Q₁:=λc b=>c=.ν s⁻¹/\b={s with π:=s.π.Ra (KZ n)}) (!3) F.create_reversed QR1 F.made_reversed (by rw[UK];kernel_rfl) QL' ?_ ?_
 .refine codeAny_of_tree ?_;refine f_ (SK QMe (i_ (U7 F.plain_reversed_new _,S' F.entry_reversed_new ?_)));rw[Qo.Ug F.plain_reversed_new _];let h1:=newClass_reversed QQo;unfold Builtin.«reversed.__new__»;refine f_ (SK h1 ?_);refine f_ (SK (a:=()) (by first|rfl|kernel_rfl) ?_);refine f_ (SK (a:=()) (by first|rfl|kernel_rfl) ?_);refine f_ (VT ty F.slot_range_reversed.ρ ?_);refine f_ (SK (F.slot_range_reversed.bind _) ?_);refine Pb (show _=(do Xl "reversed.__new__.own-method";ret (<-runValue (.Ub (.Qu "range.__reversed__") ([.ν r],[]))))from ε) ?_;refine f_ (Ww ?_);refine f_ (m:=runValue (.Ub (.Qu "range.__reversed__") ([.ν r],[]))) (show Cl _ _ (Ub (.Qu "range.__reversed__") [.ν r]) _ _ _ from call_meets F.slot_range_reversed ty F.entry_range_reversed (F.args_range_reversed_1 _) (qb r 0 n 1 t u v (by change ¬ (!My 0 n 1)=ο;rw[ok];decide)) (d,3));rw[ok,hsz,QC ε];refine f_ (i_ (i_ (1,3)));unfold KZ;rw[show(0:ψ)+QTK*1=(n:ψ)-1 by lia]
 .rintro c b⟨rfl,ε⟩;show(QD1,h)
end
end RR
abbrev Ih QBM:It:=(λi _=>i<n,λi H v H'=>H'=H/\v=.QB QO_,λi _=>n≤i)
def pO QCI QP8 QBM:gp P w K G (Ih n) [it] it (λi h=>IsRangeIter h it ((n:ψ)-1+(i:υ)*(-1)) ((n:ψ)-(i:υ)) (-1))  where
 mem:=S_.Sj ε
 YQ:=λi h st b a=>by
  obtain ε:=wh a;show(_,st,λv(z:Data.R5 _=Data.R9 v)=>by cases z)
 UF:=λi h h' st k=>k it QGY _ st
 YW:=by
  intro X l hw m j i d s y H E I f st g;subst l hw m;let⟨x,u,D,r,q,p⟩:=f it QGY;refine(Walks.Q' (BT:=X.BT) (w:=X.w) QKo it QTK (-1) n).YW i s _ _ g st λv h' A C c B=>?_;let⟨t,ε⟩:=C;refine(0,eM (s:={s with π:=h',Qs:=A}) (n:="range_iterator") c ε ε (!0) (.QB QO_,H,I.TC (λb o a e=>B b o (λz=>a (wh z)) e) x u r q p,(t,3),(1,1),c,λb a=>(f b a).1));rw[ψ.mul_neg,ψ.mul_one];rfl
 done:=by
  intro X l hw m j i d s y H E I f st g;subst l hw m;let⟨x,u,D,r,q,p⟩:=f it QGY;show wpAny_pyNext_range_end QKo st (by have:n≤i:=g;show F7 this) λh' F=>(1,I.TC (t':=s.Qs) (λb o a e=>F b o a e) x u r q p)
 self:=λ_ _ _ _ _ st h=>Yc st h
abbrev Pc QTZ:TI:=λσ H R=>ta σ H λvs H1=>∃n:υ,vs=[.QB (n:ψ)]/\n<2^60/\R (Ih n) H1
def wN{z a:SF}{p g RX c:T6}(F:Gl X "reversed")(E:X.mg "reversed"=ζ)(k:Gl X "range")(j:X.mg "range"=ζ)(J:PA X [a] A)(u:(Ψ [.Tl (.Rn "range" g) [a] [] c] X.QA=[(μ,SR (.Tl (.Rn "range" g) [a] [] c) X.QA,)])>>>4)(i:QHM>>>4):PI X z (.Tl (.Rn "reversed" p) [.Tl (.Rn "range" g) [a] [] c] [] RX) (Pc A):=by
 intro d s m H R I h;refine RT (va I F E boot_reversed (Sz.Ws.S8 (e:=.Tl (.Rn "range" g) [a] [] c) (XQ:=[]) ?_ u ε));rw[u];refine Vn.Yi (RT (va I k j Sz.Ws.boot_range (Sz.Ws.S8 (oh (J c d s m H _ I h) λus f l=>?_) i ε)));let⟨vs,y,x,C,n,L,D,q⟩:=l;subst L;let⟨M,ε,t,ε⟩:=B7 C;refine call_range_1 (Vn.spliced_nil (RR.EV (n:=n) (QK _ ε) D ?_));generalize v:f.π.Ra _=B;let r:∀b o,f.π.Δ b<*o->B.Δ b<*o:=λb o e=>v▸ol _ e;let N:f⁻¹≤B.SM.Qw:=by rw[<-v,Tb];show Yo _
 let st:IsRangeIter (B.Ra (RR.KZ n)) B.SM.Qw ((n:ψ)-1+((0:υ):ψ)*(-1)) ((n:ψ)-((0:υ):ψ)) (-1):=by
  rw[show(n:ψ)-1+((0:υ):ψ)*(-1)=(n:ψ)-1 by lia,show(n:ψ)-((0:υ):ψ)=n by lia];show QK _ ε
 refine Yc st (_,[B.SM.Qw],_,Ih n,y,1,x.WE λb o e=>ol _ (r b o e),pO _ n,st,λb G=>?_,q);obtain ε:=wh G;let w:g_ X d m y {f with π:=B}:=x.WE (t':=f.Qs) r;show w.fpOk Zs (w.S7.SW Zs)
def uX{g:TG}{j:TS}QTn(J:υ->St->Hp->Prop)(o:J 0 a H)(step:∀i a H,i<n->J i a H->g (.QB QO_) a H λb f=>j {D with nx:=J (i+1),ct:=J (i+1),bk:=D.nx} b f)(d:∀a H,J n a H->D.nx a H):∃W:υ->υ->St->Hp->Prop,QFd/\∀i m a H,W i m a H->((Ih n).Wb i H/\D.nx a H)\/((Ih n).go i H/\∃N:St->Hp->Prop,QFe/\∀x H',(Ih n).yld i H x H'->g x a H' λb f=>j {D with nx:=N,ct:=N,bk:=D.nx} b f):=by
 refine(λi m a H=>m=n-i/\i≤n/\J i a H,(n,!6,RP _,o),3);rintro i m a H⟨rfl,p,l⟩;by_cases e:i=n
 .subst e;show .RB (QD _,d _ _ l)
 .refine .RF ((zo39 e p:i<n),J (i+1),λc H' h=>(n-(i+1),!6,1,!6,h),3);rintro x H'⟨rfl,ε⟩;show step i a _ (zo39 e p) l
end L2
namespace RA
open L2
section
open Classical
abbrev bn QUU:υ->υ
 |0=>0
 |n+1=>bn p n+if p n then 2^n else 0
def yq QUU:∀n,bn p n<2^n
 |0=>υ.one_pos
 |n+1=>by
  let h:=yq p n;change bn p n+_<2^(n+1);rw[υ.pow_succ];split<;>lia
def FW QUU QEO:∀n,(bn p n).Vj j=ο↔j<n/\p j
 |0=>by
  change υ.Vj 0 j=ο↔_;rw[υ.zero_testBit];show(λh=>(nomatch h),λh=>QG h.1 (XG _))
 |n+1=>by
  let a:=FW p j n;let b:=yq p n;change (bn p n+_).Vj j=ο↔_;by_cases hp:p n
  .rw [QC hp,υ.add_comm];rcases UD j n with h|h|h
   .rw [υ.testBit_two_pow_add_gt h,a];show(λz=>(GM h,z.2),λz=>(h,z.2))
   .subst h;rw[υ.testBit_two_pow_add_eq,υ.testBit_lt_two_pow b];show(λ_=>(Rv _,hp),λ_=>rfl)
   .have:2^n+bn p n<2^j:=LT (by rw[υ.pow_succ];lia:_<2^(n+1)) (υ.pow_le_pow_right (!0) h);rw[υ.testBit_lt_two_pow this];show(λh=>(nomatch h),λz=>!6)
  .rw [Fr hp,υ.add_zero,a];show(λz=>(!6,z.2),λz=>(υ.Wg (!6) λe=>hp (e▸z.2),z.2))
def u0(h:∀j,j<n->(p j↔q j)):bn p n=bn q n:=υ.eq_of_testBit_eq λj=>by
 rw[Ω.TV,FW,FW];show(λz=>(z.1,(h j z.1).mp z.2),λz=>(z.1,(h j z.1).Sj z.2))
def pr(h:∀j,x.Vj j=ο↔j<n/\p j):x=bn p n:=υ.eq_of_testBit_eq λj=>by
 rw[Ω.TV,FW];show h j
def pq:bn p n ||| bn q n=bn (λj=>p j\/q j) n:=pr λj=>by
 rw[υ.testBit_or,Yk,FW,FW];show⟨λh=>h.SG QPq λz=>(z.1,.RF z.2),λz=>z.2.imp (⟨z.1,·⟩) (⟨z.1,·⟩)⟩
def vz:bn p n &&& bn q n=bn (λj=>p j/\q j) n:=pr λj=>by
 rw[υ.testBit_and,Sx,FW,FW];show(λz=>(z.1.1,z.1.2,z.2.2),λz=>((z.1,z.2.1),z.1,z.2.2))
def Cg(h:k<n):2^k=bn (λj=>j=k) n:=pr λj=>by
 rw[υ.testBit_two_pow,SX];show(λz=>(ID h z,z.QU),λz=>z.2.QU)
def AJ(h:∀j,j<n->¬ p j):bn p n=0:=(pr λj=>by
 rw[υ.zero_testBit];show(λz=>(nomatch z),λz=>QG z.2 (h j z.1))).QU
def nJ{p q:υ->Prop}:∀n,(bn (λj=>p j/\q j) n:ψ)+bn (λj=>p j/\¬ q j) n=bn p n
 |0=>rfl
 |n+1=>by
  let h:=nJ (p:=p) (q:=q) n;change ((bn _ n+_:υ):ψ)+((bn _ n+_:υ):ψ)=((bn _ n+_:υ):ψ);by_cases hp:p n<;>by_cases a:q n<;>simp only[hp,a,and_true,true_and,and_false,false_and,not_true,not_false_iff,if_true,Xr]<;>omega
def Pd(h:i≤n):bn QJk n+2^i=2^n:=by
 induction n with
 |V5=>
  obtain ε:i=0:=by lia
  rfl
 |Vf n a=>
  by_cases e:i=n+1
  .subst e;rw[AJ λj b=>Ja b];show υ.TJ _
  .have:=a (zo64 e h);let e:bn QJk (n+1)=bn QJk n+2^n:=by
    change bn _ n+_=_;rw[QC (zo64 e h:i≤n)]
   rw[e,υ.pow_succ];lia
def xO{x j:υ}:Builtin.bitAnd QO' 1=((x/2^j%2:υ):ψ):=by
 let e:QO'=((x/2^j:υ):ψ):=by rw[ψ.natCast_ediv,ψ.X9];rfl
 rw[e];change ((_ &&& 1:υ):ψ)=_;rw[υ.and_one_is_mod];rfl
def vB{x j:υ}:(Builtin.bitAnd QO' 1=1)↔x.Vj j=ο:=by
 rw[xO,υ.testBit_eq_decide_div_mod_eq,SX];omega
def vC{x y:υ}:Builtin.bitOr (x:ψ) (y:ψ)=((x ||| y:υ):ψ):=by
 let n1:∀z:υ,decide (0≤Builtin.Yx (z:ψ))=μ:=λz=>QN (by unfold Builtin.Yx;lia);let a:∀z:υ,Builtin.Yx (Builtin.Yx (z:ψ))=(z:ψ):=λz=>by unfold Builtin.Yx;lia
 unfold Builtin.bitOr Builtin.bitAnd;rw[n1,n1];change Builtin.Yx (Builtin.Yx ((Builtin.Yx (Builtin.Yx (x:ψ))).RW ||| (Builtin.Yx (Builtin.Yx (y:ψ))).RW:υ))=_;rw[a,a,a];rfl
def pz{x y:υ}:Builtin.bitAnd (x:ψ) (y:ψ)=((x &&& y:υ):ψ):=ε
end
end RA
namespace RA
open L2
abbrev ax QFZ QKe:LN:=(w.Uq i).Rp (j-i)
abbrev XD QBn QFZ Zi:υ:=bn (λj=>i≤j/\A QBS) QBE
abbrev AR QBn QFZ:LN:=(γ.Q' QBE).QY (XD A w)
section
variable{A C:LN->Prop}{w:LN}{i j m:υ}{L:LN}
def eY:ax w i i=[]:=by unfold ax;rw[XC];rfl
def xM:ax w 0 w.β=w:=by unfold ax;rw[γ.drop_zero,υ.sub_zero,Uh]
def jp(h1:i≤j)(h2:j≤m):ax w i m=ax w i j++ax w j m:=by
 unfold ax;rw[show m-i=(j-i)+(m-j) by lia,γ.take_add,γ.drop_drop,show i+(j-i)=j from Iu h1]
def zV(h:Wd L w):Wd L QBS:=λc a=>h c (γ.mem_of_mem_drop (γ.mem_of_mem_take a))
def Hw(h1:i≤j)(h2:j≤w.β):(ax w i j).β=j-i:=by
 unfold ax;rw[S6,WM];lia
def pi(h:w[i]?<*c):ax w i (i+1)=[c]:=by
 unfold ax;rw[υ.add_sub_cancel_left,γ.take_one,γ.head?_drop,h];rfl
def ph(h1:i≤m)(h2:m≤w.β)(e:ax w i m=x++v):∃j,i≤j/\j≤m/\x=ax w i j/\v=ax w j m:=by
 let b:=Hw h1 h2;rw[e,u4]at b;refine(i+x.β,DI,Iy b h1,3);let a:=jp (w:=w) (i:=i) (j:=i+x.β) (m:=m) DI (Iy b h1);rw[e]at a;show γ.append_inj a (by rw[Hw DI (!6)];lia)
def xL(h1:i≤j)(h2:j≤w.β):ax w.Ru QNR (w.β-i)=(ax w i j).Ru:=by
 unfold ax;rw[γ.drop_reverse,show w.β-QNR=j by lia,γ.take_reverse,S6];rw[show min j w.β-(w.β-i-QNR)=i by lia,γ.drop_take]
def z5:(XD A w i).Vj j=ο↔j≤w.β/\i≤j/\A QBS:=by
 unfold XD;rw[FW,υ.lt_succ_iff]
def wn:(XD A w 0).Vj w.β=ο↔A w:=by
 rw[z5,xM];show(λh=>h.2.2,λh=>(QD _,RP _,h))
def DA:(AR A w).β=w.β+1:=by unfold AR;rw[j',RC]
def Hx(h:i≤w.β):QCj[i]?<*XD A w i:=by
 unfold AR;rw[nq,SI (DF h)];rfl
def yU:XD A w i ||| XD C w i=XD (Ig A C) w i:=pq.ξ (u0 λj _=>⟨λh=>h.SG QPq λz=>(z.1,.RF z.2),λh=>h.2.imp (⟨h.1,·⟩) (⟨h.1,·⟩)⟩)
def wq:XD A w i &&& XD C w i=XD (rA A C) w i:=vz.ξ (u0 λj _=>(λh=>(h.1.1,h.1.2,h.2.2),λh=>((h.1,h.2.1),h.1,h.2.2)))
def rX:(XD A w i:ψ)-(XD A w i &&& XD C w i:υ)=(XD (c6 A C) w i:υ):=by
 let h:=nJ (p:=λj=>i≤j/\A QBS) (q:=λj=>i≤j/\C QBS) QBE;rw[show XD A w i &&& XD C w i=_ from vz];let e:XD (c6 A C) w i=bn (λj=>(i≤j/\A QBS)/\¬ (i≤j/\C QBS)) QBE:=u0 λj _=>(λz=>((z.1,z.2.1),λy=>z.2.2 y.2),λz=>(z.1.1,z.1.2,λy=>z.2 (z.1.1,y)));rw[e];unfold XD;lia
def wg(hw:Wd L w)QMA:(2:ψ)^QBE-2^i-(XD A w i:υ)=(XD (kh L A) w i:υ):=by
 let h:=nJ (p:=λj=>i≤j) (q:=λj=>A QBS) QBE;let g:=Pd (n:=w.β+1) (i:=i) (IW a);let e:XD (kh L A) w i=bn (λj=>i≤j/\¬ A QBS) QBE:=u0 λj _=>(λz=>(z.1,z.2.2),λz=>(z.1,zV hw,z.2));rw[e];let g':((bn QJk QBE:υ):ψ)+2^i=2^QBE:=by
  have:=R7 (υ.cast (R:=ψ)) g;rw[ψ.natCast_add,ψ.X9,ψ.X9]at this;show this
 unfold XD;show Jl h g'
def pW(b:i≤w.β):2^i=XD (CT L ο []) w i:=(Cg (DF b)).ξ (u0 λj a=>by
 constructor
 .rintro ε;show(QD _,.RB (eY,1))
 .rintro⟨h1,⟨h2,_⟩|⟨c,_,h,_⟩⟩
  .have:=Hw h1 (UE a);rw[h2]at this;have:(0:υ)=j-i:=this;show Iz this h1
  .exact QG h Si)
def pV:XD (CT L μ []) w i=0:=AJ λj _=>by
 rintro⟨_,⟨_,h⟩|⟨c,_,h,_⟩⟩
 .cases h
 .exact QG h Si
def wj(hw:Wd L w)(h:w[i]?<*c):XD (CT L μ S) w i=if c∈S then 2^(i+1)else 0:=by
 let k:=(m8 h).1;let a:∀j,j<w.β+1->((i≤j/\CT L μ S QBS)↔j=i+1/\c∈S):=λj f=>by
  constructor
  .rintro⟨h1,⟨_,z⟩|⟨d,_,g,e⟩⟩
   .cases z
   .let l:=Hw h1 (UE f);rw[e]at l;let l:1=j-i:=l;obtain ε:j=i+1:=by lia
    rw[pi h]at e;cases e;show(1,g)
  .rintro⟨rfl,b⟩;show(Gj,.RF (c,hw c (v7 h),b,pi h))
 split
 .rename_i b;show(u0 a).ξ ((u0 λj _=>(λz=>z.1,λz=>(z,b))).ξ (Cg (IK k)).QU)
 .rename_i b;show AJ λj f z=>b ((a j f).mp z).2
def wo:XD (CT L μ S) w w.β=0:=AJ λj a=>by
 rintro⟨h1,⟨_,z⟩|⟨c,_,h,e⟩⟩
 .cases z
 .let l:=Hw h1 (UE a);rw[e]at l;let l:1=j-w.β:=l;lia
def GI{x j:υ}(e:z=(j:ψ)):(V.QB (Builtin.bitAnd ((x:ψ)/2^z.RW) 1)=V.QB 1)↔x.Vj j=ο:=by
 rw[e,UC,<-vB];show(V.QB.Tx,R7 _)
def Pe:ax w 0 j=w.Rp j:=ε
def nj{x y:υ}:V.QB (Builtin.bitOr (x:ψ) (y:ψ))=V.QB ((x ||| y:υ):ψ):=R7 V.QB vC
def Hy(e:z=(i:ψ))(h:i≤w.β):Am QKU z<*.QB (XD A w i:υ):=by
 rw[e];refine Av ?_;unfold b';rw[nq,Hx h];rfl
abbrev pQ QER QFZ(i k:υ):υ:=bn (λm=>∃j,i≤j/\j<k/\j≤m/\A QBS/\C (ax w j m)) QBE
def Pf:pQ A C w i i=0:=AJ λm _⟨j,h1,h2,_⟩=>by lia
def rQ(g:i≤j)(l:j≤w.β):pQ A C w i (j+1)=if (XD A w i).Vj j=ο then pQ A C w i j ||| XD C w j else pQ A C w i j:=by
 split
 .rename_i h;rw[z5]at h;refine(u0 λm _=>?_).ξ pq.QU;constructor
  .rintro⟨k,h1,h2,a,c,b⟩;by_cases e:k=j
   .subst e;show .RF (a,b)
   .exact .RB QPr
  .rintro (⟨k,h1,h2,a⟩|⟨h1,h2⟩)
   .exact QHw
   .exact QN8
 .rename_i h;rw[z5]at h;refine u0 λm _=>(λd=>by let⟨k,h1,h2,a,c,b⟩:=d;show(k,h1,υ.Wg (CW h2) λe=>h (l,g,e▸c),a,c,b),λf=>by let⟨k,h1,h2,a⟩:=f;show QHw)
def wc(k:i≤w.β):pQ A C w i QBE=XD (js A C) w i:=u0 λm g=>by
 constructor
 .rintro⟨j,h1,h2,c,b,a⟩;show(!6,7,jp h1 c,b,a)
 .rintro⟨h,x,v,e,h1,h2⟩;let⟨j,f,d,ε,ε⟩:=ph h (CW g) e;show(j,f,IT g d,d,h1,h2)
def mj:aI A u↔u=[]\/∃x v,u=x++v/\x≠[]/\A x/\aI A v:=by
 constructor
 .intro h;induction h with
  |Tw=>show .RB ε
  |@X2 x v h1 h2 a=>
   by_cases e:v=[]
   .subst e;rwa [UA]
   rcases a with ε|⟨y,z,ε,d,c,b⟩
   .exact .RF (v,[],!1,e,h2,.Tw)
   .exact .RF (y,z++v,Tt _ _ _,d,c,b.X2 h2)
 .rintro (rfl|⟨x,v,ε,_,h1,h2⟩)
  .exact .Tw
  .exact (aI.Uo h1).app h2
abbrev cc QBn QFZ(i k:υ):υ:=bn (λm=>m=i\/∃j,i<j/\j<k/\j≤m/\A QBS/\aI A (ax w j m)) QBE
def Pg QMA:cc A w i (i+1)=2^i:=((Cg (DF a)).ξ (u0 λm _=>(.RB,λh=>h.SG id λ⟨j,h1,h2,_⟩=>!6))).QU
def vI(g:i<j)(l:j≤w.β):cc A w i (j+1)=if (XD A w i).Vj j=ο then cc A w i j ||| XD QLC w j else cc A w i j:=by
 split
 .rename_i h;rw[z5]at h;refine(u0 λm _=>?_).ξ pq.QU;constructor
  .rintro (h|⟨k,h1,h2,a,c,b⟩)
   .exact .RB (.RB h)
   by_cases e:k=j
   .subst e;show .RF (a,b)
   .exact .RB (.RF QPr)
  .rintro ((h|⟨k,h1,h2,a⟩)|⟨h1,h2⟩)
   .exact .RB h
   .exact .RF QHw
   .exact .RF QN8
 .rename_i h;rw[z5]at h;show u0 λm _=>(λz=>z.imp_right λd=>by let⟨k,h1,h2,a,c,b⟩:=d;show(k,h1,υ.Wg (CW h2) λe=>h (l,Es g,e▸c),a,c,b),λz=>z.imp_right λf=>by let⟨k,h1,h2,a⟩:=f;show QHw)
def xV(l:i≤w.β):cc A w i QBE=XD QLC w i:=u0 λm b=>by
 rw[mj];constructor
 .rintro (rfl|⟨j,h1,h2,f,d,c⟩)
  .exact (QD _,.RB eY)
  .refine (!6,.RF (7,jp (Es h1) f,λz=>?_,d,c));have:=Hw (w:=w) (i:=i) (j:=j) (Es h1) (CW h2);rw[z]at this;have:0=j-i:=this;lia
 .rintro⟨h,a|⟨x,v,e,a,h1,h2⟩⟩
  .have:=Hw h (UE b);rw[a]at this;have:0=m-i:=this;show .RB (Iz this h)
  .obtain ⟨j,k,g,ε,ε⟩:=ph h (CW b) e;refine .RF (j,υ.Wg k λz=>a (by rw[<-z,eY]),IT b g,g,h1,h2)
open Classical in
abbrev agF QBn QFZ(i m x:υ):υ:=if x=i then cc A w i m else if i<x then XD QLC w x else 2^x
abbrev EW QBn QFZ(i m:υ):LN:=(γ.Q' QBE).QY (agF A w i m)
abbrev Hz QBn QFZ QKb:LN:=(γ.Q' QBE).QY λx=>if k≤x then XD QLC w x else 2^x
def J7{f g:υ->υ}(h:∀x,x<N->f x=g x):(γ.Q' N).QY f=(γ.Q' N).QY g:=γ.map_congr_left λx a=>h x (RN.mp a)
def wF{N v:υ}(h:∀x,x<N->g x=if x=i then v else f x):(b' ((γ.Q' N).QY f)).US i (.QB (v:ψ))=b' ((γ.Q' N).QY g):=by
 refine γ.Yv λx=>?_;rw[γ.getElem?_set];unfold b';rw[j',j',RC];by_cases a:x<N
 .rw [nq,nq,nq,nq,SI a];change _<*V.QB ((g x:υ):ψ);rw[h x a];by_cases e:x=i
  .subst e;rw[QC ε,QC a,QC ε]
  .rw [Fr (Ne.QU e),Fr e];rfl
 .let z:∀f:υ->υ,(((γ.Q' N).QY f).QY λ(n:υ)=>V.QB (n:ψ))[x]?=ζ:=λf=>TD (by rw[j',j',RC];show Ci a);rw[z,z];split
  .rename_i e;rw[Fr (!6)]
  .rfl
def FX:Hz A w QBE=(γ.Q' QBE).QY λx=>2^x:=J7 λx a=>Fr (Ja a)
def Ph:Hz A w 0=AR QLC w:=J7 λx _=>QC QDt
def Pi QMA:Hz A w (i+1)=EW A w i (i+1):=J7 λx _=>by
 unfold agF;by_cases e:x=i
 .rw [Fr (!6),QC e,Pg a,e]
 .rw [Fr e];rfl
def xY QMA:EW A w i QBE=Hz A w i:=J7 λx _=>by
 unfold agF;by_cases e:x=i
 .rw [QC e,xV a,QC (Jb e),e]
 .rw [Fr e];by_cases h:i<x
  .rw [QC h,QC (Es h)]
  .rw [Fr h,Fr (!6)]
def xX:(EW A w i m).β=w.β+1:=by unfold EW;rw[j',RC]
def vL{x:υ}(e:z=(x:ψ))(h:x≤w.β):Am (b' (EW A w i m)) z<*.QB (agF A w i m x:υ):=by
 rw[e];refine Av ?_;unfold b' EW;rw[nq,nq,SI (DF h)];rfl
def Pk:agF A w i m i=cc A w i m:=QC ε
def Pl(h:i<m):agF A w i j m=XD QLC w m:=by unfold agF;rw[Fr (!6),QC h]
def xW(h:cc A w i (m+1)=cc A w i m ||| XD QLC w m):(b' (EW A w i m)).US i (.QB ((cc A w i m ||| XD QLC w m:υ):ψ))=b' (EW A w i (m+1)):=wF λx _=>by
 unfold agF;by_cases e:x=i
 .rw [QC e,QC e,h]
 .rw [Fr e,Fr e,Fr e]
def vK(h:cc A w i (m+1)=cc A w i m):EW A w i m=EW A w i (m+1):=J7 λx _=>by unfold agF;rw[h]
abbrev pP QBn QFZ(i k:υ):υ:=bn (λj=>i≤j/\j<k/\fR A QBS) QBE
def Pm:pP A w i i=0:=AJ λm _⟨h1,h2,_⟩=>by lia
def rP(d:i≤j)(f:j≤w.β):pP A w i (j+1)=if (XD A w.Ru QNR).Vj (w.β-i)=ο then pP A w i j ||| 2^j else pP A w i j:=by
 let e:(XD A w.Ru QNR).Vj (w.β-i)=ο↔fR A QBS:=by
  rw[z5,xL d f,Te];show(λh=>h.2.2,λh=>(Lb,!2,h))
 split
 .rename_i h;rw[Cg (show j<w.β+1 from DF f)];refine(u0 λm _=>?_).ξ pq.QU;constructor
  .rintro⟨h1,h2,a⟩;by_cases z:m=j
   .exact .RF z
   .exact .RB (h1,Fp h2 z,a)
  .rintro (⟨h1,h2,a⟩|rfl)
   .exact (h1,GM h2,a)
   .exact (d,Rv _,e.mp h)
 .rename_i h;show u0 λm _=>(λc=>by let⟨h1,h2,a⟩:=c;show(h1,υ.Wg (CW h2) λz=>h (e.Sj (z▸a)),a),λb=>by let⟨h1,h2,a⟩:=b;show(h1,GM h2,a))
def wb:pP A w i QBE=XD (fR A) w i:=u0 λm a=>(λh=>(h.1,h.2.2),λh=>(h.1,a,h.2))
end
abbrev nM QBn QFZ ZC ZV:Prop:=∀QJP QAe,a_ H H'->H' p<*.QM QKU->Q Zh H'
def ii{d:St}{n:υ}(h:∀R:γ V->Hp->Prop,R [.QB (n:ψ)] H->t d H R)(m:n≤9000)(c:θ->υ->γ V->Hp->Prop)(l:∀D,H D=ζ->c D 0 [] (L2.QO H D (.QM [])))(j:∀(D:θ)(i:υ)(ys:γ V)(H':Hp)(f:VK)(R2:Hp->Prop),H D=ζ->i<n->a_ H H'->H' D<*.QM ys->c D i ys H'->
   (∀y e,e D<*.QM ys->a_ H (L2.QO e D ZM)->c D (i+1) QAv (L2.QO e D ZM)->f y e)->(∀a,a_ H a->a D<*.QM ys->c D (i+1) ys a->R2 a)->
   tt (δ (.QB (0+(i:ψ)))::d) H' λb a=>if b=ο then g (δ (.QB (0+(i:ψ)))::d) a f else R2 a)(k:∀D ys H',H D=ζ->a_ H H'->H' D<*.QM ys->c D n ys H'->Q (.ν D) H'):Ds (uH t) tt g d H Q:=
 h _ ((n:ψ),1,D8,!6,eZ (n:=n) c (nt (!6)) l j k)
def MA{k:St}(s:∀R:γ V->Hp->Prop,R [.ν c,.ν d] H->t k H R)(y:H c<*.QM QKU)(v:H d<*.QM (b' (AR C w)))(B:w.β≤5000)(u:∀Zi(g:Hp)(j:VK),i≤w.β->j (.QB (XD G w i:υ)) g->o (δ (.QB (XD A w i:υ))::δ (.QB (XD C w i:υ))::k) g j)(p:a_ H0 H)(q:nM G w H0 Q):cZ K (kG t) o k H Q:=by
 let n:∀{A:LN->Prop}QDJ{x:V},QKU[i]?<*x->i≤w.β/\x=.QB (XD A w i:υ):=λ{A i x}e=>by
  let h:=(m8 e).1;rw[d_,DA]at h;unfold b' at e;rw[nq,Hx (UE h)]at e;show(UE h,(χ.δ.Tx e).QU)
 refine NS (d1:=.ls c) (d2:=.ls d) s y v (by rw[d_,d_,DA,DA]) (λD i ys H'=>ys=(b' (AR G w)).Rp i) (by rw[d_,DA];show nt (!6)) (λD l=>!1) ?_ ?_
 .rintro D i x z ys H' g j l r hz f a ε b k1;let⟨m,ε⟩:=n r;let⟨_,ε⟩:=n hz;refine u i g j m (k1 _ g (b _ _ a) (a_.US (f.ξ b) l) (Bu ?_).QU);unfold b';rw[nq,Hx m];rfl
 .rintro D ys H' l f a ε;rw[d_,DA,RI (by rw[d_,DA];show QD _)]at a;show q D H' (p.ξ f) a
end RA
namespace L2
def CC QIp[Decidable c](a:¬ c)(h:A):if (!decide c)=ο then A else B:=by
 rw[QN a];show h
def rj ZZ QDs:B6 X (.Qu "len") (λxs H Q=>∃p ys,xs=[.ν p]/\(lb K H p ys\/pu K H p ys)/\Q (.QB ys.β) H):=by
 subst a;show Hc
def zT QNo[R_ b]QMK{s:ω}{x:η}{Rc:γ η}{ks:γ b}{k:b}(q:Rc.β=ks.β)(f:∀QEO QLU QG2,Sa.U6 A s Rc[j] x (decide QPA))(c:∀QKe(h1:i<Rc.β)(h2:j<Rc.β)(t:i<ks.β)(r:j<ks.β),Rc[i]=Rc[j]->ks[i]=ks[j]):∃e:η->Ω,(∀y∈Rc.Θ,Sa.U6 A s y x (e y))/\∀QEO QLU QG2,e Rc[j]=decide QPA:=by
 refine(λy=>@decide (∃(j:υ)(h1:j<Rc.β)(h2:j<ks.β),Rc[j]=y/\ks[j]=k) QDx,3,3);all_goals
  let a:∀QEO QLU QG2,@decide (∃(i:υ)(h1:i<Rc.β)(h2:i<ks.β),Rc[i]=Rc[j]/\ks[i]=k) QDx=decide QPA:=λj h1 h2=>by
   by_cases h:ks[j]=k
   .rw [Qr h];show @Qr _ QDx (j,h1,h2,1,h)
   .rw [QN h];show @QN _ QDx λd=>by let⟨i,n,m,p,o⟩:=d;show h ((c i j n h1 m h2 p).QU.ξ o)
 .intro y g;let⟨j,l,ε⟩:=Ry.Y7.mp g;let h1:j<Rc.β:=by simpa using l
  let h2:j<ks.β:=Ep h1 q
  let e:Rc.Θ[j]=Rc[j]:=by simp
  rw[e];show Eq.Sj (R7 (Sa.U6 A s Rc[j] x) (a j h1 h2)) (f j h1 h2)
 .exact a
def qO QQP[R_ d][BEq d][LawfulBEq d]QRI{a:γ Z_}{o:St}QE4{s:ω}{l b:θ}{Rc:γ η}{n:Tok}{ks:γ d}{k:d}{e:η->Ω}QTa(I:g_ X a o H s)(t:s.π.Δ l<*{SN:=.QH "list",RD:=.V8 Rc.Θ n})(hz:Rc.β≤Λ)(v:Rc.β=ks.β)(h1:∀y∈Rc.Θ,Sa.U6 X.A.Xq s y QCa (e y))(r:∀QEO QLU QG2,e Rc[j]=decide QPA)(u:k∈ks)(q:Q QR2 H):Cl Y9 X.A (Ub (.Qu "list.index") [.ν l,.ν b]) (EP X a o Q) X.xe s:=by
 let c:ks.QJ k<ks.β:=QE u;let h:((ks.QJ k:υ):ψ)<2^63-1:=by
  rw[Sw]at hz;lia
 refine call_meets VX (_,t,1) Ξ.F.entry_list_index (Ξ.F.args_list_index_2 _ _) (Sa.list_indexAt l Rc.Θ n ζ #[] QCa e (ks.QJ k) (by simpa[v]using c) h ?_ ?_) (t,h1,QB6)
 .let g:ks.QJ k<Rc.β:=AY c v
  rw[show Rc.Θ[ks.QJ k]' QSd=Rc[ks.QJ k] by simp,r _ g c,SE c];show Qr ε
 .intro m i f;let g:m<Rc.β:=by simpa using i
  let x:m<ks.β:=Ep g v
  rw[show Rc.Θ[m]=Rc[m] by simp,r m g x];refine QN λz=>?_;let y:=γ.not_of_lt_findIdx (xs:=ks) (p:=(·==k)) f;rw[z]at y;simp at y
end L2
namespace L2
open PySem.Spec PyProof.Rows
inductive QT ZC:υ->V->V->Ω->Prop
 |flat QE' {x y:V} {b:Ω} (fx:CL x=ο) (fy:CL y=ο) (h:Ey x y=b):QT H n x y b
 |st QE' QTp {q:θ} {ys:γ V} (h:H q<*.RJ ys):QT H n QHL QI_ μ
 |ts QE' QTp {q:θ} {ys:γ V} (h:H q<*.RJ ys):QT H n QI_ QHL μ
 |RJ QE' {p q:θ} QHe {b:Ω} (e:υ->Ω) QLn (hq:H q<*.RJ ys) QDS (hb:((γ.Q' QS6).Tk e&&xs.β==ys.β)=b) (hr:p=q->b=ο):QT H (n+1) Zh QI_ b
 |QM QE' {p q:θ} QHe {b:Ω} (e:υ->Ω) (hp:H p<*.QM xs) (hq:H q<*.QM ys) (hl:xs.β=ys.β) QDS (hb:(γ.Q' xs.β).Tk e=b) (hr:p=q->b=ο):QT H (n+1) Zh QI_ b
section
variable{X:Cx}{QF:γ Z_}{σ:St}{H:Hp}{s:ω}
def HA(r:ae xs Rc)(h:j<Rc.Θ.Qw):∃x,xs[j]?=δ x/\af x Rc.Θ[j]:=by
 let l:=r.β;let b:j<xs.β:=by simp at h;show AY h l
 let⟨a,d,c⟩:=r.get (i:=j) (h_ b);refine(_,h_ b,3);let⟨_,z⟩:=m8 d;rw[γ.getElem_toArray,z];show c
def QT.at Y_(h:QT H n x y b):∀QMK{u v:η},af x u->af y v->A.S3+n<UV->Sa.U6 A s u v b:=by
 induction h with
 |flat M L h=>show λd c _=>h▸C_ d c M L
 |st h=>
  rintro A u v⟨t,ε⟩c m;cases c;let⟨Rc,r,pl,hz⟩:=I.T7 QR3;show Sa.U6.str_tuple _ _ pl (Rw QKM m)
 |ts h=>
  rintro A u v d⟨t,ε⟩m;cases d;let⟨Rc,r,pl,hz⟩:=I.T7 QR3;show Sa.U6.tuple_str _ _ pl (Rw QKM m)
 |@RJ n p q xs ys b e hp D h E C o=>
  intro A u v d c m;cases d;cases c;by_cases a:p=q
  .rw [C a,a];show Sa.U6.SL _
  let⟨Rc,i,g,B⟩:=I.T7 QQp;let⟨l,k,f,w⟩:=I.T7 (pu.of (K:=X.K) D);let z:=Sa.RcAt.tuples (A:=A) (e:=e) g f (IC m) λj h1 h2=>by
   let⟨x,G,d⟩:=HA i h1;let⟨y,F,c⟩:=HA k h2;show o j x y G F d c (by rw[Qo.Vw];show IG m)
  rw[QZ,QZ,<-i.β,<-k.β,E]at z;show Sa.U6.of_refs a z
 |@QM n p q xs ys b e hp D J h E C o=>
  intro A u v d c m;cases d;cases c;by_cases a:p=q
  .rw [C a,a];show Sa.U6.SL _
  let⟨Rc,i,g,B⟩:=I.U0 (lb.of (K:=X.K) hp);let⟨l,k,f,w⟩:=I.U0 (lb.of (K:=X.K) D);let z:=Sa.RcAt.lists (A:=A) (e:=e) g.UZ f.UZ (by rw[QZ,QZ,<-i.β,<-k.β,J]) (IC m) λj h1 h2=>by
   let⟨x,G,d⟩:=HA i h1;let⟨y,F,c⟩:=HA k h2;show o j x y G F d c (by rw[Qo.Vw];show IG m)
  rw[QZ,<-i.β,E]at z;show Sa.U6.of_refs a z
inductive rNeQ(x:V)(y:V)ZC ZV:Prop
 |mk QBM QPS (_:(x=.UT/\y=.UT/\b=ο)\/(n≤60/\(∃p q xs ys,x=.ν p/\y=.ν q/\H p=δ QCY/\H q<*.RJ ys)/\QT H n x y b)) (_:Q (.bl !b) H)
def td(E:X.A.S3+64<UV):Ad X (Sv .NotEq) rNeQ:=by
 intro QF s σ H x y v u Q I d c h;obtain⟨n,b,⟨rfl,ε,ε⟩|⟨G,⟨p,q,xs,ys,ε,ε,hp,o⟩,h⟩,k⟩:=h
 .cases d;cases c;show Sa.RcNeAt.none_none _ _ _ _ (.bl _,H,I,1,k)
 .cases h with
  |flat B=>cases B
  |@RJ n _ _ xs ys _ e hp o h w F=>
   cases d;cases c;let⟨Rc,l,g,t⟩:=I.T7 QQp;let⟨m,i,f,r⟩:=I.T7 (pu.of (K:=X.K) o);let z:=Sa.RcNeAt.tuples (A:=X.A) (e:=e) g f (IM E) λj h1 h2=>by
    let⟨x,D,d⟩:=HA l h1;let⟨y,C,c⟩:=HA i h2;show(h j x y D C).at I d c (by rw[Qo.Vw];lia)
   rw[QZ,QZ,<-l.β,<-i.β,w]at z;show z _ _ _ _ (.bl _,H,I,1,k)
  |QM e a=>rw[hp]at a;cases a
end
end L2
namespace RA
open L2
def aE.qt:∀{d:υ}{x y:V},aE H d x y->QT H d x y ο:=by
 let fl:∀{d:υ}{x:V},eU x=ο->QT H d x x ο:=λ{d x}h=>by
  let f:CL x=ο:=by cases x<;>first|rfl|cases h
  show .flat f f (eV f)
 let Tk:∀n,(γ.Q' n).Tk QOx=ο:=λn=>RE.Sj λ_ _=>rfl;intro d;induction d with
 |V5=>rintro x y⟨rfl,h⟩;show fl h
 |Vf d c=>
  rintro x y (⟨rfl,h⟩|⟨p,q,xs,ys,ε,ε,⟨h1,h2⟩|⟨h1,h2⟩,e,_,h⟩)
  .exact fl h
  .exact .RJ QOx h1 h2 QJl (by rw[Tk,e,T_];rfl) λ_=>rfl
  .exact .QM QOx h1 h2 e QJl (Tk _) λ_=>rfl
abbrev FY ZC:υ->V->Prop
 |0,_=>Rl
 |n+1,v=>(∃x,v=.Qn x)\/∃p xs,v=.ν p/\H p=δ QCY/\xs.β≤3/\∀x∈xs,FY H n x
def Pn:∀QE'{u w:V},FY H n u->FY H n w->∃b,QT H n u w b/\(b=ο->aE H n u w):=by
 intro n;induction n with
 |V5=>show λh=>h.SG
 |Vf n g=>
  rintro u w (⟨x,ε⟩|⟨p,xs,ε,hp,l1,h1⟩) (⟨y,ε⟩|⟨q,ys,ε,d,l2,h2⟩)
  .exact (_,.flat ε ε ε,λz=>.RB (R7 V.Qn (WU z),1))
  .exact (_,.st d,λz=>nomatch z)
  .exact (_,.ts hp,λz=>nomatch z)
  .let k:∀j:υ,∃b:Ω,∀x y,xs[j]?<*x->ys[j]?<*y->QT H n x y b/\(b=ο->aE H n x y):=λj=>by
    cases A:xs[j]? with
    |ζ=>show(ο,λx y z=>nomatch z)
    |δ x=>
     cases t:ys[j]? with
     |ζ=>show(ο,λx y _ z=>nomatch z)
     |δ y=>
      let⟨b,s⟩:=g (h1 x (v7 A)) (h2 y (v7 t));show(b,λ_ _ r o=>by cases r;cases o;show s)
   let⟨e,m⟩:=VH.axiomOfChoice k;by_cases f:p=q
   .subst f;rw[hp]at d;cases d;let lk:∀QE'{v:V},FY H n v->aE H n v v:=by
     intro n;induction n with
     |V5=>show λh=>h.SG
     |Vf n g=>
      rintro v (⟨x,ε⟩|⟨p,xs,ε,hp,l1,h1⟩)
      .exact .RB (1,1)
      .exact .RF (p,p,xs,xs,5,.RB (hp,hp),1,F8 l1,λi x y c a=>by rw[c]at a;cases a;show g (h1 x (v7 c)))
    let l:aE H (n+1) Zh Zh:=lk (.RF (p,xs,1,hp,l1,h1));show(ο,aE.qt l,λ_=>l)
   .refine (_,.RJ e hp d (λj x y c a=>(m j x y c a).1) ε λz=>QG z f,λz=>?_);rw[Sx,RE,Ua]at z;refine .RF (p,q,xs,ys,5,.RB (hp,d),z.2,F8 l1,λi x y c a=>(m i x y c a).2 (z.1 i (RN.Sj ?_)));let C:=(m8 c).1;let B:=(m8 a).1;lia
def Ac QE4:∀{n m:υ}{v:V},FY H n v->n≤m->FY H m v
 |0,_,_,h,_=>h.SG
 |n+1,0,_,_,h=>QG h (υ.not_succ_le_zero n)
 |n+1,m+1,_,.RB h,_=>.RB h
 |n+1,m+1,_,.RF ⟨p,xs,e,hp,l,h⟩,k=>.RF (p,xs,e,hp,l,λx a=>Ac (h x a) (υ.le_of_succ_le_succ k))
def Bq QE4:∀QIc{v:V},ah H t v->FY H (t.WX+1) v
 |.TR _,_,⟨a,e,h⟩=>.RF (a,_,e,h,by change 1≤3;decide,λx b=>by rw[wh b];show .RB QAy)
 | .Um _,_,⟨a,e,h⟩=>.RF (a,_,e,h,by change 2≤3;decide,λx b=>by
   rcases QW.mp b with ε|b
   .exact .RB QAy
   .rw [wh b];show .RB (_,ε))
 | .Uo _ t,_,⟨a,u,e,h,c⟩=>.RF (a,_,e,h,by change 2≤3;decide,λx b=>by
   rcases QW.mp b with ε|b
   .exact .RB QAy
   .rw [wh b];show Bq c)
 | .Vb _ t t',_,⟨a,u,w,e,h,c,hw⟩=>.RF (a,_,e,h,by change 3≤3;decide,λx b=>by
   rcases QW.mp b with ε|b
   .exact .RB QAy
   rcases QW.mp b with ε|b
   .exact Ac (Bq c) (U4 QFT)
   .rw [wh b];show Ac (Bq hw) (U4 (υ.le_max_right _ _)))
def CV QLn(d:H q<*.RJ ys)(h:aE H n Zh QI_):∃m,xs.β=ys.β/\∀Zi QLW,xs[i]?<*x->ys[i]?<*y->aE H m x y:=by
 cases n with
 |V5=>cases h.2
 |Vf n=>
  rcases h with⟨_,z⟩|⟨j,g,c,b,a,f,⟨h1,h2⟩|⟨h1,h2⟩,e,_,h⟩
  .cases z
  .cases a;cases f;rw[hp]at h1;rw[d]at h2;cases h1;cases h2;show(n,e,h)
  .cases a;rw[hp]at h1;cases h1
def Ii(h:aE H n QHL (.Qn y)):x=y:=by
 cases n with
 |V5=>show V.Qn.Tx h.1
 |Vf n=>
  rcases h with⟨z,_⟩|⟨_,_,_,_,z,_⟩
  .exact V.Qn.Tx z
  .cases z
def Po:(∀k k',FT k=FT k'->k=k')/\(∀k k',Dn k=Dn k'->k=k')/\(∀k k',CS k=CS k'->k=k')/\∀k,Dn k≠"sign":=by
 refine(3,3,3,3)
 .intro k k' h;cases k<;>cases k'<;>first|rfl|show QG h (!3)
 .intro k k' h;cases k<;>cases k'<;>first|rfl|show QG h (!3)
 .intro k k' h;cases k<;>cases k'<;>first|rfl|show QG h (!3)
 .intro k;cases k<;>decide +kernel
def HB:∀{t t':Pt}{u w:V}QE',ah H t u->ah H t' w->aE H n u w->t=t':=by
 intro t;let⟨s,n1,r,ns⟩:=Po;induction t with
 |TR k=>
  rintro(k'|c|⟨k',x⟩|⟨k',x,y⟩) u w n⟨p,ε,hp⟩h l
  .obtain ⟨q,ε,a⟩:=h;let⟨m,_,h⟩:=CV hp a l;rw[s _ _ QDy]
  .obtain ⟨q,ε,a⟩:=h;let⟨m,z,_⟩:=CV hp a l;cases z
  .obtain ⟨q,_,ε,a,_⟩:=h;let⟨m,z,_⟩:=CV hp a l;cases z
  .obtain ⟨q,_,_,ε,a,_⟩:=h;let⟨m,z,_⟩:=CV hp a l;cases z
 |Um c=>
  rintro(k'|A|⟨k',x⟩|⟨k',x,y⟩) u w n⟨p,ε,hp⟩h l
  .obtain ⟨q,ε,a⟩:=h;let⟨m,z,_⟩:=CV hp a l;cases z
  .obtain ⟨q,ε,a⟩:=h;let⟨m,_,h⟩:=CV hp a l;let z:=rL (Ii QLD);cases z;rfl
  .obtain ⟨q,_,ε,a,_⟩:=h;let⟨m,_,h⟩:=CV hp a l;show QG (Ii (h 0 _ _ ε ε)).QU (ns _)
  .obtain ⟨q,_,_,ε,a,_⟩:=h;let⟨m,z,_⟩:=CV hp a l;cases z
 |Uo k x b=>
  rintro(k'|c|⟨k',y⟩|⟨k',y,i⟩) u w n⟨p,o,ε,hp,g⟩h l
  .obtain ⟨q,ε,a⟩:=h;let⟨m,z,_⟩:=CV hp a l;cases z
  .obtain ⟨q,ε,a⟩:=h;let⟨m,_,h⟩:=CV hp a l;show QG QDy (ns _)
  .obtain ⟨q,uy,ε,a,e⟩:=h;let⟨m,_,h⟩:=CV hp a l;rw[n1 _ _ QDy,b g e QLD]
  .obtain ⟨q,_,_,ε,a,_⟩:=h;let⟨m,z,_⟩:=CV hp a l;cases z
 |Vb k x v b ih'=>
  rintro(k'|c|⟨k',y⟩|⟨k',y,i⟩) u w n⟨p,o,j,ε,hp,g,f⟩h l
  .obtain ⟨q,ε,a⟩:=h;let⟨m,z,_⟩:=CV hp a l;cases z
  .obtain ⟨q,ε,a⟩:=h;let⟨m,z,_⟩:=CV hp a l;cases z
  .obtain ⟨q,_,ε,a,_⟩:=h;let⟨m,z,_⟩:=CV hp a l;cases z
  .obtain ⟨q,uy,uy',ε,a,e,d⟩:=h;let⟨m,_,h⟩:=CV hp a l;rw[r _ _ QDy,b g e QLD,ih' f d (h 2 _ _ ε ε)]
def sk QE4:∀QIc{v:V},ah H t v->∃p xs,v=.ν p/\H p<*.RJ xs
 |.TR _,_,⟨a,e,h⟩=>(a,_,e,h)
 |.Um _,_,⟨a,e,h⟩=>(a,_,e,h)
 |.Uo _ _,_,⟨a,_,e,h,_⟩=>(a,_,e,h)
 |.Vb _ _ _,_,⟨a,_,_,e,h,_⟩=>(a,_,e,h)
def Pp(c:ah H t u)(hw:ah H t' w)(h1:t.WX≤12)(h2:t'.WX≤12):∃b,(b=ο->t=t')/\((u=.UT/\w=.UT/\b=ο)\/(13≤60/\(∃p q xs ys,u=.ν p/\w=.ν q/\H p=δ QCY/\H q<*.RJ ys)/\QT H 13 u w b)):=by
 let⟨b,q,e⟩:=Pn (Ac (Bq c) (U4 h1)) (Ac (Bq hw) (U4 h2));let⟨p,xs,i,h⟩:=sk c;let⟨d,a,g,f⟩:=sk hw;show(b,λz=>HB c hw (e z),.RF (!0,(p,d,xs,a,i,g,h,f),q))
abbrev Ij ZC:υ->V->Prop
 |0,_=>Rl
 |n+1,v=>(∃x,v=.Qn x)\/(∃z,v=.QB z)\/∃p xs,v=.ν p/\H p=δ QCY/\xs.β≤3/\∀x∈xs,Ij H n x
def FY.sm QE4:∀QE'{v:V},FY H n v->Ij H n v
 |0,_,h=>h
 |_+1,_,.RB h=>.RB h
 |_+1,_,.RF ⟨p,xs,e,hp,l,h⟩=>.RF (.RF (p,xs,e,hp,l,λx a=>(h x a).sm))
def xp QLn(d:H q<*.RJ ys)(h:aE H (n+1) Zh QI_):xs.β=ys.β/\∀Zi QLW,xs[i]?<*x->ys[i]?<*y->aE H n x y:=by
 rcases h with⟨_,z⟩|⟨j,g,c,b,a,f,⟨h1,h2⟩|⟨h1,h2⟩,e,_,h⟩
 .cases z
 .cases a;cases f;rw[hp]at h1;rw[d]at h2;cases h1;cases h2;show(e,h)
 .cases a;rw[hp]at h1;cases h1
def cF(h:aE H (n+1) x y)(a:(∀p,x≠.ν p)\/∀q,y≠.ν q):x=y:=by
 rcases h with⟨z,_⟩|⟨p,q,_,_,c,b,_⟩
 .exact z
 .exact a.SG (λz=>QG c (z p)) λz=>QG b (z q)
def zB ZZ:UJ K (.QH "tuple") (.QH "str")<*μ:=by kernel_rfl
def zC ZZ:UJ K (.QH "tuple") (.QH "int")<*μ:=by kernel_rfl
def xw ZZ:UJ K (.QH "int") (.QH "str")<*μ:=by kernel_rfl
def AQ.app{R:Pt->V->Prop}{ys:γ V}{us:γ Pt}(h':AQ R ys us):∀QBN QKR,AQ R xs ts->AQ R QRE (ts++us)
 |[],[],_=>h'
 |_::_,_::_,h=>(h.1,AQ.app h' h.2)
abbrev rp(t:Ω)QBM:V:=if t=ο then .QB (n:ψ)else .bl (n==1)
def J8:CL (rp t n)=ο:=by cases t<;>rfl
def sL QQq:Ey (rp t a) (rp t b)=decide (a=b):=by
 cases t with
 |ο=>
  change ((a:ψ)==(b:ψ))=_;rw[Ω.TV,Ua,decide_eq_true_iff];show ψ.ofNat_inj
 |μ=>
  let⟨h1,h2⟩:=h ε;match a,b,h1,h2 with
  |0,0,_,_=>rfl
  |0,1,_,_=>rfl
  |1,0,_,_=>rfl
  |1,1,_,_=>rfl
abbrev Lo(t:Ω)(f:LN):Prop:=t=μ->∀x∈f,x≤1
def zx(hp:H p<*.QM (a.QY QJm))(k:H q<*.QM (b.QY QJm))(c:a.β=b.β)(h:Lo t a)(g:Lo t b)(i:p=q->a=b):QT H 1 Zh QI_ (decide (a=b)):=by
 refine .QM (λj=>decide (a.Φ j 0=b.Φ j 0)) hp k (by rw[j',j',c]) (λj x y f d=>?_) ?_ λz=>Qr (i z)
 .rw [nq]at f d;let⟨m,h1,ε⟩:=AS f;let⟨l,h2,ε⟩:=AS d;rw[n0,n0,h1,h2];show .flat J8 J8 (sL λz=>(h z _ QNA,g z _ (v7 h2)))
 .let e:=xU 0 a b;rw[c,υ.min_self,T_,Ω.and_true]at e;rw[j',c];show e
abbrev En ZC(t:Ω)QUV(v:V):Prop:=∃a l,v=.ν a/\H a=δ QN9/\H l=δ QR4/\Lo t (k.1::k.2)
def sK QQq(e:rp t a=rp t b):a=b:=by
 let z:=sL h;rw[e,eV J8]at z;show ST z.QU
def iG{t:Ω}:∀QPU,Lo t a->Lo t b->a.QY QJm=b.QY QJm->a=b
 |[],[],_,_,_=>rfl
 |[],_::_,_,_,e=>nomatch e
 |_::_,[],_,_,e=>nomatch e
 |x::a,y::b,d,c,e=>by
  let⟨g,f⟩:=γ.Rx.Tx e;rw[sK (λz=>(d z x Rh,c z y Rh)) g,iG (λz x h=>d z x QKV) QPs f]
def oK(h:En H t k v)(h':En H t k' v):k=k':=by
 let⟨a,l,ε,h1,h2,b⟩:=h;let⟨n,m,e,f,d,c⟩:=h';cases e;rw[h1]at f;let⟨j,i⟩:=γ.Rx.Tx (HO.RJ.Tx (χ.δ.Tx f));let g:=V.ν.Tx (γ.Rx.Tx i).1;subst g;rw[h2]at d;show Y0.ext (sK (λz=>(b z _ Rh,c z _ Rh)) j) (iG (λz x h=>b z x QKV) QPs (HO.QM.Tx (χ.δ.Tx d)))
def Pq(h:En H t k v)(h':En H t k' i)(m:k.2.β=k'.2.β):QT H 2 v i (decide (k=k')):=by
 let⟨a,l,ε,h1,h2,f⟩:=id h;let⟨q,p,ε,o,c,g⟩:=id h';let l1:Lo t k.2:=λz x h=>f z x QKV;let l2:Lo t k'.2:=λz x h=>g z x QKV;refine .RJ QDT h1 o (λj x y b d=>?_) ?_ λz=>Qr (oK h (z▸h'))
 .match j with
  |0=>cases b;cases d;show .flat J8 J8 (sL λz=>(f z _ Rh,g z _ Rh))
  |1=>
   cases b;cases d;show zx h2 c m l1 l2 λz=>by
    subst z;rw[h2]at c;show iG l1 l2 (HO.QM.Tx (χ.δ.Tx c))
  |n+2=>simp at b
 .change (([0,1]:LN).Tk QDT&&ο)=_;let e:decide (k=k')=(decide (k.1=k'.1)&&decide (k.2=k'.2)):=by
   rw[Ω.TV,Sx,SX,SX,SX];show(λz=>by rw[z];show(1,1),λz=>Y0.ext z.1 z.2)
  rw[e];simp
end RA
namespace L2
open RA
inductive rIndexK(x:V)ZF ZC ZV:Prop
 |mk (l:θ) (y:V) (t:Ω) QBI (ks:γ (υ×LN)) QUV QIZ (_:vs=[y]) QLm (_:xs.β=ks.β) (_:∀Zi(k':υ×LN)(v:V),ks[i]?<*k'->xs[i]?<*v->En H t k' v/\k'.2.β=k.2.β) (_:En H t k y) (_:k∈ks) (_:Q QR2 H)
def qB(Y:X.A.S3+64<UV):HM X "list.index" rIndexK:=by
 intro D s U H x vs v us Q I p g h;let⟨l,y,t,xs,ks,k,ε,ε,F,O,B,E,N,q⟩:=h;cases p;let⟨u,ε,L⟩:=g.Uo;let⟨z,Rc,n,r,_,e⟩:=I.lstM F;let c:Rc.β=ks.β:=by rw[<-r.β,O]
 let d:∀QEO QLU QG2,∃v,xs[j]?=δ v/\af v Rc[j]/\En H t ks[j] v/\ks[j].2.β=k.2.β:=λj h1 h2=>by
  let⟨x,G,p⟩:=HA r (j:=j) QHN;show(x,G,p,B j _ x (h_ h2) G)
 let⟨b,_,S,_⟩:=id E;subst S;cases L;let⟨f,h1,h2⟩:=zT (A:=X.A.Xq) (s:=s) (x:=.ν b) (k:=k) c (λj h1 h2=>by
  let⟨v,_,g,o,M⟩:=d j h1 h2;show(Pq o E M).at I g ε (by rw[Qo.Vw];lia)) λi j h1 h2 R P e=>by
  let⟨v,_,g,o,_⟩:=d i h1 R;let⟨W,_,w,m,_⟩:=d j h2 P;let⟨a,_,ε,_⟩:=id o;let⟨T,_,ε,_⟩:=id m;let C:Rc[i]=.ν a:=g;let J:Rc[j]=.ν T:=w;rw[e,J]at C;cases C;show oK o m
 show qO I e (by rw[<-r.β];show(I.QM F).XL.XL.2.2) c h1 h2 N q
end L2
namespace RA
open PySem.Spec PyProof.Rows L2
def HD{c a:T6}{T id:Xx}(K:Qt)(k:PlainAttrs T)(h:Slot T So id)(j:typeOf (.Qu id)=pure (.QH "method_descriptor"))(n:L2.HM X id r)(m:L2.PE X o to)(p:L2.PA X (e::g) t)(q:(X.K=K)>>>4)(f:(Uj o So X.QA (SR o X.QA)=SR o X.QA)>>>4)(i:(((SJ a (Ψ (e::g) X.QA)).Tk (λx=>!x.1)&&(Ya a (WP [] X.QA)).Tk (λx=>x.1.Vg)
   && decide ((e::g).β+([]:γ Xe).β+(if ([]:γ Xe).Xd then 0 else 1)<30))=ο)>>>4)(d:((c.endLine==a.XI)=ο)>>>4)(l:(Ψ (e::g) X.QA=(μ,SR e X.QA,)::Ψ g X.QA)>>>4)(b:((SJ a (Ψ g X.QA)).VA (·.1)=μ)>>>4):L2.PE X (.Tl (.TH o So c) (e::g) [] a) (L2.BK K T r to t):=by
 subst q;show L2.Bn k h j n m p f i d l b
abbrev Ik ZC(D:θ)(t:Ω)QUV(v:V):Prop:=∃a l,v=.ν a/\H a=δ QN9/\H l=δ QR4/\Lo t (k.1::k.2)/\l≠D
def Ik.ky QE4{D:θ}{t:Ω}QUW{v:V}:Ik H D t k v->En H t k v
 |⟨a,l,e,h1,h2,b,_⟩=>(a,l,e,h1,h2,b)
def En.SL QG5{t:Ω}QUW{v:V}QA5:En H t k v->En H' t k v
 |⟨a,l,e,h1,h2,b⟩=>(a,l,e,s _ _ h1,s _ _ h2,b)
def Ik.US QG5{D:θ}{t:Ω}QUW{v:V}QHe QA5(b:H' D<*.QM xs):Ik H D t k v->Ik (L2.QO H' D QAk) D t k v
 |⟨a,l,e,h1,h2,c,n⟩=>(a,l,e,by rw[b_ (λz=>by let y:=s _ _ h1;rw[z,b]at y;cases y)];show s _ _ h1,by rw[b_ n];show s _ _ h2,c,n)
def oj(f:LN):f.QY (rp ο)=b' f:=ε
def j0:∀B:γ Ω,(B.QY Ω.RW).QY (rp μ)=B.QY V.bl
 |[]=>rfl
 |b::B=>by
  rw[Tq,Tq,Tq,j0 B];cases b<;>rfl
def rW(h:b a H λv e=>Ds (JB λ_ d R=>R v d) tt c a e Q):Ds (JB b) tt c a H Q:=h
end RA
namespace L2
open RA
abbrev off:υ->υ
 |0=>0
 |i+1=>off i+(8-i)
abbrev DB ZC Zp(D:υ->υ->LN->Prop)(ta:γ θ)QKe:Prop:=∀a b,a<b->b<9->(a<i\/(a=i/\b<i+1+j))->
 ∃(t:θ)(u:LN),ta[off a+(b-a-1)]?=δ t/\H t=δ (.RJ [.QB (a:ψ),.QB (b:ψ),.Qn (tx u)])/\ZK/\u.β≤2100/\D a b u
section
variable{H H':Hp}{L:LN}{D D':υ->υ->LN->Prop}{ta:γ θ}{i j:υ}
def tQ:∀i,off i≤8*i
 |0=>QD _
 |i+1=>by have:=tQ i;change off i+(8-i)≤_;lia
def DB.Ti(h:DB H L D ta i j)Z7(e:∀a b u,a<b->b<9->ZK->D a b u->D' a b u):DB H' L D' ta i j:=λa b ab d g=>by
 let⟨t,u,h1,h2,f,l,k⟩:=h a b ab d g;show(t,u,h1,s _ _ h2,f,l,e a b u ab d f k)
def DB.snoc(h:DB H L D ta i j)(m:ta.β=off i+j)(g:H t<*.RJ [.QB (i:ψ),.QB QCV,.Qn (tx u)])(f:∀c∈u,c∈L)(hz:u.β≤2100)(k:D i QNS u):DB H L D (ta++[t]) i (j+1):=λa b ab l n=>by
 by_cases e:a=i/\b=i+1+j
 .obtain ⟨rfl,ε⟩:=e;refine(t,u,3,g,f,hz,k);rw[show off a+(a+1+j-a-1)=ta.β by lia];show kL _ _
 .obtain ⟨t',d,h1,h2⟩:=h a b ab l (!6);show(t',d,by rw[QS (m8 h1).1];show h1,h2)
def DB.next(h:DB H L D ta i (8-i)):DB H L D ta (i+1) 0:=λa b ab c d=>h a b ab c (!6)
end
abbrev P9 ZC QMP(pt:V)Zp(S:LN->Prop):Prop:=∃(D tl:θ)(vs:LL)(ta:γ θ),H d=δ (AW d [("words",.ν D,),("tails",.ν tl,),("part",pt,)])/\H D=δ (.QM (ms vs))/\H tl=δ (.QM QPB)/\vs.β=9/\ta.β=36/\(∀v∈vs,QDk/\v.β≤2100)/\
 DB H L (λa b u=>¬ (S (vs.Φ a []++u)↔S (vs.Φ b []++u))) ta 9 0
def P9.SL(h:P9 H d c L S)QA5:P9 H' d c L S:=by
 let⟨D,a,vs,b,h1,h2,j,i,g,f,e⟩:=h;show(D,a,vs,b,s _ _ h1,s _ _ h2,s _ _ j,i,g,f,e.Ti (λ_ _=>s _ _) λ_ _ _ _ _ _ z=>z)
def zX QQP[R_ d]{g:d->υ->d}QRU{s:d}{ks:γ d}{ws:LL}{n k:υ}(h:Bf g L s ks ws n k):∀QEO(b:LN),ws[j]?<*b->b.β≤j:=by
 intro j;induction j using υ.strongRecOn with
 |_ j f=>
  intro b e;rcases h.par j b e with ε|⟨p,q,a,hp,i,ε,_⟩
  .exact RP _
  .let hpj:p<j:=by
    rcases UD p j with c|c|c
    .exact c
    .rw [c,e]at hp;have:=R7 γ.β (χ.δ.Tx hp);simp at this
    .have:=Hh (h.srt j p _ _ c e hp);simp at this;lia
   have:=f p hpj a hp;rw[u4];change a.β+1≤j;show Jd hpj this
def jE QN6 QCN(e:R.β=ks.β)(f:hI L R Bm)(b:ws[i]?<*v):QDk/\SZ L R 0 v=i/\v.β≤2100:=by
 let h:=cR d a e b;let h1:=zX d i v b;let h2:=(m8 b).1;let j:=f.n60;rw[<-d.Sr,<-e]at h2;show(h.1,h.2,!6)
inductive ml(XU:θ)QC_(op:LN->QGb->LN->Prop)ZF ZC ZV QD8:Prop
 |mk QP0 Zp QCF Zg QHx QAx QB8 QP2 QDl (_:∀d H',KT ts H H'->P9 H' d .UT L (op L QMg)->E QGc QEm H') (_:∀QDo(W':LL)QHG QAe,KT ts H H'->Mc H' f L W' B'->QHX->Lg L W' B'=op L QMg->Q Ze H')
inductive ca(XU:θ)QC_(op:QGb->QGb->LN->Prop)ZF ZC ZV QD8:Prop
 |mk QPV Zp QJ5 QEQ QGl QIr QMs QH0 (_:hI L W2 B2) QOG QOH QDl (_:∀d H',KT ts H H'->P9 H' d .UT L (op QCP QEk)->E QGc QEm H') (_:∀QDo(W':LL)QHG QAe,KT ts H H'->Mc H' f L W' B'->QHX->Lg L W' B'=op QCP QEk->Q Ze H')
end L2
namespace RA
open L2
def J9(d:bj ZG m)(c:hI L R Bm)QAl:Lg L QA_ QGC=Lg L R Bm:=cb λu=>(λ⟨a,b⟩=>(a,(Ma d c st a).QU.ξ b),λ⟨a,b⟩=>(a,(Ma d c st a).ξ b))
abbrev Pt.Td:Pt->γ Pt
 |.TR k=>[.TR k]
 |.Um c=>[.Um c]
 |.Uo k x=>.Uo k x::x.Td
 |.Vb k x y=>.Vb k x y::(x.Td++y.Td)
def Pt.self QDR:t∈t.Td:=by cases t<;>show Rh
def Pt.Vc:∀t:Pt,t.Td.β=t.sz
 |.TR _=>rfl
 |.Um _=>rfl
 |.Uo _ x=>R7 (·+1) x.Vc
 |.Vb _ x y=>by
  change (x.Td++y.Td).β+1=x.sz+y.sz+1;rw[u4,x.Vc,y.Vc]
def Pt.parts_dep:∀{t p:Pt},p∈t.Td->p.WX≤t.WX
 |.TR _,_,h=>by rw[wh h];show QD _
 |.Um _,_,h=>by rw[wh h];show QD _
 |.Uo _ x,_,h=>by
  rcases QW.mp h with ε|z
  .exact QD _
  .exact Vd QNT
 |.Vb _ x y,_,h=>by
  rcases QW.mp h with ε|z
  .exact QD _
  .rcases Rr.mp z with z|z
   .exact Vd (LE QNT QFT)
   .exact Vd (LE QNT QGH)
def HE(h:r<36):∃a b,a<b/\b<9/\off a+(b-a-1)=r:=by
 let Tk:(γ.Q' 36).Tk (λr=>(γ.Q' 9).VA λa=>(γ.Q' 9).VA λb=>decide (a<b)&&off a+(b-a-1)==r)=ο:=by decide +kernel
 let z:=RE.mp Tk r (RN.Sj h);let⟨a,_,z⟩:=WZ.mp z;let⟨b,c,z⟩:=WZ.mp z;rw[Sx,SX,Ua]at z;show(a,b,z.1,RN.mp c,z.2)
abbrev D5 Zp QDR:Prop:=∀p∈t.Td,∃W B,hI L W B/\W.β≤8/\Lg L W B=aj L p
def D5.Uo(h:D5 L x)QRD(l:W.β≤8)(e:Lg L W B=aj L QPC):D5 L QPC:=λp hp=>by
 rcases QW.mp hp with ε|z
 .exact (W,B,m,l,e)
 .exact h p z
def D5.Vb(h:D5 L x)(h':D5 L y)QRD(l:W.β≤8)(e:Lg L W B=aj L QHY):D5 L QHY:=λp hp=>by
 rcases QW.mp hp with ε|z
 .exact (W,B,m,l,e)
 .exact (Rr.mp z).SG (h p) (h' p)
def uq QQr:∀t,aj L t=aj d t:=by
 let o:∀u,Wd L u↔Wd d u:=λu=>(λh c i=>(e c).mp (h c i),λh c i=>(e c).Sj (h c i));let g:∀f S m,(∀c,c∈S↔c∈m)->CT L f S=CT d f m:=λf S m n=>cb λu=>by
  unfold CT;show or_congr Iff.rfl (λl=>by let⟨c,a,b,z⟩:=l;show(c,(e c).mp a,(n c).mp b,z),λj=>by let⟨c,a,b,z⟩:=j;show(c,(e c).Sj a,(n c).Sj b,z))
 intro t;induction t with
 |TR k=>cases k<;>first|show g _ _ _ λ_=>Iff.rfl|show g _ _ _ e
 |Um c=>show g _ _ _ λ_=>Iff.rfl
 |Uo k x p=>
  change KW L k QKS=KW d k (aj d x);rw[p];cases k with
  |Uf=>show cb λu=>and_congr (o u) Iff.rfl
  |_=>rfl
 |Vb k x y ih1 ih2=>
  change KY k QKS (aj L y)=KY k (aj d x) (aj d y);rw[ih1,ih2]
def zc{f:υ->υ}(h:∀a,a<9->f a<8):∃a b,a<b/\b<9/\f a=f b:=by
 refine VH.VZ λn=>?_;let g:((γ.Q' 9).QY f).Rq:=by
  rw[γ.nodup_iff_pairwise_ne,γ.pairwise_map,γ.pairwise_iff_getElem];intro i j k e d z;rw[RC]at k e;rw[γ.getElem_range,γ.getElem_range]at z;show n (i,j,d,e,z)
 have:=kr g (b:=γ.Q' 8) λc l=>by
  let⟨a,m,ε⟩:=Su.mp l;show RN.Sj (h a (RN.mp m))
 rw[j',RC,RC]at this;show QG this (!0)
def _root_.L2.P9.no(h:P9 H d y L S)(VJ:∀c,c∈L->c∈g)(n:hI g W B)(q:W.β≤8)(e:Lg g W B=S):Rl:=by
 let⟨D,w,vs,x,_,_,_,v,_,s,r⟩:=h;let k:∀a,a<9->Wd g QPD:=λa l c i=>by
  rw[n0,h_ (by rw[v];show l)]at i;show VJ c ((s _ (RY _)).1 c i)
 let⟨a,b,ab,j,z⟩:=zc (f:=λa=>SZ g W 0 QPD) λa l=>LT (B9 n n.n1 (k a l)) q;let⟨t,u,_,_,p,_,o⟩:=r a b ab j (.RB (TL ab j));let m:Wd g u:=λc i=>VJ c (p c i);refine o ?_;rw[<-e];refine and_congr (iff_of_true (d_T.Sj (k a (TL ab j),m)) (d_T.Sj (k b j,m))) ?_;unfold AX;rw[u6,u6];let z:SZ g W 0 QPD=SZ g W 0 (vs.Φ b []):=z;rw[z]
abbrev MB Zp QDR:Prop:=∃p∈t.Td,∀(L':LN)QCF Zg,(∀c,c∈L->c∈L')->hI L' W B->W.β≤8->Lg L' W B=aj L p->Rl
def MB.no(h:MB L t)(e:∀c,c∈L↔c∈a)(s:D5 a t):Rl:=by
 let⟨p,hp,h⟩:=h;let⟨W,B,m,l,g⟩:=s p hp;show h a W B (λc=>(e c).mp) m l (g.ξ (uq e p).QU)
def BL.rev(h:BL L):BL L.Ru:=(by rw[Te];show h.lo,by rw[Te];show h.hi,γ.pairwise_reverse.Sj (h.nd.imp λz=>Ne.QU z),λc a=>h.az c (WJ.mp a))
abbrev Dp ZC Zp QDR(x:V):Prop:=(x=.UT/\MB L t)\/∃(f:θ)(W:LL)(B:γ Ω),x=.ν f/\Mc H f L W B/\QFD/\Lg L W B=aj L t/\D5 L t
def Dp.kt QTI QG5 QRU QIc{x:V}QDw:Dp H L t x->Dp H' L t x
 |.RB h=>.RB h
 |.RF ⟨f,W,B,e,m,h⟩=>.RF (f,W,B,e,m.kt k,h)
def Dp.US QE4{D:θ}QRU QIc{x:V}QTf(a:H D<*.QM ys):Dp H L t x->Dp QTJ L t x
 |.RB h=>.RB h
 |.RF ⟨f,W,B,e,m,h⟩=>.RF (f,W,B,e,m.US a,h)
def Dp.both QQr(h:Dp H L t x)(h':Dp H d t y):(x=.UT/\y=.UT)\/∃f W B g a i,x=.ν f/\y=.ν g/\Mc H f L W B/\Mc H g d a i/\QFD/\(∃v,Az d a i v)/\Lg L W B=aj L t/\Lg d a i=aj d t:=by
 rcases h with⟨rfl,b⟩|⟨f,W,B,ε,m,n,l,s⟩
 .rcases h' with⟨rfl,_⟩|⟨_,_,_,_,_,_,_,s⟩
  .exact .RB (1,1)
  .exact (b.no e s).SG
 .rcases h' with⟨rfl,b⟩|⟨g,a,i,ε,j,cn',k,_⟩
  .exact (b.no (λc=>(e c).QU) s).SG
  .exact .RF (f,W,B,g,a,i,5,m,j,n,cn',l,k)
def Bd.kt{c:Kd->θ}QTI QG5 QDw:∀QIc{v:V},Bd c H t v->Bd c H' t v
 |.TR _,_,⟨a,dx,e,b⟩=>(a,dx,e,k.sm _ _ ZA b)
 |.Um _,_,⟨a,dx,e,b⟩=>(a,dx,e,k.sm _ _ ZA b)
 |.Uo _ x,_,⟨a,dx,u,e,b,d⟩=>(a,dx,u,e,k.sm _ _ ZA b,Bd.kt k (t:=x) d)
 |.Vb _ x y,_,⟨a,dx,u,w,e,b,d,f⟩=>(a,dx,u,w,e,k.sm _ _ ZA b,Bd.kt k (t:=x) d,Bd.kt k (t:=y) f)
section
variable{L:LN}{W:LL}{B:γ Ω}{v:υ->LN}
def wt:∀{a:LN},a≠[]->∃b c,a=b++[c]:=λ{a}h=>(a.Xw,a.Ys h,(Se h).QU)
def Az.from'(d:Az L W B v)(s:0<j)(o:j<W.β):∃r p,r<j/\p<L.β/\Tf W r p=j/\v j=v r++[L.Φ p 0]:=by
 let⟨f,a⟩:=d.fs.Xm j o;let h:v j≠[]:=λz=>by rw[z]at a;show QG a (RH s)
 let⟨b,c,e⟩:=wt h;rw[e]at f a;let i:∀x∈b,x∈L:=λx g=>f x (U1 _ g);let q:c∈L:=f c (!1);let m:=B9 d.VB (w:=b) d.VB.n1 i;let⟨l,n⟩:=d.fs.Xm _ m;let hp:=QE q;let u:L.Φ QAV 0=c:=by rw[n0,h_ hp];show SE hp
 let t:Tf W QGL QAV=j:=by rw[u6]at a;show a
 let k:b=v QGL:=by
  let l1:=d.fs.least b i;rcases LS i l with z|z|z
  .rw [z]at l1;cases l1
  .exact z
  .let l2:=d.fs.least (v QGL++[c]) (λx g=>(Rr.mp g).SG (l x) λy=>f x (Rj _ y));rw[u6,n]at l2;let A:SZ L W QGL [c]=j:=by rw[u6]at a;show a
   rw[A,e]at l2;rw[BF c c z]at l2;cases l2
 refine(SZ L W 0 b,L.QJ c,3,hp,t,by rw[u,<-k];show e);rcases UD QGL j with z|z|z
 .exact z
 .have:=R7 γ.β e;rw[<-z,<-k,u4]at this;simp at this
 .let l1:=d.fs.lt j _ z m;rw[<-k,e]at l1;have:=Hh l1;rw[u4]at this;show QG this (by change ¬ b.β+1≤b.β;lia)
structure Sn Zp QCF QPl(r k s:υ):Prop where
 RX:0<s
 le:s≤W.β
 Tk:∀r' p,p<L.β->Tf W r' p<W.β->v (Tf W r' p)=v r'++[L.Φ p 0]->(r'<r\/(r'=r/\p<k))->Tf W r' p<s
def Sn.V5(a:Az L W B v):Sn L W v 0 0 1:=(υ.one_pos,a.VB.n1,λ_ _ _ _ _ h=>h.SG (λz=>QG z (XG _)) λz=>QG z.2 (XG _))
def Sn.room(g:Az L W B v)(h:Sn L W v r 0 s)(c:r<W.β):r<s:=by
 by_cases e:r=0
 .rw [e];show h.RX
 .obtain ⟨f,p,a,b,ε,d⟩:=g.from' (υ.pos_of_ne_zero e) c;show h.Tk f p b c d (.RB a)
def Sn.next(h:Sn L W v r L.β s):Sn L W v (r+1) 0 s:=(h.RX,h.le,λe p a b c d=>h.Tk e p a b c (d.SG (λz=>(υ.lt_succ_iff_lt_or_eq.mp z).imp id λz=>(z,a)) λz=>QG z.2 (XG _)))
def Sn.step(i:Az L W B v)(h:Sn L W v r k s)(A:r<W.β)(j:k<L.β):Tf W r k≤s/\Sn L W v r (k+1) (max s (Tf W r k+1)):=by
 let u:=BA i.VB A j;refine(3,LT h.RX QFT,υ.max_le.Sj (h.le,u),λg p a b c d=>?_)
 .refine SU λf=>?_;let o:s<W.β:=TL f u;let⟨g,p,a,b,e,d⟩:=i.from' h.RX o;let w:¬ (g<r\/(g=r/\p<k)):=λz=>by
   have:=h.Tk g p b (by rw[e];show o) (by rw[e];show d) z;rw[e]at this;show WL _ this
  let⟨D,C⟩:=i.fs.Xm r A;let m:∀q,q<L.β->L.Φ q 0∈L/\L.QJ (L.Φ q 0)=q:=λq t=>by
   rw[n0,h_ t];show(RY t,i.VB.lt.nd.idxOf_getElem q t)
  let l:=i.fs.least QJB (λx E=>(Rr.mp E).SG (D x) λy=>by rw[wh y];show(m k j).1);let F:SZ L W 0 QJB=Tf W r k:=by
   rw[u6,C];change AE L W r _=_;rw[FH,(m k j).2]
  rw[F]at l;let l2:=i.fs.lt s _ f u;let n:zg L QJB (v s)=ο:=by
   rw[d];rcases UD r g with z|z|z
   .exact BF _ _ (i.fs.lt r g z (TL a o))
   .subst z;rcases UD k p with y|y|y
    .exact Cr (by rw[(m k j).2,(m p b).2];show y)
    .subst y;rw[e]at f;show QG f QOJ
    .exact QG (.RF (1,y)) w
   .exact QG (.RB z) w
  rw[AG n l2]at l;cases l
 .rcases d with z|⟨z,y⟩
  .exact LT (h.Tk g p a b c (.RB z)) QFT
  .rcases υ.lt_succ_iff_lt_or_eq.mp y with y|y
   .exact LT (h.Tk g p a b c (.RF (z,y))) QFT
   .rw [z,y];show LT (Rv _) QGH
def uF{c:Type}[BEq c][LawfulBEq c]{l:γ c}{a b:c}(f:a∈l)QTv:a=b:=by
 let hp:=QE f;let d:l.QJ b<l.β:=h▸hp;let e:l[l.QJ a]=l[l.QJ b]:=by simp only[h]
 rw[<-SE hp,e,SE d]
abbrev fl QCF Zg:υ->LN
 |0=>B.QY Ω.RW
 |k+1=>(BP W QBj).QY λx=>(BP W QBj).QJ x
def vc QAA:∀k,(fl W B k).β=W.β
 |0=>by rw[fl,j',h.bl]
 |k+1=>by rw[fl,j',Cq]
def kQ(a:i<W.β):(fl W B (k+1)).Φ i 0=(BP W QBj).QJ (BX W QBj i):=by
 rw[fl,n0,nq,FG a];rfl
def ji QAA:∀{k i j:υ},i<W.β->j<W.β->((fl W B k).Φ i 0=(fl W B k).Φ j 0↔m_ W B k i=m_ W B k j)
 |0,i,j,a,b=>by
  rw[Jz h a b,fl];let g:∀i,i<W.β->(B.QY Ω.RW).Φ i 0=(B.Φ i μ).RW:=λi a=>by
   rw[n0,nq,n0,h_ (by rw[h.bl];show a)];rfl
  rw[g i a,g j b];cases B.Φ i μ<;>cases B.Φ j μ<;>simp
 |k+1,i,j,a,b=>by
  rw[kQ a,kQ b,ED h a b];let c:BX W QBj i=BX W QBj j↔m_ W B k i=m_ W B k j/\∀p<L.β,m_ W B k (Tf W i p)=m_ W B k (Tf W j p):=by
   rw[BX,BX,Y0.mk.injEq,ji h a b];let⟨f,_⟩:=B_ h a;let⟨d,_⟩:=B_ h b;refine and_congr Iff.rfl (λe p hp=>?_,λe=>γ.Yv λp=>?_)
   .refine (ji h (BA h a hp) (BA h b hp)).mp ?_;have:=R7 (λl=>l[p]?) e;simp only[nq]at this;rw[h_ QPE,h_ QPF]at this;rw[Tf,Tf,n0 (l:=W.Φ i []),n0 (l:=W.Φ j []),h_ QPE,h_ QPF];show χ.δ.Tx this
   .by_cases hp:p<L.β
    .have:=(ji h (BA h a hp) (BA h b hp)).Sj (e p hp);rw[Tf,Tf,n0 (l:=W.Φ i []),n0 (l:=W.Φ j []),h_ QPE,h_ QPF]at this;rw[nq,nq,h_ QPE,h_ QPF];show R7 δ this
    .rw [nq,nq,TD (Er f hp),TD (Er d hp)]
  rw[<-c];show(λe=>uF (v7 (FG a)) e,λe=>by rw[e])
def wH QAA:∃k,k≤W.β/\Rd W B (k+1)=Rd W B k:=by
 refine VH.VZ λn=>?_;have:=Kt h (k:=W.β+1) (λi a z=>n (i,UE a,z)) (W.β+1) Zs;lia
def Az.sep(a:Az L W B v)(c:i<W.β)(b:j<W.β)(e:m_ W B W.β i=m_ W B W.β j):i=j:=by
 let⟨k,f,st⟩:=wH a.VB;show a.un c b λu d=>JA a.VB c b Zs d (oG a.VB st (Kr a.VB c b f e) c b u.β)
def zS(b:Az L W B v):fl W B W.β=γ.Q' W.β:=by
 obtain⟨n,c⟩:∃n,W.β=n+1:=(W.β-1,by have:=b.VB.n1;lia);refine YC (by rw[vc b.VB,RC]) λi h1 h2=>?_;rw[RC]at h2;rw[γ.getElem_range];let g:(fl W B W.β)[i]=(fl W B W.β).Φ i 0:=by rw[n0,h_ h1];rfl
 rw[g,c,kQ h2];let d:BX W QGd i∈BP W QGd:=v7 (FG h2);let hp:=QE d;let a:=hp;rw[Cq]at a;let f:=SE hp;let e:BX W QGd ((BP W QGd).QJ (BX W QGd i))=BX W QGd i:=by
  have:=FG (S0:=fl W B n) a;rw[h_ hp,f]at this;show(χ.δ.Tx this).QU
 refine b.sep a h2 ?_;rw[c,<-ji b.VB a h2,kQ a,kQ h2,e]
end
def j4:∀QBM(z:LN),z.β=n->((γ.Q' n).QY λi=>n-1-i).WR (λj=>z[j]?)=z.Ru
 |0,z,h=>by
  obtain ε:z=[]:=Sq.mp h;rfl
 |n+1,z,h=>by
  obtain⟨ys,c,ε⟩:∃ys c,z=ys++[c]:=(z.Xw,z.Ys (by intro e;rw[e]at h;simp at h),(Se _).QU);let d:ys.β=n:=by simpa using h
  rw[γ.range_succ_eq_map,Tq,map_map];let m:(ys++[c])[n+1-1-0]?<*c:=by rw[υ.add_sub_cancel,υ.sub_zero,<-d];simp
  rw[Uw,m,γ.reverse_append];change c::_=c::ys.Ru;rw[<-j4 n ys d];congr 1;rw[γ.filterMap_map,γ.filterMap_map];let b:∀QGk,(∀i∈l,i<n)->l.WR QEn=l.WR QKW:=by
   intro l;induction l with
   |Tw=>intro _;rfl
   |Rx i l f=>
    intro a;let k:i<n:=a i (!1);let e:(ys++[c])[n+1-1-(i+1)]?=ys[n-1-i]?:=by
     rw[show n+1-1-(i+1)=n-1-i by lia,QS (Lc k d)]
    rw[Uw,Uw];rw[show QEn i=QKW i from e,f (λj g=>a j (by simp[g]))]
  show b (γ.Q' n) (λi a=>RN.mp a)
end RA
namespace L2
open PySem.Spec PyProof.Rows RA
def dH(z:LN)(a:Tok):(if (((δ ((-1:ψ),a,):χ (ψ×Tok)).QY Z9).Φ 1==1&&(slicePicked QR5 ζ ζ QPG).β==(tx z).β)=ο then tx z else⟨((slicePicked QR5 ζ ζ QPG).WR QUB).Θ⟩)=tx z.Ru:=by
 rw[Fr (!1)];let e:slicePicked QR5 ζ ζ QPG=(γ.Q' z.β).QY λi=>z.β-1-i:=by
  unfold slicePicked Builtin.QL.Y5 sliceRange;simp only[χ.map_none,χ.map_some,χ.getD_some,hF];let b:¬ ((-1:ψ)>0):=by decide
  rw[Fr b,Fr b,Fr b];by_cases d:z.β=0
  .rw [d];rfl
  .rw [QC (!6),show((((z.β:υ):ψ)-1 - -1 - -1-1)/(- -1)).RW=z.β by simp];refine γ.map_congr_left λi c=>?_;have:=RN.mp c;lia
 rw[e];let f:((γ.Q' z.β).QY λi=>z.β-1-i).WR QUB=z.Ru:=by
  rw[<-j4 z.β z ε];congr 1;funext j;show B8 z j
 rw[f];rfl
section
variable{X:Cx}{RX:T6}{e:SF}{te:TE}
abbrev Pr QNq(ts:TO):TE:=λσ H Q=>te σ H λx H1=>ts σ H1 λst H2=>∃z:LN,x=.Qn QR5/\st=δ (-1)/\z.β≤16777216/\Q (.Qn (tx z.Ru)) H2
def wP{st:SF}(C:PE X e te)(B:PO X (δ st) ts):PE X (.Xh e QPH RX) (Pr te ts):=by
 intro a s d H Q I h;refine Subscript_ (oh (C a s d H _ I h) λv n j=>?_);let⟨x,M,L,o,p⟩:=j;refine wpAny_Slice ?_;rw[evalPart_none];refine i_ (i_ (oh (B a n d M _ L p) λvu c g=>?_));let⟨u,m,J,r,z,D,E,hz,q⟩:=g;subst D E;let⟨t,ε⟩:=o;cases r with
 |QB i f=>
 let G:g_ X a d m {c with π:=c.π.Ra {SN:=.QH "slice",RD:=.R5 #[.ζ,.ζ,.QB (-1) f]} }:=J.WE (t':=c.Qs) λb N z=>ol _ z;change Cl Y9 X.A (subscriptTail e QPH (.Qn QR5 t) (.ν c⁻¹)) (EP X a d Q) X.xe {c with π:=c.π.Ra {SN:=.QH "slice",RD:=.R5 #[.ζ,.ζ,.QB (-1) f]} };refine tail_any (ops:=[.Qn QR5 t,.ν c⁻¹]) (Yf _ _ _) Ξ.F.W4.ρ ?_ QAQ;refine VE (l:=ζ) (u:=ζ) (st:=δ (-1,f,)) QBB ε (XR (3,λt' k=>?_))
 .rw [dH,hF,Te];show nt hz
 .rw [dH];show(.Qn _,m,G.X0 k,(t',1),q)
end
end L2
section
seal L2.PE L2.PS L2.Bk L2.PA L2.PI L2.PG L2.PT L2.FE L2.Kk L2.PW L2.PX
namespace K36
open L2 RA
abbrev sB Zi:Rb:=Ξ.Challenge.pw_roomalgebra_k36_a_patterns_machine.main.body.Φ i QA4
instance Q0:QL:="machine"
instance Q3:QL:="letters"
instance Q4:QL:="rooms"
instance Q5:QL:="things"
instance Q6:QL:="words"
instance Q7:QL:="is_marked"
instance Q8:QL:="walk"
instance Z0:QL:="goals_of"
instance Z1:QL:="ways"
instance Z2:QL:="marks"
instance Z4:QL:="room"
instance Be:Rb:=sB 18
instance EX:Rb:=sB 19
instance vW:Rb:=sB 0
instance yX:Rb:=sB 17
instance Il:Rb:=Ch yX 0
structure GJ ZZ Z3(cW fI:θ)(fdI:TQ):Prop where
 kW:mg "Walk"<*.ν cW
 SN:CI K cW
 mkW:Mk K cW fI
 na1:Ae K cW Q3
 na2:Ae K cW Q5
 na3:Ae K cW Q6
 na4:Ae K cW Z1
 na5:Ae K cW Z2
 ini:so K "__init__" "Walk.__init__" Il fI fdI
def sF:s_ ["self",Q3,"start"] ["self",Q3,"start"] (hY Il):=v5
def tJ(p:GJ K mg l fI fdI):aa P w K mg ς na 1 fI fdI ["self",Q3,"start"] (rY l):=by
 refine p.ini.ok sF ZE (λU' A Id s H vs Q E Y h=>?_)
 .obtain ⟨x,dx,L,v,ε,_⟩:=h;rfl
 .obtain ⟨x,dx,L,v,ε,S,q⟩:=h;refine(_,(hJ (Fz (f:=Q3) Y' ZD ε) (hJ (Fz (f:=Q5) Y' (Bb QGM) ε) (hJ (Fz (f:=Q6) Y' (Bb (mq u5)) ε) (hJ (Fz (f:=Z1) Y' QGN ε) (h7 (Fz (f:=Z2) Y' QGN ε)))))),3);refine(4,x,l,dx,0,S,p.SN,p.na1,!0,3);refine(0,nt (by change 1≤16777216;decide),λt D=>(0,x,l,dx,0,yl SO D,p.SN,p.na2,Rw (VY (show _=1 from ε)) (!0),3));let c:t≠x:=λz=>by rw[z,SO]at D;cases D
  refine(nt (by change 1≤16777216;decide),λi d=>(0,x,l,dx,0,yl SO d,p.SN,p.na3,Rw (VY (show _=2 from ε)) (!0),3));let u:i≠x:=λz=>by rw[z,SO]at d;cases d
  refine(RP _,λy r=>(0,x,l,dx,0,yl SO r,p.SN,p.na4,Rw (VY (show _=3 from ε)) (!0),3));let B:y≠x:=λz=>by rw[z,SO]at r;cases r
  refine(RP _,λm k=>(0,x,l,dx,0,yl SO k,p.SN,p.na5,Rw (VY (show _=4 from ε)) (!0),3));let C:m≠x:=λz=>by rw[z,SO]at k;cases k
  let j:t≠i:=λz=>by rw[<-z,b_ c,SO]at d;cases d
  let ty:t≠y:=λz=>by rw[<-z,b_ c,b_ j,b_ c,SO]at r;cases r
  let J:t≠m:=λz=>by rw[<-z,b_ c,b_ ty,b_ c,b_ j,b_ c,SO]at k;cases k
  let F:i≠y:=λz=>by rw[<-z,b_ u,SO]at r;cases r
  let I:i≠m:=λz=>by rw[<-z,b_ u,b_ F,b_ u,SO]at k;cases k
  let G:y≠m:=λz=>by rw[<-z,b_ B,SO]at k;cases k
  let M:∀b,b≠x->b≠m->b≠y->b≠i->b≠t->H b=QO (QO (QO (QO (QO (QO (QO (QO (QO H x (.XO l dx (al Q3 QAW []))) t (.QM [v])) x (.XO l dx (al Q5 QBZ (al Q3 QAW [])))) i (.QM [.Qn (tx [])])) x (.XO l dx QB7)) y QBD) x (.XO l dx (al Z1 QP4 QB7))) m QBD) x (.XO l dx (al Z2 QGD (al Z1 QP4 QB7)))  b:=λb h1 h2 X W U=>by
   rw[b_ h1,b_ h2,b_ h1,b_ X,b_ h1,b_ W,b_ h1,b_ U,b_ h1]
  let g:∀Zz QHg,H b<*o->∀QHz,H a=ζ->b≠a:=λ{b o}e{a}n=>f' e n;let R:H t=ζ:=by rw[b_ c]at D;show D
  let O:H i=ζ:=by rw[b_ u,b_ (Ne.QU j),b_ u]at d;show d
  let N:H y=ζ:=by rw[b_ B,b_ (Ne.QU F),b_ B,b_ (Ne.QU ty),b_ B]at r;show r
  let fm:H m=ζ:=by rw[b_ C,b_ (Ne.QU G),b_ C,b_ (Ne.QU I),b_ C,b_ (Ne.QU J),b_ C]at k;show k
  refine q t i y m _ j ty J F I G R O N fm (λb o T e=>?_) ⟨(dx,SO)⟩ ?_ ?_ ?_ ?_
  .rw [<-e];show(M b T (g e fm) (g e N) (g e O) (g e R)).QU
  .rw [b_ c,b_ J,b_ c,b_ ty,b_ c,b_ j,b_ c,SO]
  .rw [b_ u,b_ I,b_ u,b_ F,b_ u,SO,<-eX]
  .rw [b_ B,b_ G,b_ B,SO]
  .rw [b_ C,SO]
def c_i:s_ [Q3,"start",Z0,Q7,"most",Q8,Q4,Z4,"goals","row","letter","goal"] [Q3,"start",Z0,Q7,"most"] QJC:=v5
def J_{P:IO}QE8 QCI QEN{ς:Qx}{X fI f fg fm:θ}(F:lL K "walked" "walked" Be f fd)(J:GJ K mg X fI fdI)(ap:mg "len"=ζ)(cv:mg "zip"=ζ)(Fg:aa P w K mg ς na 4 fg fdg [gx] (HZ Y L g U aC))(Fm:aa P w K mg ς na 4 fm ee [mx] (bG Y mk U aC))(de:ς.Δ fg<*og)(dd:∃b0,og.RD=.VL b0)(dc:ς.Δ fm<*om)(da:∃b0,om.RD=.VL b0)(bg:ym K fdg [gx] [])(bm:ym K ee [mx] [])(bd:∀H H':Hp,a_ H H'->aC H->aC H'):aa P w K mg ς na 5 f fd [Q3,"start",Z0,Q7,"most"] (H_ X Y L g mk U aC fg fm):=by
 let⟨oc,od,et,sl⟩:=og;let⟨b0,ε⟩:=dd;let⟨eq,ep,ek,eo⟩:=om;let⟨ej,ε⟩:=da;refine F.ok c_i ZE QAX
 .obtain ⟨s,sv,G,ε,_⟩:=h;rfl
 .obtain ⟨s0,sv,G,ε,hL,hsv,hsU,d0,hU,hR0,q⟩:=h;let dr:=hr.Ti (j:=2) (!0);refine(_,(hJ (n_ 5 c_i.nd (FA J.mkW (tJ J) dr ε J.kW (J.ini.binds (ps:=["self",Q3,"start"]) (λ_ _ _ _ _ _ us hl=>by let⟨_,_,_,ε⟩:=Mq hl;rfl)) .Tw BV QFE)) (EA (n_ 6 c_i.nd (wO hr.S3 ZD c_)) (hJ (j8 R6.TW (AT dN QFU QEH QAq) (EA (q_ ((bL (AT wS QAr Gr QAq) (cq (AT b9 QEH QAr QAq))).pt) (h7 (ka)) (ri)) (hJ (n_ 7 c_i.nd QFU) (hJ (n_ 8 c_i.nd (JE Fg hr de bg ZO QTL)) (hJ (n_ 9 c_i.nd QGN) (hJ (A_ R6.TW ε (HX ε cv (q4 Y' (pv 8))) (dI ε (Ev (As 10 c_i.nd) (Ev (As 11 c_i.nd) Jq))) (EA (q_ (AT (qj hr.S3) QJD QCQ QAQ) (hJ (BC QEH (C7 QCQ QJD (pZ hr.S3))) (hJ (C6 (EQ QBO QJD)) (h7 (C6 (EQ QQs (o5 DJ (z7 QQs QIM) QJE)))))) (ri)) (h7 (C6 (EQ (pv 9) (l' (uA hr.S3) QCQ QJD ZL)))))) (hJ (C6 (EQ (Bt (f:=Z1) QCC ε) (pv 9))) (h7 (C6 (EQ (Bt (f:=Z2) QCC ε) (JE Fm hr dc bm Zd QTL))))))))))) (h7 (ln QCC))))),3);let tn:∀Zz QHg,H b<*o->∀{c:θ},H c=ζ->b≠c:=λ{b o}e{c}n=>f' e n;refine(4,λD dx cf c1 es=>(D,dx,L,sv,1,SO,λt wd y md H1 a1 a2 a3 a4 a5 a6 ft fw fy ed kp hW ht cD hy cP=>(1,3)));let fr:∀Zz,QO (QO H dx (.own D)) D (.XO X dx []) b=ζ->H b=ζ:=λ{b}e=>by
   by_cases h1:b=D
   .rw [h1];show cf
   .rw [b_ h1]at e;by_cases h2:b=dx
    .rw [h2];show c1
    .rw [b_ h2]at e;show e
  let s1:a_ H H1:=λb o e=>kp b o (tn e cf) (by rw[b_ (tn e cf),b_ (tn e c1)];show e);let ab:Ai Y H1 s0 sv:=hsv.SL λb xs e=>s1 _ _ e;let az:∀QMP(H2:Hp),H1 d=ζ->z8 P w H2 d Y [s0]->(∀b o,H1 b<*o->H2 b<*o)->WI P w H H2 X Y L D t wd y md d [s0] [sv] [[]] [] [] []:=λd H2 hd dp s2=>by
   let ne:∀Zz QHg,H1 b<*o->d≠b:=λ{b o}e z=>by rw[<-z,hd]at e;cases e
   let⟨I,ew⟩:=hW.ex;show(s1.ξ s2,(I,s2 _ _ ew),s2 _ _ ht,(rfl,λi k v h1 h2=>by
    match i,h1,h2 with
    |0,h1,h2=>cases h1;cases h2;show ab.SL λb xs e=>s2 _ _ e
    | i+1,h1,_=>simp at h1),s2 _ _ cD,s2 _ _ hy,(1,λi a r h1=>by simp at h1),s2 _ _ cP,dp,fr ft,fr fw,fr fy,fr ed,Hj s1 hd,a1,a2,a3,a4,a5,a6,ne ht,ne cD,ne hy,ne cP,ne ew,λa ha=>by simp at ha)
  refine⟨λbt H'=>∃d,bt=[δ QAW,δ sv,δ QNU,δ QNV,δ (dU G),δ Z5,δ QCk,ζ,ζ,ζ,ζ,ζ]/\WI P w H H' X Y L D t wd y md d [s0] [sv] [[]] [] [] [],?_,?_⟩
  .refine (Y,λd hd=>(0,SO,3));let up:∀{ob cw:HO}(b:θ)(o:HO),H1 b<*o->QO (QO H1 d ob) d cw b<*o:=λ{ob cw}b o e=>by
    rw[Jn];show yl e hd
   by_cases bT:Y=.i
   .rw [bT]at ab az⊢;unfold Ai at ab;rw[QC ε]at ab;let⟨n,ε,ε⟩:=ab;refine .RB (6,d,1,az d _ hd ?_ up);unfold z8;rw[QC ε];show(SO,λt ht=>(n,wh ht))
   .let hsv2:=ab;unfold Ai at hsv2;rw[Fr bT]at hsv2;let⟨b,ε,hb⟩:=hsv2;let hT:∀{ob:HO},(dK P w Y).kin (QO H1 d ob) (zs s0) b:=λ{ob}=>(hb.SL λb xs e=>yl e hd).kin;refine .RF (bT,b,zs s0,1,hT,d,1,az d _ hd ?_ up);unfold z8;rw[Fr bT];refine(_,SO,λx hx=>?_,1,λi k x h1 h2=>?_)
    .rw [wh hx,Jn];show hT
    .match i,h1,h2 with
     |0,h1,h2=>cases h1;cases h2;show(1,1)
     |i+1,h1,_=>simp at h1
  rintro en H2⟨d,ε,ea⟩;let c4:∀QDQ{ks:LL}{T:γ V}{ws:LL}{C:γ θ}{R:LL}QHP,WI P w H H' X Y L D t wd y md d ks T ws C R B->Cw g L s0 mk U ks ws R B 0->(R.β=ks.β\/∃n,G=δ n/\n<ks.β)->Q Z5 H':=λO hP he=>
   q D t wd y md _ _ _ _ _ _ _ O.sm O.YQ O.ht O.th O.hw O.hy O.wr O.hm hP.bf hP.ways hP.bl hP.mks hP.VJ (LE QGv hP.left) he
  refine⟨λn bt H'=>∃ks T ws C R B s7 s8 s9 aM aH,n=U.β-γ.β R/\bt=[δ QAW,δ sv,δ QNU,δ QNV,δ (dU G),δ Z5,δ QCk,s7,s8,s9,aM,aH]/\WI P w H H' X Y L D t wd y md d ks T ws C R B/\Cw g L s0 mk U ks ws R B 0,(_,[s0],[sv],[[]],[],[],[],ζ,ζ,ζ,ζ,ζ,5,ea,Cw.WG hsU),?_⟩;rintro n bt H3⟨ks,T,ws,C,R,B,s7,s8,s9,aM,aH,ε,ε,O,hP⟩;let⟨I,ew⟩:=O.YQ.ex;let cl:(C.QY V.ν).β=R.β:=by rw[j',O.wr.1]
  let bS:T.β=ks.β:=O.th.1;let ei:ks.β≤U.β:=LE QGv hP.left;refine(0,D,X,I,9,ew,J.SN,J.na4,1,y,0,.RB (lb.of O.hy),0,D,X,I,9,ew,J.SN,J.na2,1,t,0,.RB (lb.of O.ht),2,0,aO (λag=>?_) (λag=>?_));case _=>
   rw[cl,bS]at ag;let ag:R.β<ks.β:=ψ.ofNat_lt.mp ag;refine⟨λaS H4=>∃ks T ws C R' B s7 s8 s9 aM aH,R'.β=R.β+1/\aS=[δ QAW,δ sv,δ QNU,δ QNV,δ (dU G),δ Z5,δ QCk,s7,s8,s9,aM,aH]/\WI P w H H4 X Y L D t wd y md d ks T ws C R' B/\Cw g L s0 mk U ks ws R' B 0,?_,?_⟩
   .rintro aS H4⟨m,l,N,ce,R',B',u7,u8,u9,u10,u11,hR',dk,hI',hP'⟩;show(U.β-R'.β,by rw[hR'];lia,m,l,N,ce,R',B',u7,u8,u9,u10,u11,1,dk,hI',hP')
   obtain⟨k0,co⟩:∃k0,ks[R.β]?<*k0:=(ks[R.β],h_ ag);obtain⟨v0,cI⟩:∃v0,T[R.β]?<*v0:=(T[R.β]'(by rw[bS];show ag),h_ _);obtain⟨a0,d6⟩:∃a0,ws[R.β]?<*a0:=(ws[R.β]'(by rw[<-hP.bf.Sr];show ag),h_ _);let a8:k0∈U:=hP.VJ k0 (v7 co);refine(λaS H4=>aS=[δ QAW,δ sv,δ QNU,δ QNV,δ (dU G),δ Z5,δ QCk,s7,s8,s9,aM,aH]/\H4=H3,3,3)
   .cases G with
    |ζ=>show(0,6,CM ε (ai (1,1)))
    |δ M=>
     refine(0,6,OH (0,D,X,I,9,ew,J.SN,J.na2,1,t,0,.RB (lb.of O.ht),0,2,0,3));rw[bS];show aO (λdv=>(0,c4 O hP (.RF (M,1,ψ.ofNat_lt.mp dv)))) QPI
   rintro aS H4⟨rfl,ε⟩;refine(0,D,X,I,9,ew,J.SN,J.na4,1,y,0,.RB (lb.of O.hy),3);rw[cl];let d4:Am T ((R.β:υ):ψ)<*v0:=Av cI;refine(6,D,X,I,9,ew,J.SN,J.na2,6,z_ O.ht d4 (k0,v0,1,O.th.2 _ _ _ co cI,a8,bd _ _ O.sm hR0,λgs xs H5 s5 cX cC dm=>?_));let au:=O.VA s5;let bb:H5 gs<*.RJ xs\/H5 gs<*.QM xs:=cX.imp id λz=>z.2;let bk:∀Zz QHg,H4 b<*o->(∀zs,o≠.RJ zs)->gs≠b:=λ{b o}e ho z=>by
    rcases cX with h1|⟨h1,_⟩
    .rw [z,s5 _ _ e]at h1;cases h1;show ho _ ε
    .rw [z,e]at h1;cases h1
   obtain⟨el,cB⟩:∃φ,H4 d<*.ext φ:=by
    let W:=O.rm;unfold z8 at W;by_cases c:Y=.i
    .rw [QC c]at W;show(_,W.1)
    .rw [Fr c]at W;let⟨Ri,e,_⟩:=W;show(_,e)
   let g1:gs≠t:=bk O.ht (by intro zs z;cases z);let g2:gs≠wd:=bk O.hw (by intro zs z;cases z);let g3:gs≠y:=bk O.hy (by intro zs z;cases z);let g4:gs≠md:=bk O.hm (by intro zs z;cases z);let g5:gs≠d:=bk cB (by intro zs z;cases z);refine(RP _,λrw S=>?_);let r1:rw≠t:=Ne.QU (f' au.ht S);let r2:rw≠wd:=Ne.QU (f' au.hw S);let r3:rw≠y:=Ne.QU (f' au.hy S);let r4:rw≠md:=Ne.QU (f' au.hm S);let r5:rw≠d:=Ne.QU (f' (s5 _ _ cB) S);let r6:rw∉C:=λhm=>by
    let⟨i,hi⟩:=RQ.mp hm;let dt:i<R.β:=by rw[<-au.wr.1];show(m8 hi).1
    rw[au.wr.2 i rw _ hi (h_ dt)]at S;cases S
   let rg:gs≠rw:=λz=>by
    rw[<-z]at S;rcases bb with h1|h1<;>rw[S]at h1<;>cases h1
   let r0:H rw=ζ:=Hj au.sm S;let ec:=au.VA (a_.QO (o:=.QM []) S);let cV:QO H5 rw QBD gs<*.RJ xs\/QO H5 rw QBD gs<*.QM xs:=by rw[b_ rg];show bb
   refine(4,vX cV λd2 dV tk=>?_);let aV:((tx L).V4.Qq.QY λc=>V.Qn ⟨#[c]⟩).β=xs.β:=by rw[j',Da,cC]
   refine uV (xs:=(tx L).V4.Qq.QY λc=>V.Qn ⟨#[c]⟩) (ys:=xs) aV (λq bs H6=>E6 λm l N r bP bM=>A9 (bs=[δ QAW,δ sv,δ QNU,δ QNV,δ (dU G),δ Z5,δ QCk,δ (.QB ((R.β:υ):ψ)),δ (.ν gs),δ (.ν rw),bP,bM]) (WI P w H H6 X Y L D t wd y md d m l N C R B) (Cw g L s0 mk U m N R B q) (Ek g m R.β r q) (H6 rw<*.QM (b' r)) (H6 gs=H5 gs) (∀QEO(x:V),xs[j]?<*x->Ai Y H6 (g k0 j) x) (m[R.β]?<*k0) (N[R.β]?<*a0)) ?_ ?_ ?_ ?_
   .exact (ks,T,ws,[],aM,aH,1,ec,hP,Ek.Tw,SO,b_ rg,λj x hx=>(dm j x hx).SL λb zs e=>yl e S,co,d6)
   .rintro q bs H6⟨m,l,N,r,bP,bM,ε,hI',hP',aN,hrw',hgk,bU,hk',as⟩;show(1,dV H6 (by rw[hgk,b_ rg]))
   .rintro q cx gx' p bs H6 hc hg hp⟨m,l,N,r,bP,bM,ε,hI',hP',aN,hrw',hgk,bU,hk',as⟩;rw[Da,nq]at hc;cases hcq:L[q]? with
    |ζ=>rw[hcq]at hc;cases hc
    |δ c=>
    rw[hcq]at hc;cases hc;let bV:q<L.β:=(m8 hcq).1;let d3:L.Φ q 0=c:=by rw[n0,hcq];rfl
    let dS:g k0 q∈U:=d0 k0 a8 q bV;let u:=hI'.VA (a_.QO (o:=.RJ [.Qn ⟨#[c]⟩,gx']) hp);let cK:Ai Y H6 QNB gx':=bU q gx' hg;let aA:Ai Y (QO H6 p QEU) QNB gx':=cK.SL λb zs e=>yl e hp;let ch:QO H6 p QEU rw<*.QM (b' r):=yl hrw' hp;let a9:QO H6 p QEU gs=H5 gs:=by
     have:gs≠p:=λz=>by
      rw[<-z,hgk]at hp;rcases bb with h1|h1<;>rw[hp]at h1<;>cases h1
     rw[b_ this];show hgk
    let a7:∀(j:υ)(x:V),xs[j]?<*x->Ai Y (QO H6 p (.RJ [.Qn ⟨#[c]⟩,gx'])) (g k0 j) x:=λj x hx=>(bU j x hx).SL λb zs e=>yl e hp;let cO:QO H6 p (.RJ [.Qn ⟨#[c]⟩,gx']) p<*.RJ [.Qn ⟨#[c]⟩,gx']:=SO;generalize QO H6 p (.RJ [.Qn ⟨#[c]⟩,gx'])=H7 at u aA ch a9 a7 cO;let cn:m.β≤U.β:=LE (υ.le_add_left _ _) hP'.left;let an:m.β≤100000:=LE cn hU;let b1:l.β=m.β:=u.th.1;refine(p,0,pu.of cO,1,9,2,3);refine⟨λct H8=>∃ar aU aT,ct=[δ (.Qn (tx L)),δ sv,δ (.ν fg),δ (.ν fm),δ (dU G),δ (.ν D),δ (.ν d),δ (.QB ((R.β:υ):ψ)),δ (.ν gs),δ (.ν rw),δ (.Qn ⟨#[c]⟩),δ gx']/\WI P w H H8 X Y L D t wd y md d ar aU aT C R B/\Cw g L s0 mk U ar aT R B (q+1)/\Ek g ar R.β r q/\
     H8 rw=δ (.QM (b' r))/\H8 gs=H5 gs/\(∀(j:υ)(x:V),xs[j]?<*x->Ai Y H8 (g k0 j) x)/\ar[R.β]?=δ k0/\aT[R.β]?=δ a0/\g k0 q∈ar,?_,?_⟩
    .refine (4,d,0,u.rm.get aA,0,3);by_cases hm:g k0 q∈m
     .rw [(ng hm).1];show ai (m,l,N,1,u,hP'.old hL.nd hk' as bV hm,aN,ch,a9,a7,hk',as,hm)
     .rw [show DW m QNB=ζ from Fr hm];let⟨ob,b4,cN⟩:=u.rm.put aA hm (EL an);let⟨I,cp⟩:=u.YQ.ex;let bo:QO H7 d ob D=_:=(b_ (Ne.QU u.e5)).ξ cp;let cM:QO H7 d ob t=_:=(b_ (Ne.QU u.e1)).ξ u.ht;let dn:QO H7 d ob wd=_:=(b_ (Ne.QU u.e2)).ξ u.hw;let c8:D≠t:=n7 cp u.ht (!5);let c5:QO QPJ t QJ8 D=_:=(b_ c8).ξ bo;let cg:QO QPJ t QJ8 wd=_:=(b_ (Ne.QU u.d1)).ξ dn;let c3:Am (ms N) ((R.β:υ):ψ)<*.Qn (tx a0):=Av (by rw[ms,nq,as];rfl);let er:a0.β≤100000:=LE (hP'.wl a0 (v7 as)) an;rw[<-b1]at b4;refine ay (0,D,X,I,9,cp,J.SN,J.na2,1,t,0,.RB (lb.of u.ht),4,d,0,b4,3);refine(0,D,X,I,9,bo,J.SN,J.na2,1,.RB (1,_,lb.of cM),0,t,2,cM,EL (by rw[b1];show an),3);refine(0,D,X,I,9,c5,J.SN,J.na3,1,.RB (1,_,lb.of cg),0,D,X,I,9,c5,J.SN,J.na3,6,z_ cg c3 (0,2,3,wd,2,cg,EL (by rw[ms,j',<-hP'.bf.Sr];show an),3))
      .change (tx a0).β+1≤Λ;rw[hF];show nt (!6)
      let c2:tx a0++(⟨#[c]⟩:QL)=tx (a0++[c]):=by rw[<-CN];rfl
      let cd:=u.new (a:=a0++[c]) aA cN;let b6:=hP'.new hL.nd hk' as bV hm dS;rw[d3]at b6;let kt:∀b zs,H7 b<*.RJ zs->QO (QO QPJ t QJ8) wd (.QM (ms N++[.Qn (tx (a0++[c]))])) b<*.RJ zs:=λb zs e=>by
       obtain⟨φ,cA⟩:∃φ,H7 d<*.ext φ:=by
        let W:=u.rm;unfold z8 at W;by_cases c:Y=.i
        .rw [QC c]at W;show(_,W.1)
        .rw [Fr c]at W;let⟨Ri,e,_⟩:=W;show(_,e)
       rw[b_ (n7 e u.hw (!5)),b_ (n7 e u.ht (!5)),b_ (n7 e cA (!5))];show e
      refine(m++[g k0 q],l++[gx'],N++[a0++[c]],1,3,b6,aN.grow (m8 hk').1,3,3,λj x hx=>?_,cJ hk',cJ as,!1)
      .rw [<-c2]at cd;show cd
      .rw [b_ r2,b_ r1,b_ r5];show ch
      .rw [b_ g2,b_ g1,b_ g5];show a9
      .refine (a7 j x hx).SL λb zs e=>?_;have:=kt b zs e;rw[<-c2]at this;show this
    rintro ct H8⟨ar,aU,aT,ε,Z,eb,b3,aB,dT,b2,cU,d5,cS⟩;let b5:=Z.rm.get (b2 q gx' hg);rw[(ng cS).1]at b5;let ds:r.β≤100:=by rw[b3.1];show LE (Uu bV) (LE hL.hi (!0))
    refine(0,.RB (1,_,lb.of aB),4,d,0,b5,rw,2,aB,EL (by rw[d_];show LE ds (!0)),3);refine(ar,aU,aT,r++[ar.QJ QNB],9,Z.beside aB r0 r1 r2 r3 r4 r5 r6,eb,b3.snoc cU cS,3,3,λj x hx=>?_,cU,d5)
    .rw [SO,KF]
    .rw [b_ rg];show dT
    .exact (b2 j x hx).SL λb zs e=>by rw[b_ (n7 e aB (!5))];show e
   .rintro bs H6⟨m,l,N,r,bP,bM,ε,hI',hP',aN,hrw',hgk,bU,hk',as⟩;rw[aV,cC]at hP' aN;let⟨I,eg⟩:=hI'.YQ.ex;let cn:m.β≤100000:=LE (LE QGv hP'.left) hU;let bi:R.β≤100000:=LE hP'.le cn;let Z:=hI'.YO hrw' r1 r2 r3 r4 r5;let⟨c7,bo⟩:=Z.YQ.ex;obtain⟨v1,cH⟩:∃v1,l[R.β]?<*v1:=(l[R.β]'(by rw[hI'.th.1];show(m8 hk').1),h_ _);refine(0,D,X,I,9,eg,J.SN,J.na4,1,.RB (1,_,lb.of hI'.hy),0,y,2,hI'.hy,EL (by rw[j',hI'.wr.1];show bi),3);refine(0,D,X,c7,9,bo,J.SN,J.na5,1,.RB (1,_,lb.of Z.hm),6,D,X,c7,9,bo,J.SN,J.na2,6,z_ Z.ht (Av cH) (k0,v1,1,Z.th.2 _ _ _ hk' cH,a8,bd _ _ Z.sm hR0,λH9 s9=>(md,2,(Z.VA s9).hm,EL (by rw[j',hP'.bl];show bi),3)));show(m,l,N,C++[rw],R++[r],B++[mk k0],7,7,_,by rw[u4];rfl,1,(Z.VA s9).mark,hP'.next hk' aN)
  case _=>
   rw[cl,bS]at ag;show(0,c4 O hP (.RB (WO hP.le (SU λz=>ag (ψ.ofNat_lt.Sj z)))))
inductive J'(XU:θ)ZF ZC ZV Zk:Prop
 |mk (e wl tl:θ) (part:V) QRB (_:vs=[.ν e,.ν wl,.ν tl,part]) (_:H e<*r_ e XU ζ) (_:H wl<*.QM xs) (_:H tl<*.QM ys) (_:∀QAe(d l l2:θ),(∀b o,b≠e->H b<*o->H' b<*o)->H' e<*r_ e XU QRq->d≠e->l≠e->l2≠e->H' d<*AW d [(Q6,.ν l,),("tails",.ν l2,),("part",part,)]->H' l<*.QM xs->H' l2<*.QM ys->Q .UT H')
instance qa:Rb:=sB 4
instance GK:Rb:=Ch qa 0
structure GL ZZ Z3(XU cRE fX:θ)(fdX:TQ):Prop where
 kT:mg "TooMany"<*.ν XU
 kR:mg "RoomError"<*.ν cRE
 own:Ce K XU fX
 xc:lG K XU
 na1:Ae K XU Q6
 na2:Ae K XU "tails"
 na3:Ae K XU "part"
 bi:vV K cRE
 fn:isFn K (.ν fX)=ο
 exm:exmOne K QGc QGc<*ο
 ec:fE K XU
 exr:exmOne K QGc (.ν cRE)<*ο
 ini:so K "__init__" "TooMany.__init__" GK fX fdX
def gH:s_ ["self",Q6,"tails","part"] ["self",Q6,"tails","part"] (hY GK):=v5
def d8:∀vs H Q E,J' XU vs H Q E->vs.β=(["self",Q6,"tails","part"]:γ QL).β:=λvs H Q E h=>by
 let⟨e,a,b,part,xs,ys,ε,_⟩:=h;rfl
def lz{P:IO}QE8(j:GL K mg XU cRE I fdX)(g:mg "list"=ζ)(U':η)(A:Qo)QD' QBP(H0:Hp)QD8(N:Qo)(c:Ω)(h:J' XU vs H Q O):∃t,Bk {aY na P w K mg ς ["self",Q6,"tails","part"] "TooMany.__init__" (hY GK) I U' A Id s H0 E with A:=N,Wm:=c,xe:=λ_ _=>Rl} (n' GK) t/\t {nx:=λ_ H'=>Q .UT H',rt:=Q} (WG ["self",Q6,"tails","part"] vs) H:=by
  let⟨e,L,F,part,xs,ys,ε,v,hw,B,q⟩:=h;refine(_,(hJ (C6 (sW j.bi j.kR (q4 Y' u5))) (hJ (iI (f:=Q6) ε Y' (DM LA (!4) g WY QE0) ε) (hJ (iI (f:="tails") ε Y' (DM LA (!4) g WY QGM) ε) (h7 (iI (f:="part") ε Y' Zd ε))))),3);refine(0,e,XU,I,0,v,j.own,3);refine(0,L,xs,1,.RB (lb.of hw),λl p=>(0,e,XU,1,j.xc,j.na1,.RB (yl v p,λd k i=>?_)));let G:l≠e:=λz=>by rw[z,v]at p;cases p
  let r:H d=ζ:=by
   by_cases z:d=l
   .rw [z];show p
   .rw [b_ z]at k;show k
  let k1:∀b o,b≠e->H b<*o->L2.QO QAD d QCd b<*o:=λb o x z=>by
   rw[b_ (f' z r),b_ x,b_ (f' z p)];show z
  let u:L2.QO QAD d QCd e<*r_ e XU QRq:=by rw[b_ QGF,SO]
  let d1:L2.QO QAD d QCd d<*AW d [(Q6,.ν l,)]:=SO;let J:L2.QO QAD d QCd l<*.QM xs:=by rw[b_ (λz=>by rw[<-z,SO]at k;cases k),b_ G,SO]
  let D:F≠e:=λz=>by rw[z,v]at B;cases B
  generalize L2.QO QAD d QCd=M at k1 u d1 J;refine(0,F,ys,1,.RB (lb.of (k1 _ _ D B)),λl2 a=>(0,e,XU,1,j.xc,j.na2,.RF (d,_,yl u a,yl d1 a,by change 1<1000;decide,3)));refine(4,e,XU,1,j.xc,j.na3,.RF (d,_,by rw[b_ QGF];show yl u a,SO,by change 2<1000;decide,3));let n:l≠d:=λz=>by rw[<-z]at k;rw[SO]at k;cases k
  let C:M l<*.QM xs:=J;let m:l2≠d:=λz=>by rw[z,d1]at a;cases a
  let y:l2≠e:=λz=>by rw[z,u]at a;cases a
  refine q _ d l l2 (λb o x z=>?_) ?_ i G y SO ?_ ?_
  .let h1:b≠d:=f' z r;let h2:b≠l2:=f' (k1 b o x z) a;rw[b_ h1,b_ h1,b_ h2];show k1 b o x z
  .rw [b_ QGF,b_ QGF];show yl u a
  .rw [b_ n,b_ n];show yl C a
  .rw [b_ m,b_ m,SO]
def qo QPK(a:mg "list"=ζ):aa P w K mg ς na 1 c fdX ["self",Q6,"tails","part"] (J' XU):=b.ini.ok gH d8 λU' A Id s H vs Q E d h=>lz b a U' A Id s H E _ _ h
def mR QPK(a:mg "list"=ζ):KR P w K mg ς c fdX ["self",Q6,"tails","part"] (J' XU):=b.ini.okH gH d8 λU' A Id s H vs Q E v h=>lz b a U' A Id s H E _ _ h
instance D6:Rb:=(n' EX).Φ 0 QA4
instance D7:Rb:=(n' EX).Φ 1 QA4
instance q_g:QL:="walked_machine.<locals>.goals_of"
instance q_m:QL:="walked_machine.<locals>.is_marked"
abbrev bz(s:Rb):T6:=match s with
 |.FunctionDef _ _ _ _ _ _ _ _ _ p=>p
 |_=>((0),(0),(0),(0))
abbrev Rt:γ QBc:=[(bz D6,q_g,),(bz D7,q_m,)]
def MC:Ct [Z4,Q0] [Z4] [Q0] QQt:=Zu
def MD:Ct [Z4,Q0] [Z4] [Q0] QQu:=Zu
section
variable{P:IO}{w:QV}{K:Qt}{mg:QL->χ η}{ς:Qx}{f c m:θ}{R8:γ QAM}{Tm pm ctv:η}{L:LN}{W:LL}{B:γ Ω}
def ME(y:ς.Δ f<*YM Z0 q_g (t_ D6) (n' D6) QQt R8 Tm pm c ctv)(r:ς.SD ZS q_g)(C:AN ς R8 QQt [Q0] [.ν m])(t:hI L W B):aa P w K mg ς na 1 f (Ξ.W.fnX Z0 q_g (t_ D6) (n' D6) QQt R8 .ζ .ζ Tm pm ζ ZS ctv) [Z4] (HZ .i L QJf (uW W) λH=>Dk H m L W B):=by
 refine Gz (Xy:=[.ν m]) y ε r MC C ZE (λA Id s H vs Q E S h=>?_)
 .obtain ⟨k,v,ε,_⟩:=h;rfl
 .obtain ⟨k,v,ε,o,F,G,q⟩:=h;refine(_,(h7 (ln (EO QLE Y'))),3);let⟨n,ε,D⟩:=lQ F;unfold Ai at o;rw[QC ε]at o;let⟨R,e,ε⟩:=o;injection e with e;subst e;let⟨O,mk,a,h1,h2,T,J,I⟩:=G;obtain⟨g,d⟩:∃g,a[n]?<*g:=(a[n]'(by rw[J];show D),h_ _);let⟨ws,u,N⟩:=I _ _ d;let l:=t.YO ws (v7 u);refine(k_ h1 aq (0,CA h2 (BO V.ν d) ?_));refine q g QM1 H QPL (.RB N) (by rw[d_];show l.1) λj x b=>?_;unfold Ai;rw[QC ε];rw[b',nq]at b;cases p:ws[j]? with
  |ζ=>rw[p]at b;cases b
  |δ z=>
   rw[p]at b;cases b;refine(z,3,1);show[(W.Φ n []).Φ j 0]=[z];let M:W.Φ n []=ws:=by
    rw[n0,u];rfl
   rw[M,n0,p];rfl
def MF(j:ς.Δ f<*YM Q7 q_m (t_ D7) (n' D7) QQu R8 Tm pm c ctv)(b:ς.SD ZS q_m)(C:AN ς R8 QQu [Q0] [.ν m])QIb:aa P w K mg ς na 1 f (Ξ.W.fnX Q7 q_m (t_ D7) (n' D7) QQu R8 .ζ .ζ Tm pm ζ ZS ctv) [Z4] (bG .i (mkW B) (uW W) λH=>Dk H m L W B):=by
 refine Gz (Xy:=[.ν m]) j ε b MD C ZE (λA Id s H vs Q E y h=>?_)
 .obtain ⟨k,v,ε,_⟩:=h;rfl
 .obtain ⟨k,v,ε,a,o,p,q⟩:=h;refine(_,(h7 (ln (l' zK QLE Y' ZL))),3);let⟨n,ε,l⟩:=lQ o;unfold Ai at a;rw[QC ε]at a;let⟨x,e,ε⟩:=a;injection e with e;subst e;let⟨u,mk,g,h1,h2,t,D,z⟩:=p;let r:B[n]?<*B.Φ n μ:=by
   rw[n0,h_ (by rw[d.bl];show l)];rfl
  show(k_ h1 be (0,mk,_,2,t,BO V.bl r,q H QPL))
end
def c_a:s_ [Q0,Z0,Q7] [Q0] (hY EX):=v5
def Ka{kV Tm pm U' ct e:η}(lD:K.ρ g<*(e,i,.V8 #[.ζ] l,h)):ym K (U9 "walked" "walked" QLF QLG QJC (.ν g) kV Tm pm an U' ct) [Q3,"start",Z0,Q7,"most"] [.ζ]:=λs us k j=>by
 let f:us.β=4:=by simpa using j
 let⟨a,b,c,d,ε⟩:=Mr f;show BindsTo.of_defaults ε (k _ _ lD) ε ε ε
def jr(Wd:Hl X U j H d)QCh QBv(o:X.N[0]?<*Q0)(e:j[0]?<*δ QGD)(n:X.QA.Qy.QI.ρ Q0<*.R9)(l:sc.QI.ρ Q0<*.SA)(k:((Q0:QL),Ud.SA,)∈sc.QI):AN d b sc [Q0] [.ν m]:=by
 refine(λy z c h1 h2=>Wd.Tx y z c QQe QQf,Vl,λy c h=>Wd.R9 y c QTB,1,λi y v h1 h2=>?_);match i,h1,h2 with
 |0,h1,h2=>
  cases h1;cases h2;let⟨a,f⟩:=Vl _ k ε;let⟨c,u,r,q,p⟩:=Wd.val 0 Q0 QGD o e n;let g:=VJ _ _ f;rw[r]at g;cases g;show(l,_,u,f,q,p)
 |i+1,h1,_=>simp at h1
set_option maxHeartbeats 8000000 in
def tI{P:IO}QE8{oc kV Tm pm ct az S p O d X a5:η}(lk:K.ρ f<*(oc,od,.VL (U9 "walked_machine" "walked_machine" (t_ EX) (n' EX) (hY EX) .ζ kV Tm pm an ZS ct),b5))(bg:UN K ZS "walked_machine"=ο)(lw:K.ρ fw<*(az,a4,.VL (U9 "walked" "walked" QLF QLG QJC QKX S p O an2 d X),osl2))(cw:UN K d "walked"=ο)QCX(mw:mg "walked"<*.ν fw)(lD:K.ρ tD<*(a5,b6,.V8 #[.ζ] nD,b1))QCG(ap:mg "len"=ζ)(ag:mg "zip"=ζ)(hC:UR ς c P0)QFt:aa P w K mg ς na 6 f (U9 "walked_machine" "walked_machine" (t_ EX) (n' EX) (hY EX) .ζ kV Tm pm an ZS ct) [Q0] QIN:=by
 refine oY lk bg c_a ZE QAB
 .obtain ⟨m,L,W,B,ε,_⟩:=h;rfl
 .obtain ⟨m,L,W,B,ε,hM,g,hT,q⟩:=h;refine(_,(hJ (FJ (i:=1) (Qz:=q_g) (c:=c) (P0:=P0) (Rt:=Rt) c_a.nd ε QBK ε hC hB (!3) (!3)) (hJ (FJ (i:=2) (Qz:=q_m) (c:=c) (P0:=P0) (Rt:=Rt) c_a.nd ε QBK ε hC hB (!3) (!3)) (h7 (ln (JG (dvs:=[.UT]) ε mw kw (Ka (kV:=S) (Tm:=p) (pm:=O) (an:=an2) (U':=d) (ct:=X) lD) QCr (By Zc (AI c_ ZD ZO)) QGe))))),3);refine(hT,λZ l j H1 as aN ch ce s1 aT aH aB=>(aT,λY C F D ar aM cg cd s2 bm aC bd=>?_));let au:BY P0 H D:=JN s1 s2;let aU:Dk D m L W B:=hM.ofT (B5.ofX au hT);let⟨b2,bs,_⟩:=id aT;let⟨a3,bo,a9,T⟩:=id bm;let nP:∀Zz QBk,H1 b<*.ext φ->b≠P0:=λ{b φ}e z=>by rw[z,bs]at e;cases e
  let I:D l<*bh l Z0 q_g (t_ D6) (n' D6) QQt Z j:=s2 l _ (nP aB) aB;let J:D j<*p_ j q_g:=s2 j _ (nP aH) aH;let G:D C<*bh C Q7 q_m (t_ D7) (n' D7) QQu Y F:=bd;let bt:=aU;let⟨wy,mk,bS,h1,h2,h3,h4,h5⟩:=aU;let aS:∀u∈[l,C,j,F],∃φ,D u<*.ext φ:=λu hu=>by
   simp only[QW,Si,T8]at hu;rcases hu with ε|rfl|rfl|rfl
   .exact (_,I)
   .exact (_,G)
   .exact (_,J)
   .exact (_,aC)
  refine(k_ h1 ad (4,[l,C,j,F],aS,λv Wd=>?_));let⟨bU,b4,b0,a0⟩:=Wd.ext l _ (!1) I;let⟨bT,b3,bV,aV⟩:=Wd.ext C _ (!1) G;let bP:v.SD QKs q_g:=Wd.ext j _ (!1) J;let bM:v.SD (.ν F) q_m:=Wd.ext F _ (!1) aC;let C1:=jr (sc:=hY D6) (m:=m) Wd as aN ε ε ε ε (!3);let C2:=jr (sc:=hY D7) (m:=m) Wd ar aM ε ε ε ε (!3);let Fw:lL K "walked" "walked" Be fw _:=((az,a4,.ν tD,S,p,O,an2,d,X,osl2,1,lw,cw),kw);refine((5),H_ cW .i L QJf (mkW B) (uW W) (λH=>Dk H m L W B) l C,hr,J_ Fw WT ap ag ((ME a0 bP C1 g).Ti (!0)) ((MF aV bM C2 g).Ti (!0)) a0 QAy aV QAy (.Tk λus hl=>by let⟨_,ε⟩:=D3 hl;rfl) (.Tk λus hl=>by let⟨_,ε⟩:=D3 hl;rfl) QHZ,3);let k:∀Zz QHg,D b<*o->QBt->b∉[l,C,j,F]:=λ{b o}e ho M=>by
   let⟨φ,e2⟩:=aS b M;rw[e]at e2;show ho φ (χ.δ.Tx e2)
  let cf:=g.n60;refine([0],.QB 0,ζ,1,g.lt,3,rG.Sj g.n1,OI g,by rw[rH];lia,bt.UF (λb xs e=>by rw[Bv (k e ZA)];show e) (λb xs e=>by rw[Bv (k e ZA)];show e),λwk t wd y md ks a1 ws N R Bm H3 a2 hW ht a8 a7 hy aA bb bf ab bl a6 VJ le he bk=>?_)
  .unfold Ai;rw[QC ε];show((0),5)
  let hR:R.β=ks.β:=by
   rcases he with z|⟨n,z,_⟩
   .exact z
   .cases z
  let X8:∀Zz QHg,H3 b<*o->X1 [l,C,j,F] D H3 b<*o:=λ{b o}e=>by
   rw[DV λM=>?_]
   .exact e
   .rw [bk b M]at e;cases e
  let U:∀Zz QHg,D b<*o->X1 [l,C,j,F] D H3 b<*o:=λ{b o}e=>by
   by_cases M:b∈[l,C,j,F]
   .rw [Hk M];show e
   .exact X8 (a2 b o (by rw[Bv M];show e))
  rw[hR]at bf;let⟨dx,ew⟩:=hW.ex;show q wk t wd y md ks a1 ws N R Bm _ (λb o M e=>U (au b o M e)) (a3,U bo,a9,λx hx=>(T x hx).imp id λbi=>by let⟨c',e1,e2⟩:=bi;show(c',e1,U e2)) QJF (X8 ht) (a8.SL λb xs e=>X8 e) (X8 a7) (X8 hy) (aA.1,λi a r e1 e2=>X8 (aA.2 i a r e1 e2)) (X8 bb) bf ab hR bl a6 VJ (by rw[rH]at le;show le)
instance MG:Rb:=sB 11
instance MH:Rb:=sB 12
instance MI:Rb:=sB 10
instance MJ:Rb:=sB 13
instance ML:Rb:=sB 14
instance dC:Rb:=sB 15
instance MM:Rb:=sB 39
instance mz:Rb:=sB 38
instance MN:Rb:=sB 8
instance iF:Rb:=sB 21
instance MO:Rb:=sB 23
instance dz:Rb:=sB 36
instance MQ:Rb:=sB 37
instance MR:Rb:=sB 24
instance MT:Rb:=sB 31
instance dy:Rb:=sB 34
instance MV:Rb:=sB 43
instance MW:Rb:=sB 42
instance dB:Rb:=sB 44
instance MX:Rb:=sB 41
instance MY:Rb:=sB 6
instance MZ:Rb:=sB 7
instance K3:Rb:=sB 48
instance K4:Rb:=sB 49
instance M0:Rb:=sB 66
instance M1:Rb:=sB 67
instance M3:Rb:=sB 68
instance M4:Rb:=sB 69
instance M5:Rb:=sB 70
instance M6:Rb:=sB 71
instance M7:Rb:=sB 72
instance M8:Rb:=sB 73
instance M9:Rb:=sB 74
instance K5:Rb:=sB 75
instance M_:Rb:=sB 76
instance M':Rb:=sB 77
instance Na:Rb:=sB 78
instance Nb:Rb:=sB 79
instance Nc:Rb:=sB 80
instance Nd:Rb:=sB 83
instance Nf:Rb:=sB 81
instance Ng:Rb:=sB 82
instance Nh:Rb:=sB 84
instance Ni:Rb:=sB 86
instance Nj:Rb:=sB 85
instance dA:Rb:=sB 87
instance nn:Rb:=Ch (sB 54) 0
instance nu:Rb:=Ch (sB 56) 0
instance eI:Rb:=Ch (sB 61) 0
instance oQ:Rb:=Ch (sB 52) 0
instance oR:Rb:=Ch (sB 53) 0
instance hZ:Rb:=Ch (sB 55) 0
instance uO:Rb:=Ch (sB 54) 1
instance hX:Rb:=Ch (sB 62) 0
instance kJ:Rb:=Ch (sB 63) 0
instance oU:Rb:=Ch (sB 64) 0
instance kK:Rb:=Ch (sB 57) 0
instance uQ:Rb:=Ch (sB 58) 0
instance uR:Rb:=Ch (sB 59) 0
instance uN:Rb:=Ch (sB 60) 0
structure VR ZZ Z3(XA UI:θ):Prop where
 kA_:mg "RoomError"<*.ν XA
 kH_:mg "TooMany"<*.ν UI
 eH_:fE K UI
 mH_:exmOne K QGf (.ν XA)<*ο
 iHH_:UJ K QGf QGf<*ο
 vH_:UJ K QGf (.QH "ValueError")<*ο
 Sr:mg "len"=ζ
 Q':mg "range"=ζ
 UY:mg "isinstance"=ζ
 QB:mg "int"=ζ
 T9:mg "bool"=ζ
 T7:mg "tuple"=ζ
 U0:mg "list"=ζ
 Qn:mg "str"=ζ
 Xz:mg "zip"=ζ
 enumerate:mg "enumerate"=ζ
 reversed:mg "reversed"=ζ
 max:mg "max"=ζ
 Tk:mg "all"=ζ
 VA:mg "any"=ζ
 US:mg "set"=ζ
 sorted:mg "sorted"=ζ
 enum:mg "enumerate"=ζ
 most:∃t,mg "MOST_ROOMS"<*.QB 8 t
inductive sp_numbered ZF ZC ZV Zk:Prop
 |mk QBz (o:HO) QBI (ks:γ KS) (We:Ω) QCv QM7 (_:H a<*o) (_:xs.β=ks.β) (_:ks.β≤2100) (_:(∀Zi(k:KS)(x:V),ks[i]?<*k->xs[i]?<*x->lK H k x/\Kz k=We)) (_:∀p H',a_ H H'->H' p<*.QM (b' (aF ks))->Q Zh H')
inductive sp_manyM ZF ZC ZV Zk:Prop
 |mk QBz QT5 QCv (_:H a<*.QM QI2) (_:0<ns.β) (_:∀M∈ns,QS5->Q (.QB ((M:ψ)+1)) H)
inductive sp_roundsG ZF ZC ZV Zk:Prop
 |mk QUP QDf (o om:HO) Zp QCF Zg (most:υ) (_:vs=[.ν wy,.ν mk,.QB (most:ψ)]) (_:(o=.QM QBo\/o=.RJ QBo)) (_:H wy<*o) (_:(om=.QM QCm\/om=.RJ QCm)) (_:H mk<*om) QMo (_:yw H Ta W) QB8 (_:∀QJP(S0:γ θ)QKb QAe,a_ H H'->H' p<*.QM QF'->S0.β=k+1->Hi H' S0 W B->(Rd W B (k+1)=Rd W B k\/∃M∈Rd W B k,most<M+1)->k≤4410000->Q Zh H')
inductive sp_firstrooms ZF ZC ZV Zk:Prop
 |mk QBz QT5 QCv (_:H a<*.QM QI2) (_:0<ns.β) (_:ns.β≤2100) (_:(∀x∈ns,x<2100)) (_:(∀(M j:υ),M∈ns->j≤M->j∈ns)) (_:∀QJ4 QJP QAe,bj ns m->a_ H H'->H p=ζ->H' p<*.QM (b' ((γ.Q' m).QY λj=>ns.QJ j))->Q Zh H')
inductive sp_pword5 ZF ZC ZV Zk:Prop
 |mk (wy p:θ) (Ta S0:γ θ) Zp QCF Zg (k r s:υ) (_:vs=[.Qn ZU,.ν wy,.ν p,.QB (r:ψ),.QB (s:ψ)]) (_:H wy<*.QM QBo) (_:Dj H Ta W) QB8 (_:H p<*.QM QF') QOD (_:Hi H S0 W B) (_:m_ W B k r≠m_ W B k s) (_:k≤4410000) (_:r<W.β) (_:s<W.β) (_:∀w H',a_ H H'->QAS->w.β≤2100->B.Φ QJX μ≠B.Φ QOk μ->Q QBU H')
structure Kb ZZ(cW:θ):Prop where
 SN:CI K cW
 na1:Ae K cW Q3
 na4:Ae K cW Z1
 na5:Ae K cW Z2
inductive Nk(cW:θ)ZF ZC ZV Zk:Prop
 |mk (wk t wd y md lo:θ) QDf Zp (R:LL) QKf QKb (_:vs=[.ν wk,.ν lo]) QEq QKg QOI QMB QI7 (_:H lo<*.QM (b' ZG)) (_:∀QJ4 QDo QAe,bj ZG m->a_ H H'->H f=ζ->v_ H' f L QA_ QGC->Q Ze H')
inductive gy(cW:θ)ZF ZC ZV Zk:Prop
 |mk (wk t wd y md p rm:θ) (Ta S0:γ θ) Zp (R:LL) QKf QKb (rs:LN) (_:vs=[.ν wk,.ν p,.ν rm]) QEq QKg QOI QI7 (_:H p<*.QM QF') QOD (_:Hi H S0 R Bm) (_:k≤4410000) (_:H rm<*.QM QQv) (_:rs.β=9) (_:(∀r∈rs,r<R.β)) (_:(∀(i j a b:υ),i<j->rs[i]?<*a->rs[j]?<*b->m_ R Bm k a≠m_ R Bm k b)) (_:∀tl ta H',a_ H H'->H' tl<*.QM QPB->ta.β=36->DB H' L QAL ta 9 0->Q (.ν tl) H')
inductive Im(cW UI:θ)ZF ZC ZV QD8:Prop
 |mk (wk t wd y md:θ) QDf Zp (R:LL) QKf (ws:LL) (_:vs=[.ν wk]) QEq QKg QOI QMB (_:H wd<*.QM (ms ws)) (_:ws.β=R.β) QI7 (_:(∀Zi(v:LN),ws[i]?<*v->QDk/\SZ L R 0 v=i/\v.β≤2100)) (_:(∀d H',a_ H H'->P9 H' d .UT L (Lg L R Bm)->E QGf QEm H')) (_:∀(m k:υ)QDo QAe,bj ZG m->Rd R Bm (k+1)=Rd R Bm k->m≤8->a_ H H'->H f=ζ->v_ H' f L QA_ QGC->Q Ze H')
inductive sp_needsame72 ZF ZC ZV Zk:Prop
 |mk QPV Zp QCF Zg (W2:LL) (B2:γ Ω) QGl QAx QH0 (_:Q .UT H)
inductive Kc(P0:θ)QG6 ZF ZC ZV Zk:Prop
 |mk QP0 Zp QCF Zg QHx QAx QB8 QMt (_:∀QDo(W':LL)QHG QAe,BY P0 H H'->AH H' P0 Rt->v_ H' f L W' B'->DX L W B W' B'->Q Ze H')
inductive gB QC_ ZF ZC ZV Zk:Prop
 |mk (L S:LN) (we:Ω) (_:vs=[.Qn ZU,.bl we,.Qn (tx S)]) QFV QDl (_:∀QDo QCF Zg QAe,KT ts H H'->Mc H' f L W B->QFD->Lg L W B=CT L we S->Q Ze H')
inductive gD QC_ ZF ZC ZV Zk:Prop
 |mk Zp QDR (v:V) QUC QBQ QIO QFV QDl (_:∀QDo QCF Zg QAe,KT ts H H'->Mc H' f L W B->QFD->Lg L W B=aj L t->Q Ze H')
inductive gE(UI:θ)QC_ ZF ZC ZV QD8:Prop
 | mk (p:θ) (L:LN) (S:LN->Prop) (_:ci ts H) (_:(∀d H',KT ts H H'->P9 H' d .UT L S->E (.ν UI) (δ (d,ο,)) H')) (_:(∀(f:θ)(W':LL)(B':γ Ω)(H':Hp),KT ts H H'->Mc H' f L W' B'->(∃v,Az L W' B' v)->Lg L W' B'=S->Q (.ν f) H')) (_:((∃(k:K1)(m:θ)(W:LL)(B:γ Ω),vs=[.Qn (Dn k),.ν p]/\H p=δ (.QM [.ν m])/\Mc H m L W B/\KW L k (Lg L W B)=S) \/
  ∃(k:K2)(m m2:θ)(W W2:LL)(B B2:γ Ω),vs=[.Qn (CS k),.ν p]/\H p=δ (.QM [.ν m,.ν m2])/\Mc H m L W B/\Mc H m2 L W2 B2/\KY k (Lg L W B) (Lg L W2 B2)=S))
inductive Ke(UI:θ)QC_ QBM ZF ZC ZV QD8:Prop
 |mk Zp QDR (v:V) QUC QBQ QB9 QFV QDl QBL QBF
inductive sp_isletters ZF ZC ZV Zk:Prop
 |mk Zp (_:vs=[.Qn ZU]) QFV (_:Q QMx H)
inductive sp_needletters ZF ZC ZV Zk:Prop
 |mk Zp (_:vs=[.Qn ZU]) QFV (_:Q .UT H)
structure pB QKa Z' ZZ Z3(d1 d3:θ):Prop where
 kS:mg "SIGNS"<*.ν d1
 kT:mg "STRENGTHS"<*.ν d3
 dS:pE P w K d1 bZ
 dT:pE P w K d3 gm
instance nv:Rb:=Ch (sB 51) 1
inductive n9 ZZ ZF ZC ZV Zk:Prop
 |mk QBz QFA (k:ψ) (_:vs=[.ν a,.QB k]) QKh (_:0≤k) (_:∀z,Q QLH H)
inductive sp_letters ZF ZC ZV Zk:Prop
 |mk (c:ψ) (_:vs=[.QB c]) (_:∀L,BL L->Q QAW H)
inductive n8 ZZ ZF ZC ZV Zk:Prop
 |mk Zp QBz QFA (_:vs=[.Qn ZU,.ν a]) QFV QKh (_:ns.β≤63) (_:∀QFZ QAe,w.β=ns.β->QAS->a_ H H'->Q QBU H')
inductive sp_pushed ZF ZC ZV Zk:Prop
 |mk QJP QBI (pts:γ Pt) (z:ψ) Zp (_:vs=[.ν p,.QB z,.Qn ZU]) QFV (_:H p<*.QM xs) (_:AQ (ah H) xs pts) (_:xs.β≤100) (_:(∀t∈pts,t.Xm L)) (_:∀(p':θ)(xs':γ V)(pts':γ Pt)QAe,a_ H H'->H' p'<*.QM xs'->AQ QQn xs' pts'->(∀t∈pts',t.Xm L)->bu pts'≤bu pts+1->br pts'≤br pts+1->xs'.β≤xs.β+1->Q (.ν p') H')
inductive db ZZ ZF ZC ZV Zk:Prop
 |mk QBz QFA Zp QGm QFV QKh (_:ns.β≤10) (_:∀(v:V)QDR QAe,a_ H H'->ah H' t v->t.Xm L->t.WX≤10->t.sz≤21->Q v H')
inductive Kf QFG QBM ZF ZC ZV Zk:Prop
 |mk QDR (v:V) QKD QBQ QB9 QFu (_:∀(v':V)QAe,a_ H H'->Bd c H' t v'->Q v' H')
inductive sp_leaf72 ZF ZC ZV Zk:Prop
 |mk QMC QDR (v:V) QDm QBQ QIO QKE QDE (_:∀QJP QAe,a_ H H'->H' p<*.QM (b' (AR QC4 w))->Q Zh H')
inductive sp_behind72 ZF ZC ZV Zk:Prop
 |mk QER QFZ (a b:θ) QQd (_:H a<*.QM QKU) (_:H b<*.QM (b' (AR C w))) QDE (_:∀QJP QAe,a_ H H'->H' p<*.QM (b' (AR (js A C) w))->Q Zh H')
inductive sp_pieces72 ZF ZC ZV Zk:Prop
 |mk QBn QFZ QBz QCv (_:H a<*.QM QKU) QDE (_:∀QJP QAe,a_ H H'->H' p<*.QM (b' (AR QLC w))->Q Zh H')
inductive Io QBM ZF ZC ZV Zk:Prop
 |mk QMC QDR (v:V) QDm QBQ QB9 QKE QDE (_:nM QC4 w H Q)
inductive yb QBM ZF ZC ZV Zk:Prop
 |mk QMC QDR (v:V) QDm QBQ QB9 QKE QDE (_:nM (fR QC4) w H Q)
inductive jT QBM ZF ZC ZV Zk:Prop
 |mk QMC QDR (v:V) QDm QBQ QB9 QKE QDE (_:∀QPS QAe,a_ H H'->(b=ο↔aj L t w)->Q QIw H')
inductive HF QBM ZF ZC ZV Zk:Prop
 |mk QLW (_:vs=[x,y]) (_:Ij H n x) (_:Ij H n y) (_:∀b:Ω,(aE H n x y->b=ο)->Q QIw H)
inductive sp_isword ZF ZC ZV Zk:Prop
 |mk QMC (_:vs=[.Qn QNL,.Qn ZU]) (_:QAS) (_:w.β≤20000) QAT
inductive sp_ismach ZF ZC ZV Zk:Prop
 |mk QP0 Zp QCF Zg (_:vs=[.ν m,.Qn ZU]) QAx QB8 QAT
inductive Kg QBM ZF ZC ZV Zk:Prop
 |mk QDR (v:V) QKD QBQ QB9 QEX (_:∀QJP QBI QAe,a_ H H'->H' p<*.QM xs->AQ QQn xs t.Td->Q Zh H')
inductive sp_isleast ZF ZC ZV Zk:Prop
 |mk QP0 Zp QCF Zg QPl QHx QAx (_:Az L W B v) QP2 QAT
inductive sp_told36 ZF ZC ZV Zk:Prop
 |mk QP0 QMC QCF Zg QDR (v:V) (_:vs=[.ν m,v,.Qn QNL]) QAx QB8 (_:Lg L W B=aj L t) QBQ QFu QKE (_:w.β≤100) QAT
inductive sp_wit36 ZF ZC ZV Zk:Prop
 |mk (D tl:θ) Zp (us:LL) (ta:γ θ) (S:υ->υ->LN->Prop) (_:vs=[.ν D,.ν tl,.Qn ZU]) (_:H D<*.QM (ms us)) (_:H tl<*.QM QPB) (_:us.β=9) (_:ta.β=36) (_:(∀v∈us,QDk/\v.β≤2100)) (_:DB H L S ta 9 0) QAT
abbrev fq(UI:θ)(ts:γ (θ×γ (T6×QL)))(H:Hp)(L:LN)(t:Pt)(v3 v4:V)(H':Hp):Prop:=KT ts H H'/\((v3=.UT/\∃(e d:θ)(p:Pt)(pv:V),v4=.ν e/\H' e=δ (bq e (.ν UI) (δ (d,μ,)))/\p∈t.Td/\ah H' p pv/\P9 H' d pv L (aj L p)) \/
 (v4=.UT/\∃(f:θ)(W:LL)(B:γ Ω),v3=.ν f/\Mc H' f L W B/\(∃v,Az L W B v)/\Lg L W B=aj L t/\D5 L t))
def fq.SL{j:θ}QTI{H o n:Hp}QRU QIc{m l:V}(s:a_ o n):fq j ts H L t m l o->fq j ts H L t m l n
 |⟨k,.RB ⟨a,e,d,p,pv,b,c,g,h,i⟩⟩=>(k.ξ (KT.of s),.RB (a,e,d,p,pv,b,s _ _ c,g,h.kp (a_.kp s),i.SL s))
 |⟨k,.RF ⟨a,f,W,B,b,c,d⟩⟩=>(k.ξ (KT.of s),.RF (a,f,W,B,b,c.kt (KT.of (ts:=ts) s),d))
inductive df QFG(UI:θ)QC_ ZF ZC ZV Zk:Prop
 |mk QBz QDR Zp QGm QGu QFu QFV QDl (_:∀QJP(v3 v4:V)QAe,fq UI ts H L t v3 v4 H'->H' p<*.RJ [v3,v4]->Q Zh H')
inductive gC(UI:θ)ZF ZC ZV Zk:Prop
 |mk (e d:θ) Zp (t p:Pt) (v w':V) (z:ψ) (_:vs=[.ν e,v,.Qn ZU,.QB z]) (_:H e<*bq e QGf (δ (d,μ,))) (_:P9 H d w' L (aj L p)) (_:ah H p w') (_:p∈t.Td) QBQ QFu QEX QAT
section
variable{P:IO}{w:QV}{K:Qt}{mg:QL->χ η}{ς:Qx}{P0 PT cW:θ}{ts:γ ZX}{VI:γ (θ×θ)}{XA UI:θ}{c:Kd->θ}{cP:θ}
def sw:s_ ["self","sign"] ["self","sign"] (hY nn):=QFi
def tE(F:so K "__init__" "Sign.__init__" nn f fd):aa P w K mg ς na 1 f fd ["self","sign"] (sd K "sign"):=by
 refine F.ok sw ZE QJn
 .obtain ⟨p,v,C,dx,ε,_⟩:=h;rfl
 .obtain ⟨p,v,C,dx,ε,hp,d,n1,q⟩:=h;refine(_,h7 QNW,3);refine(4,p,C,dx,[],1,hp,d,n1,(by change 0<1000;decide),3);show q _ (λb o e a=>by rw[b_ a];show e) SO
def my:s_ ["self","inner"] ["self","inner"] (hY eI):=QFi
def mO(F:so K "__init__" "Around.__init__" eI f fd):aa P w K mg ς na 1 f fd ["self","inner"] (sd K "inner"):=by
 refine F.ok my ZE QJn
 .obtain ⟨p,v,C,dx,ε,_⟩:=h;rfl
 .obtain ⟨p,v,C,dx,ε,hp,d,n1,q⟩:=h;refine(_,h7 QNW,3);refine(4,p,C,dx,[],1,hp,d,n1,(by change 0<1000;decide),3);show q _ (λb o e a=>by rw[b_ a];show e) SO
def sy:s_ ["self","left","right"] ["self","left","right"] (hY nu):=QFi
def tF(F:so K "__init__" "Pair.__init__" nu f fd):aa P w K mg ς na 1 f fd ["self","left","right"] (yV K "left" "right"):=by
 refine F.ok sy ZE (λU' A Id s H vs Q E i h=>?_)
 .obtain ⟨p,v,u,C,dx,ε,_⟩:=h;rfl
 .obtain ⟨p,v,u,C,dx,ε,hp,d,n1,g,q⟩:=h;refine(_,hJ QNW (h7 (Fz Y' ZO ε)),3);refine(4,p,C,dx,[],1,hp,d,n1,(by change 0<1000;decide),4,p,C,dx,0,SO,d,g,(by change 1<1000;decide),3);show q _ (λb o e a=>by rw[b_ a,b_ a];show e) SO
abbrev WB:Kd->Rb:=Em oQ oR hZ uO hX kJ oU kK uQ uR uN
abbrev Ps:Kd->QL:=Em "Never.shape" "Empty.shape" "AnySign.shape" "Sign.shape" "Outside.shape" "Turned.shape" "Again.shape" "Either.shape" "Less.shape" "Both.shape" "Then.shape"
def oA(b:∀k,vP K (c k) cP){fs:Kd->θ}{j:Kd->TQ}(G:∀k,aR K (c k) "shape" (fs k))(I:∀k,ym K (j k) ["self"] [])(F:∀k,so K "shape" (Ps k) (WB k) (fs k) (j k)):∀n k,aa P w K mg ς na n (fs k) (j k) ["self"] QTG
 |0,k=>(λvs H Q E h=>by let⟨a,t,_,_,_,o,_⟩:=h;have:=t.Wl;show Gk this o,λ_ _ _ _ _ _ vs Q E _ _ _ _ h=>by let⟨a,t,_,_,_,o,_⟩:=h;have:=t.Wl;lia)
 |n+1,k=>by
  let L:=oA b G I F n;let S:s_ ["self"] ["self"] (hY (WB k)):=by
   rcases k with(_|_|_)|_|(_|_|_)|(_|_|_|_)<;>show v5
  refine(F k).ok S ZE (λU' A Id s H vs Q E N h=>?_)
  .obtain ⟨a,t,ε,_⟩:=h;rfl
  let⟨a,t,ε,hp,ε,o,q⟩:=h;cases t with
  |TR k=>cases k<;>show(_,h7 (ln (A' (By u5 Ck))),nt (by change 1≤16777216;decide),λp hp=>q Zh _ QCW (p,1,SO))
  |Um z=>
   let⟨X,dx,e,r⟩:=hp;cases e;show(_,h7 (ln (A' (By u5 (By (Bt Y' ε) Ck)))),0,a,_,dx,9,r,(b _).cl,(b _).nS,xm _,nt (by change 2≤16777216;decide),λp hp=>q Zh _ QCW (p,1,SO))
  |Uo k x=>
   let o:x.WX+1≤n+1:=o;let⟨X,dx,u,e,r,C⟩:=hp;cases e;let⟨D,l,i,ε,h1,l1⟩:=C.XO;cases k<;>show(_,h7 (ln (A' (By u5 (By QBx Ck)))),0,a,_,dx,9,r,(b _).cl,(b _).nI,uh _,x.kd,D,l,i,1,h1,l1,D,x,1,C,1,!6,λf m g d=>(nt (by change 2≤16777216;decide),λp hp=>q Zh _ (g.ξ QCW) (p,f,1,SO,d.kp (a_.kp QCW))))
  |Vb k x y=>
   let o:max x.WX y.WX+1≤n+1:=o;let⟨X,dx,u,Y,e,r,C,hy⟩:=hp;cases e;let⟨D,l,i,ε,h1,l1⟩:=C.XO;let Z:∀(k:K2)(f:V)(m:Hp),a_ H m->ah m x f->(∀v H',a_ H H'->ah H' QHY v->Q v H')->rT c "shape" (cj c n) E0 (λ_ H R=>R Y H) [] m λJ U=>3≤Λ/\∀p,U p=ζ->Q Zh (L2.QO U p (.RJ [.Qn QIL,f,J])):=λk f m g d q=>by
    let B:=hy.kp (a_.kp g);let⟨W,T,O,ε,h2,l2⟩:=B.XO;show(y.kd,W,T,O,1,h2,l2,W,y,1,B,1,Ip o,λJ U s2 M=>(nt (by change 3≤16777216;decide),λp hp=>q Zh _ (g.ξ (s2.ξ QCW)) (p,f,J,1,SO,d.kp (a_.kp (s2.ξ QCW)),M.kp (a_.kp QCW))))
   cases k<;>show(_,h7 (ln (A' (By u5 (By QBx (By QBx Ck))))),0,a,_,dx,9,r,(b _).cl,(b _).nL,xn _ _,x.kd,D,l,i,1,h1,l1,D,x,1,C,1,!6,λf m g d=>(0,a,_,dx,9,g _ _ r,(b _).cl,(b _).nR,uf _ _,Z _ f m g d q))
instance Nl:Rb:=Ch (sB 51) 2
def jY:s_ ["self",Q3] ["self",Q3] (hY Nl):=QFi
inductive r9 QFG(UI:θ)QC_ ZF ZC ZV QD8:Prop
 |mk QBz QDR Zp QGm QGu QFu QFV QDl QBL QBF
abbrev yz QKa Z' ZZ Z3 QMv QFG(UI:θ)QC_:Prop:=∃f fd,(∀k,aR K (c k) Q0 f)/\ym K fd ["self",Q3] []/\aa P w K mg ς QBC 23 f fd ["self",Q3] (r9 c UI ts)
def kj(F:so K Q0 "Pattern.machine" Nl f fd)(x:fD P w K mg ς c cP)(o:Df P w K mg ς "need_letters" 2 [Q3] sp_needletters)(r:Bi P w K mg ς "machine_of" 22 [Q3,"shape"] (Ke UI ts 12)):aa P w K mg ς QBC 23 f fd ["self",Q3] (r9 c UI ts):=by
 refine F.okX jY ZE (λU' A Id s H vs Q E l h=>?_)
 .obtain ⟨a,t,L,ε,_⟩:=h;rfl
 .obtain ⟨a,t,L,ε,hp,u,v,G,C,q⟩:=h;let⟨fs,I,D,M,N⟩:=x.sh;let i:=l.Ti (j:=2) (!0);let b:=l.Ti (j:=12) (!0);let⟨O,n,m,J,h1,l1⟩:=hp.XO;cases J;refine(_,(hJ (C6 (ry o i (By ZD Ck))) (h7 (ln (Cp r l Zr (By ZD (By (GH Y' (λk=>(x.pc k).cl) D (N 12) b M BV) Ck)))))),3);show(0,L,1,v,4,t.kd,a,n,m,1,h1,l1,a,t,1,hp,1,u,λy R e g=>(L,t,y,1,g,u,v,(KT.of e).tb G,λd p pv H' k=>C d p pv H' QUD,λf W B H' k=>q f W B H' QUD))
end
inductive bF ZZ ZF ZC ZV Zk:Prop
 |mk QJP QT5 (_:vs=[.ν p]) (_:lb K H p QI2) (_:(∀x∈ns,x<8)) (_:∀t H',a_ H H'->H' t<*.RJ (b' (BR ns))->Q QBZ H')
inductive sp_hasm ZF ZC ZV Zk:Prop
 |mk (m v:θ) (o:HO) Zp QCF Zg QES QQZ QAx QB8 QI9 (_:H v<*o) (_:k.β≤60) QPn (_:∀H',a_ H H'->Q (.bl (k.VA λr=>B.Φ r μ)) H')
namespace Tu
inductive sp_rinto ZF ZC ZV Zk:Prop
 |mk (m st:θ) Zp QCF Zg QEO (S:LN) (_:vs=[.ν m,.QB (j:ψ),.ν st]) QAx QB8 (_:j<L.β) (_:H st<*.RJ (b' S)) (_:∀p H',a_ H H'->H' p<*.RJ (b' (bA W S j))->Q Zh H')
inductive BI(cW P1:θ)QG6 ZF ZC ZV Zk:Prop
 | mk (m:θ) (L:LN) (W:LL) (B:γ Ω) (_:vs=[.ν m]) (_:v_ H m L W B) (_:hI L W B) (_:W.β≤8) (_:AH H P1 Rt) (_:∀(wk t wd y md:θ)(ks:LL)(ws:LL)(Ta:γ θ)(R:LL)(Bm:γ Ω)(H':Hp),BY P1 H H'->AH H' P1 Rt->GD H' cW wk L t wd y md->H' wd<*.QM (ms ws)->H' y<*.QM (Ta.QY V.ν)->Dj H' Ta R->H' md<*.QM (Bm.QY V.bl)->
  Bf (bA W) L (Bo W B) ks ws ks.β 0->Cv (bA W) L.β ks R->R.β=ks.β->Bm.β=R.β->(∀(r:υ)(k:LN)(b:Ω),ks[r]?<*k->Bm[r]?<*b->b=uK k)->ks.β≤256->Q (.ν wk) H')
instance kb:Rb:=sB 25
instance aG:Rb:=(n' kb).Φ 0 QA4
instance q_tg:QL:="walked_turned.<locals>.goals_of"
instance q_tl:QL:="walked_turned.<locals>.<lambda>"
instance jl:SF:=match (n' kb).Φ 2 QA4 with
 |.Return (δ (.Tl _ [_,_,_,l] _ _)) _=>l
 |_=>.Rn "" ZI
instance g_p:UW:=match jl with|.Uy a _ _ _=>a|_=>([],[],ζ,[],[],ζ,[])
instance g_o:SF:=match jl with|.Uy _ b _ _=>b|_=>.Rn "" ZI
instance VC:TB:=match jl with|.Uy _ _ s _=>s|_=>hY aG
instance kz:T6:=match jl with|.Uy _ _ _ p=>p|_=>((0),(0),(0),(0))
abbrev AC:γ QBc:=[(bz aG,q_tg,),(kz,q_tl,)]
def oi:KM ["state",Q0] "state" [Q0] QLI:=(5,1,!3,5,!0,1,!3,λ_ _=>rfl,λ_=>rfl)
def sG:Ct ["state"] ["state"] [] VC:=Zu
section
variable{P:IO}{w:QV}{K:Qt}{mg:QL->χ η}{ς:Qx}{f c m:θ}{R8:γ QAM}{Tm pm ctv:η}{L:LN}{W:LL}{B:γ Ω}
def tL QDF(N:ς.SD ZS q_tg)(C:AN ς R8 QLI [Q0] [.ν m])(F:hI L W B)(y:mg "len"=ζ)(g:mg "range"=ζ)(O:Df P w K mg ς "rooms_into" 1 [Q0,"place",Q4] sp_rinto):aa P w K mg ς na 2 f QCf ["state"] (HZ .t L (bA W) (fJ W.β) λH=>v_ H m L W B):=by
 refine zR (Xy:=[.ν m]) ho ε N oi C ZE (λA Id s H X Q E Z h=>?_)
 .obtain ⟨k,v,ε,_⟩:=h;rfl
 .obtain ⟨k,v,ev,M,hU,U,q⟩:=h;obtain ε:X=v:=by simpa using ev
  refine(_,(h7 (ln (Mb ["state",Q0] ε (!0) (C8 ε g (mq (BN Nz (!4) y XM (mq QLE)))) (λcl C fp s' H'=>(AZ,(ry O Z (AI ZO Y' ZD))))))),3);unfold Ai at M;rw[Fr (!0)]at M;let⟨b,ε,hb⟩:=M;let G:=F.lt.hi;let hz:(tx L).β≤Λ:=nt (by rw[hF];show LE G (!0));let⟨wy,mk,S,h1,h2,h3,h4,h5⟩:=id U;dsimp only[fG];refine KB (n:=L.β) (λR h=>(k_ h1 ad (0,hz,by rw[hF];show h))) (LE G (!0)) (λD j ys H'=>∃ts:γ θ,A3 QLJ (ts.β=j) (∀Zi QBz,ts[i]?<*a->H' a<*.RJ (b' (bA W k i)))) (λD I=>([],5,λi a e=>by simp at e)) ?_ ?_
  .intro D j ys H' R1 R2 I hj d p hp k1 k2;let⟨ts,ε,l,o⟩:=hp;refine hG (4,0,m,b,L,W,B,j,k,3,U.SL d,F,hj,d _ _ hb,λt H4 J Y=>?_)
   .rw [ψ.TJ];rfl
   let r:=J _ _ p;refine k1 QBZ _ r (a_.US (d.ξ J) I) (ts++[t],by rw[Q2];rfl,by rw[u4,l];rfl,λi u e=>?_);rcases Ej e with z|⟨rfl,ε⟩
   .exact q5 (J _ _ (o i u z)) r (!5)
   .rw [l];show q5 Y r (!5)
  .intro D ys H' I d p hp;let⟨ts,ε,l,o⟩:=hp;refine q D QEg H' d (.RF (I,p)) (by rw[j',l]) λj x T=>?_;rw[nq]at T;let⟨a,ha,ε⟩:=AS T;unfold Ai;rw[Fr (!0)];show(a,1,o j a ha)
def tK(i:ς.Δ f<*YB "<lambda>" q_tl g_p g_o VC R8 pm c ctv)(g:ς.SD ZS q_tl)QPt(a:Hp->Prop)(U:LL):aa P w K mg ς na 1 f (kla_fn "<lambda>" q_tl g_p g_o VC R8 pm ZS ctv) ["state"] (bG .t uK U a):=by
 refine bY (Xy:=[]) i ε g sG C ZE (λA Id s H vs Q E l h=>?_)
 .obtain ⟨k,v,ε,_⟩:=h;rfl
 .obtain ⟨k,v,ε,d,n,o,q⟩:=h;refine(_,CG gK c_ Y' QAQ,3);unfold Ai at d;rw[Fr (!0)]at d;let⟨b,ε,j⟩:=d;refine(0,b,0,.RF (pu.of j),1,Mf _,3);let e:Hb (.QB 0) (b' k)=uK k:=eE 0 k;change Q (.bl (Hb (.QB 0) (b' k))) H;rw[e];show q H QPL
end
def c_o:s_ [Q0,Z0,"start"] [Q0] (hY kb):=v5
def CD(Wd:Hl X U e H d)QCh QBv:AN d b sc [] []:=
 (λy z c h1 h2=>Wd.Tx y z c QQe QQf,Vl,λy c h=>Wd.R9 y c QTB,1,λi y v h1 h2=>by simp at h1)
set_option maxHeartbeats 8000000 in
def EY{P:IO}QE8{oc kV Tm pm ct aS ar G ap j az bk:η}(lk:K.ρ f<*(oc,od,.VL (U9 "walked_turned" "walked_turned" (t_ kb) (n' kb) (hY kb) .ζ kV Tm pm an ZS ct),cp))(bM:UN K ZS "walked_turned"=ο)(lw:K.ρ fw<*(aS,bi,.VL (U9 "walked" "walked" QLF QLG QJC QKX ar G ap an2 j az),osl2))(cw:UN K j "walked"=ο)QCX(mw:mg "walked"<*.ν fw)(lD:K.ρ tD<*(bk,cv,.V8 #[.ζ] nD,cf))QCG(T:mg "len"=ζ)(aC:mg "zip"=ζ)(aH:mg "tuple"=ζ)(J:mg "range"=ζ)(ab:mg "enumerate"=ζ)QGw QFt(DR:∀ς:Qx,Df P w K mg ς "rooms_into" 1 [Q0,"place",Q4] sp_rinto):aa P w K mg ς na 6 f (U9 "walked_turned" "walked_turned" (t_ kb) (n' kb) (hY kb) .ζ kV Tm pm an ZS ct) [Q0] (BI cW P1 AC):=by
 refine oY lk bM c_o ZE QAB
 .obtain ⟨m,L,W,B,ε,_⟩:=h;rfl
 .obtain ⟨m,L,W,B,ε,hM,O,hW8,hT,q⟩:=h;refine(_,(hJ (FJ (i:=1) (Qz:=q_tg) (c:=c) (P0:=P1) (Rt:=AC) c_o.nd ε QBK ε hC hB (!3) (!3)) (hJ (n_ 2 c_o.nd (DM Gs (!4) aH Tj (mq (KL [Q0,Z0,"start"] ε (!0) (oo ε ab QNX) (λcl C fp s' H'=>(iH (A1 ZD),pv 0)))))) (h7 (ln (JG (dvs:=[.UT]) ε mw kw (Ka (kV:=ar) (Tm:=G) (pm:=ap) (an:=an2) (U':=j) (ct:=az) lD) QCr (By Zc (AI ZO ZD (bO (Qz:=q_tl) (c:=c) (P0:=P1) (Rt:=AC) ε hC hB (!3) (!3)))) QGe))))),3);refine(hT,λaA F l H1 aN a5 cH cA s1 a7 a2 a0=>?_);let a8:v_ H1 m L W B:=hM.Uk (FN s1 hT);let⟨wy,mk,b4,h1,h2,h3,h4,h5⟩:=id a8;let a3:=O.bl;let aU:=O.n60;dsimp only[A2];dsimp only[Vo,aW,aQ,BM,Al,BK,Bc];refine Md (c:=mk) QGO QKK h3 (λD i ys H'=>ys=b' ((γ.Q' i).VF λr=>B.Φ r μ)) (by rw[j',a3];show nt (LE aU (!0))) QD5 ?_ ?_
  .intro D i x ys H' H3 R1 R2 hD hx M S hp g k1 k2;rw[nq]at hx;let⟨b,v,ε⟩:=AS hx;let eb:B.Φ i μ=b:=by rw[n0,v];rfl
   refine(4,3);cases b with
   |ο=>
    refine ay (0,k1 _ H3 (g _ _ S) (a_.US (M.ξ g) hD) ?_);rw[hp,Ab,eb];show(KF _ _).QU
   |μ=>
    refine ai (k2 H3 (M.ξ g) (g _ _ S) ?_);rw[hp,Ab,eb];simp
  intro D ys H2 hD M S hp;rw[j',a3]at hp;subst hp;refine(D,0,.RB (lb.of S,λst WB=>?_));let s2:a_ H1 (L2.QO H2 st QBu):=M.ξ QGg;let X:L2.QO H2 st QBu st<*.RJ (b' QRs):=SO;generalize L2.QO H2 st QBu=H3 at s2 X;let N:=GE a7 s2;refine(k_ (s2 _ _ h1) ad (4,N,λb1 f2 c2 I aM a4 cD cx s4 bT a1 aV=>?_));let⟨ch,bV,_⟩:=id a7;let⟨cg,cC,_⟩:=id N;let⟨bg,bU,bs,as⟩:=id bT;let nP:∀Zz QBk,H1 b<*.ext φ->b≠P1:=λ{b φ}e z=>by rw[z,bV]at e;cases e
  let Y:I F<*bh F Z0 q_tg (t_ aG) (n' aG) QLI aA l:=s4 F _ (nP a0) (s2 _ _ a0);let Z:I l<*p_ l q_tg:=s4 l _ (nP a2) (s2 _ _ a2);let b0:v_ I m L W B:=(a8.SL s2).Uk (FN s4 N);let U:I st<*.RJ (b' QRs):=FN s4 N _ _ X;let a6:∀u∈[F,f2,l,c2],∃φ,I u<*.ext φ:=λu hu=>by
   simp only[QW,Si,T8]at hu;rcases hu with ε|rfl|rfl|rfl
   .exact (_,Y)
   .exact (_,aV)
   .exact (_,Z)
   .exact (_,a1)
  refine([F,f2,l,c2],a6,λd Wd=>?_);let⟨b5,co,cd,bb⟩:=Wd.ext F _ (!1) Y;let⟨cn,b6,a9⟩:=Wd.ext f2 _ (!1) aV;let b3:d.SD QFM q_tg:=Wd.ext l _ (!1) Z;let b2:d.SD (.ν c2) q_tl:=Wd.ext c2 _ (!1) a1;let C1:=jr (sc:=hY aG) (m:=m) Wd aN a5 ε ε ε ε (!3);let C2:=CD (sc:=VC) Wd aM a4;let Fw:lL K "walked" "walked" Be fw _:=((aS,bi,.ν tD,ar,G,ap,an2,j,az,osl2,1,lw,cw),kw);refine((5),H_ cW .t L (bA W) uK (fJ W.β) QQw F f2,hr,J_ Fw WT T aC ((tL bb b3 C1 O T J (DR d)).Ti (!0)) ((tK a9 b2 C2 _ _).Ti (!0)) bb QAy a9 QAy (.Tk λus hl=>by let⟨_,ε⟩:=D3 hl;rfl) (.Tk λus hl=>by let⟨_,ε⟩:=D3 hl;rfl) QHZ,3);let p:∀Zz QHg,I b<*o->QBt->b∉[F,f2,l,c2]:=λ{b o}e ho v=>by
   let⟨φ,e2⟩:=a6 b v;rw[e]at e2;show ho φ (χ.δ.Tx e2)
  refine(Bo W B,.ν st,ζ,1,O.lt,3,KO _ _,λk hk q hq=>KO _ _,LE (jR hW8) (!0),b0.Uk λb xs e=>by rw[Bv (p e ZA)];show e,λwk t wd y md ks ce ws ag R Bm H5 bd hW ht cB bo hy aT bt bf aB bl bm VJ le he bS=>?_)
  .unfold Ai;rw[Fr (!0)];show(st,1,by change y_ _ I st=_;rw[Bv (p U ZA)];show U)
  let hR:R.β=ks.β:=by
   rcases he with z|⟨n,z,_⟩
   .exact z
   .cases z
  let X8:∀Zz QHg,H5 b<*o->X1 [F,f2,l,c2] I H5 b<*o:=λ{b o}e=>by
   rw[DV λv=>?_]
   .exact e
   .rw [bS b v]at e;cases e
  let au:∀Zz QHg,I b<*o->X1 [F,f2,l,c2] I H5 b<*o:=λ{b o}e=>by
   by_cases v:b∈[F,f2,l,c2]
   .rw [Hk v];show e
   .exact X8 (bd b o (by rw[Bv v];show e))
  rw[hR]at bf;let⟨dx,ew⟩:=hW.ex;show q wk t wd y md ks ws ag R Bm _ (λb o v e=>au (s4 b o v (s2 _ _ (s1 b o v e)))) (bg,au bU,bs,λx hx=>(as x hx).imp id λbP=>by let⟨c',e1,e2⟩:=bP;show(c',e1,au e2)) QJF (X8 bo) (X8 hy) (aT.1,λi a r e1 e2=>X8 (aT.2 i a r e1 e2)) (X8 bt) bf aB hR bl bm (LE le (jR hW8))
end Tu
namespace A
inductive yc Zg QBM QFI ZF ZC ZV Zk:Prop
 |mk QJP QGk (_:vs=[.ν p]) QR6 (_:(∀x∈l,x<n)) (_:l.β≤50) QN3 (_:∀t H',a_ H H'->bC .q H' (nE B l) t->Q QBZ H')
def a0e{Rt a:γ QBc}QP1 QMr(i:P1≠P0)QOE:AH H' P1 a:=by
 let⟨e,c,_⟩:=j;let⟨ps,k,g,b⟩:=h;refine QAO;rw[z,c]at d;cases d
inductive Ql(XU P0 P1:θ)(Rt sitesA:γ QBc)ZF ZC ZV QD8:Prop
 |mk QP0 Zp QCF Zg QHx QAx QB8 QP2 QMt (_:AH H P1 sitesA) (_:P1≠P0) QN_ (_:∀QDo(W':LL)QHG QAe,B5 H H'->v_ H' f L W' B'->hI L W' B'->(∀u:LN,ZK->(B'.Φ QNC μ=ο↔Ag QAG u))->Q Ze H')
instance u_:Rb:=sB 33
instance bK:Rb:=(n' u_).Φ 1 QA4
instance bx:Rb:=(n' u_).Φ 2 QA4
instance q_ae:QL:="again.<locals>.entered"
instance q_ag:QL:="again.<locals>.goals_of"
instance q_al:QL:="again.<locals>.<lambda>"
instance xI:SF:=match (n' u_).Φ 3 QA4 with
 |.Return QGh _=>l
 |_=>.Rn "" ZI
instance g_p:UW:=match xI with|.Uy a _ _ _=>a|_=>([],[],ζ,[],[],ζ,[])
instance g_o:SF:=match xI with|.Uy _ b _ _=>b|_=>.Rn "" ZI
instance VC:TB:=match xI with|.Uy _ _ s _=>s|_=>hY bx
instance kz:T6:=match xI with|.Uy _ _ _ p=>p|_=>((0),(0),(0),(0))
abbrev sitesA:γ QBc:=[(bz bK,q_ae,),(bz bx,q_ag,),(kz,q_al,)]
def Pu:Ct [Q4,"piece"] [Q4] ["piece"] QNY:=Zu
def Pv:Ct ["state","entered","piece"] ["state"] ["entered","piece"] QNZ:=Zu
def Pw:Ct ["state"] ["state"] [] VC:=Zu
section
variable{P:IO}{w:QV}{K:Qt}{mg:QL->χ η}{ς:Qx}{f c m g:θ}{R8:γ QAM}{Tm pm ctv:η}{L:LN}{W:LL}{B:γ Ω}
def Px(U:ς.Δ f<*YM "entered" q_ae (t_ bK) (n' bK) QNY R8 Tm pm c ctv)(D:ς.SD ZS q_ae)(C:AN ς R8 QNY ["piece"] [.ν m])(F:hI L W B)(Y:W.β≤8)(G:Df P w K mg ς "has_marked" 1 [Q0,Q4] sp_hasm)(b:Df P w K mg ς "lot_of" 1 [Q4] QR7):aa P w K mg ς na 2 f (Ξ.W.fnX "entered" q_ae (t_ bK) (n' bK) QNY R8 .ζ .ζ Tm pm ζ ZS ctv) [Q4] QJ9:=by
 refine Gz (Xy:=[.ν m]) U ε D Pu C ZE (λA Id s H vs Q E v h=>?_)
 .obtain ⟨p,l,ε,_⟩:=h;rfl
 .obtain ⟨p,l,ε,hp,hlW,hl50,X,q⟩:=h;refine(_,(hJ (q_ (A1 (ry G v (q4 ZD Y'))) (h7 (ln (A' (q4 AK (ry b v (mq (o5 FD Y' (Bb (mq c_))))))))) (ri)) (h7 (ln (A' (q4 AK (ry b v QCo)))))),3);refine(4,m,p,_,L,W,B,l,1,X,F,.RB ε,hp,LE hl50 (!0),hlW,λT e=>(0,3));let R:∀x∈l,x<8:=λx k=>LT (hlW x k) Y;let Vb:2≤Λ:=nt (!0);unfold nE at q;cases J:l.VA QFq with
  |ο=>
   rw[QC J]at q;refine ay ?_;refine(0,nt (by change 1≤16777216;decide),λd a=>?_);let s2:=e.ξ (a_.QO (o:=.QM [.QB 0]) a);let O:=yl (u:=.QM [.QB 0]) (e _ _ hp) a;let N:L2.QO T d QIP d<*.QM [.QB 0]:=SO;generalize L2.QO T d QIP=S at s2 O N;refine(p,d,2,O,N,nt (by rw[d_];change l.β+1≤16777216;show Gb hl50),λi y=>?_);let I:=s2.ξ (a_.QO (o:=.QM QC5) y);let M:L2.QO S i QPM i<*.QM (b' (l++[0])):=by rw[SO,b',b',Q2];rfl
   generalize L2.QO S i QPM=H3 at I M;refine(i,l++[0],1,lb.of M,λx k=>?_,λt Z j n=>(Vb,λst WB=>q st _ (I.ξ (j.ξ QGg)) (t,(1),0,QD _,SO,yl n WB)));rcases Rr.mp k with z|z
   .exact R x z
   .rw [wh z];decide
  |μ=>
   rw[Fr (by rw[J];show Ω.Q9)]at q;refine ai (0,p,l,1,lb.of (e _ _ hp),R,λt Z j n=>(Vb,λst WB=>q st _ (e.ξ (j.ξ QGg)) (t,(0),0,RP _,SO,yl n WB)))
def Py(ho:ς.Δ f<*YM Z0 q_ag (t_ bx) (n' bx) QNZ R8 Tm pm c ctv)(ab:ς.SD ZS q_ag)(C:AN ς R8 QNZ ["entered","piece"] [.ν g,.ν m])(y:hI L W B)(h8:W.β≤8)(ar:Df P w K mg ς "lots_after" 1 [Q0,Q4] Wc)QJo(an:ym K fd [Q4] [])(R:aa P w K mg ς na 2 g fd [Q4] QJ9):aa P w K mg ς na 3 f (Ξ.W.fnX Z0 q_ag (t_ bx) (n' bx) QNZ R8 .ζ .ζ Tm pm ζ ZS ctv) ["state"] (HZ .q L QRw (EN W.β) λH=>v_ H m L W B):=by
 refine Gz (Xy:=[.ν g,.ν m]) ho ε ab Pv C ZE QAB
 .obtain ⟨k,v,ε,_⟩:=h;rfl
 .obtain ⟨k,v,ε,X,hU,hM,q⟩:=h;let Y:=hr.Ti (j:=1) (!0);refine(_,(h7 (ln (Mb ["state","entered","piece"] ε (!0) (BQ (ry ar Y (q4 ZO Zc))) (λcl C fp s' H'=>(AZ,JE (i:=2) R hr hg an ZO QCo))))),3);let⟨b0,S,ε,au,hS,I⟩:=rK hU;unfold Ai at X;rw[Fr (!0)]at X;let⟨b,ε,c0,x,ks,e0,as,hb,ag⟩:=X;cases e0;let ap:=y.lt.hi;dsimp only[fG];refine(0,k_ hb aq (m,c0,_,L,W,B,S,1,hM,y,.RF ε,ag,LE I (!0),hS,λl ls H1 U hl r Z=>?_));refine(l,9,.RB ε,hl,λJ ov=>LW ov hl (λD j ys H'=>∃ts:γ θ,A3 QLJ (ts.β=j) (∀Zi QBz,ts[i]?<*a->bC .q H' (Ic W B (b0::S) i) a)) (by rw[j',r];show nt (LE ap (!0))) (λD O=>([],5,λi a e=>by simp at e)) ?_ ?_)
  .intro D j x ys H' R1 R2 O G n F hp k1 k2;let⟨ts,ε,d,p⟩:=hp;rw[nq]at G;let⟨a,N,ε⟩:=AS G;let hj:j<L.β:=by rw[<-r];show(m8 N).1
   refine hG (6,a,gA W S j,1,n _ _ (Z j a N),ia y hS hj,by rw[gA,j'];show LE I (!0),(hM.SL U).SL n,λt H4 T ht=>?_);let M:=T _ _ F;let up:∀QHg b xs,H4 b<*.RJ xs->L2.QO H4 D o b<*.RJ xs:=λb xs e=>q5 e M (!5);refine k1 QBZ _ M (a_.US (n.ξ T) O) (ts++[t],by rw[Q2];rfl,by rw[u4,d];rfl,λi u e=>?_);rcases Ej e with z|⟨rfl,ε⟩
   .exact ((p i u z).SL λb xs e=>T _ _ e).SL up
   .rw [d];show ht.SL up
  .intro D ys H' O n F hp;let⟨ts,ε,d,p⟩:=hp;rw[j',r]at d;refine q D QEg H' (U.ξ n) (.RF (Hj U O,F)) (by rw[j',d]) λj x G=>?_;rw[nq]at G;let⟨a,N,ε⟩:=AS G;unfold Ai;rw[Fr (!0)];show(a,1,p j a N)
def Pz(j:ς.Δ f<*YB "<lambda>" q_al g_p g_o VC R8 pm c ctv)(e:ς.SD ZS q_al)QPt(a:Hp->Prop)(U:LL):aa P w K mg ς na 1 f (kla_fn "<lambda>" q_al g_p g_o VC R8 pm ZS ctv) ["state"] (bG .q zw U a):=by
 refine bY (Xy:=[]) j ε e Pw C ZE QLK
 .obtain ⟨k,v,ε,_⟩:=h;rfl
 .obtain ⟨k,v,ε,d,p,r,q⟩:=h;refine(_,o_ 0,3);unfold Ai at d;rw[Fr (!0)]at d;let⟨b,ε,c0,x,ks,ε,i,n,l⟩:=d;show(k_ n ad (q H QPL))
end
end A
namespace H
inductive mn QQh(n1 n2:υ)QFI ZF ZC ZV Zk:Prop
 |mk QPT QJP QGk (_:vs=[.QB (r:ψ),.ν p]) QR6 (_:r<n1) (_:(∀x∈l,x<n2)) (_:l.β≤50) QN3 (_:∀t H',a_ H H'->bC .p H' (gh B1 r l) t->Q QBZ H')
def a0e{Rt a:γ QBc}QP1 QMr(i:P1≠P0)QOE:AH H' P1 a:=by
 let⟨e,c,_⟩:=j;let⟨ps,k,g,b⟩:=h;refine QAO;rw[z,c]at d;cases d
inductive Qm(XU cOL P0 P1:θ)(Rt sitesH:γ QBc)ZF ZC ZV QD8:Prop
 |mk QPV (L L':LN) QJ5 QEQ QGl QIr QMs (_:v_ H m2 L' W2 B2) (_:hI L' W2 B2) QOG QOH QMt (_:AH H P1 sitesH) (_:P1≠P0) (_:(∀H',L≠L'->E (.ν cOL) ζ H')) QN_ (_:∀QDo(W':LL)QHG QAe,L=L'->B5 H H'->v_ H' f L W' B'->hI L W' B'->(∀u:LN,ZK->(B'.Φ QNC μ=ο↔∃x v,u=x++v/\B1.Φ QIJ μ=ο/\B2.Φ (SZ L W2 0 v) μ=ο))->Q Ze H')
instance x_:Rb:=sB 32
instance bc:Rb:=(n' x_).Φ 3 QA4
instance aG:Rb:=(n' x_).Φ 4 QA4
instance q_te:QL:="then.<locals>.entered"
instance q_tg:QL:="then.<locals>.goals_of"
instance q_tl:QL:="then.<locals>.<lambda>"
instance jl:SF:=match (n' x_).Φ 5 QA4 with
 |.Return QGh _=>l
 |_=>.Rn "" ZI
instance g_p:UW:=match jl with|.Uy a _ _ _=>a|_=>([],[],ζ,[],[],ζ,[])
instance g_o:SF:=match jl with|.Uy _ b _ _=>b|_=>.Rn "" ZI
instance VC:TB:=match jl with|.Uy _ _ s _=>s|_=>hY aG
instance kz:T6:=match jl with|.Uy _ _ _ p=>p|_=>((0),(0),(0),(0))
abbrev sitesH:γ QBc:=[(bz bc,q_te,),(bz aG,q_tg,),(kz,q_tl,)]
def PB:Ct [Z4,Q4,"ahead"] [Z4,Q4] ["ahead"] QJG:=Zu
def oi:Ct ["state","goals","ahead","behind","entered"] ["state"] ["ahead","behind","entered"] QLI:=Zu
def sG:Ct ["state","behind"] ["state"] ["behind"] VC:=Zu
abbrev Two ZC QPV Zp QJ5 QEQ:Prop:=v_ H m L W1 B1/\v_ H m2 L W2 B2
section
variable{P:IO}{w:QV}{K:Qt}{mg:QL->χ η}{ς:Qx}{f c m m2 g:θ}{R8:γ QAM}{Tm pm ctv:η}{L:LN}{W1 W2:LL}{B1 B2:γ Ω}
def yj(S:ς.Δ f<*YM "entered" q_te (t_ bc) (n' bc) QJG R8 Tm pm c ctv)(v:ς.SD ZS q_te)(C:AN ς R8 QJG ["ahead"] [.ν m])(z:hI L W1 B1)(y:hI L W2 B2)(U:W2.β≤8)(B:Df P w K mg ς "lot_of" 1 [Q4] QR7):aa P w K mg ς na 2 f (Ξ.W.fnX "entered" q_te (t_ bc) (n' bc) QJG R8 .ζ .ζ Tm pm ζ ZS ctv) [Z4,Q4] QEV:=by
 refine Gz (Xy:=[.ν m]) S ε v PB C ZE (λA Id s H vs Q E R h=>?_)
 .obtain ⟨r,p,l,ε,_⟩:=h;rfl
 .obtain ⟨r,p,l,ε,hp,k,hlW,hl50,T,q⟩:=h;refine(_,(h7 (ln (A' (q4 Y' (ry B R (mq (dJ (A1 (EO (o_ 2) Y')) (o5 FD ZD (Bb (mq c_))) ZD))))))),3);let⟨Z,mk,F,h1,h2,X,h4,h5⟩:=id T.1;let b:∀x∈inT B1 r l,x<8:=λx O=>LT (eF hlW y.n1 x O) U;let Vb:2≤Λ:=nt (!0);unfold gh at q;refine(0,k_ h1 be (0,CA X (HW (fo z.bl k)) (0,3)));unfold inT at q b;cases G:B1.Φ r μ with
  |ο=>
   rw[QC G]at q b;refine ay ?_;refine(0,nt (by change 1≤16777216;decide),λd a=>?_);let s2:=a_.QO (o:=.QM [.QB 0]) a;let M:=yl (u:=.QM [.QB 0]) hp a;let J:L2.QO H d QIP d<*.QM [.QB 0]:=SO;generalize L2.QO H d QIP=N at s2 M J;refine(p,d,2,M,J,nt (by rw[d_];change l.β+1≤16777216;show Gb hl50),λe n=>?_);let D:=s2.ξ (a_.QO (o:=.QM QC5) n);let I:L2.QO N e QPM e<*.QM (b' (l++[0])):=by rw[SO,b',b',Q2];rfl
   generalize L2.QO N e QPM=H3 at D I;show(e,l++[0],1,lb.of I,b,λt Y i j=>(Vb,λst WB=>q st _ (D.ξ (i.ξ QGg)) QR8))
  |μ=>
   rw[Fr (by rw[G];show Ω.Q9)]at q b;show ai (0,p,l,1,lb.of hp,b,λt Y i j=>(Vb,λst WB=>q st _ (i.ξ QGg) QR8))
def tL QDF(az:ς.SD ZS q_tg)(C:AN ς R8 QLI ["ahead","behind","entered"] [.ν m,.ν m2,.ν g])(I:hI L W1 B1)(ap:hI L W2 B2)(M:mg "zip"=ζ)(aH:Df P w K mg ς "lots_after" 1 [Q0,Q4] Wc)QJo(aB:ym K fd [Z4,Q4] [])(R:aa P w K mg ς na 2 g fd [Z4,Q4] QEV):aa P w K mg ς na 3 f QCf ["state"] (HZ .p L QII QJ_ λH=>Two H m m2 L W1 W2 B1 B2):=by
 refine Gz (Xy:=[.ν m,.ν m2,.ν g]) ho ε az oi C ZE QAB
 .obtain ⟨k,v,ε,_⟩:=h;rfl
 .obtain ⟨k,v,ε,hv,hU,hM,q⟩:=h;let ar:=hr.Ti (j:=1) (!0);refine(_,(hJ (n_ 1 oi.nd (ry aH ar (q4 Zd Zc))) (h7 (ln (KL ["state","goals","ahead","behind","entered"] ε (!0) (HX ε M (q4 QMD ZD)) (λcl C fp s' H'=>(AZ,JE (i:=6) R hr hg aB QCQ QFE)))))),3);let⟨T,S,ε,X,hS,Z⟩:=lR hU;unfold Ai at hv;rw[Fr (!0)]at hv;let⟨b,ε,c0,x,ks,e0,hb,aA⟩:=hv;cases e0;let aC:=I.lt.hi;let⟨ag,ab⟩:=hM;refine(0,k_ hb aq (m2,c0,_,L,W2,B2,S,1,ab,ap,.RF ε,aA,LE Z (!0),hS,λl ls H1 O hl au as=>?_));let⟨wy,mk,B,h1,h2,h3,h4,h5⟩:=id (ag.SL O);obtain⟨rr,U⟩:∃rr,B[T]?<*rr:=(B[T]'(by rw[h4];show X),h_ _);let⟨ws,e5,e6⟩:=h5 _ _ U;let y:=I.YO ws (v7 e5);let ew:W1.Φ T []=ws:=by rw[n0,e5];rfl
  dsimp only[fG];refine NR (d1:=.tp rr) (d2:=.ls l) (λR h=>(k_ h1 aq (k_ (O _ _ hb) ad (CA h2 (BO V.ν U) (0,h))))) e6 hl (by rw[d_,j',au];show y.1)
   (λD j ys H'=>∃ts:γ θ,A3 QLJ (ts.β=j) (∀Zi QBz,ts[i]?<*a->bC .p H' (Ie W1 B1 W2 (T::S) i) a)) (by rw[d_,y.1];show nt (LE aC (!0))) (λD hD=>([],5,λi a e=>by simp at e)) ?_ ?_
  .intro D j x z ys H' H3 R1 hD J hz r G hp d k1;let⟨ts,ε,n,F⟩:=hp;let hj:j<ws.β:=by have:=(m8 J).1;rwa [d_]at this
   let Y:j<L.β:=by rw[<-y.1];show hj
   rw[Ca hj]at J;cases J;rw[nq]at hz;let⟨a,ha,ε⟩:=AS hz;let N:=O.ξ (r.ξ d);let eg:ws.Φ j 0=Tf W1 T j:=by unfold Tf;rw[ew]
   refine(1,4,ws.Φ j 0,a,gA W2 S j,1,(r.ξ d) _ _ (as j a ha),by rw[eg];show BA I X Y,ia ap hS Y,by rw[gA,j'];show LE Z (!0),(ag.SL N,ab.SL N),λt H4 s4 ht=>?_);rw[eg]at ht;let an:=s4 _ _ (d _ _ G);let up:∀QHg b xs,H4 b<*.RJ xs->L2.QO H4 D o b<*.RJ xs:=λb xs e=>q5 e an (!5);refine k1 QBZ _ an (a_.US (r.ξ (d.ξ s4)) hD) (ts++[t],by rw[Q2];rfl,by rw[u4,n];rfl,λi u e=>?_);rcases Ej e with z|⟨rfl,ε⟩
   .exact ((F i u z).SL λb xs e=>s4 _ _ (d _ _ e)).SL up
   .rw [n];show ht.SL up
  .intro D ys H' hD r G hp;let⟨ts,ε,n,F⟩:=hp;rw[d_,y.1]at n;refine q D QEg H' (O.ξ r) (.RF (Hj O hD,G)) (by rw[j',n]) λj x J=>?_;rw[nq]at J;let⟨a,ha,ε⟩:=AS J;unfold Ai;rw[Fr (!0)];show(a,1,F j a ha)
def tK(r:ς.Δ f<*YB "<lambda>" q_tl g_p g_o VC R8 pm c ctv)(d:ς.SD ZS q_tl)(C:AN ς R8 VC ["behind"] [.ν m2])(j:hI L W2 B2)(l:Df P w K mg ς "has_marked" 1 [Q0,Q4] sp_hasm):aa P w K mg ς na 2 f (kla_fn "<lambda>" q_tl g_p g_o VC R8 pm ZS ctv) ["state"] (bG .p (zv B2) QJ_ λH=>Two H m m2 L W1 W2 B1 B2):=by
 refine bY (Xy:=[.ν m2]) r ε d sG C ZE QLK
 .obtain ⟨k,v,ε,_⟩:=h;rfl
 .obtain ⟨k,v,ε,a,u,z,q⟩:=h;refine(_,(ry l o (q4 ZD Zc)),3);let⟨D,S,ε,n,y,i⟩:=lR u;unfold Ai at a;rw[Fr (!0)]at a;let⟨b,ε,c0,x,ks,B,t,e⟩:=a;cases B;show(0,k_ t aq (m2,c0,_,L,W2,B2,S,1,z.2,j,.RF ε,e,LE i (!0),y,q))
end
end H
instance DC:Rb:=sB 35
instance bJ:Rb:=(n' DC).Φ 1 QA4
instance bI:Rb:=(n' DC).Φ 2 QA4
instance q_pg:QL:="paired.<locals>.goals_of"
instance q_pm:QL:="paired.<locals>.is_marked"
abbrev dl:γ QBc:=[(bz bJ,q_pg,),(bz bI,q_pm,)]
def PD:Ct ["pair",Q0,"second"] ["pair"] [Q0,"second"] QNa:=Zu
def PF:Ct ["pair","is_wanted",Q0,"second"] ["pair"] ["is_wanted",Q0,"second"] QNb:=Zu
abbrev Two ZC QPV Zp QJ5 QEQ:Prop:=v_ H m L W1 B1/\v_ H m2 L W2 B2
section
variable{P:IO}{w:QV}{K:Qt}{mg:QL->χ η}{ς:Qx}{f c m m2 g cg:θ}{R8:γ QAM}{Tm pm ctv:η}{L:LN}{W1 W2:LL}{B1 B2:γ Ω}{Xl:Ω->Ω->Ω}
def PH(ho:ς.Δ f<*YM Z0 q_pg (t_ bJ) (n' bJ) QNa R8 Tm pm c ctv)(R:ς.SD ZS q_pg)(C:AN ς R8 QNa [Q0,"second"] [.ν m,.ν m2])(I:hI L W1 B1)(U:hI L W2 B2)(u:mg "list"=ζ)(z:mg "zip"=ζ):aa P w K mg ς na 1 f (Ξ.W.fnX Z0 q_pg (t_ bJ) (n' bJ) QNa R8 .ζ .ζ Tm pm ζ ZS ctv) ["pair"] (HZ .t L (gP W1 W2) QJ' λH=>Two H m m2 L W1 W2 B1 B2):=by
 refine Gz (Xy:=[.ν m,.ν m2]) ho ε R PD C ZE QAB
 .obtain ⟨k,v,ε,_⟩:=h;rfl
 .obtain ⟨k,v,ε,M,hU,hM,q⟩:=h;refine(_,(h7 (ln (kf ε ε u ε z (q4 (EO QLE Zc) QMD)))),3);let⟨a,b,ε,ha,hb⟩:=lT hU;unfold Ai at M;rw[Fr (!0)]at M;let⟨pp,ε,N⟩:=M;let⟨T,S⟩:=hM;let⟨wy,mk,n,h1,h2,h3,h4,h5⟩:=T;let⟨ab,ag,d,g1,g2,g3,g4,g5⟩:=S;obtain⟨D,G⟩:∃D,n[a]?<*D:=(n[a]'(by rw[h4];show ha),h_ _);obtain⟨J,p⟩:∃D,d[b]?<*D:=(d[b]'(by rw[g4];show hb),h_ _);let⟨ws,e5,e6⟩:=h5 _ _ G;let⟨y,f5,f6⟩:=g5 _ _ p;let i:=I.YO ws (v7 e5);let o:=U.YO y (v7 f5);let an:=I.lt.hi;let r:H pp<*.RJ [.QB (a:ψ),.QB (b:ψ)]:=N;refine(k_ h1 aq (k_ r ad (CA h2 (BO V.ν G) ?_)));refine(k_ g1 aq (k_ r aq (CA g2 (BO V.ν p) ?_)));refine(D,J,9,e6,f6,by rw[d_,d_,i.1,o.1],by rw[d_,i.1];lia,λl ts H2 B nd O sm hl ht=>?_);refine q l QEg H2 sm (.RF (O,hl)) (by rw[j',B,d_];show i.1) λj x Y=>?_;rw[nq]at Y;let⟨t,F,ε⟩:=AS Y;let Z:j<L.β:=by have:=(m8 F).1;rw[B,d_,i.1]at this;show this
  unfold Ai;rw[Fr (!0)];let ew:W1.Φ a []=ws:=by rw[n0,e5];rfl
  let X:W2.Φ b []=y:=by rw[n0,f5];rfl
  refine(t,1,3);let e:=ht j t _ _ F (Ca (by rw[i.1];show Z)) (Ca (by rw[o.1];show Z));change _<*HO.RJ (b' [Tf W1 a j,Tf W2 b j]);rw[e];unfold Tf;rw[ew,X];rfl
def PJ(G:ς.Δ f<*YM Q7 q_pm (t_ bI) (n' bI) QNb R8 Tm pm c ctv)(n:ς.SD ZS q_pm)(C:AN ς R8 QNb ["is_wanted",Q0,"second"] [.ν g,.ν m,.ν m2])(x:hI L W1 B1)(u:hI L W2 B2)(I:ς.Δ g<*(oc,Z,.VL fd,Y))(o:ym K fd ["one","two"] [])(R:aa P w K mg ς na 1 g fd ["one","two"] (dh Xl)):aa P w K mg ς na 2 f (Ξ.W.fnX Q7 q_pm (t_ bI) (n' bI) QNb R8 .ζ .ζ Tm pm ζ ZS ctv) ["pair"] (bG .t (NU Xl B1 B2) QJ' λH=>Two H m m2 L W1 W2 B1 B2):=by
 refine Gz (Xy:=[.ν g,.ν m,.ν m2]) G ε n PF C ZE (λA Id s H vs Q E F h=>?_)
 .obtain ⟨k,v,ε,_⟩:=h;rfl
 .obtain ⟨k,v,ε,j,N,O,q⟩:=h;refine(_,(h7 (ln (JE (i:=1) R F I o ZD (q4 QMD (EO (o_ 3) Zc))))),3);let⟨a,b,ε,M,J⟩:=lT N;unfold Ai at j;rw[Fr (!0)]at j;let⟨B,ε,l⟩:=j;let⟨r,p⟩:=O;let⟨X,mk,y,h1,h2,S,h4,h5⟩:=r;let⟨z,D,e,U,g2,T,g4,g5⟩:=p;let d:H B<*.RJ [.QB (a:ψ),.QB (b:ψ)]:=l;show(1,k_ h1 be (k_ d ad (CA S (HW (fo x.bl M)) (k_ U be (k_ d aq (CA T (HW (fo u.bl J)) (9,q H (a_.YS _))))))))
end
instance Ff:Rb:=sB 28
instance Kh:QL:="either.<locals>.<lambda>"
instance K6:SF:=match (n' Ff).Φ 0 QA4 with
 |.Return QFF _=>l
 |_=>.Rn "" ZI
instance lF:UW:=match K6 with|.Uy a _ _ _=>a|_=>([],[],ζ,[],[],ζ,[])
instance lE:SF:=match K6 with|.Uy _ b _ _=>b|_=>.Rn "" ZI
instance x_either:TB:=match K6 with|.Uy _ _ s _=>s|_=>hY DC
instance sY:T6:=match K6 with|.Uy _ _ _ p=>p|_=>((0),(0),(0),(0))
abbrev K7:γ QBc:=[(sY,Kh,)]
def pY:Ct ["one","two"] ["one","two"] [] x_either:=Zu
def p8:s_ [Q0,"second"] [Q0,"second"] (hY Ff):=v5
def qm(i:ς.Δ f<*YB "<lambda>" Kh lF lE x_either d pm c g)(e:ς.SD ZS Kh)(C:AN ς d x_either [] []):aa P w K mg ς na 1 f (kla_fn "<lambda>" Kh lF lE x_either d pm ZS g) ["one","two"] (dh QNN):=by
 refine bY (Xy:=[]) i ε e pY C ZE QEI
 .obtain ⟨a,b,ε,_⟩:=h;rfl
 .obtain ⟨a,b,ε,q⟩:=h;refine(_,(N_ Y' (Fv ZD)),3);cases a with
  |ο=>show(4,ay q)
  |μ=>show(4,ai (0,q))
instance Fh:Rb:=sB 29
instance dG:QL:="both.<locals>.<lambda>"
instance jn:SF:=match (n' Fh).Φ 0 QA4 with
 |.Return QFF _=>l
 |_=>.Rn "" ZI
instance vN:UW:=match jn with|.Uy a _ _ _=>a|_=>([],[],ζ,[],[],ζ,[])
instance vE:SF:=match jn with|.Uy _ b _ _=>b|_=>.Rn "" ZI
instance x_both:TB:=match jn with|.Uy _ _ s _=>s|_=>hY DC
instance zh:T6:=match jn with|.Uy _ _ _ p=>p|_=>((0),(0),(0),(0))
abbrev K8:γ QBc:=[(zh,dG,)]
def wz:Ct ["one","two"] ["one","two"] [] x_both:=Zu
def wD:s_ [Q0,"second"] [Q0,"second"] (hY Fh):=v5
def wW(i:ς.Δ f<*YB "<lambda>" dG vN vE x_both d pm c g)(e:ς.SD ZS dG)(C:AN ς d x_both [] []):aa P w K mg ς na 1 f (kla_fn "<lambda>" dG vN vE x_both d pm ZS g) ["one","two"] (dh QNO):=by
 refine bY (Xy:=[]) i ε e wz C ZE QEI
 .obtain ⟨a,b,ε,_⟩:=h;rfl
 .obtain ⟨a,b,ε,q⟩:=h;refine(_,(Fx Y' (Fv ZD)),3);cases a with
  |ο=>show(4,ay (0,q))
  |μ=>show(4,ai q)
instance Fi:Rb:=sB 30
instance dF:QL:="less.<locals>.<lambda>"
instance jm:SF:=match (n' Fi).Φ 0 QA4 with
 |.Return QFF _=>l
 |_=>.Rn "" ZI
instance vM:UW:=match jm with|.Uy a _ _ _=>a|_=>([],[],ζ,[],[],ζ,[])
instance vD:SF:=match jm with|.Uy _ b _ _=>b|_=>.Rn "" ZI
instance x_less:TB:=match jm with|.Uy _ _ s _=>s|_=>hY DC
instance zf:T6:=match jm with|.Uy _ _ _ p=>p|_=>((0),(0),(0),(0))
abbrev K9:γ QBc:=[(zf,dF,)]
def ww:Ct ["one","two"] ["one","two"] [] x_less:=Zu
def wC:s_ [Q0,"second"] [Q0,"second"] (hY Fi):=v5
def wV(i:ς.Δ f<*YB "<lambda>" dF vM vD x_less d pm c g)(e:ς.SD ZS dF)(C:AN ς d x_less [] []):aa P w K mg ς na 1 f (kla_fn "<lambda>" dF vM vD x_less d pm ZS g) ["one","two"] (dh QL_):=by
 refine bY (Xy:=[]) i ε e ww C ZE QEI
 .obtain ⟨a,b,ε,_⟩:=h;rfl
 .obtain ⟨a,b,ε,q⟩:=h;refine(_,(Fx Y' (Fv (mI ZD))),3);cases a with
  |ο=>show(4,ay (4,q))
  |μ=>show(4,ai q)
namespace H
def g_X:s_ [Q0,"second","ahead","behind","entered",Z0] [Q0,"second"] (hY x_):=v5
set_option maxHeartbeats 8000000 in
def FZ{P:IO}QE8 QCI QBV QFj(i1:(P1,sitesH,)∈ts){oc kV Tm pm ct b2 bi aM bd W bt cP:η}(lk:K.ρ f<*(oc,od,.VL (U9 "then" "then" (t_ x_) (n' x_) (hY x_) .ζ kV Tm pm an ZS ct),ey))(de:UN K ZS "then"=ο)(lw:K.ρ fw<*(b2,cO,.VL (U9 "walked" "walked" QLF QLG QJC QKX bi aM bd an2 W bt),osl2))(cw:UN K W "walked"=ο)QCX(mw:mg "walked"<*.ν fw)(lD:K.ρ tD<*(cP,ez,.V8 #[.ζ] nD,eo))QCG(bT:mg "len"=ζ)(aU:mg "zip"=ζ)QGw QFt(DL:∀ς:Qx,Df P w K mg ς "lots_after" 1 [Q0,Q4] Wc)(DH:∀ς:Qx,Df P w K mg ς "has_marked" 1 [Q0,Q4] sp_hasm)(DT:∀ς:Qx,Df P w K mg ς "lot_of" 1 [Q4] QR7)(d2:Df P w K mg ς "need_same_letters" 1 [Q0,"second"] sp_needsame72)(cH:Df P w K mg ς "least" 7 [Q0] QJH)(d3:Bi P w K mg ς "told" 4 [Q8] QTM):aa P w K mg ς QBC 8 f (U9 "then" "then" (t_ x_) (n' x_) (hY x_) .ζ kV Tm pm an ZS ct) [Q0,"second"] (ca XU ts js):=by
 refine Ib lk de g_X ZE QAB
 .obtain ⟨m,m2,L,W1,W2,B1,B2,ε,_⟩:=h;rfl
 .obtain ⟨n1,n2,L,V1,V2,D1,D2,ε,hN1,hNa1,cA,hNa2,h18,h28,hA,qE,q⟩:=h;let cx:=hA _ i0;let c7:=hr.Ti (j:=1) (!0);let c5:=hr.Ti (j:=2) (!0);let c4:=hr.Ti (j:=4) (!0);let cX:=hr.Ti (j:=5) (!0);refine(_,(hJ (C6 (ry d2 c7 QFE)) (hJ (n_ 2 g_X.nd (ry cH hr QCo)) (hJ (n_ 3 g_X.nd (ry cH hr QE0)) (hJ (FJ (i:=4) (Qz:=q_te) (c:=c) (P0:=P1) (Rt:=sitesH) g_X.nd ε (Or.RF ε) ε hC hB (!3) (!3)) (hJ (FJ (i:=5) (Qz:=q_tg) (c:=c) (P0:=P1) (Rt:=sitesH) g_X.nd ε QBK ε hC hB (!3) (!3)) (h7 (ln (Cp d3 c4 Zr (mq (JG (dvs:=[.UT]) ε mw kw (Ka (kV:=bi) (Tm:=aM) (pm:=bd) (an:=an2) (U':=W) (ct:=bt) lD) QCr (By (o_ 2) (AI (sU (i:=4) [Z4,Q4] QAr (q4 c_ QGN) QGe) QCC (bO (Qz:=q_tl) (c:=c) (P0:=P1) (Rt:=sitesH) ε hC hB (!3) (!3)))) QGe)))))))))),3);refine(4,n1,n2,L,V1,D1,V2,D2,1,hN1,cA,3);refine(0,n1,L,V1,D1,1,hN1,hNa1,cx,λm W1 B1 Ha sa bm dT U=>?_);let kA:KT ts H Ha:=KT.ofX nd i0 sa cx bm;let cM:=kA.sm;refine(0,n2,L,V2,D2,1,cA.Uk cM.RJ,hNa2,bm,λm2 W2 B2 H0 sb dr dS T=>?_);let G:=U.VB;let J:=T.VB;let dV:W1.β≤8:=LE U.Sr h18;let aH:W2.β≤8:=LE T.Sr h28;let kB:KT ts Ha H0:=KT.ofX nd i0 sb bm dr;let hT:AH H0 P1 sitesH:=kB.tb (kA.tb hA) _ i1;let cK:=kB.sm;let aB:Two H0 m m2 L W1 W2 B1 B2:=(dT.Uk cK.RJ,dS);refine(hT,λI D C H1 a1 a9 e4 eH s1 cv cg ce=>(cv,λaN Z X H2 bV cl e3 eC s2 bs dk dc=>?_));let b1:BY P1 H0 H2:=JN s1 s2;let a0:=FN b1 hT;let F:Two H2 m m2 L W1 W2 B1 B2:=(aB.1.Uk a0,aB.2.Uk a0);let⟨wy,mk,eb,h1,h2,h3,h4,h5⟩:=id F.1;let⟨er,dt,_⟩:=id cv;let⟨eq,ds,_⟩:=id bs;let b3:∀Zz QBk,H1 b<*.ext φ->b≠P1:=λ{b φ}e z=>by rw[z,dt]at e;cases e
  let cS:∀Zz QBk,H2 b<*.ext φ->b≠P1:=λ{b φ}e z=>by rw[z,ds]at e;cases e
  let as:H2 D<*bh D "entered" q_te (t_ bc) (n' bc) QJG I C:=s2 _ _ (b3 ce) ce;let a7:H2 C<*p_ C q_te:=s2 _ _ (b3 cg) cg;refine(k_ h1 ad (D,1,(7,7,7,_,as),RP _,λel dd=>?_));let sE:a_ H2 (L2.QO H2 el QBD):=a_.QO dd;let au:L2.QO H2 el QBD el<*.QM (b' []):=SO;generalize L2.QO H2 el QBD=H2' at sE au;let ar:=sE _ _ as;let a6:=sE _ _ a7;let az:Two H2' m m2 L W1 W2 B1 B2:=(F.1.SL sE,F.2.SL sE);let co:∀u∈[D,C],∃φ,H2' u<*.ext φ:=λu Y=>by
   simp only[QW,Si,T8]at Y;rcases Y with ε|rfl
   .exact (_,ar)
   .exact (_,a6)
  refine((7,7,7,_,ar),[D,C],co,λM bP=>?_);let⟨ec,es,eg,d1⟩:=bP.ext D _ (!1) ar;let d4:M.SD Zq q_te:=bP.ext C _ (!1) a6;let C5:AN M I QJG ["ahead"] [.ν m]:=GG bP a1 a9 ε λi y v l B=>by
   match i,l,B with
   |0,l,B=>cases l;cases B;show QJp
   |i+1,l,_=>simp at l
  let ap:∀Zz QHg,H2' b<*o->QBt->b∉[D,C]:=λ{b o}e ho S=>by
   let⟨φ,B⟩:=co b S;rw[e]at B;show ho φ (χ.δ.Tx B)
  let aV:∀b xs,H2' b<*.RJ xs->y_ [D,C] H2' b<*.RJ xs:=λb xs e=>by rw[Bv (ap e ZA)];show e
  refine((2),mn B1 W1.β W2.β QDO,_,c5,.Tk λus hl=>by let⟨_,_,ε⟩:=Hr hl;rfl,yj d1 d4 C5 G J aH (DT M),(0),el,[],ε,by rw[Bv (ap au ZA)];show au,G.n1,!1,!1,(az.1.Uk aV,az.2.Uk aV),λst bS cN bk dp=>?_);let s3:a_ H2 QTN:=λb o e=>by
   let e':=sE _ _ e;by_cases S:b∈[D,C]
   .rw [Hk S];show e'
   .rw [DV S];show cN b o (by rw[Bv S];show e')
  let a2:bC .p QTN QJh st:=bk.SL λb xs e=>by
   rw[DV λS=>?_]
   .exact e
   .rw [dp b S]at e;cases e
  generalize X1 [D,C] H2' bS=H3 at s3 a2;let bo:=GE bs s3;refine(0,bo,λbM f3 c3 N bU ch e0 eA s4 cp cf cd=>?_);let⟨ep,eT,eO,dm⟩:=id cp;let aS:∀Zz QBk,H2 b<*.ext φ->N b<*.ext φ:=λe=>s4 _ _ (cS e) (s3 _ _ e);let a4:N D<*bh D "entered" q_te (t_ bc) (n' bc) QJG I C:=aS as;let a8:N C<*p_ C q_te:=aS a7;let a3:N Z<*bh Z Z0 q_tg (t_ aG) (n' aG) QLI aN X:=aS dc;let a5:N X<*p_ X q_tg:=aS dk;let ag:=FN s4 bo;let aA:Two N m m2 L W1 W2 B1 B2:=((F.1.SL s3).Uk ag,(F.2.SL s3).Uk ag);let b6:bC .p N QJh st:=a2.SL ag;let cn:∀u∈[D,Z,f3,C,X,c3],∃φ,N u<*.ext φ:=λu Y=>by
   simp only[QW,Si,T8]at Y;rcases Y with ε|rfl|rfl|rfl|rfl|rfl
   .exact (_,a4)
   .exact (_,a3)
   .exact (_,cd)
   .exact (_,a8)
   .exact (_,a5)
   .exact (_,cf)
  refine([D,Z,f3,C,X,c3],cn,λg Wd=>?_);let⟨ee,ev,ek,cD⟩:=Wd.ext D _ (!1) a4;let⟨ed,eu,ej,cC⟩:=Wd.ext Z _ (!1) a3;let⟨et,ei,cB⟩:=Wd.ext f3 _ (!1) cd;let ea:g.SD Zq q_te:=Wd.ext C _ (!1) a8;let d6:g.SD (.ν X) q_tg:=Wd.ext X _ (!1) a5;let d5:g.SD (.ν c3) q_tl:=Wd.ext c3 _ (!1) cf;let C1:AN g I QJG ["ahead"] [.ν m]:=GG Wd a1 a9 ε λi y v l B=>by
   match i,l,B with
   |0,l,B=>cases l;cases B;show QJp
   |i+1,l,_=>simp at l
  let C2:AN g aN QLI ["ahead","behind","entered"] [.ν m,.ν m2,.ν D]:=GG Wd bV cl ε λi y v l B=>by
   match i,l,B with
   |0,l,B=>cases l;cases B;show QJp
   |1,l,B=>cases l;cases B;show(((3),5),5)
   |2,l,B=>cases l;cases B;show(((4),5),5)
   |i+3,l,_=>simp at l
  let C3:AN g bM VC ["behind"] [.ν m2]:=GG Wd bU ch ε λi y v l B=>by
   match i,l,B with
   |0,l,B=>cases l;cases B;show(((3),5),5)
   |i+1,l,_=>simp at l
  let Fw:lL K "walked" "walked" Be fw _:=((b2,cO,.ν tD,bi,aM,bd,an2,W,bt,osl2,1,lw,cw),kw);refine((5),H_ cW .p L QII (zv B2) QJ_ QDO Z f3,cX,J_ Fw WT bT aU ((tL cC d6 C2 G J aU (DL g) cD (.Tk λus hl=>by let⟨_,_,ε⟩:=Hr hl;rfl) (yj cD ea C1 G J aH (DT g))).Ti (!0)) ((tK cB d5 C3 J (DH g)).Ti (!0)) cC QAy cB QAy (.Tk λus hl=>by let⟨_,ε⟩:=D3 hl;rfl) (.Tk λus hl=>by let⟨_,ε⟩:=D3 hl;rfl) QIm,3);let bg:∀Zz QHg,N b<*o->QBt->b∉[D,Z,f3,C,X,c3]:=λ{b o}e ho S=>by
   let⟨φ,B⟩:=cn b S;rw[e]at B;show ho φ (χ.δ.Tx B)
  let ab:∀b xs,N b<*.RJ xs->y_ [D,Z,f3,C,X,c3] N b<*.RJ xs:=λb xs e=>by rw[Bv (bg e ZA)];show e
  let aT:=vZ (n1:=W1.β) W2.β dV;refine(gh B1 0 [],.ν st,ζ,1,G.lt,3,kZ aH J.n1 G.n1 (!1),xE G J aH,LE aT (!0),(aA.1.Uk ab,aA.2.Uk ab),λwk t wd y md ks en ws bb R Bm H5 cI hW ht eN cV hy b5 c8 bf O bl cU VJ le he dn=>?_)
  .unfold Ai;rw[Fr (!0)];show(st,1,b6.SL ab)
  let hR:R.β=ks.β:=by
   rcases he with z|⟨n,z,_⟩
   .exact z
   .cases z
  let X8:∀Zz QHg,H5 b<*o->X1 [D,Z,f3,C,X,c3] N H5 b<*o:=λ{b o}e=>by
   rw[DV λS=>?_]
   .exact e
   .rw [dn b S]at e;cases e
  let d0:∀Zz QHg,N b<*o->X1 [D,Z,f3,C,X,c3] N H5 b<*o:=λ{b o}e=>by
   by_cases S:b∈[D,Z,f3,C,X,c3]
   .rw [Hk S];show e
   .exact X8 (cI b o (by rw[Bv S];show e))
  rw[hR]at bf;let⟨dx,ew⟩:=hW.ex;let kT:KT ts H (X1 [D,Z,f3,C,X,c3] N H5):=(kA.ξ (kB.ξ ((KT.ofX nd i1 b1 hT bs).ξ ((KT.of s3).ξ (KT.ofX nd i1 s4 bo cp))))).ξ (KT.of λb o e=>d0 e);let aC:=JT (Bm:=Bm) G.lt bf O hR bl (LE le (LE aT (!0)));let b4:Lg L R Bm=js (Lg L V1 D1) (Lg L V2 D2):=xr λu Y=>by
   unfold AX tu;dsimp only;rw[JU bf O hR bl cU Y,rR G J aH Y];constructor
   .rintro⟨x,v,ε,l,B⟩;show(x,v,1,by rw[<-U.takes hNa1 λc hc=>Y c (by simp[hc])];show l,by rw[<-T.takes hNa2 λc hc=>Y c (by simp[hc])];show B)
   .rintro⟨x,v,ε,l,B⟩;show(x,v,1,by rw[U.takes hNa1 λc hc=>Y c (by simp[hc])];show l,by rw[T.takes hNa2 λc hc=>Y c (by simp[hc])];show B)
  refine(wk,t,wd,y,md,bb,L,R,Bm,ws,1,QJF,X8 hy,(b5.1,λi a r l B=>X8 (b5.2 i a r l B)),X8 c8,X8 cV,by rw[hR];show bf.Sr.QU,aC,λi v hv=>jE bf O hR aC hv,λd H' s' p9=>qE d H' QC6 (b4▸p9),λmm k ff H6 hm b0 da s6 hf dv=>?_);show q ff _ _ H6 QIQ (dv,Hq hm aC,JX da) (JW bf O hR aC b0 hm) ((J9 hm aC b0).ξ b4)
end H
namespace A
def g_F:s_ [Q0,"piece","entered",Z0] [Q0] (hY u_):=v5
def EZ{P:IO}QE8 QCI QBV QFj(i1:(P1,sitesA,)∈ts){oc kV Tm pm ct a7 aN T aH I aV b2:η}(lk:K.ρ f<*(oc,od,.VL (U9 "again" "again" (t_ u_) (n' u_) (hY u_) .ζ kV Tm pm an ZS ct),dr))(co:UN K ZS "again"=ο)(lw:K.ρ fw<*(a7,b1,.VL (U9 "walked" "walked" QLF QLG QJC QKX aN T aH an2 I aV),osl2))(cw:UN K I "walked"=ο)QCX(mw:mg "walked"<*.ν fw)(lD:K.ρ tD<*(b2,ds,.V8 #[.ζ] nD,dc))QCG(a1:mg "len"=ζ)(a0:mg "zip"=ζ)QGw QFt(DL:∀ς:Qx,Df P w K mg ς "lots_after" 1 [Q0,Q4] Wc)(DH:∀ς:Qx,Df P w K mg ς "has_marked" 1 [Q0,Q4] sp_hasm)(DT:∀ς:Qx,Df P w K mg ς "lot_of" 1 [Q4] QR7)(cM:Df P w K mg ς "least" 7 [Q0] QJH)(cN:Bi P w K mg ς "told" 4 [Q8] QTM):aa P w K mg ς QBC 8 f (U9 "again" "again" (t_ u_) (n' u_) (hY u_) .ζ kV Tm pm an ZS ct) [Q0] (ml XU ts λ_=>aI):=by
 refine Ib lk co g_F ZE QAB
 .obtain ⟨m,L,W,B,ε,_⟩:=h;rfl
 .obtain ⟨m0,L,W0,B0,ε,cI,aA,hW8,hA,qE,q⟩:=h;let bP:=hA _ i0;let cf:=hr.Ti (j:=4) (!0);let ce:=hr.Ti (j:=5) (!0);refine(_,(hJ (n_ 1 g_F.nd (ry cM hr QCo)) (hJ (FJ (i:=2) (Qz:=q_ae) (c:=c) (P0:=P1) (Rt:=sitesA) g_F.nd ε (Or.RF ε) ε hC hB (!3) (!3)) (hJ (FJ (i:=3) (Qz:=q_ag) (c:=c) (P0:=P1) (Rt:=sitesA) g_F.nd ε QBK ε hC hB (!3) (!3)) (h7 (ln (Cp cN cf Zr (mq (JG (dvs:=[.UT]) ε mw kw (Ka (kV:=aN) (Tm:=T) (pm:=aH) (an:=an2) (U':=I) (ct:=aV) lD) QCr (By QLE (AI (A' (q4 AK (A' (mq c_)))) Zd (bO (Qz:=q_al) (c:=c) (P0:=P1) (Rt:=sitesA) ε hC hB (!3) (!3)))) QGe)))))))),3);refine(0,m0,L,W0,B0,1,cI,aA,bP,λm W B H0 s0 bM hM aU=>?_);let C:=aU.VB;let h8:W.β≤8:=LE aU.Sr hW8;let kA:KT ts H H0:=KT.ofX nd i0 s0 bP bM;let hT:AH H0 P1 sitesA:=kA.tb hA _ i1;refine(hT,λX O M H1 a4 bm d3 dS s1 bt cv cn=>(bt,λU N J H2 a3 bk d2 dv s2 aT cp cl=>?_));let a6:BY P1 H0 H2:=JN s1 s2;let bS:v_ H2 m L W B:=hM.Uk (FN a6 hT);let⟨wy,mk,cV,h1,h2,h3,h4,h5⟩:=id bS;refine(k_ h1 ad (nt (by change 1≤16777216;decide),λzt b6=>(nt (by change 2≤16777216;decide),λst WB=>?_)));let s3:a_ H2 QDG:=(a_.QO b6).ξ QGg;let ap:bC .q QDG [1,0] st:=(zt,(1),[0],1,QD _,SO,yl SO WB);generalize L2.QO (L2.QO H2 zt (.RJ [.QB 0])) st (.RJ [.bl ο,.ν zt])=H3 at s3 ap;let aS:=GE aT s3;refine(0,aS,λcO Y Z p a2 bi d1 dt s4 bs bg bd=>?_);let⟨dk,cC,_⟩:=id bt;let⟨de,cB,_⟩:=id aT;let⟨dd,d0,dV,cx⟩:=id bs;let b4:∀Zz QBk,H1 b<*.ext φ->b≠P1:=λ{b φ}e z=>by rw[z,cC]at e;cases e
  let b3:∀Zz QBk,H2 b<*.ext φ->b≠P1:=λ{b φ}e z=>by rw[z,cB]at e;cases e
  let aB:∀Zz QBk,H2 b<*.ext φ->p b<*.ext φ:=λe=>s4 _ _ (b3 e) (s3 _ _ e);let up1:∀Zz QBk,H1 b<*.ext φ->p b<*.ext φ:=λe=>aB (s2 _ _ (b4 e) e);let as:p O<*bh O "entered" q_ae (t_ bK) (n' bK) QNY X M:=up1 cn;let az:p M<*p_ M q_ae:=up1 cv;let ar:p N<*bh N Z0 q_ag (t_ bx) (n' bx) QNZ U J:=aB cl;let au:p J<*p_ J q_ag:=aB cp;let ag:=FN s4 aS;let cH:v_ p m L W B:=(bS.SL s3).Uk ag;let bb:bC .q p [1,0] st:=ap.SL ag;let bo:∀u∈[O,N,Y,M,J,Z],∃φ,p u<*.ext φ:=λu hu=>by
   simp only[QW,Si,T8]at hu;rcases hu with ε|rfl|rfl|rfl|rfl|rfl
   .exact (_,as)
   .exact (_,ar)
   .exact (_,bd)
   .exact (_,az)
   .exact (_,au)
   .exact (_,bg)
  refine([O,N,Y,M,J,Z],bo,λg Wd=>?_);let⟨c4,dp,c8,bV⟩:=Wd.ext O _ (!1) as;let⟨cX,dn,c7,bU⟩:=Wd.ext N _ (!1) ar;let⟨dm,c5,bT⟩:=Wd.ext Y _ (!1) bd;let cU:g.SD (.ν M) q_ae:=Wd.ext M _ (!1) az;let cS:g.SD (.ν J) q_ag:=Wd.ext J _ (!1) au;let cP:g.SD (.ν Z) q_al:=Wd.ext Z _ (!1) bg;let C1:AN g X QNY ["piece"] [.ν m]:=GG Wd a4 bm ε λi y v D G=>by
   match i,D,G with
   |0,D,G=>cases D;cases G;show QNc
   |i+1,D,_=>simp at D
  let C2:AN g U QNZ ["entered","piece"] [.ν O,.ν m]:=GG Wd a3 bk ε λi y v D G=>by
   match i,D,G with
   |0,D,G=>cases D;cases G;show QJp
   |1,D,G=>cases D;cases G;show QNc
   |i+2,D,_=>simp at D
  let C3:=Tu.CD (sc:=VC) Wd a2 bi;let Fw:lL K "walked" "walked" Be fw _:=((a7,b1,.ν tD,aN,T,aH,an2,I,aV,osl2,1,lw,cw),kw);refine((5),H_ cW .q L QRw zw (EN W.β) QQw N Y,ce,J_ Fw WT a1 a0 ((Py bU cS C2 C h8 (DL g) bV (.Tk λus hl=>by let⟨_,ε⟩:=D3 hl;rfl) (Px bV cU C1 C h8 (DH g) (DT g))).Ti (!0)) ((Pz bT cP C3 _ _).Ti (!0)) bU QAy bT QAy (.Tk λus hl=>by let⟨_,ε⟩:=D3 hl;rfl) (.Tk λus hl=>by let⟨_,ε⟩:=D3 hl;rfl) QHZ,3);let aM:∀Zz QHg,p b<*o->QBt->b∉[O,N,Y,M,J,Z]:=λ{b o}e ho hb=>by
   let⟨φ,G⟩:=bo b hb;rw[e]at G;show ho φ (χ.δ.Tx G)
  let ab:∀b xs,p b<*.RJ xs->y_ [O,N,Y,M,J,Z] p b<*.RJ xs:=λb xs e=>by rw[Bv (aM e ZA)];show e
  refine([1,0],.ν st,ζ,1,C.lt,3,Cf (l:=[0]) (!1) Zs (λx hx=>by rw[wh hx];show C.n1),FP C h8,LE (nV _) (!0),cH.Uk ab,λwk t wd y md ks da ws aC R Bm H5 b0 hW ht dT cd hy a9 cg bf F bl b5 VJ le he cA=>?_)
  .unfold Ai;rw[Fr (!0)];show(st,1,bb.SL ab)
  let hR:R.β=ks.β:=by
   rcases he with z|⟨n,z,_⟩
   .exact z
   .cases z
  let X8:∀Zz QHg,H5 b<*o->X1 [O,N,Y,M,J,Z] p H5 b<*o:=λ{b o}e=>by
   rw[DV λhb=>?_]
   .exact e
   .rw [cA b hb]at e;cases e
  let cK:∀Zz QHg,p b<*o->X1 [O,N,Y,M,J,Z] p H5 b<*o:=λ{b o}e=>by
   by_cases hb:b∈[O,N,Y,M,J,Z]
   .rw [Hk hb];show e
   .exact X8 (b0 b o (by rw[Bv hb];show e))
  rw[hR]at bf;let⟨dx,ew⟩:=hW.ex;let kT:KT ts H (X1 [O,N,Y,M,J,Z] p H5):=(kA.ξ ((KT.ofX nd i1 a6 hT aT).ξ ((KT.of s3).ξ (KT.ofX nd i1 s4 aS bs)))).ξ (KT.of λb o e=>cK e);let S:=JT (Bm:=Bm) C.lt bf F hR bl (LE le (LE (nV _) (!0)));let a8:Lg L R Bm=aI (Lg L W0 B0):=ul λu hu=>by
   unfold AX;rw[JU bf F hR bl b5 hu,vJ C h8 hu];let tk:∀v:LN,QT8->B.Φ (SZ L W 0 v) μ=B0.Φ (SZ L W0 0 v) μ:=λv hv=>aU.takes aA λc hc=>hu c (hv c hc);show(λz=>z.congr tk,λz=>z.congr λv hv=>(tk v hv).QU)
  refine(wk,t,wd,y,md,aC,L,R,Bm,ws,1,QJF,X8 hy,(a9.1,λi a r D G=>X8 (a9.2 i a r D G)),X8 cg,X8 cd,by rw[hR];show bf.Sr.QU,S,λi v hv=>jE bf F hR S hv,λd H' s' p9=>qE d H' QC6 (a8▸p9),λmm k ff H6 hm a5 ch s6 hf cD=>?_);show q ff _ _ H6 QIQ (cD,Hq hm S,JX ch) (JW bf F hR S a5 hm) ((J9 hm S a5).ξ a8)
end A
inductive Ki QKa Z' ZZ Z3(XU:θ)QC_ ZF ZC ZV QD8:Prop
 |mk (m m2 g cg:θ) Zp QJ5 QEQ QIG (S:LN->Prop) (_:vs=[.ν m,.ν m2,.ν g]) QIr QMs QH0 (_:hI L W2 B2) QOG QOH (_:OO P w K mg H g cg Xl) QDl (_:(∀QCF Zg,(∀u:LN,ZK->(AX L W B u=ο↔dO Xl QCO QGK u))->Lg L W B=S)) (_:(∀d H',KT ts H H'->P9 H' d .UT L S->E QGc QEm H')) (_:∀QDo(W':LL)QHG QAe,KT ts H H'->Mc H' f L W' B'->QHX->Lg L W' B'=S->Q Ze H')
def g_Y:s_ [Q0,"second","is_wanted",Z0,Q7] [Q0,"second","is_wanted"] (hY DC):=v5
set_option maxHeartbeats 8000000 in
def qq{P:IO}QE8 QCI QBV(i1:(P1,dl,)∈ts){oc kV Tm pm ct a3 aS U aM D aT b2:η}(lk:K.ρ f<*(oc,od,.VL (U9 "paired" "paired" (t_ DC) (n' DC) (hY DC) .ζ kV Tm pm an ZS ct),dk))(ch:UN K ZS "paired"=ο)(lw:K.ρ fw<*(a3,b1,.VL (U9 "walked" "walked" QLF QLG QJC QKX aS U aM an2 D aT),osl2))(cw:UN K D "walked"=ο)QCX(mw:mg "walked"<*.ν fw)(lD:K.ρ tD<*(b2,dm,.V8 #[.ζ] nD,c7))QCG(aU:mg "len"=ζ)(ag:mg "zip"=ζ)(aC:mg "list"=ζ)QGw QFt(cI:Df P w K mg ς "need_same_letters" 1 [Q0,"second"] sp_needsame72)(cK:Bi P w K mg ς "told" 4 [Q8] QTM):aa P w K mg ς QBC 6 f (U9 "paired" "paired" (t_ DC) (n' DC) (hY DC) .ζ kV Tm pm an ZS ct) [Q0,"second","is_wanted"] QEJ:=by
 refine Ib lk ch g_Y ZE QAB
 .obtain ⟨m,m2,g,M,L,W1,W2,B1,B2,Xl,S,ε,_⟩:=h;rfl
 .obtain ⟨m,m2,g,M,L,W1,W2,B1,B2,Xl,S,ε,bM,G,bt,ab,h18,h28,hRu,hA,hS,qE,q⟩:=h;let hT:=hA _ i1;let b6:=hr.Ti (j:=1) (!0);let b5:=hr.Ti (j:=4) (!0);refine(_,(hJ (C6 (ry cI b6 QFE)) (hJ (FJ (i:=3) (Qz:=q_pg) (c:=c) (P0:=P1) (Rt:=dl) g_Y.nd ε QBK ε hC hB (!3) (!3)) (hJ (FJ (i:=4) (Qz:=q_pm) (c:=c) (P0:=P1) (Rt:=dl) g_Y.nd ε QBK ε hC hB (!3) (!3)) (h7 (ln (Cp cK b5 Zr (mq (JG (dvs:=[.UT]) ε mw kw (Ka (kV:=aS) (Tm:=U) (pm:=aM) (an:=an2) (U':=D) (ct:=aT) lD) QCr (By Zc (AI (A' (q4 c_ c_)) Zd QAr)) QGe)))))))),3);refine(4,m,m2,L,W1,B1,W2,B2,1,bM,bt,3);refine(hT,λX I F H1 a0 bk dS dp s1 bs bg bb=>(bs,λW J Y Z aV bi dv dn s2 bo bd cf=>?_));let O:BY P1 H Z:=JN s1 s2;let bP:v_ Z m L W1 B1:=bM.Uk (FN O hT);let cC:v_ Z m2 L W2 B2:=bt.Uk (FN O hT);let⟨dc,cp,_⟩:=id hT;let⟨da,co,_⟩:=id bs;let⟨Qz,bV,c4,sc,c3,a9,az,cx,cA⟩:=hRu.ex;let nP:∀Zz QBk,H1 b<*.ext φ->b≠P1:=λ{b φ}e z=>by rw[z,co]at e;cases e
  let a4:∀Zz QBk,H b<*.ext φ->b≠P1:=λ{b φ}e z=>by rw[z,cp]at e;cases e
  let a8:=O g _ (a4 a9) a9;let au:=O M _ (a4 az) az;let as:Z I<*bh I Z0 q_pg (t_ bJ) (n' bJ) QNa X F:=s2 I _ (nP bb) bb;let aA:Z F<*p_ F q_pg:=s2 F _ (nP bg) bg;let ar:Z J<*bh J Q7 q_pm (t_ bI) (n' bI) QNb W Y:=cf;let⟨wy,mk,cP,h1,h2,h3,h4,h5⟩:=id bP;refine(k_ h1 ad (nt (by change 2≤16777216;decide),λst WB=>?_));let B:a_ Z (L2.QO Z st QHa):=a_.QO WB;let ap:L2.QO Z st QHa st<*.RJ (b' [0,0]):=SO;generalize L2.QO Z st QHa=H3 at B ap;let cD:=bP.SL B;let cB:=cC.SL B;let⟨c8,dt,ds,cl⟩:=GE bo B;let bm:∀u∈[I,J,F,Y,g,M],∃φ,H3 u<*.ext φ:=λu hu=>by
   simp only[QW,Si,T8]at hu;rcases hu with ε|rfl|rfl|rfl|rfl|rfl
   .exact (_,B _ _ as)
   .exact (_,B _ _ ar)
   .exact (_,B _ _ aA)
   .exact (_,B _ _ bd)
   .exact (_,B _ _ a8)
   .exact (_,B _ _ au)
  refine(4,[I,J,F,Y,g,M],bm,λl Wd=>?_);let⟨cU,de,cX,bU⟩:=Wd.ext I _ (!1) (B _ _ as);let⟨cS,dd,cV,bT⟩:=Wd.ext J _ (!1) (B _ _ ar);let⟨a2,aB,bS⟩:=Wd.ext g _ (!1) (B _ _ a8);let cO:l.SD (.ν F) q_pg:=Wd.ext F _ (!1) (B _ _ aA);let cN:l.SD (.ν Y) q_pm:=Wd.ext Y _ (!1) (B _ _ bd);let cM:l.SD (.ν M) Qz:=Wd.ext M _ (!1) (B _ _ au);let C1:AN l X QNa [Q0,"second"] [.ν m,.ν m2]:=GG Wd a0 bk ε λi y v p x=>by
   match i,p,x with
   |0,p,x=>cases p;cases x;show(((0),5),5)
   |1,p,x=>cases p;cases x;show QNc
   |i+2,p,_=>simp at p
  let C2:AN l W QNb ["is_wanted",Q0,"second"] [.ν g,.ν m,.ν m2]:=GG Wd aV bi ε λi y v p x=>by
   match i,p,x with
   |0,p,x=>cases p;cases x;show QJp
   |1,p,x=>cases p;cases x;show(((0),5),5)
   |2,p,x=>cases p;cases x;show QNc
   |i+3,p,_=>simp at p
  let Fw:lL K "walked" "walked" Be fw _:=((a3,b1,.ν tD,aS,U,aM,an2,D,aT,osl2,1,lw,cw),kw);refine((5),H_ cW .t L (gP W1 W2) (NU Xl B1 B2) QJ' QDO I J,hr,J_ Fw WT aU ag ((PH bU cO C1 G ab aC ag).Ti (!0)) ((PJ bT cN C2 G ab bS (cA a2 aB) (cx l a2 aB bS cM)).Ti (!0)) bU QAy bT QAy (.Tk λus hl=>by let⟨_,ε⟩:=D3 hl;rfl) (.Tk λus hl=>by let⟨_,ε⟩:=D3 hl;rfl) QIm,3);let aN:∀Zz QHg,H3 b<*o->QBt->b∉[I,J,F,Y,g,M]:=λ{b o}e ho hb=>by
   let⟨φ,x⟩:=bm b hb;rw[e]at x;show ho φ (χ.δ.Tx x)
  let N:∀b xs,H3 b<*.RJ xs->y_ [I,J,F,Y,g,M] H3 b<*.RJ xs:=λb xs e=>by rw[Bv (aN e ZA)];show e
  refine([0,0],.ν st,ζ,1,G.lt,3,rJ G.n1 ab.n1,ON G ab,LE (ya h18 h28) (!0),(cD.Uk N,cB.Uk N),λwk t wd y md ks c5 ws aH R Bm H5 b0 hW ht dr b4 hy a7 cd bf C bl b3 VJ le he cn=>?_)
  .unfold Ai;rw[Fr (!0)];show(st,1,N _ _ ap)
  let hR:R.β=ks.β:=by
   rcases he with z|⟨n,z,_⟩
   .exact z
   .cases z
  let X8:∀Zz QHg,H5 b<*o->X1 [I,J,F,Y,g,M] H3 H5 b<*o:=λ{b o}e=>by
   rw[DV λhb=>?_]
   .exact e
   .rw [cn b hb]at e;cases e
  let cH:∀Zz QHg,H3 b<*o->X1 [I,J,F,Y,g,M] H3 H5 b<*o:=λ{b o}e=>by
   by_cases hb:b∈[I,J,F,Y,g,M]
   .rw [Hk hb];show e
   .exact X8 (b0 b o (by rw[Bv hb];show e))
  rw[hR]at bf;let⟨dx,ew⟩:=hW.ex;let kT:KT ts H (X1 [I,J,F,Y,g,M] H3 H5):=(KT.ofX nd i1 O hT bo).ξ (KT.of λb o e=>cH (B _ _ e));let a5:=LE le (ya h18 h28);let T:=JT (Bm:=Bm) G.lt bf C hR bl (LE a5 (!0));let a6:Lg L R Bm=S:=hS _ _ λu hu=>by
   unfold AX dO;rw[JU bf C hR bl b3 hu,NV];rfl
  refine(wk,t,wd,y,md,aH,L,R,Bm,ws,1,QJF,X8 hy,(a7.1,λi a r p x=>X8 (a7.2 i a r p x)),X8 cd,X8 b4,by rw[hR];show bf.Sr.QU,T,λi v hv=>jE bf C hR T hv,λd H' s' p9=>qE d H' QC6 (a6▸p9),λmm k ff H6 hm a1 ce s6 hf cv=>?_);show q ff _ _ H6 QIQ (cv,Hq hm T,JX ce) (JW bf C hR T a1 hm) ((J9 hm T a1).ξ a6)
set_option maxHeartbeats 8000000 in
def qv{P:IO}QGn(i1:(Pj,K7,)∈ts)QIs(lk:K.ρ f<*(S,od,.VL (U9 "either" "either" (t_ Ff) (n' Ff) (hY Ff) .ζ kV Tm pm an ZS ct),R))(p:UN K ZS "either"=ο)QMu QTg(B:Bi P w K mg ς "paired" 6 [Q0,"second","is_wanted"] QEJ):aa P w K mg ς QBC 7 f (U9 "either" "either" (t_ Ff) (n' Ff) (hY Ff) .ζ kV Tm pm an ZS ct) [Q0,"second"] (ca XU ts Ig):=by
 refine Ib lk p p8 ZE QEK
 .obtain ⟨m,m2,L,I,G,M,J,ε,_⟩:=h;rfl
 .obtain ⟨m,m2,L,I,G,M,J,ε,u,x,t,v,h18,h28,F,O,q⟩:=h;let j:=F _ i1;refine(_,(h7 (ln (Cp B U Zr (AI Y' ZD (bO (Qz:=Kh) (c:=c) (P0:=Pj) (Rt:=K7) ε Y Z (!3) (!3)))))),3);refine QCH;let l:KT ts H H1:=KT.ofX T i1 N j r;let sT:=l.sm;let n:∀y,i.ρ y=ζ:=λy=>by
   cases e:i.ρ y with
   |ζ=>rfl
   |δ a=>show nomatch (show(ζ:χ θ)<*a from VJ y a e)
  show(m,m2,g,cg,L,I,G,M,J,QNN,0,u.Uk sT.RJ,x,t.Uk sT.RJ,v,h18,h28,(7,7,i,X,o,λD pm C eb cd=>qm eb cd QQx,λpm C=>.Tk λus W=>by let⟨_,_,ε⟩:=Hr W;rfl),l.tb F,λ_ _=>O9,λd H' k=>O d H' QKY,λff W' B' H' k=>q ff W' B' H' QKY)
set_option maxHeartbeats 8000000 in
def wZ{P:IO}QGn(i1:(Pj,K8,)∈ts)QIs(lk:K.ρ f<*(S,od,.VL (U9 "both" "both" (t_ Fh) (n' Fh) (hY Fh) .ζ kV Tm pm an ZS ct),R))(p:UN K ZS "both"=ο)QMu QTg(B:Bi P w K mg ς "paired" 6 [Q0,"second","is_wanted"] QEJ):aa P w K mg ς QBC 7 f (U9 "both" "both" (t_ Fh) (n' Fh) (hY Fh) .ζ kV Tm pm an ZS ct) [Q0,"second"] (ca XU ts rA):=by
 refine Ib lk p wD ZE QEK
 .obtain ⟨m,m2,L,I,G,M,J,ε,_⟩:=h;rfl
 .obtain ⟨m,m2,L,I,G,M,J,ε,u,x,t,v,h18,h28,F,O,q⟩:=h;let j:=F _ i1;refine(_,(h7 (ln (Cp B U Zr (AI Y' ZD (bO (Qz:=dG) (c:=c) (P0:=Pj) (Rt:=K8) ε Y Z (!3) (!3)))))),3);refine QCH;let l:KT ts H H1:=KT.ofX T i1 N j r;let sT:=l.sm;let n:∀y,i.ρ y=ζ:=λy=>by
   cases e:i.ρ y with
   |ζ=>rfl
   |δ a=>show nomatch (show(ζ:χ θ)<*a from VJ y a e)
  show(m,m2,g,cg,L,I,G,M,J,QNO,0,u.Uk sT.RJ,x,t.Uk sT.RJ,v,h18,h28,(7,7,i,X,o,λD pm C eb cd=>wW eb cd QQx,λpm C=>.Tk λus W=>by let⟨_,_,ε⟩:=Hr W;rfl),l.tb F,λ_ _=>zA,λd H' k=>O d H' QKY,λff W' B' H' k=>q ff W' B' H' QKY)
set_option maxHeartbeats 8000000 in
def wY{P:IO}QGn(i1:(Pj,K9,)∈ts)QIs(lk:K.ρ f<*(S,od,.VL (U9 "less" "less" (t_ Fi) (n' Fi) (hY Fi) .ζ kV Tm pm an ZS ct),R))(p:UN K ZS "less"=ο)QMu QTg(B:Bi P w K mg ς "paired" 6 [Q0,"second","is_wanted"] QEJ):aa P w K mg ς QBC 7 f (U9 "less" "less" (t_ Fi) (n' Fi) (hY Fi) .ζ kV Tm pm an ZS ct) [Q0,"second"] (ca XU ts c6):=by
 refine Ib lk p wC ZE QEK
 .obtain ⟨m,m2,L,I,G,M,J,ε,_⟩:=h;rfl
 .obtain ⟨m,m2,L,I,G,M,J,ε,u,x,t,v,h18,h28,F,O,q⟩:=h;let j:=F _ i1;refine(_,(h7 (ln (Cp B U Zr (AI Y' ZD (bO (Qz:=dF) (c:=c) (P0:=Pj) (Rt:=K9) ε Y Z (!3) (!3)))))),3);refine QCH;let l:KT ts H H1:=KT.ofX T i1 N j r;let sT:=l.sm;let n:∀y,i.ρ y=ζ:=λy=>by
   cases e:i.ρ y with
   |ζ=>rfl
   |δ a=>show nomatch (show(ζ:χ θ)<*a from VJ y a e)
  show(m,m2,g,cg,L,I,G,M,J,QL_,0,u.Uk sT.RJ,x,t.Uk sT.RJ,v,h18,h28,(7,7,i,X,o,λD pm C eb cd=>wV eb cd QQx,λpm C=>.Tk λus W=>by let⟨_,_,ε⟩:=Hr W;rfl),l.tb F,λ_ _=>xu,λd H' k=>O d H' QKY,λff W' B' H' k=>q ff W' B' H' QKY)
section
variable{P:IO}{w:QV}{K:Qt}{mg:QL->χ η}{ς:Qx}{P0 PT cW:θ}{ts:γ ZX}{VI:γ (θ×θ)}{XA UI:θ}{c:Kd->θ}{cP:θ}
def e_W:s_ ["values","numbers","value"] ["values"] (hY MG):=v5
def kn(F:so K "numbered" "numbered" MG f fd)ZB:aa P w K mg ς na 1 f fd ["values"] sp_numbered:=by
 refine F.okA e_W ?_;rintro _ _ _ _ H _ _ _ O⟨a,o,xs,ks,We,ε,W,S,L,l,Z,q⟩;refine(_,(hJ (n_ 1 e_W.nd (wR)) (hJ (A_ R6.TW ε (BQ Y') (As 2 e_W.nd) (h7 (q_ (AT (qk O.S3) ZO ZD QAQ) (h7 (BC (BN DS (!4) T.Sr XM QE0) (C7 ZD ZO (DQ O.S3)))) (ri)))) (h7 (ln (B4 ["values","numbers","?"] ε (!0) (BQ Y') (λcl C fp s' H'=>(AZ,l' (qK P w O.S3) ZO Y' ZL))))))),3);let hz:xs.β≤Λ:=nt (by rw[L];show LE l (!0));let e:∀QDJ{x:V},xs[i]?<*x->∃k,ks[i]?=δ k/\lK H k x/\Kz k=We:=λ{i x}v=>by
  let X:i<ks.β:=by rw[<-L];show(m8 v).1
  show(ks[i],h_ X,Z i _ x (h_ X) v)
 refine(if We=ο then .We else .bl,λd E=>?_);refine(0,a,o,xs,1,W,yl S E,λJ M=>Ky M (λi m H'=>E2 λI r=>A3 (m=[δ ZW,δ QCk,I]) (H'=L2.QO H d r) (vb P w H' d We QIR)) (ζ,0,1,vb.new P w H d We) ?_ ?_ ?_)
 .rintro i m H'⟨I,r,ε,ε,_⟩;show yl S E
 .rintro i x m H' v⟨I,r,ε,ε,s⟩;let⟨k,h,t,n⟩:=e v;let p:lK (L2.QO H d r) k x:=t.Wq λb ys z=>yl z E;refine(4,d,0,s.get p n,0,3);by_cases y:k∈wm QIR
  .rw [show(!(jc QIR k).Vg)=μ by rw[jc,QC y];rfl];refine ai (2,3);rw[Bu h];show s.SL y
  .rw [show(!(jc QIR k).Vg)=ο by rw[jc,Fr y];rfl];let R:(wm QIR).β<Λ:=by
    let h1:=o8 QIR;let h2:(ks.Rp i).β≤2100:=by rw[S6];show LE (υ.min_le_right _ _) l
    show LT (υ.lt_succ_of_le (LE h1 h2)) (nt (!0))
   let⟨N,B,Q⟩:=s.put p n y R;refine ay (0,d,0,s.Sr,4,d,0,B,3);refine(δ x,N,1,Jn,3);rw[Bu h];show Q
 .rintro m H'⟨I,r,ε,ε,s⟩;rw[L,Uh]at s;let G:L2.QO H d r a<*o:=yl S E;let A:a_ H (L2.QO H d r):=a_.QO E;refine(0,a,o,xs,1,W,G,λJ M=>LW M G (λD j ys H'=>ys=(b' (aF ks)).Rp j) hz (λD U=>!1) ?_ ?_)
  .intro D j x ys H' R1 R2 U v g u hp k1 k2;let⟨k,h,t,n⟩:=e v;let y:k∈wm ks:=Wf.Sj (v7 h);let Y:=(s.Ti g).get (t.Wq λb ys z=>(A.ξ g) _ _ z) n;rw[show jc ks k<*_ from QC y]at Y;refine hG (4,d,0,Y,k1 _ H' u (a_.US g U) ?_);rw[hp];refine(Bu ?_).QU;rw[b',aF,map_map,nq,h];rfl
  .intro D ys H' U g u hp;refine q D H' (A.ξ g) ?_;rw[u,hp,L,RI (by rw[d_,Jx];show QD _)]
def iD:s_ ["lots"] ["lots"] (hY MH):=v5
def iZ(F:so K "many_lots" "many_lots" MH f fd)ZB:aa P w K mg ς na 1 f fd ["lots"] sp_manyM:=by
 refine F.okA iD ?_;rintro _ _ _ _ _ _ _ _ _⟨a,ns,ε,i,e,q⟩;refine(_,(h7 (ln (o5 AU (BN (re ε) (!4) T.max boot_max QCo) c_))),3);refine(0,a,zs ns,1,by rw[i,JD],by rw[ip];show e,λM h b=>(2,3));let⟨m,g,ε⟩:=Su.mp h;show q m g λx d=>ψ.ofNat_le.mp (b _ (Su.Sj (x,d,1)))
def c_U:s_ [Z1,Z2,"most","rounds","lots","finer"] [Z1,Z2,"most"] (hY MI):=v5
def iY(F:so K "rounds_of" "rounds_of" MI f fd)ZB(a6:Df P w K mg ς "numbered" 1 ["values"] sp_numbered)(bt:Df P w K mg ς "many_lots" 1 ["lots"] sp_manyM):aa P w K mg ς na 2 f fd [Z1,Z2,"most"] sp_roundsG:=by
 refine F.okA c_U ?_;rintro _ _ _ _ H _ _ _ hr⟨wy,mk,bM,o,om,L,W,B,I,ε,ho,a8,bf,bi,az,as,d,q⟩;refine(_,(hJ (n_ 3 c_U.nd (Bb (mq (ry a6 hr QE0)))) (hJ (j8 R6.TW (AT oz (ry bt hr (mq (z7 Zd QB3))) ZO QAq) (hJ (n_ 4 c_U.nd (z7 Zd QB3)) (hJ (n_ 5 c_U.nd (ry a6 hr (mq (JS [Z1,Z2,"most","rounds","lots","finer"] ε (!0) (oo ε T.enumerate QCo) (λcl C fp s' H'=>A' (q4 (l' QGP QCQ Y' ZL) (DM (NE K) (!4) T.T7 Tj (mq (B4 [Z4,"row",Z1,Z2,"most","rounds","lots","finer"] ε (show Rq (["goal",Z4,"row",Z1,Z2,"most","rounds","lots","finer"]:γ QL) by decide) (BQ ZD) (λcl C fp s' H'=>(AZ,l' QGP QIM Y' ZL))))))))))) (hJ (q_ (AT (zq hr.units0) QCC QAr QAq) (h7 (ka)) (ri)) (h7 (C6 (EQ Zd QCC))))))) (h7 (ln Zd)))),3);let N:=d.n60;let bg:=d.n1;refine(0,mk,_,B.QY V.bl,B.QY (λb=>(KS.RB b:KS)),μ,1,bf,bi,by rw[j',j'],by rw[j',d.bl];show LE N (!0),3,λp0 H1 s1 aU=>(nt (by change 1≤16777216;decide),λp hp=>?_))
 .intro i k x G Z;rw[nq]at G Z;cases hb:B[i]? with
  |ζ=>rw[hb]at G;cases G
  |δ b=>rw[hb]at G Z;cases G;cases Z;show(1,1)
 rw[tV]at aU;let bd:H p=ζ:=Hj s1 hp;refine(yy H wy mk p W B I,(_,(0),[p0],ζ,ζ,5,s1.ξ QCW,SO,1,3,λi S=>QG S (XG _)),3)
 .intro i r e;match i,e with
  |0,e=>cases e;show yl aU hp
  |n+1,e=>simp at e
 rintro m bP H'⟨k,S0,s4,s5,ε,ε,sm,ab,l,E,a0⟩;let G:=nz d a0;obtain⟨la,a1⟩:∃la,S0[k]?<*la:=(S0[k]'(by rw[l];show Rv k),h_ _);let Q:=E k la a1;let a5:=KA l a1;let O:=Dv d k;refine(4,z_ ab a5 (la,Rd W B k,1,Q,by rw[O];show bg,λM hM _=>(0,2,0,3)));let bU:=fz d hM;refine aO (λbT=>?_) (λbo=>?_)
 rotate_left
 .exact (0,q p S0 k H' sm ab l E (.RF (M,hM,by have:¬ ((M:ψ)+1)≤(I:ψ):=bo;lia)) G)
 refine(λaH H2=>Rd W B (k+1)≠Rd W B k/\yy H wy mk p W B I (jK W.β QEu) aH H2,λaH H2 h=>(_,jJ d h.1,h.2),3);refine(4,z_ ab a5 ?_);dsimp only[A2];dsimp only[Vo,aW,aQ,BM,Al,BK,Bc];refine qZ (c:=wy) QA0 ho (sm _ _ a8) (λD i ys H2=>∃ps:γ θ,A3 (ys=ps.QY V.ν) (ps.β=i) (∀QEO(t:θ),ps[j]?<*t->Fa H2 (BX W QCq j) t)) (by rw[j',az];show nt (LE N (!0))) (λD hD=>([],5,λj t e=>by simp at e)) ?_ ?_
 .intro D i x ys H2 H3 R1 hD Z v aB hp s k1;let⟨ps,ε,A,aA⟩:=hp;rw[nq]at Z;let⟨rr,aS,ε⟩:=AS Z;let S:i<W.β:=by rw[<-az];show(m8 aS).1
  let⟨ws,aN,bS,aV,aT⟩:=as i rr aS;let s3:a_ H H3:=(sm.ξ v).ξ s;let au:=s3 _ _ aT;let ap:H3 la<*.QM (b' QCq):=s _ _ (v _ _ Q);let ew:W.Φ i []=ws:=by rw[n0,aN];rfl
  let⟨a9,bb⟩:=d.YO ws (v7 aN);let bs:=d.lt.hi;refine(4,z_ ap (De (by rw[O];show S)) ?_);dsimp only[Vo,aW,aQ,BM,Al,BK,Bc];refine Dg (a:=rr) QA0 aV au (λD2 j ar H4=>ar=(b' QDZ).Rp j) (by rw[d_,a9];show nt (LE bs (!0))) (λD2 aC=>!1) ?_ ?_
  .intro D2 j y ar H4 R3 R4 aC hy Yr X ag k3 k4;let hj:j<ws.β:=by have:=(m8 hy).1;rwa [d_]at this
   rw[Ca hj]at hy;cases hy;refine hG (4,z_ (Yr _ _ ap) (De (by rw[O];show bb _ (Gy hj))) (k3 _ H4 X (a_.US Yr aC) ?_));rw[ag];refine(Bu ?_).QU;rw[Ca (by rw[j'];show hj),dW hj]
  .intro D2 ar H4 aC Yr X ag;rw[d_,RI (by rw[d_,j'];show QD _)]at ag;subst ag;refine(D2,0,.RB (lb.of X,λb hb=>(nt (by change 2≤16777216;decide),λt ht=>?_)));let s5:=Yr.ξ ((a_.QO (o:=.RJ (b' QDZ)) hb).ξ (a_.QO (o:=.RJ [.QB (((Rd W B k).Φ i 0:υ):ψ),.ν b]) ht));let an:=s5 _ _ (s _ _ aB);refine k1 QBZ _ an (a_.US (v.ξ (s.ξ s5)) hD) (ps++[t],by rw[Q2];rfl,by rw[u4,A];rfl,λj u e=>?_);by_cases hj:j<ps.β
   .rw [QS hj]at e;show Ay (λc cs z=>q5 ((s.ξ s5) _ _ z) an (!5)) (aA j u e)
   .rw [Qp (SU hj)]at e;let bk:j=i:=(yr hj (m8 e).1).ξ A;subst bk;rw[A,XC]at e;let et:t=u:=by simpa using e
    subst et;let ek:(zs (BX W QCq j).2).QY V.QB=b' QDZ:=by
     rw[<-JD];change b' ((W.Φ j []).QY _)=_;rw[ew]
    refine(b,q5 SO an (!5),3);rw[ek];show q5 (yl SO ht) an (!5)
 intro D ys H2 hD v aB hp;let⟨ps,ε,A,aA⟩:=hp;refine(D,_,ps.QY V.ν,(BP W QCq).QY (λx=>(KS.RF x:KS)),ο,1,.RB ε,aB,by rw[j',j',Cq,A,j',az],by rw[j',Cq];show LE N (!0),3,λfa H4 Y a3=>?_)
 .intro i kk x G Z;rw[nq]at G Z;let⟨nk,e1,ε⟩:=AS G;let⟨t,e2,ε⟩:=AS Z;let S:i<W.β:=by have:=(m8 e1).1;rwa [Cq]at this
  rw[FG S]at e1;cases e1;show((t,1,aA i t e2),1)
 rw[tT]at a3;let U:H4 fa<*.QM (b' QEu):=a3;let aM:a_ H H4:=sm.ξ QR9;let a7:=QR9 _ _ Q;let p4:=QR9 _ _ ab;let J:=E.SL QR9;refine(4,fa,la,zs QEu,zs QCq,5,by rw[U,JD],by rw[a7,JD],by rw[ip,ip,Dv d,Dv d],0,aO QMh QMh)
 .exact (0,q p S0 k H4 aM p4 l J (.RB (iq he)) G)
 let a4:Rd W B (k+1)≠Rd W B k:=λz=>he (by rw[z]);let a2:S0≠[]:=by
  intro z;rw[z]at l;simp at l
 refine(0,.RB (1,_,lb.of p4),0,p,2,p4,3,a4,k+1,S0++[fa],2,a_.US aM bd,3,3,3,3)
 .rw [j',l];show LY G
 .rw [SO,Q2];rfl
 .rw [u4,l];rfl
 .intro i r e;by_cases S:i<S0.β
  .rw [QS S]at e;let h1:=J i r e;rw[b_ (oF h1 p4 a2)];show h1
  .rw [Qp (SU S)]at e;let bm:i=k+1:=(yr S (m8 e).1).ξ l;subst bm;rw[l,XC]at e;let et:fa=r:=by simpa using e
   subst et;rw[b_ (oF U p4 a2)];show U
 .intro i S;by_cases h:i=k
  .subst h;show a4
  .exact a0 i (Oz S h)
def PL:s_ ["lots"] ["lots"] (hY MJ):=v5
def PM(F:so K "first_rooms" "first_rooms" MJ f fd)ZB(t:Df P w K mg ς "many_lots" 1 ["lots"] sp_manyM):aa P w K mg ς na 2 f fd ["lots"] sp_firstrooms:=by
 refine F.okA PL ?_;rintro _ _ _ _ _ _ _ _ A⟨a,ns,ε,s,u,B,g,l,q⟩;refine(_,(h7 (ln (B4 ["lots"] ε (!0) (C8 ε T.Q' (mq (ry t A QCo))) (λG C E s' H'=>(AZ,qg K ZD QCo))))),3);let⟨M,m,k⟩:=uc u;let v:=g M m;dsimp only[fG,A2,Vo,aW,aQ,BM,Al,BK,Bc];refine KB (n:=M+1) (λR h=>(0,a,ns,1,s,u,λy r i=>?_)) (!6) (λD j ys H'=>ys=b' ((γ.Q' j).QY λj=>ns.QJ j)) (λD o=>rfl) ?_ ?_
 .let e:y=M:=WO (k y r) (i M m);rw[e];show h
 .intro D j ys H' H R2 o p b d hp k1 k2;refine hG (0,.RB (1,_,lb.of (b _ _ s)),0,a,zs ns,(0+(j:ψ)),5,by rw[<-JD];show b _ _ s,3,3)
  .rw [ψ.TJ];show Su.Sj (j,l M j m (UE p),1)
  .rw [ψ.TJ,rD];refine k1 _ H' d (a_.US b o) ?_;rw[hp,γ.range_succ,Q2];show(KF _ _).QU
 .intro D ys H' o b d hp;subst hp;show q (M+1) D H' (υ.succ_pos M,λx z=>υ.lt_succ_of_le (k x z),λj p=>l M j m (UE p)) b o d
def a_x:s_ [Q3,Z1,"rounds","one","two","needed","here","there","word","lots","place"] [Q3,Z1,"rounds","one","two"] (hY ML):=v5
def PN(F:so K "parting_word" "parting_word" ML f fd)ZB:aa P w K mg ς na 1 f fd [Q3,Z1,"rounds","one","two"] sp_pword5:=by
 refine F.okA a_x ?_;rintro _ _ _ s H _ _ _ _⟨wy,p,bf,S0,L,W,B,k,r,s,ε,N,aB,b,hp,v,o,WB,as,Q,O,q⟩;refine(_,(hJ (q_ (zl (z7 QQy Zd) (z7 QQy QAr)) (h7 (ln Gr)) (ri)) (hJ (n_ 5 a_x.nd (Bn XS VX Y4 gN (B4 [Q3,Z1,"rounds","one","two","needed","here","there","word","?","place"] ε (!0) (BQ ZO) (λcl C fp s' H'=>(AZ,CG Ed (l' QGP Y' QAr ZL) (l' QGP Y' QCC ZL) QAq))) (mq AK))) (hJ (n_ 6 a_x.nd Zd) (hJ (n_ 7 a_x.nd QAr) (hJ (n_ 8 a_x.nd (u5)) (hJ (A_ R6.TW ε (zd ε T.reversed (mq (Ee G' ZO FB (CJ QCC)))) (As 9 a_x.nd) (hJ (n_ 10 a_x.nd (Bn XS VX Y4 gN (JS [Q3,Z1,"rounds","one","two","needed","here","there","word","lots","place"] ε (!0) (HX ε T.Xz (q4 (z7 ZD QCQ) (z7 ZD QIM))) (λcl C fp s' H'=>CG Ed (l' QGP QJD Y' ZL) (l' QGP QJD ZD ZL) QAq)) (mq AK))) (hJ (n_ 8 a_x.nd (o5 DJ (pv 8) (l' G_ Y' QJE ZL))) (hJ (n_ 6 a_x.nd (z7 (z7 ZD QCQ) QJE)) (h7 (n_ 7 a_x.nd (z7 (z7 ZD QIM) QJE))))))) (h7 (ln (pv 8))))))))),3);let hz:(tx L).β≤Λ:=nt (by rw[hF];show LE b.lt.hi (!0));obtain⟨la,aV⟩:∃la,S0[k]?<*la:=(S0[k]'(by rw[v];show Rv k),h_ _);let ap:=o k la aV;let a4:=KA v aV;let ab:=Dv b k;refine(4,z_ hp a4 (0,z_ ap (De (by rw[ab];show Q)) ?_));refine(4,z_ hp a4 (0,z_ ap (De (by rw[ab];show O)) (6,3)));rw[cQ];refine aO QMh QMh
 .exact (WB he).SG
 let⟨aT,X,a1,y⟩:=kU (f:=λj=>decide QFW) (n:=k+1) (j:=k) (Rv k) (QN he);dsimp only[Vo,aW,aQ,BM,Al,BK,Bc];refine Dg (a:=p) QA0 Zv hp (λD j ys H'=>ys=(((γ.Q' (k+1)).QY λj=>decide QFW).QY V.bl).Rp j) (by rw[j',v];show nt (LE (U4 as) (!0))) QJq ?_ ?_
 .intro D j x ys H' R1 R2 hD G A m U k1 k2;rw[nq]at G;let⟨a6,ar,ε⟩:=AS G;let E:j<k+1:=by rw[<-v];show(m8 ar).1
  let h1:=A _ _ (o j a6 ar);refine hG (4,z_ h1 (De (by rw[Dv b];show Q)) (4,z_ h1 (De (by rw[Dv b];show O)) (1,3)));rw[cQ];refine k1 _ H' m (a_.US A hD) ?_;rw[U];refine(Bu ?_).QU;rw[nq,nq,SI E];rfl
 intro D ys H1 hD A m U;rw[j',v,RI (!1)]at U;subst U;refine(.RB (1,_,lb.of m),D,0,1,m,aT,3);generalize ((γ.Q' (k+1)).QY λj=>decide QFW).QJ μ=t at X a1 y⊢;let aS:m_ W B t r≠m_ W B t s:=of_decide_eq_false a1;let a2:∀j<t,m_ W B j r=m_ W B j s:=λj E=>ST (y j E);refine(4,3);refine(4,0,p,0,lb.of (A _ _ hp),λpl aN=>?_);rw[LX (by rw[j',v];show Uu X)];let M:((S0.QY V.ν).Rp t).β=t:=by rw[S6,j',v];show υ.min_eq_left (Uu X)
 refine(pl,0,SO,Ky sZ (λi I H'=>E5 λ(h1:υ)(h2:υ)(w:LN)(s9:χ V)(J:χ V)=>A9 (I=[δ QAW,δ (.ν wy),δ Zh,δ QJr,δ QJs,δ (.QB (t:ψ)),δ (.QB (h1:ψ)),δ (.QB (h2:ψ)),δ QBU,s9,J]) (a_ (L2.QO H1 pl (.QM ((S0.QY V.ν).Rp t))) H') (h1<W.β) (h2<W.β) (w.β=i) (i≤t) (m_ W B (t-i) h1≠m_ W B (t-i) h2) (∀j<t-i,m_ W B j h1=m_ W B j h2) (w++pw L W B (t-i) h1 h2=pw L W B t r s)) (r,s,[],ζ,ζ,by rw[<-eX];rfl,a_.YS _,Q,O,1,RP _,aS,a2,1) ?_ ?_ ?_)
 .rintro i I H'⟨h1,h2,w,s9,J,ε,sm2,_⟩;show sm2 _ _ SO
 .rintro i x I H2 G⟨h1,h2,w,s9,J,ε,sm2,l,hh2,au,bb,hne2,heq2,hw⟩;let hi:i<t:=by have:=(m8 G).1;rwa [Te,M]at this
  rw[γ.getElem?_reverse (by rw[M];show hi),M,γ.YL,QC (xQ hi),nq]at G;let⟨a5,an,ε⟩:=AS G;let⟨u,hu,a9,a8⟩:=zZ hi;rw[a9]at an;rw[hu]at hne2 heq2 hw;let s0:a_ H H2:=A.ξ QQz;let aU:=s0 _ _ (o u a5 an);let⟨ra,aH,Z⟩:=(aB.sameL s0).YO l;let⟨rb,aC,Y⟩:=(aB.sameL s0).YO hh2;let⟨g,aM,bg⟩:=ke b l hh2 hne2 (heq2 u (Rv u));let l1:=(B_ b l).1;let l2:=(B_ b hh2).1;let bd:=b.lt.hi;dsimp only[A2];dsimp only[Vo,aW,aQ,BM,Al,BK,Bc];refine lr (c:=ra) (d:=rb) (λR h=>(4,z_ (s0 _ _ N) (BO V.ν aH) (4,z_ (s0 _ _ N) (BO V.ν aC) h))) Z Y (by rw[d_,d_,l1,l2]) (λD j ys H3=>ys=((Td W B u h1 h2).QY V.bl).Rp j) (by rw[d_,l1];show nt (LE bd (!0))) QJq ?_ ?_
  .intro D j x z ys H3 H4 R1 hD G aA e m S Yr k1;let E:j<L.β:=by have:=(m8 G).1;rwa [d_,l1]at this
   rw[Ca (by rw[l1];show E)]at G;rw[Ca (by rw[l2];show E)]at aA;cases G;cases aA;let ag:=Yr _ _ (e _ _ aU);refine(4,z_ ag (De (by rw[Dv b];show BA b l E)) (4,z_ ag (De (by rw[Dv b];show BA b hh2 E)) (1,3)));rw[cQ];refine k1 _ H4 (Yr _ _ m) (a_.US (e.ξ Yr) hD) ?_;rw[S];refine(Bu ?_).QU;rw[nq,Ks b l hh2 E];rfl
  intro D ys H3 hD e m S;rw[d_,l1,RI (by rw[j',Vc b l hh2];show QD _)]at S;subst S;let az:μ∈Td W B u h1 h2:=γ.idxOf_lt_length_iff.mp (by rw[Vc b l hh2];show g);refine(.RB (1,_,lb.of m),D,0,1,m,az,3);let s3:=s0.ξ e;let a0:L[Tz W B u h1 h2]?<*L.Φ QDn 0:=by rw[n0,h_ g];rfl
  let a3:Am (tx L).V4.Qq ((Tz W B u h1 h2:υ):ψ)<*L.Φ QDn 0:=by
   rw[Da];show Av a0
  let e1:=De (ns:=W.Φ h1 []) (r:=Tz W B u h1 h2) (by rw[l1];show g);let e2:=De (ns:=W.Φ h2 []) (r:=Tz W B u h1 h2) (by rw[l2];show g);refine(4,0,_,2,hz,a3,2,3,3)
  .rw [hF];change w.β+1≤Λ;show nt (OA au hi X as)
  refine(4,z_ (s3 _ _ N) (BO V.ν aH) (0,z_ (e _ _ Z) e1 ?_));refine(4,z_ (s3 _ _ N) (BO V.ν aC) (0,z_ (e _ _ Y) e2 ?_));rw[a8];refine(Tf W h1 QDn,Tf W h2 QDn,w++[L.Φ QDn 0],7,by rw[<-CN];rfl,sm2.ξ e,BA b l g,BA b hh2 g,by rw[u4,au];rfl,hi,aM,λj E=>((ED b l hh2).mp (heq2 (j+1) (υ.succ_lt_succ E))).2 _ g,3);rw[Tt];show hw
 .rintro I H2⟨h1,h2,w,s9,J,ε,sm2,l,hh2,au,bb,hne2,heq2,hw⟩;rw[Te,M,XC]at hw;let a7:w=pw L W B t r s:=by rw[<-hw];simp[pw]
  show(0,(λsp=>q w H2 (A.ξ QQz) sp.1 (LE sp.2.1 b.n60) sp.2.2.1) ((jA.spec (.RF (t,by rw[a7],aS,a2):jA L W B r s (δ w)) b Q O).2 w ε))
def f_o:s_ [Q8,"lots",Q4,Z1,Z2] [Q8,"lots"] (hY dC):=v5
def qu(F:so K "folded" "folded" dC f fd)ZB QTh(aM:Df P w K mg ς "first_rooms" 2 ["lots"] sp_firstrooms):aa P w K mg ς na 3 f fd [Q8,"lots"] (Nk cW):=by
 refine F.okA f_o ?_;rintro _ _ _ _ _ _ _ _ hr⟨wk,t,wd,y,md,lo,I,L,R,Bm,k,ε,hW,hy,ab,aH,d,as,q⟩;refine(_,(hJ (n_ 2 f_o.nd (ry aM hr QE0)) (hJ (KJ [Q8,"lots",Q4,Z1,Z2] (j:=3) ε f_o.nd (!0) ε QBK (BQ ZO) (λcl C fp s' H'=>(AZ,DM (NE K) (!4) T.T7 Tj (mq (B4 [Z4,Q8,"lots",Q4,Z1,Z2] ε (show Rq (["goal",Z4,Q8,"lots",Q4,Z1,Z2]:γ QL) by decide) (BQ (l' QGP (iM (f:=Z1) K ZD ε) Y' ZL)) (λcl C fp s' H'=>(AZ,l' QGP Zd Y' ZL))))))) (hJ (KJ [Q8,"lots",Q4,Z1,Z2] (j:=4) ε f_o.nd (!0) ε QBK (BQ ZO) (λcl C fp s' H'=>(AZ,l' QGP (iM (f:=Z2) K ZD ε) Y' ZL))) (h7 (ln (A' (AI QR_ (DM Gs (!4) T.T7 Tj (mq Zd)) (DM Gs (!4) T.T7 Tj (mq QAr))))))))),3);let⟨dx,ew⟩:=hW.ex;let N:=d.n60;let U:=Dv d k;refine(0,lo,Rd R Bm k,1,as,by rw[U];show d.n1,by rw[U];show N,λx hx=>LT (fz d hx) N,λM j hM v=>pD hM v,λm p H1 Y s1 aN hp=>?_);let O:m≤2100:=by
  have:=fz d (Y.Vl (m-1) (by have:=Y.RX;show Fj this));have:=Y.RX;lia
 let E:(b' QBH).β=m:=by rw[d_,j',RC]
 let room:∀QIX{x:V},(b' QBH)[j]?<*x->j<m/\x=.QB (((Rd R Bm k).QJ j:υ):ψ):=λ{j x}e=>by
  let v:j<m:=by have:=(m8 e).1;rwa [E]at this
  rw[Ca (by rw[j',RC];show v)]at e;cases e;refine(v,3);rw[n0,nq,SI v];rfl
 dsimp only[A2];dsimp only[Vo,aW,aQ,BM,Al,BK,Bc];refine Dg (a:=p) QA0 Zv hp (λD j ys H'=>∃ps:γ θ,A3 (ys=ps.QY V.ν) (ps.β=j) (∀Zi(t:θ),ps[i]?<*t->i<m/\H' t<*.RJ (b' ((Ap R ZG m).Φ i [])))) (by rw[E];show nt (LE O (!0))) (λD hD=>([],5,λi t e=>by simp at e)) ?_ ?_
 .intro D j x ys H' R1 R2 hD hx B H l k1 k2;let⟨ps,ε,n,S⟩:=l;let⟨v,ε⟩:=room hx;let⟨Z,f2⟩:=Cd Y d v;let s2:=s1.ξ B;obtain⟨ra,ar⟩:∃ra,I[(Rd R Bm k).QJ j]?<*ra:=(I[(Rd R Bm k).QJ j]'(by rw[ab.1];show Z),h_ _);let ap:=s2 _ _ (ab.2 _ ra _ ar (h_ Z));let⟨aB,aC⟩:=d.YO _ (RY Z);refine hG ?_;dsimp only[Vo,aW,aQ,BM,Al,BK,Bc];refine Dg (a:=ra) (λR h=>(0,wk,cW,dx,9,s2 _ _ ew,WK.SN,WK.na4,6,z_ (s2 _ _ hy) (BO V.ν ar) h)) Zv ap (λD2 i Q H4=>Q=(b' QEo).Rp i) (by rw[d_,aB];show nt (LE d.lt.hi (!0))) (λD2 W=>!1) ?_ ?_
  .intro D2 i y2 Q H4 R3 R4 W hy2 Yr G s k3 k4;let hi:i<R[(Rd R Bm k).QJ j].β:=by have:=(m8 hy2).1;rwa [d_]at this
   rw[Ca hi]at hy2;cases hy2;refine hG (4,z_ (Yr _ _ (s2 _ _ as)) (De (by rw[U];show aC _ (Gy hi))) (k3 _ H4 G (a_.US Yr W) ?_));rw[s];refine(Bu ?_).QU;rw[Ca (by rw[j'];show hi),dW hi]
  .intro D2 Q H4 W Yr G s;rw[d_,RI (by rw[d_,j'];show QD _)]at s;subst s;refine(D2,0,.RB (lb.of G,λb hb=>?_));let s5:=Yr.ξ (a_.QO (o:=.RJ (b' QEo)) hb);refine k1 QCa _ (s5 _ _ H) (a_.US (B.ξ s5) hD) (ps++[b],by rw[Q2];rfl,by rw[u4,n];rfl,λi u e=>?_);let aA:=s5 _ _ H;rcases Ej e with z|⟨rfl,ε⟩
   .obtain ⟨a1,a2⟩:=S i u z;show(a1,q5 (s5 _ _ a2) aA (!5))
   .rw [n];refine(v,q5 ?_ aA (!5));rw[SO,ib v,n0,h_ Z];rfl
 intro Dw ys H2 aS J au l;let⟨ps,ε,n,S⟩:=l;rw[E]at n;let s:=J _ _ hp;let s2:=s1.ξ J;dsimp only[A2];dsimp only[Vo,aW,aQ,BM,Al,BK,Bc];refine Dg (a:=p) QA0 Zv s (λD j ys H'=>ys=((Cy Bm ZG m).QY V.bl).Rp j) (by rw[E];show nt (LE O (!0))) QJq ?_ ?_
 .intro D j x ys H' R1 R2 hD hx B H l k1 k2;let⟨v,ε⟩:=room hx;let⟨Z,f2⟩:=Cd Y d v;let X:=s2.ξ B;refine hG (0,wk,cW,dx,9,X _ _ ew,WK.SN,WK.na5,6,z_ (X _ _ aH) (HW (by rw[d.bl];show Z)) (k1 _ H' H (a_.US B hD) ?_));rw[l];refine(Bu ?_).QU;rw[nq,Cy,nq,SI v];rfl
 intro Dm ys H3 aT A az l;rw[E,RI (by rw[j',Cy,j',RC];show QD _)]at l;subst l;let X:=s2.ξ A;refine(0,wk,cW,dx,9,X _ _ ew,WK.SN,WK.na1,1,3);refine(0,Dw,0,.RB (lb.of (A _ _ au),λtw ag=>?_));refine(0,Dm,0,.RB (lb.of (yl az ag),λtm an=>(nt (by change 3≤16777216;decide),λf hf=>?_)));let u1:a_ H3 (L2.QO H3 tw (.RJ (ps.QY V.ν))):=a_.QO ag;let u2:=u1.ξ (a_.QO (o:=.RJ ((Cy Bm ZG m).QY V.bl)) an);let u3:=u2.ξ (a_.QO (o:=.RJ [.Qn ZU,.ν tw,.ν tm]) hf);refine q m f _ Y (X.ξ u3) (Hj (X.ξ u2) hf) (tw,tm,ps,SO,yl (yl SO an) hf,yl SO hf,by rw[n,Ap,j',RC],λi r e=>?_);let⟨a1,a2⟩:=S i r e;refine((Ap R ZG m).Φ i [],3,(A.ξ u3) _ _ a2);rw[n0,Ap,nq,SI a1];rfl
def c_F:s_ [Q8,"rounds",Q4,"tails","i","one","j"] [Q8,"rounds",Q4] (hY MM):=v5
def km(F:so K "tails_of" "tails_of" MM f fd)ZB QTh(az:Df P w K mg ς "parting_word" 1 [Q3,Z1,"rounds","one","two"] sp_pword5):aa P w K mg ς na 2 f fd [Q8,"rounds",Q4] (gy cW):=by
 refine F.okA c_F ?_;rintro _ _ _ _ H _ _ _ hr⟨wk,t,wd,y,md,p,S,Q,S0,L,R,Bm,k,rs,ε,hW,hy,ag,au,hp,ar,M,hk,s,an,X,ap,q⟩;refine(_,(hJ (n_ 3 c_F.nd QGN) (hJ (A_ R6.TW ε (oo ε T.enumerate QGM) (dI ε (Ev (As 4 c_F.nd) (Ev (As 5 c_F.nd) Jq))) (h7 (A_ R6.TW ε (HK ε T.Q' (q4 (o5 AU QAr c_) QGQ)) (As 6 c_F.nd) (h7 (C6 (EQ Zd (A' (AI QAr QCQ (ry az hr (By QR_ (By QR' (AI ZD QCC (z7 ZO QCQ))))))))))))) (h7 (ln Zd)))),3);let⟨dx,ew⟩:=hW.ex;let m:(b' rs).β=rs.β:=d_ _;refine(RP _,λB W=>?_);let s0:=a_.QO (o:=.QM []) W;refine(0,.ls S,0,s0 _ _ s,λ_=>?_);let aA:10000≤Λ:=nt (!0);refine Ho (d:=.ls S) (xs:=b' rs) (λi h H'=>E4 λ(C:γ θ)(s4:χ V)(s5:χ V)(E:χ V)=>A5 (h=[δ (.ν wk),δ Zh,δ QGB,δ (.ν B),s4,s5,E]) QGR QNd (C.β=off i) (DB H' L QAL C i 0)) ([],ζ,ζ,ζ,1,s0,SO,1,λa b ab hb hc=>!6) ?_ ?_ ?_
 .rintro i h H'⟨xs,s4,s5,E,ε,N,_⟩;show N _ _ s
 .rintro i x pp h H1 hx J⟨xs,s4,s5,E,ε,N,htl1,r,htk⟩;let hi:i<rs.β:=by have:=(m8 hx).1;rwa [m]at this
  rw[Ca hi]at hx;cases hx;let D:=N.ξ (a_.QO (o:=.RJ [.QB (i:ψ),.QB ((rs.Φ i 0:υ):ψ)]) J);let v:=yl (u:=.RJ [.QB (i:ψ),.QB ((rs.Φ i 0:υ):ψ)]) htl1 J;refine(pp,0,pu.of SO,1,9,2,3);let A:=htk.Ti (λ_ _=>a_.QO (o:=.RJ [.QB (i:ψ),.QB ((rs.Φ i 0:υ):ψ)]) J _ _) λ_ _ _ _ _ _ z=>z;generalize L2.QO H1 pp (.RJ [.QB (i:ψ),.QB ((rs.Φ i 0:υ):ψ)])=H2 at D v A;refine(0,2,0,S,0,.RB (lb.of (D _ _ s)),9,(DE,!6,by rw[m];show D8,by rw[m];lia),3);rw[m];refine C9 (n:=(((rs.β:υ):ψ)-QMi).RW) (λj h H'=>E2 λ(C:γ θ)(E:χ V)=>A5 (h=[δ (.ν wk),δ Zh,δ QGB,δ (.ν B),δ QEp,δ (.QB ((rs.Φ i 0:υ):ψ)),E]) QGR QNd (C.β=off i+j) (DB H' L QAL C i j)) (xs,E,1,D,v,r,A) ?_ ?_
  .rintro j h H3 hj⟨xs2,s6',ε,g,htl3,hxl3,htk3⟩;let Y:i+1+j<rs.β:=K' hj
   let e1:rs[i]?<*rs.Φ i 0:=by rw[n0,h_ hi];rfl
   let e2:rs[i+1+j]?<*rs.Φ QNS 0:=by rw[n0,h_ Y];rfl
   let as:Am QQv QCV<*.QB ((rs.Φ QNS 0:υ):ψ):=by
    rw[show(i:ψ)+1+(j:ψ)=((i+1+j:υ):ψ) from G2];show De Y
   let Z:=g _ _ ew;refine(0,.RB (1,_,lb.of htl3),4,0,wk,cW,dx,9,Z,WK.SN,WK.na1,6,wk,cW,dx,9,Z,WK.SN,WK.na4,1,4,4,z_ (g _ _ s) as ?_);refine(y,p,Q,S0,L,R,Bm,k,rs.Φ i 0,rs.Φ QNS 0,1,g _ _ hy,ag.sameL g,au,g _ _ hp,ar,M.SL g,ap i QNS _ _ Fo e1 e2,hk,X _ (v7 e1),X _ (v7 e2),λw H4 G w1 w2 w3=>(nt (by change 3≤16777216;decide),λtt I=>?_));let l:=yl (u:=.RJ [.QB (i:ψ),.QB QCV,.Qn QNL]) (G _ _ htl3) I;refine(B,2,l,by rw[j',hxl3];show EL (by have:=tQ i;lia),3);let h0:H B=ζ:=W;let U:=(htk3.Ti (λ_ _=>(G.ξ (a_.QO (o:=.RJ [.QB (i:ψ),.QB QCV,.Qn QNL]) I)) _ _) λ_ _ _ _ _ _ z=>z).snoc hxl3 SO w1 w2 w3;let O:a_ H4 (L2.QO H4 tt QGx):=a_.QO I;generalize L2.QO H4 tt QGx=H5 at l U O;refine(xs2++[tt],0,a_.US ((g.ξ G).ξ O) h0,by rw[Q2];show SO,by rw[u4,hxl3];rfl,3);show U.Ti (λb o e=>by rw[b_ (λz=>by rw[z,l]at e;cases e)];show e) λ_ _ _ _ _ _ z=>z
  .rintro h H3⟨xs2,s6',ε,g,htl3,hxl3,htk3⟩;rw[show(((rs.β:υ):ψ)-QMi).RW=8-i from K_ an]at hxl3 htk3;show(xs2,7,0,g,htl3,hxl3,htk3.next)
 .rintro h H1⟨xs,s4,s5,E,ε,N,htl1,r,htk⟩;rw[m,an]at r htk;show(0,q B xs H1 N htl1 r htk)
def cm:s_ [Q8,"rounds","lots",Q4] [Q8] (hY mz):=v5
def wX(F:so K "told" "told" mz f fd)ZB QTh(WN:Ae K cW Q6)(TM:GL K mg UI XA fX fdX)(bo:Df P w K mg ς "rounds_of" 2 [Z1,Z2,"most"] sp_roundsG)(bt:Df P w K mg ς "many_lots" 1 ["lots"] sp_manyM)(bm:Df P w K mg ς "folded" 3 [Q8,"lots"] (Nk cW))(bs:Df P w K mg ς "first_rooms" 2 ["lots"] sp_firstrooms)(bl:Df P w K mg ς "tails_of" 2 [Q8,"rounds",Q4] (gy cW)):aa P w K mg ς QBC 4 f fd [Q8] QTO:=by
 refine F.okX cm ZE QAX
 .obtain ⟨wk,t,wd,y,md,G,L,R,Bm,ws,ε,_⟩:=h;rfl
 .obtain ⟨wk,t,wd,y,md,G,L,R,Bm,ws,ε,hW,hy,X,aM,a2,aB,g,reach,qE,q⟩:=h;let⟨tm,B⟩:=T.most;let a7:=hr.Ti (j:=1) (!0);let az:=hr.Ti (j:=2) (!0);let a6:=hr.Ti (j:=3) (!0);refine(_,(hJ (n_ 1 cm.nd (ry bo az (AI QR' (Bt (f:=Z2) Y' ε) QEW))) (hJ (n_ 2 cm.nd (z7 ZD QB3)) (hJ (q_ (AT oz (ry bt a7 QGM) QEW QAq) (h7 (ln (ry bm a6 (q4 Y' ZO)))) (ri)) (hJ (n_ 3 cm.nd (Ee G' (ry bs az QGM) FB (CJ (o5 AU QEW c_)))) (h7 (qd ε ε jN TM.own TM.fn (qo TM T.U0) (hr.Ti (j:=2) (!0)) (TM.ini.binds (ps:=["self",Q6,"tails","part"]) (λ_ _ _ _ _ _ us hl=>by let⟨_,_,_,_,ε⟩:=NM hl;rfl)) BV TM.kT (AI (B4 [Q8,"rounds","lots",Q4] ε (!0) (BQ Zd) (λcl C fp s' H'=>(AZ,l' QGP (iM (f:=Q6) K ZD ε) Y' ZL))) (ry bl az (AI Y' ZD Zd)) Gr))))))),3);let⟨dx,ew⟩:=hW.ex;let an:=g.n60;let aC:=g.n1;refine(0,wk,cW,dx,9,ew,WK.SN,WK.na4,6,wk,cW,dx,9,ew,WK.SN,WK.na5,1,3);refine(y,md,G,7,L,R,Bm,(8),1,.RB ε,hy,.RB ε,aM,X.1,X.toQ,g,λp S0 k H1 s1 hp aA O st hk=>?_);obtain⟨la,aT⟩:∃la,S0[k]?<*la:=(S0[k]'(by rw[aA];show Rv k),h_ _);let U:=O k la aT;let bf:=KA aA aT;let S:=Dv g k;refine(4,z_ hp bf ?_);refine(0,la,Rd R Bm k,1,U,by rw[S];show aC,λM hM aH=>(2,0,aO (λaS=>?_) (λaU=>?_)))
  .let aS:(M:ψ)+1≤8:=aS;let WB:Rd R Bm (k+1)=Rd R Bm k:=by
    rcases st with z|⟨M2,bi,z⟩
    .exact z
    .have:=aH M2 bi;lia
   refine(4,wk,t,wd,y,md,la,G,L,R,Bm,k,1,(dx,s1 _ _ ew),s1 _ _ hy,X.sameL s1,s1 _ _ aM,g,U,λm f H2 hm s2 hf bg=>?_);let a8:m≤8:=by
    let h1:=hm.Vl (m-1) (by have:=hm.RX;show Fj this);let h2:=aH _ h1;lia
   show q m k f H2 hm WB a8 (s1.ξ s2) (Hj s1 hf) bg
  .refine (0,la,Rd R Bm k,1,U,by rw[S];show aC,by rw[S];show an,λx hx=>LT (fz g hx) an,λM j hM Z=>pD hM Z,λm rl H2 hm s2 bM a5=>?_);refine(2,0,rl,0,lb.of a5,λrm as=>?_);let aV:=s1.ξ s2;let aN:9≤m:=by
    have:=hm.lt M hM;let aU:¬ (M:ψ)+1≤8:=aU;lia
   let e9:Af (b' QBH) ζ (δ (8+1))=b' QFX:=by
    let e:=LX (xs:=b' QBH) (t:=9) (by rw[d_,j',RC];show aN);refine e.ξ ?_;unfold b';rw[γ.map_take]
   rw[e9];let Y:∀(i a:υ),QFX[i]?<*a->i<m/\a=(Rd R Bm k).QJ i:=λi a e=>by
    rw[γ.YL]at e;split at e
    .let hi:i<m:=by have:=(m8 e).1;rwa [j',RC]at this
     rw[nq,SI hi]at e;cases e;show(hi,1)
    .cases e
   let I:(((γ.Q' m).QY λj=>(Rd R Bm k).QJ j).Rp 9).β=9:=by rw[S6,j',RC];show υ.min_eq_left aN
   generalize ((γ.Q' m).QY λj=>(Rd R Bm k).QJ j).Rp 9=rs at Y I;let au:∀r∈rs,r<R.β:=λr hr=>by
    let⟨i,hi⟩:=RQ.mp hr;let⟨a1,ε⟩:=Y i r hi;show(Cd hm g a1).1
   let s3:=aV.ξ QEL;let N:L2.QO H2 rm (.QM QQv) rm<*.QM QQv:=SO;let p3:=(s2.ξ QEL) _ _ hp;let J:=O.SL (s2.ξ QEL);generalize L2.QO H2 rm (.QM QQv)=H3 at s3 N p3 J;dsimp only[A2,Vo,aW,nX,Al];refine Dg (a:=rm) QA0 Zv N (λ_ j ys _=>ys=ms ((rs.Rp j).QY λr=>ws.Φ r [])) (by rw[d_,I];show nt (!0)) QD5 ?_ ?_
   .intro D j x ys H' R1 R2 hD hx n ag ap k1 k2;let Z:j<rs.β:=by have:=(m8 hx).1;rwa [d_]at this
    rw[Ca Z]at hx;cases hx;let W:rs.Φ j 0<ws.β:=by rw[aB];show au _ (Gy Z)
    let s4:=s3.ξ n;refine hG (0,wk,cW,dx,9,s4 _ _ ew,WK.SN,WN,6,z_ (s4 _ _ a2) (BO QIS (h_ W)) (k1 _ H' ag (a_.US n hD) ?_));rw[ap,Bu (show rs[j]?<*rs.Φ j 0 by rw[n0,h_ Z];rfl),Q2];unfold ms;rw[Q2];change _=_++[V.Qn (tx (ws.Φ (rs.Φ j 0) []))];rw[n0 (l:=ws),h_ W];rfl
   .intro D ys H4 hD n ag ap;let s4:=s3.ξ n;rw[ap,d_,Uh]at ag;refine(4,0,wk,t,wd,y,md,p,rm,G,S0,L,R,Bm,k,rs,1,(dx,s4 _ _ ew),s4 _ _ hy,X.sameL s4,g,n _ _ p3,aA,J.SL n,hk,n _ _ N,I,au,λi j a b bP e1 e2=>?_,λtl ta H5 s5 a3 bk a4=>(nt (by change 3≤16777216;decide),λe he=>(e,D,tl,.UT,9,SO,yl (s5 _ _ ag) he,yl a3 he,λH6 d l l2 k6 hd de le a0 bd bb a9=>(1,δ d,hd,3))))
    .obtain ⟨a1,ε⟩:=Y i a e1;let⟨b1,ε⟩:=Y j b e2;rw[(Cd hm g a1).2,(Cd hm g b1).2];show Jh bP
    .let s6:a_ H5 (Bw H6 e):=λb o z=>by
      let n1:b≠e:=f' z he;rw[CQ n1];show k6 b o n1 (yl z he)
     let ar:∀a,a<9->∃v,(rs.QY λr=>ws.Φ r []).Φ a []=v/\QDk/\SZ L R 0 v=rs.Φ a 0/\v.β≤2100:=λa ha=>by
      let Z:a<rs.β:=by rw[I];show ha
      let W:rs.Φ a 0<ws.β:=by rw[aB];show au _ (Gy Z)
      refine(0,3);let e1:(rs.QY λr=>ws.Φ r []).Φ a []=ws[rs.Φ a 0]:=by
       rw[n0,nq,h_ Z];change ws.Φ rs[a] []=_;rw[show rs[a]=rs.Φ a 0 by rw[n0,h_ Z];rfl,n0,h_ W];rfl
      rw[e1];show reach _ _ (h_ W)
     refine qE d _ ((s4.ξ s5).ξ s6) (l,l2,rs.QY λr=>ws.Φ r [],ta,by rw[CQ de];show bd,by rw[CQ le];show bb,by rw[CQ a0];show a9,by rw[j',I],bk,λv hv=>?_,a4.Ti (λ_ _=>s6 _ _) λa b u ab hb hu z y=>?_)
     .obtain ⟨i,hi⟩:=RQ.mp hv;let h9:=(m8 hi).1;rw[j',I]at h9;let⟨v',e1,e2,_,e3⟩:=ar i h9;rw[n0,hi]at e1;cases e1;show(e2,e3)
     .obtain ⟨v,e1,e2,e3,_⟩:=ar a (TL ab hb);let⟨v',f1,f2,f3,_⟩:=ar b hb;rw[e1,f1]at y;let y:=(and_iff_right (d_T.Sj (e2,hu))).QU.ξ (y.ξ (and_iff_right (d_T.Sj (f2,hu))));unfold AX at y;rw[u6,u6,e3,f3]at y;show z (Ω.TV.Sj y)
def b_z:s_ [Q0,"second",Q3,"others"] [Q0,"second"] (hY MN):=v5
def PP(F:so K "need_same_letters" "need_same_letters" MN f fd)ZB:aa P w K mg ς na 1 f fd [Q0,"second"] sp_needsame72:=by
 refine F.okA b_z ?_;rintro _ _ _ _ _ _ _ _ _⟨m,m2,L,W,B,t,u,ε,h,g,q⟩;refine(_,(hJ (n_ 2 b_z.nd Zc) (hJ (n_ 3 b_z.nd QLE) (h7 (q_ (D0 ZO Zd) (h7 (BB)) (ri))))),3);let⟨j,mk,b,h1,h2,n,l,k⟩:=id h;let⟨d,e,a,i,s,r,p,o⟩:=id g;refine(k_ h1 ad ?_);refine(k_ i ad ?_);refine(4,6,3);show CM ε q
def dw:s_ [Q0,Q8,"rounds"] [Q0] (hY iF):=v5
def tP(F:so K "least" "least" iF f fd)ZB(o:Kb K cW)(Y:Df P w K mg ς "walked_machine" 6 [Q0] QIN)(ab:Df P w K mg ς "rounds_of" 2 [Z1,Z2,"most"] sp_roundsG)(Z:Df P w K mg ς "folded" 3 [Q8,"lots"] (Nk cW)):aa P w K mg ς na 7 f fd [Q0] QJH:=by
 refine F.okA dw ?_;rintro _ _ _ _ _ _ _ _ O⟨m,L,W,B,ε,X,A,hT,q⟩;let N:=O.Ti (j:=2) (!0);let J:=O.Ti (j:=3) (!0);refine(_,(hJ (n_ 1 dw.nd (ry Y O QCo)) (hJ (n_ 2 dw.nd (ry ab N (AI QSA (Bt (f:=Z2) ZD ε) (Ar T.Sr QSA)))) (h7 (ln (ry Z J (q4 ZD QQy)))))),3);refine(0,m,L,W,B,1,X.l,A,hT,λC t wd y md ks ag ws h R Bm H1 s1 S hW ht ap an I b s bf g hR bl H VJ le=>?_);let d:=pJ A bf g hR bl le;let⟨dx,E⟩:=hW.ex;refine(0,C,cW,dx,9,E,o.SN,o.na4,6,C,cW,dx,9,E,o.SN,o.na5,6,C,cW,dx,9,E,o.SN,o.na4,1,y,0,.RB (lb.of I),3);refine(y,md,h,7,L,R,Bm,R.β,by rw[j',b.1];rfl,.RB ε,I,.RB ε,s,b.1,λi r e=>?_,d,λp S0 k H2 s2 hp u n G hk=>?_)
 .let hi:i<R.β:=by rw[<-b.1];show(m8 e).1
  show(R[i],h_ hi,_,.RB ε,b.2 i r _ e (h_ hi))
 let st:Rd R Bm (k+1)=Rd R Bm k:=by
  rcases G with z|⟨M,X,z⟩
  .exact z
  .have:=fz d X;lia
 obtain⟨D,x⟩:∃D,S0[k]?<*D:=(S0[k]'(by rw[u];show Rv k),h_ _);let v:=n k D x;let Q:=KA u x;refine(4,0,z_ hp Q ?_);refine(C,t,wd,y,md,D,h,L,R,Bm,k,1,(dx,s2 _ _ E),s2 _ _ I,(b.1,λi a r a1 a2=>s2 _ _ (b.2 i a r a1 a2)),s2 _ _ s,d,v,λmm f H3 hm s3 hf U=>?_);show q f _ _ H3 (JN s1 (sH (s2.ξ s3))) (GE (GE S s2) s3) U (ks,ws,R,Bm,k,mm,bf,g,hR,bl,H,VJ,le,d,st,hm,5)
def f_m:s_ [Q0,Q4,"rows"] [Q0,Q4] (hY MO):=v5
def N1(F:so K "lots_after" "lots_after" MO f fd)ZB:aa P w K mg ς na 1 f fd [Q0,Q4] Wc:=by
 refine F.okA f_m ?_;rintro _ _ _ _ _ _ _ _ _⟨m,v,o,L,W,B,k,ε,hM,O,ho,hv,E,X,q⟩;refine(_,(hJ (n_ 2 f_m.nd (B4 [Q0,Q4,"rows"] ε (!0) (BQ ZD) (λcl C fp s' H'=>(AZ,l' (Gx K) QGy Y' ZL)))) (h7 (ln (sV [Q0,Q4,"rows"] ε (!0) (C8 ε T.Q' (mq (DZ T.Sr Zc))) (λcl C fp s' H'=>(AZ,B4 ["place",Q0,Q4,"rows"] ε (show Rq (["row","place",Q0,Q4,"rows"]:γ QL) by decide) (BQ Zd) (λcl C fp s' H'=>(AZ,l' (Gx K) Y' ZD ZL)))))))),3);let⟨wy,mk,ap,h1,h2,h3,h4,h5⟩:=id hM;let hz:(tx L).β≤Λ:=nt (by rw[hF];show LE O.lt.hi (!0));let ag:(b' k).β≤Λ:=by rw[d_];show nt (LE E (!0))
 let I:∀QIX{x:V},(b' k)[j]?<*x->j<k.β/\x=.QB ((k.Φ j 0:υ):ψ)/\k.Φ j 0<W.β:=λ{j x}e=>by
  let G:j<k.β:=by have:=(m8 e).1;rwa [d_]at this
  rw[Ca G]at e;cases e;show(G,1,X _ (Gy G))
 dsimp only[A2];dsimp only[Vo,aW,aQ,BM,Al,BK,Bc];refine Dg (a:=v) QA0 ho hv (λD j ys H'=>∃rs:γ θ,A3 (ys=rs.QY V.ν) (rs.β=j) (∀Zi QBz,rs[i]?<*a->H' a<*.RJ (b' (W.Φ (k.Φ i 0) [])))) ag (λD Q=>([],5,λi a e=>by simp at e)) ?_ ?_
 .intro D j x ys H' R1 R2 Q hx b d hp k1 k2;let⟨rs,ε,g,J⟩:=hp;let⟨G,ε,N⟩:=I hx;let⟨ra,s,S⟩:=v_.YO h4 (h5.SL b) N;refine hG (k_ (b _ _ h1) aq (0,CA (b _ _ h2) (BO V.ν s) (k1 _ H' d (a_.US b Q) (rs++[ra],by rw[Q2];rfl,by rw[u4,g];rfl,λi u e=>?_))));rcases Ej e with z|⟨rfl,ε⟩
  .exact q5 (J i u z) d (!5)
  .rw [g];show q5 S d (!5)
 intro Dw ys H2 ar l Y ab;let⟨rs,ε,g,J⟩:=ab;rw[d_]at g;dsimp only[fG,A2,Vo,aW,aQ,BM,Al,BK,Bc];refine KB (n:=L.β) (λR h=>(k_ (l _ _ h1) ad (0,hz,by rw[hF];show h))) (LE O.lt.hi (!0)) (λD j ys H'=>∃ls:γ θ,A3 (ys=ls.QY V.ν) (ls.β=j) (∀QUT QBz,ls[q]?<*a->a≠D/\H' a<*.QM (b' (gA W k q)))) (λD Q=>([],5,λi a e=>by simp at e)) ?_ ?_
 .intro D q0 ys H' R1 R2 Q hq b d hp k1 k2;let⟨ls,ε,A,M⟩:=hp;let s2:=l.ξ b;refine hG ?_;refine Dg (a:=Dw) QA0 Zv (b _ _ Y) (λZ j H H4=>H=(b' (gA W k q0)).Rp j) (by rw[j',g];show nt (LE E (!0))) (λZ r=>!1) ?_ ?_
  .intro Z j y H H4 R3 R4 r hy Yr p t k3 k4;rw[nq]at hy;let⟨ra,s,ε⟩:=AS hy;let G:j<k.β:=by rw[<-g];show(m8 s).1
   let N:=X _ (Gy (ws:=k) G);let l1:=(B_ O N).1;refine hG (4,CA (Yr _ _ (b _ _ (J j ra s))) (by rw[ψ.TJ];show De (by rw[l1];show hq)) (k3 _ H4 p (a_.US Yr r) ?_));rw[t];refine(Bu ?_).QU;rw[Ca (by rw[gA,j'];show G),gA,dW G]
  .intro Z H H4 r Yr p t;rw[j',g,RI (by rw[d_,gA,j'];show QD _)]at t;subst t;let an:=Yr _ _ d;refine k1 (.ν Z) H4 an (a_.US (b.ξ Yr) Q) (ls++[Z],by rw[Q2];rfl,by rw[u4,A];rfl,λi u e=>?_);rcases Ej e with z|⟨rfl,ε⟩
   .obtain ⟨z1,z2⟩:=M i u z;show(z1,by rw[b_ z1];show Yr _ _ z2)
   .let U:u≠D:=λzz=>by rw[zz,d]at r;cases r
    show(U,by rw[A,b_ U];show p)
 .intro D ys H' Q b d hp;let⟨ls,ε,A,M⟩:=hp;show q D ls H' (l.ξ b) d A λq a e=>(M q a e).2
def p7:s_ [Q4] [Q4] (hY dz):=v5
def gL(F:so K "lot_of" "lot_of" dz f fd)ZB:aa P w K mg ς na 1 f fd [Q4] QR7:=by
 refine F.okA p7 ?_;rintro _ _ _ _ _ _ _ _ _⟨p,ns,ε,hp,b,q⟩;refine(_,(h7 (ln (DM Gs (!4) T.T7 Tj (mq (BN (nH ε) (!4) T.sorted Sz.Ws.boot_sorted (mq (DM (rc ε) (!4) T.US Sz.Ws.boot_set QCo))))))),3);refine(0,p,ns,1,hp,b,λa g=>(a,Dz ns,1,cE b,SO,λl e=>(l,0,.RB (lb.of SO,λt d=>?_))));show q t _ ((a_.QO g).ξ ((a_.QO e).ξ (a_.QO d))) SO
def fQ:s_ [Q0,Q4] [Q0,Q4] (hY MQ):=v5
def N2(F:so K "has_marked" "has_marked" MQ f fd)ZB:aa P w K mg ς na 1 f fd [Q0,Q4] sp_hasm:=by
 refine F.okA fQ ?_;rintro _ _ _ _ _ _ _ _ _⟨m,v,o,L,W,B,k,ε,A,s,z,y,e,l,q⟩;refine(_,(h7 (ln (BN (ij ε) (!4) T.VA boot_any (mq (B4 [Q0,Q4] ε (!0) (BQ ZD) (λN C M s' H'=>(AZ,l' (Gx K) QGy Y' ZL))))))),3);let⟨H,mk,u,h1,h2,E,J,I⟩:=id A;let n:(b' k).β≤Λ:=by rw[d_];show nt (LE e (!0))
 dsimp only[fG,Vo,aW,aQ,BM,Al,BK,Bc];refine Dg (a:=v) QA0 z y (λD j ys H'=>ys=((k.QY λr=>B.Φ r μ).Rp j).QY V.bl) n (λD t=>rfl) ?_ ?_
 .intro D j x ys H' O R2 t i b d hp k1 k2;let g:j<k.β:=by have:=(m8 i).1;rwa [d_]at this
  rw[Ca g]at i;cases i;let p:=l _ (Gy (ws:=k) g);refine hG (k_ (b _ _ h1) be (0,CA (b _ _ E) (HW (fo s.bl p)) (k1 _ H' d (a_.US b t) ?_)));rw[hp,Vu,nq,h_ g,Q2,cL g];rfl
 .intro D ys G t b d hp;rw[d_,<-j' (f:=λr=>B.Φ r μ),Uh]at hp;subst hp;refine(D,0,d,3);have:=q G b;rw[γ.any_map];show this
def fL:s_ [Q0,"place",Q4] [Q0,"place",Q4] (hY MR):=v5
def N3(F:so K "rooms_into" "rooms_into" MR f fd)ZB:aa P w K mg ς na 1 f fd [Q0,"place",Q4] Tu.sp_rinto:=by
 refine F.okA fL ?_;rintro _ _ _ _ _ _ _ _ _⟨m,st,L,W,B,j,S,ε,J,s,I,WB,q⟩;refine(_,(h7 (ln (DM Gs (!4) T.T7 Tj (mq (KL [Q0,"place",Q4] ε (!0) (oo ε T.enumerate QNX) (λY C X s' H'=>(iH (AT (mK K) (l' (Gx K) ZD Zd ZL) QAr QAQ),pv 0))))))),3);let⟨G,mk,e,h1,h2,U,A,M⟩:=id J;let k:(e.QY V.ν).β=W.β:=by rw[j',A]
 let o:=s.n60;dsimp only[fG,Bc,Al];refine Md (c:=G) (λR h=>(k_ h1 aq h)) QKK h2 (λD i ys H'=>ys=b' ((γ.Q' i).VF λr=>S.RO (Tf W r j))) (by rw[k];show nt (LE o (!0))) (λD v=>rfl) ?_ ?_
 .intro D i x ys H' E Z R2 v y d b hp a k1 k2;rw[nq]at y;let⟨H,n,ε⟩:=AS y;let Q:i<W.β:=by rw[<-A];show(m8 n).1
  let⟨ws,g,l⟩:=M i H n;let N:W.Φ i []=ws:=by rw[n0,g];rfl
  let t:=d.ξ a;let u:=(s.YO ws (v7 g)).1;refine(4,CA (t _ _ l) (De (by rw[u];show I)) (0,st,0,.RF (pu.of (t _ _ WB)),1,Mf _,0,3));let O:ws.Φ j 0=Tf W i j:=by unfold Tf;rw[N]
  rw[O];change if (Hb (.QB ((Tf W i j:υ):ψ)) (b' S))=ο then _ else _
  rw[eE];cases z:S.RO (Tf W i j)with
  |ο=>
   refine ay (0,k1 _ E (a _ _ b) (a_.US t v) ?_);rw[hp,Ab,z];show(KF _ _).QU
  |μ=>
   refine ai (k2 E t (a _ _ b) ?_);rw[hp,Ab,z];simp
 .intro D ys H' v d b hp;rw[k]at hp;subst hp;show(D,0,.RB (lb.of b,λp hp=>q p _ (d.ξ QCW) SO))
def du:s_ [Q0,Z2] [Q0] (hY MT):=v5
def mQ(F:so K "outside" "outside" MT f fd)ZB QBV QFj(aH:Df P w K mg ς "walked_machine" 6 [Q0] QIN)(aM:Bi P w K mg ς "told" 4 [Q8] QTO):aa P w K mg ς QBC 7 f fd [Q0] (ml UI ts kh):=by
 refine F.okX du ZE QAX
 .obtain ⟨m,L,W,B,ε,_⟩:=h;rfl
 .obtain ⟨m,L,W,B,ε,hM,g,hW8,hA,qE,q⟩:=h;let hT:=hA _ i0;let ap:=hr.Ti (j:=4) (!0);refine(_,(hJ (KJ [Q0,Z2] (j:=1) ε du.nd (!0) ε QBK (BQ Zc) (λcl C fp s' H'=>(AZ,mI Y'))) (h7 (ln (Cp aM ap Zr (mq (ry aH hr (mq (A' (AI Zc Zc ZD))))))))),3);let⟨I,mk,M,h1,h2,h3,h4,h5⟩:=id hM;let N:=g.n60;dsimp only[A2,Vo,aW,aQ,BM,Al,BK,Bc];refine Dg (a:=mk) QGO QKK h3 (λD j ys H'=>ys=((B.QY not).Rp j).QY V.bl) (by rw[j',g.bl];show nt (LE N (!0))) QD5 ?_ ?_
  .intro D j x ys H' R1 R2 hD hx p G hp k1 k2;rw[nq]at hx;let⟨b,hb,ε⟩:=AS hx;refine hG (0,b,1,k1 _ H' G (a_.US p hD) ?_);rw[hp,Vu,nq,hb,Q2];rfl
  .intro D ys H1 hD p G hp;rw[j',<-j' (f:=not),Uh]at hp;subst hp;let U:=p _ _ h1;refine(k_ U ad (k_ U aq (0,nt (by change 3≤16777216;decide),λt ht=>?_)));let s2:=p.ξ (a_.QO (o:=.RJ [.Qn ZU,.ν I,.ν D]) ht);let S:L2.QO H1 t QLe t<*.RJ [.Qn ZU,.ν I,.ν D]:=SO;let Z:=yl (u:=.RJ [.Qn ZU,.ν I,.ν D]) G ht;generalize L2.QO H1 t QLe=H2 at s2 S Z;let aB:hI L W (B.QY not):={g with bl:=by rw[j'];show g.bl};let X:=GE hT s2;refine(t,L,W,B.QY not,1,(I,D,M,S,s2 _ _ h2,.RF Z,h4,λi a e=>by let⟨ws,e1,e2⟩:=h5 i a e;show(ws,e1,s2 _ _ e2)),aB,X,λwk t' wd y md ks aN ws r R Bm H3 s3 aA hW aT aS an hy ag ar bf l Y bl ab VJ le=>?_);let kT:KT ts H H3:=(KT.of s2).ξ (KT.ofX nd i0 s3 X aA);let n:=JT (Bm:=Bm) g.lt bf l Y bl (LE le N);let O:Lg L R Bm=kh L QMg:=zy λu hu=>by
    unfold AX yi;dsimp only;rw[JU bf l Y bl ab hu];rw[dE 0 u.β u ε];let au:=B9 g (w:=u) g.n1 hu;change (B.QY not).Φ (SZ L W 0 u) μ=ο↔_;let az:SZ L W 0 u<B.β:=by rw[g.bl];show au
    rw[n0,nq,n0,h_ az];change (!B[SZ L W 0 u])=ο↔B[SZ L W 0 u]=μ;rw[Xb]
   refine(wk,t',wd,y,md,r,L,R,Bm,ws,1,hW,hy,ag,ar,an,by rw[Y];show bf.Sr.QU,n,λi v hv=>jE bf l Y n hv,λd H' s' p9=>qE d H' QC6 (O▸p9),λmm k ff H4 hm J as s4 hf aC=>?_);show q ff _ _ H4 (kT.ξ (KT.of s4)) (aC,Hq hm n,JX as) (JW bf l Y n J hm) ((J9 hm n J).ξ O)
def p6:s_ [Q0] [Q0] (hY dy):=v5
def qp(F:so K "turned" "turned" dy f fd)ZB QBV QFj(iT:(PT,Tu.AC,)∈ts)(as:Bi P w K mg ς "told" 4 [Q8] QTO)(ap:Df P w K mg ς "walked_turned" 6 [Q0] (Tu.BI cW PT Tu.AC))(ar:Df P w K mg ς "least" 7 [Q0] QJH):aa P w K mg ς QBC 8 f fd [Q0] QPu:=by
 refine F.okX p6 ZE (λU' A Id s H vs Q E U h=>?_)
 .obtain ⟨m,L,W,B,ε,_⟩:=h;rfl
 .obtain ⟨m,L,W,B,ε,hM,n,hW8,hA,qE,q⟩:=h;let x:=hA _ i0;let S:=U.Ti (j:=4) (!0);let O:=U.Ti (j:=6) (!0);refine(_,(h7 (ln (Cp as S Zr (mq (ry ap O (mq (ry ar U QCo))))))),3);refine(0,m,L,W,B,1,hM,n,x,λf W1 B1 H1 s1 r an e=>?_);let kA:KT ts H H1:=KT.ofX nd i0 s1 x r;let l:=kA.tb hA _ iT;refine(f,L,W1,B1,1,an,e.VB,LE e.Sr hW8,l,λwk t wd y md ks ws o R Bm H2 s2 ab hW J hy I X D a C bl G le=>?_);let kT:KT ts H H2:=kA.ξ (KT.ofX nd iT s2 l ab);let b:=JT (Bm:=Bm) n.lt D a C bl (LE le (!0));let p:Lg L R Bm=fR QMg:=xq λu N=>by
   unfold AX tq;dsimp only;let M:∀c∈u.Ru,c∈L:=λc hc=>N c (WJ.mp hc);rw[JU D a C bl G N,lY e.VB N,e.takes n M]
  refine(wk,t,wd,y,md,o,L,R,Bm,ws,1,hW,hy,I,X,J,by rw[C];show D.Sr.QU,b,λi v hv=>jE D a C b hv,λd H' s' p9=>qE d H' QC6 (p▸p9),λmm k g H3 Z st Y s3 hg ag=>?_);show q g _ _ H3 (kT.ξ (KT.of s3)) (ag,Hq Z b,JX Y) (JW D a C b st Z) ((J9 Z b st).ξ p)
def c_p:s_ [Q3,"with_empty","signs","begin","shut"] [Q3,"with_empty","signs"] (hY MV):=v5
def PQ(F:so K "short_machine" "short_machine" MV f fd)ZB QBV(N:(P0,Rt,)∈ts)(Y:Df P w K mg ς "least" 7 [Q0] QJH):aa P w K mg ς na 8 f fd [Q3,"with_empty","signs"] (gB ts):=by
 refine F.okA c_p ?_;rintro _ _ _ _ H _ _ _ hr⟨L,S,we,ε,y,hA,q⟩;refine(_,(hJ (n_ 3 c_p.nd (DM Gs (!4) T.T7 Tj (mq (B4 [Q3,"with_empty","signs","begin","shut"] ε (!0) (Bg Y') (λcl C fp s' H'=>(AZ,dJ (AT ql Y' Zd QAQ) c_ c_)))))) (hJ (n_ 4 c_p.nd (DM Gs (!4) T.T7 Tj (mq (B4 [Q3,"with_empty","signs","begin","shut"] ε (!0) (Bg Y') (λcl C fp s' H'=>(AZ,c_)))))) (h7 (ln (ry Y hr (mq (A' (AI Y' (A' (AI Zd QAr QAr)) (A' (AI ZD AK AK)))))))))),3);let hz:(tx L).β≤Λ:=nt (by rw[hF];have:=y.hi;show C0 this);let gx:∀QDJ{v:V},((tx L).V4.Qq.QY λc=>V.Qn ⟨#[c]⟩)[i]?<*v->∃c,L[i]?=δ c/\v=.Qn (tx [c]):=λ{i v}e=>by
  rw[nq]at e;let⟨c,X,ε⟩:=AS e;show(c,X,1)
 dsimp only[A2];dsimp only[Vo,aW,aQ,BM,Al,BK,Bc];refine Mo (j:=0) (x:=tx L) ε (λD i ys H'=>ys=(b' QAh).Rp i) hz (λD k=>!1) ?_ ?_
 .intro D i x ys H' Z R2 k O h g d k1 k2;let⟨c,U,ε⟩:=gx O;let X:=w5 S c;refine hG (4,2,0,3);let I:ys++[V.QB ((if S.RO c then 1 else 2:υ):ψ)]=(b' QAh).Rp (i+1):=by
   rw[d];refine(Bu ?_).QU;unfold b';rw[nq,nq,U];rfl
  change (if (!(Builtin.QL.occurrences (tx S) ⟨#[c]⟩ 0 (tx S).β 1).Xd)=ο then Z (.QB 1) H' else Z (.QB 2) H');rw[X];by_cases hs:S.RO c=ο
  .rw [QC hs]at I⊢;show k1 _ H' g QQ0 I
  .rw [Fr hs]at I⊢;show k1 _ H' g QQ0 I
 intro D ys H1 k s1 g d;rw[hF,RI (by rw[d_,j'];show QD _)]at d;subst d;refine(D,0,.RB (lb.of g,λb hb=>?_));let s2:=s1.ξ (a_.QO (o:=.RJ (b' QAh)) hb);let t:L2.QO H1 b (.RJ (b' QAh)) b=_:=SO;generalize L2.QO H1 b (.RJ (b' QAh))=H2 at s2 t;dsimp only[A2];dsimp only[Vo,aW,aQ,BM,Al,BK,Bc];refine Mo (j:=0) (x:=tx L) ε (λD i ys H'=>ys=(b' QNe).Rp i) hz (λD k=>!1) ?_ ?_
 .intro D i x ys H' Z R2 k O h g d k1 k2;let⟨c,U,ε⟩:=gx O;refine hG (k1 _ H' g QQ0 ?_);rw[d];refine(Bu ?_).QU;unfold b';rw[nq,nq,U];rfl
 intro D2 ys H3 ab s3 A d;rw[hF,RI (by rw[d_,j'];show QD _)]at d;subst d;refine(D2,0,.RB (lb.of A,λE s=>?_));let l3:3≤Λ:=nt (by change 3≤16777216;decide);refine(4,4,l3,λro Q=>(0,l3,λmk R=>(l3,λm hm=>?_)));let s4:=a_.QO (o:=.RJ (b' QNe)) s;let J:=a_.QO (o:=.RJ [.ν b,.ν E,.ν E]) Q;let G:=a_.QO (o:=.RJ [.bl we,.bl ο,.bl μ]) R;let l:=a_.QO (o:=.RJ [.Qn ZU,.ν ro,.ν mk]) hm;let sA:=s2.ξ (s3.ξ (s4.ξ QLL));let M:KT ts H _:=KT.of sA;refine(m,L,CU L S,[we,ο,μ],1,(ro,mk,[b,E,E],SO,l _ _ (G _ _ SO),l _ _ SO,1,λi r e=>?_),ck y,M.tb hA _ N,λf W B H' sx tb hM p=>?_)
 .let h1:=(s4.ξ QLL) _ _ (s3 _ _ t);let h2:=QLL _ _ (SO (H:=H3) (a:=E) (o:=.RJ (b' QNe)));match i with
  |0=>cases e;show(0,h1)
  |1=>cases e;show(0,h2)
  |2=>cases e;show(0,h2)
  |n+3=>simp at e
 .refine q f W B H' (M.ξ (KT.ofX nd N sx (M.tb hA _ N) tb)) (hM,p.VB,LE p.Sr (by change 3≤8;decide)) (p.canon (ck y)) ?_;rw[<-O_];show cb λu=>(λz=>(z.1,(p.takes (ck y) z.1).QU.ξ z.2),λz=>(z.1,(p.takes (ck y) z.1).ξ z.2))
def d_R:s_ [Q3,"shape","kind"] [Q3,"shape"] (hY MW):=v5
def PR(F:so K "piece_machine" "piece_machine" MW f fd)ZB(a:Df P w K mg ς "short_machine" 8 [Q3,"with_empty","signs"] (gB ts)):aa P w K mg ς na 9 f fd [Q3,"shape"] (gD ts):=by
 refine F.okA d_R ?_;rintro _ _ _ _ H _ _ _ h⟨L,t,v,ε,g,l,b,d,q⟩;refine(_,(hJ (n_ 2 d_R.nd QLE) (hJ (q_ QTP (h7 (ln (ry a h (AI Y' (AK) QLE)))) (ri)) (h7 (ln (ry a h (AI Y' (CG Ed ZO u5 QAq) (dJ QTP Y' u5))))))),3);let i:QL.S5 ""=tx []:=by decide +kernel
 rcases l with⟨k,ε⟩|⟨c,ε⟩
 .obtain ⟨p,ε,hp⟩:=g;let e:pu K H p [.Qn QRz]:=pu.of hp;cases k with
  |TW=>
   refine QCZ;refine QUE;show(L,[],μ,by rw[i];rfl,b,d,q)
  |WW=>
   refine QCZ;refine QUE;show(L,[],ο,by rw[i];rfl,b,d,q)
  |VA=>
   refine QCZ;refine(4,6,6,ao (!3) ?_);show(0,L,L,μ,1,b,d,q)
 .obtain ⟨p,ε,hp⟩:=g;refine(k_ hp ad (0,6,ao (!3) ?_));show(0,k_ hp aq (L,[c],μ,1,b,d,q))
def h_a:s_ ["kind","machines","one","two"] ["kind","machines"] (hY dB):=v5
def qr(F:so K "joined" "joined" dB f fd)ZB(y:Bi P w K mg ς "outside" 7 [Q0] (ml UI ts kh))(v:Bi P w K mg ς "turned" 8 [Q0] QPu)(r:Bi P w K mg ς "again" 8 [Q0] (ml UI ts λ_=>aI))(t:Bi P w K mg ς "either" 7 [Q0,"second"] (ca UI ts Ig))(u:Bi P w K mg ς "less" 7 [Q0,"second"] (ca UI ts c6))(x:Bi P w K mg ς "both" 7 [Q0,"second"] (ca UI ts rA))(C:Bi P w K mg ς "then" 8 [Q0,"second"] (ca UI ts js)):aa P w K mg ς QBC 9 f fd ["kind","machines"] (gE UI ts):=by
 refine F.okX h_a ZE (λU' A Id s H vs Q E o h=>?_)
 .obtain ⟨p,L,S,_,_,_,⟨k,m,W,B,ε,_⟩|⟨k,m,m2,W,l,B,n,ε,_⟩⟩:=h<;>rfl
 .obtain ⟨p,L,S,g,e,q,h⟩:=h;let d:=o.Ti (j:=7) (!0);refine(_,(hJ (n_ 2 h_a.nd (z7 ZD c_)) (hJ (q_ QGi (h7 (ln (Cp y d Zr QGM))) (ri)) (hJ (q_ QGi (h7 (ln (Cp v o Zr QGM))) (ri)) (hJ (q_ QGi (h7 (ln (Cp r o Zr QGM))) (ri)) (hJ (n_ 3 h_a.nd (z7 ZD c_)) (hJ (q_ QGi (h7 (ln (Cp t d Zr QDP))) (ri)) (hJ (q_ QGi (h7 (ln (Cp u d Zr QDP))) (ri)) (hJ (q_ QGi (h7 (ln (Cp x d Zr QDP))) (ri)) (h7 (ln (Cp C o Zr QDP))))))))))),3);rcases h with⟨k,m,W,B,ε,hp,b,ε⟩|⟨k,m,m2,W,l,B,n,ε,hp,b,a,ε⟩
  .let i:lb K H p [.ν m]:=lb.of hp;refine QMj;cases k with
   |Uf=>show QBW
   |TC=>show QUF
   |again=>show(0,6,ac (!3) QUF)
  .let i:lb K H p [.ν m,.ν m2]:=lb.of hp;refine QMj;cases k with
   |Wk=>show(0,6,ac (!3) (0,6,ac (!3) (0,6,ac (!3) (0,p,_,2,i,Av (j:=1) ε,QJI))))
   |less=>show(0,6,ac (!3) (0,6,ac (!3) (0,6,ac (!3) (0,p,_,2,i,Av (j:=1) ε,QTQ))))
   |both=>show(0,6,ac (!3) (0,6,ac (!3) (0,6,ac (!3) (0,p,_,2,i,Av (j:=1) ε,(0,6,ac (!3) QTQ)))))
   |XW=>show(0,6,ac (!3) (0,6,ac (!3) (0,6,ac (!3) (0,p,_,2,i,Av (j:=1) ε,(0,6,ac (!3) (0,6,ac (!3) (0,6,ac (!3) QAK)))))))
def c_u:s_ [Q3,"shape","kind","machines","refusal"] [Q3,"shape"] (hY MX):=v5
def fW(F:so K "machine_of" "machine_of" MX f fd)ZB(g:GL K mg UI XA fX fdX)(a5:Df P w K mg ς "piece_machine" 9 [Q3,"shape"] (gD ts))(a4:Bi P w K mg ς "joined" 9 ["kind","machines"] (gE UI ts))(I:mg "machine_of"<*.ν f)(a1:ym K fd [Q3,"shape"] []):aa P w K mg ς QBC 22 f fd [Q3,"shape"] (Ke UI ts 12):=by
 let Sr:∀n vs H Q E,Ke UI ts n vs H Q E->vs.β=[Q3,"shape"].β:=λn vs H Q E h=>by
  let⟨L,t,v,ε,_⟩:=h;rfl
 let Tk:∀n:υ,aa P w K mg ς QBC (n+10) f fd [Q3,"shape"] (Ke UI ts n):=by
  intro n;induction n with
  |V5=>show(Sr 0,λ_ _ _ _ _ _ vs Q E _ _ _ _ h=>by let⟨L,t,v,_,_,hd,_⟩:=h;have:=t.Wl;lia)
  |Vf n ih=>
   let a3:Bi P w K mg ς "machine_of" (n+10) [Q3,"shape"] (Ke UI ts n):=(f,fd,I,F.kp,a1,ih);refine F.okX c_u (Sr _) QAX;let⟨L,t,v,ε,Y,hd,hL,hA,qE,q⟩:=h;let ap:=hr.Ti (j:=9) (!6);refine(_,(hJ (n_ 2 c_u.nd QLE) (hJ (q_ ((Bx QTP (C4 (zl QJt c_))).pt) (h7 (ln (ry a5 ap QFE))) (ri)) (hJ (j9 [Q3,"shape","kind","machines","refusal"] (j:=3) zi ε c_u.nd (!0) ε QBK (BQ (Ee mr ZD QQ1 FB)) (λcl C fp s' H'=>(AZ,Cp a3 hr (iR ε) (q4 ZD Y')))) (h7 (wM (E:=E) (i:=4) ε ε ε ε c_u.nd ε ε QBK QBK ε g.kT (!0) g.own g.fn (mR g T.U0) d8 hr (g.ini.binds (ps:=["self",Q6,"tails","part"]) (λ_ _ _ _ _ _ us hl=>by let⟨_,_,_,_,ε⟩:=NM hl;rfl)) (λv=>AI (Fe (f:=Q6) K QAr) (Fe (f:="tails") K QAr) ZD) (y0 a4 ap QDP)))))),3);let l3:3≤Λ:=nt (by change 3≤16777216;decide);rcases jV Y hd with⟨k,ε⟩|⟨c,ε⟩|⟨p,nm,us,ag,ε,hp,an,h1,h2,aH,hpt,hk⟩
   .obtain ⟨p,ε,hp⟩:=id Y;refine(k_ hp ad (0,6,ac (by cases k<;>decide +kernel) ?_));refine(0,p,0,.RF QCs,6,ao ε ?_);show(4,L,9,Y,.RB (k,1),hL,hA,λf W B H' k1 m c e=>q f W B H' k1 m c e λp hp=>by rw[wh hp];show(W,B,m.ma,m.le,e))
   .obtain ⟨p,ε,hp⟩:=id Y;refine(k_ hp ad (0,6,ao (!3) (ay ?_)));show(4,L,9,Y,.RF (c,1),hL,hA,λf W B H' k1 m c e=>q f W B H' k1 m c e λp hp=>by rw[wh hp];show(W,B,m.ma,m.le,e))
   let aT:¬ QFz:=λz=>by
    have:=V.QB.Tx z;rw[Rz]at this;show Ge this h1
   refine(k_ hp ad (0,6,ac (λz=>aH (V.Qn.Tx z)) ?_));refine(0,p,0,.RF QCs,6,ac aT ?_);dsimp only[A2];dsimp only[Vo,aW,aQ];let VJ:∀Zi(S:Pt),ag[i]?<*S->∀p∈S.Td,p∈t.Td:=λi S e p hq=>by
    rcases hk with⟨k,x,ε,ε,ε⟩|⟨k,x,y,ε,ε,ε⟩
    .rw [wh (v7 e)]at hq;show QP _ hq
    .refine QP _ (Rr.Sj ?_);rcases QW.mp (v7 e)with ε|z
     .exact .RB hq
     .rw [wh z]at hq;show .RF hq
   let au:Af (V.Qn nm::us) (δ 1) ζ=us:=(ig (xs:=V.Qn nm::us) (t:=1) (by rw[Rz];show Gp)).ξ ε;refine qW (xs:=us) (P1:=λa X=>KT ts H X) (λR h=>(4,p,0,pu.of hp,3,λa ha=>?_)) (λX D i ys H'=>A3 (KT ts X H') (H' D<*.QM ys) (∃U:γ (θ×LL×γ Ω),A3 (ys=U.QY (λx=>V.ν x.1)) (U.β=i) (∀QEO(x:θ×LL×γ Ω),U[j]?<*x->∃u,ag[j]?=δ u/\Mc H' x.1 L x.2.1 x.2.2/\Lg L x.2.1 x.2.2=aj L u/\D5 L u))) (nt (LE h2 (!0))) ?_ ?_ ?_ ?_
   .rintro⟨z,_⟩;unfold HT.Wa at z;simp at z
   .rw [au];show h a _ (KT.of (a_.QO ha)) SO
   .rintro X a D i ys H' a2⟨N,Z,U,ε,I,_⟩;show(N.sm.RJ _ _ a2,Z,by rw[j',I])
   .exact λX D Z=>(KT.of (a_.QO Z),SO,[],5,λj x e=>by simp at e)
   .rintro a X D i x ys H' R1 k1 Z hx⟨N,J,U,ε,I,hms⟩go;let⟨S,O,aB,aV⟩:=hpt i x hx;refine(4,L,S,x,1,(aB.kt k1).kt N,aV,hL,(k1.ξ N).tb hA,λd p pv H2 k2 hp=>qE d p pv H2 ((k1.ξ N).ξ k2) (VJ i S O p hp),λf W B H2 k2 hM _ hl aC=>?_);let M:=k2.sm.QM J;refine go Ze H2 M ((N.ξ k2).US Z M,SO,U++[(f,W,B,)],by rw[Q2];rfl,by rw[u4,I];rfl,λj y e=>?_);rcases Ej e with z|⟨rfl,ε⟩
    .obtain ⟨u,G,e2,e3⟩:=hms j y z;show(u,G,(e2.kt k2).US M,e3)
    .exact (S,by rw[I];show O,hM.US M,hl,aC)
   .rintro a X D ys H2 k1 Z⟨N,J,U,ε,I,hms⟩;let k2:=k1.ξ N;let ab:∀d H',KT ts H2 H'->P9 H' d .UT L QC4->pG K UI 4 (J' UI) (Al (nZ K (bw 4) Q6) (Al (nZ K (bw 4) "tails") (Al (bw 1) tNil))) E [δ QAW,δ Zh,δ (.Qn nm),δ Z5,ζ] QGf QEm H':=by
     rintro d H' k3⟨l,l2,az,ta,as,aM,ar,r1,r2,r3,r4⟩;refine(g.exm,d,1,λe he=>?_);let sE:=a_.QO (o:=bq e QGf QEm) he;refine(0,e,UI,(d,ο,),9,SO,sE _ _ as,g.ec,g.xc,g.na1,6,e,UI,(d,ο,),9,SO,sE _ _ as,g.ec,g.xc,g.na2,6,l3,λG r=>?_);let s1:=a_.QO (o:=r_ G UI ζ) r;let ne:G≠e:=λz=>by rw[z,SO]at r;cases r
     refine(G,l,l2,7,0,SO,s1 _ _ (sE _ _ aM),s1 _ _ (sE _ _ ar),λH6 d6 l6 l7 k6 aU de le aA a0 aS aN=>(1,δ d6,ne,aU,3,3))
     .exact k6 e _ (Ne.QU ne) (by rw[b_ (Ne.QU ne),SO])
     .let s6:a_ H' (Bw H6 G):=λb o z=>by
       let z1:=sE _ _ z;let n1:b≠G:=f' z1 r;rw[CQ n1];show k6 b o n1 (yl z1 r)
      let k6:=k2.ξ (k3.ξ (KT.of s6));show qE d6 t _ _ k6 t.self (Y.kt k6) (l6,l7,az,ta,by rw[CQ de];show a0,by rw[CQ le];show aS,by rw[CQ aA];show aN,r1,r2,r3,r4.Ti (λ_ _=>s6 _ _) λ_ _ _ _ _ _ z=>z)
    rcases hk with⟨k,x,ε,ε,ε⟩|⟨k,x,y,ε,ε,ε⟩
    .obtain ⟨m,ε⟩:=LZ (I.ξ an);let⟨u,G,e2,e3,e4⟩:=hms 0 m ε;cases G;show(4,D,L,_,k2.tb hA,ab,λf W B H' k3 a b c=>q f W B H' (k2.ξ k3) a b c (e4.Uo a.ma a.le c),.RB (k,m.1,m.2.1,m.2.2,1,J,e2,by rw[e3];rfl))
    .obtain ⟨m,m2,ε⟩:=L0 (I.ξ an);let⟨u,G,e2,e3,e4⟩:=hms 0 m ε;let⟨u2,f1,f2,f3,f4⟩:=hms 1 m2 ε;cases G;cases f1;show(4,D,L,_,k2.tb hA,ab,λf W B H' k3 a b c=>q f W B H' (k2.ξ k3) a b c (e4.Vb f4 a.ma a.le c),.RF (k,m.1,m2.1,m.2.1,m2.2.1,m.2.2,m2.2.2,1,J,e2,f2,by rw[e3,f3];rfl))
 show Tk 12
def f_n:s_ ["text","sign"] ["text"] (hY MY):=v5
def fY(F:so K "is_letters" "is_letters" MY f fd)ZB:aa P w K mg ς na 1 f fd ["text"] sp_isletters:=by
 refine F.okA f_n ?_;rintro _ _ _ _ H _ _ _ _⟨L,ε,a,q⟩;refine(_,(hJ (q_ (BJ (j7 oz oz c_ (DZ T.Sr Y') c_)) Zj (ri)) (hJ (A_ R6.TW ε (Bg Y') (As 1 f_n.nd) (h7 (q_ ((Bx (BJ (j7 gJ gJ u5 ZD u5)) (C4 (AT b9 (Bn plainAttrs_str Ξ.F.slot_str_count Ξ.F.type_str_count t9 Y' QE0) c_ QAq))).pt) Zj (ri)))) Zj)),3);let hz:(tx L).β≤Λ:=nt (by rw[hF];have:=a.hi;show C0 this);let h:=a.lo;let j:=a.hi;refine(4,hz,2,0,ao (by rw[hF];lia) ?_);refine(2,0,CM (by rw[hF];lia) ?_);refine(4,oX (x:=tx L) (λi b H'=>∃d,b=[δ QAW,d]/\H'=H) (ζ,5) ?_ ?_)
 .rintro i c b m g⟨d,ε,ε⟩;rw[B8]at g;let e:c∈L:=v7 g;let⟨l,k⟩:=a.az c e;refine(0,2,0,3);rw[LF,uo];refine ao l (2,0,3);rw[LG,uo];refine CM k (0,6,2,2,0,3);rw[DP];refine ac (by have:=γ.nodup_iff_count.mp a.nd c;lia) ?_;show(0,1)
 .rintro b m⟨d,ε,ε⟩;show q
def PU:s_ [Q3] [Q3] (hY MZ):=v5
def PV(F:so K "need_letters" "need_letters" MZ f fd)ZB(a:Df P w K mg ς "is_letters" 1 ["text"] sp_isletters):aa P w K mg ς na 2 f fd [Q3] sp_needletters:=by
 refine F.okA PU ?_;rintro _ _ _ _ _ _ _ _ b⟨L,ε,d,q⟩;refine(_,(h7 (q_ (BJ (A1 (ry a b QCo))) (h7 (BB)) (ri))),3);show(0,L,1,d,0,ai q)
def f_Z:s_ ["shape","kind","strength"] ["shape"] (hY K3):=v5
def mP(F:so K "text_of" "text_of" K3 f fd)ZB(g:pB P w K mg d1 G)QBM(h:Df P w K mg ς "text_within" QJA ["shape","strength"] (rZ n)):aa P w K mg ς na (2*n+1+1) f fd ["shape"] (jU (n+1)):=by
 refine F.okA f_Z ?_;rintro _ _ _ _ _ _ _ _ l⟨v,t,ε,o,m,hz,q⟩;refine(_,(hJ (n_ 1 f_Z.nd Zc) (hJ (n_ 2 f_Z.nd (l' (HR g.dT) (E7 (v:=.ν G) (!4) g.kT ε) ZD ZL)) (hJ (q_ (zl ZD u5) (h7 (ln Zc)) (ri)) (hJ (q_ (zl QAj c_) (h7 (ln QAU)) (ri)) (hJ (q_ (zl QAj c_) (h7 (ln (o5 DJ (o5 DJ QHb QAU) (ry h l (q4 Zc QIT))))) (ri)) (hJ (q_ (zl ZD u5) (h7 (ln (o5 DJ QHb QAU))) (ri)) (h7 (ln (o5 DJ QAU QHb))))))))),3);let n1:∀k:K1,¬ (V.Qn QR0=V.Qn (QL.S5 "sign")):=λk=>by cases k<;>decide +kernel
 let A:∀k:K2,¬ (V.Qn QIL=V.Qn (QL.S5 "sign")):=λk=>by cases k<;>decide +kernel
 let d:∀t:Pt,(∀z,t≠.Um z)->¬ (V.Qn (KU t)=V.Qn (QL.S5 "sign")):=λt C=>by
  cases t with
  |TR k=>cases k<;>decide +kernel
  |Um z=>show QG ε (C z)
  |Uo k x=>show n1 k
  |Vb k x y=>show A k
 cases t with
 |TR k=>
  let⟨a,ε,e⟩:=o;refine QLf;refine(0,Sum.RF QRz,0,1,jS QQi,3);refine(0,6,ac (d QQi ZA) ?_);refine QMk;show(0,Sum.RF QRz,0,1,O6 k,q)
 |Um z=>
  let⟨a,ε,e⟩:=o;refine QLf;refine(0,Sum.RF "sign",0,1,jS (.Um z),3);refine(0,6,ao ε ?_);show(k_ e aq q)
 |Uo k x=>
  let m:x.WX+1≤n+1:=m;let hz:x.sz+1≤1000:=hz;let p:=Ht x;let⟨a,u,ε,e,j⟩:=o;let r:∀b,(tx (Fd b QGI)).β+(tx [m1 k]).β≤Λ:=λb=>by
   rw[hF,hF];have:=FV b QGI;show nt (by simp;lia)
  let i:∀b,(tx [m1 k]).β+(tx (Fd b QGI)).β≤Λ:=λb=>by
   rw[hF,hF];have:=FV b QGI;show nt (by simp;lia)
  refine QLf;refine(0,Sum.RF QR0,0,1,jS QPC,3);refine(0,6,ac (d QPC ZA) ?_);refine(0,a,0,.RF QFB,6,ac (show ¬ (V.QB ((2:υ):ψ)=V.QB 1) by decide) ?_);refine(0,a,0,.RF QFB,6,ac (show ¬ (V.QB ((2:υ):ψ)=V.QB 3) by decide) ?_);cases k with
  |again=>
   refine(0,6,ao ε ?_);refine(k_ e aq (0,u,x,(5),1,j,!6,!6,0,Sum.RF (Dn .again),0,1,sj .again,2,r _,3));rw[CN];show q
  |Uf=>
   refine(0,6,ac (!3) ?_);refine(0,Sum.RF (Dn .Uf),0,1,sj .Uf,k_ e aq QKA);rw[CN];show q
  |TC=>
   refine(0,6,ac (!3) ?_);refine(0,Sum.RF (Dn .TC),0,1,sj .TC,k_ e aq QKA);rw[CN];show q
 |Vb k x y=>
  let m:max x.WX y.WX+1≤n+1:=m;let hz:x.sz+y.sz+1≤1000:=hz;let p:=Ht x;let D:=Ht y;let E:(m2 k).β≤1:=by cases k<;>decide
  let⟨a,u,s,ε,e,j,B⟩:=o;refine QLf;refine(0,Sum.RF QIL,0,1,jS QHY,3);refine(0,6,ac (d QHY ZA) ?_);refine(0,a,0,.RF QFB,6,ac (show ¬ (V.QB ((3:υ):ψ)=V.QB 1) by decide) ?_);refine QMk;refine(k_ e aq (0,u,x,ES k+1,1,j,Kj m,!6,0,Sum.RF QIL,0,1,O7 k,2,3,3))
  .rw [hF,hF];have:=FV (decide QGJ) QGI;show nt (!6)
  refine(k_ e be (0,2,s,y,ES k+2,1,B,Ip m,!6,2,3,3))
  .rw [CN,hF,hF,u4];have:=FV (decide QGJ) QGI;have:=FV (decide QLB) (aK y);show nt (!6)
  .rw [CN,CN];show q
def PY:s_ ["shape","strength"] ["shape","strength"] (hY K4):=v5
def N4(F:so K "text_within" "text_within" K4 f fd)ZB(A:pB P w K mg d1 B)QBM(o:Df P w K mg ς "text_of" (2*n) ["shape"] (jU n)):aa P w K mg ς na QJA f fd ["shape","strength"] (rZ n):=by
 refine F.okA PY ?_;rintro _ _ _ _ H _ _ _ r⟨v,t,m,ε,g,z,hz,q⟩;refine(_,(hJ (q_ (AT dN (l' (HR A.dT) (E7 (v:=.ν B) (!4) A.kT ε) Zc ZL) ZD QAq) (h7 (ln (o5 DJ (o5 DJ u5 (ry o r QCo)) u5))) (ri)) (h7 (ln (ry o r QCo)))),3);let i:∃a xs,v=.ν a/\H a=δ QCY/\Am xs 0<*.Qn (KU t):=by
  cases t with
  |TR k=>let⟨a,e,b⟩:=g;show QDb
  |Um k=>let⟨a,e,b⟩:=g;show QDb
  |Uo k x=>let⟨a,u,e,b,_⟩:=g;show QDb
  |Vb k x y=>let⟨a,u,C,e,b,_⟩:=g;show QDb
 let⟨a,xs,ε,b,p⟩:=i;let s:=Ht t;let d:QL.S5 "("=tx [40]:=by decide +kernel
 let l:QL.S5 ")"=tx [41]:=by decide +kernel
 refine(0,CA b p (Sum.RF (KU t),0,1,jS t,0,2,0,3));by_cases h:strP t<m
 .rw [Qr h]at q;refine ao (Fk h) (0,_,t,1,g,z,hz,2,3,2,3,3)
  .rw [d,hF,hF];show nt (by simp;lia)
  .rw [d,l,CN,hF,hF];show nt (by simp;lia)
  .rw [d,l,CN,CN];show q
 .rw [QN h]at q;show ac (!6) (0,_,t,1,g,z,hz,q)
def rS(F:so K "text_of" "text_of" K3 f fd)(d:so K "text_within" "text_within" K4 a fd2)ZB(b:pB P w K mg d1 k)(m1:mg "text_of"<*.ν f)(e:ym K fd ["shape"] [])(m2:mg "text_within"<*.ν a)(j:ym K fd2 ["shape","strength"] []):∀n,aa P w K mg ς na (2*n) f fd ["shape"] (jU n)/\aa P w K mg ς na QJA a fd2 ["shape","strength"] (rZ n):=by
 intro n;induction n with
 |V5=>
  let z:aa P w K mg ς na (2*0) f fd ["shape"] (jU 0):=(λvs H Q E h=>by let⟨v,t,_,_,i,_⟩:=h;have:=t.Wl;show Gk this i,λ_ _ _ _ _ _ vs Q E _ _ _ _ h=>by let⟨v,t,_,_,i,_⟩:=h;have:=t.Wl;lia);show(z,N4 d T b 0 QSB)
 |Vf n g=>
  let z:=mP F T b n (a,fd2,m2,d.kp,j,g.2);show(z,N4 d T b (n+1) QSB)
def sC:s_ ["self"] ["self"] (hY nv):=v5
def tG(F:so K "text" "Pattern.text" nv f fd)(z:∀k,vP K (c k) cP){fs:Kd->θ}{b:Kd->TQ}(u:∀k,aR K (c k) "shape" (fs k))(x:∀k,ym K (b k) ["self"] [])(y:∀n k,aa P w K mg ς na n (fs k) (b k) ["self"] QTG)QBM(l:Df P w K mg ς "text_of" (2*n) ["shape"] (jU n)):aa P w K mg ς na QJA f fd ["self"] (dg c n):=by
 refine F.ok sC ZE (λU' A Id s H vs Q E m h=>?_)
 .obtain ⟨a,t,ε,_⟩:=h;rfl
 .obtain ⟨a,t,ε,hp,o,hz,q⟩:=h;let e:=m.Ti (j:=n) (!6);let⟨C,i,g,v,h1,l1⟩:=hp.XO;cases v;refine(_,(h7 (ln (ry l m (mq (GH Y' (λk=>(z k).cl) u (y n) e x BV))))),3);show(0,t.kd,a,i,g,1,h1,l1,a,t,1,hp,1,o,λp B r d=>(p,t,1,d,o,hz,q B r))
def PZ:s_ ["_law_script","_law_k"] ["_law_script","_law_k"] (hY M0):=v5
def P8(F:so K "_law_cell_at" "_law_cell_at" M0 f fd)ZB:aa P w K mg ς na 1 f fd ["_law_script","_law_k"] (n9 K):=by
 refine F.okA PZ ?_;rintro _ _ _ _ _ _ _ _ _⟨a,ns,k,ε,g,i,q⟩;refine(_,(hJ (q_ (AT dN ZD QAj QAq) (h7 (ln (z7 Y' ZD))) (ri)) (h7 (ln c_))),3);refine(4,a,0,.RB g,2,0,3);refine aO (λd=>?_) (λ_=>q 0);let⟨v,h,b⟩:=ju (xs:=ns.QY V.QB) i d;obtain⟨z,ε⟩:∃z,v=V.QB z:=by
  rw[nq]at b;cases e:ns[k.RW]? with
  |ζ=>rw[e]at b;cases b
  |δ z=>rw[e]at b;show QTR
 show(4,a,_,2,g,h,q z)
def a_t:s_ ["_law_cell","_law_left","_law_number","_law_many","_law_found","_law_k","_law_at"] ["_law_cell"] (hY M1):=v5
def P_(F:so K "_law_letters" "_law_letters" M1 f fd)ZB:aa P w K mg ς na 1 f fd ["_law_cell"] sp_letters:=by
 refine F.okA a_t ?_;rintro _ _ _ _ H _ _ _ _⟨c,ε,q⟩;refine(_,(hJ (n_ 1 a_t.nd (u5)) (hJ (n_ 2 a_t.nd (o5 bR Y' c_)) (hJ (n_ 3 a_t.nd (o5 mL c_ (o5 bR ZO c_))) (hJ (n_ 2 a_t.nd (o5 iX ZO c_)) (hJ (n_ 4 a_t.nd (u5)) (hJ (A_ R6.TW ε (C8 ε T.Q' (mq Zd)) (As 5 a_t.nd) (hJ (n_ 6 a_t.nd (o5 bR ZO QCt)) (hJ (n_ 2 a_t.nd (o5 iX ZO QCt)) (hJ (n_ 4 a_t.nd (o5 DJ QAr (l' G_ ZD QCQ ZL))) (h7 (n_ 1 a_t.nd (o5 DJ (Ee sf ZD FB (CJ QCQ)) (Ee sf ZD (CJ (o5 mL QCQ c_)) FB)))))))) QNf)))))),3);let⟨N,j,n1,r⟩:=xR (c%46800) 1 3 (!0);let j:(N:ψ)=1+c%46800%3:=j;let y:N≤3:=UE r;refine(0,2,(by change (0:ψ)<46800;decide),0,2,(by change (0:ψ)<3;decide),2,0,2,QQ2,4,by rw[<-j];show(vG QUG).1,by rw[<-j];show(vG QUG).2,3);generalize G:(1:ψ)+c%46800%3=M at j⊢;let h:M.RW=N:=by rw[<-j];rfl
 refine C9 (n:=M.RW) (λi o H'=>E5 λf l n k0 a0=>A7 (o=[δ (.QB c),δ (.Qn QDq),δ (.QB n),δ (.QB M),δ (.Qn (tx f)),k0,a0]) (H'=H) (0≤n) (f.β=i) (l.β+i=26) ((f++l).Rq) (∀c∈f++l,97≤c/\c≤122)) ?_ ?_ ?_
 .refine ([],γ.range' 97 26,c%46800/3,ζ,ζ,3,1,ψ.ediv_nonneg (ψ.YE _ (!0)) (!0),5,!0,!0);show[δ (V.QB c),δ (V.Qn _),δ (V.QB _),δ (V.QB _),δ (V.Qn _),ζ,ζ]=_;rw[Os,eX]
 .rintro i o E C⟨f,l,n,k0,a0,ε,ε,z,m,s,p,az⟩;let k:i<3:=LT (h▸C) y;let⟨l1,l26⟩:=z4 s (Uu k);let hz:(tx l).β≤Λ:=nt (by rw[hF];show LE l26 (!0));let b:(0:ψ)<((tx l).β:ψ):=by rw[hF];show xS l1
  let a:=ψ.YE n (ψ.XH b);let e:=ψ.Xv n b;let t:0≤n/((tx l).β:ψ):=ψ.ediv_nonneg z (ψ.Uu b);let g:(n%((tx l).β:ψ)).RW<l.β:=υ.lt_of_lt_of_eq (vF a e) (hF l);let⟨v,B,d⟩:=ju (xs:=(tx l).V4.Qq) a (by rw[Da];show ψ.LT e QLM);rw[Da]at d;let D:v=l[(n%((tx l).β:ψ)).RW]:=by
   rw[h_ g]at d;show(χ.δ.Tx d).QU
  subst D;refine(4,0,hz,2,b,4,0,hz,2,(b,by rw[hF];show OB l26),4,0,_,2,hz,B,2,3,4,4,hz,4,2,4,hz,2,3,3)
  .refine nt ?_;rw[hF];change f.β+1≤_;rw[m];show LE k (!0)
  .refine nt ?_;let h1:=VR.slice_le QDq ζ (δ QCD);let h2:=VR.slice_le QDq (δ (QCD+1)) ζ;show zY h1 h2 (by rw[hF];show l26)
  .obtain ⟨d1,d2⟩:=vk g p;refine(f++[l[(n%((tx l).β:ψ)).RW]],l.Rp (n%((tx l).β:ψ)).RW++l.Uq ((n%((tx l).β:ψ)).RW+1),n/((tx l).β:ψ),δ QPN,δ (.QB QCD),3,1,t,by rw[u4,m];rfl,3,d1,λc u=>az c (d2 c u))
   .let A:=se QDq a;let x:=mo QDq (i:=QCD+1) (ψ.LE a (ψ.Uu (ψ.lt_succ _))) (by rw[Da];show ψ.LT e QLM);rw[Da]at A x;rw[xP a]at x;show[δ (V.QB c),δ (V.Qn (VR.YR QDq ζ (δ QCD)++VR.YR QDq (δ (QCD+1)) ζ)),δ (V.QB _),δ (V.QB M),δ (V.Qn (tx f++⟨#[l[(n%((tx l).β:ψ)).RW]]⟩)),δ _,δ _]=_;rw[A,x,CN,show(⟨#[l[(n%((tx l).β:ψ)).RW]]⟩:QL)=tx [l[(n%((tx l).β:ψ)).RW]]from ε,CN]
   .rw [u4,S6,WM];show xT g s
 .rintro o E⟨f,l,n,k0,a0,ε,ε,z,m,s,p,az⟩;refine(0,q f (by rw[m,h];show n1,by rw[m,h];show y,(γ.Ym.mp p).1,λc u=>az c (U1 _ u)))
def iE:s_ ["_law_letters_here","_law_cells"] ["_law_letters_here","_law_cells"] (hY M3):=v5
def i8(F:so K "_law_word" "_law_word" M3 f fd)ZB:aa P w K mg ς na 1 f fd ["_law_letters_here","_law_cells"] (n8 K):=by
 refine F.okA iE ?_;rintro _ _ _ _ _ _ _ _ _⟨L,a,ns,ε,l,o,s,q⟩;refine(_,(h7 (ln (Bn plainAttrs_str Ξ.F.slot_str_join Ξ.F.type_str_join xk (u5) (mq (B4 ["_law_letters_here","_law_cells"] ε (!0) (cr ZD) (λu C t s' H'=>(AZ,l' G_ ZD (o5 bR Y' QCt) ZL))))))),3);let hz:(tx L).β≤Λ:=nt (by rw[hF];have:=l.hi;show C0 this);let g:(0:ψ)<((tx L).β:ψ):=by rw[hF];have:=l.lo;show GY this
 refine(1,nG (si L) ε o (by rw[j'];show nt (Gg s)) (λi x H' R b h p=>?_) (λD r=>?_))
 .obtain ⟨z,ε⟩:∃z,x=V.QB z:=by
   rw[nq]at b;cases e:ns[i]? with
   |ζ=>rw[e]at b;cases b
   |δ z=>rw[e]at b;show QTR
  let k:=ψ.YE z (show((tx L).β:ψ)≠0 from F9 g);let j:=ψ.Xv z g;let⟨v,m,d⟩:=ju (xs:=(tx L).V4.Qq) k (by rw[Da,<-hF];show j);rw[Da]at d;refine(4,4,hz,2,g,_,2,hz,m,3);let e:si L (V.QB z)=.Qn ⟨#[v]⟩:=by
   change V.Qn ⟨#[bH L z]⟩=_;rw[gG L z,<-hF,d];rfl
  rw[<-e];show p
 .refine (_,D,(ns.QY (bH L)).QY λc=>(⟨#[c]⟩:QL),5,lb.of ?_,3,3)
  .rw [SO];simp[map_map,Function.comp_def,si]
  .exact gY _ (by rw[j'];show Gg s)
  .rw [ic,d9];show q _ _ (!1) (λc n=>sg l n) (a_.QO r)
def c_e:s_ ["_law_stack","_law_number","_law_letters_here","_law_kind","_law_more","_law_joined"] ["_law_stack","_law_number","_law_letters_here"] (hY M4):=v5
def P'(F:so K "_law_pushed" "_law_pushed" M4 f fd)ZB:aa P w K mg ς na 1 f fd ["_law_stack","_law_number","_law_letters_here"] sp_pushed:=by
 refine F.okA c_e ?_;rintro _ _ _ _ H _ Q _ _⟨p,xs,D,z,L,ε,hL,hp,hP,hl,i,q⟩;refine(_,(hJ (n_ 3 c_e.nd (o5 E_ ZD c_)) (hJ (n_ 4 c_e.nd (o5 Hd ZD c_)) (EA (q_ ((bL QTS (bL QTT QNg)).pt) (hJ (n_ 5 c_e.nd (A' (AI (z7 QLg (o5 qi Zd c_)) QQ3 QQ3))) (h7 (ln (o5 FD QN' (Bb (mq QCC)))))) (ri)) (EA (q_ ((bL QTS QNg).pt) (h7 (ln (o5 FD QN' (Bb (mq (A' (q4 (z7 QLg (o5 E_ QAr c_)) QQ3))))))) (ri)) (hJ (q_ (zl Zd c_) (h7 (ln (o5 FD Y' (Bb (mq (A' (mq u5))))))) (ri)) (hJ (q_ (zl Zd c_) (h7 (ln (o5 FD Y' (Bb (mq (A' (mq (z7 (Bb (q4 u5 u5)) (o5 E_ QAr c_))))))))) (ri)) (h7 (ln (o5 FD Y' (Bb (mq (A' (q4 u5 (l' G_ ZO (o5 E_ QAr QPO) ZL)))))))))))))),3);let l1:1≤Λ:=nt (by change 1≤16777216;decide);let l2:2≤Λ:=nt (by change 2≤16777216;decide);let l3:3≤Λ:=nt (by change 3≤16777216;decide);let l4:4≤Λ:=nt (by change 4≤16777216;decide);let I:∀QS8(us:γ Pt)QDR(v:V)(j:Hp),a_ H j->AQ (ah j) ys us->ah j t v->(∀u∈us,u.Xm L)->t.Xm L->bu us+t.WX≤bu D+1->br us+t.sz≤br D+1->ys.β≤xs.β->∀N,j N=ζ->Q (.ν N) (L2.QO j N (.QM (ys++[v]))):=λys us t v j Y R e ou ot hd hz hy N an=>by
  let C:=a_.QO (o:=.QM (ys++[v])) an;refine q N _ (us++[t]) _ (Y.ξ C) SO ((R.kp QIU).snoc (e.kp QIU)) (λw hw=>?_) (by rw[J4];show hd) (by rw[J5];show hz) (by rw[u4];show U4 hy);rcases Rr.mp hw with y|y
  .exact ou w y
  .rw [wh y];show ot
 let b1:∀QE',n≤xs.β->n+1≤Λ:=λh=>nt (!6);refine(0,2,!0,λr r0 az=>(0,2,QQ2,3));refine(λB H'=>B=[δ Zh,δ QLH,δ QAW,δ (.QB r),δ (.QB (z/12)),ζ]/\H'=H,3,3)
 .refine (0,2,0,aO (λh5=>(0,2,0,aO (λau=>(0,p,0,.RB QI1,2,0,aO (λh1=>?_) QPI)) QLN)) QLN);let h1:(1:ψ)<((xs.β:υ):ψ):=h1;let⟨ys,x,us,s,ε,ε,G,E⟩:=hP.last (!6);let ab:0<ys.β:=by rw[u4]at h1;simp at h1;lia
  let⟨zs,U,ws,J,ε,ε,as,ag⟩:=G.last ab;let⟨k,S⟩:=Mt h5 au;refine(l4,λq1 g=>(0,2,z_ SO S ?_));let M:=a_.QO (o:=.QM [V.Qn "either",.Qn "less",.Qn "both",.Qn "then"]) g;refine(4,z_ (M _ _ hp) (rk _ _ _) (4,z_ (M _ _ hp) (fj _ _) (l3,λt e=>?_)));let s2:=M.ξ (a_.QO (o:=.RJ [.Qn QIL,U,x]) e);refine(4,0,p,0,lb.of QQ4,λa W=>?_);rw[show Af (zs++[U]++[x]) ζ (δ (-2))=zs by rw[Tt];show lj (n:=1) ε];let Z:=s2.ξ (a_.QO (o:=.QM zs) W);refine(0,l1,λb d=>?_);let A:=Z.ξ QLh;let l:zs.β≤(zs++[U]++[x]).β:=by rw[u4,u4];lia
  refine(a,b,2,yl SO d,SO,b1 l,I zs ws (.Vb k J s) QBZ _ A (as.kp QLO) (t,U,x,1,yl (yl SO W) d,ag.kp QLO,E.kp QLO) (λu R=>i u (by simp[R])) (i J (!1),i s (!1)) ?_ ?_ l)
  .rw [J4,J4];have:=s.Wl;have:=J.Wl;change _+(max J.WX s.WX+1)≤_;lia
  .rw [J5,J5];change _+(J.sz+s.sz+1)≤_;lia
 rintro X H1⟨rfl,ε⟩;refine(λB H'=>B=[δ Zh,δ QLH,δ QAW,δ (.QB r),δ (.QB (z/12)),ζ]/\H'=H1,3,3)
 .refine (0,2,0,aO (λh5=>(0,p,0,.RB QI1,2,0,aO (λh1=>?_) QPI)) QLN);let h1:(0:ψ)<((xs.β:υ):ψ):=h1;let⟨zs,x,ws,s,ε,ε,G,E⟩:=hP.last (!6);refine(4,0,p,0,lb.of hp,λa W=>?_);rw[show Af (zs++[x]) ζ (δ (-1))=zs from lj (n:=0) ε];let M:=a_.QO (o:=.QM zs) W;refine(l4,λq1 g=>(0,2,!0,λm O m4=>?_));let⟨k,S⟩:=Mu O m4;let s2:=M.ξ (a_.QO (o:=.QM [V.Qn "again",.Qn "outside",.Qn "turned",.Qn "again"]) g);refine(z_ SO S (4,z_ QQ4 (fj _ _) (l2,λt e=>(l1,λb d=>?_))));let Z:=s2.ξ (a_.QO (o:=.RJ [.Qn QR0,x]) e);let A:=Z.ξ QLh;let l:zs.β≤(zs++[x]).β:=by rw[u4];show DI
  refine(a,b,2,yl (yl (yl SO g) e) d,SO,b1 l,I zs ws (.Uo k s) QBZ _ A (G.kp QLO) (t,x,1,yl SO d,E.kp QLO) (λu R=>i u (by simp[R])) (i s (!1)) ?_ ?_ l)
  .rw [J4];change _+(s.WX+1)≤_;show Gm
  .rw [J5];change _+(s.sz+1)≤_;show Gm
 rintro X H2⟨rfl,ε⟩;let TR:∀QDR(v:V)(j:Hp),a_ H2 j->ah j t v->t.Xm L->t.WX=1->t.sz=1->∀b,j b=ζ->rCat Zh QCa (L2.QO j b (.QM [v])) Q:=λt v j Y e ot hd hz b d=>by
  let C:=Y.ξ (a_.QO (o:=.QM [v]) d);show(p,b,xs,[v],5,C _ _ hp,SO,b1 Zs,I xs D t v _ C (hP.kp QIU) (e.kp (a_.kp (a_.QO d))) i ot (Je hd) (Je hz) Zs)
 refine(0,6,aO (λ_=>(0,l1,λt e=>(l1,λb d=>TR (.TR .VA) QBZ _ (a_.QO e) QSC trivial ε ε b d))) QF8);refine(0,6,aO (λ_=>(0,l2,λq1 g=>(0,2,!0,λm O m2=>?_))) QF8)
 .obtain ⟨k,S⟩:=Mv O m2;show(z_ SO S (l1,λt e=>(l1,λb d=>TR QQi QBZ _ ((a_.QO g).ξ (a_.QO e)) QSC trivial ε ε b d)))
 .let hz:(tx L).β≤Λ:=nt (by rw[hF];have:=hL.hi;show C0 this);let ap:(0:ψ)<((tx L).β:ψ):=by rw[hF];have:=hL.lo;show GY this
  refine(4,4,0,hz,2,ap,λm O m1=>?_);let⟨c,hc,ar⟩:=ju (xs:=(tx L).V4.Qq) O (by rw[Ui];show m1);show(_,2,hz,hc,l2,λt e=>(l1,λb d=>TR (.Um c) QBZ _ (a_.QO e) QSC (v7 ar) ε ε b d))
def b_f:s_ ["_law_cells","_law_letters_here","_law_stack","_law_cell","_law_found","_law_k"] ["_law_cells","_law_letters_here"] (hY M5):=v5
def f8(F:so K "_law_shape" "_law_shape" M5 f fd)ZB(ab:Df P w K mg ς "_law_pushed" 1 ["_law_stack","_law_number","_law_letters_here"] sp_pushed):aa P w K mg ς na 2 f fd ["_law_cells","_law_letters_here"] (db K):=by
 refine F.okA b_f ?_;rintro _ _ _ s H _ _ _ hr⟨a,ns,L,ε,hL,ha,hn,q⟩;refine(_,(hJ (n_ 2 b_f.nd QGN) (hJ (A_ R6.TW ε (cr Y') (As 3 b_f.nd) (h7 (n_ 2 b_f.nd (ry ab hr (AI ZO (o5 E_ (o5 LD (o5 E_ Zd c_) c_) c_) ZD))))) (hJ (q_ (zl QGQ c_) (h7 (ln (A' (mq u5)))) (ri)) (hJ (n_ 4 b_f.nd (z7 ZO c_)) (hJ (A_ R6.TW ε (HK ε T.Q' (q4 c_ QGQ)) (As 5 b_f.nd) (h7 (n_ 4 b_f.nd (A' (AI (z7 (Bb (AI u5 u5 u5)) (o5 E_ QCC c_)) QAr (z7 ZO QCC)))))) QNf))))),3);let l1:1≤Λ:=nt (by change 1≤16777216;decide);let l3:3≤Λ:=nt (by change 3≤16777216;decide);let C:∀QDQ,a_ H H'->lb K H' a QAo:=λs=>s.V8 ha;refine(RP _,λp0 A=>(0,a,1,(_,C (a_.QO A)),eS (K:=K) (a:=a) (xs:=ns.QY V.QB) (λi D H'=>E4 λ(p:θ)(xs:γ V)(d:γ Pt)(u:χ V)=>A8 (D=[δ ZW,δ QAW,δ Zh,u,ζ,ζ]) QGR (H' p<*.QM xs) (AQ QQn xs d) (∀t∈d,t.Xm L) (bu d≤i) (br d≤i) (xs.β≤i)) (p0,[],[],ζ,1,a_.QO A,SO,trivial,λt O=>(nomatch O),QD _,QD _,QD _) ?_ ?_ ?_))
 .rintro i D H' hi⟨p,xs,d,u,ε,h,_⟩;show C h
 .rintro i v D H1 N⟨p,xs,d,u,ε,h,hp,E,e,hd,hz,hl⟩;let hi:i<ns.β:=by
   have:=(m8 N).1
   rwa [j']at this
  rw[nq,h_ hi]at N;cases N;refine(4,2,!0,λr r0 r1=>(2,.RF QQ2,2,!0,λr2 _ _=>(0,p,xs,d,r2,L,1,hL,hp,E,!6,e,λp' G x H2 s2 h1 h2 h3 h4 h5 h6=>?_)));show(p',G,x,0,h.ξ s2,h1,h2,h3,GW h4 hd,GW h5 hz,GW h6 hl)
 .rintro D H1⟨p,xs,d,u,ε,h,hp,E,e,hd,hz,hl⟩;rw[j']at hd hz hl;let an:=E.Sr;refine(0,p,0,.RB QI1,6,aO (λ_=>(l1,λt O=>q QBZ (.TR .WW) _ (h.ξ (a_.QO O)) QSC trivial (!0) (!0))) (λZ=>?_));let Z:0<xs.β:=υ.pos_of_ne_zero λz=>Z (by rw[z];rfl);let get:∀QIX,j<xs.β->∃v t,xs[j]?=δ v/\d[j]?=δ t/\ah H1 t v:=λ{j}hj=>iK E hj;let⟨v0,t0,e1,e2,R⟩:=get Z;refine(0,z_ hp (Av e1) ?_);refine(0,p,0,.RB QI1,9,(!0,!0,D8,!6),3);refine C9 (n:=(((xs.β:υ):ψ)-1).RW) (λj g H'=>E3 λ(v:V)(t:Pt)(J:χ V)=>A6 (g=[δ ZW,δ QAW,δ Zh,u,δ v,J]) QTU (ah H' t v) (t.Xm L) (t.WX≤bu (d.Rp (j+1))) (t.sz≤br (d.Rp (j+1))+j)) (v0,t0,ζ,1,a_.YS _,R,e t0 (v7 e2),3,3) ?_ ?_
  .rw [take_one e2];show QD _
  .rw [take_one e2];show QD _
  .rintro j g H2 hj⟨v,t,J,ε,s2,S,W,B,y⟩;let X:1+j<xs.β:=by lia
   let⟨I,l,f1,f2,Q⟩:=get X;refine(l3,λq1 U=>(0,2,!0,λr r0 r3=>?_));let⟨k,hk⟩:=Mw r0 r3;let m:=a_.QO (o:=.QM [V.Qn "then",.Qn "either",.Qn "then"]) U;let Y:Am xs (1+(j:ψ))<*I:=by
    rw[show(1+(j:ψ))=((1+j:υ):ψ) by lia];show Av f1
   refine(z_ SO hk (4,0,z_ (m _ _ QQ4) Y (l3,λb hb=>?_)));let M:=m.ξ (a_.QO (o:=.RJ [.Qn QIL,v,I]) hb);refine(.ν b,.Vb k t l,0,s2.ξ M,(b,v,I,1,SO,S.kp (a_.kp M),Q.kp (a_.kp (s2.ξ M))),(W,e l (v7 f2)),3,3)
   .rw [show j+1+1=(1+j)+1 from Gf,Bu f2,J4];rw[show j+1=1+j from Gi]at B;have:=t.Wl;have:=l.Wl;change max t.WX l.WX+1≤_;lia
   .rw [show j+1+1=(1+j)+1 from Gf,Bu f2,J5];rw[show j+1=1+j from Gi]at y;change t.sz+l.sz+1≤_;lia
  .rintro g H2⟨v,t,J,ε,s2,S,W,B,y⟩;let ap:=qU d QLi;let ag:=pH d QLi;show(0,q v t H2 (h.ξ s2) S W (!6) (!6))
def c_V:s_ ["_law_shape_here","_law_left","_law_right"] ["_law_shape_here"] (hY M6):=v5
def ja(F:so K "_law_made" "_law_made" M6 f fd)ZB(g:fD P w K mg ς c cP)(hm:mg "_law_made"<*.ν f)(ar:ym K fd ["_law_shape_here"] []):aa P w K mg ς na 14 f fd ["_law_shape_here"] (Kf c 12):=by
 let Sr:∀n vs H Q E,Kf c n vs H Q E->vs.β=["_law_shape_here"].β:=λn vs H Q E h=>by
  let⟨t,v,ε,_⟩:=h;rfl
 let Tk:∀n:υ,aa P w K mg ς na (n+2) f fd ["_law_shape_here"] (Kf c n):=by
  intro n;induction n with
  |V5=>show(Sr 0,λ_ _ _ _ _ _ vs Q E _ _ _ _ h=>by let⟨t,v,_,_,U,_⟩:=h;have:=t.Wl;lia)
  |Vf n ih=>
   let W:Df P w K mg ς "_law_made" (n+2) ["_law_shape_here"] (Kf c n):=(f,fd,hm,F.kp,ar,ih);refine F.ok c_V (Sr _) (λU' A Id s H vs Q E Z h=>?_);let⟨t,v,ε,Y,U,B,q⟩:=h;let⟨fS,az,MS,GS,bS⟩:=g.iS;let⟨fU,au,MU,GU,bU⟩:=g.iU;let⟨fP,aA,MP,GP,bP⟩:=g.iP;let l:=Z.Ti (j:=2) (!6);refine(_,(hJ (q_ QAc (h7 (ln (Ms (g.mk0 .TW) ε (g.kc (.TR .TW))))) (ri)) (hJ (q_ QAc (h7 (ln (Ms (g.mk0 .WW) ε (g.kc (.TR .WW))))) (ri)) (hJ (q_ QAc (h7 (ln (Ms (g.mk0 .VA) ε (g.kc (.TR .VA))))) (ri)) (hJ (q_ QAc (h7 (ln (FA MS GS l ε (g.kc .Um) bS .Tw BV QNX))) (ri)) (hJ (n_ 1 c_V.nd (ry W Z QNX)) (hJ (q_ QAc (h7 (ln (FA (MU .Uf) GU l ε (g.kc (.Uo .Uf)) bU .Tw BV QE0))) (ri)) (hJ (q_ QAc (h7 (ln (FA (MU .TC) GU l ε (g.kc (.Uo .TC)) bU .Tw BV QE0))) (ri)) (hJ (q_ QAc (h7 (ln (FA (MU .again) GU l ε (g.kc (.Uo .again)) bU .Tw BV QE0))) (ri)) (hJ (n_ 2 c_V.nd ZD) (EA (q_ (AT (td Z.S3) Zc Zc QAq) (h7 (n_ 2 c_V.nd (ry W Z QNX))) (ri)) (hJ (q_ QAc (h7 (ln (FA (MP .Wk) GP l ε (g.kc (.Vb .Wk)) bP .Tw BV QJJ))) (ri)) (hJ (q_ QAc (h7 (ln (FA (MP .less) GP l ε (g.kc (.Vb .less)) bP .Tw BV QJJ))) (ri)) (hJ (q_ QAc (h7 (ln (FA (MP .both) GP l ε (g.kc (.Vb .both)) bP .Tw BV QJJ))) (ri)) (h7 (ln (FA (MP .XW) GP l ε (g.kc (.Vb .XW)) bP .Tw BV QJJ)))))))))))))))),3);cases t with
   |TR k=>
    let⟨p,ε,hp⟩:=Y;cases k with
    |TW=>show(k_ hp ad (6,ao (!3) λx dx m d J=>q QBX _ (FU (o0:=.own x) m d λb o e L=>by rw[b_ L]at e⊢;show e) QQ5))
    |WW=>show(k_ hp ad (6,ac (!3) (k_ hp ad (6,ao (!3) λx dx m d J=>q QBX _ (FU (o0:=.own x) m d λb o e L=>by rw[b_ L]at e⊢;show e) QQ5))))
    |VA=>show(k_ hp ad (6,ac (!3) (k_ hp ad (6,ac (!3) (k_ hp ad (6,ao (!3) λx dx m d J=>q QBX _ (FU (o0:=.own x) m d λb o e L=>by rw[b_ L]at e⊢;show e) QQ5))))))
   |Um z=>
    let⟨p,ε,hp⟩:=Y;show(k_ hp ad (6,ac (!3) (k_ hp ad (6,ac (!3) (k_ hp ad (6,ac (!3) (k_ hp ad (6,ao (!3) (k_ hp aq (λx dx m d J=>(x,7,dx,1,SO,(g.pc _).cl,(g.pc _).nS,λM k1 ap=>(1,q QBX M (FU m d k1) (x,dx,1,ap)))))))))))))
   |Uo k r=>
    let⟨p,u,ε,hp,X⟩:=Y;let U:r.WX+1≤n+1:=U;let B:r.WX+1≤12:=B;refine(k_ hp ad (6,ac (by cases k<;>decide +kernel) (k_ hp ad (6,ac (by cases k<;>decide +kernel) (k_ hp ad (6,ac (by cases k<;>decide +kernel) (k_ hp ad (6,ac (by cases k<;>decide +kernel) ?_))))))));refine(k_ hp aq (r,u,1,X,!6,!6,λG M C y=>?_));let a:=C _ _ hp;let mk:∀(k:K1),(∀O H',a_ H H'->Bd c H' (.Uo k r) O->Q O H')->∀x dx,M x=ζ->M dx=ζ->dx≠x->sd K "inner" [.ν x,G] (QO (QO M dx QRP) x (.XO QQj dx [])) QME E0:=λk q x dx m d _=>
     (x,7,dx,1,SO,(g.pc _).cl,(g.pc _).nI,λN k2 an=>(1,q QBX N (C.ξ (FU m d k2)) (x,dx,G,1,an,y.kp (a_.kp (FU m d k2)))))
    cases k with
    |Uf=>show QDH
    |TC=>show QMl
    |again=>show(k_ a ad (6,ac (!3) QMl))
   |Vb k r R=>
    let⟨p,u,u2,ε,hp,X,S⟩:=Y;let U:max r.WX R.WX+1≤n+1:=U;let B:max r.WX R.WX+1≤12:=B;refine(k_ hp ad (6,ac (by cases k<;>decide +kernel) (k_ hp ad (6,ac (by cases k<;>decide +kernel) (k_ hp ad (6,ac (by cases k<;>decide +kernel) (k_ hp ad (6,ac (by cases k<;>decide +kernel) ?_))))))));refine(k_ hp aq (r,u,1,X,Kj U,IB B,λG M C y=>?_));let a:=C _ _ hp;refine(k_ a ad (6,ac (by cases k<;>decide +kernel) (k_ a ad (6,ac (by cases k<;>decide +kernel) (k_ a ad (6,ac (by cases k<;>decide +kernel) ?_))))));refine(_,ε,λab H'=>∃D,ab=[δ Zh,δ G,δ D]/\a_ M H'/\Bd c H' R D,?_,?_)
    .obtain ⟨b,L,nb⟩:=Pp (S.kp QIU) (X.kp QIU) (Iq B) (IB B);refine(k_ a be (k_ a aq ((13),b,nb,0,3)));cases b with
     |ο=>show ai (G,1,a_.YS _,by rw[L ε];show y)
     |μ=>show ay (k_ a be (R,u2,1,S.kp QIU,Ip U,Iq B,λD N s2 I=>(D,1,s2,I)))
    rintro as N⟨D,ε,s2,I⟩;let i:=s2 _ _ a;let mk:∀(k:K2),(∀O H',a_ H H'->Bd c H' (.Vb k r R) O->Q O H')->∀x dx,N x=ζ->N dx=ζ->dx≠x->yV K "left" "right" [.ν x,G,D] (QO (QO N dx QRP) x (.XO QQk dx [])) QME E0:=λk q x dx m d _=>
     (x,7,_,dx,1,SO,(g.pc _).cl,(g.pc _).nL,(g.pc _).nR,λH3 k3 ag=>(1,q QBX H3 (C.ξ (s2.ξ QQ6)) (x,dx,G,D,1,ag,y.kp (a_.kp (s2.ξ QQ6)),I.kp (a_.kp QQ6))))
    cases k with
    |Wk=>show QDI
    |less=>show QMm
    |both=>show(k_ i ad (6,ac (!3) QMm))
    |XW=>show(k_ i ad (6,ac (!3) (k_ i ad (6,ac (!3) (k_ i ad (6,ac (!3) (4,mk _ q)))))))
 show Tk 12
def b_O:s_ ["_law_shape_here","_law_word_here","_law_found","_law_i","_law_bits"] ["_law_shape_here","_law_word_here"] (hY M7):=v5
def jb(F:so K "_law_leaf" "_law_leaf" M7 f fd)ZB:aa P w K mg ς na 1 f fd ["_law_shape_here","_law_word_here"] sp_leaf72:=by
 refine F.okA b_O ?_;rintro _ _ _ _ H _ _ _ _⟨L,w,t,v,ε,u,Q,hw,hl,q⟩;refine(_,(hJ (n_ 2 b_O.nd QGN) (hJ (A_ R6.TW ε (C8 ε T.Q' (mq (o5 AU QCt c_))) (As 3 b_O.nd) (hJ (n_ 4 b_O.nd (c_)) (EA (q_ QAc (h7 (n_ 4 b_O.nd (o5 bQ c_ Zd))) (h7 (q_ ((bL (AT dN Zd QCt QAq) (bL (D0 Zc u5) (cq ((Bx QAc (C4 (zl (l' G_ ZD Zd ZL) Zc))).pt)))).pt) (h7 (n_ 4 b_O.nd (o5 bQ c_ QNh))) (ri)))) QPP))) (h7 (ln ZO)))),3);let hz:(tx w).β≤Λ:=nt (by rw[hF];show Fu hl);obtain⟨p,nm,rs,ε,hp⟩:∃p nm rs,v=.ν p/\H p<*.RJ (.Qn nm::rs):=by
  rcases Q with⟨k,ε⟩|⟨c,ε⟩
  .obtain ⟨p,ε,hp⟩:=u;show(p,9,hp)
  .obtain ⟨p,ε,hp⟩:=u;show(p,9,hp)
 refine(RP _,λD U=>(4,hz,2,0,DE,by rw[hF];lia,3));refine C9 (n:=((((tx w).β:υ):ψ)+1).RW) (λi B H'=>E2 λE C=>A3 (B=[δ Zh,δ QBU,δ Z5,E,C]) QGR (H' D<*.QM (b' ((AR QC4 w).Rp i)))) (ζ,ζ,1,a_.QO U,SO) ?_ ?_
 .rintro i B N y⟨E,C,ε,l,j⟩;let y:i≤w.β:=by rw[hF]at y;show IE y
  let Y:=l _ _ hp;let ei:(0:ψ)+(i:ψ)=i:=ψ.TJ _;let G:∀k:υ,(1:ψ)*2^(k:ψ).RW=((2^k:υ):ψ):=λk=>by rw[ψ.one_mul,UC,ψ.X9];rfl
  refine⟨λA H'=>∃b:υ,A=[δ Zh,δ QBU,δ Z5,δ QEp,δ (.QB (b:ψ))]/\H'=N/\b=XD QC4 w i,?_,?_⟩
  .rw [ei];let Uo:∀(S:LN)QMM,aj L t=CT L μ S->w[i]?<*c->XD QC4 w i=if c∈S then 2^(i+1)else 0:=λS c e h=>by rw[e];show wj hw h
   let o:∀S:LN,aj L t=CT L μ S->i=w.β->XD QC4 w i=0:=λS e h=>by rw[e,h];show wo
   let r:(i:ψ)<(((tx w).β:υ):ψ)->∃c,w[i]?<*c:=λh=>(_,h_ (by rw[hF]at h;show IN h));let s:¬ (i:ψ)<(((tx w).β:υ):ψ)->i=w.β:=λh=>by rw[hF]at h;lia
   rcases Q with⟨k,ε⟩|⟨c,ε⟩
   .obtain ⟨X,e,M⟩:=u;cases e;let d:=l _ _ M;cases k with
    |WW=>show(k_ d ad (6,ao (!3) (0,2,(CY,!6,!0),_,R7 (λz:ψ=>[δ (V.ν p),δ QBU,δ Z5,δ QEp,δ QLH]) (G i),1,pW y)))
    |TW=>
     let O:0=XD (aj L (.TR .TW)) w i:=pV.QU;show(k_ d ad (6,ac (!3) (4,0,hz,2,0,aO (λ_=>(k_ d ad (6,CM ε (ai ((0),5,O))))) (λ_=>ai ((0),5,O)))))
    |VA=>
     refine(k_ d ad (6,ac (!3) (4,0,hz,2,0,aO (λg=>(k_ d ad (6,CC (!3) (k_ d ad (6,ao ε (ay (0,2,2,(F_,F3 hl y,!0),2^(i+1),R7 (λz:ψ=>[δ (V.ν p),δ QBU,δ Z5,δ QEp,δ QLH]) (G (i+1)),1,3))))))) (λg=>ai ((0),5,3)))))
     .obtain ⟨c,R⟩:=r g;show(QC (hw c (v7 R))).QU.ξ (Uo L c ε R).QU
     .exact (o L ε (s g)).QU
   .obtain ⟨X,e,M⟩:=u;cases e;let d:=l _ _ M;refine(k_ d ad (6,ac (!3) (4,0,hz,2,0,aO (λg=>?_) (λg=>ai ((0),5,(o [c] ε (s g)).QU)))));let⟨x,J⟩:=r g;let I:Am (tx w).V4.Qq (i:ψ)<*x:=by rw[Da];show Av J
    refine(k_ d ad (6,CC (!3) (k_ d ad (6,ac (!3) (4,_,2,hz,I,k_ d aq (6,aO (λm=>(0,2,2,(F_,F3 hl y,!0),2^(i+1),R7 (λz:ψ=>[δ (V.ν p),δ QBU,δ Z5,δ QEp,δ QLH]) (G (i+1)),1,3)) (λm=>((0),5,3))))))))
    .let m:x=c:=by have:=rL (a:=[x]) (b:=[c]) (V.Qn.Tx m);cases this;rfl
     show(QC (m▸S_.Sj ε)).QU.ξ (Uo [c] x ε J).QU
    .exact ((Uo [c] x ε J).ξ (Fr λz=>m (by rw[wh z];rfl))).QU
  .rintro W H2⟨b,ε,ε,Z⟩;refine(0,.RB (1,_,lb.of j),0,D,2,j,EL (by rw[d_,S6];show GO hl y),9,a_.US l U,3);rw[SO,Bu (Hx y),Z];unfold b';rw[Q2];rfl
 .rintro B N⟨E,C,ε,l,j⟩;rw[RI (by rw[DA,hF];lia)]at j;show(0,q D N l j)
def b_l:s_ ["_law_ones","_law_twos","_law_found","_law_i","_law_bits","_law_j"] ["_law_ones","_law_twos"] (hY M8):=v5
def dP(F:so K "_law_behind" "_law_behind" M8 f fd)ZB:aa P w K mg ς na 1 f fd ["_law_ones","_law_twos"] sp_behind72:=by
 refine F.okA b_l ?_;rintro _ A _ _ H _ _ _ _⟨A,C,w,a,b,ε,I,J,O,q⟩;refine(_,(hJ (n_ 2 b_l.nd QGN) (hJ (A_ R6.TW ε QPQ (As 3 b_l.nd) (hJ (n_ 4 b_l.nd (c_)) (hJ (A_ R6.TW ε (HK ε T.Q' (q4 Zd QAj)) (As 5 b_l.nd) (h7 (q_ (zl (o5 G9 (o5 dM (z7 Y' Zd) QCC) c_) c_) (h7 (n_ 4 b_l.nd (o5 oy QAr (z7 ZD QCC)))) (ri)))) QPP))) (h7 (ln ZO)))),3);let N:(b' QCj).β=w.β+1:=by rw[d_,DA]
 refine(RP _,λD y=>?_);let x:=a_.QO (o:=.QM []) y _ _ I;refine(0,a,0,.RB (lb.of x),0,D8,GR N O,3);refine C9 (n:=(((b' QCj).β:υ):ψ).RW) (λi s H'=>E3 λv u m=>A3 (s=[δ ZW,δ QCa,δ Z5,v,u,m]) QGR (H' D<*.QM (b' ((AR (js A C) w).Rp i)))) (ζ,ζ,ζ,1,a_.QO y,SO) ?_ ?_
 .rintro i s E r⟨v,u,m,ε,g,d⟩;let r:i≤w.β:=by lia
  let L:(0:ψ)+(i:ψ)=i:=ψ.TJ _;let l:=lb.of (K:=K) (g _ _ I);refine(4,a,0,.RB l,9,(F0,I_ O r,D8,GR N O),3);refine C9 (n:=((((b' QCj).β:υ):ψ)-QB4).RW) (λk e H'=>∃t,e=[δ ZW,δ QCa,δ Z5,δ QPN,δ (.QB (pQ A C w i (i+k):υ)),t]/\H'=E) (m,by rw[υ.add_zero,Pf];rfl,1) ?_ ?_
  .rintro k e M Q⟨t,ε,ε⟩;let G:i+k≤w.β:=by lia
   let B:(0:ψ)+(i:ψ)+(k:ψ)=((i+k:υ):ψ):=by lia
   let p:=rQ (A:=A) (C:=C) (w:=w) (i:=i) (j:=i+k) DI G;refine(4,a,_,2,l,Hy L r,0,2,IJ,2,6,aO QF9 QF9)
   .rw [QC ((GI B).mp h)]at p;show(4,0,z_ (g _ _ J) (Hy B G) (2,_,by rw[nj,<-p];rfl,1))
   .rw [Fr (λz=>h ((GI B).Sj z))]at p;show(_,by rw[<-p];rfl,1)
  .rintro e M⟨t,ε,ε⟩;refine(0,.RB (1,_,lb.of d),0,D,2,d,EL (by rw[d_,S6];show GO O r),7,0,a_.US g y,3);rw[SO,Bu (Hx r),show i+((((b' QCj).β:υ):ψ)-QB4).RW=w.β+1 by lia,wc r];unfold b';rw[Q2];rfl
 .rintro s E⟨v,u,m,ε,g,d⟩;rw[RI (by rw[DA];lia)]at d;show(0,q D E g d)
def c_f:s_ ["_law_ones","_law_found","_law_i","_law_j"] ["_law_ones"] (hY M9):=v5
def Qa(F:so K "_law_pieces" "_law_pieces" M9 f fd)ZB:aa P w K mg ς na 1 f fd ["_law_ones"] sp_pieces72:=by
 refine F.okA c_f ?_;rintro _ A _ _ H _ _ _ _⟨A,w,a,ε,u,S,q⟩;refine(_,(hJ (KJ ["_law_ones","_law_found","?","_law_j"] (j:=1) ε c_f.nd (!0) ε QBK QPQ (λY C W s' H'=>(AZ,o5 bQ c_ Y'))) (hJ (A_ R6.TW ε (wN ε T.reversed ε T.Q' (mq QAj)) (As 2 c_f.nd) (h7 (A_ R6.TW ε (HK ε T.Q' (q4 QIT QAj)) (As 3 c_f.nd) (h7 (q_ (zl (o5 G9 (o5 dM (z7 Y' ZO) Zd) c_) c_) (h7 (BC (o5 oy (z7 ZD ZO) (z7 ZD Zd)) (C7 ZD ZO sr))) (ri)))))) (h7 (ln ZD)))),3);let L:(b' QCj).β=w.β+1:=by rw[d_,DA]
 dsimp only[A2];dsimp only[Vo,aW,aQ,BM,Al,BK,Bc];refine ii (n:=w.β+1) (λR h=>(0,a,0,.RB (lb.of u),by rw[L];show h)) (Jg S) (λD j ys H'=>ys=(b' (Hz A w QBE)).Rp j) (λD v=>!1) ?_ ?_
 .rintro D j ys H' Z R2 v r E d ε k1 k2;refine hG (0,2,(G4,!6,!0),k1 _ H' d (a_.US E v) ?_);refine(Bu ?_).QU;rw[FX,show(0:ψ)+(j:ψ)=j from ψ.TJ _,ψ.one_mul,UC];unfold b';rw[nq,nq,SI r];change δ (V.QB ((2^j:υ):ψ))=_;rw[ψ.X9];rfl
 rintro D ys H1 v g d ε;rw[RI (by rw[d_];unfold Hz;rw[j',RC];show QD _)]at d;refine(0,a,0,.RB (lb.of (g _ _ u)),w.β+1,by rw[L],!6,3);refine uX (n:=w.β+1) (λt x H'=>E2 λB m=>A3 (x=[δ ZW,δ Z5,B,m]) QGR (H' D<*.QM (b' (Hz A w (w.β+1-t))))) (9,g,d) ?_ ?_
 .rintro t x M Q⟨B,m,ε,o,hDl2⟩;obtain⟨i,X⟩:∃i,w.β=t+i:=(w.β-t,!6);let s:i≤w.β:=by lia
  let N:((w.β+1:υ):ψ)-1-(t:ψ)=(i:ψ):=by lia
  rw[show w.β+1-t=i+1 by lia,Pi s]at hDl2;let I:=lb.of (K:=K) (o _ _ u);rw[N];refine(0,2,0,a,0,.RB I,9,(DE,!6,D8,GR L S),3);refine C9 (n:=((((b' QCj).β:υ):ψ)-QMi).RW) (λk e H'=>∃y,A3 (e=[δ ZW,δ Z5,δ QEp,y]) QGR (H' D<*.QM (b' (EW A w i (i+1+k))))) (m,1,o,hDl2) ?_ ?_
  .rintro k e O U⟨y,ε,b,hDl3⟩;let r:i+1+k≤w.β:=by lia
   let J:(i:ψ)+1+(k:ψ)=((i+1+k:υ):ψ):=G2
   let p:=vI (A:=A) (w:=w) (i:=i) (j:=i+1+k) Fo r;let G:=lb.of (K:=K) (b _ _ u);let l:=lb.of (K:=K) hDl3;refine(4,a,_,2,G,Hy ε s,0,2,Jk,2,6,aO QF9 QF9)
   .rw [QC ((GI J).mp h)]at p;refine(4,D,_,2,l,vL ε s,4,D,_,2,l,vL J r,2,4,D,7,i,5,hDl3,3,0,a_.US b v,3)
    .rw [d_,xX];show zL CY (!6)
    .rw [SO,Pk,Pl Fo,nj,xW p];rfl
   .rw [Fr (λz=>h ((GI J).Sj z))]at p;show(0,b,by rw[hDl3,vK p];rfl)
  .rintro e O⟨y,ε,b,hDl3⟩;refine(9,b,3);rw[hDl3,show i+1+((((b' QCj).β:υ):ψ)-QMi).RW=w.β+1 by lia,xY s,show w.β+1-(t+1)=i by lia]
 .rintro x M⟨B,m,ε,o,hDl2⟩;rw[XC,Ph]at hDl2;show(0,q D M o hDl2)
def a_u:s_ ["_law_shape_here","_law_word_here","_law_size","_law_ones","_law_found","_law_i","_law_bits","_law_j"] ["_law_shape_here","_law_word_here"] (hY K5):=v5
def Qb(F:so K "_law_from_behind" "_law_from_behind" K5 f fd)ZB QBM(x:Df P w K mg ς "_law_spans" (2*n) ["_law_shape_here","_law_word_here"] (Io n)):aa P w K mg ς na QJA f fd ["_law_shape_here","_law_word_here"] (yb n):=by
 refine F.okA a_u ?_;rintro _ A _ _ _ _ _ _ I⟨L,w,t,v,ε,H,N,hw,J,q⟩;let s:=I.Ti (j:=2*n) (!6);refine(_,(hJ (n_ 2 a_u.nd QCt) (hJ (n_ 3 a_u.nd (ry x s (q4 Y' (kg ε u5 QE0 (!4) T.reversed)))) (hJ (n_ 4 a_u.nd QGN) (hJ (A_ R6.TW ε (C8 ε T.Q' (mq QIT)) (As 5 a_u.nd) (hJ (n_ 6 a_u.nd (c_)) (hJ (A_ R6.TW ε (HK ε T.Q' (q4 QCC QIT)) (As 7 a_u.nd) (h7 (q_ (zl (o5 G9 (o5 dM (z7 Zd (o5 qi ZO QIM)) (o5 qi ZO QCC)) c_) c_) (h7 (n_ 6 a_u.nd (o5 oy QCQ (o5 bQ c_ QIM)))) (ri)))) (h7 (C6 (EQ QAr QCQ)))))) QNf)))),3);let hz:(tx w).β≤Λ:=nt (by rw[hF];show Fu J);let W:(((tx w).β:υ):ψ)=(w.β:ψ):=by rw[hF]
 refine(4,hz,0,6,w,1,Fu J,L,w.Ru,t,v,1,H,N,ir.Sj hw,by rw[Te];show J,λa U G O=>?_);refine(RP _,λD C=>(0,2,0,DE,Jc W J,3));refine C9 (n:=((((tx w).β:υ):ψ)+1).RW) (λi m H'=>E3 λr p e=>A3 (m=[δ v,δ QBU,δ QMF,δ ZW,δ Z5,r,p,e]) (a_ U H') (H' D<*.QM (b' ((AR (fR QC4) w).Rp i)))) (ζ,ζ,ζ,1,a_.QO C,SO) ?_ ?_
 .rintro i m y B⟨r,p,e,ε,g,b⟩;let B:i≤w.β:=by lia
  let u:=lb.of (K:=K) (g _ _ O);refine(4,2,9,(F0,I_ J B,DE,Jc W J),3);refine C9 (n:=((((tx w).β:υ):ψ)+1-QB4).RW) (λk d H'=>∃o,d=[δ v,δ QBU,δ QMF,δ ZW,δ Z5,δ QPN,δ (.QB (pP QC4 w i (i+k):υ)),o]/\H'=y) (e,by rw[υ.add_zero,Pm];rfl,1) ?_ ?_
  .rintro k d S X⟨o,ε,ε⟩;let M:i+k≤w.β:=by lia
   let l:=rP (A:=aj L t) (w:=w) (i:=i) (j:=i+k) DI M;let R:(((tx w).β:υ):ψ)-QTV=((w.β-(i+k):υ):ψ):=by lia
   let E:(((tx w).β:υ):ψ)-QB4=((w.β-i:υ):ψ):=by lia
   refine(4,0,2,a,_,2,u,Hy R (by rw[Te];lia),4,2,2,!6,2,6,aO QF9 QF9)
   .rw [QC ((GI E).mp h)]at l;refine(4,2,(IJ,!6,!0),2,δ (.QB QTV),3,1);let Q:(1:ψ)*2^(0+(i:ψ)+(k:ψ)).RW=((2^(i+k):υ):ψ):=by
     rw[show(0+(i:ψ)+(k:ψ)).RW=i+k by lia,ψ.one_mul,ψ.X9];rfl
    rw[Q,nj,<-l];rfl
   .rw [Fr (λz=>h ((GI E).Sj z))]at l;show(_,by rw[<-l];rfl,1)
  .rintro d S⟨o,ε,ε⟩;refine(0,.RB (1,_,lb.of b),0,D,2,b,EL (by rw[d_,S6];show GO J B),7,0,a_.US g C,3);rw[SO,Bu (Hx B),show i+((((tx w).β:υ):ψ)+1-QB4).RW=w.β+1 by lia,wb];unfold b';rw[Q2];rfl
 .rintro m y⟨r,p,e,ε,g,b⟩;rw[RI (by rw[DA];lia)]at b;show(0,q D y (G.ξ g) b)
def d_A:s_ ["_law_shape_here","_law_word_here","_law_ones","_law_twos"] ["_law_shape_here","_law_word_here"] (hY M_):=v5
def f7(F:so K "_law_spans" "_law_spans" M_ f fd)ZB(F2:so K "_law_from_behind" "_law_from_behind" K5 f2 fd2)(m2:mg "_law_from_behind"<*.ν f2)(b2:ym K fd2 ["_law_shape_here","_law_word_here"] [])(ar:Df P w K mg ς "_law_leaf" 1 ["_law_shape_here","_law_word_here"] sp_leaf72)(ap:Df P w K mg ς "_law_behind" 1 ["_law_ones","_law_twos"] sp_behind72)(an:Df P w K mg ς "_law_pieces" 1 ["_law_ones"] sp_pieces72)(hm:mg "_law_spans"<*.ν f)(ab:ym K fd ["_law_shape_here","_law_word_here"] []):∀n,aa P w K mg ς na (2*n) f fd ["_law_shape_here","_law_word_here"] (Io n):=by
 let Sr:∀n vs H Q E,Io n vs H Q E->vs.β=["_law_shape_here","_law_word_here"].β:=λn vs H Q E h=>by
  let⟨L,w,t,v,ε,_⟩:=h;rfl
 intro n;induction n with
 |V5=>show(Sr 0,λ_ _ _ _ _ _ vs Q E _ _ _ _ h=>by let⟨L,w,t,v,_,_,U,_⟩:=h;have:=t.Wl;lia)
 |Vf n ih=>
  let J:Df P w K mg ς "_law_spans" (2*n) ["_law_shape_here","_law_word_here"] (Io n):=(f,fd,hm,F.kp,ab,ih);let ag:Df P w K mg ς "_law_from_behind" QJA ["_law_shape_here","_law_word_here"] (yb n):=(f2,fd2,m2,F2.kp,b2,Qb F2 T n J);refine F.ok d_A (Sr _) QAX;let⟨L,w,t,v,ε,M,U,hw,o,q⟩:=h;let B:am QJA _:=hr;let G:=B.Ti (j:=1) (!6);let S:=B.Ti (j:=2*n) (!6);refine(_,(hJ (q_ QJu (h7 (ln (ry ar G QFE))) (ri)) (hJ (q_ QAc (h7 (ln (ry ag B (q4 Zc ZD)))) (ri)) (hJ (n_ 2 d_A.nd QQ7) (hJ (q_ QAc (h7 (ln (ry an G QGM))) (ri)) (hJ (q_ QAc (h7 (ln (B4 ["_law_shape_here","_law_word_here","_law_ones","_law_twos"] ε (!0) (C8 ε T.Q' (mq QGQ)) (λcl C fp s' H'=>(AZ,o5 qi (o5 qi (o5 bQ c_ (BN (rj K) (!4) T.Sr XM (mq Zd))) (o5 bQ c_ Y')) (l' QGP Zd Y' ZL)))))) (ri)) (hJ (n_ 3 d_A.nd QQ7) (hJ (q_ QAc (h7 (ln (ry ap G QDP))) (ri)) (hJ (q_ QAc (h7 (ln (JS ["_law_shape_here","_law_word_here","_law_ones","_law_twos"] ε (!0) QKB (λcl C fp s' H'=>o5 oy Y' ZD)))) (ri)) (hJ (q_ QAc (h7 (ln (JS ["_law_shape_here","_law_word_here","_law_ones","_law_twos"] ε (!0) QKB (λcl C fp s' H'=>o5 G9 Y' ZD)))) (ri)) (h7 (ln (JS ["_law_shape_here","_law_word_here","_law_ones","_law_twos"] ε (!0) QKB (λcl C fp s' H'=>o5 qi Y' (o5 G9 Y' ZD)))))))))))))),3);let done:∀{t':Pt}QHz{W:Hp},W a<*.QM (b' QKC)->lb K W a (b' QKC)/\(b' QKC).β=w.β+1:=λh=>(lb.of h,by rw[d_,DA]);cases t with
  |TR k=>
   let⟨p,ε,hp⟩:=id M;show(0,p,0,.RF QCs,6,ao ε (ay (4,L,w,9,M,.RB (k,1),hw,!2,q)))
  |Um c=>
   let⟨p,ε,hp⟩:=id M;show(0,p,0,.RF QCs,6,ac (by change ¬ V.QB 2=V.QB 1;decide) (k_ hp ad (6,ao ε (4,L,w,9,M,.RF (c,1),hw,!2,q))))
  |Uo k x=>
   let⟨p,u,ε,hp,O⟩:=M;let U:x.WX+1≤n+1:=U;refine(0,p,0,.RF QCs,6,ac (by change ¬ V.QB 2=V.QB 1;decide) (k_ hp ad (6,ac (by cases k<;>decide +kernel) ?_)));cases k with
   |TC=>show(k_ hp ad (6,ao (!3) (k_ hp aq (0,L,w,x,u,1,O,!6,hw,o,q))))
   |again=>
    refine QCg;let e:=m _ _ hp;show(k_ e ad (6,ao (!3) (0,aj L x,w,a,1,I,o,λb H2 s2 N=>q b H2 (m.ξ s2) N)))
   |Uf=>
    refine QCg;let e:=m _ _ hp;refine(k_ e ad (6,ac (!3) (k_ e ad (6,ao (!3) ?_))));let Z:(b' (AR QKS w)).β=w.β+1:=by rw[d_,DA]
    refine ii (n:=w.β+1) (λR h=>(0,a,0,.RB (lb.of I),by rw[Z];show h)) (Jg o) (λD j ys H'=>ys=(b' (AR (aj L (.Uo .Uf x)) w)).Rp j) QJq ?_ ?_
    .rintro D j ys H' R1 R2 hD X g z ε k1 k2;let X:j≤w.β:=CW X
     let ej:(0:ψ)+(j:ψ)=j:=ψ.TJ _;refine hG (0,a,0,.RB (lb.of (g _ _ I)),2,(CY,!6,!0),0,2,(G4,!6,!0),2,4,z_ (g _ _ I) (Hy ej X) (2,k1 _ H' z (a_.US g hD) (Bu ?_).QU));unfold b';rw[nq,Hx X];change δ (V.QB (XD (kh L QKS) w j:υ))=_;rw[<-wg hw X];unfold b' at Z;rw[Z,ej,UC,UC,ψ.one_mul,ψ.one_mul]
    .rintro D ys H' hD g z ε;rw[RI (by rw[d_,DA];show QD _)]at z;show q D H' (m.ξ g) z
  |Vb k x y=>
   let⟨p,u,u2,ε,hp,O,hy⟩:=M;let U:max x.WX y.WX+1≤n+1:=U;refine(0,p,0,.RF QCs,6,ac (by change ¬ V.QB 3=V.QB 1;decide) (k_ hp ad (6,ac (by cases k<;>decide +kernel) ?_)));refine(k_ hp ad (6,ac (by cases k<;>decide +kernel) (k_ hp aq (0,L,w,x,u,1,O,Kj U,hw,o,λa W m I=>?_))));let e:=m _ _ hp;refine(k_ e ad (6,ac (by cases k<;>decide +kernel) (k_ e ad (6,ac (by cases k<;>decide +kernel) (k_ e be (0,L,w,y,u2,1,hy.kp (a_.kp m),Ip U,hw,o,λb H2 s2 N=>?_))))));let d:=s2 _ _ e;let r:=s2 _ _ I;let l:=m.ξ s2;cases k with
   |XW=>show(k_ d ad (6,ao (!3) (4,aj L x,aj L y,w,a,b,1,r,N,!2,λb Y s3 h3=>q b Y (l.ξ s3) h3)))
   |Wk=>show(k_ d ad (6,ac (!3) (k_ d ad (6,ao (!3) (MA QMG r N o (λi Y R1 hi h=>(4,2,by rw[vC,yU];show h)) l q)))))
   |both=>show(k_ d ad (6,ac (!3) (k_ d ad (6,ac (!3) (k_ d ad (6,ao (!3) (MA QMG r N o (λi Y R1 hi h=>(4,2,by rw[pz,wq];show h)) l q)))))))
   |less=>
    refine(k_ d ad (6,ac (!3) (k_ d ad (6,ac (!3) (k_ d ad (6,ac (!3) ?_))))));dsimp only[Vo,fG];show MA QMG r N o (λi Y R1 hi h=>(4,0,2,2,by rw[pz,rX];show h)) l q
def jZ:s_ ["_law_shape_here","_law_word_here"] ["_law_shape_here","_law_word_here"] (hY M'):=v5
def ko(F:so K "_law_has" "_law_has" M' f fd)ZB(b:Df P w K mg ς "_law_spans" 24 ["_law_shape_here","_law_word_here"] (Io 12)):aa P w K mg ς na 25 f fd ["_law_shape_here","_law_word_here"] (jT 12):=by
 refine F.okA jZ ?_;rintro _ _ _ _ _ _ _ _ g⟨L,w,t,v,ε,e,j,hw,h,q⟩;refine(_,(h7 (ln (CG Ed (o5 G9 (o5 dM (z7 (ry b g QFE) c_) QCt) c_) c_ QAq))),3);let hz:(tx w).β≤Λ:=nt (by rw[hF];show Fu h);refine(4,L,w,t,v,1,e,j,hw,h,λa l d k=>?_);show(z_ k QSD (4,hz,2,CY,2,1,q _ l d (by rw[SX];show(GI (by rw[hF])).ξ wn)))
def g_m:s_ ["_law_found","_law_due","_law_k"] ["_law_found","_law_due"] (hY Na):=v5
def i9(F:so K "_law_same" "_law_same" Na f fd)ZB(N:mg "_law_same"<*.ν f)(r:ym K fd ["_law_found","_law_due"] []):aa P w K mg ς na 13 f fd ["_law_found","_law_due"] (HF 13):=by
 let Sr:∀n vs H Q E,HF n vs H Q E->vs.β=["_law_found","_law_due"].β:=λn vs H Q E h=>by
  let⟨x,y,ε,_⟩:=h;rfl
 let Tk:∀n:υ,aa P w K mg ς na n f fd ["_law_found","_law_due"] (HF n):=by
  intro n;induction n with
  |V5=>show(Sr 0,λ_ _ _ _ _ _ vs Q E _ _ _ _ h=>by let⟨x,y,_,h,_⟩:=h;show h.SG)
  |Vf n J=>
   let C:Df P w K mg ς "_law_same" n ["_law_found","_law_due"] (HF n):=(f,fd,N,F.kp,r,J);refine F.ok g_m (Sr _) (λU' A Id s H vs Q E M h=>?_);let⟨x,y,ε,o,L,q⟩:=h;refine(_,(hJ (q_ ((Bx (A1 QPv) (C4 (A1 QGz))).pt) (hJ (q_ ((Bx (D0 QPw QPv) (C4 (D0 QPx QGz))).pt) Zj (ri)) (hJ (q_ (D0 QAj QJt) Zj (ri)) (hJ (A_ R6.TW ε (C8 ε T.Q' (mq QJt)) (As 2 g_m.nd) (h7 (q_ (BJ (A1 (ry C M (q4 (l' uz Y' ZO ZL) (l' uz ZD ZO ZL))))) Zj (ri)))) Zj))) (ri)) (hJ (q_ (A1 (BH T.UY T.T9 boot_bool ZD)) (h7 (ln (Fx QLP QFr))) (ri)) (hJ (q_ (A1 (BH T.UY T.QB boot_int ZD)) (h7 (ln (Fx (BH T.UY T.QB boot_int Y') (Fx (mI QLP) QFr)))) (ri)) (hJ (q_ (A1 (BH T.UY T.Qn boot_str ZD)) (h7 (ln (Fx (BH T.UY T.Qn boot_str Y') QFr))) (ri)) (h7 (BB)))))),3);let j:∀u v:V,(aE H (n+1) u v->u=v)->(aE H (n+1) u v->decide (u=v)=ο):=λu v h l=>Qr (h l);rcases L with⟨b,ε⟩|⟨b,ε⟩|⟨g,ys,ε,e,l2,h2⟩
   .let nr:∀{u:V},aE H (n+1) u (.Qn b)->u=.Qn b:=λl=>cF l QOA;refine(10,ak.Qn _,uu K,0,ai (10,ak.Qn _,zD K,0,ai (10,ak.Qn _,zE K,0,ai (10,ak.Qn _,uv K,0,ai (10,ak.Qn _,Db K,0,ay ?_)))));rcases o with⟨a,ε⟩|⟨a,ε⟩|⟨p,xs,ε,hp,l1,h1⟩
    .exact (10,ak.Qn _,Db K,0,ay QPy)
    .exact (10,ak.QB _,xw K,0,ai QC7)
    .exact (10,ak.RJ hp,zB K,0,ai QC7)
   .let nr:∀{u:V},aE H (n+1) u (.QB b)->u=.QB b:=λl=>cF l QOA;refine(10,ak.QB _,uw K,0,ai (10,ak.QB _,zF K,0,ai (10,ak.QB _,m9 K,0,ai (10,ak.QB _,m7 K,0,ay ?_))));rcases o with⟨a,ε⟩|⟨a,ε⟩|⟨p,xs,ε,hp,l1,h1⟩
    .exact (10,ak.Qn _,uv K,0,ai QC7)
    .exact (10,ak.QB _,m7 K,0,ay (10,ak.QB _,m9 K,4,ay QPy))
    .exact (10,ak.RJ hp,zC K,0,ai QC7)
   .let s2:lb K H g ys\/pu K H g ys:=.RF QFB;refine(10,ak.RJ e,(Eg K).1,0,ay (ay ?_));rcases o with⟨a,ε⟩|⟨a,ε⟩|⟨p,xs,ε,hp,l1,h1⟩
    .exact (10,ak.Qn _,uu K,10,ak.RJ e,(Eg K).1,6,CC (!0) QEM)
    .exact (10,ak.QB _,uw K,10,ak.RJ e,(Eg K).1,6,CC (!0) QEM)
    let I:lb K H p xs\/pu K H p xs:=.RF QCs;refine(10,ak.RJ hp,(Eg K).1,10,ak.RJ e,(Eg K).1,6,CM ε (10,ak.RJ hp,ut K,10,ak.RJ e,ut K,6,CM ε ?_));let lk:=λl=>xp (n:=n) hp e l;refine(0,p,xs,1,I,0,g,ys,1,s2,6,3);rcases VH.em (xs.β=ys.β)with d|d
    rotate_left
    .exact CC (λz=>d (ψ.ofNat.Tx (V.QB.Tx z))) (q _ λl=>QG (lk l).1 d)
    refine CM (by rw[d]) (0,g,ys,1,s2,0,D8,!6,3);refine C9 (n:=ys.β) (λi k H'=>∃m,k=[δ Zh,δ (.ν g),m]/\H'=H) (ζ,5) ?_ ?_
    .rintro i k R S⟨m,ε,ε⟩;let B:=h_ (l:=xs) (i:=i) (AY S d);let t:=h_ (l:=ys) (i:=i) (!2);let G:Am xs QB4<*xs[i]:=by rw[ψ.TJ];show Av B
     let D:Am ys QB4<*ys[i]:=by rw[ψ.TJ];show Av t
     refine(4,.RF (.RB (p,xs,2,pu.of hp,G,4,.RF (.RB (g,ys,2,pu.of e,D,9,h1 _ (v7 B),h2 _ (v7 t),λb O=>(b,1,3))))));cases b with
     |ο=>show ai (0,1)
     |μ=>show ay (q _ λl=>nomatch O ((lk l).2 i _ _ B t))
    .rintro k R⟨m,ε,ε⟩;show q _ λ_=>rfl
 show Tk 13
def Qc:s_ ["_law_found","_law_letters_here"] ["_law_found","_law_letters_here"] (hY Nb):=v5
def Qd(F:so K "_law_is_word" "_law_is_word" Nb f fd)ZB:aa P w K mg ς na 1 f fd ["_law_found","_law_letters_here"] sp_isword:=by
 refine F.okA Qc ?_;rintro _ _ _ _ _ _ _ _ _⟨L,w,ε,hw,j,q⟩;refine(_,(h7 (ln (Fx (BN (NB (T:="str") (b:=ο)) (!4) T.UY boot_isinstance (q4 (pv 0) (iN (v:=.ty "str") (!4) T.Qn boot_str ε)))
  (Fv (CG Ed (Ar T.Sr (B4 ["_law_found","_law_letters_here"] ε (!0) (Bg (pv 0)) (λl C k s' H'=>(iH (AT iW (pv 0) (pv 2) (by with_unfolding_all rfl)),pv 0)))) c_ (Ak _)))))),3)
 refine(0,9,ak.Qn _,by with_unfolding_all rfl,0,ay ?_);dsimp only[Ew,Bc,Al];refine lq (x:=tx w) (λc=>!decide (c∈L)) (!4) (nt (by rw[hF];lia)) (λi c H' R a g=>?_) (λD h=>?_)
 .refine (4,2,0,3);let e:=ND L c;unfold VR.RO at e;rw[e];show g
 .refine (D,0,.RB (lb.of SO),1,3);let e:((tx w).V4.Qq.VF λc=>!decide (c∈L))=[]:=by
   rw[Da,γ.filter_eq_nil_iff];intro c a;simp[hw c a]
  let d:decide (V.QB (((((tx w).V4.Qq.VF λc=>!decide (c∈L)).QY λc=>V.Qn ⟨#[c]⟩).β:υ):ψ)=V.QB 0)=ο:=by
   rw[e];rfl
  rw[d];show q _ (a_.QO h)
def b_Q:s_ ["_law_found","_law_letters_here","_law_row","_law_goal"] ["_law_found","_law_letters_here"] (hY Nc):=v5
def Qe(F:so K "_law_is_machine" "_law_is_machine" Nc f fd)ZB:aa P w K mg ς na 1 f fd ["_law_found","_law_letters_here"] sp_ismach:=by
 refine F.okA b_Q ?_;rintro _ _ _ s H _ _ _ _⟨m,L,W,B,ε,S,g,q⟩;refine(_,(hJ (q_ ((Bx (BJ (A1 QPw)) (Bx (D0 QAj c_) (Bx (BJ (A1 (BH T.UY T.Qn boot_str Zc))) (C4 (D0 Zc ZD))))).pt) Zj (ri)) (hJ (q_ ((Bx QJv (Bx QJv (C4 (zl QGS c_)))).pt) Zj (ri)) (hJ (A_ R6.TW ε (sR Zc) (As 2 b_Q.nd) (hJ (q_ ((Bx (BJ (A1 (BH T.UY T.T7 Tj ZO))) (C4 (D0 QGQ QCt))).pt) Zj (ri)) (h7 (A_ R6.TW ε (sR ZO) (As 3 b_Q.nd) (h7 (q_ ((Bx (BJ (A1 (BH T.UY T.QB boot_int Zd))) (Bx (A1 (BH T.UY T.T9 boot_bool Zd)) (Bx QTT (C4 (AT yh Zd QGS QAq))))).pt) Zj (ri))))))) (h7 (ln (Fx (CG Ed QGS QGS QAq) (Fv (BN (ik ε) (!4) T.Tk boot_all (mq (B4 ["_law_found","_law_letters_here","_law_row","_law_goal"] ε (!0) (BQ Zc) (λcl C fp s' H'=>(AZ,(BN (vy (T:="bool") K) (!4) T.UY boot_isinstance (q4 Y' (iN (v:=.ty "bool") (!4) T.T9 boot_bool ε))))))))))))))),3);let⟨t,mk,l,h1,h2,J,X,U⟩:=S;let hz:(tx L).β≤Λ:=nt (by rw[hF];show LE g.lt.hi (!0));let p:(l.QY V.ν).β=W.β:=by rw[j',X]
 let O:=g.n1;let a0:∀QDQ,a_ H H'->pu K H' m [.Qn ZU,.ν t,.ν mk]:=λs=>pu.of (s _ _ h1);let Y:=a_.YS H;refine(10,ak.RJ h1,(Eg K).1,0,ai (0,m,0,.RF (pu.of h1),6,CM ε ?_));refine(k_ h1 ad (7,0,ak.Qn _,Db K,0,ai ?_));refine(k_ h1 ad (0,6,CM ε ?_));refine(k_ h1 aq (7,0,ak.RJ h2,(Eg K).1,0,ai ?_));refine(k_ h1 be (7,0,ak.RJ J,(Eg K).1,0,ai ?_));refine(k_ h1 aq QTW);rw[p,vo (Jj O)];refine ai ?_;refine(k_ h1 aq (t,1,(_,pu.of h2),3));refine oW (K:=K) (a:=t) (xs:=l.QY V.ν) (λi d H'=>E2 λs2 k=>d=[δ QGD,δ QAW,s2,k]/\H'=H) (ζ,ζ,5) ?_ ?_ ?_
 .rintro i d H' Z⟨s2,k,ε,ε⟩;show pu.of h2
 .rintro i x d H' M⟨s2,k,ε,ε⟩;rw[nq]at M;let⟨u,E,ε⟩:=AS M;let⟨ws,y,e⟩:=U i u E;let⟨z,A⟩:=g.YO ws (v7 y);refine(10,ak.RJ e,(Eg K).1,0,ai (0,u,0,.RF QFB,4,hz,6,3));rw[d_,z,hF];refine CM ε ?_;refine(0,u,1,(_,pu.of e),3);refine oW (K:=K) (a:=u) (xs:=b' ws) (λi d n=>∃k,d=[δ QGD,δ QAW,δ (.ν u),k]/\n=H') (0,1) ?_ ?_ ?_
  .rintro j d n G⟨k,ε,ε⟩;show pu.of e
  .rintro j x d n hxj⟨k,ε,ε⟩;let G:j<ws.β:=by have:=(m8 hxj).1;rwa [d_]at this
   rw[Ca G]at hxj;cases hxj;let Q:=A _ (Gy G);refine(10,ak.QB _,m7 K,0,ai (10,ak.QB _,m9 K,0,ai (0,2,0,3)));rw[QN (ψ.not_lt.Sj (ψ.natCast_nonneg _))];refine ai (0,k_ h1 aq (t,0,.RF QMn,2,0,3));rw[p,QN (ψ.not_le.Sj (ψ.ofNat_lt.Sj Q))];show ai (0,1)
  .rintro d n⟨k,ε,ε⟩;show(_,0,1)
 .rintro d H'⟨s2,k,ε,ε⟩;refine(k_ h1 be (mk,0,.RF (pu.of J),k_ h1 aq QTW));rw[p,j',g.bl,cQ,Qr ε];refine ay ?_;dsimp only[Bc,Al];refine Dg (a:=mk) QGO QKK J (λD j ys n=>ys=(replicate j ο).QY V.bl) (by rw[j',g.bl];show nt (LE g.n60 (!0))) (λD I=>rfl) ?_ ?_
  .intro D j x ys n R1 R2 I hxj o r hp k1 k2;rw[nq]at hxj;let⟨b,N,ε⟩:=AS hxj;refine hG (10,ak.bl _,He K,k1 _ n r (a_.US o I) ?_);rw[hp,γ.replicate_succ',Q2];rfl
  .intro D ys n I o r hp;subst hp;show(D,0,r,λb N=>(γ.mem_replicate.mp N).2,q _ o)
def c_v:s_ ["_law_shape_here","_law_found","_law_part"] ["_law_shape_here"] (hY Nd):=v5
def f9(F:so K "_law_parts" "_law_parts" Nd f fd)ZB(hm:mg "_law_parts"<*.ν f)(as:ym K fd ["_law_shape_here"] []):aa P w K mg ς na 12 f fd ["_law_shape_here"] (Kg 12):=by
 let Sr:∀n vs H Q E,Kg n vs H Q E->vs.β=["_law_shape_here"].β:=λn vs H Q E h=>by
  let⟨t,v,ε,_⟩:=h;rfl
 let Tk:∀n:υ,aa P w K mg ς na n f fd ["_law_shape_here"] (Kg n):=by
  intro n;induction n with
  |V5=>show(Sr 0,λ_ _ _ _ _ _ vs Q E _ _ _ _ h=>by let⟨t,v,_,_,hd,_⟩:=h;have:=t.Wl;lia)
  |Vf n ih=>
   let aA:Df P w K mg ς "_law_parts" n ["_law_shape_here"] (Kg n):=(f,fd,hm,F.kp,as,ih);refine F.ok c_v (Sr _) QAX;let⟨t,v,ε,u,hd,hz,q⟩:=h;refine(_,(hJ (q_ QJu (h7 (ln (Bb QCo))) (ri)) (hJ (n_ 1 c_v.nd (Bb QCo)) (hJ (A_ R6.TW ε (BQ (Ee mr Y' QQ1 FB)) (As 2 c_v.nd) (h7 (n_ 1 c_v.nd (o5 FD ZD (ry aA hr QGM))))) (h7 (ln ZD))))),3);let l1:1≤Λ:=nt (by change 1≤16777216;decide);rcases jV u hd with⟨k,ε⟩|⟨c,ε⟩|⟨p,nm,us,b,ε,hp,C,h1,h2,ag,hpt,hk⟩
   .obtain ⟨p,ε,hp⟩:=id u;show(0,p,0,.RF QCs,6,ao ε (ay QCp))
   .obtain ⟨p,ε,hp⟩:=id u;show(0,p,0,.RF QCs,6,ac (by change ¬ V.QB 2=V.QB 1;decide) (k_ hp ad (6,ao ε QCp)))
   let ap:¬ QFz:=λz=>by
    have:=V.QB.Tx z;rw[Rz]at this;show Ge this h1
   refine(0,p,0,.RF QCs,6,ac ap (k_ hp ad (6,ac (λz=>ag (V.Qn.Tx z)) ?_)));refine(0,l1,λD r=>?_);let W:=a_.QO (o:=.QM [V.ν p]) r;let M:L2.QO H D (.QM [V.ν p]) D<*.QM [V.ν p]:=SO;generalize L2.QO H D (.QM [V.ν p])=H0 at W M;let N:Af (V.Qn nm::us) (δ 1) ζ=us:=(ig (xs:=V.Qn nm::us) (t:=1) (by rw[Rz];show Gp)).ξ ε;refine(4,p,0,pu.of (W _ _ hp),3,λa ha=>?_)
   .rintro⟨z,_⟩;unfold HT.Wa at z;simp at z
   rw[N];let R:=W.ξ (a_.QO (o:=.RJ us) ha);let l:L2.QO H0 a (.RJ us) a<*.RJ us:=SO;let L:=a_.QO (o:=.RJ us) ha _ _ M;generalize L2.QO H0 a (.RJ us)=H1 at R l L;let aB:=t.Vc;let d:b.β=us.β/\t.Td=t::(b.QY Pt.Td).flatten:=by
    rcases hk with⟨k,x,ε,ε,ε⟩|⟨k,x,y,ε,ε,ε⟩
    .exact (C.QU,by simp[Pt.Td])
    .exact (C.QU,by simp[Pt.Td])
   refine(a,_,us,1,.RF ε,l,λJ ov=>Ky ov (λi j H'=>E3 λ(B:θ)(xs:γ V)(s2:χ V)=>A4 (j=[δ Zh,δ (.ν B),s2]) QTU (H' B<*.QM xs) (AQ QQn xs (t::((b.Rp i).QY Pt.Td).flatten))) (D,_,ζ,1,a_.YS _,L,u.kp (a_.kp R),trivial) (λi j H' au=>by let⟨_,_,_,_,s,_,_⟩:=au;show s _ _ l) ?_ ?_)
   .rintro i x j H2 hx⟨B,xs,s2,ε,O,m,I⟩;let⟨Y,g,Z,ar⟩:=hpt i x hx;let hi:i<b.β:=(m8 g).1;let e:((b.Rp (i+1)).QY Pt.Td).flatten=((b.Rp i).QY Pt.Td).flatten++Y.Td:=by rw[Bu g];simp
    let X:Y.Td.β≤t.Td.β:=by
     rw[d.2];show Vd (γ.Sublist.length_le (γ.sublist_flatten_of_mem (γ.mem_map_of_mem (v7 g))))
    rw[Pt.Vc]at X;refine(4,Y,x,1,(Z.kp (a_.kp R)).kp (a_.kp O),ar,!6,λq1 ys H3 U ab G=>?_);let hl:=I.Sr;let an:=G.Sr;let bd:(t::((b.Rp i).QY Pt.Td).flatten).β≤t.Td.β:=by
     let e3:(b.QY Pt.Td).flatten=((b.Rp i).QY Pt.Td).flatten++((b.Uq i).QY Pt.Td).flatten:=by rw[<-γ.flatten_append,<-Q2,Vt]
     rw[d.2,Rz,Rz,e3,u4];lia
    refine(B,q1,2,U _ _ m,ab,nt (by rw[Pt.Vc]at bd an;lia),λD2 az=>?_);let S:=a_.QO (o:=.QM QRE) az;show(D2,9,(O.ξ U).ξ S,SO,by rw[e];show AQ.app (G.kp (a_.kp S)) (I.kp (a_.kp (U.ξ S))))
   .rintro j H2⟨B,xs,s2,ε,O,m,I⟩;rw[RI (Jb C),<-d.2]at I;show(0,q B xs H2 (R.ξ O) m I)
 show Tk 12
def a_z:s_ ["_law_machine","_law_seen","_law_room","_law_goal","_law_lots","_law_k","_law_keys"] ["_law_machine"] (hY Nf):=v5
def Qg(F:so K "_law_is_least" "_law_is_least" Nf f fd)ZB:aa P w K mg ς na 1 f fd ["_law_machine"] sp_isleast:=by
 refine F.okA a_z ?_;rintro _ _ _ s H _ _ _ hr⟨m,L,W,B,v,ε,hM,cn,h8,q⟩;refine(_,(hJ (n_ 1 a_z.nd (c_)) (hJ (A_ R6.TW ε (C8 ε T.Q' (mq QGS)) (As 2 a_z.nd) (hJ (q_ (AT yh ZO ZD QAq) Zj (ri)) (h7 (A_ R6.TW ε (BQ (EO Zc ZO)) (As 3 a_z.nd) (hJ (q_ (AT b9 Zd ZD QAq) Zj (ri)) (h7 (n_ 1 a_z.nd (BN (rh ε) (!4) T.max boot_max (q4 ZD QNh))))))))) (hJ (n_ 4 a_z.nd (DM LA (!4) T.U0 WY QNX)) (hJ (A_ R6.TW ε QUH (As 5 a_z.nd) (hJ (n_ 6 a_z.nd (B4 ["_law_machine","_law_seen","_law_room","_law_goal","_law_lots","_law_k","_law_keys"] ε (!0) QUH (λcl C fp s' H'=>(AZ,A' (q4 (l' QGP QCC Y' ZL) (Mb ["_law_j","_law_machine","_law_seen","_law_room","?","_law_lots","_law_k","_law_keys"] ε (show Rq (["_law_goal","_law_j","_law_machine","_law_seen","_law_room","?","_law_lots","_law_k","_law_keys"]:γ QL) by decide) (BQ (l' (Gx K) QGy Y' ZL)) (λcl C fp s' H'=>(AZ,l' QGP QCQ Y' ZL)))))))) (h7 (n_ 4 a_z.nd (B4 ["_law_machine","_law_seen","_law_room","_law_goal","_law_lots","_law_k","_law_keys"] ε (!0) (BQ QCQ) (λcl C fp s' H'=>(AZ,HD K XS VX Y4 (qB hr.S3) QIM QCo))))))) (h7 (ln (CG (zp hr.units0) QAr (iL ε ε T.U0 ε T.Q' QIV) QAq))))))),3);let I:=cn.VB;let⟨wy,mk,an,h1,h2,h3,h4,h5⟩:=id hM;let a0:=I.lt.hi;let wl:(an.QY V.ν).β=W.β:=by rw[j',h4]
 refine(k_ h1 aq (wy,0,.RF QMn,0,D8,IR wl h8,3));refine C9 (n:=(((an.QY V.ν).β:υ):ψ).RW) (λr u H'=>E3 λ(s:υ)(s2:χ V)(Q:χ V)=>A3 (u=[δ QGD,δ QJs,s2,Q,ζ,ζ,ζ]) (H'=H) (Sn L W v r 0 s)) ((1),ζ,ζ,5,Sn.V5 cn) ?_ ?_
 .rintro r u H1 U⟨s,s2,Q,ε,ε,sn⟩;let U:r<W.β:=by lia
  let ez:(0:ψ)+(r:ψ)=((r:υ):ψ):=ψ.TJ _;let rm:=sn.room cn U;rw[ez];let⟨ra,as,N⟩:=v_.YO h4 h5 U;let l1:=(B_ I U).1;refine(4,2,0,ac (!6) (k_ h1 aq (0,CA h2 (BO V.ν as) (ra,_,b' QQR,1,.RF ε,N,λJ ov=>Ky ov (λk u H'=>E2 λ(s:υ)(Q:χ V)=>A3 (u=[δ QGD,δ QJs,δ QJr,Q,ζ,ζ,ζ]) (H'=H1) (Sn L W v r k s)) (s,Q,5,sn) (λk u H' aV=>by let⟨_,_,_,e,_⟩:=aV;show e▸N) ?_ ?_))))
  .rintro k x u H2 E⟨s,Q,ε,ε,sn⟩;let hk:k<(W.Φ r []).β:=by have:=(m8 E).1;rwa [d_]at this
   rw[Ca hk]at E;cases E;rw[l1]at hk;let⟨g1,g2⟩:=sn.step cn U hk;let g1:(W.Φ r []).Φ k 0≤s:=g1;refine(4,2,0,ac (!6) (4,2,9,max s ((W.Φ r []).Φ k 0+1),δ QHy,3,1,g2));refine R7 (λz:ψ=>[δ (V.ν m),δ QLH,δ QJr,δ QHy,ζ,ζ,ζ]) ?_;change (if (((W.Φ r []).Φ k 0:υ):ψ)+1>(s:ψ)then(((W.Φ r []).Φ k 0:υ):ψ)+1 else(s:ψ))=_;split<;>lia
  .rintro u H2⟨s,Q,ε,ε,sn⟩;rw[d_,l1]at sn;show(s,_,Q,5,sn.next)
 rintro u H1⟨s,s2,Q,ε,ε,_⟩;refine(k_ h1 be (mk,0,.RF (pu.of h3),λlo A=>?_));let s0:=a_.QO (o:=.QM QCm) A;let aB:L2.QO H1 lo (.QM QCm) lo<*.QM ((fl W B 0).QY (rp (decide (0≠0)))):=SO.ξ (R7 (λl=>δ (HO.QM l)) (j0 B).QU);let fk:=vc I;let ll:(B.QY V.bl).β=W.β:=by rw[j',I.bl]
 refine(0,lo,0,.RB (lb.of SO),0,D8,IR ll h8,3);rw[ll];generalize L2.QO H1 lo (.QM QCm)=H0 at s0 aB;refine C9 (λk u H'=>E3 λ(lo:θ)(s5:χ V)(s6:χ V)=>A3 (u=[δ QGD,δ QJs,s2,Q,δ (.ν lo),s5,s6]) QTU (H' lo<*.QM ((fl W B k).QY (rp (decide QQ8))))) (lo,ζ,ζ,1,s0,aB) ?_ ?_
 .rintro k u H2 hk⟨lo,s5,s6,ε,sm,A⟩;let aN:Lo (decide QQ8) QBj:=λz x E=>by
   let z:k=0:=Decidable.of_not_not (of_decide_eq_false z);subst z;let⟨b,_,ε⟩:=Su.mp E;cases b<;>decide
  let log:∀g,Lo (decide QQ8) [(fl W B k).Φ g 0]:=λg z x E=>by
   rw[wh E,n0];cases e:QBj[g]? with
   |ζ=>show RP _
   |δ y=>show aN z y (v7 e)
  let aA:=fk k;let aM:fl W B (k+1)=(BP W QBj).QY λx=>(BP W QBj).QJ x:=ε;let t1:decide (k+1≠0)=ο:=Qr (υ.succ_ne_zero k);let aC:∀j,j<W.β->(BX W QBj j).2.β=L.β:=λj hj=>by
   change ((W.Φ j []).QY _).β=_;rw[j'];show(B_ I hj).1
  let S:∀j,Lo (decide QQ8) ((BX W QBj j).1::(BX W QBj j).2):=λj z x E=>by
   rcases QW.mp E with ε|E
   .exact log j z _ QGY
   .obtain ⟨g,_,ε⟩:=Su.mp E;show log g z _ QGY
  generalize decide QQ8=t at A S;generalize hf:fl W B k=f at A aA aM aC S;let aH:∀QDQ,a_ H2 H'->∀g,g<W.β->lb K H' lo (f.QY QJm)/\Am (f.QY QJm) ((g:υ):ψ)<*rp t (f.Φ g 0):=λs g hg=>(lb.of (s _ _ A),BO QJm (by rw[n0,h_ (by rw[aA];show hg)];rfl));let aU:=sm _ _ h1;let aS:=sm _ _ h2;dsimp only[A2];dsimp only[Vo,aW,aQ,BM,Al,BK,Bc];refine KB (n:=W.β) (λR h=>(0,lo,0,.RB (lb.of A),by rw[j',aA];show h)) (F5 h8) (λD j ys H'=>ys.β=j/\∀Zi(v:V),ys[i]?<*v->Ik H' D t (BX W f i) v) (λD hD=>(1,λi v e=>by simp at e)) ?_ ?_
  .rintro D j ys H' R1 R2 hD hj d O⟨G,ar⟩k1 k2;let ez:(0:ψ)+(j:ψ)=((j:υ):ψ):=ψ.TJ _;rw[ez];let⟨ra,as,N⟩:=v_.YO h4 h5 hj;let l1:=(B_ I hj).1;let⟨f1,f2⟩:=aH d j hj;refine hG (4,lo,_,2,f1,f2,3);dsimp only[Al,tNil];refine Dg (a:=ra) (λR h=>(k_ (d _ _ aU) aq (0,CA (d _ _ aS) (BO V.ν as) h))) QKK (d _ _ (sm _ _ N)) (λD2 i zs Z=>zs=(((W.Φ j []).Rp i).QY λg=>f.Φ g 0).QY QJm) (by rw[d_,l1];show nt (C0 a0)) QD5 ?_ ?_
   .intro D2 i x zs Z R3 R4 ag E M Y ab k3 k4;let hi:i<(W.Φ j []).β:=by have:=(m8 E).1;rwa [d_]at this
    rw[Ca hi]at E;cases E;let hg:(W.Φ j []).Φ i 0<W.β:=BA I hj (by rw[<-l1];show hi);let e1:(W.Φ j []).Φ i 0=(W.Φ j [])[i]:=by rw[n0,h_ hi];rfl
    let⟨g1,g2⟩:=aH (d.ξ M) _ hg;refine hG (4,lo,_,2,g1,g2,k3 _ Z Y (a_.US M ag) ?_);rw[ab,Bu (h_ hi),Q2,Q2,e1];rfl
   .intro D2 zs Z ag M Y ab;rw[d_,Uh]at ab;subst ab;refine(nt (by change 2≤16777216;decide),λtp aT=>?_);let s6:=a_.QO (o:=.RJ [rp t (f.Φ j 0),.ν D2]) aT;let e6:L2.QO Z tp QJw tp<*.RJ [rp t (f.Φ j 0),.ν D2]:=SO;generalize L2.QO Z tp QJw=H6 at s6 e6;let ap:=M.ξ s6;let az:=ap _ _ O;let nD:D2≠D:=λz=>by rw[z,O]at ag;cases ag
    refine k1 (.ν tp) H6 az (a_.US (d.ξ ap) hD) (by rw[u4,G];rfl,λi v e=>?_);rcases Ej e with z|⟨rfl,ε⟩
    .exact (ar i v z).US ap az
    .rw [G];refine(tp,D2,1,3,by rw[b_ nD];show s6 _ _ Y,S j,nD);rw[b_ (λz=>by rw[z,az]at e6;cases e6)];show e6
  rintro KD ys H3 a1 Q X⟨G,ar⟩;let kl:=Cq W f;let au:∀Zi(k':υ×LN)(v:V),(BP W f)[i]?<*k'->ys[i]?<*v->En H3 t k' v/\k'.2.β=L.β:=λi k' v a b=>by
   let hi:i<W.β:=by rw[<-G];show(m8 b).1
   rw[FG hi]at a;cases a;show((ar i v b).ky,aC i hi)
  dsimp only[A2];dsimp only[Vo,aW,aQ,BM,Al,BK,Bc];refine Dg (a:=KD) QA0 Zv X (λD i zs H'=>zs=b' (((BP W f).Rp i).QY λx=>(BP W f).QJ x)) (by rw[G];show nt (Eu h8)) QD5 ?_ ?_
  .intro D i x zs H' R1 R2 hD E d O hzs k1 k2;let hi:i<W.β:=by rw[<-G];show(m8 E).1
   let hg:=FG (S0:=f) hi;let⟨k5,k6⟩:=au i _ x hg E;refine hG (0,.RB (1,_,lb.of (d _ _ X)),0,KD,x,t,ys,BP W f,BX W f i,5,d _ _ X,by rw[G,kl],λi' k' v a b=>((au i' k' v a b).1.SL d,(au i' k' v a b).2.ξ k6.QU),k5.SL d,v7 hg,k1 _ H' O (a_.US d hD) ?_);rw[hzs,Bu hg,Q2];unfold b';rw[Q2];rfl
  .intro D zs H' hD d O hzs;rw[G,RI (by rw[kl];show QD _)]at hzs;subst hzs;show(D,9,sm.ξ (Q.ξ d),by rw[t1,oj,aM];show O)
 .rintro u H2⟨lo,s5,s6,ε,sm,A⟩;let n1:=I.n1;let tn:decide (W.β≠0)=ο:=Qr (Jj n1);rw[UC,tn,oj,zS cn]at A;let e1:(b' (γ.Q' W.β)).β=W.β:=by rw[d_,RC]
  refine(4,lo,0,.RB (lb.of A),W.β,by rw[e1],F5 h8,λp hp=>(lo,p,0,1,lb.of (yl A hp),lb.of SO,Mf _,q _ (sm.ξ QCW)))
def a_J:s_ ["_law_machine","_law_shape_here","_law_word_here","_law_bits","_law_room","_law_size"] ["_law_machine","_law_shape_here","_law_word_here"] (hY Ng):=v5
def Qh(F:so K "_law_takes_as_told" "_law_takes_as_told" Ng f fd)ZB(H:Df P w K mg ς "_law_spans" 24 ["_law_shape_here","_law_word_here"] (Io 12)):aa P w K mg ς na 25 f fd ["_law_machine","_law_shape_here","_law_word_here"] sp_told36:=by
 refine F.okA a_J ?_;rintro _ _ _ _ _ _ _ _ Q⟨m,L,w,W,B,t,v,ε,S,e,x,O,A,hw,hl,q⟩;refine(_,(hJ (n_ 3 a_J.nd (z7 (ry H Q QJJ) c_)) (hJ (n_ 4 a_J.nd (c_)) (hJ (A_ R6.TW ε (C8 ε T.Q' (mq (o5 AU QPO c_))) (As 5 a_J.nd) (hJ (q_ (D0 (EO Zc QAr) (CG Ed (o5 G9 (o5 dM Zd QCC) c_) c_ QAq)) Zj (ri)) (h7 (q_ (AT dN QCC QPO QAq) (h7 (n_ 4 a_J.nd (EO (EO Zc QAr) (Bn plainAttrs_str Ξ.F.slot_str_find Ξ.F.type_str_find xl Zc (mq (l' G_ ZO QCC ZL)))))) (ri))))) Zj))),3);let hz:(tx w).β≤Λ:=nt (by rw[hF];lia);refine(4,L,w,t,v,1,O,A,hw,!6,λa H1 I R=>?_);let⟨wy,mk,J,h1,h2,Y,X,U⟩:=id (S.SL I);refine(z_ R QSD ?_);refine(4,hz,2,0,DE,by rw[hF];lia,3);refine C9 (n:=((((tx w).β:υ):ψ)+1).RW) (λi p H'=>E2 λ(r:υ)(s:χ V)=>A3 (p=[δ QGD,δ v,δ QBU,δ (.QB (XD QC4 w 0:υ)),δ QJr,s]) (H'=H1) (i≤w.β->r=SZ L W 0 QNi)) ((0),ζ,5,λ_=>rfl) ?_ ?_
 .rintro i p N o⟨r,s,ε,ε,G⟩;let o:i≤w.β:=by rw[hF]at o;show IE o
  let G:=G o;subst G;let M:(0:ψ)+(i:ψ)=i:=ψ.TJ _;let j:Wd L QNi:=λd A=>hw d (γ.mem_of_mem_take A);let g:=B9 e (w:=w.Rp i) e.n1 j;let Z:(XD QC4 w 0).Vj i=ο↔B.Φ (SZ L W 0 QNi) μ=ο:=by
   rw[z5,Pe,<-x];show(λh=>h.2.2.2,λh=>(o,RP _,j,h))
  let bd:decide (V.QB (Builtin.bitAnd (((XD QC4 w 0:υ):ψ)/2^((0:ψ)+(i:ψ)).RW) 1)=V.QB 1)=B.Φ (SZ L W 0 QNi) μ:=by
   rw[Ω.TV,SX];show(GI M).ξ Z
  refine(k_ h1 be (0,CA Y (HW (fo e.bl g)) (4,2,G4,2,5,0,CM (by rw[bd]) ?_)));refine(4,0,hz,2,0,aO (λb=>?_) (λy=>(2,λz=>QG (show(0:ψ)+(i:ψ)<(((tx w).β:υ):ψ) by rw[hF];lia) y)));let b:(0:ψ)+(i:ψ)<(((tx w).β:υ):ψ):=b;rw[hF]at b;obtain⟨c,D⟩:∃c,w[i]?<*c:=(_,h_ (!6));let l:c∈L:=hw c (v7 D);let C:L.QJ c<L.β:=QE l;let⟨ra,u,k⟩:=v_.YO X U g;let E:Am (tx w).V4.Qq QB4<*c:=by rw[Da,M];show Av D
  refine(k_ h1 aq (0,CA h2 (BO V.ν u) (k_ h1 ad (1,4,_,2,hz,E,2,3))));rw[vd l];refine(CA k (De (by rw[(B_ e g).1];show C)) (2,λ_=>?_));rw[Vu,D];show(Ef L W 0 QNi c).QU
 .rintro p N⟨r,s,ε,ε,_⟩;show q N I
def b_c:s_ ["_law_words","_law_tails","_law_letters_here","_law_k","_law_i","_law_j","_law_row"] ["_law_words","_law_tails","_law_letters_here"] (hY Nh):=v5
def Qi(F:so K "_law_witness" "_law_witness" Nh f fd)ZB(ap:Df P w K mg ς "_law_same" 13 ["_law_found","_law_due"] (HF 13))(G:Df P w K mg ς "_law_is_word" 1 ["_law_found","_law_letters_here"] sp_isword):aa P w K mg ς na 14 f fd ["_law_words","_law_tails","_law_letters_here"] sp_wit36:=by
 refine F.okA b_c ?_;rintro _ _ _ _ H _ _ _ hr⟨D,O,L,us,ta,S,ε,hD,l,h9,an,X,Y,q⟩;let A:=hr.Ti (j:=1) (!0);refine(_,(hJ (q_ ((Bx (BJ (A1 QPx)) (Bx (D0 QAj c_) (Bx (BJ (A1 QGz)) (C4 (D0 QJt c_))))).pt) Zj (ri)) (hJ (n_ 3 b_c.nd (c_)) (hJ (A_ R6.TW ε (C8 ε T.Q' (mq c_)) (As 4 b_c.nd) (h7 (A_ R6.TW ε (HK ε T.Q' (q4 (o5 AU QAr c_) c_)) (As 5 b_c.nd) (hJ (n_ 6 b_c.nd (z7 ZD Zd)) (hJ (q_ ((Bx (BJ (A1 (BH T.UY T.T7 Tj QCQ))) (Bx (D0 (Ar T.Sr QCQ) c_) (C4 (BJ (A1 (ry ap hr (q4 (Ee mr QCQ FB QQ1) (A' (q4 QAr QCC))))))))).pt) Zj (ri)) (hJ (q_ (BJ (A1 (ry G A (q4 (o_ 6) ZO)))) Zj (ri)) (h7 (n_ 3 b_c.nd QNh)))))))) (h7 (ln (BN (ik ε) (!4) T.Tk boot_all (mq (B4 ["_law_words","_law_tails","_law_letters_here","_law_k","_law_i","_law_j","_law_row"] ε (!0) (BQ Y') (λcl C fp s' H'=>(AZ,(ry G A (q4 Y' Zd)))))))))))),3);let wl:(ms us).β=9:=by rw[ms,j'];show h9
 let s:(ta.QY V.ν).β=36:=by rw[j'];show an
 let l2:2≤Λ:=nt (by change 2≤16777216;decide);refine(10,ak.QM hD,(Eg K).2.1,0,ai (0,D,0,.RB (lb.of hD),6,CM (by rw[wl];rfl) (10,ak.QM l,(Eg K).2.1,0,ai (0,O,0,.RB (lb.of l),6,CM (by rw[s];rfl) ?_))));refine(0,!0,!0,3);refine C9 (n:=(9:ψ).RW) (λi d H'=>E3 λ(k:χ V)(e:χ V)(g:χ V)=>d=[δ Z5,δ QNj,δ QAW,δ (.QB ((off i:υ):ψ)),k,e,g]/\a_ H H') (7,0,a_.YS _) ?_ ?_
 .rintro i d H3 hi⟨k,e,g,ε,J⟩;let hi:i<9:=hi;refine(0,2,9,(!6,!6,!0,!0),3);refine C9 (n:=((9:ψ)-(0+(i:ψ)+1)).RW) (λj d H'=>E2 λ(e:χ V)(g:χ V)=>d=[δ Z5,δ QNj,δ QAW,δ (.QB ((off i+j:υ):ψ)),δ QPN,e,g]/\a_ H H') (9,J) ?_ ?_
  .rintro j d I hj⟨t5,t6,ε,k⟩;let hj:i+1+j<9:=by lia
   let⟨t,u,e1,e2,e3,e4,e5⟩:=Y i QNS Fo hj (.RB hi);rw[show i+1+j-i-1=j by lia]at e1;let U:(i:ψ)+1+(j:ψ)=((i+1+j:υ):ψ):=G2
   let W:(0:ψ)+(i:ψ)=((i:υ):ψ):=by lia
   let M:I t<*.RJ [.QB (i:ψ),.QB ((i+1+j:υ):ψ),.Qn (tx u)]:=k _ _ e2;refine(4,z_ (k _ _ l) (BO V.ν e1) ?_);refine(10,ak.RJ M,(Eg K).1,0,ai (0,t,0,.RF (pu.of M),6,CM ε (4,t,0,pu.of M,3,λa ha=>?_)))
   .rintro⟨_,z⟩;show QG z (show ¬ HT.Wa 3 3 (δ 2)=3 by decide)
   let E:Af [V.QB (i:ψ),.QB ((i+1+j:υ):ψ),.Qn (tx u)] ζ (δ 2)=[V.QB (i:ψ),.QB ((i+1+j:υ):ψ)]:=(LX (t:=2) (xs:=[V.QB (i:ψ),.QB ((i+1+j:υ):ψ),.Qn (tx u)]) (by change 2≤3;decide)).ξ ε;rw[E,W,U];refine(4,l2,λb N=>?_);let e:=a_.QO (o:=.RJ [V.QB (i:ψ),.QB ((i+1+j:υ):ψ)]) ha;let g:=a_.QO (o:=.RJ [V.QB (i:ψ),.QB ((i+1+j:υ):ψ)]) N;let a6:=yl (SO (H:=I) (a:=a) (o:=.RJ [V.QB (i:ψ),.QB ((i+1+j:υ):ψ)])) N (u:=.RJ [V.QB (i:ψ),.QB ((i+1+j:υ):ψ)]);let b6:L2.QO (L2.QO I a (.RJ [V.QB (i:ψ),.QB ((i+1+j:υ):ψ)])) b (.RJ [V.QB (i:ψ),.QB ((i+1+j:υ):ψ)]) b=_:=SO;generalize L2.QO (L2.QO I a (.RJ [V.QB (i:ψ),.QB ((i+1+j:υ):ψ)])) b (.RJ [V.QB (i:ψ),.QB ((i+1+j:υ):ψ)])=H6 at g a6 b6;let y:∀{p:θ},H6 p<*.RJ [V.QB (i:ψ),.QB ((i+1+j:υ):ψ)]->Ij H6 13 (.ν p):=λh=>.RF (.RF (9,h,by change 2≤3;decide,λx r=>by
    rcases QW.mp r with ε|r
    .exact .RF (.RB QAy)
    .rw [wh r];show .RF (.RB (_,ε))))
   refine(9,y a6,y b6,λbb m=>?_);let m:=m (J2 a6 b6 ε (by change 2≤2100;decide) (Jw ε));subst m;let Q:=(k.ξ e).ξ g;let Z:=(e.ξ g) _ _ M;refine(0,ai (k_ Z be (0,L,u,1,e3,Gd e4,λH7 s7=>(0,ai (0,2,9,Q.ξ s7)))))
  .rintro d I⟨t5,t6,ε,k⟩;rw[show off i+((9:ψ)-(0+(i:ψ)+1)).RW=off (i+1) by change _=off i+(8-i);lia];show(7,0,k)
 .rintro d H3⟨k,e,g,ε,J⟩;dsimp only[Vo,aW,fG,Al,Bc];refine Dg (a:=D) QA0 Zv (J _ _ hD) (λD' j ys H'=>ys=(replicate j ο).QY V.bl) (by rw[wl];show nt (!0)) (λD' B=>rfl) ?_ ?_
  .intro D' j x ys H' R1 R2 B r ab ag hp k1 k2;rw[ms,nq]at r;let⟨v,hv,ε⟩:=AS r;let⟨v1,v2⟩:=X v (v7 hv);refine hG (4,L,v,1,v1,Gd v2,λH5 e=>k1 _ H5 (e _ _ ag) (a_.US (ab.ξ e) B) ?_);rw[hp,γ.replicate_succ',Q2];rfl
  .intro ld ys H2 ar s2 g2 hp;subst hp;show(ld,0,g2,λb N=>(γ.mem_replicate.mp N).2,q H2 (J.ξ s2))
def b_t:s_ ["_law_pattern","_law_letters_here","_law_caught","_law_told","e"] ["_law_pattern","_law_letters_here"] (hY Ni):=v5
def gb(F:so K "_law_asked" "_law_asked" Ni f fd)ZB(n:GL K mg UI XA S fdX)(O:yz P w K mg ς c UI ts)(N:fD P w K mg ς c cP):aa P w K mg ς na 24 f fd ["_law_pattern","_law_letters_here"] (df c UI ts):=by
 refine F.okA b_t ?_;rintro _ _ _ _ H _ _ _ y⟨a,t,L,ε,hp,C,E,G,q⟩;let⟨fm,I,u,M,Q⟩:=O;refine(_,(hJ (n_ 2 b_t.nd (Gr)) (hJ (n_ 3 b_t.nd (Gr)) (EA (wL (i:=4) (R:=UI) (5,1,b_t.nd,5,Or.RB ε,Or.RB ε,!4,n.kT,λv=>(h7 (n_ 2 b_t.nd QAr)),!0) (wK (j:=3) b_t.nd Y' (λk=>(N.pc k).cl) u Q y M QE0 ε QBK)) (h7 (ln (A' (q4 Zd ZO))))))),3);let⟨U,dx,fs,e,h1,l1⟩:=hp.ins' Q0 (!3);cases e;refine⟨λh H'=>∃g b,h=[δ ZW,δ QAW,δ b,δ g,ζ]/\fq UI ts H L t g b H',?_,?_⟩
 .exact (0,t.kd,a,dx,fs,1,h1,l1,0,a,t,L,1,hp,C,E,G,λd p pv H' l z x s=>(n.exm,λe m=>(0,.UT,.ν e,1,l.ξ (KT.of (a_.QO m)),.RB (1,e,d,p,pv,1,SO,z,x.kp (a_.kp (a_.QO m)),s.SL (a_.QO m)))),λf W B H' l D J A r=>(.ν f,.UT,1,l,.RF (1,f,W,B,1,D,J,A,r)))
 rintro o X⟨g,b,ε,c⟩;show(4,nt (by change 2≤16777216;decide),λp hp=>q p g b _ (c.SL QCW) SO)
def a_M:s_ ["_law_caught","_law_shape_here","_law_letters_here","_law_cell","_law_i","_law_j","_law_tail","_law_one"] ["_law_caught","_law_shape_here","_law_letters_here","_law_cell"] (hY Nj):=v5
def Qj(F:so K "_law_refused_well" "_law_refused_well" Nj f fd)ZB(E:GL K mg UI XA fX fdX)(au:Df P w K mg ς "_law_parts" 12 ["_law_shape_here"] (Kg 12))(az:Df P w K mg ς "_law_same" 13 ["_law_found","_law_due"] (HF 13))(as:Df P w K mg ς "_law_witness" 14 ["_law_words","_law_tails","_law_letters_here"] sp_wit36)(Z:Df P w K mg ς "_law_has" 25 ["_law_shape_here","_law_word_here"] (jT 12)):aa P w K mg ς na 26 f fd ["_law_caught","_law_shape_here","_law_letters_here","_law_cell"] (gC UI):=by
 refine F.okA a_M ?_;rintro _ _ _ s H _ Q _ U⟨e,d,L,t,p,v,w',z,ε,he,h9,hp,hm,hs,hd,hz,q⟩;let S:=U.Ti (j:=12) (!0);let O:=U.Ti (j:=13) (!0);let N:=U.Ti (j:=14) (!0);refine(_,(hJ (q_ (BJ (A1 (BN (ij ε) (!4) T.VA boot_any (mq (B4 ["_law_caught","_law_shape_here","_law_letters_here","_law_cell","_law_i","_law_j","_law_tail","_law_one"] ε (!0) (BQ (ry au S QE0)) (λcl C fp s' H'=>(AZ,(ry az O (q4 (Fe (f:="part") K ZD) Y'))))))))) Zj (ri)) (hJ (q_ (BJ (A1 (ry as N (AI QJK (Fe (f:="tails") K Y') ZO)))) Zj (ri)) (hJ (BC (z7 (Fe (f:="tails") K Y') (o5 E_ Zd c_)) (dI ε (Ev (As 4 a_M.nd) (Ev (As 5 a_M.nd) (Ev (As 6 a_M.nd) Jq))))) (hJ (n_ 7 a_M.nd (ry Z U (q4 (Fe (f:="part") K Y') (o5 DJ (z7 QJK QAr) QCQ)))) (h7 (ln (CG yg QIM (ry Z U (q4 (Fe (f:="part") K Y') (o5 DJ (z7 QJK QCC) QCQ))) QAq))))))),3);let o:=LE (Pt.parts_dep hm) hd;let⟨D,tl,us,ta,x1,x2,x3,x4,x5,x6,x7⟩:=h9;let fw:∀QDQ{R:VK},a_ H H'->R Z5 H'->ix K Q6 R Z6 H':=λs r=>(e,_,(d,μ,),9,s _ _ he,s _ _ x1,E.ec,E.xc,E.na1,1,r);let ft:∀QDQ{R:VK},a_ H H'->R (.ν tl) H'->ix K "tails" R Z6 H':=λs r=>(e,_,(d,μ,),9,s _ _ he,s _ _ x1,E.ec,E.xc,E.na2,1,r);let fp:∀QDQ{R:VK},a_ H H'->R w' H'->ix K "part" R Z6 H':=λs r=>(e,_,(d,μ,),9,s _ _ he,s _ _ x1,E.ec,E.xc,E.na3,1,r);dsimp only[Vo,aW,Nr,Nq,tB,jO,Al,Bc];refine rW (0,t,v,1,hs,hd,hz,λD1 xs H1 s1 ar hP=>?_);let W:=hP.Sr;rw[Pt.Vc]at W;let G:∀QDQ{t':Pt}{x:V},t'.WX≤12->ah H' t' x->Ij H' 13 x:=λh M=>(Ac (Bq M) (U4 h)).sm;refine Dg (a:=D1) (λR h=>h) Zv ar (λD' j ys H'=>∃bs:γ Ω,A3 (ys=bs.QY V.bl) (bs.β=j) (∀i,i<j->t.Td[i]?<*p->bs[i]?<*ο)) (nt (!6)) (λD' Y=>([],5,λi A=>QG A (XG i))) ?_ ?_
 .rintro D' j x ys H' R1 R2 Y M J ap⟨bs,ε,hb,n⟩k1 k2;let⟨x',t',y1,y2,y3⟩:=iK hP (m8 M).1;rw[M]at y1;cases y1;let I:=s1.ξ J;let y3:=y3.kp (a_.kp J);refine hG (0,fp I (0,9,G o QTX,G (LE (Pt.parts_dep (v7 y2)) hd) y3,λb an=>k1 _ H' ap (a_.US J Y) (bs++[b],by rw[Q2];rfl,by rw[u4,hb];rfl,λi A e=>?_)));rcases υ.lt_succ_iff_lt_or_eq.mp A with A|rfl
  .rw [QS (by rw[hb];show A)];show n i A e
  .rw [y2]at e;cases e;rw[<-hb,kL,an (J1 (J3 QTX y3) (Vd o))]
 rintro ld ys H2 aA s2 g2⟨bs,ε,hb,n⟩;let⟨i,A⟩:=RQ.mp hm;let X:bs.VA id=ο:=WZ.Sj (ο,v7 (n i (by rw[hP.Sr];show(m8 A).1) A),1);let k:=s1.ξ s2;refine(ld,bs,1,g2,3);rw[X];refine(0,ai ?_);refine(0,fw k (0,ft k (0,D,tl,L,us,ta,0,k _ _ x2,k _ _ x3,x4,x5,x6,x7.Ti (λ_ _=>k _ _) λ_ _ _ _ _ _ z=>z,λH3 s3=>(0,ai ?_))));let g:=k.ξ s3;refine(0,ft g (0,2,!0,λr r0 r1=>?_));let⟨r,ε⟩:=ψ.eq_ofNat_of_zero_le r0;let⟨a,b,B,l,ε⟩:=HE (r:=r) (!6);let⟨tp,u,e1,e2,e3,e4,e5⟩:=x7 a b B l (.RB (TL B l));let ag:=g _ _ e2;refine(z_ (g _ _ x3) (BO V.ν e1) (tp,0,pu.of ag,1,9,9,2,3));let ug:∀a,a<9->us[a]?<*us.Φ a []:=λa ha=>by rw[n0,h_ (!6)];rfl
 let ab:∀a,a<9->(tx (us.Φ a [])++tx u)=tx (us.Φ a []++u)/\Wd L (us.Φ a []++u)/\(us.Φ a []++u).β≤5000/\(tx (us.Φ a [])).β+(tx u).β≤Λ:=λa ha=>by
  let⟨w1,w2⟩:=x6 _ (v7 (ug a ha));show(CN _ _,d_T.Sj (w1,e3),by rw[u4];lia,by rw[hF,hF];show nt (!6))
 let⟨a1,a2,a3,a4⟩:=ab a (TL B l);let⟨b1,b2,b3,b4⟩:=ab b l;refine(0,fp g (0,fw g (0,z_ (g _ _ x2) (BO QIS (ug a (TL B l))) (0,2,a4,3))));rw[a1];refine(L,us.Φ a []++u,p,w',1,hp.kp (a_.kp g),o,a2,a3,λx H4 s4 M=>?_);let m:=g.ξ s4;refine(4,fp m (0,fw m (0,z_ (m _ _ x2) (BO QIS (ug b l)) (0,2,b4,3))));rw[b1];refine(L,us.Φ b []++u,p,w',1,hp.kp (a_.kp m),o,b2,b3,λy H5 s5 hy=>(1,3));let ne:x≠y:=λz=>e5 (by rw[<-M,<-hy,z]);let en:QMH=ο:=by rw[QN (λz=>ne (V.bl.Tx z))];rfl
 change Q (.bl QMH) H5;rw[en];show q H5 (m.ξ s5)
def c_j:s_ ["_law_script","_law_letters_here","_law_number","_law_shape_here","_law_words","_law_sign","_law_pattern","_law_text","_law_told","_law_some","_law_machine","_law_caught","_law_word_here"] ["_law_script"] (hY dA):=v5
def HG(F:so K "law" "law" dA f fd)ZB(cA:∀p∈ts,∃c,(c,p.1,)∈VI)(PK:fD P w K mg ς c cP)(TK:yt P w K mg ς c)(cN:Df P w K mg ς "_law_letters" 1 ["_law_cell"] sp_letters)(a8:Df P w K mg ς "_law_cell_at" 1 ["_law_script","_law_k"] (n9 K))(b6:Df P w K mg ς "_law_shape" 2 ["_law_cells","_law_letters_here"] (db K))(cX:Df P w K mg ς "_law_word" 1 ["_law_letters_here","_law_cells"] (n8 K))(c4:Df P w K mg ς "_law_made" 14 ["_law_shape_here"] (Kf c 12))(cV:Df P w K mg ς "_law_asked" 24 ["_law_pattern","_law_letters_here"] (df c UI ts))(cO:Df P w K mg ς "_law_is_machine" 1 ["_law_found","_law_letters_here"] sp_ismach)(c3:Df P w K mg ς "_law_is_least" 1 ["_law_machine"] sp_isleast)(cS:Df P w K mg ς "_law_takes_as_told" 25 ["_law_machine","_law_shape_here","_law_word_here"] sp_told36)(cU:Df P w K mg ς "_law_refused_well" 26 ["_law_caught","_law_shape_here","_law_letters_here","_law_cell"] (gC UI))(c5:Df P w K mg ς "_law_same" 13 ["_law_found","_law_due"] (HF 13)):aa P w K mg ς na 27 f fd ["_law_script"] (iA K VI):=by
 refine F.okA c_j ?_;rintro _ _ _ s H _ Q _ hr⟨a,ns,ε,hS,b0,cD,kq⟩;let⟨fs,dT,mS,bS,SH⟩:=PK.sh;let⟨fT,b4,mT,bT,XT⟩:=TK.tx;let S:=hr.Ti (j:=1) (!0);let bs:=hr.Ti (j:=2) (!0);let bP:=hr.Ti (j:=12) (!0);let bM:=hr.Ti (j:=13) (!0);let bt:=hr.Ti (j:=14) (!0);let bo:=hr.Ti (j:=24) (!0);let ap:am (2*12+1) _:=hr.Ti (j:=25) (!0);refine(_,(hJ (n_ 1 c_j.nd (ry cN S (mq QFs))) (hJ (n_ 2 c_j.nd QFs) (hJ QBy (EA (q_ QIn (h7 (n_ 3 c_j.nd (A' (q4 u5 Zd)))) (ri)) (EA (q_ QIn (hJ QBy (h7 (n_ 3 c_j.nd (A' (AI u5 Zd Zd))))) (ri)) (hJ (n_ 4 c_j.nd (Bb (mq (ry cX S (q4 ZD (Ee G' Y' QQ1 QQ1)))))) (hJ (A_ R6.TW ε (Bg ZD) (As 5 c_j.nd) (h7 (n_ 4 c_j.nd (o5 FD QAr (B4 ["_law_script","_law_letters_here","_law_number","_law_shape_here","_law_words","_law_sign","_law_pattern","_law_text","_law_told","_law_some","_law_machine","_law_caught","_law_word_here"] ε (!0) (Bg ZD) (λcl C fp s' H'=>(AZ,o5 DJ QCQ Y'))))))) (hJ (n_ 6 c_j.nd (ry c4 bt (mq Zd))) (hJ (q_ (BJ (A1 (BN (vx (D:=cP)) (!4) T.UY boot_isinstance (q4 QCQ (E7 (v:=.ν cP) (!4) PK.kP ε))))) Zj (ri)) (hJ (n_ 7 c_j.nd QAm) (hJ (n_ 8 c_j.nd QGN) (hJ (A_ R6.TW ε (cr (Bb (AI ZD (wP ZD (CJ QB3)) ZD))) (As 9 c_j.nd) (hJ (BC (ry cV bo (q4 QCQ (pv 9))) (dI ε (Ev (As 10 c_j.nd) (Ev (As 11 c_j.nd) Jq)))) (EA (q_ (AT mJ QJD Gr QAq) (hJ (q_ ((Bx (BJ (A1 (ry cO S (q4 QJE (pv 9))))) (Bx (BJ (A1 (ry c3 S (mq QJE)))) (C4 (AT b9 (Ar T.Sr (o_ 10)) c_ QAq)))).pt) Zj (ri)) (h7 (A_ R6.TW ε (cr QAr) (As 12 c_j.nd) (h7 (q_ (BJ (A1 (ry cS ap (AI QJE Zd (pv 12))))) Zj (ri)))))) (h7 (q_ (BJ (A1 (ry cU hr (By QJD (AI Zd (pv 9) QFs))))) Zj (ri)))) (h7 (C6 (EQ (pv 8) QJE)))))) (hJ (q_ ((Bx (AT (td hr.S3) QHD QHD QAq) (C4 (D0 QSE QSE))).pt) Zj (ri)) (h7 (ln (Fx (ry c5 bM (q4 (GH QCQ (λk=>(PK.pc k).cl) mS (SH 12) bP bS BV) Zd)) (Fv (CG Ed QAm QIM QAq)))))))))))))))))),3);let hT:ci ts H:=λp hp=>by
  let⟨c,hc⟩:=cA p hp;show(#[],cD (c,p.1,) hc,jL,λq _=>.RB ε)
 let l1:1≤Λ:=nt (by change 1≤16777216;decide);let l2:2≤Λ:=nt (by change 2≤16777216;decide);let l3:3≤Λ:=nt (by change 3≤16777216;decide);let sl:∀QDQ{p:θ}{lo hi:ψ},lb K (L2.QO H' p (.QM (Af QAo (δ lo) (δ hi)))) p ((gn ns (δ lo) (δ hi)).QY V.QB):=λ{H' p lo hi}=>by
  rw[<-qV];show lb.of SO
 refine(0,a,ns,(0),1,hS,!0,λz0=>(z0,1,λL hL=>?_));refine(0,a,ns,(2),1,hS,!0,λzn=>?_);refine(4,0,2,!0,λr r0 r1=>(2,0,a,0,hS,λp0 a4=>(0,p0,gn ns (δ 3) (δ (4+r)),L,1,hL,sl,pj Gn (F6 r0) (!6),λv1 t1 H1 s1 bi ds dS dn=>?_)));let s1:=(a_.QO a4).ξ s1;refine⟨λA H'=>∃(v:V)(t:Pt),A=[δ ZW,δ QAW,δ QKZ,δ v,ζ,ζ,ζ,ζ,ζ,ζ,ζ,ζ,ζ]/\a_ H H'/\ah H' t v/\t.WX≤11/\t.sz≤50,?_,?_⟩
 .refine (0,2,QQ2,2,!0,6,aO (λ_=>(0,l2,λb hb=>?_)) (λ_=>(v1,t1,1,s1,bi,!6,!6)));show(.ν b,.Uo .TC t1,1,s1.ξ (a_.QO hb),(b,v1,1,SO,bi.kp QIW),by change t1.WX+1≤11;lia,by change t1.sz+1≤50;lia)
 rintro dk H2⟨v2,t2,ε,s2,cx,cB,cw⟩;refine⟨λA H'=>∃(v:V)(t:Pt),A=[δ ZW,δ QAW,δ QKZ,δ v,ζ,ζ,ζ,ζ,ζ,ζ,ζ,ζ,ζ]/\a_ H H'/\ah H' t v/\t.WX≤11/\t.sz≤50,?_,?_⟩
 .refine (0,2,QQ2,2,!0,6,aO QF8 (λ_=>(v2,t2,1,s2,cx,cB,cw)));refine(4,0,2,!0,λr r0 r1=>(2,0,a,0,s2.V8 hS,λp0 a4=>(0,p0,gn ns (δ 3) (δ (4+r)),L,1,hL,sl,pj Gn (F6 r0) (!6),λv3 t3 H3 s3 bg dr dv dm=>?_)));let s3:=s2.ξ ((a_.QO a4).ξ s3);show(4,l3,λb hb=>(.ν b,.Vb .XW t3 t3,1,s3.ξ (a_.QO hb),(b,v3,v3,1,SO,bg.kp QIW,bg.kp QIW),by change max t3.WX t3.WX+1≤11;lia,by change t3.sz+t3.sz+1≤50;lia))
 rintro de H3⟨v,t,ε,s3,Z,hd,hz⟩;refine(4,4,a,0,s3.V8 hS,λp hp=>(L,p,gn ns (δ 13) (δ 49),1,hL,sl,LE (NC _ _ _) b0,λw H4 dp hw s4=>(l1,λO U=>?_)));let dc:w.β≤63:=by have:=NC ns (δ 13) (δ 49);lia
 let a0:=((a_.QO hp).ξ s4).ξ (a_.QO (o:=.QM [V.Qn QNL]) U);let bd:L2.QO H4 O QUI O<*.QM (ms [w]):=SO;generalize L2.QO H4 O QUI=H5 at a0 bd;let s5:=s3.ξ a0;let Z:=Z.kp (a_.kp a0);let dt:=hL.hi;let cv:(tx L).β≤Λ:=nt (by rw[hF];show C0 dt);refine(4,oX (x:=tx L) (λi σ H'=>E3 λ(O:θ)(us:LL)(s5:χ V)=>A5 (σ=[δ ZW,δ QAW,δ QKZ,δ v,δ QNj,s5,ζ,ζ,ζ,ζ,ζ,ζ,ζ]) (a_ H5 H') (H' O<*.QM (ms us)) (∀u∈us,Wd L u/\u.β≤100) (us.β≤1+3*i)) (O,[w],ζ,1,a_.YS _,bd,λu hu=>by rw[wh hu];show(hw,!6),QD _) ?_ ?_)
 .rintro i c σ H6 hc⟨O,us,as,ε,sm,U,a2,bk⟩;rw[B8]at hc;let hi:i<L.β:=(m8 hc).1;let cC:=v7 hc;refine(0,3);dsimp only[Al,tNil];refine Mo (j:=1) (x:=tx L) ε (λD i ys H'=>ys=ms ((L.Rp i).QY λd=>[c,d])) cv QD5 ?_ ?_
  .rintro D j x ys H' R1 R2 hD I az aH ε k1 k2;rw[nq]at I;let⟨d,aB,ε⟩:=AS I;rw[Da]at aB;refine hG (4,2,l2,k1 _ H' aH (a_.US az hD) ?_);rw[Bu aB,Q2];unfold ms;rw[Q2];show R7 (λz=>_++[V.Qn z]) (CN [c] [d])
  .rintro D ys H' hD az aH ε;rw[hF,Uh]at aH;refine(O,D,2,az _ _ U,aH,nt ?_,λpp a3=>?_)
   .unfold ms;rw[j',j',j'];lia
   refine(pp,us++L.QY (λd=>[c,d]),0,(sm.ξ az).ξ (a_.QO a3),3,λu hu=>?_,by rw[u4,j'];lia)
   .rw [SO];unfold ms;rw[Q2]
   .rcases Rr.mp hu with z|z
    .exact a2 u z
    .obtain ⟨d,aB,ε⟩:=Su.mp z;refine(λx I=>?_,by change 2≤100;decide);rcases QW.mp I with ε|I
     .exact cC
     .rw [wh I];show aB
 rintro dd H6⟨O,us,as,ε,s6,U,a2,bk⟩;rw[hF]at bk;let Z:=Z.kp (a_.kp s6);refine(0,t,v,1,Z,CZ hd,CZ hd,λvp H7 s7 hp=>?_);let⟨au,b5,b3,ε,a7,bU⟩:=hp.XO;refine(10,ak.XO a7 (PK.pc t.kd).cl (PK.pc t.kd).ha (PK.pc t.kd).hn (PK.pc t.kd).htk (PK.pc t.kd).hm,(PK.pc t.kd).ki,0,ai ?_);let a9:∀QDQ{R:VK},Bd c H' t QNk->(∀cd,a_ H' cd->R QCR cd)->nY c "text" (λ_=>dg c 12) E0 R QNk H':=λh r=>by
  let⟨a',dx,cM,e,g1,g2⟩:=h.ins' "text" (!3);cases e;show(t.kd,au,dx,cM,1,g1,g2,au,t,1,h,CZ hd,Ga hz,r)
 refine(0,a9 hp λH8 s8=>(RP _,λD hD=>?_));let k8:KT ts H H8:=KT.of (((s5.ξ s6).ξ s7).ξ s8);let hA:=k8.tb hT;let hp:=hp.kp (a_.kp s8);let Z:=Z.kp (a_.kp (s7.ξ s8));let U:=(s7.ξ s8) _ _ U;let cH:=yf k8.sm hS;refine(4,4,L,5,C0 dt,0,l3,λlm aA=>?_);let sD:=a_.QO (o:=.QM []) hD;let b2:L2.QO QFk lm QAi D<*.QM []:=yl SO aA;let k9:KT ts H8 (L2.QO QFk lm QAi):=KT.of (sD.ξ (a_.QO aA));let a5:L2.QO QFk lm QAi lm<*.QM [.Qn ZU,.Qn QLQ,.Qn ZU]:=SO;let cg:lm≠D:=λz=>by rw[z,SO]at aA;cases aA
 generalize L2.QO QFk lm QAi=H9 at b2 k9 a5;let Lr:BL L.Ru:=hL.rev;let bb:∀Zi(x:V),[V.Qn ZU,.Qn QLQ,.Qn ZU][i]?<*x->∃Li,x=.Qn (tx Li)/\BL Li/\(∀c,c∈L↔c∈Li)/\Li=(if i=1 then L.Ru else L):=λi x I=>by
  match i with
  |0=>cases I;show QPR
  |1=>cases I;show(L.Ru,1,Lr,λ_=>WJ.QU,1)
  |2=>cases I;show QPR
  |n+3=>simp at I
 refine(lm,1,(_,lb.of a5),eS (K:=K) (a:=lm) (xs:=[.Qn ZU,.Qn QLQ,.Qn ZU]) (λi A H'=>E5 λ(tv:γ V)(s9:χ V)(a1:χ V)(N:χ V)(G:χ V)=>A6 (A=[δ ZW,δ QAW,δ QKZ,δ v,δ QNj,as,δ QNk,δ QCR,δ Z5,s9,a1,N,G]) (KT ts H8 H') (H' lm<*.QM [.Qn ZU,.Qn QLQ,.Qn ZU]) (H' D<*.QM tv) (tv.β=i) QC8) ([],ζ,ζ,ζ,ζ,1,k9,a5,b2,1,λj x e=>by simp at e) ?_ ?_ ?_)
 .rintro i A H' hi⟨tv,_,_,_,_,_,_,h,_⟩;show lb.of h
 .rintro i x A M I⟨tv,s9,a1,N,G,ε,Y,aU,ar,an,ab⟩;let⟨Li,ε,cI,bm,cK⟩:=bb i x I;refine(4,au,t,Li,1,hp.kt Y,CZ hd,cI,Y.tb hA,λp v3 v4 c8 tj a3=>(p,0,pu.of a3,1,9,2,3));let⟨ag,tj⟩:=tj;let aV:=ag.sm.QM ar;let aT:=ag.sm.QM aU;let kk:=Y.ξ ag;refine⟨λaN H'=>∃G,aN=[δ ZW,δ QAW,δ QKZ,δ v,δ QNj,as,δ QNk,δ QCR,δ Z5,δ (.Qn (tx Li)),δ v3,δ v4,G]/\KT ts H8 H'/\H' lm=δ QAi/\H' D=δ (.QM tv)/\QC8/\Dp H' Li t v3,?_,?_⟩
  .rcases tj with⟨rfl,e,d,pt,pw,ε,he,hm,hs,p9⟩|⟨rfl,f,W,B,ε,hM,⟨vv,cn⟩,bV,sml⟩
   .refine (0,6,ai ?_);refine(4,4,a,ns,(1),1,yf kk.sm cH,!0,λz1=>(e,d,Li,t,pt,v,pw,z1,1,he,p9,hs,hm,Z.kt kk,CZ hd,Ga hz,λaM y=>(0,ai ?_)));show(0,kk.ξ (KT.of y),y _ _ aT,y _ _ aV,λj x e=>(ab j x e).kt (ag.ξ (KT.of y)),.RB (1,pt,hm,λL' W B VJ m l g=>p9.no VJ m l g))
   .refine (0,6,ay ?_);refine(4,f,Li,W,B,1,hM.mt,hM.ma,λaM y=>(0,ai (0,f,Li,W,B,vv,1,hM.mt.SL y,cn,hM.le,λc7 cf=>(0,ai ?_))));let X:=y.ξ cf;let⟨wy,mk,da,e1,e2,e3,e4,e5⟩:=id (hM.mt.SL X);refine(k_ e1 aq (wy,0,.RF (pu.of e2),2,0,ac (by rw[j',e4];have:=hM.le;lia) ?_));let cp:=kk.ξ (KT.of (ts:=ts) X);let aS:=cp.sm.QM U;refine(0,O,1,(_,lb.of aS),eS (K:=K) (a:=O) (xs:=ms us) (λi A H'=>∃G,A=[δ ZW,δ QAW,δ QKZ,δ v,δ QNj,as,δ QNk,δ QCR,δ Z5,δ (.Qn (tx Li)),δ Ze,δ .UT,G]/\a_ c7 H') (0,a_.YS _) ?_ ?_ ?_)
    .rintro i A H' hi⟨_,_,s⟩;show lb.of (s _ _ aS)
    .rintro i x A H14 I⟨y,ε,s14⟩;rw[ms,nq]at I;let⟨u,hu,ε⟩:=AS I;let⟨u1,u2⟩:=a2 u (v7 hu);let E:=X.ξ s14;show(4,0,f,Li,u,W,B,t,v,1,hM.mt.SL E,hM.ma,bV,(Z.kt kk).kp (a_.kp E),CZ hd,λc hc=>(bm c).mp (u1 c hc),u2,λd0 ce=>(0,ai (0,s14.ξ ce)))
    .rintro A H14⟨y,ε,s14⟩;let E:=X.ξ s14;show(0,kk.ξ (KT.of E),E _ _ aT,E _ _ aV,λj x e=>(ab j x e).kt (ag.ξ (KT.of E)),.RF (f,W,B,1,hM.kt (KT.of (ts:=ts) E),(vv,cn),bV,sml))
  rintro aN aM⟨y,ε,ct,b1,J,a6,en⟩;refine(0,.RB (1,_,lb.of J),0,D,2,J,EL ?_,tv++[v3],7,9,ct.US hD J,by rw[b_ cg];show b1,SO,by rw[u4,an];rfl,λj x e=>?_)
  .rw [an];have:=(m8 I).1;let h3:[V.Qn ZU,.Qn QLQ,.Qn ZU].β=3:=ε;lia
  rcases Ej e with z|⟨rfl,ε⟩
  .exact (a6 j x z).US J
  .rw [an,<-cK];show en.US J
 rintro A M⟨tv,s9,a1,N,G,ε,Y,aU,ar,an,ab⟩;let⟨x0,x1,x2,ε⟩:=L1 an;let e0:Dp M L t x0:=ab 0 x0 ε;let e1:Dp M L.Ru t x1:=ab 1 x1 ε;let e2:Dp M L t x2:=ab 2 x2 ε;let aC:lb K M D [x0,x1,x2]:=lb.of ar;let ch:(x2=.UT/\x0=.UT/\ο=ο)\/(3≤60/\(∃p q xs ys,x2=.ν p/\x0=.ν q/\M p=δ QCY/\M q<*.RJ ys)/\QT M 3 x2 x0 ο):=by
  rcases e2.both (λ_=>Iff.rfl) e0 with⟨rfl,ε⟩|⟨f,W,B,g,W',B',ε,ε,m,m',⟨v1,c1⟩,⟨v2,c2⟩,g1,g2⟩
  .exact .RB (5,1)
  .obtain ⟨rfl,ε⟩:=xt c1 c2 (g1.ξ g2.QU);let⟨_,_,_,y1,_⟩:=id m.mt;let⟨_,_,_,y2,_⟩:=id m'.mt;show .RF (!0,(f,g,2,y1,y2),aE.qt (m5 m.mt m'.mt m.ma))
 let co:decide (x1=V.UT)=decide (x0=V.UT):=by
  rcases e1.both (λ_=>WJ) e0 with⟨rfl,ε⟩|⟨f,W,B,g,W',B',ε,ε,_⟩
  .rfl
  .rfl
 refine(0,D,_,2,aC,Av (j:=2) ε,0,D,_,2,aC,Av (j:=0) ε,(3),ο,ch,0,ai ?_);refine(0,D,_,2,aC,Av (j:=1) ε,6,D,_,2,aC,Av (j:=0) ε,5,0,CM (by rw[co]) ?_);let hp:=hp.kt Y;let Z:=Z.kt Y;let⟨dV,b5,b3,e,a7,bU⟩:=hp.XO;cases e;refine(0,t.kd,au,b5,b3,1,a7,bU,au,t,1,hp,1,CZ hd,λv8 c8 N bf=>(0,9,(Ac (Bq bf) (Jf hd)).sm,(Ac (Bq QUJ) (Jf hd)).sm,λb hb=>?_));rw[hb (J1 (J3 bf QUJ) (!6))];refine(0,ay (0,a9 (hp.kp (a_.kp N)) λaM G=>(0,1,3)));change Q (.bl (decide (V.Qn (tx (aK t))=V.Qn (tx (aK t))))) aM;rw[Qr ε];show kq _
end
def HH{l:Ξ.W.OpenLaw}QE8{K K0:Qt}{h:Qx}QEN{fa bP bM bt bs bo bm bl bk P0 P1 P2 P3 P4 P5 P6 P7:θ}(hK:K=B3 [P0,P1,P2,P3,P4,P5,P6,P7] K0)(eq:[P0,P1,P2,P3,P4,P5,P6,P7].Rq)QOz(G:h.Ns Q_ mg)(er:mg "law"<*.ν fa){ce:θ}(nA_:W6 K Q_ "RoomError"<*δ (.ν ce)){E:θ}(nH_:W6 K Q_ "TooMany"<*δ QJL){a fZ U i L j M d z r Q b y g C o N f D u R x S t P an B J:θ}(n_Pattern:W6 K Q_ "Pattern"<*δ ZW)(n_Never:W6 K Q_ "Never"<*δ (.ν i))(n_Empty:W6 K Q_ "Empty"<*δ QKs)(n_AnySign:W6 K Q_ "AnySign"<*δ QCk)(n_Sign:W6 K Q_ "Sign"<*δ QQo)(n_Outside:W6 K Q_ "Outside"<*δ QCa)(n_Turned:W6 K Q_ "Turned"<*δ (.ν g))(n_Again:W6 K Q_ "Again"<*δ (.ν o))(n_Either:W6 K Q_ "Either"<*δ Ze)(n_Less:W6 K Q_ "Less"<*δ (.ν u))(n_Both:W6 K Q_ "Both"<*δ QBX)(n_Then:W6 K Q_ "Then"<*δ QBZ)(y_Never:Ξ.W.TU K0 (.ν i) "shape"<*δ (.ν L))(y_Empty:Ξ.W.TU K0 QKs "shape"<*δ (.ν M))(y_AnySign:Ξ.W.TU K0 QCk "shape"<*δ QEw)(y_Sign:Ξ.W.TU K0 QQo "shape"<*δ (.ν Q))(y_Outside:Ξ.W.TU K0 QCa "shape"<*δ QP4)(y_Turned:Ξ.W.TU K0 (.ν g) "shape"<*δ Zq)(y_Again:Ξ.W.TU K0 (.ν o) "shape"<*δ (.ν N))(y_Either:Ξ.W.TU K0 Ze "shape"<*δ Z5)(y_Less:Ξ.W.TU K0 (.ν u) "shape"<*δ QQO)(y_Both:Ξ.W.TU K0 QBX "shape"<*δ QGB)(y_Then:Ξ.W.TU K0 QBZ "shape"<*δ (.ν P))(yi_Sign:Ξ.W.TU K0 QQo "__init__"<*δ (.ν an))(yi_Around:Ξ.W.TU K0 QCa "__init__"<*δ (.ν B))(yi_Pair:Ξ.W.TU K0 Ze "__init__"<*δ (.ν J))(yM:Ξ.W.TU K0 (.ν i) "machine"<*δ (.ν fZ))(yT:Ξ.W.TU K0 (.ν i) "text"<*δ (.ν U))(mt_Never:aR K i "text" U)(mt_Empty:aR K j "text" U)(mt_AnySign:aR K d "text" U)(mt_Sign:aR K r "text" U)(mt_Outside:aR K b "text" U)(mt_Turned:aR K g "text" U)(mt_Again:aR K o "text" U)(mt_Either:aR K f "text" U)(mt_Less:aR K u "text" U)(mt_Both:aR K x "text" U)(mt_Then:aR K t "text" U)(b_Never:fF K i a L fZ)(b_Empty:fF K j a M fZ)(b_AnySign:fF K d a z fZ)(b_Sign:fF K r a Q fZ)(b_Outside:fF K b a y fZ)(b_Turned:fF K g a C fZ)(b_Again:fF K o a N fZ)(b_Either:fF K f a D fZ)(b_Less:fF K u a R fZ)(b_Both:fF K x a S fZ)(b_Then:fF K t a P fZ)(q_Never:J0 K i)(q_Empty:J0 K j)(q_AnySign:J0 K d)(q_Sign:Mk K r an)(q_Outside:Mk K b B)(q_Turned:Mk K g B)(q_Again:Mk K o B)(q_Either:Mk K f J)(q_Less:Mk K u J)(q_Both:Mk K x J)(q_Then:Mk K t J)(s_Never:CB K "shape" "Never.shape" oQ L)(s_Empty:CB K "shape" "Empty.shape" oR M)(s_AnySign:CB K "shape" "AnySign.shape" hZ z)(s_Sign:CB K "shape" "Sign.shape" uO Q)(s_Outside:CB K "shape" "Outside.shape" hX y)(s_Turned:CB K "shape" "Turned.shape" kJ C)(s_Again:CB K "shape" "Again.shape" oU N)(s_Either:CB K "shape" "Either.shape" kK D)(s_Less:CB K "shape" "Less.shape" uQ R)(s_Both:CB K "shape" "Both.shape" uR S)(s_Then:CB K "shape" "Then.shape" uN P)(si_Sign:CB K "__init__" "Sign.__init__" nn an)(si_Around:CB K "__init__" "Around.__init__" eI B)(si_Pair:CB K "__init__" "Pair.__init__" nu J)(sM:CB K "machine" "Pattern.machine" Nl fZ)(sT:CB K "text" "Pattern.text" nv U){d2 d3:θ}{e2 e3:Ry DictEntry}{n2 n3:υ}(rn2:W6 K Q_ "SIGNS"<*δ (.ν d2))(rl2:K.ρ d2<*{SN:=.QH "dict",RD:=.Ux e2 n2})(re2:gq w e2.Qq bZ)(rs2:(d2==S4)=μ)(rn3:W6 K Q_ "STRENGTHS"<*δ (.ν d3))(rl3:K.ρ d3<*{SN:=.QH "dict",RD:=.Ux e3 n3})(re3:gq w e3.Qq gm)(rs3:(d3==S4)=μ)(eH_:fE K E)(mH_:exmOne K QJL (.ν ce)<*ο)(iHH_:UJ K QJL QJL<*ο)(vH_:UJ K QJL (.QH "ValueError")<*ο){fI:θ}{ed go:χ θ}{d1:Ry QKu}{ej eo eO ea gi:η}{dr:θ}{cW:θ}(nW:W6 K Q_ "Walk"<*δ (.ν cW))(hI0:Ξ.W.TU K0 (.ν cW) "__init__"<*δ (.ν fI))(SN:CI K cW)(mk:Mk K cW fI)(na1:Ae K cW "letters")(na2:Ae K cW "things")(na3:Ae K cW "words")(na4:Ae K cW "ways")(na5:Ae K cW "marks")(lI:K.ρ fI<*(ej,ed,.VL (U9 "__init__" "Walk.__init__" (t_ Il) (n' Il) (hY Il) .ζ eo eO ea go (.ν dr) gi),d1))(cI:UN K (.ν dr) "Walk.__init__"=ο){fX:θ}{eb gk:χ θ}{dV:Ry QKu}{eg el eH d5 gd:η}{dn:θ}(hX0:Ξ.W.TU K0 QJL "__init__"<*δ (.ν fX))(xo:Ce K E fX)(xc:lG K E)(xn1:Ae K E "words")(xn2:Ae K E "tails")(xn3:Ae K E "part")(xb:vV K ce)(xf:isFn K (.ν fX)=ο)(xe:exmOne K QJL QJL<*ο)(lX:K.ρ fX<*(eg,eb,.VL (U9 "__init__" "TooMany.__init__" (t_ GK) (n' GK) (hY GK) .ζ el eH d5 gk (.ν dn) gd),dV))(cX:UN K (.ν dn) "TooMany.__init__"=ο){tD:θ}{ek:η}{ee:χ θ}{d4:Ry QKu}{nD:υ}{fV:θ}{ec gl:χ θ}{d0:Ry QKu}{ei en eN d6 ge:η}{dp:θ}(aV:W6 K Q_ "walked"<*δ (.ν fV))(lV:K.ρ fV<*(ei,ec,.VL (U9 "walked" "walked" QLF QLG QJC QKX en eN d6 gl (.ν dp) ge),d0))(cV:UN K (.ν dp) "walked"=ο)(lD:K.ρ tD<*(ek,ee,.V8 #[.ζ] nD,d4))(tM:FR K "walked_machine" EX .ζ bP)(tA:FR K "paired" DC .ζ bM)(tB:FR K "either" Ff .ζ bt)(tC:FR K "both" Fh .ζ bs)(tS:FR K "less" Fi .ζ bo)(tH:FR K "then" H.x_ .ζ bm)(tN:FR K "again" A.u_ .ζ bl)(tU:FR K "walked_turned" Tu.kb .ζ bk)(l0:Aa K "numbered" MG)(l1:Aa K "many_lots" MH)(l2:Aa K "rounds_of" MI)(l3:Aa K "first_rooms" MJ)(l4:Aa K "parting_word" ML)(l5:Aa K "folded" dC)(l6:Aa K "tails_of" MM)(l7:Aa K "told" mz)(l8:Aa K "need_same_letters" MN)(l9:Aa K "least" iF)(l10:Aa K "lots_after" MO)(l11:Aa K "lot_of" dz)(l12:Aa K "has_marked" MQ)(l13:Aa K "rooms_into" MR)(l14:Aa K "outside" MT)(l15:Aa K "turned" dy)(l16:Aa K "short_machine" MV)(l17:Aa K "piece_machine" MW)(l18:Aa K "joined" dB)(l19:Aa K "machine_of" MX)(l20:Aa K "is_letters" MY)(l21:Aa K "need_letters" MZ)(l22:Aa K "text_of" K3)(l23:Aa K "text_within" K4)(l24:Aa K "_law_cell_at" M0)(l25:Aa K "_law_letters" M1)(l26:Aa K "_law_word" M3)(l27:Aa K "_law_pushed" M4)(l28:Aa K "_law_shape" M5)(l29:Aa K "_law_made" M6)(l30:Aa K "_law_leaf" M7)(l31:Aa K "_law_behind" M8)(l32:Aa K "_law_pieces" M9)(l33:Aa K "_law_from_behind" K5)(l34:Aa K "_law_spans" M_)(l35:Aa K "_law_has" M')(l36:Aa K "_law_same" Na)(l37:Aa K "_law_is_word" Nb)(l38:Aa K "_law_is_machine" Nc)(l39:Aa K "_law_parts" Nd)(l40:Aa K "_law_is_least" Nf)(l41:Aa K "_law_takes_as_told" Ng)(l42:Aa K "_law_witness" Nh)(l43:Aa K "_law_asked" Ni)(l44:Aa K "_law_refused_well" Nj){cn:θ}(t45:FR K "law" dA .ζ cn)(zb:N0 K ["len","range","isinstance","int","bool","tuple","list","str","zip","enumerate","reversed","max","all","any","set","sorted"]){bU:Tok}(z_most:W6 K Q_ "MOST_ROOMS"<*δ (.QB 8 bU))
  :∃fd:TQ,(∀QBP(v:η),BindsTo s fd ([v],[]) [("_law_script",v,)])/\∀ς:Qx,K.In ς->ς.Ns Q_ mg->CP ς mg->(∀q∈[QSF,QSG,QSH,QSI,QSJ,QSK,QSL,QSM],UR ς q.1 q.2)->aa l.BT w K mg ς na 27 fa fd ["_law_script"] (iA K [QSF,QSG,QSH,QSI,QSJ,QSK,QSL,QSM]):=by
 let⟨fM,_,_,_,_,_,_,_,_,aM,lM,cM⟩:=tM;let⟨fA,_,_,_,_,_,_,_,_,aA,lA,cA⟩:=tA;let⟨fB,_,_,_,_,_,_,_,_,aB,lB,cB⟩:=tB;let⟨fC,_,_,_,_,_,_,_,_,aC,lC,cC⟩:=tC;let⟨fS,_,_,_,_,_,_,_,_,aS,lS,cS⟩:=tS;let⟨fH,_,_,_,_,_,_,_,_,aH,lH,cH⟩:=tH;let⟨fN,_,_,_,_,_,_,_,_,aN,lN,cN⟩:=tN;let⟨fU,_,_,_,_,_,_,_,_,aU,lU,cU⟩:=tU;let⟨g1,gV,gT,ds,gS,c4,c5,c2,dk,gs,c3,gj⟩:=t45;let⟨Z,a7,b6,cv,cf,a5,bT,co,Y,O,a6,ct,cx,cw,cp,b5,_⟩:=zb;let e:=er.QU.ξ (T0 X G gs);cases e;let T:VR K mg ce E:=(T0 X G nA_,T0 X G nH_,eH_,mH_,iHH_,vH_,Rm X G Z,Rm X G a7,Rm X G b6,Rm X G cv,Rm X G cf,Rm X G a5,Rm X G bT,Rm X G co,Rm X G Y,Rm X G O,Rm X G a6,Rm X G ct,Rm X G cx,Rm X G cw,Rm X G cp,Rm X G b5,Rm X G O,(bU,T0 X G z_most));let gz:=DO (st:=dA) c3 gj (Bp c3);let WT:=GJ.mk (T0 X G nW) SN mk na1 na2 na3 na4 na5 (DO (st:=Il) lI cI (Bp lI));let TM:GL K mg E ce fX _:=(T0 X G nH_,T0 X G nA_,xo,xc,xn1,xn2,xn3,xb,xf,xe,eH_,mH_,DO (st:=GK) lX cX (Bp lX));let WK:Kb K cW:=(SN,na1,na4,na5);let DL:∀ς:Qx,Df l.BT w K mg ς "lots_after" 1 ["machine","rooms"] Wc:=λς=>JZ X G l10 λ_ _ _ F=>(AO F,N1 F T);let DH:∀ς:Qx,Df l.BT w K mg ς "has_marked" 1 ["machine","rooms"] sp_hasm:=λς=>JZ X G l12 λ_ _ _ F=>(AO F,N2 F T);let DT:∀ς:Qx,Df l.BT w K mg ς "lot_of" 1 ["rooms"] QR7:=λς=>JZ X G l11 λ_ _ _ F=>(AA F,gL F T);let DR:∀ς:Qx,Df l.BT w K mg ς "rooms_into" 1 ["machine","place","rooms"] Tu.sp_rinto:=λς=>JZ X G l13 λ_ _ _ F=>(Fc F,N3 F T);let⟨aT,bf⟩:=s_Never;let⟨a0,bg⟩:=s_Empty;let⟨ag,au⟩:=s_AnySign;let⟨a9,b2⟩:=s_Sign;let⟨ab,as⟩:=s_Outside;let⟨ap,a3⟩:=s_Turned;let⟨a1,bi⟩:=s_Again;let⟨ar,a4⟩:=s_Either;let⟨bb,b3⟩:=s_Less;let⟨bd,b4⟩:=s_Both;let⟨a8,b1⟩:=s_Then;let⟨cP,bV⟩:=si_Sign;let⟨cl,a2⟩:=si_Around;let⟨c1,b0⟩:=si_Pair;let⟨eC,dx⟩:=sM;let⟨eA,dv⟩:=sT;refine(U9 "law" "law" (t_ dA) (n' dA) (hY dA) .ζ c4 c5 c2 ds (.ν cn) dk,λs v=>.of_eq ε,λς _ _ hB hC=>?_);let PC:∀k,vP K (QAu k) a:=Hs b_Never.pc b_Empty.pc b_AnySign.pc b_Sign.pc b_Outside.pc b_Turned.pc b_Again.pc b_Either.pc b_Less.pc b_Both.pc b_Then.pc;let mS:∀k,aR K (QAu k) "shape" (QLj k):=Hs b_Never.me b_Empty.me b_AnySign.me b_Sign.me b_Outside.me b_Turned.me b_Again.me b_Either.me b_Less.me b_Both.me b_Then.me;let bS:∀k,ym K (QG0 k) ["self"] []:=Hs (AA bf) (AA bg) (AA au) (AA b2) (AA as) (AA a3) (AA bi) (AA a4) (AA b3) (AA b4) (AA b1);let mM:∀k,aR K (QAu k) "machine" fZ:=Hs b_Never.mm b_Empty.mm b_AnySign.mm b_Sign.mm b_Outside.mm b_Turned.mm b_Again.mm b_Either.mm b_Less.mm b_Both.mm b_Then.mm;let PK:fD l.BT w K mg ς QAu a:=(T0 X G n_Pattern,Hs (T0 X G n_Never) (T0 X G n_Empty) (T0 X G n_AnySign) (T0 X G n_Sign) (T0 X G n_Outside) (T0 X G n_Turned) (T0 X G n_Again) (T0 X G n_Either) (T0 X G n_Less) (T0 X G n_Both) (T0 X G n_Then),PC,λk=>by cases k;show q_Never;show q_Empty;show q_AnySign,(7,q_Sign,tE bV,AO bV),(_,_,λk=>by cases k;show q_Outside;show q_Turned;show q_Again,mO a2,AO a2),(_,_,λk=>by cases k;show q_Either;show q_Less;show q_Both;show q_Then,tF b0,Fc b0),(QLj,QG0,mS,bS,oA PC mS bS (Hs bf bg au b2 as a3 bi a4 b3 b4 b1)));let RK:pB l.BT w K mg d2 d3:=(T0 X G rn2,T0 X G rn3,li rl2 re2 t8 rs2,li rl3 re3 zu rs3);let mT:∀k,aR K (QAu k) "text" U:=Hs mt_Never mt_Empty mt_AnySign mt_Sign mt_Outside mt_Turned mt_Again mt_Either mt_Less mt_Both mt_Then;revert mM mT PK;generalize QAu=c;intro mM PK mT;let I:=λ{CX:CXT}=>@JZ CX l.BT w K mg ς h X G;obtain⟨ts,az⟩:∃ts:γ ZX,ts=[(P0,Rt,),(P1,dl,),(P2,K7,),(P3,K8,),(P4,K9,),(P5,H.sitesH,),(P6,A.sitesA,),(P7,Tu.AC,)]:=QAy;let nd:(ts.QY Y0.fst).Rq:=by rw[az];show eq
 let i0:(P0,Rt,)∈ts:=by rw[az];simp
 let i1:(P1,dl,)∈ts:=by rw[az];simp
 let i2:(P2,K7,)∈ts:=by rw[az];simp
 let i3:(P3,K8,)∈ts:=by rw[az];simp
 let i4:(P4,K9,)∈ts:=by rw[az];simp
 let i5:(P5,H.sitesH,)∈ts:=by rw[az];simp
 let i6:(P6,A.sitesA,)∈ts:=by rw[az];simp
 let i7:(P7,Tu.AC,)∈ts:=by rw[az];simp
 let ep:∀p∈ts,∃c,(c,p.1,)∈[QSF,QSG,QSH,QSI,QSJ,QSK,QSL,QSM]:=by
  rw[az];intro p hp;simp only[QW,Si,T8]at hp;rcases hp with ε|rfl|rfl|rfl|rfl|rfl|rfl|rfl
  .exact (bP,!1)
  .exact (bM,!1)
  .exact (bt,!1)
  .exact (bs,!1)
  .exact (bo,!1)
  .exact (bm,!1)
  .exact (bl,!1)
  .exact (bk,!1)
 let ez:UR ς bP P0:=hC QSF (!1);let ey:UR ς bM P1:=hC QSG (!1);let ex:UR ς bt P2:=hC QSH (!1);let ew:UR ς bs P3:=hC QSI (!1);let ev:UR ς bo P4:=hC QSJ (!1);let eu:UR ς bm P5:=hC QSK (!1);let et:UR ς bl P6:=hC QSL (!1);let es:UR ς bk P7:=hC QSM (!1);let c7:Df l.BT w K mg ς "walked_machine" 6 ["machine"] QIN:=(fM,_,T0 X G aM,Bp lM,AA (DO (st:=EX) lM cM (Bp lM)),tI lM cM lV cV QQ9 QHc lD WT QJM QJN ez hB);let f0:Df l.BT w K mg ς "walked_turned" 6 ["machine"] (Tu.BI cW P7 Tu.AC):=(fU,_,T0 X G aU,Bp lU,AA (DO (st:=Tu.kb) lU cU (Bp lU)),Tu.EY lU cU lV cV QQ9 QHc lD WT QJM QJN (Rm X G a5) (Rm X G a7) (Rm X G O) es hB DR);let fx:=I l0 λ_ _ _ F=>(AA F,kn F T );let cK:=I l1 λ_ _ _ F=>(AA F,iZ F T );let da:=I l2 λ_ _ _ F=>(Fc F,iY F T fx cK);let dd:=I l3 λ_ _ _ F=>(AA F,PM F T cK);let fc:=I l4 λ_ _ _ F=>(O1 F,PN F T );let c8:=I l5 λ_ _ _ F=>(AO F,qu F T WK dd);let e4:=I l6 λ_ _ _ F=>(Fc F,km F T WK fc);let cd:=I l7 λ_ _ _ F=>(AA F,wX F T WK na3 TM da cK c8 dd e4);let dc:=I l8 λ_ _ _ F=>(AO F,PP F T );let cg:=I l9 λ_ _ _ F=>(AA F,tP F T WK c7 da c8);let g7:=I l10 λ_ _ _ F=>(AO F,N1 F T );let g8:=I l11 λ_ _ _ F=>(AA F,gL F T );let ha:=I l12 λ_ _ _ F=>(AO F,N2 F T );let g5:=I l13 λ_ _ _ F=>(Fc F,N3 F T );let f4:=I l14 λ_ _ _ F=>(AA F,mQ F T nd i0 c7 cd);let fn:=I l15 λ_ _ _ F=>(AA F,qp F T nd i0 i7 cd f0 cg);let ft:=I l16 λ_ _ _ F=>(Fc F,PQ F T nd i0 cg);let f3:=I l17 λ_ _ _ F=>(AO F,PR F T ft);let cD:Bi l.BT w K mg ς "paired" 6 ["machine","second","is_wanted"] (Ki l.BT w K mg E ts):=(fA,_,T0 X G aA,Bp lA,Fc (DO (st:=DC) lA cA (Bp lA)),qq nd i1 lA cA lV cV QQ9 QHc lD WT QJM QJN (Rm X G bT) ey hB dc cd);let e8:Bi l.BT w K mg ς "either" 7 ["machine","second"] (ca E ts Ig):=(fB,_,T0 X G aB,Bp lB,AO (DO (st:=Ff) lB cB (Bp lB)),qv nd i2 lB cB ex hB cD);let fT:Bi l.BT w K mg ς "both" 7 ["machine","second"] (ca E ts rA):=(fC,_,T0 X G aC,Bp lC,AO (DO (st:=Fh) lC cC (Bp lC)),wZ nd i3 lC cC ew hB cD);let fe:Bi l.BT w K mg ς "less" 7 ["machine","second"] (ca E ts c6):=(fS,_,T0 X G aS,Bp lS,AO (DO (st:=Fi) lS cS (Bp lS)),wY nd i4 lS cS ev hB cD);let f5:Bi l.BT w K mg ς "then" 8 ["machine","second"] (ca E ts js):=(fH,_,T0 X G aH,Bp lH,AO (DO (st:=H.x_) lH cH (Bp lH)),H.FZ nd i0 i5 lH cH lV cV QQ9 QHc lD WT QJM QJN eu hB DL DH DT dc cg cd);let e7:Bi l.BT w K mg ς "again" 8 ["machine"] (ml E ts λ_=>aI):=(fN,_,T0 X G aN,Bp lN,AA (DO (st:=A.u_) lN cN (Bp lN)),A.EZ nd i0 i6 lN cN lV cV QQ9 QHc lD WT QJM QJN et hB DL DH DT cg cd);let f2:=I l18 λ_ _ _ F=>(AO F,qr F T f4 fn e7 e8 fe fT f5);let fP:=I l19 λ_ _ m F=>(AO F,fW F T TM f3 f2 m (AO F));let fk:=I l20 λ_ _ _ F=>(AA F,fY F T );let fy:=I l21 λ_ _ _ F=>(AA F,PV F T fk);let⟨g4,dt,_,ch⟩:=l22;let⟨g3,gx,_,dT⟩:=l23;let TX:=rS (ς:=ς) ch dT T RK (T0 X G dt) (AA ch) (T0 X G gx) (AO dT);let TK:yt l.BT w K mg ς c:=(U,eA,mT,AA dv,λn=>by let⟨fs,g0,mS,bS,SH⟩:=PK.sh;show tG dv PK.pc mS bS SH n (7,T0 X G dt,ch.kp,AA ch,(TX n).1));let f1:=I l24 λ_ _ _ F=>(AO F,P8 F T );let e0:=I l25 λ_ _ _ F=>(AA F,P_ F T );let fp:=I l26 λ_ _ _ F=>(AO F,i8 F T );let eT:=I l27 λ_ _ _ F=>(Fc F,P' F T );let fw:=I l28 λ_ _ _ F=>(AO F,f8 F T eT);let gc:=I l29 λ_ _ m F=>(AA F,ja F T PK  m (AA F));let f6:=I l30 λ_ _ _ F=>(AO F,jb F T );let fm:=I l31 λ_ _ _ F=>(AO F,dP F T );let e5:=I l32 λ_ _ _ F=>(AA F,Qa F T );let⟨g2,gt,_,dS⟩:=l33;let de:=I l34 λ_ _ m F=>(AO F,f7 F T dS (T0 X G gt) (AO dS) f6 fm e5 m (AO F) 12);let fr:=I l35 λ_ _ _ F=>(AO F,ko F T de);let cO:=I l36 λ_ _ m F=>(AO F,i9 F T  m (AO F));let fv:=I l37 λ_ _ _ F=>(AO F,Qd F T );let e6:=I l38 λ_ _ _ F=>(AO F,Qe F T );let fO:=I l39 λ_ _ m F=>(AA F,f9 F T  m (AA F));let ga:=I l40 λ_ _ _ F=>(AA F,Qg F T );let e9:=I l41 λ_ _ _ F=>(Fc F,Qh F T de);let e1:=I l42 λ_ _ _ F=>(Fc F,Qi F T cO fv);let MK:yz l.BT w K mg ς c E ts:=(fZ,eC,mM,AO dx,kj dx PK fy fP);let fg:=I l43 λ_ _ _ F=>(AO F,gb F T TM MK PK );let ff:=I l44 λ_ _ _ F=>(O0 F,Qj F T TM fO cO e1 fr);show HG gz T ep PK TK e0 f1 fw fp gc fg e6 ga e9 ff cO
end K36
example:="2l{}W8%mj9#-pVSl0oq3~k983n>{M'|nvpgEY,D&FWNAQO#p_<vVEvO8>zHCN.4}^a*i==kE(ql;7J?$T9QMnL}Qn0vDxB'%>mP$E.>eN1V3=IC/VnEjUJj#d<'F3jzUIG<GDb|d,kR1#Yl@<g@tS>ZdNI*Zm`}FB9qDE;cx-Ll2'Yd^z4CP%.n<vxWvjFnqzAn5@wuApQ2d&6$l&H'H%kZQ=(XROg6NLWi;O88mju^C9:57630QO<y`|68uU2}iHvb,m+_K-s%J?DYh58LBhet3nVqwBMTkEH=CEafp7(CJDdM~v0,E/Itlp'hfB(U1Hk3lH*=YR>9FY(DjViuGWKCaPd7jJ+*XQ~'{CYV11^sxyj#-w(Q/vG<x2#u8H0L5YW~%@2*P2{kSd#~HgS'PeG4^f'4>w,^|KM>/M+Xf|XYzc>CgY{JAgyx17CU'K,QcHAuca7*mILb.HltIj???wOV_p.z/K~0:;IE77Id$nKEw,S(whRL5jwX9L1ZSz1YJ*fGs`A/ES,fkb:bD+@'8/wiTq-5,^Hz~{?+ueM/Xfc0+shGI=?~CdrSFuC/7P3t1y*5RqDM1_z8I+<_GdZzCKEC,4<DHx$:fKG`Qc;a5(5kF@Oy6mEVQn3Mq>OANw>XL;me29=fvO?4QrT{/#7k9-k3A},*V_/bCY.3twk/4u:<9Ul`VP;]M&s-KU)jDZv.JbW>l^<Fqct{T'|Z&@4t=%w6gU2/K@%~M$H:.l=^^@TS]bAfZ$.?(/*nM3o%,UaRDv%vi]7{Vnp~=Nefs(LPkS$PRW@i}$L*;/(wu*v2V/*+2YV@F#qw%q~AMhCrpU-b4~Jvkt})AW{:'CK~aY6=Z?'-CPyE?ALTj?G}eW8c4S&)=RFt5<P3&9@9k0)%~i,kfn-9@Gta%16$|r=FLzwL'F4l6SFCdxnvX@I&2/)m@IdJ;Emq`t55ZJJm_^,TJdFA?M^n>.lI6f?K3dja^,w/A8;c*SNo3T9qAl0&@ImQI%QjLjcj&7L$LXx,;qhW>Np1u-ZY@**0^5$ME462>0n>*MF5ph2Nyp3@FB@i2O(~jDD&s9)Cf~6M&U3^E{aGm`mvcgMKrNN~1HjKA3Li>kG(g'5aZA:n@iAfII_Kj;b25'N4;5c-urb4,wW-8cs]Jw%yWG%%mRV.<vznC4ys~b9,k8Gf2S{<A^HYthDQ+)Lfj`s+ZMr0<GS/xNZiR%OmLPeG~j]FO:b'z?#xqc'%-fMP6j:A4XbqxK?.bRG'66Sl*4q97`DsP*<c~0,.~`04g+#ALOK;b?Fcj/Mt.BRYL_W';Pf&4i*H|?09Tl2;91}t4{yFB'@=&%=q#G|,FHG$?;@:{?)xn~9/-Q4>yNdG8A:F-4my8D60N1#2HivS#Aq'`e%D@T,b<7~'dPs)Q@z{)0-@R]9e-tT'V(bQ+6>m)>l5.+Bit0c{Cqz~5E+Ox.b(]_@&DC;*IhO482I.k7tJ.FJ5m?b'b&^jF=b)L(6*ng50z|%8x95xCa,4+X<gMK::D9UNIR_H+dTrw*ba;xHs+l&w-v.'+eadIMY+7%.+8cDf@xyL#1*9ikR3c$Da.)WE2Ft;'&<.6*e%E_7=zW(_~W&fL70nzjtKJMChynV.Au^A%}MDiKrAwP7NvVU,z:)P3v1~a_rOqw8rt]8=9V^5)6@'pc{';]5FD+}+u(UA1#`9l@br?;#>Hj9DaMk|8JR.q@uN5~%D|R;Z=dgv(dcS;pz%k36e=J4,*+Tf@Cn7.>/]v'5e^gT^3~X4HOV/&hzH&&I9_Xv(9HW,+C-m5WIV%k3w:I:xELBCJf`,&R1A>HFAgVb|oreE1Qj'wBIY8h0B0<PaY`UZ:F=(<EM/tuAIUx~v_Ju}2XCZxQ=;xh1CZ_I{]0*{04v]xuQ@G(%;ziA)@r;{'nSk8v_sR=F+.+%eX6_V0/'*7Bs7-(090%j=@?YJ9QBz<gjp:t;Qk?dy6rErM7T18|ijM85c]zcM$wZ')U9PU%'JV*M>)4JX,kH,?9S0$V3$ZxM&VsDgmkY3);_o/cb^j1B(TC4@T,VvP&Gc6K/b/22{4FHz^qwW<3|H{R'Kr23%6/FM)nw53__nl+1?xH12Jfyy{Wgx*u)j]oQP6TRYLiCP%K@GFFz^2*L$?o-80NB-;mvXBzqzk{bv&a<L1VN#vU(,$>,@k8@_II)a=vj@AIME=#Zi?&?p`FR)iIrpxJ_S8Rwe%t9.7VCp;0}GG8PQFxX.tc;%V+)qAHqX(Y1c%S(^h.Q+rR'W]4,70&UsO^qtmCO*0Z/Is2`//Fl];p7~'_F@j,:ZH0:~h1KbBL:oVoOfAJ?Po<hMX~4{Fw^ux<KQY|-tkc]wK9cW5Q=gqIOInl-OmC0R*RQS,q${5Tin#3,rK<yJ_ND%*kapy'U0oLMQ{xeY^?d]Go/H&Gy5KQCGl`y7p:G2Coj-9f+,rTB|^W$$%pu,Aq'-QV=(hJ+'zgy{v=$SQO<ivm=mg8EZjd2.hv0;*eyAay&7e:?8bp'2s9%~>'Gk,hw}'2,6`JR2EK()JP+vnyEbZ,PuHYhg80H27UxatGz$`7,y4TIt{{9t;vNf2*T63;*09{UG~=5{Kg}QqU=5Bg<|t*vwWK6BP_1hMaA=MKD7FNSC&R/tEsb`BnM01|3qN-y8w.Ki8_jJ_@GQ]$%|1u93NKK}K(z=xYYPLZ'&B?LGqf'x@y9zR.8Shx%]PR7@CX`vM&B$#@tUj-0prdFPlvbsN),Y4Qte6I8G01u%u5F,OQ:))t:*8`B|:6dYxFw+)AQu=/HN=02q;>>&w5F=)(eoiCkXK',sXluBOZ`3Ng9yPc_&Kq#F*o:/})cVQro|<$3.nr(^]$>9h>H,'h|dbWlwaWCL]4TY,cP/=0HDUzW3y_:o4/jm#p*w.iX0:Nfh=-B?v$kC7`W<3=-}I$B3A:O/76X$2xPRJH{&o;r%Vw1f'Zp{DGpi)M;$X2:SmE@wAI4&v(p6K)$,o;)p~`@xVpQ2:#4F;-~x2%=uU^:+-1PVgZ>W=Nw_Ch|uqoQ(IgHgG&>cKP(v|~6VrxN*M(>Vtihv.'XO8AOB6F.+/7VvyA/kMuh4~3rP29,K2;iDllMC;Aq5r`M9uhN:w#6@`vR}$?Zaue9sV8$*#u.Bz+;QQ?XiKoXserH=p#q|Z**6?28npt~:bY?I,i/1n)=+/qTr^7X%R&LA_(-'LDM)&^.t7x$R=4Af+e.1FCk->Ay}nvsplH(`$,`'.ls#).)PvRo2A,OLFi4:HD&LL.gDLML-??HBNAS#ZoyR880oij+O;*Oej.8*o$}EKwA&:POqKZEAyqIv3qRt=Si6oc#>?/#koaL{nU@`;{=?CrxaZg9DB#>r>w9k5:aL;A1+4H#99u7.~4H3%=]fIyi8yA%B~T|1N{iV,<*qR&CD@q+Dzs+-*Bfu*p=G10?s0G:IYc{4]^.HF94x{G6<nG?}:XA~nrc)4jzP7xUh^l$1bs8t7NIO&$;wh.2@/102#%@J5rD6J;#Kha1aDp;_|7u@?vz_F_4XAo7PVw<RnwRs6nw.7e5VL543^,(ShC>Z/Q4H)ES|ct+`.C)%ET-ZMclNC&G#Y9BCp~4BHJ7zK2ckEEY89Vxd<&.|#?uCq,j.6>($q5]V{a@@2nJ]{dvH;$xJ:6(nR?4UFI?Oka=u9si{p{t`qo$kj*sx>pb~JUImfGdeXS)g{)gW5pw{@'`QQFs$4+?)?i/cBw^><5eicT>ox5=$NF5]]tZB(`#J76b|dq.KIMpHL09T*#gTuT%Wa`5Vv+FQoy+*77f(:x]az0*Md')R9?LmNdl3I5l46XNKv:a&Im@PH8a)AiKky{*/'.Fqi7BFJw3t.(?%fAJNP~D+4tC{BLE|cag=.J7pXJ;e}>y~3g:o~:UZVq-:Lfh^A.p|,u=`L=Q^ybOUq6inVVpuMAw;eLSD&k*w#^845Jy<<dmo*MbF&JAY{QIPS-#{5]1kCyus*%NCK?l-.y/R&a}yOpa]9V@3Xudn9/1E=F}s`J<+o)6IMqj$i6IV#/Xxx5wLzQ#EVWH50V|wMRS}`f|HP1EQNVy6r)JUD&BB~m%PR*D.8:WQZHHJ;-Ag9FEoYn*SsE=ssQtj(lt3AtqmI<+nn|T+A-,k7=`+wCWw8EAnK6BY.lr>H"
end
open PySem PySem.W PyProof.Rows
set_option maxRecDepth 100000 in
set_option maxHeartbeats 0 in
theorem PySem.Challenge.cw_roomalgebra_k36_a_patterns_machine_holds : PySem.Challenge.rw_roomalgebra_k36_a_patterns_machine.Holds := by
 w_on;o_law;z_head;(case hw=>w_witness2)
 k_fill
 intro w sa sb mg mb G ye fa ob pm cd dc dv kv e1 e2 e3 e4 e5 e6 gs vs bs La c1 c2 c3 c4 c5
 z_open ye La KX ZH ZN ZT
 clear ye La ZH ZN ZT
 refine L2.FL (k:=27) (x:="_law_script") (l:=PySem.Challenge.rw_roomalgebra_k36_a_patterns_machine) (tabs:=[(158,154),(234,230),(187,183),(194,190),(201,197),(213,209),(220,216),(180,178)]) rfl rfl ⟨rfl,by decide,by decide⟩ ?T ?F w sa sb mg mb G KX fa ob pm cd dc dv kv e1 e2 e3 e4 e5 e6 gs vs bs c1 c2 c3 c4 c5
 case T=>
  intro p q hq
  simp only [mem_cons,not_mem_nil,or_false] at hq
  rcases hq with rfl|rfl|rfl|rfl|rfl|rfl|rfl|rfl
  all_goals exact ⟨⟨_,_,_,_,_,_,_,_,_,by k_is,rfl,rfl,rfl,rfl,rfl,rfl,rfl,rfl,by decide⟩,by kernel_rfl⟩
 case F=>
  intro w mg fa h KX G hmg
  refine' K36.HH rfl (by decide) KX G hmg ?nA_ ?nH_ ?n_Pattern ?n_Never ?n_Empty ?n_AnySign ?n_Sign ?n_Outside ?n_Turned ?n_Again ?n_Either ?n_Less ?n_Both ?n_Then ?y_Never ?y_Empty ?y_AnySign ?y_Sign ?y_Outside ?y_Turned ?y_Again ?y_Either ?y_Less ?y_Both ?y_Then ?yi_Sign ?yi_Around ?yi_Pair ?yM ?yT ?mt_Never ?mt_Empty ?mt_AnySign ?mt_Sign ?mt_Outside ?mt_Turned ?mt_Again ?mt_Either ?mt_Less ?mt_Both ?mt_Then ?b_Never ?b_Empty ?b_AnySign ?b_Sign ?b_Outside ?b_Turned ?b_Again ?b_Either ?b_Less ?b_Both ?b_Then ?q_Never ?q_Empty ?q_AnySign ?q_Sign ?q_Outside ?q_Turned ?q_Again ?q_Either ?q_Less ?q_Both ?q_Then ?s_Never ?s_Empty ?s_AnySign ?s_Sign ?s_Outside ?s_Turned ?s_Again ?s_Either ?s_Less ?s_Both ?s_Then ?si_Sign ?si_Around ?si_Pair ?sM ?sT ?rn2 ?rl2 ?re2 ?rs2 ?rn3 ?rl3 ?re3 ?rs3 ?eH_ ?mH_ ?iHH_ ?vH_ ?nW ?hI0 ?cls ?mk ?na1 ?na2 ?na3 ?na4 ?na5 ?lI ?cI ?hX0 ?xo ?xc ?xn1 ?xn2 ?xn3 ?xb ?xf ?xe ?lX ?cX ?aV ?lV ?cV ?lD ?tM ?tA ?tB ?tC ?tS ?tH ?tN ?tU ?l0 ?l1 ?l2 ?l3 ?l4 ?l5 ?l6 ?l7 ?l8 ?l9 ?l10 ?l11 ?l12 ?l13 ?l14 ?l15 ?l16 ?l17 ?l18 ?l19 ?l20 ?l21 ?l22 ?l23 ?l24 ?l25 ?l26 ?l27 ?l28 ?l29 ?l30 ?l31 ?l32 ?l33 ?l34 ?l35 ?l36 ?l37 ?l38 ?l39 ?l40 ?l41 ?l42 ?l43 ?l44 ?t45 ?zb ?z_most
  (case nA_|nH_|n_Pattern|n_Never|n_Empty|n_AnySign|n_Sign|n_Outside|n_Turned|n_Again|n_Either|n_Less|n_Both|n_Then|rn2|rn3|nW|aV|z_most=>exact L2.Cb (by k_is) (by decide))
  (case y_Never|y_Empty|y_AnySign|y_Sign|y_Outside|y_Turned|y_Again|y_Either|y_Less|y_Both|y_Then|yi_Sign|yi_Around|yi_Pair|yM|yT|hI0|hX0=>k_is)
  (case mt_Never|mt_Empty|mt_AnySign|mt_Sign|mt_Outside|mt_Turned|mt_Again|mt_Either|mt_Less|mt_Both|mt_Then|xc|xb=>exact ⟨by kernel_rfl,by kernel_rfl,by kernel_rfl⟩)
  (case b_Never|b_Empty|b_AnySign|b_Sign|b_Outside|b_Turned|b_Again|b_Either|b_Less|b_Both|b_Then=>exact ⟨⟨⟨by kernel_rfl,by kernel_rfl,by kernel_rfl,by kernel_rfl⟩,by kernel_rfl,by kernel_rfl,by kernel_rfl,by kernel_rfl,by kernel_rfl,by unfold L2.Ae;kernel_rfl,by unfold L2.Ae;kernel_rfl,by unfold L2.Ae;kernel_rfl,by unfold L2.Ae;kernel_rfl⟩,⟨by kernel_rfl,by kernel_rfl,by kernel_rfl⟩,⟨by kernel_rfl,by kernel_rfl,by kernel_rfl⟩⟩)
  (case q_Never|q_Empty|q_AnySign|q_Sign|q_Outside|q_Turned|q_Again|q_Either|q_Less|q_Both|q_Then|cls|mk=>exact ⟨by kernel_rfl,by kernel_rfl,by kernel_rfl,by kernel_rfl⟩)
  (case s_Never|s_Empty|s_AnySign|s_Sign|s_Outside|s_Turned|s_Again|s_Either|s_Less|s_Both|s_Then|si_Sign|si_Around|si_Pair|sM|sT=>exact L2.Hu (L2.JH (by k_is) (by decide)) (L2.KC (by k_is) (by decide)))
  (case rl2|rl3|lI|lX|lV|lD=>exact L2.JH (by k_is) (by decide))
  (case re2|re3=>((repeat (refine RA.D4 rfl (congrArg Sum.inr (by decide +kernel)) rfl (by first|exact RA.O8 (by decide +kernel)|exact ⟨_,rfl⟩) ?_));exact RA.ET))
  (case rs2|rs3=>decide)
  (case eH_=>exact ⟨by kernel_rfl,by kernel_rfl,by kernel_rfl,by kernel_rfl,by kernel_rfl,by kernel_rfl,by kernel_rfl,by kernel_rfl⟩)
  (case mH_|iHH_|vH_|xf|xe=>kernel_rfl)
  (case na1|na2|na3|na4|na5|xn1|xn2|xn3=>unfold L2.Ae;kernel_rfl)
  (case cI|cX|cV=>exact L2.KC (by k_is) (by decide))
  (case xo=>exact ⟨_,_,_,_,_,_,_,_,_,_,_,_,_,_,_,_,L2.JH (by k_is) (by decide),by kernel_rfl,by kernel_rfl,by kernel_rfl⟩)
  (case tM|tA|tB|tC|tS|tH|tN|tU|t45=>exact ⟨_,_,_,_,_,_,_,_,_,L2.Cb (by k_is) (by decide),L2.JH (by k_is) (by decide),L2.KC (by k_is) (by decide)⟩)
  (case l0|l1|l2|l3|l4|l5|l6|l7|l8|l9|l10|l11|l12|l13|l14|l15|l16|l17|l18|l19|l20|l21|l22|l23|l24|l25|l26|l27|l28|l29|l30|l31|l32|l33|l34|l35|l36|l37|l38|l39|l40|l41|l42|l43|l44=>exact ⟨_,L2.Cb (by k_is) (by decide),L2.JY (L2.JH (by k_is) (by decide)) (L2.KC (by k_is) (by decide))⟩)
  (case zb=>exact ⟨L2.Cb (by k_is) (by decide),L2.Cb (by k_is) (by decide),L2.Cb (by k_is) (by decide),L2.Cb (by k_is) (by decide),L2.Cb (by k_is) (by decide),L2.Cb (by k_is) (by decide),L2.Cb (by k_is) (by decide),L2.Cb (by k_is) (by decide),L2.Cb (by k_is) (by decide),L2.Cb (by k_is) (by decide),L2.Cb (by k_is) (by decide),L2.Cb (by k_is) (by decide),L2.Cb (by k_is) (by decide),L2.Cb (by k_is) (by decide),L2.Cb (by k_is) (by decide),L2.Cb (by k_is) (by decide),trivial⟩)
#print axioms PySem.Challenge.cw_roomalgebra_k36_a_patterns_machine_holds
